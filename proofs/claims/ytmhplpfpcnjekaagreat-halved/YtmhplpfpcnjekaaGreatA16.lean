/- Sums over all bl -/
import Derived.Test.YtmhplpfpcnjekaaGreatA15
namespace Go.Fxa
open Conc Proofs RowKit Proofs.Tryz
set_option maxRecDepth 1000000
set_option maxHeartbeats 0
variable {a n N b i g pid h:Nat}{ps:Nat->d_ PR}{r:PR}{x:Nat×Nat}{l:List Nat}{gn:Nat->Bool}{w w':o_}
def IX (f:Nat->Nat):Nat->Nat
 |0=>0
 |n+1=>f n+IX f n
theorem Uh {f g:Nat->Nat}:∀{n:Nat},(∀i,i<n->f i=g i)->IX f n=IX g n
 |0,_=>rfl
 |n+1,h=>by simp only[IX];rw[h n wB,Uh λi hi=>h i wB]
theorem NM (f g:Nat->Nat):∀n:Nat,IX (λi=>f i+g i) n=IX f n+IX g n
 |0=>rfl
 |n+1=>by simp only[IX];rw[NM f g n];omega
theorem Nc:∀n:Nat,IX (λ_=>0) n=0
 |0=>rfl
 |n+1=>by simp only[IX];rw[Nc n]
theorem YU:∀n:Nat,IX (λ_=>1) n=n
 |0=>rfl
 |n+1=>by simp only[IX];rw[YU n];omega
theorem eY (a n:Nat):∀N:Nat,IX (λi=>O6 i a n) N=min N (a+n)-min N a
 |0=>by simp[IX]
 |N+1=>by
  simp only[IX]
  rw[eY a n N]
  unfold O6
  split<;>omega
theorem QT (h:a+n<=N):IX (λi=>O6 i a n) N=n:=by rw[eY];omega
theorem YV {N:Nat}:∀{l:List (W_)},Sound N l->IX (λi=>Ed i l) N=Ic l
 |[],_=>by simp only[Ed,Ic];exact Nc N
 |r::l,h=>by
  simp only[Ed,Ic]
  rw[NM (λi=>O6 i r.1 r.2) (λi=>Ed i l),QT (h r sJ).2,YV λx a=>h x (by simp[a])]
theorem V7 (f:Nat->Nat->Nat)(N:Nat):∀L:List Nat,IX (λi=>BP (f i) L) N=BP (λb=>IX (λi=>f i b) N) L
 |[]=>by simp only[BP];exact Nc N
 |b::L=>by
  simp only[BP]
  rw[NM (λi=>f i b) (λi=>BP (f i) L),V7 f N L]
def inC (ps:Nat->d_ PR)(b:Nat):Nat:=match ps b with|some r=>if r.co=-1 then 0 else Aj r.Af.length|none=>0
def onS (ps:Nat->d_ PR)(b:Nat):Nat:=match ps b with|some r=>Aj r.Af.length|none=>0
theorem au1 (h:ps b=some r):inC ps b=if r.co=-1 then 0 else Aj r.Af.length:=by unfold inC;rw[h]
def Gf (i:Nat)(ps:Nat->d_ PR)(b:Nat):Nat:=match ps b with|some r=>if r.co=-1 then 0 else O6 i r.co.toNat (Aj r.Af.length)|none=>0
def Nw (i:Nat)(ps:Nat->d_ PR)(b:Nat):Nat:=match ps b with|some r=>O6 i r.sw (Aj r.Af.length)|none=>0
theorem an5 (h:∀r,ps b=some r->r.co=-1\/∃a:Nat,r.co=a/\a+Aj r.Af.length<=N):IX (λi=>Gf i ps b) N=inC ps b:=by
 unfold Gf inC;cases hb:ps b with
 |none=>simp only;exact Nc N
 |some r=>
  simp only
  obtain e|⟨a,e,c⟩:=h r hb
  .simp only[e,if_true];exact Nc N
  .simp only[e,Int.toNat_natCast];rw[ru wB];have:∀i:Nat,(if(a:Int)=-1 then 0 else O6 i a (Aj r.Af.length))=O6 i a (Aj r.Af.length):=λi=>ru wB
   simp only[this];exact QT c
theorem an4 (h:∀r,ps b=some r->r.sw+Aj r.Af.length<=N):IX (λi=>Nw i ps b) N=onS ps b:=by
 unfold Nw onS;cases hb:ps b with
 |none=>simp only;exact Nc N
 |some r=>simp only;exact QT (h r hb)
theorem pK {K:KS}(f:Sound N K.core)(d:∀b r,K.ps b=some r->r.co=-1\/∃a:Nat,r.co=a/\a+Aj r.Af.length<=N)(c:a+n<=N)
  (h:∀i,i<N->Ed i K.core+BP (Gf i K.ps) K.Ar+O6 i a n=1):Ic K.core+BP (inC K.ps) K.Ar+n=N:=by
 have e:=Uh (n:=N) h;rw[YU,NM (λi=>Ed i K.core+BP (Gf i K.ps) K.Ar) (λi=>O6 i a n),NM (λi=>Ed i K.core) (λi=>BP (Gf i K.ps) K.Ar),YV f,QT c,V7 (λi b=>Gf i K.ps b)]at e;rw[BU (g:=inC K.ps) λb _=>an5 (d b)]at e;exact e
theorem pJ {K:KS}(f:Sound N K.swap)(d:∀b r,K.ps b=some r->r.sw+Aj r.Af.length<=N)(c:a+n<=N)
  (h:∀i,i<N->Ed i K.swap+BP (Nw i K.ps) K.Ar+O6 i a n=1):Ic K.swap+BP (onS K.ps) K.Ar+n=N:=by
 have e:=Uh (n:=N) h;rw[YU,NM (λi=>Ed i K.swap+BP (Nw i K.ps) K.Ar) (λi=>O6 i a n),NM (λi=>Ed i K.swap) (λi=>BP (Nw i K.ps) K.Ar),YV f,QT c,V7 (λi b=>Nw i K.ps b)]at e;rw[BU (g:=onS K.ps) λb _=>an4 (d b)]at e;exact e
theorem nV (h:ps b=some r):onS ps b=Aj r.Af.length:=by unfold onS;rw[h]
theorem Es (h:ps b=some r):Gf i ps b=if r.co=-1 then 0 else O6 i r.co.toNat (Aj r.Af.length):=by unfold Gf;rw[h]
theorem Jh (h:ps b=some r):Nw i ps b=O6 i r.sw (Aj r.Af.length):=by unfold Nw;rw[h]
theorem TV (i a:Nat):O6 i a 0=0:=ru wB
theorem uT (c:a<=i)(d:i<a+n):O6 i a n=1:=rW ⟨c,d⟩
structure Cb (N:Nat)(x:W_)(K:KS):Prop where
 le:16<=N/\N<=1000
 so:Sound N K.core
 srt:ay K.core
 xl:x.1+x.2<=N
 cnt:∀i,i<N->Ed i K.core+BP (Gf i K.ps) K.Ar+O6 i x.1 x.2=1
 pl:∀b r,K.ps b=some r->r.Af.length<=128/\(r.co=-1\/∃a:Nat,r.co=a/\a+Aj r.Af.length<=N/\1<=Aj r.Af.length)
theorem Cb.sum {K:KS}(h:Cb N x K):Ic K.core+BP (inC K.ps) K.Ar+x.2=N:=pK h.so (λb r hb=>(h.pl b r hb).2.imp id λ⟨a,c,d,_⟩=>⟨a,c,d⟩) h.xl h.cnt
theorem Cb.fit {K:KS}(h:Cb N x K):Fit N K.core:=h.so.fit (by have:=h.sum;omega)
theorem Cb.same {K K':KS}(h:Cb N x K)(c:K'.core=K.core)(e:∀i,BP (Gf i K'.ps) K'.Ar=BP (Gf i K.ps) K.Ar)(d:∀b r,K'.ps b=some r->r.Af.length<=128/\(r.co=-1\/∃a:Nat,r.co=a/\a+Aj r.Af.length<=N/\1<=Aj r.Af.length)):Cb N x K':=
 ⟨h.le,by rw[c];exact h.so,by rw[c];exact h.srt,h.xl,λi hi=>by rw[c,e];exact h.cnt i hi,d⟩
structure BZ (K K':KS):Prop where
 eq:K'={K with core:=K'.core,cg:=K'.cg,cc:=K'.cc,T:=K'.T,ps:=K'.ps}
 ps:∃f:Nat->Int,∀b,K'.ps b=(K.ps b).map λr=>{r with co:=f b}
theorem BZ.refl (K:KS):BZ K K:=⟨rfl,λb=>match K.ps b with|some r=>r.co|none=>0,λb=>by cases h:K.ps b<;>simp[h]⟩
theorem BZ.trans {K K' K'':KS}(h:BZ K K')(c:BZ K' K''):BZ K K'':=by
 obtain⟨e1,f,a⟩:=h;obtain⟨e2,g,p2⟩:=c;refine⟨?_,g,λb=>?_⟩
 .rw[e2,e1]
 .rw[p2,a];cases K.ps b<;>rfl
theorem BZ.take {K:KS}{l:List (W_)}:BZ K {K with core:=l}:=⟨rfl,(BZ.refl K).ps⟩
theorem BZ.Ar {K K':KS}(h:BZ K K'):K'.Ar=K.Ar:=by rw[h.eq]
theorem BZ.kb {K K':KS}(h:BZ K K'):K'.kb=K.kb:=by rw[h.eq]
theorem BZ.there {K K':KS}(h:BZ K K')(hT:K.ED):K'.ED:=by
 intro b hb;rw[h.Ar]at hb;obtain⟨r,c⟩:=hT b hb;obtain⟨f,a⟩:=h.ps;exact⟨_,by rw[a,c];rfl⟩
theorem BZ.set {K:KS}(hb:K.ps b=some r)(c:Int):BZ K (K.Bj b {r with co:=c}):=by
 refine⟨rfl,λk=>if k=b then c else match K.ps k with|some r=>r.co|none=>0,λk=>?_⟩;show CY K.ps b _ k=_;by_cases e:k=b
 .subst e;rw[Ag,hb];simp
 .rw[BB e];cases h:K.ps k<;>simp[e,h]
theorem Cb.out {c:Nat}{K:KS}(h:Cb N x K)(hb:K.ps b=some r)(B:b∈K.Ar)(hN:K.Ar.Nodup)(A:r.co=a):a+Aj r.Af.length<=N/\K.core.length+1<=N/\Cb N x ((K.Hm (CE K.core a (Aj r.Af.length)) g c).Bj b {r with co:=-1}):=by
 obtain⟨v,p2⟩:=h.pl b r hb;obtain⟨l,e1,e2,e3⟩:=p2.resolve_left (by rw[A];omega);obtain rfl:a=l:=wB
 have hi:inC K.ps b=Aj r.Af.length:=by rw[au1 hb,ru (by rw[A];omega)]
 have u:=Oo (f:=inC K.ps) B;have z:=h.sum;have w:=h.so.len;have m:=Rj h.so e3 e2;have j:∀i,Gf i K.ps b=O6 i a (Aj r.Af.length):=λi=>by rw[Es hb,ru (by rw[A];omega),A];rfl
 refine⟨e2,wB,h.le,m.1,YX e3 h.so h.srt λy o p=>?_,h.xl,λi hi=>?_,λk q d=>?_⟩
 .have s:=h.cnt y wB;have t:=Oo (f:=Gf y K.ps) B;rw[j,uT o p]at t;omega
 .show Ed i (CE K.core a (Aj r.Af.length))+BP (Gf i (CY K.ps b _)) K.Ar+_=1;have:=JG (f:=Gf i (CY K.ps b {r with co:=-1})) (g:=Gf i K.ps) hN B λk d=>by unfold Gf;rw[BB d]
  have n:Gf i (CY K.ps b {r with co:=-1}) b=0:=by rw[Es Ag];simp
  have s:=h.cnt i hi;rw[Wx e3];rw[j,n]at this;omega
 .have d:CY K.ps b _ k=some q:=d;by_cases e:k=b
  .subst e;rw[Ag]at d;cases d;exact⟨v,.inl rfl⟩
  .rw[BB e]at d;exact h.pl k q d
theorem Cb.in {K:KS}(h:Cb N (a,n) K)(hb:K.ps b=some r)(o:b∈K.Ar)(hN:K.Ar.Nodup)(m:r.co=-1)(p:n=Aj r.Af.length)(s:1<=n)(t:a+n<=N):Cb N (0,0) (K.Bj b {r with co:=a}):=by
 refine⟨h.le,h.so,h.srt,Nat.zero_le _,λi hi=>?_,λk q c=>?_⟩
 .show Ed i K.core+BP (Gf i (CY K.ps b _)) K.Ar+O6 i 0 0=1;have:=JG (f:=Gf i (CY K.ps b {r with co:=a})) (g:=Gf i K.ps) hN o λk c=>by unfold Gf;rw[BB c]
  have l:Gf i K.ps b=0:=by rw[Es hb,rW m]
  have j:Gf i (CY K.ps b {r with co:=a}) b=O6 i a n:=by rw[Es Ag,p];exact ru sJ
  have d:=h.cnt i hi;simp only at d;rw[TV];omega
 .have c:CY K.ps b _ k=some q:=c;by_cases e:k=b
  .subst e;rw[Ag]at c;cases c;exact⟨(h.pl _ _ hb).1,.inr ⟨a,rfl,by simp only;omega,by simp only;omega⟩⟩
  .rw[BB e]at c;exact h.pl k q c
theorem Cb.take {K:KS}(h:Cb N (0,0) K):((Aq K.core n).1=none->Cb N (0,0) {K with core:=(Aq K.core n).2})/\∀a,(Aq K.core n).1=some a->Cb N (a,n) {K with core:=(Aq K.core n).2}/\a+n<=N/\1<=n:=by
 obtain⟨f,g,j⟩:=Jk (n:=n) h.so;refine⟨λe=>?_,λa e=>?_⟩
 .rw[g e];exact h
 .obtain⟨l,b,d⟩:=j a e;refine⟨⟨h.le,f,YW h.srt,b,λi hi=>?_,h.pl⟩,b,d⟩;show Ed i (Aq K.core n).2+BP (Gf i K.ps) K.Ar+O6 i a n=1;have k:=RQ e i;have c:=h.cnt i hi;rw[TV]at c;omega
theorem Cb.room {K:KS}(h:Cb N (0,0) K)(j:∀b∈K.Ar,∀r,K.ps b=some r->r.co=-1)(k:1<=n)(f:n<=N):(Aq K.core n).1≠none:=by
 have e:=ba8 (N:=N) wB h.so h.srt λi hi=>by
  have a:=h.cnt i hi
  have d:BP (Gf i K.ps) K.Ar=0:=by
   rw[BU (g:=λ_=>0) λb hb=>?_]
   .generalize K.Ar=l
    induction l with
    |nil=>rfl
    |cons b l c=>simp only[BP,c]
   .unfold Gf;cases hb':K.ps b with
    |none=>rfl
    |some r=>simp only;rw[rW (j b hb r hb')]
  rw[TV]at a;omega
 rw[e];unfold Aq;rw[ru wB];simp[List.findIdx?_cons,f]
theorem Zv {l:List (W_)}(h:(Aq l n).1=none):(Aq l n).2=l:=by
 unfold Aq at h ⊢;split
 .rfl
 .rename_i a;rw[ru a]at h;split
  .rfl
  .rename_i i hi;rw[hi]at h;simp only at h;split
   .rfl
   .rename_i r b;rw[b]at h;cases h
def XG (b:Nat)(K K':KS):Prop:=∃r,K.ps b=some r/\((r.co=-1/\K'=K)\/∃a g c:Nat,r.co=a/\K'=(K.Hm (CE K.core a (Aj r.Af.length)) g c).Bj b {r with co:=-1})
section
variable (m:Nat)(w:o_)
theorem RP (K:KS)(b N:Nat)(x:W_)(r:PR)(h:AY K w)(hb:K.ps b=some r)(p:b∈K.Ar)(hN:K.Ar.Nodup)(hC:Cb N x K):
  O_ m 52 #[Q_ K.kb,Q_ b] w λe w'=>e=.returned (.tuple #[])/\∃K',AY K' w'/\BZ K K'/\Cb N x K'/\BQ K.T K'.T w w'/\K'.ps b=some {r with co:=-1}/\(∀k q,K.ps k=some q->q.co=-1->K'.ps k=some q)/\XG b K K':=by
 obtain⟨o,p2⟩:=hC.pl b r hb;by_cases d:r.co=-1
 .refine(wI m w K b r h hb d).mono ?_;rintro e w' ⟨rfl,j⟩;exact⟨rfl,K,h.no j,BZ.refl K,hC,BQ.no j h.lt,by rw[hb,<-d],λ_ _ h _=>h,r,hb,.inl ⟨d,rfl⟩⟩
 .obtain⟨a,e1,e2,e3⟩:=p2.resolve_left d;have n:=hC.le.2;have i:=λg c=>hC.out (g:=g) (c:=c) hb p hN e1
  refine(pI m w K b a N r h hb e1 hC.fit wB (i 0 0).1 (i 0 0).2.1 wB).mono ?_;rintro e w' ⟨rfl,g,c,l,M⟩;refine⟨rfl,_,l,?_,(i g c).2.2,M,Ag,λk q f hq=>?_,r,hb,.inr ⟨a,g,c,e1,rfl⟩⟩
  .exact BZ.trans (K':=K.Hm (CE K.core a (Aj r.Af.length)) g c) ⟨rfl,(BZ.refl K).ps⟩ (BZ.set (K:=K.Hm (CE K.core a (Aj r.Af.length)) g c) hb (-1))
  .have:k≠b:=(by rintro rfl;rw[hb]at f;cases f;exact d hq);exact(BB this).trans f
end
structure Nz (K K':KS):Prop where
 eq:K'={K with ps:=K'.ps}
 ps:∃f:Nat->Nat,∀b,K'.ps b=(K.ps b).map λr=>{r with par:=f b}
theorem Nz.refl (K:KS):Nz K K:=⟨rfl,λb=>match K.ps b with|some r=>r.par|none=>0,λb=>by cases h:K.ps b<;>simp[h]⟩
theorem Nz.trans {K K' K'':KS}(h:Nz K K')(c:Nz K' K''):Nz K K'':=by
 obtain⟨e1,f,a⟩:=h;obtain⟨e2,g,p2⟩:=c;refine⟨?_,g,λb=>?_⟩
 .rw[e2,e1]
 .rw[p2,a];cases K.ps b<;>rfl
theorem Nz.set {K:KS}(hb:K.ps b=some r)(c:Nat):Nz K (K.Bj b {r with par:=c}):=by
 refine⟨rfl,λk=>if k=b then c else match K.ps k with|some r=>r.par|none=>0,λk=>?_⟩;show CY K.ps b _ k=_;by_cases e:k=b
 .subst e;rw[Ag,hb];simp
 .rw[BB e];cases h:K.ps k<;>simp[e,h]
theorem Nz.get {K K':KS}(h:Nz K K')(hb:K.ps b=some r):∃c,K'.ps b=some {r with par:=c}:=by
 obtain⟨f,a⟩:=h.ps;exact⟨f b,by rw[a,hb];rfl⟩
theorem Nz.there {K K':KS}(h:Nz K K')(hT:K.ED):K'.ED:=by
 intro b hb;rw[h.eq]at hb;obtain⟨r,d⟩:=hT b hb;obtain⟨c,a⟩:=h.get d;exact⟨_,a⟩
section
variable (m:Nat)(w:o_)
def UE (ps:Nat->d_ PR)(l:List Nat)(pid h:Nat):Nat->d_ PR:=λb=>if b∈l then(ps b).map λr=>if r.par=pid then {r with par:=h} else r else ps b
def tq (K:KS)(h:Nat):Prop:=(h=1/\∃b r,b∈K.Ar/\K.ps b=some r/\r.pid=1/\r.en=false)\/(h=0/\((∀b∈K.Ar,∀r,K.ps b=some r->r.pid≠1)\/∃b r,b∈K.Ar/\K.ps b=some r/\r.pid=1/\r.en=true))
def bt7 (pid:Nat)(K K':KS):Prop:=∃h,tq K h/\K'={K with ps:=UE K.ps K.Ar pid h}
theorem au8:UE ps [] pid h=ps:=by funext b;unfold UE;simp
theorem bj7 (hb:ps b=some r)(d:r.par≠pid)(c:b ∉ l):UE ps (l++[b]) pid h=UE ps l pid h:=by
 funext k;unfold UE;by_cases e:k=b
 .subst e;rw[rW sJ,ru c,hb];simp[d]
 .by_cases a:k∈l
  .rw[rW (by simp[a]),rW a]
  .rw[ru (by simp[a,e]),ru a]
theorem au7 (hb:ps b=some r)(c:r.par=pid):UE ps (l++[b]) pid h=CY (UE ps l pid h) b {r with par:=h}:=by
 funext k;by_cases e:k=b
 .subst e;rw[Ag];unfold UE;rw[rW sJ,hb];simp[c]
 .rw[BB e];unfold UE;by_cases a:k∈l
  .rw[rW (by simp[a]),rW a]
  .rw[ru (by simp[a,e]),ru a]
theorem oz (c:b ∉ l):UE ps l pid h b=ps b:=ru c
theorem YT {k:Nat}(hN:l.Nodup)(h:l[k]?=some b):b ∉ l.take k:=λf=>by
 obtain⟨i,hi,e⟩:=List.mem_iff_getElem.1 f;rw[List.getElem_take]at e;have d:k<l.length:=by
  obtain a|a:=Nat.lt_or_ge k l.length
  .exact a
  .rw[List.getElem?_eq_none a]at h;cases h
 rw[List.getElem?_eq_getElem d]at h;have c:i<k:=by simp at hi;omega
 exact qx ((List.getElem_inj hN).1 (e.trans (x_ h).symm)) wB
def ai8 (K:KS)(pid h k:Nat)(w wr:o_):Prop:=∃K1,AY K1 wr/\Nz K K1/\BQ K.T K1.T w wr/\(∀b r,K1.ps b=some r->K.ps b=some r\/r.par<=1)/\Yp (K1.ps=UE K.ps (K.Ar.take k) pid h)
theorem fZ {K K1:KS}{w W:o_}(d k:Nat)(z:k<K.Ar.length)(o:AY K1 W)(f:K1.ps b=some r)(u:Nz K K1)(v:BQ K.T K1.T w W)(y:∀b r,K1.ps b=some r->K.ps b=some r\/r.par<=1)(p:d<=1)(hX:Yp (K1.ps=UE K.ps (K.Ar.take k) pid d))(t:K.Ar[k]?=some b)(hN:K.Ar.Nodup)(s:r.par=pid):
  ∃j:Nat,Value.int .i64 ((k:Int)+1)=b_ j/\j<=K.Ar.length/\ai8 K pid d j w (W.setCell (S_ b 1) (b_ d)):=by
 refine⟨k+1,sJ,wB,K1.Bj b {r with par:=d},o.GR (r':={r with par:=d}) f ⟨rfl,rfl,rfl,rfl,rfl⟩ rfl (o.ps b r f).bl,u.trans (Nz.set f d),v.trans (o.EG f),λx q a=>?_,?_⟩
 rotate_left
 .show CY K1.ps b _=_;have c:K.ps b=some r:=by rw[<-f,hX.out,oz (YT hN t)]
  rw[List.take_add_one,t,hX.out];exact(au7 c s).symm
 have a:CY K1.ps b {r with par:=d} x=some q:=a;by_cases e:x=b
 .subst e;rw[Ag]at a;cases a;exact .inr p
 .rw[BB e]at a;exact y x q a
theorem xR (K:KS)(h:AY K w)(hT:K.ED)(j:K.Ar.length<=100):O_ m 54 #[Q_ K.kb,b_ 1] w λe w'=>((∃b r,e=.returned (Q_ b)/\K.ps b=some r/\w'.cell? (S_ b 2)=some (.bool r.en)/\Yp (b∈K.Ar/\r.pid=1))\/(e=.returned (.pointer none)/\Yp (∀b∈K.Ar,∀r,K.ps b=some r->r.pid≠1)))/\Aa No w w':=by
 refine(TQ m w K 1 h hT j).mono ?_;rintro e w' ⟨a,v,rfl,⟨b,r,rfl,d,hb,f⟩|⟨rfl,c⟩⟩
 .have q:=(h.no a).Iu hb 2;simp[PR.arr]at q;exact⟨.inl ⟨b,r,rfl,hb,q,d,wB⟩,a⟩
 .exact⟨.inr ⟨rfl,λb hb r g e=>c b hb r g wB⟩,a⟩
theorem ϵ (K:KS)(pb:Nat)(p:PR)(h:AY K w)(hT:K.ED)(O:K.ps pb=some p)(M:K.Ar.length<=100)(hN:K.Ar.Nodup):
  O_ m 157 #[Q_ K.kb,Q_ pb] w λe w'=>e=.returned (.tuple #[])/\∃h,Yp (tq K h)/\ai8 K p.pid h K.Ar.length w w':=by
 have c:=λm=>xR m w K h hT M
 have F:=h.kc2;gi_enter func157,ntmps157;gi_wp2_with (gi_at_call 54;refine(c _).mono ?_;rintro e w1 ⟨⟨D,B,rfl,C,d1,a⟩|⟨rfl,s⟩,g⟩<;>have F:=g.has F<;>try (cases hn:B.en<;>rw[hn]at d1))
 all_goals
  first|(have hH:∃d,Yp (tq K d)/\Yp (d=1):=⟨1,.inl ⟨rfl,D,B,a.out.1,C,a.out.2,hn⟩,rfl⟩;clear a)|(have hH:∃d,Yp (tq K d)/\Yp (d=0):=⟨0,.inr ⟨rfl,.inr ⟨D,B,a.out.1,C,a.out.2,hn⟩⟩,rfl⟩;clear a)|(have hH:∃d,Yp (tq K d)/\Yp (d=0):=⟨0,.inr ⟨rfl,.inl s.out⟩,rfl⟩;clear s)
  obtain⟨d,hH,G⟩:=hH
  gi_loopw [24] (λi wr=>∃(k:Nat),i=b_ k/\k<=K.Ar.length/\ai8 K p.pid d k w wr) (λi _=>K.Ar.length-(intOf i).toNat)
  case atStart=>exact⟨0,rfl,wB,K,h.no g,Nz.refl K,BQ.no g h.lt,λ_ _ h=>.inl h,au8.symm⟩
  case round=>
   obtain⟨k,rfl,J,l,o,f,u,v,hX⟩:=hrel
   have H:l.Ar=K.Ar:=by rw[f.eq]
   have y:l.pg=K.pg:=by rw[f.eq]
   by_cases x:k<K.Ar.length
   .have j:K.Ar[k]?=some K.Ar[k]:=JM x;generalize K.Ar[k]=b at j;have q:l.Ar[k]?=some b:=(by rw[H];exact j);obtain⟨r,n⟩:=AY.mem (f.there hT) q;obtain⟨L,z⟩:=f.get O;have E:=o.mf q;rw[y]at E;have d1:=o.Iu n 1;have d2:=o.Iu z 0;simp only[ptr]at E;simp[PR.arr]at d1 d2;gi_wp2;refine Cc 8 42 ?_;gi_wp2;refine Ee ?_ ?_
    .intro W g;have e1:=g.has (w:=wr.drew) d1;have e2:=g.has (w:=wr.drew) d2
     repeat' (refine AA ?_ ?_)
     all_goals first|exact dE|gi_wp2
    .intro W g;have KW:Aa No wr W:=(Aa.refl No wr).drew.then g;have e1:=KW.has d1;have t:=o.no KW;have I:=t.lF n 1;by_cases hq:(r.par:Int)=p.pid
     .have A:((r.par:Int)==(p.pid:Int))=true:=(by simpa using hq);gi_wp2;go_roundw
      case rel=>
       obtain rfl:=G.out
       first|exact fZ 1 k x t n f (u.then KW) v wB hX j hN wB|exact fZ 0 k x t n f (u.then KW) v wB hX j hN wB
      case measure=>simp[intOf];omega
     .have A:((r.par:Int)==(p.pid:Int))=false:=(by simpa using hq);gi_wp2;go_roundw
      case rel=>exact⟨k+1,by go_num,wB,l,t,f,u.then KW,v,by show l.ps=_;rw[List.take_add_one,j,hX.out];exact(bj7 (r:=r) (by rw[<-n,hX.out,oz (YT hN j)]) wB (YT hN j)).symm⟩
      case measure=>simp[intOf];omega
   .obtain rfl:k=K.Ar.length:=wB;gi_wp2;go_end0;exact⟨sJ,d,hH,l,o,f,u,v,hX⟩
end
theorem bp3:Oj prog 100 119 (.pointer none) 1 8:=⟨underlying100,sU,by rfl,sN,by intro x a;simp[Value.cells]at a;subst a;rfl⟩
theorem mJ:Oj prog 103 101 (.pointer none) 1 8:=⟨underlying103,sU,by rfl,sN,by intro x a;simp[Value.cells]at a;subst a;rfl⟩
def mO (gn:Nat->Bool)(g:Nat)(w:o_)(b:Nat):Prop:=b≠g/\∃(p:Nat) (e:Bool),w.cell? (S_ b 1)=some (b_ p)/\w.cell? (S_ b 2)=some (.bool e)/\gn b=(e && p==0)
theorem mO.keep (h:mO gn g w b)(j:Aa (At g) w w'):mO gn g w' b:=by
 obtain⟨a,h⟩:=h;refine⟨a,?_⟩;obtain⟨p,e,c,d,f⟩:=h;exact⟨p,e,(j.cell (l9 _ _ c) a).trans c,(j.cell (l9 _ _ d) a).trans d,f⟩
def mP (gn:Nat->Bool)(g:Nat)(w:o_)(b:Nat):Prop:=b≠g/\∃n:Int,w.cell? (S_ b 1)=some (b_ n)/\gn b=(n==0)
theorem mP.keep (h:mP gn g w b)(e:Aa (At g) w w'):mP gn g w' b:=by
 obtain⟨a,h⟩:=h;refine⟨a,?_⟩;obtain⟨n,c,d⟩:=h;exact⟨n,(e.cell (l9 _ _ c) a).trans c,d⟩
def ay3:Bool->(Nat->Bool)->Nat->o_->Nat->Prop
 |false=>mO
 |true=>mP
abbrev Rw.ty {e:j_}{s:Nat}{w:o_}{g n cap:Nat}{xs:U_}(_:Rw e s w g n cap xs):j_:=e
section
variable (m:Nat)(w:o_)
theorem at7 (x:Bool)(g cap:Nat)(l:List Nat)(gn:Nat->Bool)(hR:Rw (sx x 119 101) 1 w g l.length cap (Ce l))(z:∀b∈l,ay3 x gn g w b)(A:l.length<=100000):
  O_ m (sx x 238 248) #[P_ g l.length cap,.func (.func (sx x 213 246)) #[] #[]] w λe w'=>Aa No w w'/\((e=.returned (b_ (-1))/\∀b∈l,gn b=false)\/∃k b,e=.returned (b_ (k:Nat))/\l[k]?=some b/\gn b=true/\∀(j:Nat) b,j<k->l[j]?=some b->gn b=false):=by
 cases x<;>dsimp only[aF,aC,ay3]at*;gi_enter func238,ntmps238
 rotate_left
 gi_enter func248,ntmps248
 all_goals
  gi_wp2
  gi_loopw [8] (λi wr=>∃k:Nat,k<=l.length/\i=b_ k/\Aa No w wr/\∀(j:Nat) b,j<k->l[j]?=some b->gn b=false) (λi _=>l.length-(intOf i).toNat)
  case atStart=>exact⟨0,wB,rfl,Aa.refl _ _,λj b h=>qx h wB⟩
  case round=>
   obtain⟨k,y,rfl,KK,o⟩:=hrel
   by_cases s:k<l.length
   .have c:l[k]?=some l[k]:=JM s;generalize l[k]=b at c;have u:wr.cell? (S_ g k)=some (Q_ b):=(by rw[Rw.cell (hR.keep KK id) wB];simp[Ce,c,ptr]);obtain⟨_,r⟩:=(z b (t_ c)).keep KK.no
    first
    | (obtain⟨p,e,d1,d2,a⟩:=r
       obtain⟨f,d⟩|⟨f,d⟩|f:(e=true/\((p:Int)==0)=true)\/(e=true/\((p:Int)==0)=false)\/e=false:=by cases e<;>simp[Decidable.em]
       all_goals
        subst f
        simp only[Bool.true_and,Bool.false_and]at a
        try (have t:(p==0)=((p:Int)==0):=by(rw[Bool.eq_iff_iff];simp))
        try rw[t,d]at a)
    | (obtain⟨n,d1,a⟩:=r
       obtain d|d:(n==0)=true\/(n==0)=false:=by cases n==0<;>simp
       all_goals rw[d]at a)
    .gi_wp2_with gi_in;go_ret;exact⟨KK,.inr ⟨k,b,sJ,c,a,o⟩⟩
    all_goals
     gi_wp2_with gi_in
     go_roundw
     case rel=>
      refine⟨k+1,wB,by go_num,KK,λj q v hq=>?_⟩
      by_cases e:j=k
      .subst e;rw[c]at hq;cases hq;exact a
      .exact o j q wB hq
     case measure=>simp[intOf];omega
   .obtain rfl:k=l.length:=wB;gi_wp2;go_ret;refine⟨KK,.inl ⟨sJ,λb hb=>?_⟩⟩;obtain⟨i,hi⟩:=List.getElem?_of_mem hb;exact o i b (Oc.1 hi).1 hi
theorem gu (x:Bool)(g cap:Nat)(l:List Nat)(gn:Nat->Bool)(hR:Rw (sx x 119 101) 1 w g l.length cap (Ce l))(hc:∀b∈l,ay3 x gn g w b)(hl:l.length<=100000):
  O_ m (sx x 212 245) #[P_ g l.length cap,.func (.func (sx x 213 246)) #[] #[]] w λe w'=>e=.returned (P_ g (l.filter λb=>!gn b).length cap)/\Aa (At g) w w'/\Rw (sx x 119 101) 1 w' g (l.filter λb=>!gn b).length cap (Ce (l.filter λb=>!gn b)):=by
 have E:Oj prog (sx x 100 103) (sx x 119 101) (.pointer none) 1 8:=by cases x;exact bp3;exact mJ
 have c:=λm=>at7 m w x g cap l gn hR hc hl
 cases x<;>dsimp only[aF,aC,ay3]at*;gi_enter func212,ntmps212
 rotate_left
 gi_enter func245,ntmps245
 all_goals
  gi_wp2_with ((first|gi_at_call 238|gi_at_call 248);refine(c _).mono ?_;rintro e w1 ⟨y,⟨rfl,Y⟩|⟨u,b0,rfl,o,F,r⟩⟩<;>try (have f0:((u:Int)==-1)=false:=sJ;have W:=(Oc.1 o).1))
  .go_ret;have e:l.filter (λb=>!gn b)=l:=List.filter_eq_self.2 λb hb=>by simp[Y b hb]
   rw[e];exact⟨sJ,y.no,hR.keep y id⟩
  .gi_loopw [5,6] (λR C wr=>∃(i j:Nat) (f:U_),R=b_ i/\C=b_ j/\i<j/\j<=l.length/\Aa (At g) w wr/\Rw hR.ty 1 wr g l.length cap f/\i=((l.take j).filter λb=>!gn b).length/\f.take i=Ce ((l.take j).filter λb=>!gn b)/\f.drop j=Ce (l.drop j)) (λ_ C _=>l.length-(intOf C).toNat)
   case atStart=>
    have e:(l.take (u+1)).filter (λb=>!gn b)=l.take u:=by
     rw[List.take_add_one,o,List.filter_append]
     simp only[Option.toList_some,List.filter_cons,F,Bool.not_true,List.filter_nil]
     simp only[jb,if_false,List.append_nil]
     refine List.filter_eq_self.2 λb hb=>?_
     obtain⟨j,A⟩:=List.getElem?_of_mem hb
     rw[List.getElem?_take]at A
     split at A
     .rename_i I;simp[r j b I A]
     .cases A
    refine⟨u,u+1,Ce l,rfl,by go_num,wB,wB,y.no,hR.keep y id,?_,?_,?_⟩
    .rw[e,eP];omega
    .rw[e];simp[Ce]
    .simp[Ce]
   case round=>
    obtain⟨i,j,f,rfl,rfl,U,V,KK,d,hi,t,L⟩:=hrel
    have h:Nonempty (PLift (i=((l.take j).filter λb=>!gn b).length)):=⟨⟨hi⟩⟩
    clear hi
    have X:=d.le
    have Z:=d.len
    by_cases O:j<l.length
    .have z:l[j]?=some l[j]:=JM O;generalize l[j]=b at z;have J:f[j]?=some (ptr b):=by
      have:(f.drop j)[0]?=some (ptr b):=by rw[L];simp[Ce,z]
      simpa using this
     have d0:wr.cell? (S_ g j)=some (Q_ b):=(by rw[d.cell wB,J];rfl);have B:l.take (j+1)=l.take j++[b]:=(by rw[List.take_add_one,z];rfl);have K:f.drop (j+1)=Ce (l.drop (j+1)):=by
      have:=congrArg (List.drop 1) L
      simpa [Ce,List.drop_drop]using this
     have fz:=d.fz i;have S:(i:Int)<(l.length:Int):=wB;have ci:∃v,wr.cell? (S_ g i)=some v:=by
      rw[d.cell wB]
      exact⟨_,JM wB⟩
     obtain⟨vi,ci⟩:=ci;obtain⟨_,M⟩:=(hc b (t_ z)).keep KK
     first
     | (obtain⟨p,e,d1,d2,a⟩:=M
        obtain⟨H,s⟩|⟨H,s⟩|H:(e=true/\((p:Int)==0)=true)\/(e=true/\((p:Int)==0)=false)\/e=false:=by cases e<;>simp[Decidable.em]
        all_goals
         subst H
         simp only[Bool.true_and,Bool.false_and]at a
         try (have hz:(p==0)=((p:Int)==0):=by(rw[Bool.eq_iff_iff];simp))
         try rw[hz,s]at a)
     | (obtain⟨n,d1,a⟩:=M
        obtain s|s:(n==0)=true\/(n==0)=false:=by cases n==0<;>simp
        all_goals rw[s]at a)
     .gi_wp2_with gi_in;go_roundw
      case rel=>
       refine⟨i,j+1,f,rfl,by go_num,wB,wB,KK,d,?_,?_,K⟩
       .obtain⟨⟨hi⟩⟩:=h;rw[B,List.filter_append];simp[a,<-hi]
       .rw[B,List.filter_append];simp[a,t]
      case measure=>simp[intOf];omega
     all_goals
      gi_wp2_with gi_in
      go_roundw
      case rel=>
       refine⟨i+1,j+1,f.set i (ptr b),by go_num,by go_num,wB,wB,KK.setCell _ λ_=>rfl,d.set _ rfl,?_,?_,?_⟩
       .obtain⟨⟨hi⟩⟩:=h;rw[B,List.filter_append];simp[a,<-hi]
       .rw[B,List.filter_append,List.take_add_one,List.take_set_of_le (Nat.le_refl i),t,List.getElem?_set_self wB];simp[a,Ce]
       .rw[List.drop_set_of_lt wB];exact K
      case measure=>simp[intOf];omega
    .obtain rfl:j=l.length:=wB;rw[List.take_length]at h t;obtain⟨⟨hi⟩⟩:=h;have k:Rw hR.ty 1 wr g i cap (Ce (l.filter λb=>!gn b)):=by
      obtain⟨D,a1,a2,Q⟩:=d.blk
      refine⟨⟨D,a1,a2,?_⟩,wB,d.max,by simp[Ce,<-hi],?_⟩
      .rw[<-t,<-Q,List.take_take];congr 1;omega
      .intro x N;rw[<-t]at N;exact d.one x (List.mem_of_mem_take N)
     have h:Nonempty (PLift (i=(l.filter λb=>!gn b).length)):=⟨⟨hi⟩⟩;clear hi;have f5:¬cap=i:=wB;obtain⟨w2,G,P,T⟩:=Zh (c:=cap-i) (q:=l.length-i) (ty:=0) E k wB;simp only[Nat.mul_one]at G;have S:¬(l.length:Int)<(i:Int):=wB;gi_wp2;go_ret;obtain⟨⟨hi⟩⟩:=h;rw[<-hi];exact⟨sJ,KK.then P,T⟩
end
def QH (ps:Nat->d_ PR)(b:Nat):Bool:=match ps b with|some r=>r.en && r.par==0|none=>false
def KS.PV (K:KS):KS:={K with Ar:=K.Ar.filter λb=>!QH K.ps b}
section
variable (m:Nat)(w:o_)
theorem Ω (K:KS)(h:AY K w)(hT:K.ED)(p:K.Ar.length<=100):
  O_ m 158 #[Q_ K.kb] w λe w'=>e=.returned (.tuple #[])/\AY K.PV w'/\BQ K.T K.T w w':=by
 obtain⟨n,j,hC⟩:=h.k;have o:=h.kc2;have i:∀b∈K.Ar,mO (QH K.ps) K.pg w b:=by
  intro b hb
  obtain⟨r,a⟩:=hT b hb
  refine⟨λe=>?_,r.par,r.en,?_,?_,?_⟩
  .have:=(h.ps b r a).t;rw[e,h.tp]at this;simp at this
  .rw[h.Iu a];simp[PR.arr]
  .rw[h.Iu a];simp[PR.arr]
  .unfold QH;rw[a]
 have c:=λm=>gu m w false K.pg K.pc K.Ar (QH K.ps) h.pr i wB
 have d:K.kb≠K.pg:=λe=>by have:=h.tk;rw[e,h.tp]at this;simp at this
 gi_enter func158,ntmps158;gi_wp2_with (gi_at_call 212;refine(c _).mono ?_;rintro e w1 ⟨rfl,f,g⟩;have k1:=f.old j d;have l:=Cf k1 2;have c2:=(Ai k1 2).trans hC.c2);go_end0;have M:CG K.T K.T (λt=>t=(1,0)\/t=(4,0)) (λt=>t=(4,0)) w (w1.setCell (S_ K.kb 2) (P_ K.pg (K.Ar.filter λb=>!QH K.ps b).length K.pc)):=CG.of ((f.on (by rintro k _ rfl;exact .inr h.tp)).setCell _ λ_=>.inl h.tk) h.lt;refine⟨sJ,h.Y0 (BG:=K.BG) M hC (Ap k1 _) ?_ (g.keep ((Aa.refl (At K.kb) _).setCell _ λ_=>rfl) d.symm) h.tp,M.Xu (by rintro t (rfl|rfl)<;>simp)⟩;rw[QW hC.c3]
end
end Go.Fxa
