/- A kernel of many -/
import Derived.Test.YtmhplpfpcnjekaaGreatA18
import Derived.Laws.EntriesVeiled
namespace Go.Fxa
open Conc Proofs RowKit Proofs.Tryz
set_option maxRecDepth 1000000
set_option maxHeartbeats 0
variable {i b N NC NS k st n g c size y p o IY IB CZ sCap:Nat}{x:Nat×Nat}{l:List Int}{w w' w0 w7 w8:o_}{S:Nat->Prop}{ad:f_}{e ty:j_}{v f a:n_}{H:Nat->Nat}{ws Af:List Nat}
def Jr (ps:Nat->d_ PR)(i b:Nat):Nat:=match ps b with|some r=>r.fds.count (i:Int)|none=>0
def BR (ps:Nat->d_ PR)(l:List Nat)(i:Nat):Nat:=BP (Jr ps i) l
theorem Ht {ps:Nat->d_ PR}{r:PR}(h:ps b=some r):Jr ps i b=r.fds.count (i:Int):=by unfold Jr;rw[h]
structure Iz (N:Nat)(x:W_)(K:KS):Prop where
 le:N<=1000
 so:Sound N K.swap
 srt:ay K.swap
 xl:x.1+x.2<=N
 cnt:∀i,i<N->Ed i K.swap+BP (Nw i K.ps) K.Ar+O6 i x.1 x.2=1
 pl:∀b r,K.ps b=some r->r.sw+Aj r.Af.length<=N
theorem Iz.sum {K:KS}(h:Iz N x K):Ic K.swap+BP (onS K.ps) K.Ar+x.2=N:=pJ h.so h.pl h.xl h.cnt
theorem Iz.fit {K:KS}(h:Iz N x K):Fit N K.swap:=h.so.fit (by have:=h.sum;omega)
theorem Iz.same {K K':KS}(h:Iz N x K)(d:K'.swap=K.swap)(m:∀i,BP (Nw i K'.ps) K'.Ar=BP (Nw i K.ps) K.Ar)(j:∀b r,K'.ps b=some r->r.sw+Aj r.Af.length<=N):Iz N x K':=
 ⟨h.le,by rw[d];exact h.so,by rw[d];exact h.srt,h.xl,λi hi=>by rw[d,m];exact h.cnt i hi,j⟩
structure PR.Ok (r:PR):Prop where
 A:r.A<65536
 B:r.B<65536
 P:r.P<65536
 st:r.st<65536
 pid:r.pid<=60000
 par:r.par<=60000
 Af:∀x∈r.Af,x<65536
 fds:r.en=false->r.fds.length=6
 fd:∀n∈r.fds,n=-1\/∃i:Nat,n=i/\i<20
 len:r.en=false->∃k,r.Af.length=8*k/\1<=k/\k<=16
 off:r.en=true->r.fds=[]/\r.Af=[]/\r.co=-1
def WR (ps:Nat->d_ PR)(b b':Nat):Prop:=∀r r',ps b=some r->ps b'=some r'->r.pid<r'.pid
structure DU (NC NS:Nat)(K:KS):Prop where
 th:K.ED
 nd:K.Ar.Nodup
 len:K.Ar.length<=12
 co:Cb NC (0,0) K
 sw:Iz NS (0,0) K
 pr:∀b r,K.ps b=some r->r.Ok
 pid:∀b r,K.ps b=some r->1<=r.pid/\r.pid<=K.BG
 asc:K.Ar.Pairwise (WR K.ps)
 BG:K.BG<=60000
 Ei:EP (BR K.ps K.Ar) K
theorem DU.one {K:KS}(h:DU NC NS K)(b:Nat)(r:PR)(j:Nat)(r':PR)(t:b∈K.Ar)(m:j∈K.Ar)(s:K.ps b=some r)(q:K.ps j=some r')(e:r.pid=r'.pid):b=j:=by
 have key:∀l:List Nat,l.Pairwise (WR K.ps)->b∈l->j∈l->b=j:=λl=>by
  induction l with
  |nil=>intro _ h;cases h
  |cons c l i=>
   intro g f a
   obtain⟨d,p2⟩:=List.pairwise_cons.1 g
   obtain e1|e1:=r_.1 f
   .obtain e2|e2:=r_.1 a
    .rw[e1,e2]
    .subst e1;have:=d _ e2 _ _ s q;omega
   .obtain e2|e2:=r_.1 a
    .subst e2;have:=d _ e1 _ _ q s;omega
    .exact i p2 e1 e2
 exact key K.Ar h.asc t m
theorem WR.imp {ps j:Nat->d_ PR}{l:List Nat}(h:l.Pairwise (WR ps))(m:∀b r',b∈l->j b=some r'->∃r,ps b=some r/\r'.pid=r.pid):l.Pairwise (WR j):=
 List.Pairwise.imp_of_mem (fun {a b} f hb c r r' d e=>by
  obtain⟨q,e1,e2⟩:=m a r f d
  obtain⟨g,e3,e4⟩:=m b r' hb e
  rw[e2,e4];exact c q g e1 e3) h
structure PR.Same (r r':PR):Prop where
 pid:r'.pid=r.pid
 st:r'.st=r.st
 en:r'.en=r.en
 A:r'.A=r.A
 B:r'.B=r.B
 P:r'.P=r.P
 Af:r'.Af=r.Af
 fds:r'.fds=r.fds
theorem PR.Same.refl (r:PR):r.Same r:=⟨rfl,rfl,rfl,rfl,rfl,rfl,rfl,rfl⟩
theorem PR.Same.trans {r r' j:PR}(h:r.Same r')(d:r'.Same j):r.Same j:=⟨d.pid.trans h.pid,d.st.trans h.st,d.en.trans h.en,d.A.trans h.A,d.B.trans h.B,d.P.trans h.P,d.Af.trans h.Af,d.fds.trans h.fds⟩
structure Rel (b:Nat)(K K':KS):Prop where
 keep:∀k r,k∈K.Ar->K.ps k=some r->k≠b->(k∈K'.Ar/\∃r',K'.ps k=some r'/\r.Same r')\/(k ∉ K'.Ar/\r.en=true)
 come:∀k,k∈K'.Ar->k∈K.Ar\/(K.ps k=none/\∀r,K'.ps k=some r->K.BG<r.pid)
 mono:∀k,K.ps k≠none->K'.ps k≠none
 me:∀r,K.ps b=some r->∃r',K'.ps b=some r'/\r'.pid=r.pid
 BG:K.BG<=K'.BG
 kb:K'.kb=K.kb
 th:K.ED->K'.ED
theorem Rel.refl (b:Nat)(K:KS):Rel b K K:=⟨λ_ r a c _=>.inl ⟨a,r,c,.refl r⟩,λ_ h=>.inl h,λ_ h=>h,λr h=>⟨r,h,rfl⟩,w_,rfl,id⟩
theorem Rel.trans {K K' K'':KS}(h:Rel b K K')(t:Rel b K' K'')(hb:K.ps b≠none)(hT:K.ED):Rel b K K'':=by
 refine⟨λk r g l q=>?_,λk j=>?_,λk j=>t.mono k (h.mono k j),λr m=>?_,lN h.BG t.BG,t.kb.trans h.kb,λhT=>t.th (h.th hT)⟩
 .obtain⟨a1,i,a2,p⟩|⟨a1,a2⟩:=h.keep k r g l q
  .obtain⟨f,n,a,o⟩|⟨f,a⟩:=t.keep k i a1 a2 q
   .exact .inl ⟨f,n,a,p.trans o⟩
   .exact .inr ⟨f,by rw[<-p.en];exact a⟩
  .refine .inr ⟨λj=>?_,a2⟩;obtain c|⟨c,_⟩:=t.come k j
   .exact a1 c
   .exact h.mono k (by rw[l];simp) c
 .obtain c|⟨s,c2⟩:=t.come k j
  .obtain d|⟨d1,d2⟩:=h.come k c
   .exact .inl d
   .refine .inr ⟨d1,λr m=>?_⟩;by_cases e:k=b
    .subst e;exact qx d1 hb
    .cases g:K'.ps k with
     |none=>obtain⟨i,l⟩:=h.th hT k c;rw[g]at l;cases l
     |some i=>
      obtain⟨_,n,a,o⟩|⟨f,_⟩:=t.keep k i c g e
      .rw[m]at a;cases a;rw[o.pid];exact d2 i g
      .exact qx j f
  .refine .inr ⟨?_,λr m=>Nat.lt_of_le_of_lt h.BG (c2 r m)⟩;cases g:K.ps k with
   |none=>rfl
   |some r=>exact qx s (h.mono k (by rw[g];simp))
 .obtain⟨i,a1,a2⟩:=h.me r m;obtain⟨n,f,a⟩:=t.me i a1;exact⟨n,f,a.trans a2⟩
structure Maps (K K':KS)(g:Nat->PR->PR):Prop where
 ps:∀b,K'.ps b=(K.ps b).map (g b)
 Ar:K'.Ar=K.Ar
 swap:K'.swap=K.swap
 desc:K'.desc=K.desc
 op:K'.op=K.op
 ef:K'.ef=K.ef
 nl:K'.nl=K.nl
 nm:K'.nm=K.nm
 BG:K'.BG=K.BG
 kb:K'.kb=K.kb
 pid:∀b r,(g b r).pid=r.pid
 en:∀b r,(g b r).en=r.en
 Af:∀b r,(g b r).Af=r.Af
 fds:∀b r,(g b r).fds=r.fds
 sw:∀b r,(g b r).sw=r.sw
theorem Maps.get {K K':KS}{g:Nat->PR->PR}(m:Maps K K' g){r:PR}(h:K.ps b=some r):K'.ps b=some (g b r):=by rw[m.ps,h];rfl
theorem Maps.back {K K':KS}{g:Nat->PR->PR}(m:Maps K K' g){r':PR}(h:K'.ps b=some r'):∃r,K.ps b=some r/\r'=g b r:=by
 rw[m.ps]at h;cases h1:K.ps b with
 |none=>rw[h1]at h;cases h
 |some r=>rw[h1]at h;exact⟨r,rfl,by simpa using h.symm⟩
theorem Maps.Ei {K K':KS}{g:Nat->PR->PR}(m:Maps K K' g)(h:EP (BR K.ps K.Ar) K):EP (BR K'.ps K'.Ar) K':=by
 have e:∀i,BR K'.ps K'.Ar i=BR K.ps K.Ar i:=λi=>by
  unfold BR
  rw[m.Ar]
  refine BU λb _=>?_
  unfold Jr
  rw[m.ps]
  cases K.ps b with
  |none=>rfl
  |some r=>simp[m.fds]
 exact⟨λi hi=>by rw[e,m.desc];exact h.ho i hi,λi hi=>by rw[e];exact h.le i hi,by rw[m.op,m.desc,m.ef];exact h.op,by rw[m.nl];exact h.nd,by rw[m.nl,m.op];exact h.nz,by rw[m.nm];exact h.nm,by rw[m.nm,m.nl];exact h.dj⟩
theorem Maps.bu3 {K K':KS}{g:Nat->PR->PR}(m:Maps K K' g)(h:Iz N x K):Iz N x K':=by
 refine h.same m.swap (λi=>?_) λb r hb=>?_
 .rw[m.Ar];refine BU λb _=>?_
  unfold Nw;rw[m.ps];cases K.ps b with
  |none=>rfl
  |some r=>simp[m.Af,m.sw]
 .obtain⟨r0,a,rfl⟩:=m.back hb;rw[m.sw,m.Af];exact h.pl b r0 a
theorem DU.maps {K K':KS}{g:Nat->PR->PR}(h:DU NC NS K)(m:Maps K K' g)(q:∀b r,K.ps b=some r->(g b r).Ok)(j:Cb NC (0,0) K'):DU NC NS K':=by
 refine⟨λb hb=>?_,by rw[m.Ar];exact h.nd,by rw[m.Ar];exact h.len,j,m.bu3 h.sw,λb r hb=>?_,λb r hb=>?_,?_,by rw[m.BG];exact h.BG,m.Ei h.Ei⟩
 .rw[m.Ar]at hb;obtain⟨r,d⟩:=h.th b hb;exact⟨_,m.get d⟩
 .obtain⟨r0,a,rfl⟩:=m.back hb;exact q b r0 a
 .obtain⟨r0,a,rfl⟩:=m.back hb;rw[m.pid,m.BG];exact h.pid b r0 a
 .rw[m.Ar];refine WR.imp h.asc λb e _ hb=>?_
  obtain⟨r0,c,rfl⟩:=m.back hb;exact⟨r0,c,m.pid b r0⟩
theorem Maps.rel {K K':KS}{g:Nat->PR->PR}(m:Maps K K' g)(b:Nat)(j:∀(k:Nat)(r:PR),k≠b->r.Same (g k r)):Rel b K K':=by
 refine⟨λk r d e f=>.inl ⟨by rw[m.Ar];exact d,_,m.get e,j k r f⟩,λk a=>.inl (by rw[m.Ar]at a;exact a),λk a=>?_,λr c=>⟨_,m.get c,m.pid b r⟩,by rw[m.BG];exact w_,m.kb,λhT k a=>?_⟩
 .cases h:K.ps k with
  |none=>exact qx h a
  |some r=>rw[m.get h];simp
 .rw[m.Ar]at a;obtain⟨r,c⟩:=hT k a;exact⟨_,m.get c⟩
theorem BZ.maps {K K':KS}(m:BZ K K'):∃f:Nat->Int,Maps K K' λb r=>{r with co:=f b}:=by
 obtain⟨f,a⟩:=m.ps;exact⟨f,a,by rw[m.eq],by rw[m.eq],by rw[m.eq],by rw[m.eq],by rw[m.eq],by rw[m.eq],by rw[m.eq],by rw[m.eq],by rw[m.eq],λ_ _=>rfl,λ_ _=>rfl,λ_ _=>rfl,λ_ _=>rfl,λ_ _=>rfl⟩
theorem DU.GZ {K K':KS}(h:DU NC NS K)(m:BZ K K')(d:Cb NC (0,0) K'):DU NC NS K':=by
 obtain⟨f,m⟩:=m.maps;refine h.maps m (λb r hb=>?_) d;have o:=h.pr b r hb;refine⟨o.A,o.B,o.P,o.st,o.pid,o.par,o.Af,o.fds,o.fd,o.len,λe=>⟨(o.off e).1,(o.off e).2.1,?_⟩⟩;obtain a|⟨_,_,_,a⟩:=(d.pl b _ (m.get hb)).2
 .exact a
 .have:=(o.off e).2.1;simp only[this,Aj]at a;simp at a
theorem BZ.rel {K K':KS}(m:BZ K K')(b:Nat):Rel b K K':=by
 obtain⟨f,m⟩:=m.maps;exact m.rel b λ_ _ _=>⟨rfl,rfl,rfl,rfl,rfl,rfl,rfl,rfl⟩
theorem BZ.get {K K':KS}(m:BZ K K'){r:PR}(h:K.ps b=some r):∃c,K'.ps b=some {r with co:=c}:=by
 obtain⟨f,m⟩:=m.maps;exact⟨_,m.get h⟩
theorem Nz.maps {K K':KS}(m:Nz K K'):∃f:Nat->Nat,Maps K K' λb r=>{r with par:=f b}:=by
 obtain⟨f,a⟩:=m.ps;exact⟨f,a,by rw[m.eq],by rw[m.eq],by rw[m.eq],by rw[m.eq],by rw[m.eq],by rw[m.eq],by rw[m.eq],by rw[m.eq],by rw[m.eq],λ_ _=>rfl,λ_ _=>rfl,λ_ _=>rfl,λ_ _=>rfl,λ_ _=>rfl⟩
theorem Maps.by5 {K K':KS}{g:Nat->PR->PR}(m:Maps K K' g)(j:K'.core=K.core)(d:∀b r,(g b r).co=r.co)(h:Cb N x K):Cb N x K':=by
 refine h.same j (λi=>?_) λb r hb=>?_
 .rw[m.Ar];refine BU λb _=>?_
  unfold Gf;rw[m.ps];cases K.ps b with
  |none=>rfl
  |some r=>simp[m.Af,d]
 .obtain⟨r0,a,rfl⟩:=m.back hb;rw[m.Af,d];exact h.pl b r0 a
theorem DU.ax9 {K K':KS}(h:DU NC NS K)(m:Nz K K')(d:∀b r,K'.ps b=some r->K.ps b=some r\/r.par<=1):DU NC NS K':=by
 have a:K'.core=K.core:=by rw[m.eq]
 obtain⟨f,m⟩:=m.maps;refine h.maps m (λb r hb=>?_) (m.by5 a (λ_ _=>rfl) h.co);have o:=h.pr b r hb;refine⟨o.A,o.B,o.P,o.st,o.pid,?_,o.Af,o.fds,o.fd,o.len,o.off⟩;obtain c|c:=d b _ (m.get hb)
 .exact(h.pr b _ c).par
 .exact lN c wB
theorem Nz.rel {K K':KS}(m:Nz K K')(b:Nat):Rel b K K':=by
 obtain⟨f,m⟩:=m.maps;exact m.rel b λ_ _ _=>⟨rfl,rfl,rfl,rfl,rfl,rfl,rfl,rfl⟩
theorem OG {f:Nat->Nat}{p:Nat->Bool}:∀{l:List Nat},(∀b∈l,p b=false->f b=0)->BP f (l.filter p)=BP f l
 |[],_=>rfl
 |b::l,h=>by
  have a:=OG (f:=f) (p:=p) (l:=l) λx c=>h x (by simp[c])
  cases hb:p b with
  |true=>rw[List.filter_cons_of_pos hb];simp only[BP,a]
  |false=>rw[List.filter_cons_of_neg (by simp[hb])];simp only[BP,a,h b sJ hb];omega
theorem oh {ps:Nat->d_ PR}(h:(!QH ps b)=false):∃r,ps b=some r/\r.en=true:=by
 unfold QH at h;cases hb:ps b with
 |none=>rw[hb]at h;simp at h
 |some r=>rw[hb]at h;simp at h;exact⟨r,rfl,h.1⟩
theorem DU.PV {K:KS}(h:DU NC NS K):DU NC NS K.PV:=by
 have c:∀b,b∈K.PV.Ar->b∈K.Ar:=λb hb=>(List.mem_filter.1 hb).1
 have e:∀b,(!QH K.ps b)=false->∃r,K.ps b=some r/\r.fds=[]/\r.Af=[]/\r.co=-1:=λb hb=>by
  obtain⟨r,a,d⟩:=oh hb
  exact⟨r,a,(h.pr b r a).off d⟩
 refine⟨λb hb=>h.th b (c b hb),h.nd.filter _,lN (List.length_filter_le _ _) h.len,h.co.same rfl (λi=>?_) h.co.pl,h.sw.same rfl (λi=>?_) h.sw.pl,h.pr,h.pid,h.asc.filter _,h.BG,?_⟩
 .show BP (Gf i K.ps) (K.Ar.filter λb=>!QH K.ps b)=_;exact OG λb _ hb=>by obtain⟨r,a,_,_,g⟩:=e b hb;rw[Es a,rW g]
 .show BP (Nw i K.ps) (K.Ar.filter λb=>!QH K.ps b)=_;exact OG λb _ hb=>by obtain⟨r,a,_,f,_⟩:=e b hb;rw[Jh a,f];exact TV _ _
 .refine EP.congr (K:=K.PV) (H:=BR K.ps K.Ar) ⟨h.Ei.ho,h.Ei.le,h.Ei.op,h.Ei.nd,h.Ei.nz,h.Ei.nm,h.Ei.dj⟩ λi _=>?_
  show BP (Jr K.ps i) (K.Ar.filter λb=>!QH K.ps b)=_;exact OG λb _ hb=>by obtain⟨r,a,d,_⟩:=e b hb;rw[Ht a,d];rfl
theorem nM (K:KS)(b:Nat):Rel b K K.PV:=by
 refine⟨λk r e c _=>?_,λk a=>.inl (List.mem_filter.1 a).1,λ_ h=>h,λr g=>⟨r,g,rfl⟩,w_,rfl,λhT k a=>hT k (List.mem_filter.1 a).1⟩;cases hg:QH K.ps k with
 |false=>exact .inl ⟨List.mem_filter.2 ⟨e,by simp[hg]⟩,r,c,.refl r⟩
 |true=>
  obtain⟨i,d,f⟩:=oh (ps:=K.ps) (b:=k) (by simp[hg])
  rw[c]at d;cases d
  exact .inr ⟨λa=>by have:=(List.mem_filter.1 a).2;simp[hg]at this,f⟩
def JV (b:Nat)(ps ps':Nat->d_ PR):Prop:=∀k,k≠b->∃c:Int,ps' k=(ps k).map λq=>{q with co:=c}
theorem JV.refl (b:Nat)(ps:Nat->d_ PR):JV b ps ps:=λk _=>match h:ps k with
 |none=>⟨0,sJ⟩
 |some q=>⟨q.co,sJ⟩
theorem JV.trans {p q r:Nat->d_ PR}(h:JV b p q)(j:JV b q r):JV b p r:=λk a=>by
 obtain⟨c,e⟩:=h k a;obtain⟨d,f⟩:=j k a;exact⟨d,by rw[f,e];cases p k<;>rfl⟩
theorem JV.set {ps:Nat->d_ PR}{r:PR}:JV b ps (CY ps b r):=λk a=>by rw[BB a];exact JV.refl b ps k a
theorem BZ.else {K K':KS}(m:BZ K K')(b:Nat):JV b K.ps K'.ps:=λk _=>by
 obtain⟨f,a⟩:=m.ps;exact⟨f k,a k⟩
theorem JV.back {p q:Nat->d_ PR}(h:JV b p q)(j:k≠b){r':PR}(d:q k=some r'):∃r c,p k=some r/\r'={r with co:=c}:=by
 obtain⟨c,a⟩:=h k j;rw[a]at d;cases h1:p k with
 |none=>rw[h1]at d;cases d
 |some r=>rw[h1]at d;exact⟨r,c,rfl,by simpa using d.symm⟩
theorem JV.get {p q:Nat->d_ PR}(h:JV b p q)(d:k≠b){r:PR}(j:p k=some r):∃c,q k=some {r with co:=c}:=by
 obtain⟨c,a⟩:=h k d;exact⟨c,by rw[a,j];rfl⟩
theorem DU.step {K K':KS}{r r':PR}(h:DU NC NS K)(u:K'.Ar=K.Ar)(C:K'.BG=K.BG)(z:K'.kb=K.kb)(s:JV b K.ps K'.ps)(hb:K.ps b=some r)(m:K'.ps b=some r')(E:r'.Ok)(D:r'.pid=r.pid)(t:Cb NC (0,0) K')(F:Iz NS (0,0) K')(G:EP (BR K'.ps K'.Ar) K'):DU NC NS K'/\Rel b K K':=by
 have f:∀k q,K'.ps k=some q->∃g,K.ps k=some g/\q.pid=g.pid:=λk q a=>by
  by_cases e:k=b
  .subst e;rw[m]at a;cases a;exact⟨r,hb,D⟩
  .obtain⟨g,c,d,rfl⟩:=s.back e a;exact⟨g,d,rfl⟩
 have j:K.ED->K'.ED:=λhT k a=>by
  rw[u]at a
  by_cases e:k=b
  .subst e;exact⟨_,m⟩
  .obtain⟨q,hq⟩:=hT k a;obtain⟨c,t⟩:=s.get e hq;exact⟨_,t⟩
 refine⟨⟨j h.th,by rw[u];exact h.nd,by rw[u];exact h.len,t,F,λk q a=>?_,λk q a=>?_,?_,by rw[C];exact h.BG,G⟩,⟨λk q d i l=>?_,λk a=>.inl (by rw[u]at a;exact a),λk a=>?_,λq hq=>?_,by rw[C];exact w_,z,j⟩⟩
 .by_cases e:k=b
  .subst e;rw[m]at a;cases a;exact E
  .obtain⟨g,c,d,rfl⟩:=s.back e a;have o:=h.pr k g d;refine⟨o.A,o.B,o.P,o.st,o.pid,o.par,o.Af,o.fds,o.fd,o.len,λe=>⟨(o.off e).1,(o.off e).2.1,?_⟩⟩;obtain d|⟨_,_,_,d⟩:=(t.pl k _ a).2
   .exact d
   .have:=(o.off e).2.1;simp only[this,Aj]at d;simp at d
 .obtain⟨g,d,i⟩:=f k q a;rw[i,C];exact h.pid k g d
 .rw[u];exact WR.imp h.asc λk q _ a=>f k q a
 .obtain⟨c,t⟩:=s.get l i;exact .inl ⟨by rw[u];exact d,_,t,⟨rfl,rfl,rfl,rfl,rfl,rfl,rfl,rfl⟩⟩
 .by_cases e:k=b
  .subst e;rw[m];simp
  .cases d:K.ps k with
   |none=>exact qx d a
   |some q=>obtain⟨c,t⟩:=s.get e d;rw[t];simp
 .rw[hb]at hq;cases hq;exact⟨r',m,D⟩
theorem Ri {p q:Nat->d_ PR}{l:List Nat}{r r':PR}(hN:l.Nodup)(m:b∈l)(j:JV b p q)(hb:p b=some r)(h:q b=some r'):BR q l i+r.fds.count (i:Int)=BR p l i+r'.fds.count (i:Int):=by
 have:=JG (f:=Jr q i) (g:=Jr p i) hN m λk d=>by
  obtain⟨c,a⟩:=j k d
  unfold Jr
  rw[a];cases p k<;>rfl
 rw[Ht hb,Ht h]at this;exact this
theorem Ut {p:Nat->d_ PR}{l:List Nat}{r:PR}(d:b∈l)(hb:p b=some r):r.fds.count (i:Int)<=BR p l i:=by
 have:=Oo (f:=Jr p i) d;rw[Ht hb]at this;exact this
theorem Iz.step {y:Nat×Nat}{K K':KS}{r r':PR}(h:Iz N x K)(E:K'.Ar=K.Ar)(hN:K.Ar.Nodup)(B:b∈K.Ar)(t:JV b K.ps K'.ps)(hb:K.ps b=some r)(s:K'.ps b=some r')(z:Sound N K'.swap)(A:ay K'.swap)(D:y.1+y.2<=N)(C:r'.sw+Aj r'.Af.length<=N)(u:∀i,Ed i K'.swap+O6 i r'.sw (Aj r'.Af.length)+O6 i y.1 y.2=Ed i K.swap+O6 i r.sw (Aj r.Af.length)+O6 i x.1 x.2):Iz N y K':=by
 refine⟨h.le,z,A,D,λi hi=>?_,λk q a=>?_⟩
 .have:=JG (f:=Nw i K'.ps) (g:=Nw i K.ps) hN B λk a=>by
   obtain⟨c,j⟩:=t k a
   unfold Nw
   rw[j];cases K.ps k<;>rfl
  rw[Jh hb,Jh s]at this;have m:=h.cnt i hi;have:=u i;rw[E];omega
 .by_cases e:k=b
  .subst e;rw[s]at a;cases a;exact C
  .obtain⟨l,c,d,rfl⟩:=t.back e a;exact h.pl k l d
theorem Iz.mine {K:KS}{r:PR}(h:Iz N x K)(m:b∈K.Ar)(hb:K.ps b=some r)(y:Nat)(d:r.sw<=y)(j:y<r.sw+Aj r.Af.length):Ed y K.swap=0:=by
 have c:=h.cnt y (by have:=h.pl b r hb;omega);have a:=Oo (f:=Nw y K.ps) m;rw[Jh hb,uT d j]at a;omega
theorem BQ.own {T T':Tag}{d:o_}(h:BQ T T' w w')(j:Aa S w' d)(m:∀k,S k->w.heap.size<=k):BQ T T' w d:=by
 refine⟨h.keep.trans j λk a e=>qx (m k e) wB,CG.old h,CG.new h,λb hb=>CG.lt h b (lN j.size hb),CG.fresh h⟩
theorem AY.own {K:KS}{rb:Nat}(h:AY K w)(d:Aa (At rb) w w')(j:K.T rb=(0,0)):AY K w':=
 h.keep (d.on λk _ e=>by subst e;exact j) λb hb=>h.lt b (lN d.size hb)
def EW (r:PR)(st:Nat):PR:=⟨r.pid,r.par,st,0,0,0,0,true,-1,.nilFunc,.slice none 0 0,.slice none 0 0,[],[]⟩
theorem av6 {r:PR}(h:r.Ok)(d:st<65536):(EW r st).Ok:=by
 refine⟨?_,?_,?_,d,h.pid,h.par,?_,?_,?_,?_,λ_=>⟨rfl,rfl,rfl⟩⟩<;>simp[EW]
theorem wJ {r r':PR}(h:w.heap[b]?=some r.obj)(j:r'.bl.oneCell'=true)(m:r'.im.oneCell'=true)(q:r'.fd.oneCell'=true):∃w',(Instr.storeAt 128 (Q_ b) (.agg r'.arr)).run prog w=.ok () w'/\Aa (At b) w w'/\w'.heap[b]?=some r'.obj:=by
 have e:(Instr.storeAt 128 (Q_ b) (.agg r'.arr)).run prog w=(OV b 0 r'.arr.toList (.pure ())).run prog w:=sU
 obtain⟨w',a,c,d⟩:=Hr (P:=prog) (k:=Sem.pure ()) r'.arr.toList 0 _ w h (by show 0+12<=12;omega) (by simp[PR.arr,Value.oneCell']at *;simp[j,m,q]);refine⟨w',?_,c,?_⟩
 .rw[e,a];rfl
 .rw[d];simp[UI,PR.arr,PR.obj]
theorem AY.dead {K:KS}{r:PR}(h:AY K w)(hb:K.ps b=some r)(d:Aa (At b) w w')(j:w'.heap[b]?=some (EW r st).obj):AY (K.Bj b (EW r st)) w'/\BQ K.T K.T w w':=by
 have a:=h.ps b r hb;have M:CG K.T K.T (λt=>t=(6,b)\/t=(7,b)\/t=(8,b)\/t=(9,b)) (λt=>t=(6,b)\/t=(7,b)\/t=(8,b)\/t=(9,b)) w w':=CG.of (d.on λk _ e=>by subst e;exact .inl a.t) h.lt;exact⟨h.lL M ⟨a.t,j,λe=>by simp[EW]at e,λe=>by simp[EW]at e,.inl rfl,λ_=>⟨rfl,rfl,rfl,rfl⟩⟩,M.Xu (by rintro t (rfl|rfl|rfl|rfl)<;>simp)⟩
structure Md (K K':KS):Prop where
 eq:K'={K with desc:=K'.desc,ef:=K'.ef,op:=K'.op,nl:=K'.nl,ct:=K'.ct,tv:=K'.tv}
theorem Md.refl (K:KS):Md K K:=⟨rfl⟩
theorem Md.drop {K K':KS}(h:Md K K')(i:Nat):Md K (K'.drop i):=by
 have e:=h.eq;refine⟨?_⟩;unfold KS.drop;split
 .split
  .rw[e]
  .rw[e]
 .rw[e]
theorem Md.ps {K K':KS}(h:Md K K'):K'.ps=K.ps:=by rw[h.eq]
theorem Md.Ar {K K':KS}(h:Md K K'):K'.Ar=K.Ar:=by rw[h.eq]
theorem Md.T {K K':KS}(h:Md K K'):K'.T=K.T:=by rw[h.eq]
theorem Md.kb {K K':KS}(h:Md K K'):K'.kb=K.kb:=by rw[h.eq]
theorem Md.core {K K':KS}(h:Md K K')(d:Cb N x K):Cb N x K':=by
 have e1:=h.ps;have e2:=h.Ar;have e3:K'.core=K.core:=by rw[h.eq]
 exact d.same e3 (λi=>by rw[e1,e2]) (by rw[e1];exact d.pl)
theorem J5 {n:Int}(h:l[k]?=some n):(l.take (k+1)).count (i:Int)=(l.take k).count (i:Int)+(if n=i then 1 else 0):=by
 rw[List.take_add_one,h,List.count_append];simp[List.count_singleton]
theorem count_le:(l.take k).count (i:Int)<=l.count (i:Int):=(List.take_sublist k l).count_le _
def KS.KO (K:KS)(l:List Int):KS:=l.foldl (λK n=>if n=-1 then K else K.drop n.toNat) K
theorem av5 {K K1:KS}(h:Yp (K1=K.KO (l.take k)))(d:l[k]?=some (-1)):Yp (K1=K.KO (l.take (k+1))):=by
 unfold Yp at*;rw[List.take_add_one,d];simp only[KS.KO,Option.toList_some,List.foldl_append,List.foldl_cons,List.foldl_nil,if_true];exact h
theorem ab8 {K K1:KS}(h:Yp (K1=K.KO (l.take k)))(d:l[k]?=some (i:Int)):Yp (K1.drop i=K.KO (l.take (k+1))):=by
 unfold Yp at*;rw[List.take_add_one,d];simp only[KS.KO,Option.toList_some,List.foldl_append,List.foldl_cons,List.foldl_nil];rw[ru wB,h]
 rfl
def sZ (K:KS)(b:Nat)(r:PR)(st:Nat)(K':KS):Prop:=∃K2 g c K6,BZ (K.KO r.fds) K2/\Nz ((K2.swap' (CE K2.swap r.sw (Aj r.Af.length)) g c).Bj b (EW {r with co:=-1} st)) K6/\K'=K6.PV/\XG b (K.KO r.fds) K2/\bt7 r.pid ((K2.swap' (CE K2.swap r.sw (Aj r.Af.length)) g c).Bj b (EW {r with co:=-1} st)) K6
def cq0 (K:KS)(w:o_)(fds:List Int)(k:Nat)(wr:o_):Prop:=∃K1,AY K1 wr/\Md K K1/\BQ K.T K.T w wr/\EP (λi=>BR K.ps K.Ar i-(fds.take k).count (i:Int)) K1/\Yp (K1=K.KO (fds.take k))
theorem DU.end_ {K K1 C:KS}{r:PR}(h:DU NC NS K)(G:b∈K.Ar)(hb:K.ps b=some r)(J:r.en=false)(L:st<65536)(F:Md K K1)(E:EP (fun i=>BR K.ps K.Ar i-r.fds.count (i:Int)) K1)(D:BZ K1 C)(I:Cb NC (0,0) C)(M:C.ps b=some {r with co:=-1}):
  DU NC NS ((C.swap' (CE C.swap r.sw (Aj r.Af.length)) g c).Bj b (EW {r with co:=-1} st))/\Rel b K ((C.swap' (CE C.swap r.sw (Aj r.Af.length)) g c).Bj b (EW {r with co:=-1} st)):=by
 have t:((C.swap' (CE C.swap r.sw (Aj r.Af.length)) g c).Bj b (EW {r with co:=-1} st)).ps=CY C.ps b (EW {r with co:=-1} st):=rfl;have e2:C.Ar=K.Ar:=D.Ar.trans F.Ar;have e3:C.swap=K.swap:=by rw[D.eq,F.eq]
 have hE:JV b K.ps (CY C.ps b (EW {r with co:=-1} st)):=(by rw[<-F.ps];exact D.else b:JV b K.ps C.ps).trans JV.set;have o:=h.pr b r hb;obtain⟨x,v,w,_⟩:=o.len J;have p:1<=Aj r.Af.length:=by unfold Aj;omega
 have l:=h.sw.pl b r hb;have u:=Rj (a:=r.sw) (n:=Aj r.Af.length) h.sw.so p l;refine h.step (b:=b) (r:=r) (r':=EW {r with co:=-1} st) e2 (by show C.BG=K.BG;rw[D.eq,F.eq]) (by show C.kb=K.kb;rw[D.eq,F.eq]) hE hb Ag (av6 (r:={r with co:=-1}) ⟨o.A,o.B,o.P,o.st,o.pid,o.par,o.Af,o.fds,o.fd,o.len,λe=>qx e (by simp[J])⟩ L) rfl ?_ ?_ ?_
 .refine I.same rfl (λi=>BU λk _=>?_) λk q d=>?_
  .show Gf i (CY C.ps b _) k=_;by_cases e:k=b
   .subst e;rw[Es Ag,Es M];simp[EW]
   .unfold Gf;rw[BB e]
  .have d:CY C.ps b _ k=some q:=d;by_cases e:k=b
   .subst e;rw[Ag]at d;cases d;exact⟨by simp[EW],.inl rfl⟩
   .rw[BB e]at d;exact I.pl k q d
 .refine h.sw.step (b:=b) e2 h.nd G hE hb Ag ?_ ?_ (Nat.zero_le _) (by simp[EW,Aj]) λi=>?_
  .show Sound NS (CE C.swap r.sw (Aj r.Af.length));rw[e3];exact u.1
  .show ay (CE C.swap r.sw (Aj r.Af.length));rw[e3];exact YX p h.sw.so h.sw.srt (h.sw.mine G hb)
  .show Ed i (CE C.swap r.sw (Aj r.Af.length))+O6 i 0 (Aj ([]:List Nat).length)+O6 i 0 0=_;rw[e3,Wx p,show Aj ([]:List Nat).length=0 by simp[Aj],TV]
 .have m:EP (λi=>BR K.ps K.Ar i-r.fds.count (i:Int)) ((C.swap' (CE C.swap r.sw (Aj r.Af.length)) g c).Bj b (EW {r with co:=-1} st)):=by
   have d1:C.desc=K1.desc:=by rw[D.eq]
   have d2:C.op=K1.op:=by rw[D.eq]
   have d3:C.ef=K1.ef:=by rw[D.eq]
   have d4:C.nl=K1.nl:=by rw[D.eq]
   have s:C.nm=K1.nm:=by rw[D.eq]
   refine⟨?_,E.le,?_,?_,?_,?_,?_⟩
   .show ∀i,i<20->C.desc i=_;rw[d1];exact E.ho
   .show ∀f,C.op f=DK C.desc C.ef f;rw[d1,d2,d3];exact E.op
   .show C.nl.Nodup;rw[d4];exact E.nd
   .show ∀f∈C.nl,1<=C.op f;rw[d4,d2];exact E.nz
   .show ∀i j f,i<16->j<16->C.nm i=some f->C.nm j=some f->i=j;rw[s];exact E.nm
   .show ∀i f,i<16->C.nm i=some f->f ∉ C.nl;rw[s,d4];exact E.dj
  refine m.congr λi _=>?_
  have:=Ri (i:=i) h.nd G hE hb Ag;show BR (CY C.ps b _) C.Ar i=_;rw[e2];have z:(EW {r with co:=-1} st).fds.count (i:Int)=0:=rfl;omega
section
variable (m:Nat)(w:o_)
theorem al2 (K:KS)(NC NS b st:Nat)(r:PR)(h:AY K w)(hO:DU NC NS K)(hm:b∈K.Ar)(hb:K.ps b=some r)(hn:r.en=false)(BX:st<65536):
  O_ m 100 #[Q_ K.kb,Q_ b,a_ (st:Nat)] w λe w'=>e=.returned (.agg #[a_ st,a_ 0,.nilFunc])/\∃K',AY K' w'/\DU NC NS K'/\Rel b K K'/\BQ K.T K'.T w w'/\(∃r',K'.ps b=some r'/\r'.en=true)/\Yp (sZ K b r st K'):=by
 have o:=hO.pr b r hb;have hlen:r.fds.length<=6:=by rw[o.fds hn];omega
 obtain⟨n1,hL⟩:1<=Aj r.Af.length/\r.Af.length<=128:=by
  obtain⟨kk,Qy,XU,hk3⟩:=o.len hn
  unfold Aj;omega
 obtain⟨K0,rb,Cm⟩:=IE w;have h0:=h.no K0;have Hl:K.T w.heap.size=(0,0):=h.lt _ w_;obtain⟨g,c,q9,hR,tg,hfd⟩:=h0.rZ hb hn;gi_enter func100,ntmps100;gi_wp2;generalize hw0:w.alloc V_=w0 at*;gi_loopw [14] (λi wr=>∃k:Nat,k<=r.fds.length/\i=b_ k/\cq0 K w0 r.fds k wr) (λi _=>r.fds.length-(intOf i).toNat)
 case atStart=>exact⟨0,wB,rfl,K,h0,Md.refl K,BQ.no (Aa.refl _ _) h0.lt,hO.Ei.congr λi _=>sJ,by unfold Yp;simp[KS.KO]⟩
 case round=>
  obtain⟨k,hk,rfl,R,X,a,F,q,C⟩:=hrel
  have JU:R.ps b=some r:=by rw[a.ps];exact hb
  obtain⟨g1,U,p9,Z,tg1,t⟩:=X.rZ JU hn
  have M:=a.kb
  obtain⟨rfl,rfl⟩:g1=g/\U=c:=by rw[hfd]at t;simp at t;exact⟨t.1.symm,t.2.symm⟩
  by_cases BL:k<r.fds.length
  .have H:r.fds[k]?=some r.fds[k]:=JM BL;generalize r.fds[k]=n at H;have d:=Z.Pm rfl H;obtain rfl|⟨i,rfl,hi⟩:=o.fd n (t_ H)
   .gi_wp2;go_roundw
    case rel=>
     refine⟨k+1,wB,by go_num,R,X,a,F,q.congr λi _=>?_,av5 C H⟩
     rw[J5 H,ru wB];rfl
    case measure=>simp[intOf];omega
   .have hge:=Ut (p:=K.ps) (i:=i) hm hb;have hcl:=count_le (l:=r.fds) (k:=k+1) (i:=i);have hct:=J5 (i:=i) H;rw[rW rfl]at hct;have hH:0<BR K.ps K.Ar i-(r.fds.take k).count (i:Int):=wB;have hd1:0<R.desc i:=(by rw[q.ho i hi];exact hH);have cd:=λm=>Ν m wr R i X hi hd1 (by rw[q.ho i hi];exact q.le i hi) (by have:=q.nl;omega) (λf hf=>q.eff hi hd1 hf)
    rw[M]at cd;have f1:((i:Int) !=-1)=true:=sJ;gi_wp2_with (gi_at_call 155;refine(cd _).mono ?_;rintro e w2 ⟨rfl,S,M2⟩);go_roundw
    case rel=>
     rw[a.T]at M2
     refine⟨k+1,wB,by go_num,R.drop i,S,a.drop i,F.trans M2,(q.drop hi hH).congr λj _=>?_,ab8 C H⟩
     unfold Ah
     split
     .rename_i e;subst e;rw[hct];omega
     .rename_i e;rw[J5 H,ru wB];rfl
    case measure=>simp[intOf];omega
  .obtain rfl:k=r.fds.length:=wB;rw[List.take_length]at q C;have ct:=λm=>RP m wr R b NC (0,0) r X JU (by rw[a.Ar];exact hm) (by rw[a.Ar];exact hO.nd) (a.core hO.co)
   rw[M]at ct;gi_wp2_with (gi_at_call 52;refine(ct _).mono ?_;rintro e w2 ⟨rfl,s,S,D,hC2,hv2,Iq,_,hXo⟩);have sV:s.kb=K.kb:=D.kb.trans M;obtain⟨a8,c8,q8⟩:=S.im8 Iq;have Q:=S.Iu Iq 10;simp[PR.arr]at q8 Q;have hV2:=F.trans (a.T ▸ hv2);refine Cc 9 58 ?_;gi_wp2_with (gi_at_call 58;refine(Fe _ w2.drew b _ _ _ q8 wB).mono ?_;rintro e w1 ⟨rfl,rfl⟩);refine Ee ?_ ?_
   .intro W v;have d10:=v.has (w:=w2.drew) Q;have d8:=v.has (w:=w2.drew) q8
    repeat' (refine AA ?_ ?_)
    all_goals first|exact dE|gi_wp2_with (gi_at_call 58;refine(Fe _ W b _ _ _ d8 wB).mono ?_;rintro e w1 ⟨rfl,rfl⟩)
   .intro W v;have KW:Aa No w2 W:=(Aa.refl No w2).drew.then v;have Y:=S.no KW;have eS:s.swap=K.swap:=(by rw[D.eq,a.eq]);have hpl:=hO.sw.pl b r hb;have hsl:s.swap.length+1<=NS:=by
     rw[eS]
     have a1:=hO.sw.so.len
     have a2:=hO.sw.sum
     have a3:=Oo (f:=onS K.ps) hm
     rw[nV hb]at a3
     omega
    have cg:=λm=>ak8 m W s r.sw (Aj r.Af.length) NS Y (by rw[eS];exact hO.sw.fit) (by have:=hO.sw.le;omega) hpl hsl
    rw[sV]at cg;have hV3:=hV2.then KW;gi_wp2_with fail;refine(cg _).mono ?_;rintro e w3 ⟨rfl,G,c3,h3,M3⟩;have B:(s.swap' (CE s.swap r.sw (Aj r.Af.length)) G c3).ps b=some {r with co:=-1}:=Iq;have LU:BQ K.T (Bi s.T G (3,0)) w0 w3:=hV3.trans M3;have hE:=hO.end_ (g:=G) (c:=c3) hm hb hn BX a q D hC2 Iq;have tK3:(s.swap' (CE s.swap r.sw (Aj r.Af.length)) G c3).T=Bi s.T G (3,0):=rfl;rw[<-tK3]at LU;clear cg hV3 hV2 Y KW v q8 Q ct S hv2 M3 X F Z p9 tK3;generalize z:s.swap' (CE s.swap r.sw (Aj r.Af.length)) G c3=J at*
    replace z:Yp (s.swap' (CE s.swap r.sw (Aj r.Af.length)) G c3=J):=z
    have c0:=h3.Iu B 0;have U:=h3.Iu B 1;simp[PR.arr]at c0 U;gi_wp2;refine Cc 11 58 ?_;gi_wp2;refine Ee ?_ ?_
    .intro W v;have d0:=v.has (w:=w3.drew) c0;have d1:=v.has (w:=w3.drew) U
     repeat' (refine AA ?_ ?_)
     all_goals first|exact dE|gi_wp2
    .intro W v;have KW:Aa No w3 W:=(Aa.refl No w3).drew.then v;have N:=h3.no KW;obtain⟨w5,I,K5,p5⟩:=wJ (r':=EW {r with co:=-1} st) (N.ps b _ B).o rfl rfl rfl;simp only[EW,PR.arr]at I;obtain⟨h4,M4⟩:=N.dead B K5 p5;have hV5:BQ K.T J.T w0 w5:=(LU.then KW).trans M4;have eT:(J.Bj b (EW {r with co:=-1} st)).T=J.T:=rfl;have hb4:(J.Bj b (EW {r with co:=-1} st)).ps b=some (EW {r with co:=-1} st):=Ag;rw[<-eT]at hV5;clear LU KW v N M4 K5 p5 c0 U h3 B eT;generalize A:J.Bj b (EW {r with co:=-1} st)=K4 at*
     replace A:Yp (J.Bj b (EW {r with co:=-1} st)=K4):=A
     obtain⟨E,hR4⟩:=hE;have V:K4.kb=K.kb:=hR4.kb;have co:=λm=>ϵ m w5 K4 b _ h4 E.th hb4 (by have:=E.len;omega) E.nd
     rw[V]at co;gi_wp2_with (first|(gi_at_call 157;refine(co _).mono ?_;rintro e w6 ⟨rfl,hh,hH6,L,h6,u,hv6,hp6,hX6⟩)|refine BM rfl (.tmp 50) (.tmp 49) 128 rfl rfl rfl I ?_);have O:=E.ax9 u hp6;have db0:L.kb=K.kb:=(by rw[u.eq];exact V);have cb:=λm=>Ω m w6 L h6 O.th (by have:=O.len;omega)
     rw[db0]at cb;obtain⟨dg3,hb6⟩:=u.get hb4;gi_wp2_with (first|(gi_at_call 158;refine(cb _).mono ?_;rintro e w7 ⟨rfl,h7,M7⟩;have P:BQ K.T L.T w0 w7:=(hV5.trans hv6).trans M7;obtain⟨w8,AL,K8,b8⟩:=ϥ (x:=st) (y:=0) (P.old rb Hl))|refine BM rfl (.tmp 6) (.tmp 57) 206 rfl rfl rfl AL ?_);have t7:L.T w.heap.size=(0,0):=(CG.fresh P _ Cm).trans Hl;have ψ:w8.cell? (R_ w.heap.size)=some (a_ st):=bce b8 rfl;have χ:w8.cell? (S_ w.heap.size 1)=some (a_ 0):=bce b8 rfl;have φ:w8.cell? (S_ w.heap.size 2)=some .nilFunc:=bce b8 rfl;refine T_ st 0 (by simp[results,results100,go_sem,ψ,χ,φ]) rfl ?_;refine⟨rfl,L.PV,h7.own K8 t7,O.PV,((hR4.trans (u.rel b) (by rw[hb];simp) hO.th).trans (nM L b) (by rw[hb];simp) hO.th),((BQ.no K0 h.lt).trans P).own K8 (λk e=>by rw[show k=w.heap.size from e];exact w_),⟨_,hb6,rfl⟩,s,G,c3,L,by rw[<-C.out];exact D,by rw[z.out,A.out];exact u,rfl,by rw[<-C.out];exact hXo,hh,by rw[z.out,A.out];exact hH6,by rw[z.out,A.out];rw[List.take_length]at hX6;rw[u.eq,hX6.out];rfl⟩
theorem Oy (x:Nat):O_ m 140 #[a_ x] w λe w'=>e=.returned (.agg #[a_ 0,a_ x,.nilFunc])/\Aa No w w':=by
 gi_enter func140,ntmps140;gi_wp2;refine T_ 0 x (by simp[results,results140,go_sem]) rfl ?_;exact⟨rfl,by repeat (first|exact Aa.refl _ _|refine Aa.drew ?_|refine Aa.alloc ?_ _)⟩
theorem Eg (x:Nat)(d:x<65536):O_ m 152 #[b_ x] w λe w'=>e=.returned (.agg #[a_ x,a_ 0,.nilFunc])/\Aa No w w':=by
 gi_enter func152,ntmps152;gi_wp2;refine T_ x 0 (by simp[results,results152,go_sem]) rfl ?_;exact⟨rfl,by repeat (first|exact Aa.refl _ _|refine Aa.drew ?_|refine Aa.alloc ?_ _)⟩
theorem by3:(binOp .eql 116 (.slice (some ad) n c) (.slice none 0 0)).run prog w=.ok (.bool false) w:=sU
theorem by2:(binOp .eql 116 (.slice none 0 0) (.slice none 0 0)).run prog w=.ok (.bool true) w:=sU
theorem gU:O_ m 141 #[.slice none 0 0] w λe w'=>e=.returned (.slice none 0 0)/\Aa No w w':=by
 have hq:=by2 w;gi_enter func141,ntmps141;gi_wp2;go_ret;exact⟨sJ,Aa.refl _ _⟩
theorem UX:(prog.info? 123).map (λi=>(i.zero,i.size,i.bytes))=some (some (a_ 0),1,2):=sU
theorem Ef {w:o_}{row:d_ Nat}(h:w.grownBy w' row)(d:∀k,row=some k->k<w.heap.size->S k):Aa S w w':=⟨h.os,h.output,h.size,λk a b=>h.block k a λe=>b (d k e.symm a)⟩
theorem Um {w:o_}:(w.alloc (.cells #[] e)).ownsRow w.heap.size e size (P_ w.heap.size 0 0) 0 []:=
 ⟨sJ,.inr ⟨w.heap.size,0,#[],rfl,w_,Yw rfl,w_,Nat.zero_le _,sJ,sJ⟩⟩
theorem fH {w:o_}{base j:Nat}{xs:U_}(h:w.ownsRow base e size v n xs)(hb:j<=base):w.ownsRow j e size v n xs:=by
 obtain⟨i,f⟩:=h;refine⟨i,?_⟩;obtain f|⟨g,cap,d,a,b,c⟩:=f
 .exact .inl f
 .exact .inr ⟨g,cap,d,a,lN hb b,c⟩
theorem Lr (ad:f_)(n c:Nat)(xs:U_)(s:xs.length=n)(r:∀j u,xs[j]?=some u->w.cell? (ad.add j)=some u)(q:∀u∈xs,u.oneCell'=true)(t:n<=1000):O_ m 141 #[.slice (some ad) n c] w λe w'=>Aa No w w'/\∃v,e=.returned v/\w'.ownsRow w.heap.size 123 1 v n xs:=by
 obtain⟨o,hi,a,b,d⟩:=info_parts UX;have hq:=by3 w (ad:=ad) (n:=n) (c:=c);gi_enter func141,ntmps141;gi_wp2_with (gi_at_builtin;refine wpListIn_append_own _ rfl (.tmp 5) (.tmp 6) 116 rfl w.heap.size 123 o (a_ 0) 1 2 underlying116 hi a b d rfl sN _ 0 [] rfl Um ad n c xs rfl wB (λj u i=>((Aa.refl No w).alloc _).has (r j u i)) q (by unfold maxLen;omega) wB sJ ?_;intro p w1 f g _);go_ret;refine⟨((Aa.refl No w).alloc (.cells #[] 123)).trans (Ef (S:=At w.heap.size) g (λk h _=>(x_ (show some w.heap.size=some k from h)).symm)) (λk l h=>qx l (by rw[show k=w.heap.size from h];exact Nat.lt_irrefl _)),p,rfl,?_⟩;simpa using f
theorem MV (x:Nat):O_ m 273 #[a_ x] w λe w'=>e=.returned (.agg #[a_ 0,a_ x,.nilFunc])/\Aa No w w':=by
 gi_enter func273,ntmps273;gi_wp2;refine T_ 0 x (by simp[results,results273,go_sem]) rfl ?_;exact⟨rfl,by repeat (first|exact Aa.refl _ _|refine Aa.drew ?_|refine Aa.alloc ?_ _)⟩
theorem Dp (x:Nat)(d:x<65536):O_ m 272 #[b_ x] w λe w'=>e=.returned (.agg #[a_ x,a_ 0,.nilFunc])/\Aa No w w':=by
 gi_enter func272,ntmps272;gi_wp2;refine T_ x 0 (by simp[results,results272,go_sem]) rfl ?_;exact⟨rfl,by repeat (first|exact Aa.refl _ _|refine Aa.drew ?_|refine Aa.alloc ?_ _)⟩
theorem Yu:(prog.info? 3).map (λi=>(i.zero,i.size,i.bytes))=some (some (b_ 0),1,8):=sU
theorem cn9:(binOp .eql 22 (.slice (some ad) n c) (.slice none 0 0)).run prog w=.ok (.bool false) w:=sU
theorem cn7:(binOp .eql 22 (.slice none 0 0) (.slice none 0 0)).run prog w=.ok (.bool true) w:=sU
theorem yj:O_ m 102 #[.slice none 0 0] w λe w'=>e=.returned (.slice none 0 0)/\Aa No w w':=by
 have hq:=cn7 w;gi_enter func102,ntmps102;gi_wp2;go_ret;exact⟨sJ,Aa.refl _ _⟩
theorem ZV (ad:f_)(n c:Nat)(xs:U_)(s:xs.length=n)(r:∀j u,xs[j]?=some u->w.cell? (ad.add j)=some u)(q:∀u∈xs,u.oneCell'=true)(t:n<=1000):O_ m 102 #[.slice (some ad) n c] w λe w'=>Aa No w w'/\∃v,e=.returned v/\w'.ownsRow w.heap.size 3 1 v n xs:=by
 obtain⟨o,hi,a,b,d⟩:=info_parts Yu;have hq:=cn9 w (ad:=ad) (n:=n) (c:=c);gi_enter func102,ntmps102;gi_wp2_with (gi_at_builtin;refine wpListIn_append_own _ rfl (.tmp 5) (.tmp 6) 22 rfl w.heap.size 3 o (b_ 0) 1 8 underlying22 hi a b d rfl sN _ 0 [] rfl Um ad n c xs rfl wB (λj u i=>((Aa.refl No w).alloc _).has (r j u i)) q (by unfold maxLen;omega) wB sJ ?_;intro p w1 f g _);go_ret;refine⟨((Aa.refl No w).alloc (.cells #[] 3)).trans (Ef (S:=At w.heap.size) g (λk h _=>(x_ (show some w.heap.size=some k from h)).symm)) (λk l h=>qx l (by rw[show k=w.heap.size from h];exact Nat.lt_irrefl _)),p,rfl,?_⟩;simpa using f
end
theorem MC.one {T:Tag}{kb:Nat}(h:MC T w kb b f):f.oneCell'=true:=by
 obtain rfl|⟨_,_,rfl,_⟩|⟨_,rfl|rfl,_⟩:=h<;>rfl
theorem Az {rb:Nat}{b c:n_}{x y:Int}(h:w.heap[rb]?=some (N_ #[a,b,c] 206))(j:f.oneCell'=true):∃w',(Instr.storeAt 206 (Q_ rb) (.agg #[a_ x,a_ y,f])).run prog w=.ok () w'/\Aa (At rb) w w'/\w'.heap[rb]?=some (N_ #[a_ x,a_ y,f] 206):=by
 have e:(Instr.storeAt 206 (Q_ rb) (.agg #[a_ x,a_ y,f])).run prog w=(OV rb 0 [a_ x,a_ y,f] (.pure ())).run prog w:=sU
 obtain⟨w',d,g,i⟩:=Hr (P:=prog) (k:=Sem.pure ()) [a_ x,a_ y,f] 0 _ w h sJ (by simp[j];exact⟨rfl,rfl⟩);refine⟨w',?_,g,?_⟩
 .rw[e,d];rfl
 .rw[i];simp[UI]
def St8 (rb:Nat)(y:Int)(w:o_):Prop:=∃w8,(Instr.storeAt 206 (Q_ rb) (.agg #[a_ 0,a_ y,.nilFunc])).run prog w=.ok () w8/\Aa (At rb) w w8/\w8.heap[rb]?=some (N_ #[a_ 0,a_ y,.nilFunc] 206)
theorem Uy {rb:Nat}{b c:n_}(y:Nat)(h:w.heap[rb]?=some (N_ #[a,b,c] 206))(m:Nat):O_ m 140 #[a_ y] w λe w'=>e=.returned (.agg #[a_ 0,a_ y,.nilFunc])/\Aa No w w'/\St8 rb y w':=(Oy m w y).mono λ_ _ ⟨e,K⟩=>⟨e,K,Az (K.old h id) rfl⟩
theorem fw8 {rb:Nat}{b c:n_}(y:Nat)(h:w.heap[rb]?=some (N_ #[a,b,c] 206))(m:Nat):O_ m 273 #[a_ y] w λe w'=>e=.returned (.agg #[a_ 0,a_ y,.nilFunc])/\Aa No w w'/\St8 rb y w':=(MV m w y).mono λ_ _ ⟨e,K⟩=>⟨e,K,Az (K.old h id) rfl⟩
def GY (K:KS)(y:Nat):KS->Nat->Nat->n_->Prop:=λK' x z f=>K'=K/\x=0/\z=y/\f=.nilFunc
theorem GY.of {K:KS}:GY K y K 0 y .nilFunc:=⟨rfl,rfl,rfl,rfl⟩
def FX (X:KS->Nat->Nat->n_->Prop)(NC NS b:Nat)(K:KS)(w:o_)(e:Ending)(w':o_):Prop:=∃(K':KS) (x y:Nat) (f:n_),e=.returned (.agg #[a_ x,a_ y,f])/\x<65536/\y<65536/\MC K'.T w' K'.kb b f/\AY K' w'/\DU NC NS K'/\Rel b K K'/\BQ K.T K'.T w w'/\(∃r',K'.ps b=some r'/\(r'.en=false->b∈K'.Ar))/\X K' x y f
theorem BD {X:KS->Nat->Nat->n_->Prop}{x:Nat}{K K':KS}{r':PR}(h:∀k,w.heap.size<=k->K.T k=(0,0))(r:Aa No w w0)(m:w.heap.size<w0.heap.size)(j:BQ K.T K'.T w0 w7)(s:AY K' w7)(d:Aa (At w.heap.size) w7 w8)(B:x<65536)(C:y<65536)(z:MC K'.T w7 K'.kb b f)(u:DU NC NS K')(hR:Rel b K K')(A:K'.ps b=some r')(q:r'.en=false->b∈K'.Ar)(hX:X K' x y f):FX X NC NS b K w (.returned (.agg #[a_ x,a_ y,f])) w8:=by
 have a:K'.T w.heap.size=(0,0):=(CG.fresh j _ m).trans (h _ w_);have c:Aa (On K'.T λt=>t=(0,0)) w7 w8:=d.on λk _ e=>by rw[show k=w.heap.size from e];exact a
 exact⟨K',x,y,f,rfl,B,C,z.keep c sJ,s.own d a,u,hR,((BQ.no r h).trans j).own d (λk e=>by rw[show k=w.heap.size from e];exact w_),⟨r',A,q⟩,hX⟩
structure dQ (K K':KS):Prop where
 eq:K'={K with desc:=K'.desc,ef:=K'.ef,op:=K'.op,nl:=K'.nl,nm:=K'.nm,T:=K'.T,ct:=K'.ct,tv:=K'.tv}
theorem Md.tt {K K':KS}(h:Md K K'):dQ K K':=⟨by rw[h.eq]⟩
theorem dQ.refl (K:KS):dQ K K:=⟨rfl⟩
theorem DU.fds {K K1:KS}{r r':PR}(h:DU NC NS K)(hT:dQ K K1)(s:b∈K.Ar)(hb:K.ps b=some r)(u:r'.pid=r.pid)(_:r'.en=r.en)(m:r'.co=r.co)(j:r'.sw=r.sw)(hi:r'.Af.length=r.Af.length)(t:r'.Ok)(d:EP H K1)(hH:∀i,i<20->H i+r.fds.count (i:Int)=BR K.ps K.Ar i+r'.fds.count (i:Int)):DU NC NS (K1.Bj b r')/\Rel b K (K1.Bj b r'):=by
 have e1:K1.ps=K.ps:=by rw[hT.eq]
 have e2:K1.Ar=K.Ar:=by rw[hT.eq]
 have e3:K1.core=K.core:=by rw[hT.eq]
 have e4:K1.swap=K.swap:=by rw[hT.eq]
 have hE:JV b K.ps (CY K1.ps b r'):=by rw[e1];exact JV.set
 refine h.step (b:=b) (r:=r) (r':=r') e2 (by show K1.BG=K.BG;rw[hT.eq]) (by show K1.kb=K.kb;rw[hT.eq]) hE hb Ag t u ?_ ?_ ?_
 .refine h.co.same e3 (λi=>?_) λk q a=>?_
  .show BP (Gf i (CY K1.ps b r')) K1.Ar=_;rw[e1,e2];refine BU λk _=>?_
   by_cases e:k=b
   .subst e;rw[Es Ag,Es hb,m,hi]
   .unfold Gf;rw[BB e]
  .have a:CY K1.ps b _ k=some q:=a;by_cases e:k=b
   .subst e;rw[Ag]at a;cases a;rw[hi,m];exact h.co.pl _ r hb
   .rw[BB e,e1]at a;exact h.co.pl k q a
 .refine h.sw.step (b:=b) e2 h.nd s hE hb Ag ?_ ?_ (Nat.zero_le _) ?_ λi=>?_
  .show Sound NS K1.swap;rw[e4];exact h.sw.so
  .show ay K1.swap;rw[e4];exact h.sw.srt
  .rw[j,hi];exact h.sw.pl b r hb
  .show Ed i K1.swap+_+_=_;rw[e4,hi,j]
 .have c:EP H (K1.Bj b r'):=⟨d.ho,d.le,d.op,d.nd,d.nz,d.nm,d.dj⟩;refine c.congr λi hi=>?_
  have:=Ri (i:=i) h.nd s hE hb Ag;show BR (CY K1.ps b r') K1.Ar i=_;rw[e2];have:=hH i hi;omega
theorem Qa {n m a:Int}(h:l[k]?=some n):(l.set k m).count a+(if n=a then 1 else 0)=l.count a+(if m=a then 1 else 0):=by
 have b:=(Oc.1 h).1;have c:=QO h;have e:l.set k m=l.take k++m::l.drop (k+1):=List.set_eq_take_append_cons_drop.trans (rW b);rw[e]
 conv=>rhs;rw[c]
 simp only[List.count_append,List.count_cons];simp only[beq_iff_eq];omega
theorem Ci {X:KS->Nat->Nat->n_->Prop}{x:Nat}{K:KS}{r:PR}(h:AY K w)(s:DU NC NS K)(t:b∈K.Ar)(hb:K.ps b=some r)(d:Aa No w w0)(m:w.heap.size<w0.heap.size)(j:Aa No w0 w7)(q:Aa (At w.heap.size) w7 w8)(u:x<65536)(z:y<65536)(hX:X K x y .nilFunc):FX X NC NS b K w (.returned (.agg #[a_ x,a_ y,.nilFunc])) w8:=
 BD (K':=K) (x:=x) (y:=y) h.lt d m (BQ.no j (h.no d).lt) ((h.no d).no j) q u z (.inl rfl) s (Rel.refl b K) hb (λ_=>t) hX
theorem iO {r:PR}(o:r.Ok)(d:r.en=false->l.length=6)(h:∀n∈l,n=-1\/∃i:Nat,n=i/\i<20)(j:r.en=false):PR.Ok {r with fds:=l}:=⟨o.A,o.B,o.P,o.st,o.pid,o.par,o.Af,d,h,o.len,λe=>qx e (by simp[j])⟩
theorem VS {x:Int}(h:∀n∈l,n=-1\/∃i:Nat,n=i/\i<20)(d:x=-1\/∃i:Nat,x=i/\i<20):∀n∈l.set k x,n=-1\/∃i:Nat,n=i/\i<20:=λn b=>by
 obtain a|rfl:=List.mem_or_eq_of_mem_set b
 .exact h n a
 .exact d
theorem DU.close {K:KS}{r:PR}(h:DU NC NS K)(s:b∈K.Ar)(hb:K.ps b=some r)(t:r.en=false)(hi:i<20)(q:r.fds[k]?=some (i:Int)):0<K.desc i/\DU NC NS ((K.drop i).Bj b {r with fds:=r.fds.set k (-1)})/\Rel b K ((K.drop i).Bj b {r with fds:=r.fds.set k (-1)}):=by
 have o:=h.pr b r hb;have d:0<r.fds.count (i:Int):=List.count_pos_iff.2 (t_ q);have hH:0<BR K.ps K.Ar i:=Nat.lt_of_lt_of_le d (Ut s hb);refine⟨by rw[h.Ei.ho i hi];exact hH,h.fds ((Md.refl K).drop i).tt s hb rfl rfl rfl rfl rfl (iO o (λe=>by simp[o.fds e]) (VS o.fd (.inl rfl)) t) (h.Ei.drop hi hH) λj _=>?_⟩;have:=Qa (m:=-1) (a:=(j:Int)) q;rw[ru (c:=(-1:Int)=(j:Int)) wB]at this;simp only[Ah];split
 .rename_i e;subst e;rw[rW rfl]at this;omega
 .rename_i e;rw[ru wB]at this;omega
theorem EP.share {K:KS}(h:EP H K)(m:0<K.desc i)(d:∀j,j<20->Ah H i (H i+1) j<=1000)(hi:i<20):EP (Ah H i (H i+1)) {K with desc:=Ah K.desc i (K.desc i+1)}:=by
 refine⟨λj a=>?_,d,λf=>?_,h.nd,h.nz,h.nm,h.dj⟩
 .show Ah K.desc i (K.desc i+1) j=_;unfold Ah;split
  .rw[h.ho i hi]
  .exact h.ho j a
 .rw[h.op f];unfold DK;refine BU λj _=>?_
  show _=if 0<Ah K.desc i (K.desc i+1) j/\K.ef j=some f then 1 else 0
  unfold Ah;by_cases e:j=i
  .subst e;simp[m]
  .simp[e]
theorem Zx {f:Nat->Nat}{c:Nat}:∀{l:List Nat},(∀b∈l,f b<=c)->BP f l<=c*l.length
 |[],_=>by simp[BP]
 |b::l,h=>by
  have d:=h b sJ
  have e:=Zx (f:=f) (l:=l) λx a=>h x (by simp[a])
  simp only[BP,List.length_cons,Nat.mul_add];omega
theorem DU.ZQ {K:KS}(h:DU NC NS K)(i:Nat):BR K.ps K.Ar i<=72:=by
 have:=Zx (f:=Jr K.ps i) (c:=6) (l:=K.Ar) λb _=>by
  unfold Jr
  cases hb:K.ps b with
  |none=>simp
  |some r=>
   have o:=h.pr b r hb
   have a:r.fds.count (i:Int)<=r.fds.length:=List.count_le_length
   cases he:r.en with
   |false=>rw[o.fds he]at a;exact a
   |true=>rw[(o.off he).1]at a;simp at a;simp[(o.off he).1]
 have:=h.len;unfold BR;omega
theorem DU.dup {K:KS}{r:PR}(h:DU NC NS K)(t:b∈K.Ar)(hb:K.ps b=some r)(u:r.en=false)(hi:i<20)(q:0<K.desc i)(s:r.fds[k]?=some (-1)):DU NC NS (KS.Bj {K with desc:=Ah K.desc i (K.desc i+1)} b {r with fds:=r.fds.set k (i:Int)})/\Rel b K (KS.Bj {K with desc:=Ah K.desc i (K.desc i+1)} b {r with fds:=r.fds.set k (i:Int)}):=by
 have o:=h.pr b r hb;have d:=h.ZQ;refine h.fds (K1:={K with desc:=Ah K.desc i (K.desc i+1)}) ⟨rfl⟩ t hb rfl rfl rfl rfl rfl (iO o (λe=>by simp[o.fds e]) (VS o.fd (.inr ⟨i,rfl,hi⟩)) u) (h.Ei.share q (λj f=>by unfold Ah;split;have:=d i;omega;have:=d j;omega) hi) λj _=>?_
 have:=Qa (m:=(i:Int)) (a:=(j:Int)) s;rw[ru (c:=(-1:Int)=(j:Int)) wB]at this;simp only[Ah];split
 .rename_i e;subst e;rw[rW rfl]at this;omega
 .rename_i e;rw[ru wB]at this;omega
def VY (K:KS)(b:Nat)(r:PR)(fd:Nat):KS->Nat->Nat->n_->Prop:=λK' x y f=>(r.has fd=false/\GY K 2 K' x y f)\/∃i:Nat,r.fds[fd]?=some (i:Int)/\i<20/\K'=(K.drop i).Bj b {r with fds:=r.fds.set fd (-1)}/\x=0/\y=0/\f=.nilFunc
section
variable (m:Nat)(w:o_)
theorem av8 (K:KS)(NC NS b fd:Nat)(r:PR)(h:AY K w)(hO:DU NC NS K)(hm:b∈K.Ar)(hb:K.ps b=some r)(hn:r.en=false)(hfd:fd<65536):
  O_ m 148 #[Q_ K.kb,Q_ b,a_ (fd:Nat)] w (FX (VY K b r fd) NC NS b K w):=by
 have o:=hO.pr b r hb;obtain⟨t,rb,E⟩:=IE w;have A:=h.no t;have M:K.T w.heap.size=(0,0):=h.lt _ w_;have S:=λm=>YI m _ K b fd r A hb hn hfd
 gi_enter func148,ntmps148;gi_wp2_with (gi_at_call 202;refine(S _).mono ?_;rintro e w1 ⟨l,x,rfl,hx,C⟩;generalize hw0:w.alloc V_=w0 at *;cases x)
 .skip
  gi_wp2_with (first|(gi_at_call 140;refine(Uy 2 (l.old rb id) _).mono ?_;rintro e wz ⟨rfl,j,w8,q,u,v⟩)|refine Fa q ?_);refine T_ 0 2 (by simp[results,results148,go_sem,FU v]) rfl ?_;exact Ci h hO hm hb t E (l.then j) u sN sN (.inl ⟨C.out.symm,GY.of⟩)
 .obtain⟨n,a,L⟩:=hx (by first|rfl|trivial);obtain⟨i,rfl,hi⟩:=(o.fd n (t_ a)).resolve_left L;obtain⟨I,P,N⟩:=hO.close hm hb hn hi a;have G:=A.no l;obtain⟨g,c,q9,B,tg,Q⟩:=G.rZ hb hn;have Z:=(Oc.1 a).1;have f1:(fd:Int)<(r.fds.length:Int):=wB
  have d:=B.Pm rfl a;gi_wp2;refine Cc 10 30 ?_;gi_wp2;refine Ee ?_ ?_
  .intro W p;have d9:=p.has (w:=w1.drew) q9;have dd:=p.has (w:=w1.drew) d
   repeat' (refine AA ?_ ?_)
   all_goals first|exact dE|gi_wp2
  .intro W p;have KW:Aa No w1 W:=(Aa.refl No w1).drew.then p;have X:=G.no KW;have R:=λm=>Ν m W K i X hi I (by have:=hO.Ei.le i hi;rw[hO.Ei.ho i hi];exact this) (by have:=hO.Ei.nl;omega) (λf Y=>hO.Ei.eff hi I Y)
   have F:(K.drop i).ps b=some r:=(by rw[((Md.refl K).drop i).ps];exact hb);gi_wp2_with (gi_at_call 155;refine(R _).mono ?_;rintro e w2 ⟨rfl,H,O⟩;obtain⟨g2,c2,p9,s,D,z⟩:=H.rZ F hn;have d2:=s.Pm rfl a;have V:=s.fz fd);have J:=H.bo0 (i:=fd) (x:=-1) F hn z s D;have U:(K.drop i).T=K.T:=((Md.refl K).drop i).T;have k:BQ K.T (K.drop i).T w0 _:=((BQ.no (l.then KW) A.lt).trans (by rw[U];exact O)).trans J.2;gi_wp2_with (first|(gi_at_call 152;refine(Eg _ _ 0 wB).mono ?_;rintro e wz ⟨rfl,j⟩;obtain⟨w8,q,u,v⟩:=Az (x:=0) (y:=0) (f:=.nilFunc) (j.old (k.old rb M) id) rfl)|refine Fa q ?_);refine T_ 0 0 (by simp[results,results148,go_sem,FU v]) rfl ?_;exact BD (K':=(K.drop i).Bj b {r with fds:=r.fds.set fd (-1)}) (x:=0) (y:=0) h.lt t E ((k).then j) ((J.1).no j) u wB wB (.inl rfl) (P) (N) Ag (λ_=>by show b∈(K.drop i).Ar;rw[((Md.refl K).drop i).Ar];exact hm) (.inr ⟨i,a,hi,rfl,rfl,rfl,rfl⟩)
end
def ϔ (K:KS)(b:Nat)(r:PR)(fd:Nat):KS->Nat->Nat->n_->Prop:=λK' x y f=>(r.has fd=false/\GY K 2 K' x y f)\/(r.has fd=true/\DF r.fds=0/\GY K 7 K' x y f)\/∃i j:Nat,r.fds[fd]?=some (i:Int)/\i<20/\IV r.fds j/\K'=KS.Bj {K with desc:=Ah K.desc i (K.desc i+1)} b {r with fds:=r.fds.set j (i:Int)}/\x=j/\y=0/\f=.nilFunc
section
variable (m:Nat)(w:o_)
theorem by4 (K:KS)(NC NS b fd:Nat)(r:PR)(h:AY K w)(hO:DU NC NS K)(hm:b∈K.Ar)(hb:K.ps b=some r)(hn:r.en=false)(hfd:fd<65536):
  O_ m 149 #[Q_ K.kb,Q_ b,a_ (fd:Nat)] w (FX (ϔ K b r fd) NC NS b K w):=by
 have o:=hO.pr b r hb;have Q:r.fds.length<=6:=by rw[o.fds hn];omega
 obtain⟨C,rb,E⟩:=IE w;have p:=h.no C;have X:K.T w.heap.size=(0,0):=h.lt _ w_;have ch:=λm=>YI m _ K b fd r p hb hn hfd
 gi_enter func149,ntmps149;gi_wp2_with (gi_at_call 202;refine(ch _).mono ?_;rintro e w1 ⟨k,x,rfl,hx,B⟩;generalize hw0:w.alloc V_=w0 at *;cases x)
 .skip
  gi_wp2_with (first|(gi_at_call 140;refine(Uy 2 (k.old rb id) _).mono ?_;rintro e S ⟨rfl,a,R,t,v,z⟩)|refine Fa t ?_);refine T_ 0 2 (by simp[results,results149,go_sem,FU z]) rfl ?_;exact Ci h hO hm hb C E (k.then a) v sN sN (.inl ⟨B.out.symm,GY.of⟩)
 .obtain⟨n,q,U⟩:=hx (by first|rfl|trivial);obtain⟨i,rfl,hi⟩:=(o.fd n (t_ q)).resolve_left U;obtain⟨O,_⟩:=hO.close hm hb hn hi q;have h1:=p.no k;have F:=λm=>nH m w1 K b r h1 hb hn wB
  have J:=ZB (l:=r.fds);obtain⟨s,H⟩:∃s,Yp (DF r.fds=s):=⟨_,rfl⟩;rw[H.out]at F J;by_cases I:s=0
  .subst I;gi_wp2_with (gi_at_call 204;refine(F _).mono ?_;rintro e w2 ⟨u,rfl⟩);gi_wp2_with (first|(gi_at_call 140;refine(Uy 7 ((k.then u).old rb id) _).mono ?_;rintro e S ⟨rfl,a,R,t,v,z⟩)|refine Fa t ?_);refine T_ 0 7 (by simp[results,results149,go_sem,FU z]) rfl ?_;exact BD (K':=K) (x:=0) (y:=7) h.lt C E (((BQ.no (k.then u) p.lt)).then a) ((p.no (k.then u)).no a) v wB wB (.inl rfl) (hO) (Rel.refl b K) hb (λ_=>hm) (.inr (.inl ⟨B.out.symm,H.out,GY.of⟩))
  .have f0:((s:Int)==0)=false:=(by simp;omega);gi_wp2_with (gi_at_call 204;refine(F _).mono ?_;rintro e w2 ⟨u,rfl⟩);have KK:=k.then u;have M:=p.no KK;obtain⟨g,c,q9,G,tg,ax4⟩:=M.rZ hb hn;have hfl:=(Oc.1 q).1;have f1:(fd:Int)<(r.fds.length:Int):=wB;have d:=G.Pm rfl q;refine Cc 10 37 ?_;gi_wp2;refine Ee ?_ ?_
   .intro W D;have d9:=D.has (w:=w2.drew) q9;have dd:=D.has (w:=w2.drew) d
    repeat' (refine AA ?_ ?_)
    all_goals first|exact dE|gi_wp2
   .intro W D;have KW:Aa No w2 W:=(Aa.refl No w2).drew.then D;have hW:=M.no KW;have cd:=λm=>nI m W K i hW hi O (by have:=hO.Ei.le i hi;rw[hO.Ei.ho i hi];exact this)
    gi_wp2_with (gi_at_call 193;refine(cd _).mono ?_;rintro e w3 ⟨rfl,N,Z⟩;obtain⟨g2,c2,p9,V,tg2,cc6⟩:=N.rZ (b:=b) hb hn;have d2:=V.Pm rfl q;have ce:=λm=>UY m w3 _ b (i:Int) r N hb hn wB (by rw[H.out];omega));gi_wp2_with (gi_at_call 200;refine(ce _).mono ?_;rintro e w4 ⟨j,A,rfl,h4,M4⟩);have P:=A.1;have hjl:=(Oc.1 P).1;obtain⟨Td,Y⟩:=hO.dup hm hb hn hi O P;have L:BQ K.T K.T w0 w4:=((BQ.no (KK.then KW) p.lt).trans Z).trans M4;gi_wp2_with (first|(gi_at_call 152;refine(Eg _ _ j wB).mono ?_;rintro e S ⟨rfl,a⟩;obtain⟨R,t,v,z⟩:=Az (x:=j) (y:=0) (f:=.nilFunc) (a.old (L.old rb X) id) rfl)|refine Fa t ?_);refine T_ j 0 (by simp[results,results149,go_sem,FU z]) rfl ?_;exact BD (K':=KS.Bj {K with desc:=Ah K.desc i (K.desc i+1)} b {r with fds:=r.fds.set j (i:Int)}) (x:=j) (y:=0) h.lt C E ((L).then a) ((h4).no a) v wB wB (.inl rfl) (Td) (Y) Ag (λ_=>hm) (.inr (.inr ⟨i,j,q,hi,A,rfl,rfl,rfl,rfl⟩))
end
theorem u333:(prog.underlying 333).map (λd=>match d with | .struct fs=>fs[0]?.map (λf=>(f.type,f.offset,f.byteOffset))|_=>none)=some (some (331,0,0)):=sU
theorem cf2:prog.cellsOf 333=1:=sU
theorem ce9:prog.cellsOf 335=1:=sU
theorem cf5:byteOfCell prog prog.depth 333 0=some 0:=sU
theorem bf2 {T:j_}(h:w.heap[b]?=some (N_ #[ptr p] T))(d:prog.cellsOf T=1)(hb:byteOfCell prog prog.depth T 0=some 0):(partAt (R_ b) 0 0).run prog w=.ok (R_ b) w:=by
 have a:w.shape? b=some (T,1):=by simp[World.shape?,h]
 simp[partAt,byteOf,noView,viewAt,a,d,hb,Result.andThen]
theorem Vh {t S:j_}{name:String}{f:h_}(r:((prog.info? t).bind fun i=>(i.methods.find? fun m=>m.name==name).map fun m=>(m.path.toList,m.func))=some ([⟨S,0,true⟩],some (f,false)))(q:(prog.underlying S).map (fun d=>match d with | .struct fs=>fs[0]?.map (fun f=>(f.type,f.offset,f.byteOffset))|_=>none)=some (some (331,0,0)))(h:w.heap[b]?=some (N_ #[ptr p] S))(s:prog.cellsOf S=1)(hb:byteOfCell prog prog.depth S 0=some 0):
  (method 468 t (Q_ b) name).run prog w=.ok (f,.agg #[]) w:=by
 cases hi:prog.info? t with
 |none=>rw[hi]at r;cases r
 |some i=>
  rw[hi]at r
  simp only[Option.bind_some]at r
  cases hf:i.methods.find? (λm=>m.name==name)with
  |none=>rw[hf]at r;cases r
  |some M=>
   rw[hf]at r
   simp only[Option.map_some,l7,lQ]at r
   obtain⟨m1,m2⟩:=r
   cases hd:prog.underlying S with
   |none=>rw[hd]at q;cases q
   |some d=>
    rw[hd]at q
    cases d with
    |struct fs=>
     simp only[Option.map_some,l7]at q
     cases hx:fs[0]? with
     |none=>rw[hx]at q;cases q
     |some F=>
      rw[hx]at q
      simp only[Option.map_some,l7,lQ]at q
      obtain⟨e,g,j⟩:=q
      have c:=bf2 h s hb
      have a:prog.underlying 331=some (.struct #[]):=sU
      rw[show(468:Nat)=467+1 from rfl]
      unfold method
      simp[typeInfo,hi,hf,m1,m2,follow,run_underlying hd,hx,e,g,j,Place.get,asAddr,fieldPlace,c,receiverAt,run_underlying a,loadVar,loadCells,loadCellsFrom,Result.andThen]
    |_=>simp at q
theorem u335:(prog.underlying 335).map (λd=>match d with | .struct fs=>fs[0]?.map (λf=>(f.type,f.offset,f.byteOffset))|_=>none)=some (some (331,0,0)):=sU
theorem cf4:byteOfCell prog prog.depth 335 0=some 0:=sU
theorem aq6 {w:World} (h:w.heap[b]?=some (.cells #[ptr p] 333 (0,0))):(method 468 330 (.pointer (some ⟨b,0,none⟩)) "Write").run prog w=.ok (268,.agg #[]) w:=Vh (by kernel_rfl) u333 h cf2 cf5
theorem aq9 {w:World} (h:w.heap[b]?=some (.cells #[ptr p] 333 (0,0))):(method 468 330 (.pointer (some ⟨b,0,none⟩)) "Seek").run prog w=.ok (267,.agg #[]) w:=Vh (by kernel_rfl) u333 h cf2 cf5
theorem aq8 {w:World} (h:w.heap[b]?=some (.cells #[ptr p] 335 (0,0))):(method 468 334 (.pointer (some ⟨b,0,none⟩)) "Seek").run prog w=.ok (267,.agg #[]) w:=Vh (by kernel_rfl) u335 h ce9 cf4
theorem ar1 {w:World} (h:w.heap[b]?=some (.cells #[ptr p] 335 (0,0))):(method 468 334 (.pointer (some ⟨b,0,none⟩)) "Read").run prog w=.ok (274,.agg #[]) w:=Vh (by kernel_rfl) u335 h ce9 cf4
theorem ar2 (b:Nat):∀w:World,(method 468 330 (.pointer (some ⟨b,0,none⟩)) "Read").run prog w=.ok (266,.pointer (some ⟨b,0,none⟩)) w:=λw=>by kernel_rfl
theorem aq5 (b:Nat):∀w:World,(method 468 334 (.pointer (some ⟨b,0,none⟩)) "Write").run prog w=.ok (275,.pointer (some ⟨b,0,none⟩)) w:=λw=>by kernel_rfl
theorem aq4 (b:Nat):∀w:World,(method 468 337 (.pointer (some ⟨b,0,none⟩)) "Write").run prog w=.ok (279,.pointer (some ⟨b,0,none⟩)) w:=λw=>by kernel_rfl
theorem aq7 (b:Nat):∀w:World,(method 468 337 (.pointer (some ⟨b,0,none⟩)) "Seek").run prog w=.ok (278,.pointer (some ⟨b,0,none⟩)) w:=λw=>by kernel_rfl
theorem ar0 (b:Nat):∀w:World,(method 468 337 (.pointer (some ⟨b,0,none⟩)) "Read").run prog w=.ok (277,.pointer (some ⟨b,0,none⟩)) w:=λw=>by kernel_rfl
section
variable (m:Nat)(w:o_)
theorem ab6 (v:n_):O_ m 268 #[.agg #[],v] w λe w'=>e=.returned (.agg #[a_ 0,a_ 2,.nilFunc])/\Aa No w w':=by
 have c:=λm w=>MV m w 2
 have h:Aa No w ((w.alloc (.cells #[] 331)).alloc V_):=((Aa.refl _ _).alloc _).alloc _;have rb:((w.alloc (.cells #[] 331)).alloc V_).heap[w.heap.size+1]?=some (N_ #[a_ 0,a_ 0,.nilFunc] 206):=by
  have:=Yw (w:=w.alloc (.cells #[] 331)) (o:=.cells #[a_ 0,a_ 0,.nilFunc] 206) rfl
  simpa using this
 gi_enter func268,ntmps268;gi_wp2_with (first|(gi_at_call 273;refine(c _ _).mono ?_;rintro e w1 ⟨rfl,d⟩;obtain⟨b,g,i,a⟩:=Az (x:=0) (y:=2) (f:=.nilFunc) (d.old rb id) rfl)|refine Fa g ?_);have ψ:b.cell? (R_ (w.heap.size+1))=some (a_ 0):=bce a rfl;have χ:b.cell? (S_ (w.heap.size+1) 1)=some (a_ 2):=bce a rfl;have φ:b.cell? (S_ (w.heap.size+1) 2)=some .nilFunc:=bce a rfl;refine T_ 0 2 (by simp[results,results268,go_sem,ψ,χ,φ]) rfl ?_;exact⟨rfl,(h.then d).trans i (λk j e=>qx j (by rw[show k=w.heap.size+1 from e];omega))⟩
theorem oH (v:n_):O_ m 267 #[.agg #[],v] w λe w'=>e=.returned (.agg #[a_ 0,a_ 2,.nilFunc])/\Aa No w w':=by
 have c:=λm w=>MV m w 2
 have h:Aa No w ((w.alloc (.cells #[] 331)).alloc V_):=((Aa.refl _ _).alloc _).alloc _;have rb:((w.alloc (.cells #[] 331)).alloc V_).heap[w.heap.size+1]?=some (N_ #[a_ 0,a_ 0,.nilFunc] 206):=by
  have:=Yw (w:=w.alloc (.cells #[] 331)) (o:=.cells #[a_ 0,a_ 0,.nilFunc] 206) rfl
  simpa using this
 gi_enter func267,ntmps267;gi_wp2_with (first|(gi_at_call 273;refine(c _ _).mono ?_;rintro e w1 ⟨rfl,d⟩;obtain⟨b,g,i,a⟩:=Az (x:=0) (y:=2) (f:=.nilFunc) (d.old rb id) rfl)|refine Fa g ?_);have ψ:b.cell? (R_ (w.heap.size+1))=some (a_ 0):=bce a rfl;have χ:b.cell? (S_ (w.heap.size+1) 1)=some (a_ 2):=bce a rfl;have φ:b.cell? (S_ (w.heap.size+1) 2)=some .nilFunc:=bce a rfl;refine T_ 0 2 (by simp[results,results267,go_sem,ψ,χ,φ]) rfl ?_;exact⟨rfl,(h.then d).trans i (λk j e=>qx j (by rw[show k=w.heap.size+1 from e];omega))⟩
theorem av4 (v:n_):O_ m 274 #[.agg #[],v] w λe w'=>e=.returned (.agg #[a_ 0,a_ 2,.nilFunc])/\Aa No w w':=by
 have c:=λm w=>MV m w 2
 have h:Aa No w ((w.alloc (.cells #[] 331)).alloc V_):=((Aa.refl _ _).alloc _).alloc _;have rb:((w.alloc (.cells #[] 331)).alloc V_).heap[w.heap.size+1]?=some (N_ #[a_ 0,a_ 0,.nilFunc] 206):=by
  have:=Yw (w:=w.alloc (.cells #[] 331)) (o:=.cells #[a_ 0,a_ 0,.nilFunc] 206) rfl
  simpa using this
 gi_enter func274,ntmps274;gi_wp2_with (first|(gi_at_call 273;refine(c _ _).mono ?_;rintro e w1 ⟨rfl,d⟩;obtain⟨b,g,i,a⟩:=Az (x:=0) (y:=2) (f:=.nilFunc) (d.old rb id) rfl)|refine Fa g ?_);have ψ:b.cell? (R_ (w.heap.size+1))=some (a_ 0):=bce a rfl;have χ:b.cell? (S_ (w.heap.size+1) 1)=some (a_ 2):=bce a rfl;have φ:b.cell? (S_ (w.heap.size+1) 2)=some .nilFunc:=bce a rfl;refine T_ 0 2 (by simp[results,results274,go_sem,ψ,χ,φ]) rfl ?_;exact⟨rfl,(h.then d).trans i (λk j e=>qx j (by rw[show k=w.heap.size+1 from e];omega))⟩
end
theorem JR:Oj prog 116 123 (a_ 0) 1 2:=⟨underlying116,sU,by rfl,sN,by intro x a;simp[Value.cells]at a;subst a;rfl⟩
theorem EJ (l:List Nat):∀x∈Aw l,x.oneCell'=true:=by
 intro x a;simp only[Aw,List.mem_map]at a;obtain⟨n,_,rfl⟩:=a
 rfl
theorem Vl {l:List Nat}{a:f_}(hR:Rw 123 1 w g n c (Aw l))(E:l.length=n)(B:∀j v,(Aw ws)[j]?=some v->w.cell? (a.add j)=some v)(C:ws.length=Nat.min CZ IY)(D:o+ws.length<=n):∃w',(Builtin.copy_ #[116,116] ty #[.slice (some (S_ g o)) IY IB,.slice (some a) CZ sCap]).run prog w=.ok (goInt (Nat.min CZ IY)) w'/\Aa (At g) w w'/\Rw 123 1 w' g n c (Aw (l.take o++ws++l.drop (o+ws.length))):=by
 obtain⟨d,y,p,z⟩:=hR.blk;have s:=hR.le;have b:(Aw ws).length=ws.length:=by simp[Aw]
 have k:d.toList.length=c*1:=by simpa using p
 have q:=zl (ty:=ty) (sT:=116) (IY:=IY) (IB:=IB) (CZ:=CZ) (sCap:=sCap) JR y (cs:=Aw ws) (o:=o) (by rw[b,C];simp) B (by rw[b,p];omega) (EJ ws);have t:(SH d.toList o (Aw ws)).length=c*1:=by rw[Ou (by rw[b,k];omega)];simpa using p
 refine⟨_,q,(Aa.refl _ _).setRow _ _ λ_=>rfl,VO hR t s ?_ (EJ _)⟩;apply List.ext_getElem?;intro j;have m:=UO (l:=d.toList) (cs:=Aw ws) (o:=o) (i:=j) (by rw[b,k];omega);have f:∀j,j<n->d.toList[j]?=(Aw l)[j]?:=λj r=>by rw[<-z,List.getElem?_take,rW wB]
 rw[List.getElem?_take];by_cases r:j<n*1
 .rw[rW r,m,b];have e:(Aw (l.take o++ws++l.drop (o+ws.length)))[j]?=((l.take o++ws++l.drop (o+ws.length))[j]?).map λx:Nat=>Value.int .u16 (x:Int):=by simp only[Aw,List.getElem?_map]
  rw[e,List.append_assoc,List.getElem?_append,List.getElem?_append];simp only[eP,List.getElem?_take,List.getElem?_drop];have A:min o l.length=o:=wB
  rw[A];by_cases h:j<o
  .rw[rW h,rW h,rW h,f j wB];simp[Aw]
  .rw[ru h,ru h];by_cases u:j<o+ws.length
   .rw[rW u,rW wB];simp[Aw]
   .rw[ru u,ru wB,f j wB];have e2:o+ws.length+(j-o-ws.length)=j:=wB;rw[e2];simp only[Aw,List.getElem?_map]
 .rw[ru r,List.getElem?_eq_none];simp[Aw];omega
theorem bl5 {d a:d_ f_}(h:Nat.min CZ IY=0):(Builtin.copy_ #[116,116] ty #[.slice d IY IB,.slice a CZ sCap]).run prog w=.ok (goInt 0) w:=yc JR h
section
variable (m:Nat)(w:o_)
theorem ac0 (g n cap i j:Nat)(xs:U_)(hR:Rw 123 1 w g n cap xs)(u:i<j)(z:j<=n):
  O_ m 271 #[P_ g n cap,b_ (i:Nat),b_ (j:Nat)] w λe w'=>e=.returned (P_ g (i+(n-j)) cap)/\Aa (At g) w w'/\Rw 123 1 w' g (i+(n-j)) cap (xs.take (i*1)++xs.drop (j*1)):=by
 have p:=hR.le;have r:¬((j:Int)<(i:Int)):=wB
 have s:¬((n:Int)<(j:Int)):=wB
 have t:¬((cap:Int)<(n:Int)):=wB
 by_cases a:cap=j
 all_goals
  gi_enter func271,ntmps271
  gi_wp2
  refine Cc 6 33 ?_
  gi_wp2
  refine Ee ?_ ?_
  .intro W f
   repeat' (refine AA ?_ ?_)
   all_goals first|exact dE|gi_wp2
  .intro W f;obtain⟨w1,b,h,l⟩:=al3 (w:=W) JR (hR.keep ((Aa.refl No w).drew.then f) id) u z;obtain⟨w2,d,k,o⟩:=Zh (c:=cap-(i+(n-j))) (q:=n-(i+(n-j))) (ty:=0) JR l wB;simp only[Nat.mul_one]at b d
   first|(rw[rW a]at b;simp only[a,Nat.sub_self]at b d)|rw[ru a]at b
   refine Dl rfl (.tmp 22) (.tmp 25) _ rfl rfl rfl b ?_;gi_wp2;go_ret;exact⟨by simp[a],(((Aa.refl _ _).drew.then f.no).then h).then k,o⟩
theorem VE (a:d_ f_)(n cap:Nat)(d:n<=cap):O_ m 271 #[.slice a n cap,b_ 0,b_ 0] w λe w'=>e=.returned (.slice a n cap)/\Aa No w w':=by
 cases a with
 |none=>
  gi_enter func271,ntmps271
  gi_wp2
  go_ret
  exact⟨sJ,Aa.refl _ _⟩
 |some a=>
  gi_enter func271,ntmps271
  gi_wp2
  go_ret
  exact⟨sJ,Aa.refl _ _⟩
end
def O1 (r:PR)(v:n_)(o n:Nat):Prop:=(v=.slice none 0 0/\n=0)\/∃g c,r.im=P_ g r.Af.length c/\v=.slice (some (S_ g o)) n n/\1<=n/\o+n<=r.Af.length
def SV (l:List Nat)(o:Nat)(ws:List Nat):List Nat:=l.take o++ws++l.drop (o+ws.length)
theorem bm0 (l:List Nat)(o:Nat):SV l o []=l:=by simp[SV]
def Zk (X:List Nat->(Nat->Ct)->Nat->Nat->n_->Prop)(K:KS)(b:Nat)(r:PR)(w:o_)(e:Ending)(w':o_):Prop:=∃(Af:List Nat) (ct:Nat->Ct) (x y:Nat) (f:n_),e=.returned (.agg #[a_ x,a_ y,f])/\x<65536/\y<65536/\MC K.T w' K.kb b f/\Af.length=r.Af.length/\(∀z∈Af,z<65536)/\AY (KS.Bj {K with ct:=ct} b {r with Af:=Af}) w'/\BQ K.T K.T w w'/\X Af ct x y f
theorem AY.lh {K:KS}{r:PR}(h:AY K w)(hb:K.ps b=some r)(j:r.en=false):∃g c,w.cell? (S_ b 8)=some (P_ g r.Af.length c)/\Rw 123 1 w g r.Af.length c (Aw r.Af)/\K.T g=(7,b)/\r.im=P_ g r.Af.length c:=by
 obtain⟨g,c,a,d,e⟩:=(h.ps b r hb).im j;exact⟨g,c,by rw[h.Iu hb];simp[PR.arr,a],d,e,a⟩
theorem AY.aj3 {K:KS}{r:PR}(h:AY K w)(hb:K.ps b=some r)(A:r.en=false)(u:r.im=P_ g r.Af.length c)(m:K.T g=(7,b))(q:Aa (At g) w w')(z:Rw 123 1 w' g r.Af.length c (Aw Af))(s:Af.length=r.Af.length):AY (K.Bj b {r with Af:=Af}) w'/\BQ K.T K.T w w':=by
 have M:CG K.T K.T (λt=>t=(6,b)\/t=(7,b)\/t=(8,b)\/t=(9,b)) (λt=>t=(6,b)\/t=(7,b)\/t=(8,b)\/t=(9,b)) w w':=CG.of (q.on λk _ e=>by subst e;exact .inr (.inl m)) h.lt;have a:=h.ps b r hb;have d:Aa (On K.T λt=>t=(7,b)) w w':=q.on λk _ e=>by subst e;exact m
 refine⟨h.lL M ⟨a.t,q.old a.o (λe=>?_),λ_=>⟨g,c,by rw[u];simp only[s],by simpa only[s]using z,m⟩,λe=>?_,a.bl.keep d sJ,λe=>qx e (by simp[A])⟩,M.Xu (by rintro t (rfl|rfl|rfl|rfl)<;>simp)⟩
 .have:=a.t;rw[show b=g from e,m]at this;simp at this
 .obtain⟨j,i,a1,a2,f⟩:=a.fd e;exact⟨j,i,a1,a2.keep d (by unfold On;rw[f];simp),f⟩
theorem FD {K:KS}{r:PR}(hb:K.ps b=some r):K.Bj b r=K:=by
 unfold KS.Bj;have e:CY K.ps b r=K.ps:=by funext k;unfold CY;split;rename_i e;rw[e,hb];rfl
 rw[e]
theorem JX {K:KS}{r:PR}{a:d_ f_}(h:AY K w)(hb:K.ps b=some r)(O:r.en=false)(hI:∀z∈r.Af,z<65536)(R:O1 r v o n)(U:∀x∈ws,x<65536)(M:ws.length=CZ)(Q:∀ad,a=some ad->∀j u,(Aw ws)[j]?=some u->w.cell? (ad.add j)=some u)(P:a=none->CZ=0):
  ∃w' k Af,(Builtin.copy_ #[116,116] ty #[v,.slice a CZ sCap]).run prog w=.ok (goInt (k:Nat)) w'/\k<=CZ/\k<=128+r.Af.length/\Af.length=r.Af.length/\(∀z∈Af,z<65536)/\AY (K.Bj b {r with Af:=Af}) w'/\BQ K.T K.T w w'/\Aa (On K.T λt=>t=(7,b)) w w'/\Yp (k=Nat.min CZ n/\Af=SV r.Af o (ws.take k)):=by
 have i:∀(d:d_ f_)(IY IB:Nat),Nat.min CZ IY=0->v=.slice d IY IB->IY=n->∃w' k Af,(Builtin.copy_ #[116,116] ty #[v,.slice a CZ sCap]).run prog w=.ok (goInt (k:Nat)) w'/\k<=CZ/\k<=128+r.Af.length/\Af.length=r.Af.length/\(∀z∈Af,z<65536)/\AY (K.Bj b {r with Af:=Af}) w'/\BQ K.T K.T w w'/\Aa (On K.T λt=>t=(7,b)) w w'/\Yp (k=Nat.min CZ n/\Af=SV r.Af o (ws.take k)):=λd IY IB f e F=>by
  subst e F
  exact⟨w,0,r.Af,bl5 f,wB,wB,rfl,hI,by rw[FD hb];exact h,BQ.no (Aa.refl _ _) h.lt,Aa.refl _ _,f.symm,by rw[List.take_zero,bm0]⟩
 obtain⟨rfl,e⟩|⟨g,c,p,rfl,I,L⟩:=R
 .exact i none 0 0 sJ rfl e.symm
 .cases a with
  |none=>exact i _ n n (by rw[P rfl];simp) rfl rfl
  |some ad=>
   obtain⟨G,E,_,hR,C,l⟩:=h.lh hb O
   obtain⟨rfl,rfl⟩:g=G/\c=E:=by rw[l]at p;simp at p;exact⟨p.1.symm,p.2.symm⟩
   have B:(ws.take (Nat.min CZ n)).length=Nat.min CZ n:=by rw[eP,M];exact Nat.min_eq_left (Nat.min_le_left _ _)
   have H:Nat.min CZ n<=n:=Nat.min_le_right _ _
   have m:Nat.min CZ n<=CZ:=Nat.min_le_left _ _
   obtain⟨w',J,A,D⟩:=Vl (ty:=ty) (sCap:=sCap) (IB:=n) (IY:=n) (o:=o) (a:=ad) hR rfl (ws:=ws.take (Nat.min CZ n)) (λj u q=>Q ad rfl j u (by
    simp only[Aw,List.map_take,List.getElem?_take]at q
    split at q
    .exact q
    .cases q)) B (by rw[B];omega)
   have y:(r.Af.take o++ws.take (Nat.min CZ n)++r.Af.drop (o+(ws.take (Nat.min CZ n)).length)).length=r.Af.length:=by
    simp only[g_,eP,List.length_drop,M]
    have:min (Nat.min CZ n) CZ=Nat.min CZ n:=Nat.min_eq_left m
    rw[this];omega
   have s:=h.aj3 hb O l C A D y;refine⟨w',Nat.min CZ n,_,J,m,wB,y,λz f=>?_,s.1,s.2,A.on λk _ e=>(by subst e;exact C),rfl,rfl⟩;obtain f|f:=eF.1 f
   .obtain f|f:=eF.1 f
    .exact hI z (List.mem_of_mem_take f)
    .exact U z (List.mem_of_mem_take f)
   .exact hI z (List.mem_of_mem_drop f)
theorem EX {X:List Nat->(Nat->Ct)->Nat->Nat->n_->Prop}{ct:Nat->Ct}{x:Nat}{K:KS}{r:PR}(h:∀k,w.heap.size<=k->K.T k=(0,0))(j:Aa No w w0)(q:BQ K.T K.T w0 w7)(m:AY (KS.Bj {K with ct:=ct} b {r with Af:=Af}) w7)(d:Aa (At w.heap.size) w7 w8)(A:x<65536)(B:y<65536)(s:MC K.T w7 K.kb b f)(u:Af.length=r.Af.length)(hI:∀z∈Af,z<65536)(hX:X Af ct x y f):Zk X K b r w (.returned (.agg #[a_ x,a_ y,f])) w8:=by
 have a:K.T w.heap.size=(0,0):=h _ w_;have c:Aa (On K.T λt=>t=(0,0)) w7 w8:=d.on λk _ e=>by rw[show k=w.heap.size from e];exact a
 exact⟨Af,ct,x,y,f,rfl,A,B,s.keep c sJ,u,hI,m.own d a,((BQ.no j h).trans q).own d (λk e=>by rw[show k=w.heap.size from e];exact w_),hX⟩
def ai5 (T:Tag)(p:Nat)(ws:List Nat)(v:n_)(W:o_):Prop:=(∃a n c,v=.slice a n c)/\Tf T W p 16 v ws
theorem Tf.shape {T:Tag}{M:Nat}(h:Tf T w b M v ws):∃(a:d_ f_) (c:Nat),v=.slice a ws.length c/\ws.length<=c/\ws.length<=M/\(∀x∈ws,x<65536)/\(a=none->ws.length=0)/\(∀ad,a=some ad->∀j u,(Aw ws)[j]?=some u->w.cell? (ad.add j)=some u):=by
 obtain⟨rfl,rfl⟩|⟨g,c,rfl,hR,d,f,_⟩:=h
 .exact⟨none,0,rfl,sJ,sJ,sJ,λ_=>rfl,λad e=>by cases e⟩
 .exact⟨_,c,rfl,hR.le,d,f,λe=>(by cases e),λad e=>by cases e;exact hR.cells⟩
section
variable (m:Nat)(w:o_)
theorem Ξ (T:Tag)(p k:Nat)(v:n_)(ws:List Nat)(h:Tf T w p 16 v ws)(r:∀a n c,v=.slice a n c->k<=n):O_ m 271 #[v,b_ 0,b_ (k:Nat)] w λe w'=>∃u,e=.returned u/\ai5 T p (ws.drop k) u w'/\Aa (On T λt=>t=(15,p)) w w':=by
 obtain⟨rfl,rfl⟩|⟨g,c,rfl,hR,l,i,f⟩:=h
 .have:=r _ _ _ rfl;obtain rfl:k=0:=wB
  refine(VE m w none 0 0 wB).mono ?_;rintro e w' ⟨rfl,b⟩;exact⟨_,rfl,⟨⟨_,_,_,rfl⟩,.inl ⟨rfl,rfl⟩⟩,b.no⟩
 .have r:=r _ _ _ rfl;by_cases q:k=0
  .subst q;refine(VE m w _ _ _ hR.le).mono ?_;rintro e w' ⟨rfl,b⟩;exact⟨_,rfl,⟨⟨_,_,_,rfl⟩,.inr ⟨g,c,rfl,hR.keep b id,l,i,f⟩⟩,b.no⟩
  .refine(ac0 m w g ws.length c 0 k _ hR wB r).mono ?_;rintro e w' ⟨rfl,b,j⟩;have d:(ws.drop k).length=0+(ws.length-k):=sJ;refine⟨_,rfl,⟨⟨_,_,_,rfl⟩,.inr ⟨g,c,by rw[d],?_,by rw[d];omega,λx o=>i x (List.mem_of_mem_drop o),f⟩⟩,b.on λx _ e=>by subst e;exact f⟩;rw[d];simpa [Aw,List.map_drop]using j
def XRd (K:KS)(p:Nat)(r:PR)(o n:Nat):List Nat->(Nat->Ct)->Nat->Nat->n_->Prop:=λAf ct x y f=>
 (1<=n/\(K.ct p).starved=true/\Af=r.Af/\ct=K.ct/\x=0/\y=0/\f=.func (.func 270) #[ptr p] #[])\/
 ((n=0\/(K.ct p).starved=false)/\x=Nat.min (K.ct p).ws.length n/\Af=SV r.Af o ((K.ct p).ws.take x)/\ct=Ah K.ct p { K.ct p with ws:=(K.ct p).ws.drop x}/\y=0/\f=.nilFunc)
theorem ao5 (K:KS)(b e0 o n:Nat)(r:PR)(v:n_)(h:AY K w)(hb:K.ps b=some r)(hn:r.en=false)(hI:∀z∈r.Af,z<65536)(te:K.T e0=(13,0))(hv:O1 r v o n):
  O_ m 266 #[Q_ e0,v] w (Zk (XRd K (K.ct e0).n r o n) K b r w):=by
 obtain⟨K0,rb,_⟩:=IE w;have M:=h.no K0;have Hl:K.T w.heap.size=(0,0):=h.lt _ w_;obtain⟨d0,rfl⟩:∃d,v=.slice d n n:=by
  obtain⟨rfl,rfl⟩|⟨g,c,_,rfl,_⟩:=hv
  .exact⟨none,rfl⟩
  .exact⟨_,rfl⟩
 obtain⟨he,j⟩:=M.fl.rend e0 te;generalize (K.ct e0).n=p at*;have d1:(w.alloc V_).cell? (R_ e0)=some (Q_ p):=(Ai he 0).trans rfl;have A:∀w1,Aa No (w.alloc V_) w1->∃(a:d_ f_) (G D k:Nat) (Af:List Nat) (w2:o_),w1.cell? (R_ e0)=some (Q_ p)/\w1.cell? (R_ p)=some (.slice a G D)/\(Builtin.copy_ #[116,116] 3 #[.slice d0 n n,.slice a G D]).run prog w1=.ok (goInt (k:Nat)) w2/\k<=G/\G<=16/\Af.length=r.Af.length/\(∀z∈Af,z<65536)/\AY (K.Bj b {r with Af:=Af}) w2/\BQ K.T K.T w1 w2/\w2.heap[p]?=some (N_ #[.slice a G D,.bool (K.ct p).x,.bool (K.ct p).y] 329)/\Tf K.T w2 p 16 (.slice a G D) (K.ct p).ws/\Yp (k=Nat.min (K.ct p).ws.length n/\Af=SV r.Af o ((K.ct p).ws.take k))/\w2.cell? (R_ e0)=some (Q_ p):=λw1 B=>by
  have h1:=M.no B
  obtain⟨u,hp,hu⟩:=h1.fl.pipe p j
  obtain⟨a,D,rfl,hwc,hw16,hwx,hwn,hws⟩:=hu.shape
  obtain⟨w2,k,Af,BJ,hk,_,Jl,aj,Ib,hM2,Q,l⟩:=JX (ty:=3) (sCap:=D) h1 hb hn hI hv hwx rfl hws hwn
  have L:=B.has d1
  exact⟨a,(K.ct p).ws.length,D,k,Af,w2,L,(Ai hp 0).trans rfl,BJ,hk,hw16,Jl,aj,Ib,hM2,Q.old hp (by unfold On;rw[j];simp),hu.keep Q sJ,l,(Q.cell (l9 _ _ L) (by unfold On;rw[te];simp)).trans L⟩
 by_cases hz:n=0
 .subst hz;have B:Aa No (w.alloc V_) (w.alloc V_):=Aa.refl _ _;obtain⟨a,G,D,k,Af,w2,d1,d2,hcp,R,cy5,Jl,aj,h2,M2,q,S,l,e1⟩:=A _ B;clear A;have iq:=l9 _ _ e1;have V:=Dt q;have e2:w2.cell? (R_ p)=some (.slice a G D):=(Ai q 0).trans rfl;gi_enter func266,ntmps266;gi_wp2;generalize hw0:w.alloc V_=w0 at*;refine Dx (P:=prog) _ rfl rfl sU 13 48 [0,1,2,3,4,5,6,7,8,9,10,11] [12] sU (by rfl)
   (Oi (On K.T λt=>t=(15,p)) w2.drew 12 (ai5 K.T p ((K.ct p).ws.drop k)) []) (Gj sJ sJ) _ _ rfl rfl ?_;have cD:=λm=>Ξ m w2.drew K.T p k _ _ (S.set (Aa.refl No w2).drew (λ_ _=>id)) (λ_ _ _ e=>by cases e;exact R)
  gi_wp2_with (gi_at_call 271;refine(cD _).mono ?_;rintro e w3 ⟨u3,rfl,_,_⟩);refine⟨rfl,sU,Et,?_,?_,?_⟩
  .intro L' u W hI;have d1:=(hI.1.cell (w:=w2.drew) (p:=(R_ e0)) iq (by unfold On;rw[te];simp)).trans e1;have d2:=(hI.1.cell (w:=w2.drew) (p:=(R_ p)) V (by unfold On;rw[j];simp)).trans e2
   repeat' (refine AA ?_ ?_)
   all_goals first|exact dE|gi_wp2
  .intro i hi L' u W hI N hu;obtain rfl:i=12:=(by simpa using hi);obtain rfl:=hI.2.1 N;refine BI rfl λKK Ol=>?_
   show wpListIn NF m prog _ _ _ (Act.put _ (some 43) (u 12)) _;gi_wp2_with (gi_at_call 271;refine(cD _).mono ?_;rintro e w3 ⟨u3,rfl,O,C⟩);exact⟨_,rfl,Gl hI sJ C O⟩
  .intro L' u W hI hL;obtain⟨⟨J,X,c3,E⟩,F⟩:=hI.2.2.1 (hL 12 sJ);show wpListIn NF m prog _ _ _ (Act.put _ (some 43) (u 12)) _;rw[E];rw[E]at F;have C:Aa (On K.T λt=>t=(15,p)) w2 W:=(Aa.refl _ w2).drew.then hI.1;have s:=C.old q (by unfold On;rw[j];simp);have q3:W.cell? (R_ p)=some _:=(Ai s 0).trans rfl;have z3:=Cf s 0;have e1':=(C.cell (p:=(R_ e0)) iq (by unfold On;rw[te];simp)).trans e1;gi_wp2_with fail;have K4:Aa (λx=>x=p\/K.T x=(15,p)) w2 (W.setCell (R_ p) (.slice J X c3)):=(C.mono λx _ e=>.inr e).setCell _ λ_=>.inl rfl
   have s4:=AY.lY (b0:=p) (Qz:=Ah K.ct p { K.ct p with ws:=(K.ct p).ws.drop k}) h2 K4 (λx U=>by
    obtain rfl|U:=U
    .exact .inl ⟨rfl,by show(K.T x).1≠15;rw[j];simp⟩
    .exact .inr U) (by show 10<=(K.T p).1;rw[j];simp) (by show(K.T p).1<15;rw[j];simp) (EN.WI (T:=K.T) (v:=.slice J X c3) j ((Ap s _).trans (by simp[Ah])) (by have:=F.set (Aa.O8 (b:=p) (o:=0) (.slice J X c3)) (λg hg e=>by rw[show g=p from e,j]at hg;simp at hg);simpa [Ah]using this)) (λb hb=>ru hb) (λe=>qx (j.symm.trans e) sJ)
   have LU:BQ K.T K.T w0 _:=((BQ.no B M.lt).trans M2).trans s4.2;gi_wp2_with (first|(gi_at_call 272;refine(Dp _ _ k wB).mono ?_;rintro e wz ⟨rfl,I⟩;obtain⟨w8,Y,Z,H⟩:=Az (x:=k) (y:=0) (f:=.nilFunc) (I.old (LU.old rb Hl) id) rfl)|refine Fa Y ?_);refine T_ k 0 (by simp[results,results266,go_sem,FU H]) rfl ?_;exact EX (x:=k) (y:=0) h.lt K0 ((LU).then I) ((s4.1).no I) Z wB wB (.inl rfl) (Jl) (aj) (.inr ⟨.inl rfl,l.out.1,l.out.2,rfl,rfl,rfl⟩)
 .have f1:(0:Int)<(n:Int):=wB
  have cs:=λm=>ZA m _ K p M j
  gi_enter func266,ntmps266;gi_wp2_with (first|(gi_at_call 270;refine(cs _).mono ?_;rintro e w1 ⟨B,xb,rfl,hxb⟩;obtain⟨a,G,D,k,Af,w2,d1,d2,hcp,R,cy5,Jl,aj,h2,M2,q,S,l,e1⟩:=A w1 B;clear A;generalize hw0:w.alloc V_=w0 at *;obtain⟨w8,Y,Z,H⟩:=Az (x:=0) (y:=0) (f:=.func (.func 270) #[Q_ p] #[]) (B.old rb id) rfl;have iq:=l9 _ _ e1;have V:=Dt q;have e2:w2.cell? (R_ p)=some (.slice a G D):=(Ai q 0).trans rfl;cases xb)|refine Fa Y ?_)
  .clear Y Z H;refine Dx (P:=prog) _ rfl rfl sU 13 48 [0,1,2,3,4,5,6,7,8,9,10,11] [12] sU (by rfl)
    (Oi (On K.T λt=>t=(15,p)) w2.drew 12 (ai5 K.T p ((K.ct p).ws.drop k)) []) (Gj sJ sJ) _ _ rfl rfl ?_;have cD:=λm=>Ξ m w2.drew K.T p k _ _ (S.set (Aa.refl No w2).drew (λ_ _=>id)) (λ_ _ _ e=>by cases e;exact R)
   gi_wp2_with (gi_at_call 271;refine(cD _).mono ?_;rintro e w3 ⟨u3,rfl,_,_⟩);refine⟨rfl,sU,Et,?_,?_,?_⟩
   .intro L' u W hI;have d1:=(hI.1.cell (w:=w2.drew) (p:=(R_ e0)) iq (by unfold On;rw[te];simp)).trans e1;have d2:=(hI.1.cell (w:=w2.drew) (p:=(R_ p)) V (by unfold On;rw[j];simp)).trans e2
    repeat' (refine AA ?_ ?_)
    all_goals first|exact dE|gi_wp2
   .intro i hi L' u W hI N hu;obtain rfl:i=12:=(by simpa using hi);obtain rfl:=hI.2.1 N;refine BI rfl λKK Ol=>?_
    show wpListIn NF m prog _ _ _ (Act.put _ (some 43) (u 12)) _;gi_wp2_with (gi_at_call 271;refine(cD _).mono ?_;rintro e w3 ⟨u3,rfl,O,C⟩);exact⟨_,rfl,Gl hI sJ C O⟩
   .intro L' u W hI hL;obtain⟨⟨J,X,c3,E⟩,F⟩:=hI.2.2.1 (hL 12 sJ);show wpListIn NF m prog _ _ _ (Act.put _ (some 43) (u 12)) _;rw[E];rw[E]at F;have C:Aa (On K.T λt=>t=(15,p)) w2 W:=(Aa.refl _ w2).drew.then hI.1;have s:=C.old q (by unfold On;rw[j];simp);have q3:W.cell? (R_ p)=some _:=(Ai s 0).trans rfl;have z3:=Cf s 0;have e1':=(C.cell (p:=(R_ e0)) iq (by unfold On;rw[te];simp)).trans e1;gi_wp2_with fail;have K4:Aa (λx=>x=p\/K.T x=(15,p)) w2 (W.setCell (R_ p) (.slice J X c3)):=(C.mono λx _ e=>.inr e).setCell _ λ_=>.inl rfl
    have s4:=AY.lY (b0:=p) (Qz:=Ah K.ct p { K.ct p with ws:=(K.ct p).ws.drop k}) h2 K4 (λx U=>by
     obtain rfl|U:=U
     .exact .inl ⟨rfl,by show(K.T x).1≠15;rw[j];simp⟩
     .exact .inr U) (by show 10<=(K.T p).1;rw[j];simp) (by show(K.T p).1<15;rw[j];simp) (EN.WI (T:=K.T) (v:=.slice J X c3) j ((Ap s _).trans (by simp[Ah])) (by have:=F.set (Aa.O8 (b:=p) (o:=0) (.slice J X c3)) (λg hg e=>by rw[show g=p from e,j]at hg;simp at hg);simpa [Ah]using this)) (λb hb=>ru hb) (λe=>qx (j.symm.trans e) sJ)
    have LU:BQ K.T K.T w0 _:=((BQ.no B M.lt).trans M2).trans s4.2;gi_wp2_with (first|(gi_at_call 272;refine(Dp _ _ k wB).mono ?_;rintro e wz ⟨rfl,I⟩;obtain⟨w8,Y,Z,H⟩:=Az (x:=k) (y:=0) (f:=.nilFunc) (I.old (LU.old rb Hl) id) rfl)|refine Fa Y ?_);refine T_ k 0 (by simp[results,results266,go_sem,FU H]) rfl ?_;exact EX (x:=k) (y:=0) h.lt K0 ((LU).then I) ((s4.1).no I) Z wB wB (.inl rfl) (Jl) (aj) (.inr ⟨.inr hxb.out.symm,l.out.1,l.out.2,rfl,rfl,rfl⟩)
  .have ψ:w8.cell? (R_ w.heap.size)=some (a_ 0):=bce H rfl;have χ:w8.cell? (S_ w.heap.size 1)=some (a_ 0):=bce H rfl;have φ:w8.cell? (S_ w.heap.size 2)=some (.func (.func 270) #[Q_ p] #[]):=bce H rfl;refine bodyPost_ret (v:=.agg #[a_ 0,a_ 0,.func (.func 270) #[Q_ p] #[]]) (by simp[results,results266,go_sem,ψ,χ,φ]) rfl ?_;exact EX (x:=0) (y:=0) (Af:=r.Af) (ct:=K.ct) h.lt K0 (BQ.no B M.lt) (by rw[show KS.Bj {K with ct:=K.ct} b {r with Af:=r.Af}=K from FD hb];exact M.no B) Z wB wB (.inr (.inr ⟨p,.inl rfl,j⟩)) rfl hI (.inl ⟨wB,hxb.out.symm,rfl,rfl,rfl,rfl,rfl⟩)
end
end Go.Fxa
