/- The table: Drop; is there room -/
import Derived.Test.YtmhplpfpcnjekaaGreatA23
namespace Go.Fxa
open Conc Proofs RowKit Proofs.Tryz
set_option maxRecDepth 1000000
set_option maxHeartbeats 0
def KS.drop (K:KS) (i:Nat):KS:=
 if K.desc i=1 then match K.ef i with
  |some f=>{ K with desc:=Ar K.desc i 0,ef:=Ar K.ef i none,op:=Ar K.op f (K.op f-1),nl:=K.nl.filter λk=>!(Ar K.op f (K.op f-1) k==0) }
  |none=>{ K with desc:=Ar K.desc i 0,ef:=Ar K.ef i none }
 else { K with desc:=Ar K.desc i (K.desc i-1) }
theorem WB {α:Type} {f:Nat->α} {i:Nat} {a b:α}:Ar (Ar f i a) i b=Ar f i b:=by funext k;unfold Ar;split<;>rfl
theorem ah8 (b:Nat):∀w:World,(method 468 337 (.pointer (some ⟨b,0,none⟩)) "ferry/files.close").run prog w=.ok (280,.pointer (some ⟨b,0,none⟩)) w:=λw=>by kernel_rfl
theorem ai0 (b:Nat):∀w:World,(method 468 330 (.pointer (some ⟨b,0,none⟩)) "ferry/files.close").run prog w=.ok (269,.pointer (some ⟨b,0,none⟩)) w:=λw=>by kernel_rfl
theorem ah9 (b:Nat):∀w:World,(method 468 334 (.pointer (some ⟨b,0,none⟩)) "ferry/files.close").run prog w=.ok (276,.pointer (some ⟨b,0,none⟩)) w:=λw=>by kernel_rfl
section
variable (m:Nat) (w:o_)
theorem uo (K:KS) (i:Nat) (h:AV K w) (hi:i<20) (hd:0<K.desc i) (JM:K.desc i<=1000) (hu:K.nl.length<=100000) (ho:∀f,K.ef i=some f->1<=K.op f/\K.op f<=100000):
  P_ m 155 #[.pointer (some (T_ K.kb 21)),b_ (i:Nat)] w λe w'=>e=.returned (.tuple #[])/\AV (K.drop i) w'/\BM K.T K.T w w':=by
 obtain⟨v,t,I,J,D⟩:=h.uU hi;have E:=D hd;have F:(i:Int)<20:=by omega
 have H:=h.yx (21+i*2+1);by_cases k:K.desc i=1
 .have g:=h.yO (n:=0) hi hd;simp only[Int.natCast_zero]at g;obtain⟨b,⟨rfl,f,s,a⟩|⟨rfl,s,a⟩|⟨rfl,s,a⟩⟩:=E
  .have c:=λm=>wY m _ _ b f g.1 s hu (ho f a).1 (ho f a).2
   have A:=ah8 b;simp only[ptr]at t;gi_enter func155,ntmps155;gi_wp2_with (gi_at_call 280;refine(c _).mono ?_;rintro e w2 ⟨rfl,d,l⟩;obtain⟨B,u,x,_⟩:=d.uU hi;have y:=d.yx (21+i*2);have z:=d.yx (21+i*2+1));go_end0;unfold KS.drop;rw[if_pos k,a];have j:=d.lu (i:=i) (n:=0) (v:=.nilIface) (o:=none) hi rfl (λh=>absurd h (by omega)) (w':=(w2.setCell (T_ K.kb (21+i*2)) .nilIface).setCell (T_ K.kb (21+i*2+1)) (b_ 0)) (Keep.setCell (Keep.setCell (p_ (At K.kb) w2) _ (p:=(T_ K.kb (21+i*2))) λ_=>rfl) _ (p:=(T_ K.kb (21+i*2+1))) λ_=>rfl) (λq r=>Ah (Ah r _) _);rw[WB]at j;exact⟨by simp,j.1,(g.2.trans l).trans j.2⟩
  .have c:=λm=>wI m _ _ b g.1 s
   have A:=ai0 b;simp only[ptr]at t;gi_enter func155,ntmps155;gi_wp2_with (gi_at_call 269;refine(c _).mono ?_;rintro e w2 ⟨rfl,d,l⟩;obtain⟨B,u,x,_⟩:=d.uU hi;have y:=d.yx (21+i*2);have z:=d.yx (21+i*2+1));go_end0;unfold KS.drop;rw[if_pos k,a];have j:=d.lu (i:=i) (n:=0) (v:=.nilIface) (o:=none) hi rfl (λh=>absurd h (by omega)) (w':=(w2.setCell (T_ K.kb (21+i*2)) .nilIface).setCell (T_ K.kb (21+i*2+1)) (b_ 0)) (Keep.setCell (Keep.setCell (p_ (At K.kb) w2) _ (p:=(T_ K.kb (21+i*2))) λ_=>rfl) _ (p:=(T_ K.kb (21+i*2+1))) λ_=>rfl) (λq r=>Ah (Ah r _) _);rw[WB]at j;exact⟨by simp,j.1,(g.2.trans l).trans j.2⟩
  .have c:=λm=>vN m _ _ b g.1 s
   have A:=ah9 b;simp only[ptr]at t;gi_enter func155,ntmps155;gi_wp2_with (gi_at_call 276;refine(c _).mono ?_;rintro e w2 ⟨rfl,d,l⟩;obtain⟨B,u,x,_⟩:=d.uU hi;have y:=d.yx (21+i*2);have z:=d.yx (21+i*2+1));go_end0;unfold KS.drop;rw[if_pos k,a];have j:=d.lu (i:=i) (n:=0) (v:=.nilIface) (o:=none) hi rfl (λh=>absurd h (by omega)) (w':=(w2.setCell (T_ K.kb (21+i*2)) .nilIface).setCell (T_ K.kb (21+i*2+1)) (b_ 0)) (Keep.setCell (Keep.setCell (p_ (At K.kb) w2) _ (p:=(T_ K.kb (21+i*2))) λ_=>rfl) _ (p:=(T_ K.kb (21+i*2+1))) λ_=>rfl) (λq r=>Ah (Ah r _) _);rw[WB]at j;exact⟨by simp,j.1,(g.2.trans l).trans j.2⟩
 .have g:=h.yO (n:=K.desc i-1) hi hd;have C:((K.desc i-1:Nat):Int)=(K.desc i:Int)-1:=by omega
  rw[C]at g;have G:((K.desc i:Int)-1==0)=false:=by simp;omega
  gi_enter func155,ntmps155;gi_wp2;go_end0;unfold KS.drop;rw[if_neg k];exact⟨by simp,g.1,g.2⟩
theorem Xe (K:KS) (b n:Nat) (r:PR) (h:AV K w) (hb:K.ps b=some r) (hn:r.en=false) (hl:r.fds.length<=1000):
  P_ m 198 #[R_ K.kb,R_ b,b_ (n:Nat)] w λe w'=>((e=.returned (a_ 0)/\n<=FK r.fds/\n<=I5 K.desc 20)\/∃x:Nat,e=.returned (a_ x)/\((x:Int) !=0)=true/\x<65536)/\Keep No w w':=by
 have c:=λm=>fM m w K b r h hb hn hl
 have c2:=λm w1 (i:Keep No w w1)=>af7 m w1 K (h.no i)
 generalize l:FK r.fds=s at c;generalize o:I5 K.desc 20=t at c2;gi_enter func198,ntmps198;by_cases j:s<n
 .have f:(s:Int)<n:=by omega
  gi_wp2_with (gi_at_call 204;refine(c _).mono ?_;rintro e w1 ⟨a,rfl⟩);go_ret;exact⟨.inr ⟨7,by simp,by decide,by omega⟩,a⟩
 .have f:¬(s:Int)<n:=by omega
  by_cases k:t<n
  .have g:(t:Int)<n:=(by omega);gi_wp2_with (first|(gi_at_call 204;refine(c _).mono ?_;rintro e w1 ⟨a,rfl⟩)|(gi_at_call 231;refine(c2 _ _ a).mono ?_;rintro e w2 ⟨d,rfl⟩));go_ret;exact⟨.inr ⟨8,by simp,by decide,by omega⟩,a.then d⟩
  .have g:¬(t:Int)<n:=(by omega);gi_wp2_with (first|(gi_at_call 204;refine(c _).mono ?_;rintro e w1 ⟨a,rfl⟩)|(gi_at_call 231;refine(c2 _ _ a).mono ?_;rintro e w2 ⟨d,rfl⟩));go_ret;exact⟨.inl ⟨by simp,by omega,by omega⟩,a.then d⟩
end
def Ej (d:Nat->Nat) (e:Nat->d_ Nat) (f:Nat):Nat:=BD (λi=>if 0<d i/\e i=some f then 1 else 0) (List.range 20)
theorem Xk {f:Nat->Nat}:∀{l:List Nat},(∀b∈l,f b<=1)->BD f l<=l.length
 |[],_=>by simp[BD]
 |b::l,h=>by
  have c:=h b (by simp)
  have d:=Xk (f:=f) (l:=l) λx a=>h x (by simp[a])
  simp only[BD,List.length_cons];omega
theorem O9 (d:Nat->Nat) (e:Nat->d_ Nat) (f:Nat):Ej d e f<=20:=by
 have:=Xk (f:=λi=>if 0<d i/\e i=some f then 1 else 0) (l:=List.range 20) (λb _=>by split<;>omega);simpa [Ej]using this
theorem TC {f:Nat->Nat}:∀{l:List Nat},1<=BD f l->∃b∈l,1<=f b
 |[],h=>by simp[BD]at h
 |b::l,h=>by
  simp only[BD]at h
  by_cases c:1<=f b
  .exact⟨b,by simp,c⟩
  .obtain⟨x,d,a⟩:=TC (f:=f) (l:=l) (by omega);exact⟨x,by simp[d],a⟩
theorem UL {α:Type} [DecidableEq α]:∀{l m:List α},l.Nodup->(∀x∈l,x∈m)->l.length<=m.length
 |[],_,_,_=>Nat.zero_le _
 |a::l,m,g,c=>by
  obtain⟨e,f⟩:=List.nodup_cons.1 g
  have b:a∈m:=c a (by simp)
  have:=UL (l:=l) (m:=m.erase a) f λx d=>(List.mem_erase_of_ne (by rintro rfl;exact e d)).2 (c x (by simp[d]))
  rw[List.length_erase_of_mem b]at this
  have h:=List.length_pos_of_mem b
  simp only[List.length_cons];omega
structure ED (H:Nat->Nat) (K:KS):Prop where
 ho:∀i,i<20->K.desc i=H i
 le:∀i,i<20->H i<=1000
 op:∀f,K.op f=Ej K.desc K.ef f
 nd:K.nl.Nodup
 nz:∀f∈K.nl,1<=K.op f
 nm:∀i j f,i<16->j<16->K.nm i=some f->K.nm j=some f->i=j
 dj:∀i f,i<16->K.nm i=some f->f ∉ K.nl
theorem ED.nl {H:Nat->Nat} {K:KS} (h:ED H K):K.nl.length<=20:=by
 have:=UL (l:=K.nl.map some) (m:=(List.range 20).map K.ef) (by
  have:=h.nd
  rw[List.Nodup,List.pairwise_map]
  exact this.imp (by intro a b c e;exact c (by simpa using e))) (λx o=>by
  obtain⟨f,j,rfl⟩:=List.mem_map.1 o
  have d:=h.nz f j
  rw[h.op f]at d
  obtain⟨i,n,g⟩:=TC d
  refine List.mem_map.2 ⟨i,n,?_⟩
  split at g
  .rename_i k;exact k.2
  .omega)
 simpa using this
theorem ED.eff {H:Nat->Nat} {K:KS} (h:ED H K) {i f:Nat} (hi:i<20) (hd:0<K.desc i) (he:K.ef i=some f):1<=K.op f/\K.op f<=100000:=by
 rw[h.op f];refine⟨?_,Nat.le_trans (O9 _ _ _) (by omega)⟩;have:=NL (f:=λi=>if 0<K.desc i/\K.ef i=some f then 1 else 0) (List.mem_range.2 hi);simp only[hd,he]at this;simpa [Ej]using this
theorem ED.congr {H H':Nat->Nat} {K:KS} (h:ED H K) (e:∀i,i<20->H' i=H i):ED H' K:=⟨λi a=>(h.ho i a).trans (e i a).symm,λi a=>by rw[e i a];exact h.le i a,h.op,h.nd,h.nz,h.nm,h.dj⟩
theorem ED.drop {H:Nat->Nat} {K:KS} (h:ED H K) {i:Nat} (hi:i<20) (hd:0<H i):ED (Ar H i (H i-1)) (K.drop i):=by
 have r:=h.ho i hi;have c:∀j,j<20->Ar H i (H i-1) j<=1000:=λj b=>by unfold Ar;split;have:=h.le i hi;omega;exact h.le j b
 unfold KS.drop;by_cases l:K.desc i=1
 .rw[if_pos l];have n:∀j,j<20->Ar K.desc i 0 j=Ar H i (H i-1) j:=λj b=>by
   unfold Ar;split
   .omega
   .exact h.ho j b
  have d:∀g,Ej (Ar K.desc i 0) (Ar K.ef i none) g+(if K.ef i=some g then 1 else 0)=Ej K.desc K.ef g:=λg=>by
   have:=Jf (f:=λj=>if 0<Ar K.desc i 0 j/\Ar K.ef i none j=some g then 1 else 0) (g:=λj=>if 0<K.desc j/\K.ef j=some g then 1 else 0) List.nodup_range (List.mem_range.2 hi) (λk p=>by simp only[Ar,if_neg p])
   have o:¬(0<Ar K.desc i 0 i/\Ar K.ef i none i=some g):=by simp[Ar]
   simp only[if_neg o,l]at this
   simp only[Ej]
   simpa using this
  cases he:K.ef i with
  |none=>
   refine⟨n,c,λf=>?_,h.nd,h.nz,h.nm,h.dj⟩
   have:=d f
   rw[he]at this
   simp only[h.op f]
   simpa using this.symm
  |some f=>
   refine⟨n,c,λg=>?_,h.nd.filter _,λg a=>?_,h.nm,λj g b a q=>h.dj j g b a (List.mem_filter.1 q).1⟩
   .have a:=d g;rw[he]at a;show Ar K.op f (K.op f-1) g=Ej (Ar K.desc i 0) (Ar K.ef i none) g;by_cases e:g=f
    .subst e;rw[if_pos rfl]at a;simp only[Ar,if_true,h.op]at a ⊢;omega
    .rw[if_neg (by simpa using Ne.symm e)]at a;have e2:Ar K.op f (K.op f-1) g=K.op g:=if_neg e;rw[e2,h.op g];omega
   .have:=(List.mem_filter.1 a).2;show 1<=Ar K.op f (K.op f-1) g;simp only[Bool.not_eq_true',beq_eq_false_iff_ne]at this;omega
 .rw[if_neg l];refine⟨λj b=>?_,c,λf=>?_,h.nd,h.nz,h.nm,h.dj⟩
  .show Ar K.desc i (K.desc i-1) j=_;unfold Ar;split
   .omega
   .exact h.ho j b
  .rw[h.op f];unfold Ej;refine BV λj _=>?_
   show _=if 0<Ar K.desc i (K.desc i-1) j/\K.ef j=some f then 1 else 0
   unfold Ar;split
   .rename_i m;split
    .rename_i e;subst e;rw[if_pos ⟨by omega,m.2⟩]
    .rfl
   .rename_i m;split
    .rename_i e;subst e;rw[if_neg (λh=>m ⟨by omega,h.2⟩)]
    .rfl
def I8 (ps:Nat->d_ PR) (i b:Nat):Nat:=match ps b with|some r=>r.fds.count (i:Int)|none=>0
def BF (ps:Nat->d_ PR) (l:List Nat) (i:Nat):Nat:=BD (I8 ps i) l
theorem GU {ps:Nat->d_ PR} {i b:Nat} {r:PR} (h:ps b=some r):I8 ps i b=r.fds.count (i:Int):=by unfold I8;rw[h]
structure Ih (N:Nat) (x:W_) (K:KS):Prop where
 le:N<=1000
 so:Sound N K.swap
 uM:VW K.swap
 xl:x.1+x.2<=N
 cnt:∀i,i<N->Dq i K.swap+BD (JR i K.ps) K.AP+Ny i x.1 x.2=1
 pl:∀b r,K.ps b=some r->r.sw+Aj r.Ag.length<=N
theorem Ih.sum {N:Nat} {x:Nat×Nat} {K:KS} (h:Ih N x K):GI K.swap+BD (onS K.ps) K.AP+x.2=N:=jh h.so h.pl h.xl h.cnt
theorem Ih.fit {N:Nat} {x:Nat×Nat} {K:KS} (h:Ih N x K):Fit N K.swap:=h.so.fit (by have:=h.sum;omega)
theorem Ih.same {N:Nat} {x:Nat×Nat} {K K':KS} (h:Ih N x K) (hc:K'.swap=K.swap) (hs:∀i,BD (JR i K'.ps) K'.AP=BD (JR i K.ps) K.AP) (hp:∀b r,K'.ps b=some r->r.sw+Aj r.Ag.length<=N):Ih N x K':=
 ⟨h.le,by rw[hc];exact h.so,by rw[hc];exact h.uM,h.xl,λi a=>by rw[hc,hs];exact h.cnt i a,hp⟩
structure PR.Ok (r:PR):Prop where
 A:r.A<65536
 B:r.B<65536
 P:r.P<65536
 st:r.st<65536
 pid:r.pid<=60000
 par:r.par<=60000
 Ag:∀x∈r.Ag,x<65536
 fds:r.en=false->r.fds.length=6
 fd:∀n∈r.fds,n=-1\/∃i:Nat,n=i/\i<20
 len:r.en=false->∃k,r.Ag.length=8*k/\1<=k/\k<=16
 off:r.en=true->r.fds=[]/\r.Ag=[]/\r.co=-1
def U8 (ps:Nat->d_ PR) (b b':Nat):Prop:=∀r r',ps b=some r->ps b'=some r'->r.pid<r'.pid
structure Ez (NC NS:Nat) (K:KS):Prop where
 th:K.EC
 nd:K.AP.Nodup
 len:K.AP.length<=12
 co:BR NC (0,0) K
 sw:Ih NS (0,0) K
 pr:∀b r,K.ps b=some r->r.Ok
 pid:∀b r,K.ps b=some r->1<=r.pid/\r.pid<=K.Cj
 asc:K.AP.Pairwise (U8 K.ps)
 Cj:K.Cj<=60000
 DV:ED (BF K.ps K.AP) K
theorem Ez.one {NC NS:Nat} {K:KS} (h:Ez NC NS K) (b:Nat) (r:PR) (b':Nat) (r':PR) (hm:b∈K.AP) (hm':b'∈K.AP) (hr:K.ps b=some r) (G7:K.ps b'=some r') (e:r.pid=r'.pid):b=b':=by
 have key:∀l:List Nat,l.Pairwise (U8 K.ps)->b∈l->b'∈l->b=b':=λl=>by
  induction l with
  |nil=>intro _ h;cases h
  |cons c l i=>
   intro g f a
   obtain⟨d,p2⟩:=List.pairwise_cons.1 g
   obtain e1|e1:=r_.1 f
   .obtain e2|e2:=r_.1 a
    .rw[e1,e2]
    .subst e1;have:=d _ e2 _ _ hr G7;omega
   .obtain e2|e2:=r_.1 a
    .subst e2;have:=d _ e1 _ _ G7 hr;omega
    .exact i p2 e1 e2
 exact key K.AP h.asc hm hm'
theorem U8.imp {ps ps':Nat->d_ PR} {l:List Nat} (h:l.Pairwise (U8 ps)) (hp:∀b r',b∈l->ps' b=some r'->∃r,ps b=some r/\r'.pid=r.pid):l.Pairwise (U8 ps'):=
 List.Pairwise.imp_of_mem (fun {a b} f g c r r' d e=>by
  obtain⟨q,e1,e2⟩:=hp a r f d
  obtain⟨i,e3,e4⟩:=hp b r' g e
  rw[e2,e4];exact c q i e1 e3) h
structure PR.Same (r r':PR):Prop where
 pid:r'.pid=r.pid
 st:r'.st=r.st
 en:r'.en=r.en
 A:r'.A=r.A
 B:r'.B=r.B
 P:r'.P=r.P
 Ag:r'.Ag=r.Ag
 fds:r'.fds=r.fds
theorem PR.Same.refl (r:PR):r.Same r:=⟨rfl,rfl,rfl,rfl,rfl,rfl,rfl,rfl⟩
theorem PR.Same.trans {r r' r'':PR} (h:r.Same r') (h':r'.Same r''):r.Same r'':=⟨h'.pid.trans h.pid,h'.st.trans h.st,h'.en.trans h.en,h'.A.trans h.A,h'.B.trans h.B,h'.P.trans h.P,h'.Ag.trans h.Ag,h'.fds.trans h.fds⟩
structure Rel (b:Nat) (K K':KS):Prop where
 keep:∀k r,k∈K.AP->K.ps k=some r->k≠b->(k∈K'.AP/\∃r',K'.ps k=some r'/\r.Same r')\/(k ∉ K'.AP/\r.en=true)
 come:∀k,k∈K'.AP->k∈K.AP\/(K.ps k=none/\∀r,K'.ps k=some r->K.Cj<r.pid)
 mono:∀k,K.ps k≠none->K'.ps k≠none
 me:∀r,K.ps b=some r->∃r',K'.ps b=some r'/\r'.pid=r.pid
 Cj:K.Cj<=K'.Cj
 kb:K'.kb=K.kb
 th:K.EC->K'.EC
theorem Rel.refl (b:Nat) (K:KS):Rel b K K:=⟨λ_ r a c _=>.inl ⟨a,r,c,.refl r⟩,λ_ h=>.inl h,λ_ h=>h,λr h=>⟨r,h,rfl⟩,w_ _,rfl,id⟩
theorem Rel.trans {b:Nat} {K K' K'':KS} (h:Rel b K K') (h':Rel b K' K'') (hb:K.ps b≠none) (hT:K.EC):Rel b K K'':=by
 refine⟨λk r g l q=>?_,λk j=>?_,λk j=>h'.mono k (h.mono k j),λr m=>?_,Nat.le_trans h.Cj h'.Cj,h'.kb.trans h.kb,λhT=>h'.th (h.th hT)⟩
 .obtain⟨a1,i,a2,p⟩|⟨a1,a2⟩:=h.keep k r g l q
  .obtain⟨f,n,a,o⟩|⟨f,a⟩:=h'.keep k i a1 a2 q
   .exact .inl ⟨f,n,a,p.trans o⟩
   .exact .inr ⟨f,by rw[<-p.en];exact a⟩
  .refine .inr ⟨λj=>?_,a2⟩;obtain c|⟨c,_⟩:=h'.come k j
   .exact a1 c
   .exact h.mono k (by rw[l];simp) c
 .obtain c|⟨s,c2⟩:=h'.come k j
  .obtain d|⟨d1,d2⟩:=h.come k c
   .exact .inl d
   .refine .inr ⟨d1,λr m=>?_⟩;by_cases e:k=b
    .subst e;exact absurd d1 hb
    .cases g:K'.ps k with
     |none=>obtain⟨i,l⟩:=h.th hT k c;rw[g]at l;cases l
     |some i=>
      obtain⟨_,n,a,o⟩|⟨f,_⟩:=h'.keep k i c g e
      .rw[m]at a;cases a;rw[o.pid];exact d2 i g
      .exact absurd j f
  .refine .inr ⟨?_,λr m=>Nat.lt_of_le_of_lt h.Cj (c2 r m)⟩;cases g:K.ps k with
   |none=>rfl
   |some r=>exact absurd s (h.mono k (by rw[g];simp))
 .obtain⟨i,a1,a2⟩:=h.me r m;obtain⟨n,f,a⟩:=h'.me i a1;exact⟨n,f,a.trans a2⟩
structure Maps (K K':KS) (g:Nat->PR->PR):Prop where
 ps:∀b,K'.ps b=(K.ps b).map (g b)
 AP:K'.AP=K.AP
 swap:K'.swap=K.swap
 desc:K'.desc=K.desc
 op:K'.op=K.op
 ef:K'.ef=K.ef
 nl:K'.nl=K.nl
 nm:K'.nm=K.nm
 Cj:K'.Cj=K.Cj
 kb:K'.kb=K.kb
 pid:∀b r,(g b r).pid=r.pid
 en:∀b r,(g b r).en=r.en
 Ag:∀b r,(g b r).Ag=r.Ag
 fds:∀b r,(g b r).fds=r.fds
 sw:∀b r,(g b r).sw=r.sw
theorem Maps.get {K K':KS} {g:Nat->PR->PR} (m:Maps K K' g) {b:Nat} {r:PR} (h:K.ps b=some r):K'.ps b=some (g b r):=by rw[m.ps,h];rfl
theorem Maps.back {K K':KS} {g:Nat->PR->PR} (m:Maps K K' g) {b:Nat} {r':PR} (h:K'.ps b=some r'):∃r,K.ps b=some r/\r'=g b r:=by
 rw[m.ps]at h;cases h1:K.ps b with
 |none=>rw[h1]at h;cases h
 |some r=>rw[h1]at h;exact⟨r,rfl,by simpa using h.symm⟩
theorem Maps.DV {K K':KS} {g:Nat->PR->PR} (m:Maps K K' g) (h:ED (BF K.ps K.AP) K):ED (BF K'.ps K'.AP) K':=by
 have e:∀i,BF K'.ps K'.AP i=BF K.ps K.AP i:=λi=>by
  unfold BF
  rw[m.AP]
  refine BV λb _=>?_
  unfold I8
  rw[m.ps]
  cases K.ps b with
  |none=>rfl
  |some r=>simp[m.fds]
 exact⟨λi a=>by rw[e,m.desc];exact h.ho i a,λi a=>by rw[e];exact h.le i a,by rw[m.op,m.desc,m.ef];exact h.op,by rw[m.nl];exact h.nd,by rw[m.nl,m.op];exact h.nz,by rw[m.nm];exact h.nm,by rw[m.nm,m.nl];exact h.dj⟩
theorem Maps.au7 {K K':KS} {g:Nat->PR->PR} (m:Maps K K' g) {N:Nat} {x:Nat×Nat} (h:Ih N x K):Ih N x K':=by
 refine h.same m.swap (λi=>?_) λb r c=>?_
 .rw[m.AP];refine BV λb _=>?_
  unfold JR;rw[m.ps];cases K.ps b with
  |none=>rfl
  |some r=>simp[m.Ag,m.sw]
 .obtain⟨r0,a,rfl⟩:=m.back c;rw[m.sw,m.Ag];exact h.pl b r0 a
theorem Ez.maps {NC NS:Nat} {K K':KS} {g:Nat->PR->PR} (h:Ez NC NS K) (m:Maps K K' g) (hg:∀b r,K.ps b=some r->(g b r).Ok) (hc:BR NC (0,0) K'):Ez NC NS K':=by
 refine⟨λb a=>?_,by rw[m.AP];exact h.nd,by rw[m.AP];exact h.len,hc,m.au7 h.sw,λb r a=>?_,λb r a=>?_,?_,by rw[m.Cj];exact h.Cj,m.DV h.DV⟩
 .rw[m.AP]at a;obtain⟨r,e⟩:=h.th b a;exact⟨_,m.get e⟩
 .obtain⟨r0,c,rfl⟩:=m.back a;exact hg b r0 c
 .obtain⟨r0,c,rfl⟩:=m.back a;rw[m.pid,m.Cj];exact h.pid b r0 c
 .rw[m.AP];refine U8.imp h.asc λb f _ a=>?_
  obtain⟨r0,d,rfl⟩:=m.back a;exact⟨r0,d,m.pid b r0⟩
theorem Maps.rel {K K':KS} {g:Nat->PR->PR} (m:Maps K K' g) (b:Nat) (hs:∀(k:Nat) (r:PR),k≠b->r.Same (g k r)):Rel b K K':=by
 refine⟨λk r d e f=>.inl ⟨by rw[m.AP];exact d,_,m.get e,hs k r f⟩,λk a=>.inl (by rw[m.AP]at a;exact a),λk a=>?_,λr c=>⟨_,m.get c,m.pid b r⟩,by rw[m.Cj];exact w_ _,m.kb,λi k a=>?_⟩
 .cases h:K.ps k with
  |none=>exact absurd h a
  |some r=>rw[m.get h];simp
 .rw[m.AP]at a;obtain⟨r,c⟩:=i k a;exact⟨_,m.get c⟩
theorem CJ.maps {K K':KS} (m:CJ K K'):∃f:Nat->Int,Maps K K' λb r=>{ r with co:=f b }:=by
 obtain⟨f,a⟩:=m.ps;exact⟨f,a,by rw[m.eq],by rw[m.eq],by rw[m.eq],by rw[m.eq],by rw[m.eq],by rw[m.eq],by rw[m.eq],by rw[m.eq],by rw[m.eq],λ_ _=>rfl,λ_ _=>rfl,λ_ _=>rfl,λ_ _=>rfl,λ_ _=>rfl⟩
theorem Ez.moved {NC NS:Nat} {K K':KS} (h:Ez NC NS K) (m:CJ K K') (hc:BR NC (0,0) K'):Ez NC NS K':=by
 obtain⟨f,m⟩:=m.maps;refine h.maps m (λb r c=>?_) hc;have o:=h.pr b r c;refine⟨o.A,o.B,o.P,o.st,o.pid,o.par,o.Ag,o.fds,o.fd,o.len,λe=>⟨(o.off e).1,(o.off e).2.1,?_⟩⟩;obtain a|⟨_,_,_,a⟩:=(hc.pl b _ (m.get c)).2
 .exact a
 .have:=(o.off e).2.1;simp only[this,Aj]at a;simp at a
theorem CJ.rel {K K':KS} (m:CJ K K') (b:Nat):Rel b K K':=by
 obtain⟨f,m⟩:=m.maps;exact m.rel b λ_ _ _=>⟨rfl,rfl,rfl,rfl,rfl,rfl,rfl,rfl⟩
theorem CJ.get {K K':KS} (m:CJ K K') {b:Nat} {r:PR} (h:K.ps b=some r):∃c,K'.ps b=some { r with co:=c }:=by
 obtain⟨f,m⟩:=m.maps;exact⟨_,m.get h⟩
theorem NH.maps {K K':KS} (m:NH K K'):∃f:Nat->Nat,Maps K K' λb r=>{ r with par:=f b }:=by
 obtain⟨f,a⟩:=m.ps;exact⟨f,a,by rw[m.eq],by rw[m.eq],by rw[m.eq],by rw[m.eq],by rw[m.eq],by rw[m.eq],by rw[m.eq],by rw[m.eq],by rw[m.eq],λ_ _=>rfl,λ_ _=>rfl,λ_ _=>rfl,λ_ _=>rfl,λ_ _=>rfl⟩
theorem Maps.az7 {K K':KS} {g:Nat->PR->PR} (m:Maps K K' g) (hc:K'.core=K.core) (Gz:∀b r,(g b r).co=r.co) {N:Nat} {x:Nat×Nat} (h:BR N x K):BR N x K':=by
 refine h.same hc (λi=>?_) λb r c=>?_
 .rw[m.AP];refine BV λb _=>?_
  unfold EX;rw[m.ps];cases K.ps b with
  |none=>rfl
  |some r=>simp[m.Ag,Gz]
 .obtain⟨r0,a,rfl⟩:=m.back c;rw[m.Ag,Gz];exact h.pl b r0 a
theorem Ez.bf2 {NC NS:Nat} {K K':KS} (h:Ez NC NS K) (m:NH K K') (hp:∀b r,K'.ps b=some r->K.ps b=some r\/r.par<=1):Ez NC NS K':=by
 have a:K'.core=K.core:=by rw[m.eq]
 obtain⟨f,m⟩:=m.maps;refine h.maps m (λb r d=>?_) (m.az7 a (λ_ _=>rfl) h.co);have o:=h.pr b r d;refine⟨o.A,o.B,o.P,o.st,o.pid,?_,o.Ag,o.fds,o.fd,o.len,o.off⟩;obtain c|c:=hp b _ (m.get d)
 .exact(h.pr b _ c).par
 .exact Nat.le_trans c (by omega)
theorem NH.rel {K K':KS} (m:NH K K') (b:Nat):Rel b K K':=by
 obtain⟨f,m⟩:=m.maps;exact m.rel b λ_ _ _=>⟨rfl,rfl,rfl,rfl,rfl,rfl,rfl,rfl⟩
theorem NZ {f:Nat->Nat} {p:Nat->Bool}:∀{l:List Nat},(∀b∈l,p b=false->f b=0)->BD f (l.filter p)=BD f l
 |[],_=>rfl
 |b::l,h=>by
  have a:=NZ (f:=f) (p:=p) (l:=l) λx c=>h x (by simp[c])
  cases hb:p b with
  |true=>rw[List.filter_cons_of_pos hb];simp only[BD,a]
  |false=>rw[List.filter_cons_of_neg (by simp[hb])];simp only[BD,a,h b (by simp) hb];omega
theorem iG {ps:Nat->d_ PR} {b:Nat} (h:(!YN ps b)=false):∃r,ps b=some r/\r.en=true:=by
 unfold YN at h;cases hb:ps b with
 |none=>rw[hb]at h;simp at h
 |some r=>rw[hb]at h;simp at h;exact⟨r,rfl,h.1⟩
theorem Ez.VX {NC NS:Nat} {K:KS} (h:Ez NC NS K):Ez NC NS K.VX:=by
 have d:∀b,b∈K.VX.AP->b∈K.AP:=λb a=>(List.mem_filter.1 a).1
 have f:∀b,(!YN K.ps b)=false->∃r,K.ps b=some r/\r.fds=[]/\r.Ag=[]/\r.co=-1:=λb a=>by
  obtain⟨r,c,e⟩:=iG a
  exact⟨r,c,(h.pr b r c).off e⟩
 refine⟨λb a=>h.th b (d b a),h.nd.filter _,Nat.le_trans (List.length_filter_le _ _) h.len,h.co.same rfl (λi=>?_) h.co.pl,h.sw.same rfl (λi=>?_) h.sw.pl,h.pr,h.pid,h.asc.filter _,h.Cj,?_⟩
 .show BD (EX i K.ps) (K.AP.filter λb=>!YN K.ps b)=_;exact NZ λb _ a=>by obtain⟨r,c,_,_,j⟩:=f b a;rw[DX c,if_pos j]
 .show BD (JR i K.ps) (K.AP.filter λb=>!YN K.ps b)=_;exact NZ λb _ a=>by obtain⟨r,c,_,g,_⟩:=f b a;rw[F5 c,g];exact Oj _ _
 .refine ED.congr (K:=K.VX) (H:=BF K.ps K.AP) ⟨h.DV.ho,h.DV.le,h.DV.op,h.DV.nd,h.DV.nz,h.DV.nm,h.DV.dj⟩ λi _=>?_
  show BD (I8 K.ps i) (K.AP.filter λb=>!YN K.ps b)=_;exact NZ λb _ a=>by obtain⟨r,c,e,_⟩:=f b a;rw[GU c,e];rfl
theorem fQ (K:KS) (b:Nat):Rel b K K.VX:=by
 refine⟨λk r e c _=>?_,λk a=>.inl (List.mem_filter.1 a).1,λ_ h=>h,λr i=>⟨r,i,rfl⟩,w_ _,rfl,λg k a=>g k (List.mem_filter.1 a).1⟩;cases hg:YN K.ps k with
 |false=>exact .inl ⟨List.mem_filter.2 ⟨e,by simp[hg]⟩,r,c,.refl r⟩
 |true=>
  obtain⟨j,d,f⟩:=iG (ps:=K.ps) (b:=k) (by simp[hg])
  rw[c]at d;cases d
  exact .inr ⟨λa=>by have:=(List.mem_filter.1 a).2;simp[hg]at this,f⟩
def Jq (b:Nat) (ps ps':Nat->d_ PR):Prop:=∀k,k≠b->∃c:Int,ps' k=(ps k).map λq=>{ q with co:=c }
theorem Jq.refl (b:Nat) (ps:Nat->d_ PR):Jq b ps ps:=λk _=>match h:ps k with
 |none=>⟨0,by simp⟩
 |some q=>⟨q.co,by simp⟩
theorem Jq.trans {b:Nat} {p q r:Nat->d_ PR} (h:Jq b p q) (h':Jq b q r):Jq b p r:=λk a=>by
 obtain⟨c,e⟩:=h k a;obtain⟨d,f⟩:=h' k a;exact⟨d,by rw[f,e];cases p k<;>rfl⟩
theorem Jq.set {b:Nat} {ps:Nat->d_ PR} {r:PR}:Jq b ps (Dz ps b r):=λk a=>by rw[BZ a];exact Jq.refl b ps k a
theorem CJ.else {K K':KS} (m:CJ K K') (b:Nat):Jq b K.ps K'.ps:=λk _=>by
 obtain⟨f,a⟩:=m.ps;exact⟨f k,a k⟩
theorem Jq.back {b k:Nat} {p q:Nat->d_ PR} (h:Jq b p q) (hk:k≠b) {r':PR} (hr:q k=some r'):∃r c,p k=some r/\r'={ r with co:=c }:=by
 obtain⟨c,a⟩:=h k hk;rw[a]at hr;cases h1:p k with
 |none=>rw[h1]at hr;cases hr
 |some r=>rw[h1]at hr;exact⟨r,c,rfl,by simpa using hr.symm⟩
theorem Jq.get {b k:Nat} {p q:Nat->d_ PR} (h:Jq b p q) (hk:k≠b) {r:PR} (hr:p k=some r):∃c,q k=some { r with co:=c }:=by
 obtain⟨c,a⟩:=h k hk;exact⟨c,by rw[a,hr];rfl⟩
theorem Ez.step {NC NS b:Nat} {K K':KS} {r r':PR} (h:Ez NC NS K) (dw:K'.AP=K.AP) (rP:K'.Cj=K.Cj) (hkb:K'.kb=K.kb) (hps:Jq b K.ps K'.ps) (hb:K.ps b=some r) (hb':K'.ps b=some r') (ho:r'.Ok) (Su:r'.pid=r.pid) (hc:BR NC (0,0) K') (hs:Ih NS (0,0) K') (ht:ED (BF K'.ps K'.AP) K'):Ez NC NS K'/\Rel b K K':=by
 have f:∀k q,K'.ps k=some q->∃g,K.ps k=some g/\q.pid=g.pid:=λk q a=>by
  by_cases e:k=b
  .subst e;rw[hb']at a;cases a;exact⟨r,hb,Su⟩
  .obtain⟨g,c,d,rfl⟩:=hps.back e a;exact⟨g,d,rfl⟩
 have l:K.EC->K'.EC:=λn k a=>by
  rw[dw]at a
  by_cases e:k=b
  .subst e;exact⟨_,hb'⟩
  .obtain⟨q,i⟩:=n k a;obtain⟨c,hc⟩:=hps.get e i;exact⟨_,hc⟩
 refine⟨⟨l h.th,by rw[dw];exact h.nd,by rw[dw];exact h.len,hc,hs,λk q a=>?_,λk q a=>?_,?_,by rw[rP];exact h.Cj,ht⟩,⟨λk q d j m=>?_,λk a=>.inl (by rw[dw]at a;exact a),λk a=>?_,λq i=>?_,by rw[rP];exact w_ _,hkb,l⟩⟩
 .by_cases e:k=b
  .subst e;rw[hb']at a;cases a;exact ho
  .obtain⟨g,c,d,rfl⟩:=hps.back e a;have o:=h.pr k g d;refine⟨o.A,o.B,o.P,o.st,o.pid,o.par,o.Ag,o.fds,o.fd,o.len,λe=>⟨(o.off e).1,(o.off e).2.1,?_⟩⟩;obtain d|⟨_,_,_,d⟩:=(hc.pl k _ a).2
   .exact d
   .have:=(o.off e).2.1;simp only[this,Aj]at d;simp at d
 .obtain⟨g,d,j⟩:=f k q a;rw[j,rP];exact h.pid k g d
 .rw[dw];exact U8.imp h.asc λk q _ a=>f k q a
 .obtain⟨c,hc⟩:=hps.get m j;exact .inl ⟨by rw[dw];exact d,_,hc,⟨rfl,rfl,rfl,rfl,rfl,rfl,rfl,rfl⟩⟩
 .by_cases e:k=b
  .subst e;rw[hb'];simp
  .cases d:K.ps k with
   |none=>exact absurd d a
   |some q=>obtain⟨c,hc⟩:=hps.get e d;rw[hc];simp
 .rw[hb]at i;cases i;exact⟨r',hb',Su⟩
theorem Ql {b i:Nat} {p q:Nat->d_ PR} {l:List Nat} {r r':PR} (hN:l.Nodup) (hm:b∈l) (he:Jq b p q) (hb:p b=some r) (hb':q b=some r'):BF q l i+r.fds.count (i:Int)=BF p l i+r'.fds.count (i:Int):=by
 have:=Jf (f:=I8 q i) (g:=I8 p i) hN hm λk d=>by
  obtain⟨c,a⟩:=he k d
  unfold I8
  rw[a];cases p k<;>rfl
 rw[GU hb,GU hb']at this;exact this
theorem RX {b i:Nat} {p:Nat->d_ PR} {l:List Nat} {r:PR} (hm:b∈l) (hb:p b=some r):r.fds.count (i:Int)<=BF p l i:=by
 have:=NL (f:=I8 p i) hm;rw[GU hb]at this;exact this
theorem Ih.step {N b:Nat} {x y:Nat×Nat} {K K':KS} {r r':PR} (h:Ih N x K) (dw:K'.AP=K.AP) (hN:K.AP.Nodup) (hm:b∈K.AP) (hps:Jq b K.ps K'.ps) (hb:K.ps b=some r) (hb':K'.ps b=some r') (hso:Sound N K'.swap) (hsr:VW K'.swap) (hy:y.1+y.2<=N) (hn:r'.sw+Aj r'.Ag.length<=N) (hsum:∀i,Dq i K'.swap+Ny i r'.sw (Aj r'.Ag.length)+Ny i y.1 y.2=Dq i K.swap+Ny i r.sw (Aj r.Ag.length)+Ny i x.1 x.2):Ih N y K':=by
 refine⟨h.le,hso,hsr,hy,λi l=>?_,λk q a=>?_⟩
 .have:=Jf (f:=JR i K'.ps) (g:=JR i K.ps) hN hm λk a=>by
   obtain⟨c,j⟩:=hps k a
   unfold JR
   rw[j];cases K.ps k<;>rfl
  rw[F5 hb,F5 hb']at this;have n:=h.cnt i l;have:=hsum i;rw[dw];omega
 .by_cases e:k=b
  .subst e;rw[hb']at a;cases a;exact hn
  .obtain⟨m,c,d,rfl⟩:=hps.back e a;exact h.pl k m d
theorem Ih.mine {N b:Nat} {x:Nat×Nat} {K:KS} {r:PR} (h:Ih N x K) (hm:b∈K.AP) (hb:K.ps b=some r) (y:Nat) (h1:r.sw<=y) (h2:y<r.sw+Aj r.Ag.length):Dq y K.swap=0:=by
 have c:=h.cnt y (by have:=h.pl b r hb;omega);have a:=NL (f:=JR y K.ps) hm;rw[F5 hb,Uu h1 h2]at a;omega
theorem BM.own {T T':Tag} {w w' LP:o_} {S:Nat->Prop} (h:BM T T' w w') (hK:Keep S w' LP) (hS:∀k,S k->w.heap.size<=k):BM T T' w LP:=by
 refine⟨h.keep.trans hK λk c e=>absurd (hS k e) (by omega),Dv.old h,Dv.new h,λb a=>Dv.lt h b (Nat.le_trans hK.size a),Dv.fresh h⟩
theorem AV.own {K:KS} {w w':o_} {rb:Nat} (h:AV K w) (hK:Keep (At rb) w w') (ht:K.T rb=(0,0)):AV K w':=
 h.keep (hK.on λk _ e=>by subst e;exact ht) λb a=>h.lt b (Nat.le_trans hK.size a)
def GK (r:PR) (st:Nat):PR:=⟨r.pid,r.par,st,0,0,0,0,true,-1,.nilFunc,.slice none 0 0,.slice none 0 0,[],[]⟩
theorem aa8 {r:PR} {st:Nat} (h:r.Ok) (hs:st<65536):(GK r st).Ok:=by
 refine⟨?_,?_,?_,hs,h.pid,h.par,?_,?_,?_,?_,λ_=>⟨rfl,rfl,rfl⟩⟩<;>simp[GK]
theorem oM {w:o_} {b:Nat} {r r':PR} (h:w.heap[b]?=some r.obj) (h4:r'.bl.oneCell'=true) (h8:r'.im.oneCell'=true) (h9:r'.fd.oneCell'=true):∃w',(Instr.storeAt 128 (R_ b) (.agg r'.arr)).run prog w=.ok () w'/\Keep (At b) w w'/\w'.heap[b]?=some r'.obj:=by
 have e:(Instr.storeAt 128 (R_ b) (.agg r'.arr)).run prog w=(stores b 0 r'.arr.toList (.pure ())).run prog w:=by kernel_rfl
 obtain⟨w',a,c,d⟩:=GR (P:=prog) (k:=Sem.pure ()) r'.arr.toList 0 _ w h (by show 0+12<=12;omega) (by simp[PR.arr,Value.oneCell']at *;simp[h4,h8,h9]);refine⟨w',?_,c,?_⟩
 .rw[e,a];rfl
 .rw[d];simp[Sz,PR.arr,PR.obj]
theorem AV.dead {K:KS} {w w':o_} {b st:Nat} {r:PR} (h:AV K w) (hb:K.ps b=some r) (hK:Keep (At b) w w') (ho:w'.heap[b]?=some (GK r st).obj):AV (K.Di b (GK r st)) w'/\BM K.T K.T w w':=by
 have a:=h.ps b r hb;have M:Dv K.T K.T (λt=>t=(6,b)\/t=(7,b)\/t=(8,b)\/t=(9,b)) (λt=>t=(6,b)\/t=(7,b)\/t=(8,b)\/t=(9,b)) w w':=Dv.of (hK.on λk _ e=>by subst e;exact .inl a.t) h.lt;exact⟨h.cO M ⟨a.t,ho,λe=>by simp[GK]at e,λe=>by simp[GK]at e,.inl rfl,λ_=>⟨rfl,rfl,rfl,rfl⟩⟩,M.Vt (by rintro t (rfl|rfl|rfl|rfl)<;>simp)⟩
structure Tabs (K K':KS):Prop where
 eq:K'={ K with desc:=K'.desc,ef:=K'.ef,op:=K'.op,nl:=K'.nl }
theorem Tabs.refl (K:KS):Tabs K K:=⟨rfl⟩
theorem Tabs.drop {K K':KS} (h:Tabs K K') (i:Nat):Tabs K (K'.drop i):=by
 have e:=h.eq;refine⟨?_⟩;unfold KS.drop;split
 .split
  .rw[e]
  .rw[e]
 .rw[e]
theorem Tabs.ps {K K':KS} (h:Tabs K K'):K'.ps=K.ps:=by rw[h.eq]
theorem Tabs.AP {K K':KS} (h:Tabs K K'):K'.AP=K.AP:=by rw[h.eq]
theorem Tabs.T {K K':KS} (h:Tabs K K'):K'.T=K.T:=by rw[h.eq]
theorem Tabs.kb {K K':KS} (h:Tabs K K'):K'.kb=K.kb:=by rw[h.eq]
theorem Tabs.core {K K':KS} (h:Tabs K K') {N:Nat} {x:Nat×Nat} (hc:BR N x K):BR N x K':=by
 have e1:=h.ps;have e2:=h.AP;have e3:K'.core=K.core:=by rw[h.eq]
 exact hc.same e3 (λi=>by rw[e1,e2]) (by rw[e1];exact hc.pl)
theorem Jz {l:List Int} {k:Nat} {n:Int} {i:Nat} (h:l[k]?=some n):(l.take (k+1)).count (i:Int)=(l.take k).count (i:Int)+(if n=i then 1 else 0):=by
 rw[List.take_add_one,h,List.count_append];simp[List.count_singleton]
theorem count_le {l:List Int} {k i:Nat}:(l.take k).count (i:Int)<=l.count (i:Int):=(List.take_sublist k l).count_le _
def bp0 (K:KS) (w:o_) (fds:List Int) (k:Nat) (wr:o_):Prop:=∃K1,AV K1 wr/\Tabs K K1/\BM K.T K.T w wr/\ED (λi=>BF K.ps K.AP i-(fds.take k).count (i:Int)) K1
theorem Ez.end_ {NC NS b st g c:Nat} {K K1 K2:KS} {r:PR} (h:Ez NC NS K) (hm:b∈K.AP) (hb:K.ps b=some r) (hn:r.en=false) (BX:st<65536) (h1:Tabs K K1) (ht:ED (fun i=>BF K.ps K.AP i-r.fds.count (i:Int)) K1) (h2:CJ K1 K2) (hc:BR NC (0,0) K2) (Hz:K2.ps b=some { r with co:=-1 }):
  Ez NC NS ((K2.swap' (CW K2.swap r.sw (Aj r.Ag.length)) g c).Di b (GK { r with co:=-1 } st))/\Rel b K ((K2.swap' (CW K2.swap r.sw (Aj r.Ag.length)) g c).Di b (GK { r with co:=-1 } st)):=by
 have u:((K2.swap' (CW K2.swap r.sw (Aj r.Ag.length)) g c).Di b (GK { r with co:=-1 } st)).ps=Dz K2.ps b (GK { r with co:=-1 } st):=rfl;have e2:K2.AP=K.AP:=h2.AP.trans h1.AP;have e3:K2.swap=K.swap:=by rw[h2.eq,h1.eq]
 have l:Jq b K.ps (Dz K2.ps b (GK { r with co:=-1 } st)):=(by rw[<-h1.ps];exact h2.else b:Jq b K.ps K2.ps).trans Jq.set;have o:=h.pr b r hb;obtain⟨y,w,x,_⟩:=o.len hn;have s:1<=Aj r.Ag.length:=by unfold Aj;omega
 have m:=h.sw.pl b r hb;have v:=Qm (a:=r.sw) (n:=Aj r.Ag.length) h.sw.so s m;refine h.step (b:=b) (r:=r) (r':=GK { r with co:=-1 } st) e2 (by show K2.Cj=K.Cj;rw[h2.eq,h1.eq]) (by show K2.kb=K.kb;rw[h2.eq,h1.eq]) l hb Am (aa8 (r:={ r with co:=-1 }) ⟨o.A,o.B,o.P,o.st,o.pid,o.par,o.Ag,o.fds,o.fd,o.len,λe=>absurd e (by simp[hn])⟩ BX) rfl ?_ ?_ ?_
 .refine hc.same rfl (λi=>BV λk _=>?_) λk q d=>?_
  .show EX i (Dz K2.ps b _) k=_;by_cases e:k=b
   .subst e;rw[DX Am,DX Hz];simp[GK]
   .unfold EX;rw[BZ e]
  .have d:Dz K2.ps b _ k=some q:=d;by_cases e:k=b
   .subst e;rw[Am]at d;cases d;exact⟨by simp[GK],.inl rfl⟩
   .rw[BZ e]at d;exact hc.pl k q d
 .refine h.sw.step (b:=b) e2 h.nd hm l hb Am ?_ ?_ (Nat.zero_le _) (by simp[GK,Aj]) λi=>?_
  .show Sound NS (CW K2.swap r.sw (Aj r.Ag.length));rw[e3];exact v.1
  .show VW (CW K2.swap r.sw (Aj r.Ag.length));rw[e3];exact WG s h.sw.so h.sw.uM (h.sw.mine hm hb)
  .show Dq i (CW K2.swap r.sw (Aj r.Ag.length))+Ny i 0 (Aj ([]:List Nat).length)+Ny i 0 0=_;rw[e3,UQ s,show Aj ([]:List Nat).length=0 by simp[Aj],Oj]
 .have p:ED (λi=>BF K.ps K.AP i-r.fds.count (i:Int)) ((K2.swap' (CW K2.swap r.sw (Aj r.Ag.length)) g c).Di b (GK { r with co:=-1 } st)):=by
   have d1:K2.desc=K1.desc:=by rw[h2.eq]
   have d2:K2.op=K1.op:=by rw[h2.eq]
   have d3:K2.ef=K1.ef:=by rw[h2.eq]
   have d4:K2.nl=K1.nl:=by rw[h2.eq]
   have t:K2.nm=K1.nm:=by rw[h2.eq]
   refine⟨?_,ht.le,?_,?_,?_,?_,?_⟩
   .show ∀i,i<20->K2.desc i=_;rw[d1];exact ht.ho
   .show ∀f,K2.op f=Ej K2.desc K2.ef f;rw[d1,d2,d3];exact ht.op
   .show K2.nl.Nodup;rw[d4];exact ht.nd
   .show ∀f∈K2.nl,1<=K2.op f;rw[d4,d2];exact ht.nz
   .show ∀i j f,i<16->j<16->K2.nm i=some f->K2.nm j=some f->i=j;rw[t];exact ht.nm
   .show ∀i f,i<16->K2.nm i=some f->f ∉ K2.nl;rw[t,d4];exact ht.dj
  refine p.congr λi _=>?_
  have:=Ql (i:=i) h.nd hm l hb Am;show BF (Dz K2.ps b _) K2.AP i=_;rw[e2];have z:(GK { r with co:=-1 } st).fds.count (i:Int)=0:=rfl;omega
section
variable (m:Nat) (w:o_)
theorem ξ (K:KS) (NC NS b st:Nat) (r:PR) (h:AV K w) (hO:Ez NC NS K) (hm:b∈K.AP) (hb:K.ps b=some r) (hn:r.en=false) (BX:st<65536):
  P_ m 100 #[R_ K.kb,R_ b,a_ (st:Nat)] w λe w'=>e=.returned (.agg #[a_ st,a_ 0,.nilFunc])/\∃K',AV K' w'/\Ez NC NS K'/\Rel b K K'/\BM K.T K'.T w w'/\∃r',K'.ps b=some r'/\r'.en=true:=by
 have o:=hO.pr b r hb;have hlen:r.fds.length<=6:=by rw[o.fds hn];omega
 obtain⟨n1,hL⟩:1<=Aj r.Ag.length/\r.Ag.length<=128:=by
  obtain⟨kk,JL,OU,hk3⟩:=o.len hn
  unfold Aj;omega
 obtain⟨K0,rb,BN⟩:=HY w;have h0:=h.no K0;have Gp:K.T w.heap.size=(0,0):=h.lt _ (w_ _);obtain⟨g,c,q9,hR,tg,hfd⟩:=h0.bY hb hn;gi_enter func100,ntmps100;gi_wp2;generalize hw0:w.alloc V_=w0 at*;gi_loopw [14] (λi wr=>∃k:Nat,k<=r.fds.length/\i=b_ k/\bp0 K w0 r.fds k wr) (λi _=>r.fds.length-(intOf i).toNat)
 case atStart=>exact⟨0,by omega,rfl,K,h0,Tabs.refl K,BM.no (p_ _ _) h0.lt,hO.DV.congr λi _=>by simp⟩
 case round=>
  obtain⟨k,hk,rfl,H,R,a,A,q⟩:=hrel
  have JG:H.ps b=some r:=by rw[a.ps];exact hb
  obtain⟨g1,Q,p9,U,tg1,s⟩:=R.bY JG hn
  have yG:=a.kb
  obtain⟨rfl,rfl⟩:g1=g/\Q=c:=by rw[hfd]at s;simp at s;exact⟨s.1.symm,s.2.symm⟩
  by_cases BI:k<r.fds.length
  .have M:r.fds[k]?=some r.fds[k]:=Ii BI;generalize r.fds[k]=n at M;have d:=U.MR rfl M;obtain rfl|⟨i,rfl,N⟩:=o.fd n (t_ M)
   .gi_wp2;go_roundw
    case rel=>
     refine⟨k+1,by omega,by go_num,H,R,a,A,q.congr λi _=>?_⟩
     rw[Jz M,if_neg (by omega)];rfl
    case measure=>simp[intOf];omega
   .have hge:=RX (p:=K.ps) (i:=i) hm hb;have hcl:=count_le (l:=r.fds) (k:=k+1) (i:=i);have hct:=Jz (i:=i) M;rw[if_pos rfl]at hct;have hH:0<BF K.ps K.AP i-(r.fds.take k).count (i:Int):=(by omega);have hd1:0<H.desc i:=(by rw[q.ho i N];exact hH);have cd:=λm=>uo m wr H i R N hd1 (by rw[q.ho i N];exact q.le i N) (by have:=q.nl;omega) (λf hf=>q.eff N hd1 hf)
    rw[yG]at cd;have f1:((i:Int) !=-1)=true:=(by simp);gi_wp2_with (gi_at_call 155;refine(cd _).mono ?_;rintro e w2 ⟨rfl,L,M2⟩);go_roundw
    case rel=>
     rw[a.T]at M2
     refine⟨k+1,by omega,by go_num,H.drop i,L,a.drop i,A.trans M2,(q.drop N hH).congr λj _=>?_⟩
     unfold Ar
     split
     .rename_i e;subst e;rw[hct];omega
     .rename_i e;rw[Jz M,if_neg (by omega)];rfl
    case measure=>simp[intOf];omega
  .obtain rfl:k=r.fds.length:=(by omega);rw[List.take_length]at q;have ct:=λm=>QD m wr H b NC (0,0) r R JG (by rw[a.AP];exact hm) (by rw[a.AP];exact hO.nd) (a.core hO.co)
   rw[yG]at ct;gi_wp2_with (gi_at_call 52;refine(ct _).mono ?_;rintro e w2 ⟨rfl,t,L,D,hC2,hv2,Hz,_⟩);have lF:t.kb=K.kb:=D.kb.trans yG;obtain⟨a8,c8,q8⟩:=L.im8 Hz;have G:=L.GG Hz 10;simp[PR.arr]at q8 G;have V:=A.trans (a.T ▸ hv2);refine Bi 9 58 ?_;gi_wp2_with (gi_at_call 58;refine(ER _ w2.drew b _ _ _ q8 (by omega)).mono ?_;rintro e w1 ⟨rfl,rfl⟩);refine CZ ?_ ?_
   .intro W u;have d10:=u.has (w:=w2.drew) G;have d8:=u.has (w:=w2.drew) q8
    repeat' (refine Ae ?_ ?_)
    all_goals first|exact trivial|gi_wp2_with (gi_at_call 58;refine(ER _ W b _ _ _ d8 (by omega)).mono ?_;rintro e w1 ⟨rfl,rfl⟩)
   .intro W u;have KW:Keep No w2 W:=(p_ No w2).drew.then u;have S:=L.no KW;have eS:t.swap=K.swap:=(by rw[D.eq,a.eq]);have hpl:=hO.sw.pl b r hb;have hsl:t.swap.length+1<=NS:=by
     rw[eS]
     have a1:=hO.sw.so.len
     have a2:=hO.sw.sum
     have a3:=NL (f:=onS K.ps) hm
     rw[gI hb]at a3
     omega
    have cg:=λm=>η m W t r.sw (Aj r.Ag.length) NS S (by rw[eS];exact hO.sw.fit) (by have:=hO.sw.le;omega) hpl hsl
    rw[lF]at cg;have X:=V.then KW;gi_wp2_with fail;refine(cg _).mono ?_;rintro e w3 ⟨rfl,J,c3,h3,M3⟩;have v:(t.swap' (CW t.swap r.sw (Aj r.Ag.length)) J c3).ps b=some { r with co:=-1 }:=Hz;have KO:BM K.T (BA t.T J (3,0)) w0 w3:=X.trans M3;have hE:=hO.end_ (g:=J) (c:=c3) hm hb hn BX a q D hC2 Hz;have tK3:(t.swap' (CW t.swap r.sw (Aj r.Ag.length)) J c3).T=BA t.T J (3,0):=rfl;rw[<-tK3]at KO;clear cg X V S KW u q8 G ct L hv2 M3 R A U p9 tK3;generalize t.swap' (CW t.swap r.sw (Aj r.Ag.length)) J c3=O at*;have c0:=h3.GG v 0;have Q:=h3.GG v 1;simp[PR.arr]at c0 Q;gi_wp2;refine Bi 11 58 ?_;gi_wp2;refine CZ ?_ ?_
    .intro W u;have d0:=u.has (w:=w3.drew) c0;have d1:=u.has (w:=w3.drew) Q
     repeat' (refine Ae ?_ ?_)
     all_goals first|exact trivial|gi_wp2
    .intro W u;have KW:Keep No w3 W:=(p_ No w3).drew.then u;have C:=h3.no KW;obtain⟨w5,B,K5,p5⟩:=oM (r':=GK { r with co:=-1 } st) (C.ps b _ v).o rfl rfl rfl;simp only[GK,PR.arr]at B;obtain⟨h4,M4⟩:=C.dead v K5 p5;have Y:BM K.T O.T w0 w5:=(KO.then KW).trans M4;have eT:(O.Di b (GK { r with co:=-1 } st)).T=O.T:=rfl;have Z:(O.Di b (GK { r with co:=-1 } st)).ps b=some (GK { r with co:=-1 } st):=Am;rw[<-eT]at Y;clear KO KW u C M4 K5 p5 c0 Q h3 v eT;generalize O.Di b (GK { r with co:=-1 } st)=K4 at*;obtain⟨E,yB⟩:=hE;have P:K4.kb=K.kb:=yB.kb;have co:=λm=>xg m w5 K4 b _ h4 E.th Z (by have:=E.len;omega)
     rw[P]at co;gi_wp2_with (first|(gi_at_call 157;refine(co _).mono ?_;rintro e w6 ⟨rfl,I,h6,z,hv6,hp6⟩)|refine Dk rfl (.tmp 50) (.tmp 49) 128 rfl rfl rfl B ?_);have yD:=E.bf2 z hp6;have bw7:I.kb=K.kb:=(by rw[z.eq];exact P);have cb:=λm=>uD m w6 I h6 yD.th (by have:=yD.len;omega)
     rw[bw7]at cb;obtain⟨cd9,hb6⟩:=z.get Z;gi_wp2_with (first|(gi_at_call 158;refine(cb _).mono ?_;rintro e w7 ⟨rfl,h7,M7⟩;have F:BM K.T I.T w0 w7:=(Y.trans hv6).trans M7;obtain⟨w8,Au,K8,b8⟩:=Y5 (x:=st) (y:=0) (F.old rb Gp))|refine Dk rfl (.tmp 6) (.tmp 57) 206 rfl rfl rfl Au ?_);have t7:I.T w.heap.size=(0,0):=(Dv.fresh F _ BN).trans Gp;have uY:w8.cell? (S_ w.heap.size)=some (a_ st):=bce b8 rfl;have uX:w8.cell? (T_ w.heap.size 1)=some (a_ 0):=bce b8 rfl;have uV:w8.cell? (T_ w.heap.size 2)=some .nilFunc:=bce b8 rfl;refine TR st 0 (by simp[results,results100,go_sem,uY,uX,uV]) rfl ?_;refine⟨rfl,I.VX,h7.own K8 t7,yD.VX,((yB.trans (z.rel b) (by rw[hb];simp) hO.th).trans (fQ I b) (by rw[hb];simp) hO.th),((BM.no K0 h.lt).trans F).own K8 (λk e=>by rw[show k=w.heap.size from e];exact w_ _),_,hb6,rfl⟩
end
end Go.Fxa
