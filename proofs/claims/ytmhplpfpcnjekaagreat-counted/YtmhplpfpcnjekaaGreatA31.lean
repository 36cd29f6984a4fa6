/- A process gets another image. -/
import Derived.Test.YtmhplpfpcnjekaaGreatA30
namespace Go.Fxa
open Conc Proofs RowKit Proofs.Tryz
set_option maxRecDepth 1000000
set_option maxHeartbeats 0
theorem BM.aq5 {T T':Tag} {w0 w:o_} {g:Nat} {t:Nat×Nat} (h:BM T T' w0 w) (h0:w0.heap.size<=g) (hl:g<w.heap.size) (hg:T' g=(0,0)):BM T (BA T' g t) w0 w:=by
 refine⟨Dv.keep h,λb a=>?_,λ_ _ _=>trivial,λb a=>?_,λb a=>?_⟩
 .have:=Dv.old h b a;rw[Bf (by rintro rfl;rw[hg]at this;exact a this.symm)];exact this
 .rw[Bf (by omega)];exact Dv.lt h b a
 .rw[Bf (by omega)];exact Dv.fresh h b a
theorem AV.aq5 {K:KS} {w:o_} {g p:Nat} (h:AV K w) (hg:K.T g=(0,0)) (hl:g<w.heap.size):AV { K with T:=BA K.T g (7,p) } w:=by
 have tag:∀{b t},K.T b=t->t≠(0,0)->BA K.T g (7,p) b=t:=fun {b t} k s=>by rw[Bf (by rintro rfl;exact s (k.symm.trans hg))];exact k
 have j:∀{b t},BA K.T g (7,p) b=t->t.1≠7->K.T b=t:=fun {b t} k s=>by
  by_cases e:b=g
  .subst e;rw[BH]at k;subst k;exact absurd rfl s
  .rwa [Bf e]at k
 have D:∀{b M v},Sj K.T w b M v->Sj (BA K.T g (7,p)) w b M v:=fun {b M v} h=>by
  obtain h|⟨x,c,l,a1,a2,m,E,F⟩:=h
  .exact .inl h
  .exact .inr ⟨x,c,l,a1,a2,m,E,tag F (by simp)⟩
 have op:∀{v o},Oz K.T v o->Oz (BA K.T g (7,p)) v o:=fun {v o} ⟨b,h⟩=>⟨b,h.imp (λ⟨h,f,k,s⟩=>⟨h,f,tag k (by simp),s⟩) (Or.imp (λh=>⟨h.1,tag h.2.1 (by simp),h.2.2⟩) (λh=>⟨h.1,tag h.2.1 (by simp),h.2.2⟩))⟩
 obtain⟨⟨L,k1,k2⟩,N,O,pr,Q,u,S,R,V,U,lt,G⟩:=h;refine⟨⟨L,k1,⟨k2.c0,k2.c1,k2.c2,k2.c3,λi B=>⟨(k2.nm i B).1,λb e=>tag ((k2.nm i B).2 b e) (by simp)⟩,?_,λi B=>let ⟨v,a,b,c,d⟩:=k2.en i B;⟨v,a,b,c,λe=>op (d e)⟩⟩⟩,N,O,pr,λb r e=>?_,⟨λb e=>?_,λb e=>?_,λb c e=>?_,λb e=>?_,λb e=>?_⟩,tag S (by simp),tag R (by simp),tag V (by simp),tag U (by simp),λb A=>?_,G.to λb n e=>⟨j e (by simp),id⟩⟩
 .obtain⟨v,a,b⟩:=k2.nl;obtain⟨b|⟨x,c,a1,a2,m⟩,C⟩:=b
  .exact⟨v,a,.inl b,λb A=>tag (C b A) (by simp)⟩
  .exact⟨v,a,.inr ⟨x,c,a1,a2,tag m (by simp)⟩,λb A=>tag (C b A) (by simp)⟩
 .have P:=Q b r e;refine⟨tag P.t (by simp),P.o,λe=>?_,λe=>?_,?_,P.no⟩
  .obtain⟨x,c,a1,a2,m⟩:=P.im e;exact⟨x,c,a1,a2,tag m (by simp)⟩
  .obtain⟨x,c,a1,a2,m⟩:=P.fd e;exact⟨x,c,a1,a2,tag m (by simp)⟩
  .obtain h|⟨x,y,k,s,H,I,J⟩|⟨q,k,s⟩:=P.bl
   .exact .inl h
   .exact .inr (.inl ⟨x,y,k,s,H,tag I (by simp),tag J (by simp)⟩)
   .exact .inr (.inr ⟨q,k,tag s (by simp)⟩)
 .obtain⟨x,a1,a2⟩:=u.file b (j e (by simp));exact⟨x,a1,D a2⟩
 .obtain⟨x,y,z,a1,a2⟩:=u.pipe b (j e (by simp));exact⟨x,y,z,a1,D a2⟩
 .obtain⟨n,a1,a2,m⟩:=u.GL b c (j e (by simp));exact⟨n,a1,tag a2 (by simp),m⟩
 .obtain⟨x,a1,a2⟩:=u.rend b (j e (by simp));exact⟨x,a1,tag a2 (by simp)⟩
 .obtain⟨x,a1,a2⟩:=u.Ru b (j e (by simp));exact⟨x,a1,tag a2 (by simp)⟩
 .exact(Bf (by omega)).trans (lt b A)
theorem AV.bh3 {K:KS} {w:o_} {b g c:Nat} {r:PR} {Ag:List Nat} (h:AV K w) (hb:K.ps b=some r) (hn:r.en=false) (hR:Rw 123 1 w g Ag.length c (Az Ag)) (hg:K.T g=(7,b)):AV (K.Di b { r with im:=Q_ g Ag.length c,Ag:=Ag }) (w.setCell (T_ b 8) (Q_ g Ag.length c)):=by
 have a:=h.ps b r hb;have j:g≠b:=λe=>by rw[e,a.t]at hg;simp at hg
 have KS:Keep (At b) w (w.setCell (T_ b 8) (Q_ g Ag.length c)):=(p_ _ _).setCell _ λ_=>rfl
 have M:Dv K.T K.T (λt=>t=(6,b)\/t=(7,b)\/t=(8,b)\/t=(9,b)) (λt=>t=(6,b)\/t=(7,b)\/t=(8,b)\/t=(9,b)) w (w.setCell (T_ b 8) (Q_ g Ag.length c)):=Dv.of (KS.on λk _ e=>by subst e;exact .inl a.t) h.lt;refine h.cO M ⟨a.t,?_,λe=>⟨g,c,rfl,hR.keep KS j,hg⟩,λe=>?_,?_,λe=>absurd (show r.en=true from e) (by simp[hn])⟩
 .exact Ah a.o _
 .obtain⟨x,c,a1,a2,d⟩:=a.fd e;exact⟨x,c,a1,a2.keep KS (λe=>by rw[show x=b from e,a.t]at d;simp at d),d⟩
 .obtain h|⟨x,y,l,m,n,f,i⟩|h:=a.bl
  .exact .inl h
  .exact .inr (.inl ⟨x,y,l,KS.old m (λe=>by rw[show x=b from e,a.t]at f;simp at f),KS.old n (λe=>by rw[show y=b from e,a.t]at i;simp at i),f,i⟩)
  .exact .inr (.inr h)
theorem Ez.become {NC NS b a g3 c3:Nat} {T:Tag} {v:n_} {K K2:KS} {r:PR} {Ag:List Nat} (h:Ez NC NS K) (hm:b∈K.AP) (hb:K.ps b=some r) (hn:r.en=false) (ha:(Aw K.swap (Aj Ag.length)).1=some a) (hw:∀x∈Ag,x<65536) (hl:∃k,Ag.length=8*k/\1<=k/\k<=16) (hM:CJ { K with swap:=(Aw K.swap (Aj Ag.length)).2 } K2) (hc:BR NC (0,0) K2) (Hz:K2.ps b=some { r with co:=-1 }):
  Ez NC NS ({ (K2.swap' (CW K2.swap r.sw (Aj r.Ag.length)) g3 c3)with T:=T }.Di b { r with co:=-1,sw:=a,im:=v,Ag:=Ag })/\Rel b K ({ (K2.swap' (CW K2.swap r.sw (Aj r.Ag.length)) g3 c3)with T:=T }.Di b { r with co:=-1,sw:=a,im:=v,Ag:=Ag }):=by
 have e2:K2.AP=K.AP:=hM.AP;have e3:K2.swap=(Aw K.swap (Aj Ag.length)).2:=by rw[hM.eq]
 have d:Jq b K.ps (Dz K2.ps b { r with co:=-1,sw:=a,im:=v,Ag:=Ag }):=(hM.else b:Jq b K.ps K2.ps).trans Jq.set;have o:=h.pr b r hb;obtain⟨L,I,J,_⟩:=o.len hn;obtain⟨F,g,l,m⟩:=hl;have u:1<=Aj r.Ag.length:=by unfold Aj;omega
 have p:=h.sw.pl b r hb;obtain⟨z,_,H⟩:=IV (n:=Aj Ag.length) h.sw.so;obtain⟨M,G,N⟩:=H _ ha;have C:=Qm (a:=r.sw) (n:=Aj r.Ag.length) z u p;refine h.step (b:=b) (r:=r) (r':={ r with co:=-1,sw:=a,im:=v,Ag:=Ag }) e2 (by show K2.Cj=K.Cj;rw[hM.eq]) (by show K2.kb=K.kb;rw[hM.eq]) d hb Am ⟨o.A,o.B,o.P,o.st,o.pid,o.par,hw,o.fds,o.fd,λ_=>⟨F,g,l,m⟩,λe=>absurd (show r.en=true from e) (by simp[hn])⟩ rfl ?_ ?_ ?_
 .refine hc.same rfl (λi=>BV λk _=>?_) λk q c=>?_
  .show EX i (Dz K2.ps b _) k=_;by_cases e:k=b
   .subst e;rw[DX Am,DX Hz];simp
   .unfold EX;rw[BZ e]
  .have c:Dz K2.ps b _ k=some q:=c;by_cases e:k=b
   .subst e;rw[Am]at c;cases c;exact⟨by show Ag.length<=128;omega,.inl rfl⟩
   .rw[BZ e]at c;exact hc.pl k q c
 .refine h.sw.step (b:=b) e2 h.nd hm d hb Am ?_ ?_ (Nat.zero_le _) G λi=>?_
  .show Sound NS (CW K2.swap r.sw (Aj r.Ag.length));rw[e3];exact C.1
  .show VW (CW K2.swap r.sw (Aj r.Ag.length));rw[e3];exact WG u z (WE h.sw.uM) λy D E=>by have:=h.sw.mine hm hb y D E;have:=QE ha y;omega
  .show Dq i (CW K2.swap r.sw (Aj r.Ag.length))+Ny i a (Aj Ag.length)+_=_;have:=QE ha i;rw[e3,UQ u];omega
 .have t:=h.DV;have s:ED (BF K.ps K.AP) ({ (K2.swap' (CW K2.swap r.sw (Aj r.Ag.length)) g3 c3)with T:=T }.Di b { r with co:=-1,sw:=a,im:=v,Ag:=Ag }):=by
   have d1:K2.desc=K.desc:=by rw[hM.eq]
   have d2:K2.op=K.op:=by rw[hM.eq]
   have d3:K2.ef=K.ef:=by rw[hM.eq]
   have d4:K2.nl=K.nl:=by rw[hM.eq]
   have w:K2.nm=K.nm:=by rw[hM.eq]
   refine⟨?_,t.le,?_,?_,?_,?_,?_⟩
   .show ∀i,i<20->K2.desc i=_;rw[d1];exact t.ho
   .show ∀f,K2.op f=Ej K2.desc K2.ef f;rw[d1,d2,d3];exact t.op
   .show K2.nl.Nodup;rw[d4];exact t.nd
   .show ∀f∈K2.nl,1<=K2.op f;rw[d4,d2];exact t.nz
   .show ∀i j f,i<16->j<16->K2.nm i=some f->K2.nm j=some f->i=j;rw[w];exact t.nm
   .show ∀i f,i<16->K2.nm i=some f->f ∉ K2.nl;rw[w,d4];exact t.dj
  refine s.congr λi _=>?_
  have:=Ql (i:=i) h.nd hm d hb Am;show BF (Dz K2.ps b _) K2.AP i=_;rw[e2];simp only at this;omega
theorem ai2 (w:o_) (n:Nat) (hn:n<=1000):Rw 123 1 (w.alloc (.cells (madeCells #[a_ 0] n) 123)) w.heap.size n n (Az (List.replicate n 0)):=by
 refine⟨⟨madeCells #[a_ 0] n,heap_alloc_new rfl,by simp[madeCells],?_⟩,w_ _,by unfold maxLen;omega,by simp[Az],Et _⟩;apply List.ext_getElem?;intro i;by_cases a:i<n
 .simp[madeCells,a,Nat.mod_one,Az]
 .rw[List.getElem?_eq_none (by simp[madeCells];omega),List.getElem?_eq_none (by simp[Az];omega)]
section
variable (m:Nat) (w:o_)
theorem Zk (a:f_) (L c nb:Nat) (ws:List Nat) (hl:ws.length=L) (hc:∀j u,(Az ws)[j]?=some u->w.cell? (a.add j)=some u) (hw:∀x∈ws,x<65536) (hnb:1<=nb) (hn:nb<=16):
  P_ m 47 #[.slice (some a) L c,b_ (nb:Nat)] w λe w'=>Keep No w w'/\e=.returned (Q_ w.heap.size (8*nb) (8*nb))/\∃Ag:List Nat,Ag.length=8*nb/\(∀x∈Ag,x<65536)/\Rw 123 1 w' w.heap.size (8*nb) (8*nb) (Az Ag):=by
 obtain⟨y,s,i,l,n⟩:=info_parts SX;obtain⟨b,q⟩:∃b,b=8*nb:=⟨_,rfl⟩;have f:=run_make (P:=prog) w 116 123 y (a_ 0) underlying116 s i .i64 .i64 b b (by omega) (by omega) (by rw[n];omega) (by omega);rw[l]at f;simp only[Int.toNat_natCast,Nat.mul_one,Value.cells]at f;have r0:=ai2 w b (by omega);have p:Keep No w (w.alloc (.cells (madeCells #[a_ 0] b) 123)):=(p_ _ _).alloc _;generalize w.alloc (.cells (madeCells #[a_ 0] b) 123)=w1 at*;have z:(nb:Int)*8=b:=by omega
 rw[<-q];obtain⟨w2,h,r,R2⟩:=TL (ty:=3) (IX:=b) (G8:=b) (CX:=L) (sCap:=c) (o:=0) (ws:=ws.take b) (a:=a) r0 (by simp) (λj v g=>p.has (hc j v (by
  simp only[Az,List.getElem?_map,List.getElem?_take]at g ⊢
  split at g
  .exact g
  .simp at g))) (by rw[List.length_take,hl];exact Nat.min_comm _ _) (by simp;omega)
 clear q;gi_enter func47,ntmps47;gi_wp2_with (refine MC rfl (.tmp 9) (.tmp 10) _ rfl rfl rfl h ?_);go_ret;refine⟨p.trans r (λk t e=>absurd t (by rw[show k=w.heap.size from e];exact Nat.lt_irrefl _)),by simp,_,?_,λx d=>?_,R2⟩
 .simp;omega
 .simp only[List.take_zero,List.nil_append,List.mem_append]at d;obtain d|d:=d
  .exact hw x (List.mem_of_mem_take d)
  .have:=List.mem_of_mem_drop d;rw[List.eq_of_mem_replicate this];omega
def an0 (NC NS b:Nat) (K:KS) (r:PR) (Ag:List Nat) (w0:o_) (e:Ending) (w':o_):Prop:=(e=.returned (.bool false)/\AV K w'/\BM K.T K.T w0 w')\/∃K' v a c,e=.returned (.bool true)/\AV K' w'/\Ez NC NS K'/\Rel b K K'/\BM K.T K'.T w0 w'/\K'.ps b=some { r with im:=v,Ag:=Ag,sw:=a,co:=c }/\b∈K'.AP
theorem Zz (w0:o_) (K:KS) (NC NS b g c:Nat) (r:PR) (Ag:List Nat) (h:AV K w) (hO:Ez NC NS K) (hm:b∈K.AP) (hb:K.ps b=some r) (hn:r.en=false) (hV:BM K.T K.T w0 w) (hg:w0.heap.size<=g) (hg0:K.T g=(0,0)) (hR:Rw 123 1 w g Ag.length c (Az Ag)) (hw:∀x∈Ag,x<65536) (hl:∃k,Ag.length=8*k/\1<=k/\k<=16):
  P_ m 197 #[R_ K.kb,R_ b,Q_ g Ag.length c] w (an0 NC NS b K r Ag w0):=by
 have hL:=(hO.co.pl b r hb).1;have h0:AV K w.drew:=h.no (p_ No w).drew;have hNS:=hO.sw.le;have hF:=hO.sw.fit;gi_enter_defers func197,ntmps197;gi_wp2;refine CV (P:=prog) _ rfl rfl (by kernel_rfl) 11 45 [0,1,2,3,4,5] [6,7,8,9,10] (by kernel_rfl) (by rfl)
  (NG (At2 K.kb K.sg) w.drew 6 (ap8 K (Aj Ag.length) w.drew) [(7,.tuple #[tA (Aw K.swap (Aj Ag.length)).1,tB (Aw K.swap (Aj Ag.length)).1]),(8,tA (Aw K.swap (Aj Ag.length)).1),(9,tB (Aw K.swap (Aj Ag.length)).1),(10,tA (Aw K.swap (Aj Ag.length)).1)]) (FU (by simp) (by simp)) _ _ rfl rfl ?_;gi_wp2_with (gi_at_call 48;refine(FW _ _ Ag.length (by omega)).mono ?_;rintro e w1 ⟨rfl,rfl⟩);refine⟨rfl,by kernel_rfl,Ef,?_,?_,?_⟩
 .intro L' u W j
  repeat' (refine Ae ?_ ?_)
  all_goals first|exact trivial|gi_wp2_with (gi_at_call 48;refine(FW _ W Ag.length (by omega)).mono ?_;rintro e w1 ⟨rfl,rfl⟩)
 .intro i hi L' u W j hLi hu;obtain rfl|rfl|rfl|rfl|rfl:=(by simpa using hi:i=6\/i=7\/i=8\/i=9\/i=10)
  .obtain rfl:=j.2.1 hLi;refine Bh rfl λKK Lh=>?_
   show wpListIn NF m prog _ _ _ (Act.put (Act.put (Act.put (Act.put (Act.put _ (some 16) (u 6)) (some 9) (u 7)) (some 17) (u 8)) (some 18) (u 9)) (some 7) (u 10)) _;gi_wp2_with fail;refine(Θ _ w.drew K (Aj Ag.length) NS h0 hF (by omega) (by unfold Aj;omega)).mono ?_;rintro e w1 ⟨rfl,H,J,K1⟩;rw[Tz];gi_wp2;exact⟨_,rfl,FV j (by simp) K1 ⟨rfl,H,J⟩⟩
  .have e5:=(j.2.2.1 (hu 6 (by simp) (by decide))).1;exact dV rfl rfl rfl ⟨_,rfl,Fv j (by decide) e5 (by simp)⟩
  .have C:=j.2.2.2 (7,.tuple #[tA (Aw K.swap (Aj Ag.length)).1,tB (Aw K.swap (Aj Ag.length)).1]) (by simp) (hu 7 (by simp) (by decide));exact Q3 rfl rfl rfl C rfl ⟨_,rfl,FZ j (by decide) (by simp)⟩
  .have C:=j.2.2.2 (7,.tuple #[tA (Aw K.swap (Aj Ag.length)).1,tB (Aw K.swap (Aj Ag.length)).1]) (by simp) (hu 7 (by simp) (by decide));exact Q3 rfl rfl rfl C rfl ⟨_,rfl,FZ j (by decide) (by simp)⟩
  .have M:=j.2.2.2 (8,tA (Aw K.swap (Aj Ag.length)).1) (by simp) (hu 8 (by simp) (by decide));exact dW rfl rfl rfl ⟨_,rfl,Fv j (by decide) M (by simp)⟩
 .intro L' u W j q;obtain⟨e5,H,J⟩:=j.2.2.1 (q 6 (by simp));have e8:=j.2.2.2 (9,tB (Aw K.swap (Aj Ag.length)).1) (by simp) (q 9 (by simp));have e9:=j.2.2.2 (10,tA (Aw K.swap (Aj Ag.length)).1) (by simp) (q 10 (by simp));have C:=j.2.2.2 (7,.tuple #[tA (Aw K.swap (Aj Ag.length)).1,tB (Aw K.swap (Aj Ag.length)).1]) (by simp) (q 7 (by simp));have M:=j.2.2.2 (8,tA (Aw K.swap (Aj Ag.length)).1) (by simp) (q 8 (by simp));simp only at C M e8 e9;show wpListIn NF m prog _ _ _ (Act.put (Act.put (Act.put (Act.put (Act.put _ (some 16) (u 6)) (some 9) (u 7)) (some 17) (u 8)) (some 18) (u 9)) (some 7) (u 10)) _;rw[e5,C,M,e8,e9];have MW:BM K.T K.T w0 W:=(hV.then (p_ No w).drew).trans J;have D:Rw 123 1 W g Ag.length c (Az Ag):=(hR.keep (p_ No w).drew id).keep (Dv.keep J) (by unfold On;rw[hg0];simp);have ts:=(IV (n:=Aj Ag.length) hO.sw.so).2.1;clear j e5 C M e8 e9 q J;cases ho:(Aw K.swap (Aj Ag.length)).1 with
  |none=>
   have hl':=ts ho
   simp only[tA,tB,Option.getD_none,Option.isSome_none]
   gi_wp2
   rw[hl']at H
   refine⟨_,by simp[results,results197,go_sem];rfl,?_⟩
   exact .inl ⟨rfl,H,MW⟩
  |some a=>
   simp only[tA,tB,Option.getD_some,Option.isSome_some]
   have ct:=λm=>QD m W { K with swap:=(Aw K.swap (Aj Ag.length)).2 } b NC (0,0) r H hb hm hO.nd (hO.co.same rfl (λ_=>rfl) hO.co.pl)
   gi_wp2_with (gi_at_call 52;refine(ct _).mono ?_;rintro e w2 ⟨rfl,d,h2,s,Q,B,I,_⟩)
   have lF:d.kb=K.kb:=s.kb
   obtain⟨a8,c8,q8⟩:=h2.im8 I
   have G:=h2.GG I 10
   simp[PR.arr]at q8 G
   have X:=MW.trans B
   refine Bi 9 45 ?_
   gi_wp2_with (gi_at_call 58;refine(ER _ w2.drew b _ _ _ q8 (by omega)).mono ?_;rintro e w1 ⟨rfl,rfl⟩)
   refine CZ ?_ ?_
   .intro W V;have d10:=V.has (w:=w2.drew) G;have d8:=V.has (w:=w2.drew) q8
    repeat' (refine Ae ?_ ?_)
    all_goals first|exact trivial|gi_wp2_with (gi_at_call 58;refine(ER _ W b _ _ _ d8 (by omega)).mono ?_;rintro e w1 ⟨rfl,rfl⟩)
   .intro W2 V;have KW:Keep No w2 W2:=(p_ No w2).drew.then V;have O:=h2.no KW;have eS:d.swap=(Aw K.swap (Aj Ag.length)).2:=(by rw[s.eq]);have hpl:=hO.sw.pl b r hb;have tk:=IV (n:=Aj Ag.length) hO.sw.so;have hsum:=tk.2.2 a ho;have Z:d.swap.length+1<=NS:=by
     rw[eS]
     have a1:=tk.1.len
     have a2:=hO.sw.sum
     have a3:=NL (f:=onS K.ps) hm
     rw[gI hb]at a3
     have o:=(hO.pr b r hb).len hn
     obtain⟨kk,o1,o2,o3⟩:=o
     have:1<=Aj r.Ag.length:=by unfold Aj;omega
     omega
    have U:Fit NS d.swap:=(by rw[eS];exact tk.1.fit (by have:=hO.sw.sum;omega));have cg:=λm=>η m W2 d r.sw (Aj r.Ag.length) NS O U (by omega) hpl Z
    rw[lF]at cg;have Y:=X.then KW;have hE:=λg3 c3 T v=>hO.become (g3:=g3) (c3:=c3) (T:=T) (v:=v) hm hb hn ho hw hl s Q I
    have KU:Rw 123 1 W2 g Ag.length c (Az Ag):=(D.keep (Dv.keep B) (by unfold On;rw[show K.T g=(0,0)from hg0];simp)).keep KW id;have E:d.T g=(0,0):=(Dv.fresh B g D.lt).trans hg0;have bw4:d.AP=K.AP:=s.AP;clear U Z hsum tk eS ct H D MW B Q s q8 G ts;gi_wp2_with fail;refine(cg _).mono ?_;rintro e w3 ⟨rfl,g3,c3,z,M3⟩;have KO:BM K.T (BA d.T g3 (3,0)) w0 w3:=Y.trans M3;have VH:Rw 123 1 w3 g Ag.length c (Az Ag):=KU.keep (Dv.keep M3) (by unfold On;rw[E];simp);have F:(d.swap' (CW d.swap r.sw (Aj r.Ag.length)) g3 c3).T g=(0,0):=(Dv.fresh M3 g KU.lt).trans E;have l:(d.swap' (CW d.swap r.sw (Aj r.Ag.length)) g3 c3).ps b=some { r with co:=-1 }:=I;have bw8:(d.swap' (CW d.swap r.sw (Aj r.Ag.length)) g3 c3).kb=K.kb:=lF;have L:(d.swap' (CW d.swap r.sw (Aj r.Ag.length)) g3 c3).AP=K.AP:=bw4;have N:(d.swap' (CW d.swap r.sw (Aj r.Ag.length)) g3 c3).T=BA d.T g3 (3,0):=rfl;rw[<-N]at KO;have R:=λT v=>hE g3 c3 T v
    clear cg Y X O KW V h2 M3 hE KU E I N;generalize d.swap' (CW d.swap r.sw (Aj r.Ag.length)) g3 c3=y at*;have p8:=z.GG l 8;have p10:=z.GG l 10;simp[PR.arr]at p8 p10;have z8:=z.bU l 8;have z10:=z.bU l 10;have h4:=z.like (r':={ r with co:=-1,sw:=a }) (i:=10) (v:=b_ (a:Nat)) l ⟨rfl,rfl,rfl,rfl,rfl⟩ rfl (z.ps b _ l).bl;have N4:=z.Ee l (i:=10) (v:=b_ (a:Nat));have hgb:g≠b:=λe=>by have:=(z.ps b _ l).t;rw[<-e,F]at this;simp at this
    have yB:=VH.keep (S:=At b) ((p_ _ _).setCell (p:=(T_ b 10)) (b_ (a:Nat)) λ_=>rfl) hgb;have h5:=h4.aq5 (p:=b) (g:=g) F yB.lt;have V5:=(KO.trans N4).aq5 (t:=(7,b)) hg yB.lt F;have h6:=h5.bh3 (b:=b) (r:={ r with co:=-1,sw:=a }) Am hn yB BH;have V6:=V5.trans (h5.Ee (b:=b) Am (i:=8) (v:=Q_ g Ag.length c));have h6:AV ({ y with T:=BA y.T g (7,b) }.Di b { r with co:=-1,sw:=a,im:=Q_ g Ag.length c,Ag:=Ag }) ((w3.setCell (T_ b 10) (b_ (a:Nat))).setCell (T_ b 8) (Q_ g Ag.length c)):=(by simp only[KS.Di,Tn]at h6 ⊢;exact h6);obtain⟨yD,hR6⟩:=R (BA y.T g (7,b)) (Q_ g Ag.length c);have cb:=λm u=>qQ m _ u ({ y with T:=BA y.T g (7,b) }.Di b { r with co:=-1,sw:=a,im:=Q_ g Ag.length c,Ag:=Ag }) b NC _ h6 yD.th Am (by show b∈y.AP;rw[L];exact hm) yD.nd yD.co (by have:=yD.len;omega)
    rw[show(KS.Di ({ y with T:=BA y.T g (7,b) }:KS) b ({ r with co:=-1,sw:=a,im:=Q_ g Ag.length c,Ag:=Ag }:PR)).kb=K.kb from bw8]at cb;clear z h4 h5 R VH yB KO V5 N4;gi_wp2;refine leavesIn_cons (f:=53) (args:=#[R_ K.kb,R_ b]) (by simp) (by intro hh;cases hh) (by simp[go_sem]) (by intro f hf;cases hf;simp) ?_;refine(cb _ _).mono ?_;rintro e u' w' ⟨rfl,rfl,K7,h7,A,hC7,hv7,_⟩;refine⟨_,by simp[results,results197,go_sem];rfl,?_⟩;obtain⟨co7,hb7⟩:=A.get (b:=b) Am;exact .inr ⟨K7,_,a,co7,rfl,h7,yD.moved A hC7,hR6.trans (A.rel b) (by rw[hb];simp) hO.th,V6.trans hv7,hb7,by rw[A.AP];show b∈y.AP;rw[L];exact hm⟩
end
section
variable (m:Nat) (w:o_)
theorem aj2 (K:KS) (NC NS b n:Nat) (r:PR) (h:AV K w) (hO:Ez NC NS K) (hm:b∈K.AP) (hb:K.ps b=some r) (hn:r.en=false) (hx:n<65536):
  P_ m 144 #[R_ K.kb,R_ b,a_ (n:Nat)] w (FQ NC NS b K w):=by
 have o:=hO.pr b r hb;obtain⟨j,s,l⟩:=HY w;have p:=h.no j;have E:K.T w.heap.size=(0,0):=h.lt _ (w_ _);obtain⟨O,ci,W,z,V,Q⟩:=p.YF hb hn;by_cases U:n<1
 .have M:(n:Int)<1:=by omega
  gi_enter func144,ntmps144;gi_wp2_with (first|(gi_at_call 140;refine(wr8 13 s _).mono ?_;rintro e D ⟨rfl,a,C,c,d,g⟩)|refine En c ?_);refine TR 0 13 (by simp[results,results144,go_sem,EF g]) rfl ?_;exact BJ h hO hm hb j l a d (by decide) (by decide)
 .have M:¬(n:Int)<1:=by omega
  by_cases c2:16<n
  .have N:(16:Int)<(n:Int):=(by omega);gi_enter func144,ntmps144;gi_wp2_with (first|(gi_at_call 140;refine(wr8 13 s _).mono ?_;rintro e D ⟨rfl,a,C,c,d,g⟩)|refine En c ?_);refine TR 0 13 (by simp[results,results144,go_sem,EF g]) rfl ?_;exact BJ h hO hm hb j l a d (by decide) (by decide)
  .have N:¬(16:Int)<(n:Int):=(by omega);gi_enter func144,ntmps144;gi_wp2_with fail;generalize S:w.alloc V_=B at*;have t:=λm=>Zk m B (S_ O) r.Ag.length ci n r.Ag rfl z.cells o.Ag (by omega) (by omega)
   gi_wp2_with (first|(gi_at_call 47;refine(t _).mono ?_;rintro e w1 ⟨F,rfl,H,q,R,P⟩;have G:=λm=>Zz m w1 B K NC NS b B.heap.size (8*n) r H (p.no F) hO hm hb hn (BM.no F p.lt) (w_ _) (p.lt _ (w_ _)) (by rw[q];exact P) R ⟨n,q,by omega,by omega⟩;rw[q]at G;clear q)|(gi_at_call 197;refine(G _).mono ?_;rintro e w2 (⟨rfl,u,k⟩|⟨J,v2,a2,c2,rfl,u,v,L,k,I,A⟩)))
   .have i:=k.old s E;gi_wp2_with (first|(gi_at_call 140;refine(wr8 5 i _).mono ?_;rintro e D ⟨rfl,a,C,c,d,g⟩)|refine En c ?_);refine TR 0 5 (by simp[results,results144,go_sem,EF g]) rfl ?_;exact A7 (K':=K) (x:=0) (y:=5) h.lt j l ((k).then a) ((u).no a) d (by omega) (by omega) (.inl rfl) (hO) (Rel.refl b K) hb (λ_=>hm)
   .have i:=k.old s E;gi_wp2_with (first|(gi_at_call 152;refine(Dx _ _ 0 (by omega)).mono ?_;rintro e D ⟨rfl,a⟩;obtain⟨C,c,d,g⟩:=Ap (x:=0) (y:=0) (f:=.nilFunc) (a.old (i) id) rfl)|refine En c ?_);refine TR 0 0 (by simp[results,results144,go_sem,EF g]) rfl ?_;exact A7 (K':=J) (x:=0) (y:=0) h.lt j l ((k).then a) ((u).no a) d (by omega) (by omega) (.inl rfl) (v) (L) I (λ_=>A)
end
def ba6 (v:n_) (w:o_):Prop:=(∃a c,v=.slice a 0 c)\/∃g c ws,v=Q_ g ws.length c/\Rw 123 1 w g ws.length c (Az ws)/\1<=ws.length/\ws.length<=64/\∀x∈ws,x<65536
section
variable (m:Nat) (w:o_)
theorem ϋ (K:KS) (i f:Nat) (h:AV K w) (hi:i<16) (hf:K.nm i=some f):P_ m 207 #[.pointer (some (T_ K.kb 4)),b_ (i:Nat)] w λe w'=>Keep No w w'/\∃v,e=.returned v/\ba6 v w':=by
 have q:=(h.nmc hi).1;have z:=(h.nmc hi).2 f hf;rw[hf]at q;simp only[XX,ptr]at q;have A:(i:Int)<16:=by omega
 obtain⟨v,u,x⟩:=h.fl.file f z;have B:w.cell? (S_ f)=some v:=(Af u 0).trans rfl;clear hf;obtain rfl|⟨g,c,a,rfl,t,j,y,C⟩:=x
 .gi_enter func207,ntmps207;gi_wp2_with (gi_at_call 141;refine(clone_nil _ w).mono ?_;rintro e w1 ⟨rfl,d⟩);go_ret;exact⟨d,_,rfl,.inl ⟨_,_,rfl⟩⟩
 .have p:=λm=>Kq m w (S_ g) a.length c (Az a) (by simp[Az]) t.cells (Et _) (by omega)
  gi_enter func207,ntmps207;gi_wp2_with (gi_at_call 141;refine(p _).mono ?_;rintro e w1 ⟨d,v,rfl,b⟩);go_ret;refine⟨d,v,rfl,?_⟩;by_cases l:0<a.length
  .obtain⟨k,o,rfl,n,_⟩:=Qw b l (Et _);exact .inr ⟨k,o,a,rfl,n,l,j,y⟩
  .have s:a.length=0:=(by omega);rw[s]at b;obtain⟨_,⟨rfl,_⟩|⟨k,cap,r,rfl,_⟩⟩:=b
   .exact .inl ⟨_,_,rfl⟩
   .exact .inl ⟨_,_,rfl⟩
theorem ak0 (K:KS) (NC NS b i:Nat) (r:PR) (h:AV K w) (hO:Ez NC NS K) (hm:b∈K.AP) (hb:K.ps b=some r) (hn:r.en=false) (hx:i<65536):
  P_ m 151 #[R_ K.kb,R_ b,a_ (i:Nat)] w (FQ NC NS b K w):=by
 obtain⟨C,E,F⟩:=HY w;have D:=h.no C;have Q:K.T w.heap.size=(0,0):=h.lt _ (w_ _);have cn:=λm=>Qj m (w.alloc V_) K i D hx
 gi_enter func151,ntmps151;gi_wp2_with (gi_at_call 205;refine(cn _).mono ?_;rintro e w1 ⟨p,x,rfl,⟨rfl,V,f,hf⟩|⟨rfl,hx⟩|⟨rfl,hx⟩⟩)
 .generalize hw0:w.alloc V_=w0 at*;have h1:=D.no p;have cw:=λm=>ϋ m w1 K i f h1 V hf
  clear hf;gi_wp2_with (gi_at_call 207;refine(cw _).mono ?_;rintro e w2 ⟨J,v,rfl,⟨a,c,rfl⟩|⟨g,c,q,rfl,hR,l1,l2,hw⟩⟩)
  .have rb2:=(p.then J).old E id;gi_wp2_with (first|(gi_at_call 140;refine(wr8 13 rb2 _).mono ?_;rintro e O ⟨rfl,j,N,l,n,o⟩)|refine En l ?_);refine TR 0 13 (by simp[results,results151,go_sem,EF o]) rfl ?_;exact A7 (K':=K) (x:=0) (y:=13) h.lt C F ((BM.no (p.then J) D.lt).then j) ((h1.no J).no j) n (by omega) (by omega) (.inl rfl) (hO) (Rel.refl b K) hb (λ_=>hm)
  .have l3:¬(q.length:Int)=0:=(by omega);have L:=p.then J;have U:=λm=>Zk m w2 (S_ g) q.length c (Aj q.length) q rfl hR.cells hw (by unfold Aj;omega) (by unfold Aj;omega)
   have n1:1<=Aj q.length/\Aj q.length<=16:=(by unfold Aj;omega);gi_wp2_with (first|(gi_at_call 48;refine(FW _ _ q.length (by omega)).mono ?_;rintro e w9 ⟨rfl,u⟩;have u:=u.symm;subst u)|(gi_at_call 47;refine(U _).mono ?_;rintro e w4 ⟨K4,rfl,Ag,M,Z,yB⟩;have cb:=λm=>Zz m w4 w0 K NC NS b w2.heap.size (8*Aj q.length) r Ag (D.no (L.then K4)) hO hm hb hn (BM.no (L.then K4) D.lt) L.size (D.lt _ L.size) (by rw[M];exact yB) Z ⟨_,M,n1.1,n1.2⟩;rw[M]at cb;clear M)|(gi_at_call 197;refine(cb _).mono ?_;rintro e w5 (⟨rfl,s,G⟩|⟨K5,v5,R,S,rfl,s,t,W,G,d,H⟩)<;>try (have p7:=s.GG d 7;simp[PR.arr]at p7;have z7:=s.bU d 7)))
   .have I:=G.old E Q;gi_wp2_with (first|(gi_at_call 140;refine(wr8 5 I _).mono ?_;rintro e O ⟨rfl,j,N,l,n,o⟩)|refine En l ?_);refine TR 0 5 (by simp[results,results151,go_sem,EF o]) rfl ?_;exact A7 (K':=K) (x:=0) (y:=5) h.lt C F ((G).then j) ((s).no j) n (by omega) (by omega) (.inl rfl) (hO) (Rel.refl b K) hb (λ_=>hm)
   .have I:=G.old E Q;have h6:=s.like (r':={ r with im:=v5,Ag:=Ag,sw:=R,co:=S,P:=0 }) (i:=7) (v:=a_ 0) d ⟨rfl,rfl,rfl,rfl,rfl⟩ rfl (s.ps b _ d).bl;have M6:=G.trans (s.Ee d (i:=7) (v:=a_ 0));have k:=t.pr b _ d;obtain⟨yD,X⟩:=t.fds (r':={ r with im:=v5,Ag:=Ag,sw:=R,co:=S,P:=0 }) (Q4.refl K5) H d rfl rfl rfl rfl rfl ⟨k.A,k.B,(by show 0<65536;omega),k.st,k.pid,k.par,k.Ag,k.fds,k.fd,k.len,k.off⟩ t.DV (λi _=>rfl);have Y:=W.trans X (by rw[hb];simp) hO.th;have rb6:=M6.old E Q;gi_wp2_with (first|(gi_at_call 152;refine(Dx _ _ 0 (by omega)).mono ?_;rintro e O ⟨rfl,j⟩;obtain⟨N,l,n,o⟩:=Ap (x:=0) (y:=0) (f:=.nilFunc) (j.old (rb6) id) rfl)|refine En l ?_);refine TR 0 0 (by simp[results,results151,go_sem,EF o]) rfl ?_;exact A7 (K':=K5.Di b { r with im:=v5,Ag:=Ag,sw:=R,co:=S,P:=0 }) (x:=0) (y:=0) h.lt C F ((M6).then j) ((h6).no j) n (by omega) (by omega) (.inl rfl) (yD) (Y) (Am) (λ_=>H)
 .have z:=p.old E id;gi_wp2_with (first|(gi_at_call 140;refine(wr8 6 z _).mono ?_;rintro e O ⟨rfl,j,N,l,n,o⟩)|refine En l ?_);refine TR 0 6 (by simp[results,results151,go_sem,EF o]) rfl ?_;exact BJ h hO hm hb C F (p.then j) n (by decide) (by decide)
 .have z:=p.old E id;gi_wp2_with (first|(gi_at_call 140;refine(wr8 13 z _).mono ?_;rintro e O ⟨rfl,j,N,l,n,o⟩)|refine En l ?_);refine TR 0 13 (by simp[results,results151,go_sem,EF o]) rfl ?_;exact BJ h hO hm hb C F (p.then j) n (by decide) (by decide)
end
def Others (call:Nat):Prop:=¬(call:Int)=1/\¬(call:Int)=2/\¬(call:Int)=3/\¬(call:Int)=4/\¬(call:Int)=5/\¬(call:Int)=6/\¬(call:Int)=7/\¬(call:Int)=8/\¬(call:Int)=9/\¬(call:Int)=10/\¬(call:Int)=11/\¬(call:Int)=12/\¬(call:Int)=13/\¬(call:Int)=14
section
variable (m:Nat) (w:o_)
theorem Z5 (K:KS) (NC NS b call:Nat) (r:PR) (h:AV K w) (hO:Ez NC NS K) (hm:b∈K.AP) (hb:K.ps b=some r) (hn:r.en=false) (ca:∀m w,P_ m 139 #[a_ (call:Nat)] w fun e w'=>e=.returned (b_ 0)/\w'=w) (hc:call=2\/call=12\/Others call):
  P_ m 96 #[R_ K.kb,R_ b,a_ (call:Nat)] w (FQ NC NS b K w):=by
 have o:=hO.pr b r hb;obtain⟨n,F,q⟩:=HY w;have j:=h.no n;have H:K.T w.heap.size=(0,0):=h.lt _ (w_ _);obtain⟨gi,ci,E,t,kP,Q⟩:=j.YF hb hn;have z:=j.GG hb 5;simp[PR.arr]at z;gi_enter func96,ntmps96;gi_wp2;generalize R:w.alloc V_=a at*;refine Bi 15 155 ?_;gi_wp2_with (first|(gi_at_call 139;refine(ca _ a.drew).mono ?_;rintro e w1 ⟨rfl,rfl⟩)|(gi_at_call 138;refine(Jt b r.A _ a.drew).mono ?_;rintro e w1 ⟨rfl,rfl⟩));refine CZ ?_ ?_
 .intro W k;have d5:=k.has (w:=a.drew) z;have d8:=k.has (w:=a.drew) E
  repeat' (refine Ae ?_ ?_)
  all_goals first|exact trivial|gi_wp2_with (first|(gi_at_call 139;refine(ca _ W).mono ?_;rintro e w1 ⟨rfl,rfl⟩)|(gi_at_call 138;refine(Jt b r.A _ W).mono ?_;rintro e w1 ⟨rfl,rfl⟩))
 .intro W k;have KW:Keep No a W:=(p_ No a).drew.then k;gi_wp2_with fail;refine(clone_nil _ W).mono ?_;rintro e w1 ⟨rfl,B⟩;have c:Keep No a w1:=KW.then B;have l:=c.old F id;clear t B KW k z E;obtain rfl|rfl|hc:=hc
  .have N:=λm=>aj3 m w1 K NC NS b r (j.no c) hO hm hb hn
   gi_wp2_with (first|(gi_at_call 142;refine(N _).mono ?_;rintro e w2 ⟨J,x,y,f,rfl,S,U,D,P,s,L,M,r2,I,u⟩;have C:=(BM.no c j.lt).trans M;obtain⟨G,d,g,i⟩:=Ap (x:=x) (y:=y) (f:=f) (C.old F H) D.one)|refine En d ?_);refine bodyPost_ret (v:=.agg #[a_ x,a_ y,f]) (by simp[results,results96,go_sem,EF i]) rfl ?_;exact A7 (K':=J) (x:=x) (y:=y) h.lt n q C P g S U D s L I u
  .have O:=(j.no c).GG hb 0;simp[PR.arr]at O;have hp:=o.pid;gi_wp2_with (first|(gi_at_call 152;refine(Dx _ _ r.pid (by omega)).mono ?_;rintro e wz ⟨rfl,p⟩;obtain⟨G,d,g,i⟩:=Ap (x:=r.pid) (y:=0) (f:=.nilFunc) (p.old (l) id) rfl)|refine En d ?_);refine TR r.pid 0 (by simp[results,results96,go_sem,EF i]) rfl ?_;exact BJ h hO hm hb n q (c.then p) g (by omega) (by decide)
  .obtain⟨n1,n2,n3,n4,n5,n6,n7,n8,n9,V,X,Y,Z,n14⟩:=hc;gi_wp2_with (first|(gi_at_call 140;refine(wr8 12 l _).mono ?_;rintro e wz ⟨rfl,p,G,d,g,i⟩)|refine En d ?_);refine TR 0 12 (by simp[results,results96,go_sem,EF i]) rfl ?_;exact BJ h hO hm hb n q (c.then p) g (by decide) (by decide)
end
section
variable (m:Nat) (w:o_)
theorem NM (K:KS) (NC NS b call:Nat) (r:PR) (h:AV K w) (hO:Ez NC NS K) (hm:b∈K.AP) (hb:K.ps b=some r) (hn:r.en=false) (ca:∀m w,P_ m 139 #[a_ (call:Nat)] w fun e w'=>e=.returned (b_ 1)/\w'=w) (hc:call=1\/call=3\/call=4\/call=5\/call=8\/call=9\/call=11\/call=13):
  P_ m 96 #[R_ K.kb,R_ b,a_ (call:Nat)] w (FQ NC NS b K w):=by
 have o:=hO.pr b r hb;have hL:=(hO.co.pl b r hb).1;have V:=o.A;obtain⟨H,M,J⟩:=HY w;have k:=h.no H;have N:K.T w.heap.size=(0,0):=h.lt _ (w_ _);obtain⟨R,ci,S,P,kP,him⟩:=k.YF hb hn;have XY:=P.le;have Y:=k.GG hb 5;simp[PR.arr]at Y;by_cases U:r.A+1<=r.Ag.length
 .obtain⟨a0,i0⟩:∃v,r.Ag[r.A+0]?=some v:=⟨_,Ii (by omega)⟩;have L:=o.Ag a0 (t_ i0);have j0:(w.alloc V_).cell? (T_ R (r.A+0))=some (a_ (a0:Nat)):=(P.cell (by omega)).trans (by rw[Az,List.getElem?_map,i0];rfl);clear i0;gi_enter func96,ntmps96;gi_wp2;generalize hw0:w.alloc V_=E at*;refine Bi 15 155 ?_;gi_wp2_with (first|(gi_at_call 139;refine(ca _ E.drew).mono ?_;rintro e w1 ⟨rfl,rfl⟩)|(gi_at_call 138;refine(EM b R ci r.Ag.length 1 r.A _ E.drew S (by omega) V hL XY U).mono ?_;rintro e w1 ⟨rfl,rfl⟩));refine CZ ?_ ?_
  .intro W I;have d5:=I.has (w:=E.drew) Y;have Z:=I.has (w:=E.drew) S
   repeat' (refine Ae ?_ ?_)
   all_goals first|exact trivial|gi_wp2_with (first|(gi_at_call 139;refine(ca _ W).mono ?_;rintro e w1 ⟨rfl,rfl⟩)|(gi_at_call 138;refine(EM b R ci r.Ag.length 1 r.A _ W Z (by omega) V hL XY U).mono ?_;rintro e w1 ⟨rfl,rfl⟩))
  .intro W I;have KW:Keep No E W:=(p_ No E).drew.then I;gi_wp2_with fail;refine(Kq _ W (T_ R r.A) 1 1 [a_ (a0:Nat)] rfl (λj u X=>by
    match j,X with
    |0,X=>simp at X;subst X;exact KW.has j0
    ) (by simp[Value.oneCell']) (by omega)).mono ?_;rintro e w1 ⟨K1,v,rfl,Es⟩;obtain⟨g,cap,rfl,hR,_⟩:=Qw Es (by omega) (by simp[Value.oneCell']);have q:Keep No E w1:=KW.then K1;have d0:w1.cell? (S_ g)=some (a_ (a0:Nat)):=(hR.cell (by omega)).trans rfl;clear Es P hR K1 KW I Y S j0;obtain rfl|rfl|rfl|rfl|rfl|rfl|rfl|rfl:=hc
   .have C:=λm=>ξ m w1 K NC NS b a0 r (k.no q) hO hm hb hn L
    gi_wp2_with (first|(gi_at_call 100;refine(C _).mono ?_;rintro e w2 ⟨rfl,t,D,a,z,B,Q,s,hn2⟩;have d:=(BM.no q k.lt).trans B;obtain⟨O,l,n,p⟩:=Ap (x:=a0) (y:=0) (f:=.nilFunc) (d.old M N) rfl)|refine En l ?_);refine TR a0 0 (by simp[results,results96,go_sem,EF p]) rfl ?_;exact A7 (K':=t) (x:=a0) (y:=0) h.lt H J d D n L (by omega) (.inl rfl) a z s (λe=>absurd e (by simp[hn2]))
   .have C:=λm=>ad7 m w1 K NC NS b a0 r (k.no q) hO hm hb hn L
    gi_wp2_with (first|(gi_at_call 143;refine(C _).mono ?_;rintro e w2 ⟨t,x,y,f,rfl,F,G,i,D,a,z,B,Q,s,c⟩;have d:=(BM.no q k.lt).trans B;obtain⟨O,l,n,p⟩:=Ap (x:=x) (y:=y) (f:=f) (d.old M N) i.one)|refine En l ?_);refine bodyPost_ret (v:=.agg #[a_ x,a_ y,f]) (by simp[results,results96,go_sem,EF p]) rfl ?_;exact A7 (K':=t) (x:=x) (y:=y) h.lt H J d D n F G i a z s c
   .have C:=λm=>aj2 m w1 K NC NS b a0 r (k.no q) hO hm hb hn L
    gi_wp2_with (first|(gi_at_call 144;refine(C _).mono ?_;rintro e w2 ⟨t,x,y,f,rfl,F,G,i,D,a,z,B,Q,s,c⟩;have d:=(BM.no q k.lt).trans B;obtain⟨O,l,n,p⟩:=Ap (x:=x) (y:=y) (f:=f) (d.old M N) i.one)|refine En l ?_);refine bodyPost_ret (v:=.agg #[a_ x,a_ y,f]) (by simp[results,results96,go_sem,EF p]) rfl ?_;exact A7 (K':=t) (x:=x) (y:=y) h.lt H J d D n F G i a z s c
   .have C:=λm=>xq m w1 K NC NS b a0 r (k.no q) hO hm hb hn L
    gi_wp2_with (first|(gi_at_call 145;refine(C _).mono ?_;rintro e w2 ⟨t,x,y,f,rfl,F,G,i,D,a,z,B,Q,s,c⟩;have d:=(BM.no q k.lt).trans B;obtain⟨O,l,n,p⟩:=Ap (x:=x) (y:=y) (f:=f) (d.old M N) i.one)|refine En l ?_);refine bodyPost_ret (v:=.agg #[a_ x,a_ y,f]) (by simp[results,results96,go_sem,EF p]) rfl ?_;exact A7 (K':=t) (x:=x) (y:=y) h.lt H J d D n F G i a z s c
   .have C:=λm=>ab3 m w1 K NC NS b a0 r (k.no q) hO hm hb hn L
    gi_wp2_with (first|(gi_at_call 148;refine(C _).mono ?_;rintro e w2 ⟨t,x,y,f,rfl,F,G,i,D,a,z,B,Q,s,c⟩;have d:=(BM.no q k.lt).trans B;obtain⟨O,l,n,p⟩:=Ap (x:=x) (y:=y) (f:=f) (d.old M N) i.one)|refine En l ?_);refine bodyPost_ret (v:=.agg #[a_ x,a_ y,f]) (by simp[results,results96,go_sem,EF p]) rfl ?_;exact A7 (K':=t) (x:=x) (y:=y) h.lt H J d D n F G i a z s c
   .have C:=λm=>az6 m w1 K NC NS b a0 r (k.no q) hO hm hb hn L
    gi_wp2_with (first|(gi_at_call 149;refine(C _).mono ?_;rintro e w2 ⟨t,x,y,f,rfl,F,G,i,D,a,z,B,Q,s,c⟩;have d:=(BM.no q k.lt).trans B;obtain⟨O,l,n,p⟩:=Ap (x:=x) (y:=y) (f:=f) (d.old M N) i.one)|refine En l ?_);refine bodyPost_ret (v:=.agg #[a_ x,a_ y,f]) (by simp[results,results96,go_sem,EF p]) rfl ?_;exact A7 (K':=t) (x:=x) (y:=y) h.lt H J d D n F G i a z s c
   .have C:=λm=>ak0 m w1 K NC NS b a0 r (k.no q) hO hm hb hn L
    gi_wp2_with (first|(gi_at_call 151;refine(C _).mono ?_;rintro e w2 ⟨t,x,y,f,rfl,F,G,i,D,a,z,B,Q,s,c⟩;have d:=(BM.no q k.lt).trans B;obtain⟨O,l,n,p⟩:=Ap (x:=x) (y:=y) (f:=f) (d.old M N) i.one)|refine En l ?_);refine bodyPost_ret (v:=.agg #[a_ x,a_ y,f]) (by simp[results,results96,go_sem,EF p]) rfl ?_;exact A7 (K':=t) (x:=x) (y:=y) h.lt H J d D n F G i a z s c
   .have C:=λm=>vP m w1 K NC NS b a0 r (k.no q) hO hm hb L
    gi_wp2_with (first|(gi_at_call 153;refine(C _).mono ?_;rintro e w2 ⟨t,x,y,f,rfl,F,G,i,D,a,z,B,Q,s,c⟩;have d:=(BM.no q k.lt).trans B;obtain⟨O,l,n,p⟩:=Ap (x:=x) (y:=y) (f:=f) (d.old M N) i.one)|refine En l ?_);refine bodyPost_ret (v:=.agg #[a_ x,a_ y,f]) (by simp[results,results96,go_sem,EF p]) rfl ?_;exact A7 (K':=t) (x:=x) (y:=y) h.lt H J d D n F G i a z s c
 .gi_enter func96,ntmps96;gi_wp2;generalize hw0:w.alloc V_=E at*;refine Bi 15 155 ?_;gi_wp2_with (first|(gi_at_call 139;refine(ca _ E.drew).mono ?_;rintro e w1 ⟨rfl,rfl⟩)|(gi_at_call 138;refine(Il b R ci r.Ag.length 1 r.A _ E.drew S (by omega) (by omega) V U).mono ?_;rintro e w1 ⟨rfl,rfl⟩));refine CZ ?_ ?_
  .intro W I;have d5:=I.has (w:=E.drew) Y;have Z:=I.has (w:=E.drew) S
   repeat' (refine Ae ?_ ?_)
   all_goals first|exact trivial|gi_wp2_with (first|(gi_at_call 139;refine(ca _ W).mono ?_;rintro e w1 ⟨rfl,rfl⟩)|(gi_at_call 138;refine(Il b R ci r.Ag.length 1 r.A _ W Z (by omega) (by omega) V U).mono ?_;rintro e w1 ⟨rfl,rfl⟩))
  .intro W I;have KW:Keep No E W:=(p_ No E).drew.then I;have rbW:=KW.old M id;gi_wp2_with (first|(gi_at_call 140;refine(wr8 1 rbW _).mono ?_;rintro e wz ⟨rfl,Kz,O,l,n,p⟩)|refine En l ?_);refine TR 0 1 (by simp[results,results96,go_sem,EF p]) rfl ?_;exact BJ h hO hm hb H J (KW.then Kz) n (by decide) (by decide)
end
end Go.Fxa
