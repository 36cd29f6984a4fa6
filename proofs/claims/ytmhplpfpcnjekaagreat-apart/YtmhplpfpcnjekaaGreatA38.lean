/- A process gets another image. -/
import Derived.Test.YtmhplpfpcnjekaaGreatA35
namespace Go.Fxa
open Conc Proofs RowKit Proofs.Tryz
set_option maxRecDepth 1000000
set_option maxHeartbeats 0
theorem Bw.zw {T T':Tag} {w0 w:World} {g:Nat} {t:Nat×Nat} (h:Bw T T' w0 w) (h0:w0.heap.size<=g) (hl:g<w.heap.size) (hg:T' g=(0,0)):Bw T (A8 T' g t) w0 w:=by
 refine⟨Ct.keep h,fun b hb=>?_,fun _ _ _=>trivial,fun b hb=>?_,fun b hb=>?_⟩
 ·have:=Ct.old h b hb;rw[AY (by rintro rfl;rw[hg]at this;exact hb this.symm)];exact this
 ·rw[AY (by omega)];exact Ct.lt h b hb
 ·rw[AY (by omega)];exact Ct.fresh h b hb
theorem AQ.zw {K:KS} {w:World} {g p:Nat} (h:AQ K w) (hg:K.T g=(0,0)) (hl:g<w.heap.size):AQ { K with T:=A8 K.T g (7,p) } w:=by
 have tag:∀{b t},K.T b=t->t≠(0,0)->A8 K.T g (7,p) b=t:=fun {b t} h1 h2=>by rw[AY (by rintro rfl;exact h2 (h1.symm.trans hg))];exact h1
 have back:∀{b t},A8 K.T g (7,p) b=t->t.1≠7->K.T b=t:=fun {b t} h1 h2=>by
  by_cases e:b=g
  ·subst e;rw[BB]at h1;subst h1;exact absurd rfl h2
  ·rwa [AY e]at h1
 have ws:∀{b M v},OP K.T w b M v->OP (A8 K.T g (7,p)) w b M v:=fun {b M v} h=>by
  rcases h with h|⟨x,c,l,a1,a2,a3,a4,a5⟩
  ·exact .inl h
  ·exact .inr ⟨x,c,l,a1,a2,a3,a4,tag a5 (by simp)⟩
 have op:∀{v o},KP K.T v o->KP (A8 K.T g (7,p)) v o:=fun {v o} ⟨b,h⟩=>⟨b,h.imp (fun⟨h,f,h1,h2⟩=>⟨h,f,tag h1 (by simp),h2⟩) (Or.imp (fun h=>⟨h.1,tag h.2.1 (by simp),h.2.2⟩) (fun h=>⟨h.1,tag h.2.1 (by simp),h.2.2⟩))⟩
 obtain⟨⟨ks,k1,k2⟩,mc,ms,pr,ps,fl,tk,tc,ts,tp,lt⟩:=h;refine⟨⟨ks,k1,⟨k2.c0,k2.c1,k2.c2,k2.c3,fun i hi=>⟨(k2.nm i hi).1,fun b e=>tag ((k2.nm i hi).2 b e) (by simp)⟩,?_,fun i hi=>let ⟨v,a,b,c,d⟩:=k2.en i hi;⟨v,a,b,c,fun e=>op (d e)⟩⟩⟩,mc,ms,pr,fun b r e=>?_,⟨fun b e=>?_,fun b e=>?_,fun b c e=>?_,fun b e=>?_,fun b e=>?_⟩,tag tk (by simp),tag tc (by simp),tag ts (by simp),tag tp (by simp),fun b hb=>?_⟩
 ·obtain⟨v,a,b⟩:=k2.nl;rcases b with⟨b|⟨x,c,a1,a2,a3⟩,b'⟩
  ·exact⟨v,a,.inl b,fun b hb=>tag (b' b hb) (by simp)⟩
  ·exact⟨v,a,.inr ⟨x,c,a1,a2,tag a3 (by simp)⟩,fun b hb=>tag (b' b hb) (by simp)⟩
 ·have P:=ps b r e;refine⟨tag P.t (by simp),P.o,fun e=>?_,fun e=>?_,?_,P.no⟩
  ·obtain⟨x,c,a1,a2,a3⟩:=P.im e;exact⟨x,c,a1,a2,tag a3 (by simp)⟩
  ·obtain⟨x,c,a1,a2,a3⟩:=P.fd e;exact⟨x,c,a1,a2,tag a3 (by simp)⟩
  ·rcases P.bl with h|⟨x,y,h1,h2,h3,h4,h5⟩|⟨q,h1,h2⟩
   ·exact .inl h
   ·exact .inr (.inl ⟨x,y,h1,h2,h3,tag h4 (by simp),tag h5 (by simp)⟩)
   ·exact .inr (.inr ⟨q,h1,tag h2 (by simp)⟩)
 ·obtain⟨x,a1,a2⟩:=fl.file b (back e (by simp));exact⟨x,a1,ws a2⟩
 ·obtain⟨x,y,z,a1,a2⟩:=fl.pipe b (back e (by simp));exact⟨x,y,z,a1,ws a2⟩
 ·obtain⟨n,a1,a2,a3⟩:=fl.Fs b c (back e (by simp));exact⟨n,a1,tag a2 (by simp),a3⟩
 ·obtain⟨x,a1,a2⟩:=fl.rend b (back e (by simp));exact⟨x,a1,tag a2 (by simp)⟩
 ·obtain⟨x,a1,a2⟩:=fl.Oo b (back e (by simp));exact⟨x,a1,tag a2 (by simp)⟩
 ·exact(AY (by omega)).trans (lt b hb)
theorem AQ.am2 {K:KS} {w:World} {b g c:Nat} {r:PR} {Ah:List Nat} (h:AQ K w) (hb:K.ps b=some r) (hn:r.en=false) (hR:Rw 123 1 w g Ah.length c (Aq Ah)) (hg:K.T g=(7,b)):AQ (K.Cg b { r with im:=.slice (some (S_ g)) Ah.length c,Ah:=Ah }) (w.setCell (T_ b 8) (.slice (some (S_ g)) Ah.length c)):=by
 have hp:=h.ps b r hb;have hgb:g≠b:=fun e=>by rw[e,hp.t]at hg;simp at hg
 have KS:Ab (At b) w (w.setCell (T_ b 8) (.slice (some (S_ g)) Ah.length c)):=(Ab.refl _ _).setCell _ fun _=>rfl
 have M:Ct K.T K.T (fun t=>t=(6,b)\/t=(7,b)\/t=(8,b)\/t=(9,b)) (fun t=>t=(6,b)\/t=(7,b)\/t=(8,b)\/t=(9,b)) w (w.setCell (T_ b 8) (.slice (some (S_ g)) Ah.length c)):=Ct.of (KS.on fun k _ e=>by subst e;exact .inl hp.t) h.lt;refine h.WJ M ⟨hp.t,?_,fun e=>⟨g,c,rfl,hR.keep KS hgb,hg⟩,fun e=>?_,?_,fun e=>absurd (show r.en=true from e) (by simp[hn])⟩
 ·exact Aj hp.o _
 ·obtain⟨x,c,a1,a2,a3⟩:=hp.fd e;exact⟨x,c,a1,a2.keep KS (fun e=>by rw[show x=b from e,hp.t]at a3;simp at a3),a3⟩
 ·rcases hp.bl with h|⟨x,y,h1,h2,h3,h4,h5⟩|h
  ·exact .inl h
  ·exact .inr (.inl ⟨x,y,h1,KS.old h2 (fun e=>by rw[show x=b from e,hp.t]at h4;simp at h4),KS.old h3 (fun e=>by rw[show y=b from e,hp.t]at h5;simp at h5),h4,h5⟩)
  ·exact .inr (.inr h)
theorem DZ.become {NC NS b a g3 c3:Nat} {T:Tag} {v:Value} {K K2:KS} {r:PR} {Ah:List Nat} (h:DZ NC NS K) (hm:b∈K.AJ) (hb:K.ps b=some r) (hn:r.en=false) (ha:(Aw K.swap (Ap Ah.length)).1=some a) (hw:∀x∈Ah,x<65536) (hl:∃k,Ah.length=8*k/\1<=k/\k<=16) (hM:Ci { K with swap:=(Aw K.swap (Ap Ah.length)).2 } K2) (hc:Cc NC 0 K2) (FZ:K2.ps b=some { r with co:=-1 }):
  DZ NC NS ({ (K2.swap' (Cn K2.swap r.sw (Ap r.Ah.length)) g3 c3)with T:=T }.Cg b { r with co:=-1,sw:=a,im:=v,Ah:=Ah })/\Rel b K ({ (K2.swap' (Cn K2.swap r.sw (Ap r.Ah.length)) g3 c3)with T:=T }.Cg b { r with co:=-1,sw:=a,im:=v,Ah:=Ah }):=by
 have e2:K2.AJ=K.AJ:=hM.AJ;have e3:K2.swap=(Aw K.swap (Ap Ah.length)).2:=by rw[hM.eq]
 have hE:Hl b K.ps (Cu K2.ps b { r with co:=-1,sw:=a,im:=v,Ah:=Ah }):=(hM.else b:Hl b K.ps K2.ps).trans Hl.set;have o:=h.pr b r hb;obtain⟨kk,G8,Kn,_⟩:=o.len hn;obtain⟨k9,hl1,hl2,hl3⟩:=hl;have n1:1<=Ap r.Ah.length:=by unfold Ap;omega
 have hpl:=h.sw.pl b r hb hn;obtain⟨t1,_,t3⟩:=IC (n:=Ap Ah.length) h.sw.so;obtain⟨s1,s2,s3⟩:=t3 _ ha;have gs:=MU (a:=r.sw) (n:=Ap r.Ah.length) t1 n1 hpl;refine h.step (b:=b) (r:=r) (r':={ r with co:=-1,sw:=a,im:=v,Ah:=Ah }) e2 (by show K2.BM=K.BM;rw[hM.eq]) (by show K2.kb=K.kb;rw[hM.eq]) hE hb Al ⟨o.A,o.B,o.P,o.st,o.pid,o.par,hw,o.fds,o.fd,fun _=>⟨k9,hl1,hl2,hl3⟩,fun e=>absurd (show r.en=true from e) (by simp[hn])⟩ rfl ?_ ?_ ?_
 ·refine⟨hc.le,hc.so,?_,fun k q hk=>?_⟩
  ·show Dw K2.core+CS (Mf (Cu K2.ps b _)) K2.AJ+0=NC;rw[CV (g:=Mf K2.ps) fun k _=>?_]
   ·exact hc.sum
   ·by_cases e:k=b
    ·subst e;rw[DV Al,DV FZ];simp
    ·unfold Mf;rw[BI e]
  ·have hk:Cu K2.ps b _ k=some q:=hk;by_cases e:k=b
   ·subst e;rw[Al]at hk;cases hk;exact⟨by show Ah.length<=128;omega,.inl rfl⟩
   ·rw[BI e]at hk;exact hc.pl k q hk
 ·refine h.sw.step (x:=0) (b:=b) e2 h.nd hm hE hb Al ?_ (fun e=>s2) ?_
  ·show Sound NS (Cn K2.swap r.sw (Ap r.Ah.length));rw[e3];exact gs.1
  ·show Dw (Cn K2.swap r.sw (Ap r.Ah.length))+Ap Ah.length+0=_;rw[e3,gs.2];omega
 ·have t:=h.CY;have ht2:Dx (Bi K.ps K.AJ) ({ (K2.swap' (Cn K2.swap r.sw (Ap r.Ah.length)) g3 c3)with T:=T }.Cg b { r with co:=-1,sw:=a,im:=v,Ah:=Ah }):=by
   have d1:K2.desc=K.desc:=by rw[hM.eq]
   have d2:K2.op=K.op:=by rw[hM.eq]
   have d3:K2.ef=K.ef:=by rw[hM.eq]
   have d4:K2.nl=K.nl:=by rw[hM.eq]
   have d5:K2.nm=K.nm:=by rw[hM.eq]
   refine⟨?_,t.le,?_,?_,?_,?_,?_⟩
   ·show ∀i,i<20->K2.desc i=_;rw[d1];exact t.ho
   ·show ∀f,K2.op f=Dj K2.desc K2.ef f;rw[d1,d2,d3];exact t.op
   ·show K2.nl.Nodup;rw[d4];exact t.nd
   ·show ∀f∈K2.nl,1<=K2.op f;rw[d4,d2];exact t.nz
   ·show ∀i j f,i<16->j<16->K2.nm i=some f->K2.nm j=some f->i=j;rw[d5];exact t.nm
   ·show ∀i f,i<16->K2.nm i=some f->f ∉ K2.nl;rw[d5,d4];exact t.dj
  refine ht2.congr fun i _=>?_
  have:=MS (i:=i) h.nd hm hE hb Al;show Bi (Cu K2.ps b _) K2.AJ i=_;rw[e2];simp only at this;omega
theorem vw (w:World) (n:Nat) (hn:n<=1000):Rw 123 1 (w.alloc (.cells (madeCells #[.int .u16 0] n) 123)) w.heap.size n n (Aq (List.replicate n 0)):=by
 refine⟨⟨madeCells #[.int .u16 0] n,heap_alloc_new rfl,by simp[madeCells],?_⟩,Nat.le_refl _,by unfold maxLen;omega,by simp[Aq],Dr _⟩;apply List.ext_getElem?;intro i;by_cases hi:i<n
 ·simp[madeCells,hi,Nat.mod_one,Aq]
 ·rw[List.getElem?_eq_none (by simp[madeCells];omega),List.getElem?_eq_none (by simp[Aq];omega)]
section
variable (m:Nat) (w:World)
theorem U7 (a:Addr) (L c nb:Nat) (ws:List Nat) (hl:ws.length=L) (hc:∀j u,(Aq ws)[j]?=some u->w.cell? (a.add j)=some u) (hw:∀x∈ws,x<65536) (hnb:1<=nb) (hn:nb<=16):
  CallsIn NF m prog 47 #[.slice (some a) L c,.int .i64 (nb:Nat)] w fun e w'=>Ab No w w'/\e=.returned (.slice (some (S_ w.heap.size)) (8*nb) (8*nb))/\∃Ah:List Nat,Ah.length=8*nb/\(∀x∈Ah,x<65536)/\Rw 123 1 w' w.heap.size (8*nb) (8*nb) (Aq Ah):=by
 obtain⟨i0,hi,hz0,hz1,hz2⟩:=info_parts O7;obtain⟨N8,h8⟩:∃N8,N8=8*nb:=⟨_,rfl⟩;have hmk:=run_make (P:=prog) w 116 123 i0 (.int .u16 0) underlying116 hi hz0 .i64 .i64 N8 N8 (by omega) (by omega) (by rw[hz2];omega) (by omega);rw[hz1]at hmk;simp only[Int.toNat_natCast,Nat.mul_one,Value.cells]at hmk;have r0:=vw w N8 (by omega);have K0:Ab No w (w.alloc (.cells (madeCells #[.int .u16 0] N8) 123)):=(Ab.refl _ _).alloc _;generalize w.alloc (.cells (madeCells #[.int .u16 0] N8) 123)=w1 at*;have e8:(nb:Int)*8=N8:=by omega
 rw[<-h8];obtain⟨w2,hcp,K2,R2⟩:=PE (ty:=3) (Gx:=N8) (FI:=N8) (Ca:=L) (sCap:=c) (o:=0) (ws:=ws.take N8) (a:=a) r0 (by simp) (fun j v hj=>K0.has (hc j v (by
  simp only[Aq,List.getElem?_map,List.getElem?_take]at hj ⊢
  split at hj
  ·exact hj
  ·simp at hj))) (by rw[List.length_take,hl];exact Nat.min_comm _ _) (by simp;omega)
 clear h8;gi_enter func47,ntmps47;gi_wp2_with (refine Js rfl (.tmp 9) (.tmp 10) _ rfl rfl rfl hcp ?_);go_ret;refine⟨K0.trans K2 (fun k hk e=>absurd hk (by rw[show k=w.heap.size from e];exact Nat.lt_irrefl _)),by simp,_,?_,fun x hx=>?_,R2⟩
 ·simp;omega
 ·simp only[List.take_zero,List.nil_append,List.mem_append]at hx;rcases hx with hx|hx
  ·exact hw x (List.mem_of_mem_take hx)
  ·have:=List.mem_of_mem_drop hx;rw[List.eq_of_mem_replicate this];omega
def xc (NC NS b:Nat) (K:KS) (r:PR) (Ah:List Nat) (w0:World) (e:Ending) (w':World):Prop:=(e=.returned (.bool false)/\AQ K w'/\Bw K.T K.T w0 w')\/∃K' v a c,e=.returned (.bool true)/\AQ K' w'/\DZ NC NS K'/\Rel b K K'/\Bw K.T K'.T w0 w'/\K'.ps b=some { r with im:=v,Ah:=Ah,sw:=a,co:=c }/\b∈K'.AJ
theorem Vj (w0:World) (K:KS) (NC NS b g c:Nat) (r:PR) (Ah:List Nat) (h:AQ K w) (hO:DZ NC NS K) (hm:b∈K.AJ) (hb:K.ps b=some r) (hn:r.en=false) (hV:Bw K.T K.T w0 w) (hg:w0.heap.size<=g) (hg0:K.T g=(0,0)) (hR:Rw 123 1 w g Ah.length c (Aq Ah)) (hw:∀x∈Ah,x<65536) (hl:∃k,Ah.length=8*k/\1<=k/\k<=16):
  CallsIn NF m prog 197 #[R_ K.kb,R_ b,.slice (some (S_ g)) Ah.length c] w (xc NC NS b K r Ah w0):=by
 have hL:=(hO.co.pl b r hb).1;have h0:AQ K w.drew:=h.no (Ab.refl No w).drew;have hNS:=hO.sw.le;have hF:=hO.sw.fit;gi_enter_defers func197,ntmps197;gi_wp2;refine BZ (P:=prog) _ rfl rfl (by kernel_rfl) 11 45 [0,1,2,3,4,5] [6,7,8,9,10] (by kernel_rfl) (by rfl)
  (J2 (TM K.kb K.sg) w.drew 6 (yw K (Ap Ah.length) w.drew) [(7,.tuple #[tA (Aw K.swap (Ap Ah.length)).1,tB (Aw K.swap (Ap Ah.length)).1]),(8,tA (Aw K.swap (Ap Ah.length)).1),(9,tB (Aw K.swap (Ap Ah.length)).1),(10,tA (Aw K.swap (Ap Ah.length)).1)]) (EF (by simp) (by simp)) _ _ rfl rfl ?_;gi_wp2_with (gi_at_call 48;refine(EH _ _ Ah.length (by omega)).mono ?_;rintro e w1 ⟨rfl,rfl⟩);refine⟨rfl,by kernel_rfl,Dg,?_,?_,?_⟩
 ·intro L' u W hI
  repeat' (refine Ao ?_ ?_)
  all_goals first|exact trivial|gi_wp2_with (gi_at_call 48;refine(EH _ W Ah.length (by omega)).mono ?_;rintro e w1 ⟨rfl,rfl⟩)
 ·intro i hi L' u W hI Nf hu;rcases(by simpa using hi:i=6\/i=7\/i=8\/i=9\/i=10)with rfl|rfl|rfl|rfl|rfl
  ·obtain rfl:=hI.2.1 Nf;refine Bh rfl fun KK Ko=>?_
   show wpListIn NF m prog _ _ _ (Act.put (Act.put (Act.put (Act.put (Act.put _ (some 16) (u 6)) (some 9) (u 7)) (some 17) (u 8)) (some 18) (u 9)) (some 7) (u 10)) _;gi_wp2_with fail;refine(ow _ w.drew K (Ap Ah.length) NS h0 hF (by omega) (by unfold Ap;omega)).mono ?_;rintro e w1 ⟨rfl,h1,M1,K1⟩;rw[Pq];gi_wp2;exact⟨_,rfl,EG hI (by simp) K1 ⟨rfl,h1,M1⟩⟩
  ·have e5:=(hI.2.2.1 (hu 6 (by simp) (by decide))).1;exact Xe rfl rfl rfl ⟨_,rfl,Es hI (by decide) e5 (by simp)⟩
  ·have e6:=hI.2.2.2 (7,.tuple #[tA (Aw K.swap (Ap Ah.length)).1,tB (Aw K.swap (Ap Ah.length)).1]) (by simp) (hu 7 (by simp) (by decide));exact NV rfl rfl rfl e6 rfl ⟨_,rfl,EK hI (by decide) (by simp)⟩
  ·have e6:=hI.2.2.2 (7,.tuple #[tA (Aw K.swap (Ap Ah.length)).1,tB (Aw K.swap (Ap Ah.length)).1]) (by simp) (hu 7 (by simp) (by decide));exact NV rfl rfl rfl e6 rfl ⟨_,rfl,EK hI (by decide) (by simp)⟩
  ·have e7:=hI.2.2.2 (8,tA (Aw K.swap (Ap Ah.length)).1) (by simp) (hu 8 (by simp) (by decide));exact Xf rfl rfl rfl ⟨_,rfl,Es hI (by decide) e7 (by simp)⟩
 ·intro L' u W hI hL';obtain⟨e5,h1,M1⟩:=hI.2.2.1 (hL' 6 (by simp));have e8:=hI.2.2.2 (9,tB (Aw K.swap (Ap Ah.length)).1) (by simp) (hL' 9 (by simp));have e9:=hI.2.2.2 (10,tA (Aw K.swap (Ap Ah.length)).1) (by simp) (hL' 10 (by simp));have e6:=hI.2.2.2 (7,.tuple #[tA (Aw K.swap (Ap Ah.length)).1,tB (Aw K.swap (Ap Ah.length)).1]) (by simp) (hL' 7 (by simp));have e7:=hI.2.2.2 (8,tA (Aw K.swap (Ap Ah.length)).1) (by simp) (hL' 8 (by simp));simp only at e6 e7 e8 e9;show wpListIn NF m prog _ _ _ (Act.put (Act.put (Act.put (Act.put (Act.put _ (some 16) (u 6)) (some 9) (u 7)) (some 17) (u 8)) (some 18) (u 9)) (some 7) (u 10)) _;rw[e5,e6,e7,e8,e9];have MW:Bw K.T K.T w0 W:=(hV.then (Ab.refl No w).drew).trans M1;have hRW:Rw 123 1 W g Ah.length c (Aq Ah):=(hR.keep (Ab.refl No w).drew id).keep (Ct.keep M1) (by unfold On;rw[hg0];simp);have ts:=(IC (n:=Ap Ah.length) hO.sw.so).2.1;clear hI e5 e6 e7 e8 e9 hL' M1;cases ho:(Aw K.swap (Ap Ah.length)).1 with
  | none=>
   have hl':=ts ho
   simp only[tA,tB,Option.getD_none,Option.isSome_none]
   gi_wp2
   rw[hl']at h1
   refine⟨_,by simp[results,results197,go_sem];rfl,?_⟩
   exact .inl ⟨rfl,h1,MW⟩
  | some a=>
   simp only[tA,tB,Option.getD_some,Option.isSome_some]
   have ct:=fun m=>Nr m W { K with swap:=(Aw K.swap (Ap Ah.length)).2 } b NC 0 r h1 hb hm hO.nd ⟨hO.co.le,hO.co.so,hO.co.sum,hO.co.pl⟩
   gi_wp2_with (gi_at_call 52;refine(ct _).mono ?_;rintro e w2 ⟨rfl,K2,h2,hM2,hC2,hv2,FZ,_⟩)
   have Zy:K2.kb=K.kb:=hM2.kb
   obtain⟨a8,c8,q8⟩:=h2.im8 FZ
   have rW:=h2.FH FZ 10
   simp[PR.arr]at q8 rW
   have hV2:=MW.trans hv2
   refine AA (P:=prog) No _ rfl rfl (by kernel_rfl) 9 45 [0,1,2,3,4,5,6,7,8] [] (by kernel_rfl) (by rfl) (fun _ _ _=>True) (fun _ _ _ _ _ h _=>h) _ _ rfl rfl ?_
   gi_wp2_with (gi_at_call 58;refine(El _ w2.drew b _ _ _ q8 (by omega)).mono ?_;rintro e w1 ⟨rfl,rfl⟩)
   refine⟨rfl,by kernel_rfl,?_,(fun i hi=>absurd hi (by simp)),?_⟩
   ·intro W hK;have d10:=hK.has (w:=w2.drew) rW;have d8:=hK.has (w:=w2.drew) q8
    repeat' (refine Ao ?_ ?_)
    all_goals first|exact trivial|gi_wp2_with (gi_at_call 58;refine(El _ W b _ _ _ d8 (by omega)).mono ?_;rintro e w1 ⟨rfl,rfl⟩)
   ·intro u W2 hK _;simp only[C9];have KW:Ab No w2 W2:=(Ab.refl No w2).drew.then hK;have h2W:=h2.no KW;have eS:K2.swap=(Aw K.swap (Ap Ah.length)).2:=(by rw[hM2.eq]);have hpl:=hO.sw.pl b r hb hn;have tk:=IC (n:=Ap Ah.length) hO.sw.so;have hsum:=tk.2.2 a ho;have hsl:K2.swap.length+1<=NS:=by
     rw[eS]
     have a1:=tk.1.len
     have a2:=hO.sw.sum
     have a3:=Ng (f:=Vk K.ps) hm
     rw[GX hb]at a3
     have o:=(hO.pr b r hb).len hn
     obtain⟨kk,o1,o2,o3⟩:=o
     have:1<=Ap r.Ah.length:=by unfold Ap;omega
     omega
    have hF2:Fit NS K2.swap:=(by rw[eS];exact tk.1.fit (by have:=hO.sw.sum;omega));have cg:=fun m=>oL m W2 K2 r.sw (Ap r.Ah.length) NS h2W hF2 (by omega) hpl hsl
    rw[Zy]at cg;have xz:=hV2.then KW;have hE:=fun g3 c3 T v=>hO.become (g3:=g3) (c3:=c3) (T:=T) (v:=v) hm hb hn ho hw hl hM2 hC2 FZ
    have I7:Rw 123 1 W2 g Ah.length c (Aq Ah):=(hRW.keep (Ct.keep hv2) (by unfold On;rw[show K.T g=(0,0)from hg0];simp)).keep KW id;have hg2:K2.T g=(0,0):=(Ct.fresh hv2 g hRW.lt).trans hg0;have bb8:K2.AJ=K.AJ:=hM2.AJ;clear hF2 hsl hsum tk eS ct h1 hRW MW hv2 hC2 hM2 q8 rW ts;gi_wp2_with fail;refine(cg _).mono ?_;rintro e w3 ⟨rfl,g3,c3,h3,M3⟩;have I1:Bw K.T (A8 K2.T g3 (3,0)) w0 w3:=xz.trans M3;have Rf:Rw 123 1 w3 g Ah.length c (Aq Ah):=I7.keep (Ct.keep M3) (by unfold On;rw[hg2];simp);have hg3:(K2.swap' (Cn K2.swap r.sw (Ap r.Ah.length)) g3 c3).T g=(0,0):=(Ct.fresh M3 g I7.lt).trans hg2;have hb3:(K2.swap' (Cn K2.swap r.sw (Ap r.Ah.length)) g3 c3).ps b=some { r with co:=-1 }:=FZ;have bc6:(K2.swap' (Cn K2.swap r.sw (Ap r.Ah.length)) g3 c3).kb=K.kb:=Zy;have ai6:(K2.swap' (Cn K2.swap r.sw (Ap r.Ah.length)) g3 c3).AJ=K.AJ:=bb8;have eT3:(K2.swap' (Cn K2.swap r.sw (Ap r.Ah.length)) g3 c3).T=A8 K2.T g3 (3,0):=rfl;rw[<-eT3]at I1;have hE3:=fun T v=>hE g3 c3 T v
    clear cg xz hV2 h2W KW hK h2 M3 hE I7 hg2 FZ eT3;generalize K2.swap' (Cn K2.swap r.sw (Ap r.Ah.length)) g3 c3=K3 at*;have p8:=h3.FH hb3 8;have p10:=h3.FH hb3 10;simp[PR.arr]at p8 p10;have z8:=h3.WA hb3 8;have z10:=h3.WA hb3 10;have h4:=h3.like (r':={ r with co:=-1,sw:=a }) (i:=10) (v:=.int .i64 (a:Nat)) hb3 ⟨rfl,rfl,rfl,rfl,rfl⟩ rfl (h3.ps b _ hb3).bl;have N4:=h3.C8 hb3 (i:=10) (v:=.int .i64 (a:Nat));have hgb:g≠b:=fun e=>by have:=(h3.ps b _ hb3).t;rw[<-e,hg3]at this;simp at this
    have lN:=Rf.keep (S:=At b) ((Ab.refl _ _).setCell (p:=(T_ b 10)) (.int .i64 (a:Nat)) fun _=>rfl) hgb;have h5:=h4.zw (p:=b) (g:=g) hg3 lN.lt;have V5:=(I1.trans N4).zw (t:=(7,b)) hg lN.lt hg3;have h6:=h5.am2 (b:=b) (r:={ r with co:=-1,sw:=a }) Al hn lN BB;have V6:=V5.trans (h5.C8 (b:=b) Al (i:=8) (v:=.slice (some (S_ g)) Ah.length c));have h6:AQ ({ K3 with T:=A8 K3.T g (7,b) }.Cg b { r with co:=-1,sw:=a,im:=.slice (some (S_ g)) Ah.length c,Ah:=Ah }) ((w3.setCell (T_ b 10) (.int .i64 (a:Nat))).setCell (T_ b 8) (.slice (some (S_ g)) Ah.length c)):=(by simp only[KS.Cg,Pk]at h6 ⊢;exact h6);obtain⟨lT,hR6⟩:=hE3 (A8 K3.T g (7,b)) (.slice (some (S_ g)) Ah.length c);have cb:=fun m u=>eX m _ u ({ K3 with T:=A8 K3.T g (7,b) }.Cg b { r with co:=-1,sw:=a,im:=.slice (some (S_ g)) Ah.length c,Ah:=Ah }) b NC _ h6 lT.th Al (by show b∈K3.AJ;rw[ai6];exact hm) lT.nd lT.co (by have:=lT.len;omega)
    rw[show(KS.Cg ({ K3 with T:=A8 K3.T g (7,b) }:KS) b ({ r with co:=-1,sw:=a,im:=.slice (some (S_ g)) Ah.length c,Ah:=Ah }:PR)).kb=K.kb from bc6]at cb;clear h3 h4 h5 hE3 Rf lN I1 V5 N4;gi_wp2;refine leavesIn_cons (f:=53) (args:=#[R_ K.kb,R_ b]) (by simp) (by intro hh;cases hh) (by simp[go_sem]) (by intro f hf;cases hf;simp) ?_;refine(cb _ _).mono ?_;rintro e u' w' ⟨rfl,rfl,K7,h7,hM7,hC7,hv7⟩;refine⟨_,by simp[results,results197,go_sem];rfl,?_⟩;obtain⟨co7,hb7⟩:=hM7.get (b:=b) Al;exact .inr ⟨K7,_,a,co7,rfl,h7,lT.moved hM7 hC7,hR6.trans (hM7.rel b) (by rw[hb];simp) hO.th,V6.trans hv7,hb7,by rw[hM7.AJ];show b∈K3.AJ;rw[ai6];exact hm⟩
end
section
variable (m:Nat) (w:World)
theorem vH (K:KS) (NC NS b n:Nat) (r:PR) (h:AQ K w) (hO:DZ NC NS K) (hm:b∈K.AJ) (hb:K.ps b=some r) (hn:r.en=false) (hx:n<65536):
  CallsIn NF m prog 144 #[R_ K.kb,R_ b,.int .u16 (n:Nat)] w (ED NC NS b K w):=by
 have o:=hO.pr b r hb;obtain⟨K0,rb,BA⟩:=FU w;have h0:=h.no K0;have E8:K.T w.heap.size=(0,0):=h.lt _ (Nat.le_refl _);obtain⟨gi,ci,q8,Jw,Zc,him⟩:=h0.Uu hb hn;by_cases c1:n<1
 ·have f1:(n:Int)<1:=by omega
  gi_enter func144,ntmps144;gi_wp2_with (first|(gi_at_call 140;refine(AL _ _ 13).mono ?_;rintro e wz ⟨rfl,Kz⟩;obtain⟨w8,Ar,K8,b8⟩:=Af (x:=0) (y:=13) (f:=.nilFunc) (Kz.old (rb) id) rfl)|refine Ae rfl _ _ _ rfl rfl rfl Ar ?_);refine TR 0 13 (by simp[results,results144,go_sem,Dz b8]) rfl ?_;exact Br h hO hm hb K0 BA Kz K8 (by decide) (by decide)
 ·have f1:¬(n:Int)<1:=by omega
  by_cases c2:16<n
  ·have f2:(16:Int)<(n:Int):=(by omega);gi_enter func144,ntmps144;gi_wp2_with (first|(gi_at_call 140;refine(AL _ _ 13).mono ?_;rintro e wz ⟨rfl,Kz⟩;obtain⟨w8,Ar,K8,b8⟩:=Af (x:=0) (y:=13) (f:=.nilFunc) (Kz.old (rb) id) rfl)|refine Ae rfl _ _ _ rfl rfl rfl Ar ?_);refine TR 0 13 (by simp[results,results144,go_sem,Dz b8]) rfl ?_;exact Br h hO hm hb K0 BA Kz K8 (by decide) (by decide)
  ·have f2:¬(16:Int)<(n:Int):=(by omega);gi_enter func144,ntmps144;gi_wp2_with fail;generalize hw0:w.alloc V_=w0 at*;have ci1:=fun m=>U7 m w0 (S_ gi) r.Ah.length ci n r.Ah rfl Jw.cells o.Ah (by omega) (by omega)
   gi_wp2_with (first|(gi_at_call 47;refine(ci1 _).mono ?_;rintro e w1 ⟨K1,rfl,Ah,hl,hw,hR⟩;have cb:=fun m=>Vj m w1 w0 K NC NS b w0.heap.size (8*n) r Ah (h0.no K1) hO hm hb hn (Bw.no K1 h0.lt) (Nat.le_refl _) (h0.lt _ (Nat.le_refl _)) (by rw[hl];exact hR) hw ⟨n,hl,by omega,by omega⟩;rw[hl]at cb;clear hl)|(gi_at_call 197;refine(cb _).mono ?_;rintro e w2 (⟨rfl,h2,M2⟩|⟨K2,v2,a2,c2,rfl,h2,hO2,I7,M2,FZ,hm2⟩)))
   ·have rb2:=M2.old rb E8;gi_wp2_with (first|(gi_at_call 140;refine(AL _ _ 5).mono ?_;rintro e wz ⟨rfl,Kz⟩;obtain⟨w8,Ar,K8,b8⟩:=Af (x:=0) (y:=5) (f:=.nilFunc) (Kz.old (rb2) id) rfl)|refine Ae rfl _ _ _ rfl rfl rfl Ar ?_);refine TR 0 5 (by simp[results,results144,go_sem,Dz b8]) rfl ?_;exact AV (K':=K) (x:=0) (y:=5) h.lt K0 BA ((M2).then Kz) ((h2).no Kz) K8 (by omega) (by omega) (.inl rfl) (hO) (Rel.refl b K) hb (fun _=>hm)
   ·have rb2:=M2.old rb E8;gi_wp2_with (first|(gi_at_call 152;refine(Cr _ _ 0 (by omega)).mono ?_;rintro e wz ⟨rfl,Kz⟩;obtain⟨w8,Ar,K8,b8⟩:=Af (x:=0) (y:=0) (f:=.nilFunc) (Kz.old (rb2) id) rfl)|refine Ae rfl _ _ _ rfl rfl rfl Ar ?_);refine TR 0 0 (by simp[results,results144,go_sem,Dz b8]) rfl ?_;exact AV (K':=K2) (x:=0) (y:=0) h.lt K0 BA ((M2).then Kz) ((h2).no Kz) K8 (by omega) (by omega) (.inl rfl) (hO2) (I7) FZ (fun _=>hm2)
end
end Go.Fxa
