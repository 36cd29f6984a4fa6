/- Answers; copies; what one proc -/
import Derived.Test.YtmhplpfpcnjekaaGreatA24
import Derived.Laws.EntriesVeiled
namespace Go.Fxa
open Conc Proofs RowKit Proofs.Tryz
set_option maxRecDepth 1000000
set_option maxHeartbeats 0
section
variable (m:Nat) (w:o_)
theorem J5 (x:Nat):P_ m 140 #[a_ x] w λe w'=>e=.returned (.agg #[a_ 0,a_ x,.nilFunc])/\Keep No w w':=by
 gi_enter func140,ntmps140;gi_wp2;refine TR 0 x (by simp[results,results140,go_sem]) rfl ?_;exact⟨rfl,by repeat (first|exact p_ _ _|refine Keep.drew ?_|refine Keep.alloc ?_ _)⟩
theorem Dx (x:Nat) (hx:x<65536):P_ m 152 #[b_ x] w λe w'=>e=.returned (.agg #[a_ x,a_ 0,.nilFunc])/\Keep No w w':=by
 gi_enter func152,ntmps152;gi_wp2;refine TR x 0 (by simp[results,results152,go_sem]) rfl ?_;exact⟨rfl,by repeat (first|exact p_ _ _|refine Keep.drew ?_|refine Keep.alloc ?_ _)⟩
theorem az5 {ad:f_} {n c:Nat}:(binOp .eql 116 (.slice (some ad) n c) (.slice none 0 0)).run prog w=.ok (.bool false) w:=by kernel_rfl
theorem az4:(binOp .eql 116 (.slice none 0 0) (.slice none 0 0)).run prog w=.ok (.bool true) w:=by kernel_rfl
theorem clone_nil:P_ m 141 #[.slice none 0 0] w λe w'=>e=.returned (.slice none 0 0)/\Keep No w w':=by
 have a:=az4 w;gi_enter func141,ntmps141;gi_wp2;go_ret;exact⟨by simp,p_ _ _⟩
theorem SX:(prog.info? 123).map (λi=>(i.zero,i.size,i.bytes))=some (some (a_ 0),1,2):=by kernel_rfl
theorem Ey {w w':o_} {row:d_ Nat} {S:Nat->Prop} (h:w.grownBy w' row) (hr:∀k,row=some k->k<w.heap.size->S k):Keep S w w':=⟨h.os,h.output,h.size,λk a b=>h.block k a λe=>b (hr k e.symm a)⟩
theorem O8 {w:o_} {e:j_} {size:Nat}:(w.alloc (.cells #[] e)).ownsRow w.heap.size e size (Q_ w.heap.size 0 0) 0 []:=
 ⟨by simp,.inr ⟨w.heap.size,0,#[],rfl,w_ _,heap_alloc_new rfl,w_ _,Nat.zero_le _,by simp,by simp⟩⟩
theorem wZ {w:o_} {base base':Nat} {e:j_} {size:Nat} {v:n_} {n:Nat} {xs:U_} (h:w.ownsRow base e size v n xs) (hb:base'<=base):w.ownsRow base' e size v n xs:=by
 obtain⟨i,f⟩:=h;refine⟨i,?_⟩;obtain f|⟨g,cap,d,a,b,c⟩:=f
 .exact .inl f
 .exact .inr ⟨g,cap,d,a,Nat.le_trans hb b,c⟩
theorem Kq (ad:f_) (n c:Nat) (xs:U_) (hl:xs.length=n) (hc:∀j u,xs[j]?=some u->w.cell? (ad.add j)=some u) (h1:∀u∈xs,u.oneCell'=true) (hn:n<=1000):P_ m 141 #[.slice (some ad) n c] w λe w'=>Keep No w w'/\∃v,e=.returned v/\w'.ownsRow w.heap.size 123 1 v n xs:=by
 obtain⟨p,i,a,b,d⟩:=info_parts SX;have r:=az5 w (ad:=ad) (n:=n) (c:=c);gi_enter func141,ntmps141;gi_wp2_with (gi_at_builtin;refine wpListIn_append_own _ rfl (.tmp 5) (.tmp 6) 116 rfl w.heap.size 123 p (a_ 0) 1 2 underlying116 i a b d rfl (by decide) _ 0 [] rfl O8 ad n c xs rfl (by omega) (λj u l=>((p_ No w).alloc _).has (hc j u l)) h1 (by unfold maxLen;omega) (by omega) (by simp) ?_;intro q w1 g f _);go_ret;refine⟨((p_ No w).alloc (.cells #[] 123)).trans (Ey (S:=At w.heap.size) f (λk h _=>(x_ (show some w.heap.size=some k from h)).symm)) (λk o h=>absurd o (by rw[show k=w.heap.size from h];exact Nat.lt_irrefl _)),q,rfl,?_⟩;simpa using g
theorem LM (x:Nat):P_ m 273 #[a_ x] w λe w'=>e=.returned (.agg #[a_ 0,a_ x,.nilFunc])/\Keep No w w':=by
 gi_enter func273,ntmps273;gi_wp2;refine TR 0 x (by simp[results,results273,go_sem]) rfl ?_;exact⟨rfl,by repeat (first|exact p_ _ _|refine Keep.drew ?_|refine Keep.alloc ?_ _)⟩
theorem Dh (x:Nat) (hx:x<65536):P_ m 272 #[b_ x] w λe w'=>e=.returned (.agg #[a_ x,a_ 0,.nilFunc])/\Keep No w w':=by
 gi_enter func272,ntmps272;gi_wp2;refine TR x 0 (by simp[results,results272,go_sem]) rfl ?_;exact⟨rfl,by repeat (first|exact p_ _ _|refine Keep.drew ?_|refine Keep.alloc ?_ _)⟩
theorem info3:(prog.info? 3).map (λi=>(i.zero,i.size,i.bytes))=some (some (b_ 0),1,8):=by kernel_rfl
theorem bn6 {ad:f_} {n c:Nat}:(binOp .eql 22 (.slice (some ad) n c) (.slice none 0 0)).run prog w=.ok (.bool false) w:=by kernel_rfl
theorem bn3:(binOp .eql 22 (.slice none 0 0) (.slice none 0 0)).run prog w=.ok (.bool true) w:=by kernel_rfl
theorem qI:P_ m 102 #[.slice none 0 0] w λe w'=>e=.returned (.slice none 0 0)/\Keep No w w':=by
 have a:=bn3 w;gi_enter func102,ntmps102;gi_wp2;go_ret;exact⟨by simp,p_ _ _⟩
theorem XK (ad:f_) (n c:Nat) (xs:U_) (hl:xs.length=n) (hc:∀j u,xs[j]?=some u->w.cell? (ad.add j)=some u) (h1:∀u∈xs,u.oneCell'=true) (hn:n<=1000):P_ m 102 #[.slice (some ad) n c] w λe w'=>Keep No w w'/\∃v,e=.returned v/\w'.ownsRow w.heap.size 3 1 v n xs:=by
 obtain⟨p,i,a,b,d⟩:=info_parts info3;have r:=bn6 w (ad:=ad) (n:=n) (c:=c);gi_enter func102,ntmps102;gi_wp2_with (gi_at_builtin;refine wpListIn_append_own _ rfl (.tmp 5) (.tmp 6) 22 rfl w.heap.size 3 p (b_ 0) 1 8 underlying22 i a b d rfl (by decide) _ 0 [] rfl O8 ad n c xs rfl (by omega) (λj u l=>((p_ No w).alloc _).has (hc j u l)) h1 (by unfold maxLen;omega) (by omega) (by simp) ?_;intro q w1 g f _);go_ret;refine⟨((p_ No w).alloc (.cells #[] 3)).trans (Ey (S:=At w.heap.size) f (λk h _=>(x_ (show some w.heap.size=some k from h)).symm)) (λk o h=>absurd o (by rw[show k=w.heap.size from h];exact Nat.lt_irrefl _)),q,rfl,?_⟩;simpa using g
end
theorem KG.one {T:Tag} {w:o_} {kb b:Nat} {f:n_} (h:KG T w kb b f):f.oneCell'=true:=by
 obtain rfl|⟨_,_,rfl,_⟩|⟨_,rfl|rfl,_⟩:=h<;>rfl
theorem Ap {w:o_} {rb:Nat} {a b c f:n_} {x y:Int} (h:w.heap[rb]?=some (O_ #[a,b,c] 206)) (hf:f.oneCell'=true):∃w',(Instr.storeAt 206 (R_ rb) (.agg #[a_ x,a_ y,f])).run prog w=.ok () w'/\Keep (At rb) w w'/\w'.heap[rb]?=some (O_ #[a_ x,a_ y,f] 206):=by
 have e:(Instr.storeAt 206 (R_ rb) (.agg #[a_ x,a_ y,f])).run prog w=(stores rb 0 [a_ x,a_ y,f] (.pure ())).run prog w:=by kernel_rfl
 obtain⟨w',d,g,i⟩:=GR (P:=prog) (k:=Sem.pure ()) [a_ x,a_ y,f] 0 _ w h (by simp) (by simp[hf];exact⟨rfl,rfl⟩);refine⟨w',?_,g,?_⟩
 .rw[e,d];rfl
 .rw[i];simp[Sz]
def St8 (rb:Nat) (y:Int) (w:o_):Prop:=∃w8,(Instr.storeAt 206 (R_ rb) (.agg #[a_ 0,a_ y,.nilFunc])).run prog w=.ok () w8/\Keep (At rb) w w8/\w8.heap[rb]?=some (O_ #[a_ 0,a_ y,.nilFunc] 206)
theorem wr8 {w:o_} {rb:Nat} {a b c:n_} (y:Nat) (h:w.heap[rb]?=some (O_ #[a,b,c] 206)) (m:Nat):P_ m 140 #[a_ y] w λe w'=>e=.returned (.agg #[a_ 0,a_ y,.nilFunc])/\Keep No w w'/\St8 rb y w':=(J5 m w y).mono λ_ _ ⟨e,K⟩=>⟨e,K,Ap (K.old h id) rfl⟩
theorem fw8 {w:o_} {rb:Nat} {a b c:n_} (y:Nat) (h:w.heap[rb]?=some (O_ #[a,b,c] 206)) (m:Nat):P_ m 273 #[a_ y] w λe w'=>e=.returned (.agg #[a_ 0,a_ y,.nilFunc])/\Keep No w w'/\St8 rb y w':=(LM m w y).mono λ_ _ ⟨e,K⟩=>⟨e,K,Ap (K.old h id) rfl⟩
def FQ (NC NS b:Nat) (K:KS) (w:o_) (e:Ending) (w':o_):Prop:=∃(K':KS) (x y:Nat) (f:n_),e=.returned (.agg #[a_ x,a_ y,f])/\x<65536/\y<65536/\KG K'.T w' K'.kb b f/\AV K' w'/\Ez NC NS K'/\Rel b K K'/\BM K.T K'.T w w'/\∃r',K'.ps b=some r'/\(r'.en=false->b∈K'.AP)
theorem A7 {NC NS b x y:Nat} {K K':KS} {w w0 w7 w8:o_} {f:n_} {r':PR} (BI:∀k,w.heap.size<=k->K.T k=(0,0)) (K0:Keep No w w0) (BN:w.heap.size<w0.heap.size) (hV:BM K.T K'.T w0 w7) (h7:AV K' w7) (K8:Keep (At w.heap.size) w7 w8) (hx:x<65536) (hy:y<65536) (hf:KG K'.T w7 K'.kb b f) (hO:Ez NC NS K') (hR:Rel b K K') (hr:K'.ps b=some r') (G7:r'.en=false->b∈K'.AP):FQ NC NS b K w (.returned (.agg #[a_ x,a_ y,f])) w8:=by
 have a:K'.T w.heap.size=(0,0):=(Dv.fresh hV _ BN).trans (BI _ (w_ _));have c:Keep (On K'.T λt=>t=(0,0)) w7 w8:=K8.on λk _ e=>by rw[show k=w.heap.size from e];exact a
 exact⟨K',x,y,f,rfl,hx,hy,hf.keep c (by simp),h7.own K8 a,hO,hR,((BM.no K0 BI).trans hV).own K8 (λk e=>by rw[show k=w.heap.size from e];exact w_ _),r',hr,G7⟩
structure Q4 (K K':KS):Prop where
 eq:K'={ K with desc:=K'.desc,ef:=K'.ef,op:=K'.op,nl:=K'.nl,nm:=K'.nm,T:=K'.T }
theorem Tabs.tt {K K':KS} (h:Tabs K K'):Q4 K K':=⟨by rw[h.eq]⟩
theorem Q4.refl (K:KS):Q4 K K:=⟨rfl⟩
theorem Ez.fds {NC NS b:Nat} {K K1:KS} {r r':PR} {H:Nat->Nat} (h:Ez NC NS K) (hT:Q4 K K1) (hm:b∈K.AP) (hb:K.ps b=some r) (hp:r'.pid=r.pid) (_:r'.en=r.en) (Gz:r'.co=r.co) (hsw:r'.sw=r.sw) (hi:r'.Ag.length=r.Ag.length) (ho:r'.Ok) (ht:ED H K1) (hH:∀i,i<20->H i+r.fds.count (i:Int)=BF K.ps K.AP i+r'.fds.count (i:Int)):Ez NC NS (K1.Di b r')/\Rel b K (K1.Di b r'):=by
 have e1:K1.ps=K.ps:=by rw[hT.eq]
 have e2:K1.AP=K.AP:=by rw[hT.eq]
 have e3:K1.core=K.core:=by rw[hT.eq]
 have e4:K1.swap=K.swap:=by rw[hT.eq]
 have c:Jq b K.ps (Dz K1.ps b r'):=by rw[e1];exact Jq.set
 refine h.step (b:=b) (r:=r) (r':=r') e2 (by show K1.Cj=K.Cj;rw[hT.eq]) (by show K1.kb=K.kb;rw[hT.eq]) c hb Am ho hp ?_ ?_ ?_
 .refine h.co.same e3 (λi=>?_) λk q a=>?_
  .show BD (EX i (Dz K1.ps b r')) K1.AP=_;rw[e1,e2];refine BV λk _=>?_
   by_cases e:k=b
   .subst e;rw[DX Am,DX hb,Gz,hi]
   .unfold EX;rw[BZ e]
  .have a:Dz K1.ps b _ k=some q:=a;by_cases e:k=b
   .subst e;rw[Am]at a;cases a;rw[hi,Gz];exact h.co.pl _ r hb
   .rw[BZ e,e1]at a;exact h.co.pl k q a
 .refine h.sw.step (b:=b) e2 h.nd hm c hb Am ?_ ?_ (Nat.zero_le _) ?_ λi=>?_
  .show Sound NS K1.swap;rw[e4];exact h.sw.so
  .show VW K1.swap;rw[e4];exact h.sw.uM
  .rw[hsw,hi];exact h.sw.pl b r hb
  .show Dq i K1.swap+_+_=_;rw[e4,hi,hsw]
 .have d:ED H (K1.Di b r'):=⟨ht.ho,ht.le,ht.op,ht.nd,ht.nz,ht.nm,ht.dj⟩;refine d.congr λi hi=>?_
  have:=Ql (i:=i) h.nd hm c hb Am;show BF (Dz K1.ps b r') K1.AP i=_;rw[e2];have:=hH i hi;omega
theorem NT {l:List Int} {k:Nat} {n m a:Int} (h:l[k]?=some n):(l.set k m).count a+(if n=a then 1 else 0)=l.count a+(if m=a then 1 else 0):=by
 have b:=(LQ.1 h).1;have c:=OW h;have e:l.set k m=l.take k++m::l.drop (k+1):=List.set_eq_take_append_cons_drop.trans (if_pos b);rw[e]
 conv=>rhs;rw[c]
 simp only[List.count_append,List.count_cons];simp only[beq_iff_eq];omega
theorem BJ {NC NS b x y:Nat} {K:KS} {r:PR} {w w0 w7 w8:o_} (h:AV K w) (hO:Ez NC NS K) (hm:b∈K.AP) (hb:K.ps b=some r) (K0:Keep No w w0) (BN:w.heap.size<w0.heap.size) (hK:Keep No w0 w7) (K8:Keep (At w.heap.size) w7 w8) (hx:x<65536) (hy:y<65536):FQ NC NS b K w (.returned (.agg #[a_ x,a_ y,.nilFunc])) w8:=
 A7 (K':=K) (x:=x) (y:=y) h.lt K0 BN (BM.no hK (h.no K0).lt) ((h.no K0).no hK) K8 hx hy (.inl rfl) hO (Rel.refl b K) hb (λ_=>hm)
theorem Wl {r:PR} {l:List Int} (o:r.Ok) (h6:r.en=false->l.length=6) (h:∀n∈l,n=-1\/∃i:Nat,n=i/\i<20) (hn:r.en=false):PR.Ok { r with fds:=l }:=⟨o.A,o.B,o.P,o.st,o.pid,o.par,o.Ag,h6,h,o.len,λe=>absurd e (by simp[hn])⟩
theorem RD {l:List Int} {k:Nat} {x:Int} (h:∀n∈l,n=-1\/∃i:Nat,n=i/\i<20) (hx:x=-1\/∃i:Nat,x=i/\i<20):∀n∈l.set k x,n=-1\/∃i:Nat,n=i/\i<20:=λn b=>by
 obtain a|rfl:=List.mem_or_eq_of_mem_set b
 .exact h n a
 .exact hx
theorem Ez.close {NC NS b i k:Nat} {K:KS} {r:PR} (h:Ez NC NS K) (hm:b∈K.AP) (hb:K.ps b=some r) (hn:r.en=false) (hi:i<20) (hg:r.fds[k]?=some (i:Int)):0<K.desc i/\Ez NC NS ((K.drop i).Di b { r with fds:=r.fds.set k (-1) })/\Rel b K ((K.drop i).Di b { r with fds:=r.fds.set k (-1) }):=by
 have o:=h.pr b r hb;have f:0<r.fds.count (i:Int):=List.count_pos_iff.2 (t_ hg);have d:0<BF K.ps K.AP i:=Nat.lt_of_lt_of_le f (RX hm hb);refine⟨by rw[h.DV.ho i hi];exact d,h.fds ((Tabs.refl K).drop i).tt hm hb rfl rfl rfl rfl rfl (Wl o (λe=>by simp[o.fds e]) (RD o.fd (.inl rfl)) hn) (h.DV.drop hi d) λj _=>?_⟩;have:=NT (m:=-1) (a:=(j:Int)) hg;rw[if_neg (c:=(-1:Int)=(j:Int)) (by omega)]at this;simp only[Ar];split
 .rename_i e;subst e;rw[if_pos rfl]at this;omega
 .rename_i e;rw[if_neg (by omega)]at this;omega
theorem ED.share {H:Nat->Nat} {K:KS} (h:ED H K) {i:Nat} (hd:0<K.desc i) (hle:∀j,j<20->Ar H i (H i+1) j<=1000) (hi:i<20):ED (Ar H i (H i+1)) { K with desc:=Ar K.desc i (K.desc i+1) }:=by
 refine⟨λj a=>?_,hle,λf=>?_,h.nd,h.nz,h.nm,h.dj⟩
 .show Ar K.desc i (K.desc i+1) j=_;unfold Ar;split
  .rw[h.ho i hi]
  .exact h.ho j a
 .rw[h.op f];unfold Ej;refine BV λj _=>?_
  show _=if 0<Ar K.desc i (K.desc i+1) j/\K.ef j=some f then 1 else 0
  unfold Ar;by_cases e:j=i
  .subst e;simp[hd]
  .simp[e]
theorem Xl {f:Nat->Nat} {c:Nat}:∀{l:List Nat},(∀b∈l,f b<=c)->BD f l<=c*l.length
 |[],_=>by simp[BD]
 |b::l,h=>by
  have d:=h b (by simp)
  have e:=Xl (f:=f) (l:=l) λx a=>h x (by simp[a])
  simp only[BD,List.length_cons,Nat.mul_add];omega
theorem Ez.XB {NC NS:Nat} {K:KS} (h:Ez NC NS K) (i:Nat):BF K.ps K.AP i<=72:=by
 have:=Xl (f:=I8 K.ps i) (c:=6) (l:=K.AP) λb _=>by
  unfold I8
  cases hb:K.ps b with
  |none=>simp
  |some r=>
   have o:=h.pr b r hb
   have a:r.fds.count (i:Int)<=r.fds.length:=List.count_le_length
   cases he:r.en with
   |false=>rw[o.fds he]at a;exact a
   |true=>rw[(o.off he).1]at a;simp at a;simp[(o.off he).1]
 have:=h.len;unfold BF;omega
theorem Ez.dup {NC NS b i k:Nat} {K:KS} {r:PR} (h:Ez NC NS K) (hm:b∈K.AP) (hb:K.ps b=some r) (hn:r.en=false) (hi:i<20) (hd:0<K.desc i) (hg:r.fds[k]?=some (-1)):Ez NC NS (KS.Di { K with desc:=Ar K.desc i (K.desc i+1) } b { r with fds:=r.fds.set k (i:Int) })/\Rel b K (KS.Di { K with desc:=Ar K.desc i (K.desc i+1) } b { r with fds:=r.fds.set k (i:Int) }):=by
 have o:=h.pr b r hb;have d:=h.XB;refine h.fds (K1:={ K with desc:=Ar K.desc i (K.desc i+1) }) ⟨rfl⟩ hm hb rfl rfl rfl rfl rfl (Wl o (λe=>by simp[o.fds e]) (RD o.fd (.inr ⟨i,rfl,hi⟩)) hn) (h.DV.share hd (λj f=>by unfold Ar;split;have:=d i;omega;have:=d j;omega) hi) λj _=>?_
 have:=NT (m:=(i:Int)) (a:=(j:Int)) hg;rw[if_neg (c:=(-1:Int)=(j:Int)) (by omega)]at this;simp only[Ar];split
 .rename_i e;subst e;rw[if_pos rfl]at this;omega
 .rename_i e;rw[if_neg (by omega)]at this;omega
section
variable (m:Nat) (w:o_)
theorem ab3 (K:KS) (NC NS b fd:Nat) (r:PR) (h:AV K w) (hO:Ez NC NS K) (hm:b∈K.AP) (hb:K.ps b=some r) (hn:r.en=false) (hfd:fd<65536):
  P_ m 148 #[R_ K.kb,R_ b,a_ (fd:Nat)] w (FQ NC NS b K w):=by
 have o:=hO.pr b r hb;obtain⟨t,I,D⟩:=HY w;have B:=h.no t;have M:K.T w.heap.size=(0,0):=h.lt _ (w_ _);have R:=λm=>Wu m _ K b fd r B hb hn hfd
 gi_enter func148,ntmps148;gi_wp2_with (gi_at_call 202;refine(R _).mono ?_;rintro e w1 ⟨p,x,rfl,hx⟩;generalize Z:w.alloc V_=w0 at *;cases x)
 .skip
  gi_wp2_with (first|(gi_at_call 140;refine(wr8 2 (p.old I id) _).mono ?_;rintro e wz ⟨rfl,a,w8,s,u,z⟩)|refine En s ?_);refine TR 0 2 (by simp[results,results148,go_sem,EF z]) rfl ?_;exact BJ h hO hm hb t D (p.then a) u (by decide) (by decide)
 .obtain⟨n,k,L⟩:=hx (by first|rfl|trivial);obtain⟨i,rfl,l⟩:=(o.fd n (t_ k)).resolve_left L;obtain⟨H,P,N⟩:=hO.close hm hb hn l k;have F:=B.no p;obtain⟨g,c,q9,uS,tg,vH⟩:=F.bY hb hn;have Y:=(LQ.1 k).1;have f1:(fd:Int)<(r.fds.length:Int):=by omega
  have d:=uS.MR rfl k;gi_wp2;refine Bi 10 30 ?_;gi_wp2;refine CZ ?_ ?_
  .intro W q;have d9:=q.has (w:=w1.drew) q9;have dd:=q.has (w:=w1.drew) d
   repeat' (refine Ae ?_ ?_)
   all_goals first|exact trivial|gi_wp2
  .intro W q;have KW:Keep No w1 W:=(p_ No w1).drew.then q;have V:=F.no KW;have Q:=λm=>uo m W K i V l H (by have:=hO.DV.le i l;rw[hO.DV.ho i l];exact this) (by have:=hO.DV.nl;omega) (λf X=>hO.DV.eff l H X)
   have E:(K.drop i).ps b=some r:=(by rw[((Tabs.refl K).drop i).ps];exact hb);gi_wp2_with (gi_at_call 155;refine(Q _).mono ?_;rintro e w2 ⟨rfl,G,O⟩;obtain⟨g2,c2,p9,v,C,A⟩:=G.bY E hn;have d2:=v.MR rfl k;have U:=v.fz fd);have J:=G.an9 (i:=fd) (x:=-1) E hn A v C;have S:(K.drop i).T=K.T:=((Tabs.refl K).drop i).T;have j:BM K.T (K.drop i).T w0 _:=((BM.no (p.then KW) B.lt).trans (by rw[S];exact O)).trans J.2;gi_wp2_with (first|(gi_at_call 152;refine(Dx _ _ 0 (by omega)).mono ?_;rintro e wz ⟨rfl,a⟩;obtain⟨w8,s,u,z⟩:=Ap (x:=0) (y:=0) (f:=.nilFunc) (a.old (j.old I M) id) rfl)|refine En s ?_);refine TR 0 0 (by simp[results,results148,go_sem,EF z]) rfl ?_;exact A7 (K':=(K.drop i).Di b { r with fds:=r.fds.set fd (-1) }) (x:=0) (y:=0) h.lt t D ((j).then a) ((J.1).no a) u (by omega) (by omega) (.inl rfl) (P) (N) Am (λ_=>by show b∈(K.drop i).AP;rw[((Tabs.refl K).drop i).AP];exact hm)
end
section
variable (m:Nat) (w:o_)
theorem az6 (K:KS) (NC NS b fd:Nat) (r:PR) (h:AV K w) (hO:Ez NC NS K) (hm:b∈K.AP) (hb:K.ps b=some r) (hn:r.en=false) (hfd:fd<65536):
  P_ m 149 #[R_ K.kb,R_ b,a_ (fd:Nat)] w (FQ NC NS b K w):=by
 have o:=hO.pr b r hb;have O:r.fds.length<=6:=by rw[o.fds hn];omega
 obtain⟨B,H,D⟩:=HY w;have p:=h.no B;have S:K.T w.heap.size=(0,0):=h.lt _ (w_ _);have ch:=λm=>Wu m _ K b fd r p hb hn hfd
 gi_enter func149,ntmps149;gi_wp2_with (gi_at_call 202;refine(ch _).mono ?_;rintro e w1 ⟨k,x,rfl,hx⟩;generalize hw0:w.alloc V_=w0 at *;cases x)
 .skip
  gi_wp2_with (first|(gi_at_call 140;refine(wr8 2 (k.old H id) _).mono ?_;rintro e Q ⟨rfl,a,P,q,u,v⟩)|refine En q ?_);refine TR 0 2 (by simp[results,results149,go_sem,EF v]) rfl ?_;exact BJ h hO hm hb B D (k.then a) u (by decide) (by decide)
 .obtain⟨n,z,R⟩:=hx (by first|rfl|trivial);obtain⟨i,rfl,A⟩:=(o.fd n (t_ z)).resolve_left R;obtain⟨M,_⟩:=hO.close hm hb hn A z;have h1:=p.no k;have E:=λm=>fM m w1 K b r h1 hb hn (by omega)
  have G:=Xo (l:=r.fds);generalize hs:FK r.fds=s at E G;by_cases F:s=0
  .subst F;gi_wp2_with (gi_at_call 204;refine(E _).mono ?_;rintro e w2 ⟨t,rfl⟩);gi_wp2_with (first|(gi_at_call 140;refine(wr8 7 ((k.then t).old H id) _).mono ?_;rintro e Q ⟨rfl,a,P,q,u,v⟩)|refine En q ?_);refine TR 0 7 (by simp[results,results149,go_sem,EF v]) rfl ?_;exact A7 (K':=K) (x:=0) (y:=7) h.lt B D (((BM.no (k.then t) p.lt)).then a) ((p.no (k.then t)).no a) u (by omega) (by omega) (.inl rfl) (hO) (Rel.refl b K) hb (λ_=>hm)
  .have f0:((s:Int)==0)=false:=(by simp;omega);gi_wp2_with (gi_at_call 204;refine(E _).mono ?_;rintro e w2 ⟨t,rfl⟩);have KK:=k.then t;have J:=p.no KK;obtain⟨g,c,q9,uS,tg,vH⟩:=J.bY hb hn;have hfl:=(LQ.1 z).1;have f1:(fd:Int)<(r.fds.length:Int):=(by omega);have d:=uS.MR rfl z;refine Bi 10 37 ?_;gi_wp2;refine CZ ?_ ?_
   .intro W C;have d9:=C.has (w:=w2.drew) q9;have dd:=C.has (w:=w2.drew) d
    repeat' (refine Ae ?_ ?_)
    all_goals first|exact trivial|gi_wp2
   .intro W C;have KW:Keep No w2 W:=(p_ No w2).drew.then C;have hW:=J.no KW;have cd:=λm=>fO m W K i hW A M (by have:=hO.DV.le i A;rw[hO.DV.ho i A];exact this)
    gi_wp2_with (gi_at_call 193;refine(cd _).mono ?_;rintro e w3 ⟨rfl,L,X⟩;obtain⟨g2,c2,p9,V,tg2,bd4⟩:=L.bY (b:=b) hb hn;have d2:=V.MR rfl z;have ce:=λm=>Qy m w3 _ b (i:Int) r L hb hn (by omega) (by omega));gi_wp2_with (gi_at_call 200;refine(ce _).mono ?_;rintro e w4 ⟨j,N,rfl,h4,Y⟩);have hjl:=(LQ.1 N).1;obtain⟨Z,U⟩:=hO.dup hm hb hn A M N;have I:BM K.T K.T w0 w4:=((BM.no (KK.then KW) p.lt).trans X).trans Y;gi_wp2_with (first|(gi_at_call 152;refine(Dx _ _ j (by omega)).mono ?_;rintro e Q ⟨rfl,a⟩;obtain⟨P,q,u,v⟩:=Ap (x:=j) (y:=0) (f:=.nilFunc) (a.old (I.old H S) id) rfl)|refine En q ?_);refine TR j 0 (by simp[results,results149,go_sem,EF v]) rfl ?_;exact A7 (K':=KS.Di { K with desc:=Ar K.desc i (K.desc i+1) } b { r with fds:=r.fds.set j (i:Int) }) (x:=j) (y:=0) h.lt B D ((I).then a) ((h4).no a) u (by omega) (by omega) (.inl rfl) (Z) (U) Am (λ_=>hm)
end
theorem u333:(prog.underlying 333).map (λd=>match d with | .struct fs=>fs[0]?.map (λf=>(f.type,f.offset,f.byteOffset))|_=>none)=some (some (331,0,0)):=by kernel_rfl
theorem bg0:prog.cellsOf 333=1:=by kernel_rfl
theorem bf9:prog.cellsOf 335=1:=by kernel_rfl
theorem bg2:byteOfCell prog prog.depth 333 0=some 0:=by kernel_rfl
theorem ag6 {w:o_} {b p:Nat} {T:j_} (h:w.heap[b]?=some (O_ #[ptr p] T)) (hs:prog.cellsOf T=1) (hb:byteOfCell prog prog.depth T 0=some 0):(partAt (S_ b) 0 0).run prog w=.ok (S_ b) w:=by
 have a:w.shape? b=some (T,1):=by simp[World.shape?,h]
 simp[partAt,byteOf,noView,viewAt,a,hs,hb,Result.andThen]
theorem TI {w:o_} {b p:Nat} {t S:j_} {name:String} {f:h_} (hm:((prog.info? t).bind fun i=>(i.methods.find? fun m=>m.name==name).map fun m=>(m.path.toList,m.func))=some ([⟨S,0,true⟩],some (f,false))) (hu:(prog.underlying S).map (fun d=>match d with | .struct fs=>fs[0]?.map (fun f=>(f.type,f.offset,f.byteOffset))|_=>none)=some (some (331,0,0))) (h:w.heap[b]?=some (O_ #[ptr p] S)) (hs:prog.cellsOf S=1) (hb:byteOfCell prog prog.depth S 0=some 0):
  (method 468 t (R_ b) name).run prog w=.ok (f,.agg #[]) w:=by
 cases hi:prog.info? t with
 |none=>rw[hi]at hm;cases hm
 |some i=>
  rw[hi]at hm
  simp only[Option.bind_some]at hm
  cases hf:i.methods.find? (λm=>m.name==name)with
  |none=>rw[hf]at hm;cases hm
  |some M=>
   rw[hf]at hm
   simp only[Option.map_some,Option.some.injEq,Prod.mk.injEq]at hm
   obtain⟨m1,m2⟩:=hm
   cases hd:prog.underlying S with
   |none=>rw[hd]at hu;cases hu
   |some d=>
    rw[hd]at hu
    cases d with
    |struct fs=>
     simp only[Option.map_some,Option.some.injEq]at hu
     cases hx:fs[0]? with
     |none=>rw[hx]at hu;cases hu
     |some F=>
      rw[hx]at hu
      simp only[Option.map_some,Option.some.injEq,Prod.mk.injEq]at hu
      obtain⟨e,g,j⟩:=hu
      have c:=ag6 h hs hb
      have a:prog.underlying 331=some (.struct #[]):=by kernel_rfl
      rw[show(468:Nat)=467+1 from rfl]
      unfold method
      simp[typeInfo,hi,hf,m1,m2,follow,run_underlying hd,hx,e,g,j,Place.get,asAddr,fieldPlace,c,receiverAt,run_underlying a,loadVar,loadCells,loadCellsFrom,Result.andThen]
    |_=>simp at hu
theorem u335:(prog.underlying 335).map (λd=>match d with | .struct fs=>fs[0]?.map (λf=>(f.type,f.offset,f.byteOffset))|_=>none)=some (some (331,0,0)):=by kernel_rfl
theorem bg1:byteOfCell prog prog.depth 335 0=some 0:=by kernel_rfl
theorem gX {w:World} {b p:Nat} (h:w.heap[b]?=some (.cells #[ptr p] 333 (0,0))):(method 468 330 (.pointer (some ⟨b,0,none⟩)) "Write").run prog w=.ok (268,.agg #[]) w:=TI (by kernel_rfl) u333 h bg0 bg2
theorem Ϯ {w:World} {b p:Nat} (h:w.heap[b]?=some (.cells #[ptr p] 333 (0,0))):(method 468 330 (.pointer (some ⟨b,0,none⟩)) "Seek").run prog w=.ok (267,.agg #[]) w:=TI (by kernel_rfl) u333 h bg0 bg2
theorem ϭ {w:World} {b p:Nat} (h:w.heap[b]?=some (.cells #[ptr p] 335 (0,0))):(method 468 334 (.pointer (some ⟨b,0,none⟩)) "Seek").run prog w=.ok (267,.agg #[]) w:=TI (by kernel_rfl) u335 h bf9 bg1
theorem gZ {w:World} {b p:Nat} (h:w.heap[b]?=some (.cells #[ptr p] 335 (0,0))):(method 468 334 (.pointer (some ⟨b,0,none⟩)) "Read").run prog w=.ok (274,.agg #[]) w:=TI (by kernel_rfl) u335 h bf9 bg1
theorem ig (b:Nat):∀w:World,(method 468 330 (.pointer (some ⟨b,0,none⟩)) "Read").run prog w=.ok (266,.pointer (some ⟨b,0,none⟩)) w:=λw=>by kernel_rfl
theorem gV (b:Nat):∀w:World,(method 468 334 (.pointer (some ⟨b,0,none⟩)) "Write").run prog w=.ok (275,.pointer (some ⟨b,0,none⟩)) w:=λw=>by kernel_rfl
theorem gU (b:Nat):∀w:World,(method 468 337 (.pointer (some ⟨b,0,none⟩)) "Write").run prog w=.ok (279,.pointer (some ⟨b,0,none⟩)) w:=λw=>by kernel_rfl
theorem Ϭ (b:Nat):∀w:World,(method 468 337 (.pointer (some ⟨b,0,none⟩)) "Seek").run prog w=.ok (278,.pointer (some ⟨b,0,none⟩)) w:=λw=>by kernel_rfl
theorem gY (b:Nat):∀w:World,(method 468 337 (.pointer (some ⟨b,0,none⟩)) "Read").run prog w=.ok (277,.pointer (some ⟨b,0,none⟩)) w:=λw=>by kernel_rfl
section
variable (m:Nat) (w:o_)
theorem Zr (v:n_):P_ m 268 #[.agg #[],v] w λe w'=>e=.returned (.agg #[a_ 0,a_ 2,.nilFunc])/\Keep No w w':=by
 have c:=λm w=>LM m w 2
 have h:Keep No w ((w.alloc (.cells #[] 331)).alloc V_):=((p_ _ _).alloc _).alloc _;have l:((w.alloc (.cells #[] 331)).alloc V_).heap[w.heap.size+1]?=some (O_ #[a_ 0,a_ 0,.nilFunc] 206):=by
  have:=heap_alloc_new (w:=w.alloc (.cells #[] 331)) (o:=.cells #[a_ 0,a_ 0,.nilFunc] 206) rfl
  simpa using this
 gi_enter func268,ntmps268;gi_wp2_with (first|(gi_at_call 273;refine(c _ _).mono ?_;rintro e w1 ⟨rfl,d⟩;obtain⟨b,g,i,a⟩:=Ap (x:=0) (y:=2) (f:=.nilFunc) (d.old l id) rfl)|refine En g ?_);have q:b.cell? (S_ (w.heap.size+1))=some (a_ 0):=bce a rfl;have p:b.cell? (T_ (w.heap.size+1) 1)=some (a_ 2):=bce a rfl;have n:b.cell? (T_ (w.heap.size+1) 2)=some .nilFunc:=bce a rfl;refine TR 0 2 (by simp[results,results268,go_sem,q,p,n]) rfl ?_;exact⟨rfl,(h.then d).trans i (λk j e=>absurd j (by rw[show k=w.heap.size+1 from e];omega))⟩
theorem iM (v:n_):P_ m 267 #[.agg #[],v] w λe w'=>e=.returned (.agg #[a_ 0,a_ 2,.nilFunc])/\Keep No w w':=by
 have c:=λm w=>LM m w 2
 have h:Keep No w ((w.alloc (.cells #[] 331)).alloc V_):=((p_ _ _).alloc _).alloc _;have l:((w.alloc (.cells #[] 331)).alloc V_).heap[w.heap.size+1]?=some (O_ #[a_ 0,a_ 0,.nilFunc] 206):=by
  have:=heap_alloc_new (w:=w.alloc (.cells #[] 331)) (o:=.cells #[a_ 0,a_ 0,.nilFunc] 206) rfl
  simpa using this
 gi_enter func267,ntmps267;gi_wp2_with (first|(gi_at_call 273;refine(c _ _).mono ?_;rintro e w1 ⟨rfl,d⟩;obtain⟨b,g,i,a⟩:=Ap (x:=0) (y:=2) (f:=.nilFunc) (d.old l id) rfl)|refine En g ?_);have q:b.cell? (S_ (w.heap.size+1))=some (a_ 0):=bce a rfl;have p:b.cell? (T_ (w.heap.size+1) 1)=some (a_ 2):=bce a rfl;have n:b.cell? (T_ (w.heap.size+1) 2)=some .nilFunc:=bce a rfl;refine TR 0 2 (by simp[results,results267,go_sem,q,p,n]) rfl ?_;exact⟨rfl,(h.then d).trans i (λk j e=>absurd j (by rw[show k=w.heap.size+1 from e];omega))⟩
theorem iO (v:n_):P_ m 274 #[.agg #[],v] w λe w'=>e=.returned (.agg #[a_ 0,a_ 2,.nilFunc])/\Keep No w w':=by
 have c:=λm w=>LM m w 2
 have h:Keep No w ((w.alloc (.cells #[] 331)).alloc V_):=((p_ _ _).alloc _).alloc _;have l:((w.alloc (.cells #[] 331)).alloc V_).heap[w.heap.size+1]?=some (O_ #[a_ 0,a_ 0,.nilFunc] 206):=by
  have:=heap_alloc_new (w:=w.alloc (.cells #[] 331)) (o:=.cells #[a_ 0,a_ 0,.nilFunc] 206) rfl
  simpa using this
 gi_enter func274,ntmps274;gi_wp2_with (first|(gi_at_call 273;refine(c _ _).mono ?_;rintro e w1 ⟨rfl,d⟩;obtain⟨b,g,i,a⟩:=Ap (x:=0) (y:=2) (f:=.nilFunc) (d.old l id) rfl)|refine En g ?_);have q:b.cell? (S_ (w.heap.size+1))=some (a_ 0):=bce a rfl;have p:b.cell? (T_ (w.heap.size+1) 1)=some (a_ 2):=bce a rfl;have n:b.cell? (T_ (w.heap.size+1) 2)=some .nilFunc:=bce a rfl;refine TR 0 2 (by simp[results,results274,go_sem,q,p,n]) rfl ?_;exact⟨rfl,(h.then d).trans i (λk j e=>absurd j (by rw[show k=w.heap.size+1 from e];omega))⟩
end
theorem Jp:NI prog 116 123 (a_ 0) 1 2:=⟨underlying116,by kernel_rfl,by rfl,by decide,by intro x a;simp[Value.cells]at a;subst a;rfl⟩
theorem Et (l:List Nat):∀x∈Az l,x.oneCell'=true:=by
 intro x a;simp only[Az,List.mem_map]at a;obtain⟨n,_,rfl⟩:=a
 rfl
theorem TL {w:o_} {g n c o IX G8 CX sCap:Nat} {l ws:List Nat} {a:f_} {ty:j_} (hR:Rw 123 1 w g n c (Az l)) (hl:l.length=n) (hsrc:∀j v,(Az ws)[j]?=some v->w.cell? (a.add j)=some v) (hk:ws.length=Nat.min CX IX) (Eo:o+ws.length<=n):∃w',(Builtin.copy_ #[116,116] ty #[.slice (some (T_ g o)) IX G8,.slice (some a) CX sCap]).run prog w=.ok (goInt (Nat.min CX IX)) w'/\Keep (At g) w w'/\Rw 123 1 w' g n c (Az (l.take o++ws++l.drop (o+ws.length))):=by
 obtain⟨d,y,p,z⟩:=hR.blk;have s:=hR.le;have b:(Az ws).length=ws.length:=by simp[Az]
 have k:d.toList.length=c*1:=by simpa using p
 have q:=rV (ty:=ty) (sT:=116) (IX:=IX) (G8:=G8) (CX:=CX) (sCap:=sCap) Jp y (cs:=Az ws) (o:=o) (by rw[b,hk];simp) hsrc (by rw[b,p];omega) (Et ws);have t:(QV d.toList o (Az ws)).length=c*1:=by rw[NP (by rw[b,k];omega)];simpa using p
 refine⟨_,q,(p_ _ _).setRow _ _ λ_=>rfl,Ur hR t s ?_ (Et _)⟩;apply List.ext_getElem?;intro j;have m:=SN (l:=d.toList) (cs:=Az ws) (o:=o) (i:=j) (by rw[b,k];omega);have f:∀j,j<n->d.toList[j]?=(Az l)[j]?:=λj r=>by rw[<-z,List.getElem?_take,if_pos (by omega)]
 rw[List.getElem?_take];by_cases r:j<n*1
 .rw[if_pos r,m,b];have e:(Az (l.take o++ws++l.drop (o+ws.length)))[j]?=((l.take o++ws++l.drop (o+ws.length))[j]?).map λx:Nat=>Value.int .u16 (x:Int):=by simp only[Az,List.getElem?_map]
  rw[e,List.append_assoc,List.getElem?_append,List.getElem?_append];simp only[List.length_take,List.getElem?_take,List.getElem?_drop];have A:min o l.length=o:=by omega
  rw[A];by_cases h:j<o
  .rw[if_pos h,if_pos h,if_pos h,f j (by omega)];simp[Az]
  .rw[if_neg h,if_neg h];by_cases u:j<o+ws.length
   .rw[if_pos u,if_pos (by omega)];simp[Az]
   .rw[if_neg u,if_neg (by omega),f j (by omega)];have e2:o+ws.length+(j-o-ws.length)=j:=(by omega);rw[e2];simp only[Az,List.getElem?_map]
 .rw[if_neg r,List.getElem?_eq_none];simp[Az];omega
theorem al0 {w:o_} {d a:d_ f_} {IX G8 CX sCap:Nat} {ty:j_} (hn:Nat.min CX IX=0):(Builtin.copy_ #[116,116] ty #[.slice d IX G8,.slice a CX sCap]).run prog w=.ok (goInt 0) w:=qE Jp hn
section
variable (m:Nat) (w:o_)
theorem xO (g n cap i j:Nat) (xs:U_) (hR:Rw 123 1 w g n cap xs) (hij:i<j) (hjn:j<=n):
  P_ m 271 #[Q_ g n cap,b_ (i:Nat),b_ (j:Nat)] w λe w'=>e=.returned (Q_ g (i+(n-j)) cap)/\Keep (At g) w w'/\Rw 123 1 w' g (i+(n-j)) cap (xs.take (i*1)++xs.drop (j*1)):=by
 have p:=hR.le;have r:¬((j:Int)<(i:Int)):=by omega
 have s:¬((n:Int)<(j:Int)):=by omega
 have t:¬((cap:Int)<(n:Int)):=by omega
 by_cases a:cap=j
 all_goals
  gi_enter func271,ntmps271
  gi_wp2
  refine Bi 6 33 ?_
  gi_wp2
  refine CZ ?_ ?_
  .intro W f
   repeat' (refine Ae ?_ ?_)
   all_goals first|exact trivial|gi_wp2
  .intro W f;obtain⟨w1,b,h,l⟩:=mi (w:=W) (ty:=116) Jp (hR.keep ((p_ No w).drew.then f) id) hij hjn;obtain⟨w2,d,k,o⟩:=Qd (c:=cap-(i+(n-j))) (q:=n-(i+(n-j))) (ty:=0) Jp l (by omega);simp only[Nat.mul_one]at b d
   first|(rw[if_pos a]at b;simp only[a,Nat.sub_self]at b d)|rw[if_neg a]at b
   refine Ci rfl (.tmp 22) (.tmp 25) _ rfl rfl rfl b ?_;gi_wp2;go_ret;exact⟨by simp[a],(((p_ _ _).drew.then f.no).then h).then k,o⟩
theorem Ui (a:d_ f_) (n cap:Nat) (hc:n<=cap):P_ m 271 #[.slice a n cap,b_ 0,b_ 0] w λe w'=>e=.returned (.slice a n cap)/\Keep No w w':=by
 cases a with
 |none=>
  gi_enter func271,ntmps271
  gi_wp2
  go_ret
  exact⟨by simp,p_ _ _⟩
 |some a=>
  gi_enter func271,ntmps271
  gi_wp2
  go_ret
  exact⟨by simp,p_ _ _⟩
end
def Jr (r:PR) (v:n_):Prop:=v=.slice none 0 0\/∃g c o n,r.im=Q_ g r.Ag.length c/\v=.slice (some (T_ g o)) n n/\1<=n/\o+n<=r.Ag.length
def WZ (K:KS) (b:Nat) (r:PR) (w:o_) (e:Ending) (w':o_):Prop:=∃(Ag:List Nat) (x y:Nat) (f:n_),e=.returned (.agg #[a_ x,a_ y,f])/\x<65536/\y<65536/\KG K.T w' K.kb b f/\Ag.length=r.Ag.length/\(∀z∈Ag,z<65536)/\AV (K.Di b { r with Ag:=Ag }) w'/\BM K.T K.T w w'
theorem AV.YF {K:KS} {w:o_} {b:Nat} {r:PR} (h:AV K w) (hb:K.ps b=some r) (hn:r.en=false):∃g c,w.cell? (T_ b 8)=some (Q_ g r.Ag.length c)/\Rw 123 1 w g r.Ag.length c (Az r.Ag)/\K.T g=(7,b)/\r.im=Q_ g r.Ag.length c:=by
 obtain⟨g,c,a,d,e⟩:=(h.ps b r hb).im hn;exact⟨g,c,by rw[h.GG hb];simp[PR.arr,a],d,e,a⟩
theorem AV.Μ {K:KS} {w w':o_} {b g c:Nat} {r:PR} {Ag:List Nat} (h:AV K w) (hb:K.ps b=some r) (hn:r.en=false) (h1:r.im=Q_ g r.Ag.length c) (h3:K.T g=(7,b)) (hK:Keep (At g) w w') (h2:Rw 123 1 w' g r.Ag.length c (Az Ag)) (hl:Ag.length=r.Ag.length):AV (K.Di b { r with Ag:=Ag }) w'/\BM K.T K.T w w':=by
 have M:Dv K.T K.T (λt=>t=(6,b)\/t=(7,b)\/t=(8,b)\/t=(9,b)) (λt=>t=(6,b)\/t=(7,b)\/t=(8,b)\/t=(9,b)) w w':=Dv.of (hK.on λk _ e=>by subst e;exact .inr (.inl h3)) h.lt;have a:=h.ps b r hb;have d:Keep (On K.T λt=>t=(7,b)) w w':=hK.on λk _ e=>by subst e;exact h3
 refine⟨h.cO M ⟨a.t,hK.old a.o (λe=>?_),λ_=>⟨g,c,by rw[h1];simp only[hl],by simpa only[hl]using h2,h3⟩,λe=>?_,a.bl.keep d (by simp),λe=>absurd e (by simp[hn])⟩,M.Vt (by rintro t (rfl|rfl|rfl|rfl)<;>simp)⟩
 .have:=a.t;rw[show b=g from e,h3]at this;simp at this
 .obtain⟨j,i,a1,a2,f⟩:=a.fd e;exact⟨j,i,a1,a2.keep d (by unfold On;rw[f];simp),f⟩
theorem FY {K:KS} {b:Nat} {r:PR} (hb:K.ps b=some r):K.Di b r=K:=by
 unfold KS.Di;have e:Dz K.ps b r=K.ps:=by funext k;unfold Dz;split;rename_i e;rw[e,hb];rfl
 rw[e]
theorem Js {K:KS} {w:o_} {b:Nat} {r:PR} {v:n_} {CX sCap:Nat} {a:d_ f_} {ws:List Nat} {ty:j_} (h:AV K w) (hb:K.ps b=some r) (hn:r.en=false) (hI:∀z∈r.Ag,z<65536) (hv:Jr r v) (hw:∀x∈ws,x<65536) (hl:ws.length=CX) (hs:∀ad,a=some ad->∀j u,(Az ws)[j]?=some u->w.cell? (ad.add j)=some u) (ha:a=none->CX=0):
  ∃w' k Ag,(Builtin.copy_ #[116,116] ty #[v,.slice a CX sCap]).run prog w=.ok (goInt (k:Nat)) w'/\k<=CX/\k<=128+r.Ag.length/\Ag.length=r.Ag.length/\(∀z∈Ag,z<65536)/\AV (K.Di b { r with Ag:=Ag }) w'/\BM K.T K.T w w'/\Keep (On K.T λt=>t=(7,b)) w w':=by
 have i:∀(d:d_ f_) (IX G8:Nat),Nat.min CX IX=0->v=.slice d IX G8->∃w' k Ag,(Builtin.copy_ #[116,116] ty #[v,.slice a CX sCap]).run prog w=.ok (goInt (k:Nat)) w'/\k<=CX/\k<=128+r.Ag.length/\Ag.length=r.Ag.length/\(∀z∈Ag,z<65536)/\AV (K.Di b { r with Ag:=Ag }) w'/\BM K.T K.T w w'/\Keep (On K.T λt=>t=(7,b)) w w':=λd IX G8 f e=>by
  subst e
  exact⟨w,0,r.Ag,al0 f,by omega,by omega,rfl,hI,by rw[FY hb];exact h,BM.no (p_ _ _) h.lt,p_ _ _⟩
 obtain rfl|⟨g,c,o,n,p,rfl,I,L⟩:=hv
 .exact i none 0 0 (by simp) rfl
 .cases a with
  |none=>exact i _ n n (by rw[ha rfl];simp) rfl
  |some ad=>
   obtain⟨F,E,_,G,C,l⟩:=h.YF hb hn
   obtain⟨rfl,rfl⟩:g=F/\c=E:=by rw[l]at p;simp at p;exact⟨p.1.symm,p.2.symm⟩
   have B:(ws.take (Nat.min CX n)).length=Nat.min CX n:=by rw[List.length_take,hl];exact Nat.min_eq_left (Nat.min_le_left _ _)
   have H:Nat.min CX n<=n:=Nat.min_le_right _ _
   have m:Nat.min CX n<=CX:=Nat.min_le_left _ _
   obtain⟨w',J,A,D⟩:=TL (ty:=ty) (sCap:=sCap) (G8:=n) (IX:=n) (o:=o) (a:=ad) G rfl (ws:=ws.take (Nat.min CX n)) (λj u q=>hs ad rfl j u (by
    simp only[Az,List.map_take,List.getElem?_take]at q
    split at q
    .exact q
    .cases q)) B (by rw[B];omega)
   have y:(r.Ag.take o++ws.take (Nat.min CX n)++r.Ag.drop (o+(ws.take (Nat.min CX n)).length)).length=r.Ag.length:=by
    simp only[List.length_append,List.length_take,List.length_drop,hl]
    have:min (Nat.min CX n) CX=Nat.min CX n:=Nat.min_eq_left m
    rw[this];omega
   have s:=h.Μ hb hn l C A D y;refine⟨w',Nat.min CX n,_,J,m,by omega,y,λz f=>?_,s.1,s.2,A.on λk _ e=>by subst e;exact C⟩;obtain f|f:=List.mem_append.1 f
   .obtain f|f:=List.mem_append.1 f
    .exact hI z (List.mem_of_mem_take f)
    .exact hw z (List.mem_of_mem_take f)
   .exact hI z (List.mem_of_mem_drop f)
end Go.Fxa
