/- Calls of descriptors: close, d -/
import Derived.Test.YtmhplpfpcnjekaaGreatA24
namespace Go.Fxa
open Conc Proofs RowKit Proofs.Tryz
set_option maxRecDepth 1000000
set_option maxHeartbeats 0
variable {r:PR}{l:List Int}{k NC NS b i p g n c o IY IB CZ sCap:Nat}{K:KS}{w:o_}{ws Af:List Nat}{ty:j_}{a:d_ f_}{v:n_}
theorem iO (o:r.Ok)(d:r.en=false->l.length=6)(h:∀n∈l,n=-1\/∃i:Nat,n=i/\i<20)(f:r.en=false):PR.Ok {r with fds:=l}:=⟨o.A,o.B,o.P,o.st,o.pid,o.par,o.Af,d,h,o.len,λe=>qx e (by simp[f])⟩
theorem VS {x:Int}(h:∀n∈l,n=-1\/∃i:Nat,n=i/\i<20)(d:x=-1\/∃i:Nat,x=i/\i<20):∀n∈l.set k x,n=-1\/∃i:Nat,n=i/\i<20:=λn b=>by
 obtain a|rfl:=List.mem_or_eq_of_mem_set b
 .exact h n a
 .exact d
theorem DU.close (h:DU NC NS K)(q:b∈K.Ar)(hb:K.ps b=some r)(s:r.en=false)(hi:i<20)(f:r.fds[k]?=some (i:Int)):0<K.desc i/\DU NC NS ((K.drop i).Bj b {r with fds:=r.fds.set k (-1)})/\Rel b K ((K.drop i).Bj b {r with fds:=r.fds.set k (-1)}):=by
 have o:=h.pr b r hb;have d:0<r.fds.count (i:Int):=List.count_pos_iff.2 (t_ f);have hH:0<BR K.ps K.Ar i:=Nat.lt_of_lt_of_le d (Ut q hb);refine⟨by rw[h.Ei.ho i hi];exact hH,h.fds ((Md.refl K).drop i).tt q hb rfl rfl rfl rfl rfl (iO o (λe=>by simp[o.fds e]) (VS o.fd (.inl rfl)) s) (h.Ei.drop hi hH) λj _=>?_⟩;have:=Qa (m:=-1) (a:=(j:Int)) f;rw[ru (c:=(-1:Int)=(j:Int)) wB]at this;simp only[Ah];split
 .rename_i e;subst e;rw[rW rfl]at this;omega
 .rename_i e;rw[ru wB]at this;omega
theorem EP.share {H:Nat->Nat}(h:EP H K)(m:0<K.desc i)(d:∀j,j<20->Ah H i (H i+1) j<=1000)(hi:i<20):EP (Ah H i (H i+1)) {K with desc:=Ah K.desc i (K.desc i+1)}:=by
 refine⟨λj a=>?_,d,λf=>?_,h.nd,h.nz,h.nm,h.dj⟩
 .show Ah K.desc i (K.desc i+1) j=_;unfold Ah;split
  .rw[h.ho i hi]
  .exact h.ho j a
 .rw[h.op f];unfold DK;refine BU λj _=>?_
  show _=if 0<Ah K.desc i (K.desc i+1) j/\K.ef j=some f then 1 else 0
  unfold Ah;by_cases e:j=i
  .subst e;simp[m]
  .simp[e]
theorem Zx {f:Nat->Nat}{c:Nat}:∀{l:List Nat},(∀b∈l,f b<=c)->BP f l<=c*l.length
 |[],_=>by simp[BP]
 |b::l,h=>by
  have d:=h b sJ
  have e:=Zx (f:=f) (l:=l) λx a=>h x (by simp[a])
  simp only[BP,List.length_cons,Nat.mul_add];omega
theorem DU.ZQ (h:DU NC NS K)(i:Nat):BR K.ps K.Ar i<=72:=by
 have:=Zx (f:=Jr K.ps i) (c:=6) (l:=K.Ar) λb _=>by
  unfold Jr
  cases hb:K.ps b with
  |none=>simp
  |some r=>
   have o:=h.pr b r hb
   have a:r.fds.count (i:Int)<=r.fds.length:=List.count_le_length
   cases he:r.en with
   |false=>rw[o.fds he]at a;exact a
   |true=>rw[(o.off he).1]at a;simp at a;simp[(o.off he).1]
 have:=h.len;unfold BR;omega
theorem DU.dup (h:DU NC NS K)(t:b∈K.Ar)(hb:K.ps b=some r)(u:r.en=false)(hi:i<20)(q:0<K.desc i)(s:r.fds[k]?=some (-1)):DU NC NS (KS.Bj {K with desc:=Ah K.desc i (K.desc i+1)} b {r with fds:=r.fds.set k (i:Int)})/\Rel b K (KS.Bj {K with desc:=Ah K.desc i (K.desc i+1)} b {r with fds:=r.fds.set k (i:Int)}):=by
 have o:=h.pr b r hb;have d:=h.ZQ;refine h.fds (K1:={K with desc:=Ah K.desc i (K.desc i+1)}) ⟨rfl⟩ t hb rfl rfl rfl rfl rfl (iO o (λe=>by simp[o.fds e]) (VS o.fd (.inr ⟨i,rfl,hi⟩)) u) (h.Ei.share q (λj f=>by unfold Ah;split;have:=d i;omega;have:=d j;omega) hi) λj _=>?_
 have:=Qa (m:=(i:Int)) (a:=(j:Int)) s;rw[ru (c:=(-1:Int)=(j:Int)) wB]at this;simp only[Ah];split
 .rename_i e;subst e;rw[rW rfl]at this;omega
 .rename_i e;rw[ru wB]at this;omega
def VY (K:KS)(b:Nat)(r:PR)(fd:Nat):KS->Nat->Nat->n_->Prop:=λK' x y f=>(r.has fd=false/\GY K 2 K' x y f)\/∃i:Nat,r.fds[fd]?=some (i:Int)/\i<20/\K'=(K.drop i).Bj b {r with fds:=r.fds.set fd (-1)}/\x=0/\y=0/\f=.nilFunc
section
variable (m:Nat)(w:o_)
theorem av8 (K:KS)(NC NS b fd:Nat)(r:PR)(h:AY K w)(hO:DU NC NS K)(hm:b∈K.Ar)(hb:K.ps b=some r)(hn:r.en=false)(hfd:fd<65536):
  O_ m 148 #[Q_ K.kb,Q_ b,a_ (fd:Nat)] w (FX (VY K b r fd) NC NS b K w):=by
 have o:=hO.pr b r hb;obtain⟨t,rb,E⟩:=IE w;have A:=h.no t;have M:K.T w.heap.size=(0,0):=h.lt _ w_;have S:=λm=>YI m _ K b fd r A hb hn hfd
 gi_enter func148,ntmps148;gi_wp2_with (gi_at_call 202;refine(S _).mono ?_;rintro e w1 ⟨l,x,rfl,hx,C⟩;generalize hw0:w.alloc V_=w0 at *;cases x)
 .skip
  gi_wp2_with (first|(gi_at_call 140;refine(Uy 2 (l.old rb id) _).mono ?_;rintro e wz ⟨rfl,j,w8,q,u,v⟩)|refine Fa q ?_);refine T_ 0 2 (by simp[results,results148,go_sem,FU v]) rfl ?_;exact Ci h hO hm hb t E (l.then j) u sN sN (.inl ⟨C.out.symm,GY.of⟩)
 .obtain⟨n,a,L⟩:=hx (by first|rfl|trivial);obtain⟨i,rfl,hi⟩:=(o.fd n (t_ a)).resolve_left L;obtain⟨I,P,N⟩:=hO.close hm hb hn hi a;have G:=A.no l;obtain⟨g,c,q9,B,tg,Q⟩:=G.rZ hb hn;have Z:=(Oc.1 a).1;have f1:(fd:Int)<(r.fds.length:Int):=wB
  have d:=B.Pm rfl a;gi_wp2;refine Cc 10 30 ?_;gi_wp2;refine Ee ?_ ?_
  .intro W p;have d9:=p.has (w:=w1.drew) q9;have dd:=p.has (w:=w1.drew) d
   repeat' (refine AA ?_ ?_)
   all_goals first|exact dE|gi_wp2
  .intro W p;have KW:Aa No w1 W:=(Aa.refl No w1).drew.then p;have X:=G.no KW;have R:=λm=>Ν m W K i X hi I (by have:=hO.Ei.le i hi;rw[hO.Ei.ho i hi];exact this) (by have:=hO.Ei.nl;omega) (λf Y=>hO.Ei.eff hi I Y)
   have F:(K.drop i).ps b=some r:=(by rw[((Md.refl K).drop i).ps];exact hb);gi_wp2_with (gi_at_call 155;refine(R _).mono ?_;rintro e w2 ⟨rfl,H,O⟩;obtain⟨g2,c2,p9,s,D,z⟩:=H.rZ F hn;have d2:=s.Pm rfl a;have V:=s.fz fd);have J:=H.bo0 (i:=fd) (x:=-1) F hn z s D;have U:(K.drop i).T=K.T:=((Md.refl K).drop i).T;have k:BQ K.T (K.drop i).T w0 _:=((BQ.no (l.then KW) A.lt).trans (by rw[U];exact O)).trans J.2;gi_wp2_with (first|(gi_at_call 152;refine(Eg _ _ 0 wB).mono ?_;rintro e wz ⟨rfl,j⟩;obtain⟨w8,q,u,v⟩:=Az (x:=0) (y:=0) (f:=.nilFunc) (j.old (k.old rb M) id) rfl)|refine Fa q ?_);refine T_ 0 0 (by simp[results,results148,go_sem,FU v]) rfl ?_;exact BD (K':=(K.drop i).Bj b {r with fds:=r.fds.set fd (-1)}) (x:=0) (y:=0) h.lt t E ((k).then j) ((J.1).no j) u wB wB (.inl rfl) (P) (N) Ag (λ_=>by show b∈(K.drop i).Ar;rw[((Md.refl K).drop i).Ar];exact hm) (.inr ⟨i,a,hi,rfl,rfl,rfl,rfl⟩)
end
def ϔ (K:KS)(b:Nat)(r:PR)(fd:Nat):KS->Nat->Nat->n_->Prop:=λK' x y f=>(r.has fd=false/\GY K 2 K' x y f)\/(r.has fd=true/\DF r.fds=0/\GY K 7 K' x y f)\/∃i j:Nat,r.fds[fd]?=some (i:Int)/\i<20/\IV r.fds j/\K'=KS.Bj {K with desc:=Ah K.desc i (K.desc i+1)} b {r with fds:=r.fds.set j (i:Int)}/\x=j/\y=0/\f=.nilFunc
section
variable (m:Nat)(w:o_)
theorem by4 (K:KS)(NC NS b fd:Nat)(r:PR)(h:AY K w)(hO:DU NC NS K)(hm:b∈K.Ar)(hb:K.ps b=some r)(hn:r.en=false)(hfd:fd<65536):
  O_ m 149 #[Q_ K.kb,Q_ b,a_ (fd:Nat)] w (FX (ϔ K b r fd) NC NS b K w):=by
 have o:=hO.pr b r hb;have Q:r.fds.length<=6:=by rw[o.fds hn];omega
 obtain⟨C,rb,E⟩:=IE w;have p:=h.no C;have X:K.T w.heap.size=(0,0):=h.lt _ w_;have ch:=λm=>YI m _ K b fd r p hb hn hfd
 gi_enter func149,ntmps149;gi_wp2_with (gi_at_call 202;refine(ch _).mono ?_;rintro e w1 ⟨k,x,rfl,hx,B⟩;generalize hw0:w.alloc V_=w0 at *;cases x)
 .skip
  gi_wp2_with (first|(gi_at_call 140;refine(Uy 2 (k.old rb id) _).mono ?_;rintro e S ⟨rfl,a,R,t,v,z⟩)|refine Fa t ?_);refine T_ 0 2 (by simp[results,results149,go_sem,FU z]) rfl ?_;exact Ci h hO hm hb C E (k.then a) v sN sN (.inl ⟨B.out.symm,GY.of⟩)
 .obtain⟨n,q,U⟩:=hx (by first|rfl|trivial);obtain⟨i,rfl,hi⟩:=(o.fd n (t_ q)).resolve_left U;obtain⟨O,_⟩:=hO.close hm hb hn hi q;have h1:=p.no k;have F:=λm=>nH m w1 K b r h1 hb hn wB
  have J:=ZB (l:=r.fds);obtain⟨s,H⟩:∃s,Yp (DF r.fds=s):=⟨_,rfl⟩;rw[H.out]at F J;by_cases I:s=0
  .subst I;gi_wp2_with (gi_at_call 204;refine(F _).mono ?_;rintro e w2 ⟨u,rfl⟩);gi_wp2_with (first|(gi_at_call 140;refine(Uy 7 ((k.then u).old rb id) _).mono ?_;rintro e S ⟨rfl,a,R,t,v,z⟩)|refine Fa t ?_);refine T_ 0 7 (by simp[results,results149,go_sem,FU z]) rfl ?_;exact BD (K':=K) (x:=0) (y:=7) h.lt C E (((BQ.no (k.then u) p.lt)).then a) ((p.no (k.then u)).no a) v wB wB (.inl rfl) (hO) (Rel.refl b K) hb (λ_=>hm) (.inr (.inl ⟨B.out.symm,H.out,GY.of⟩))
  .have f0:((s:Int)==0)=false:=(by simp;omega);gi_wp2_with (gi_at_call 204;refine(F _).mono ?_;rintro e w2 ⟨u,rfl⟩);have KK:=k.then u;have M:=p.no KK;obtain⟨g,c,q9,G,tg,ax4⟩:=M.rZ hb hn;have hfl:=(Oc.1 q).1;have f1:(fd:Int)<(r.fds.length:Int):=wB;have d:=G.Pm rfl q;refine Cc 10 37 ?_;gi_wp2;refine Ee ?_ ?_
   .intro W D;have d9:=D.has (w:=w2.drew) q9;have dd:=D.has (w:=w2.drew) d
    repeat' (refine AA ?_ ?_)
    all_goals first|exact dE|gi_wp2
   .intro W D;have KW:Aa No w2 W:=(Aa.refl No w2).drew.then D;have hW:=M.no KW;have cd:=λm=>nI m W K i hW hi O (by have:=hO.Ei.le i hi;rw[hO.Ei.ho i hi];exact this)
    gi_wp2_with (gi_at_call 193;refine(cd _).mono ?_;rintro e w3 ⟨rfl,N,Z⟩;obtain⟨g2,c2,p9,V,tg2,cc6⟩:=N.rZ (b:=b) hb hn;have d2:=V.Pm rfl q;have ce:=λm=>UY m w3 _ b (i:Int) r N hb hn wB (by rw[H.out];omega));gi_wp2_with (gi_at_call 200;refine(ce _).mono ?_;rintro e w4 ⟨j,A,rfl,h4,M4⟩);have P:=A.1;have hjl:=(Oc.1 P).1;obtain⟨Td,Y⟩:=hO.dup hm hb hn hi O P;have L:BQ K.T K.T w0 w4:=((BQ.no (KK.then KW) p.lt).trans Z).trans M4;gi_wp2_with (first|(gi_at_call 152;refine(Eg _ _ j wB).mono ?_;rintro e S ⟨rfl,a⟩;obtain⟨R,t,v,z⟩:=Az (x:=j) (y:=0) (f:=.nilFunc) (a.old (L.old rb X) id) rfl)|refine Fa t ?_);refine T_ j 0 (by simp[results,results149,go_sem,FU z]) rfl ?_;exact BD (K':=KS.Bj {K with desc:=Ah K.desc i (K.desc i+1)} b {r with fds:=r.fds.set j (i:Int)}) (x:=j) (y:=0) h.lt C E ((L).then a) ((h4).no a) v wB wB (.inl rfl) (Td) (Y) Ag (λ_=>hm) (.inr (.inr ⟨i,j,q,hi,A,rfl,rfl,rfl,rfl⟩))
end
theorem u333:(prog.underlying 333).map (λd=>match d with | .struct fs=>fs[0]?.map (λf=>(f.type,f.offset,f.byteOffset))|_=>none)=some (some (331,0,0)):=sU
theorem cf2:prog.cellsOf 333=1:=sU
theorem ce9:prog.cellsOf 335=1:=sU
theorem cf5:byteOfCell prog prog.depth 333 0=some 0:=sU
theorem bf2 {T:j_}(h:w.heap[b]?=some (N_ #[ptr p] T))(d:prog.cellsOf T=1)(hb:byteOfCell prog prog.depth T 0=some 0):(partAt (R_ b) 0 0).run prog w=.ok (R_ b) w:=by
 have a:w.shape? b=some (T,1):=by simp[World.shape?,h]
 simp[partAt,byteOf,noView,viewAt,a,d,hb,Result.andThen]
theorem Vh {t S:j_}{name:String}{f:h_}(s:((prog.info? t).bind fun i=>(i.methods.find? fun m=>m.name==name).map fun m=>(m.path.toList,m.func))=some ([⟨S,0,true⟩],some (f,false)))(q:(prog.underlying S).map (fun d=>match d with | .struct fs=>fs[0]?.map (fun f=>(f.type,f.offset,f.byteOffset))|_=>none)=some (some (331,0,0)))(h:w.heap[b]?=some (N_ #[ptr p] S))(u:prog.cellsOf S=1)(hb:byteOfCell prog prog.depth S 0=some 0):
  (method 468 t (Q_ b) name).run prog w=.ok (f,.agg #[]) w:=by
 cases hi:prog.info? t with
 |none=>rw[hi]at s;cases s
 |some i=>
  rw[hi]at s
  simp only[Option.bind_some]at s
  cases hf:i.methods.find? (λm=>m.name==name)with
  |none=>rw[hf]at s;cases s
  |some M=>
   rw[hf]at s
   simp only[Option.map_some,l7,lQ]at s
   obtain⟨m1,m2⟩:=s
   cases hd:prog.underlying S with
   |none=>rw[hd]at q;cases q
   |some d=>
    rw[hd]at q
    cases d with
    |struct fs=>
     simp only[Option.map_some,l7]at q
     cases hx:fs[0]? with
     |none=>rw[hx]at q;cases q
     |some F=>
      rw[hx]at q
      simp only[Option.map_some,l7,lQ]at q
      obtain⟨e,g,j⟩:=q
      have c:=bf2 h u hb
      have a:prog.underlying 331=some (.struct #[]):=sU
      rw[show(468:Nat)=467+1 from rfl]
      unfold method
      simp[typeInfo,hi,hf,m1,m2,follow,run_underlying hd,hx,e,g,j,Place.get,asAddr,fieldPlace,c,receiverAt,run_underlying a,loadVar,loadCells,loadCellsFrom,Result.andThen]
    |_=>simp at q
theorem u335:(prog.underlying 335).map (λd=>match d with | .struct fs=>fs[0]?.map (λf=>(f.type,f.offset,f.byteOffset))|_=>none)=some (some (331,0,0)):=sU
theorem cf4:byteOfCell prog prog.depth 335 0=some 0:=sU
theorem aq6 {w:World} (h:w.heap[b]?=some (.cells #[ptr p] 333 (0,0))):(method 468 330 (.pointer (some ⟨b,0,none⟩)) "Write").run prog w=.ok (268,.agg #[]) w:=Vh (by kernel_rfl) u333 h cf2 cf5
theorem aq9 {w:World} (h:w.heap[b]?=some (.cells #[ptr p] 333 (0,0))):(method 468 330 (.pointer (some ⟨b,0,none⟩)) "Seek").run prog w=.ok (267,.agg #[]) w:=Vh (by kernel_rfl) u333 h cf2 cf5
theorem aq8 {w:World} (h:w.heap[b]?=some (.cells #[ptr p] 335 (0,0))):(method 468 334 (.pointer (some ⟨b,0,none⟩)) "Seek").run prog w=.ok (267,.agg #[]) w:=Vh (by kernel_rfl) u335 h ce9 cf4
theorem ar1 {w:World} (h:w.heap[b]?=some (.cells #[ptr p] 335 (0,0))):(method 468 334 (.pointer (some ⟨b,0,none⟩)) "Read").run prog w=.ok (274,.agg #[]) w:=Vh (by kernel_rfl) u335 h ce9 cf4
theorem ar2 (b:Nat):∀w:World,(method 468 330 (.pointer (some ⟨b,0,none⟩)) "Read").run prog w=.ok (266,.pointer (some ⟨b,0,none⟩)) w:=λw=>by kernel_rfl
theorem aq5 (b:Nat):∀w:World,(method 468 334 (.pointer (some ⟨b,0,none⟩)) "Write").run prog w=.ok (275,.pointer (some ⟨b,0,none⟩)) w:=λw=>by kernel_rfl
theorem aq4 (b:Nat):∀w:World,(method 468 337 (.pointer (some ⟨b,0,none⟩)) "Write").run prog w=.ok (279,.pointer (some ⟨b,0,none⟩)) w:=λw=>by kernel_rfl
theorem aq7 (b:Nat):∀w:World,(method 468 337 (.pointer (some ⟨b,0,none⟩)) "Seek").run prog w=.ok (278,.pointer (some ⟨b,0,none⟩)) w:=λw=>by kernel_rfl
theorem ar0 (b:Nat):∀w:World,(method 468 337 (.pointer (some ⟨b,0,none⟩)) "Read").run prog w=.ok (277,.pointer (some ⟨b,0,none⟩)) w:=λw=>by kernel_rfl
section
variable (m:Nat)(w:o_)
theorem ab6 (v:n_):O_ m 268 #[.agg #[],v] w λe w'=>e=.returned (.agg #[a_ 0,a_ 2,.nilFunc])/\Aa No w w':=by
 have c:=λm w=>MV m w 2
 have h:Aa No w ((w.alloc (.cells #[] 331)).alloc V_):=((Aa.refl _ _).alloc _).alloc _;have rb:((w.alloc (.cells #[] 331)).alloc V_).heap[w.heap.size+1]?=some (N_ #[a_ 0,a_ 0,.nilFunc] 206):=by
  have:=Yw (w:=w.alloc (.cells #[] 331)) (o:=.cells #[a_ 0,a_ 0,.nilFunc] 206) rfl
  simpa using this
 gi_enter func268,ntmps268;gi_wp2_with (first|(gi_at_call 273;refine(c _ _).mono ?_;rintro e w1 ⟨rfl,d⟩;obtain⟨b,g,i,a⟩:=Az (x:=0) (y:=2) (f:=.nilFunc) (d.old rb id) rfl)|refine Fa g ?_);have ψ:b.cell? (R_ (w.heap.size+1))=some (a_ 0):=bce a rfl;have χ:b.cell? (S_ (w.heap.size+1) 1)=some (a_ 2):=bce a rfl;have φ:b.cell? (S_ (w.heap.size+1) 2)=some .nilFunc:=bce a rfl;refine T_ 0 2 (by simp[results,results268,go_sem,ψ,χ,φ]) rfl ?_;exact⟨rfl,(h.then d).trans i (λk j e=>qx j (by rw[show k=w.heap.size+1 from e];omega))⟩
theorem oH (v:n_):O_ m 267 #[.agg #[],v] w λe w'=>e=.returned (.agg #[a_ 0,a_ 2,.nilFunc])/\Aa No w w':=by
 have c:=λm w=>MV m w 2
 have h:Aa No w ((w.alloc (.cells #[] 331)).alloc V_):=((Aa.refl _ _).alloc _).alloc _;have rb:((w.alloc (.cells #[] 331)).alloc V_).heap[w.heap.size+1]?=some (N_ #[a_ 0,a_ 0,.nilFunc] 206):=by
  have:=Yw (w:=w.alloc (.cells #[] 331)) (o:=.cells #[a_ 0,a_ 0,.nilFunc] 206) rfl
  simpa using this
 gi_enter func267,ntmps267;gi_wp2_with (first|(gi_at_call 273;refine(c _ _).mono ?_;rintro e w1 ⟨rfl,d⟩;obtain⟨b,g,i,a⟩:=Az (x:=0) (y:=2) (f:=.nilFunc) (d.old rb id) rfl)|refine Fa g ?_);have ψ:b.cell? (R_ (w.heap.size+1))=some (a_ 0):=bce a rfl;have χ:b.cell? (S_ (w.heap.size+1) 1)=some (a_ 2):=bce a rfl;have φ:b.cell? (S_ (w.heap.size+1) 2)=some .nilFunc:=bce a rfl;refine T_ 0 2 (by simp[results,results267,go_sem,ψ,χ,φ]) rfl ?_;exact⟨rfl,(h.then d).trans i (λk j e=>qx j (by rw[show k=w.heap.size+1 from e];omega))⟩
theorem av4 (v:n_):O_ m 274 #[.agg #[],v] w λe w'=>e=.returned (.agg #[a_ 0,a_ 2,.nilFunc])/\Aa No w w':=by
 have c:=λm w=>MV m w 2
 have h:Aa No w ((w.alloc (.cells #[] 331)).alloc V_):=((Aa.refl _ _).alloc _).alloc _;have rb:((w.alloc (.cells #[] 331)).alloc V_).heap[w.heap.size+1]?=some (N_ #[a_ 0,a_ 0,.nilFunc] 206):=by
  have:=Yw (w:=w.alloc (.cells #[] 331)) (o:=.cells #[a_ 0,a_ 0,.nilFunc] 206) rfl
  simpa using this
 gi_enter func274,ntmps274;gi_wp2_with (first|(gi_at_call 273;refine(c _ _).mono ?_;rintro e w1 ⟨rfl,d⟩;obtain⟨b,g,i,a⟩:=Az (x:=0) (y:=2) (f:=.nilFunc) (d.old rb id) rfl)|refine Fa g ?_);have ψ:b.cell? (R_ (w.heap.size+1))=some (a_ 0):=bce a rfl;have χ:b.cell? (S_ (w.heap.size+1) 1)=some (a_ 2):=bce a rfl;have φ:b.cell? (S_ (w.heap.size+1) 2)=some .nilFunc:=bce a rfl;refine T_ 0 2 (by simp[results,results274,go_sem,ψ,χ,φ]) rfl ?_;exact⟨rfl,(h.then d).trans i (λk j e=>qx j (by rw[show k=w.heap.size+1 from e];omega))⟩
end
theorem JR:Oj prog 116 123 (a_ 0) 1 2:=⟨underlying116,sU,by rfl,sN,by intro x a;simp[Value.cells]at a;subst a;rfl⟩
theorem EJ (l:List Nat):∀x∈Aw l,x.oneCell'=true:=by
 intro x a;simp only[Aw,List.mem_map]at a;obtain⟨n,_,rfl⟩:=a
 rfl
theorem Vl {l:List Nat}{a:f_}(hR:Rw 123 1 w g n c (Aw l))(E:l.length=n)(B:∀j v,(Aw ws)[j]?=some v->w.cell? (a.add j)=some v)(C:ws.length=Nat.min CZ IY)(D:o+ws.length<=n):∃w',(Builtin.copy_ #[116,116] ty #[.slice (some (S_ g o)) IY IB,.slice (some a) CZ sCap]).run prog w=.ok (goInt (Nat.min CZ IY)) w'/\Aa (At g) w w'/\Rw 123 1 w' g n c (Aw (l.take o++ws++l.drop (o+ws.length))):=by
 obtain⟨d,y,p,z⟩:=hR.blk;have s:=hR.le;have b:(Aw ws).length=ws.length:=by simp[Aw]
 have k:d.toList.length=c*1:=by simpa using p
 have q:=zl (ty:=ty) (sT:=116) (IY:=IY) (IB:=IB) (CZ:=CZ) (sCap:=sCap) JR y (cs:=Aw ws) (o:=o) (by rw[b,C];simp) B (by rw[b,p];omega) (EJ ws);have t:(SH d.toList o (Aw ws)).length=c*1:=by rw[Ou (by rw[b,k];omega)];simpa using p
 refine⟨_,q,(Aa.refl _ _).setRow _ _ λ_=>rfl,VO hR t s ?_ (EJ _)⟩;apply List.ext_getElem?;intro j;have m:=UO (l:=d.toList) (cs:=Aw ws) (o:=o) (i:=j) (by rw[b,k];omega);have f:∀j,j<n->d.toList[j]?=(Aw l)[j]?:=λj r=>by rw[<-z,List.getElem?_take,rW wB]
 rw[List.getElem?_take];by_cases r:j<n*1
 .rw[rW r,m,b];have e:(Aw (l.take o++ws++l.drop (o+ws.length)))[j]?=((l.take o++ws++l.drop (o+ws.length))[j]?).map λx:Nat=>Value.int .u16 (x:Int):=by simp only[Aw,List.getElem?_map]
  rw[e,List.append_assoc,List.getElem?_append,List.getElem?_append];simp only[eP,List.getElem?_take,List.getElem?_drop];have A:min o l.length=o:=wB
  rw[A];by_cases h:j<o
  .rw[rW h,rW h,rW h,f j wB];simp[Aw]
  .rw[ru h,ru h];by_cases u:j<o+ws.length
   .rw[rW u,rW wB];simp[Aw]
   .rw[ru u,ru wB,f j wB];have e2:o+ws.length+(j-o-ws.length)=j:=wB;rw[e2];simp only[Aw,List.getElem?_map]
 .rw[ru r,List.getElem?_eq_none];simp[Aw];omega
theorem bl5 {d:d_ f_}(e:Nat.min CZ IY=0):(Builtin.copy_ #[116,116] ty #[.slice d IY IB,.slice a CZ sCap]).run prog w=.ok (goInt 0) w:=yc JR e
section
variable (m:Nat)(w:o_)
theorem ac0 (g n cap i j:Nat)(xs:U_)(hR:Rw 123 1 w g n cap xs)(u:i<j)(x:j<=n):
  O_ m 271 #[P_ g n cap,b_ (i:Nat),b_ (j:Nat)] w λe w'=>e=.returned (P_ g (i+(n-j)) cap)/\Aa (At g) w w'/\Rw 123 1 w' g (i+(n-j)) cap (xs.take (i*1)++xs.drop (j*1)):=by
 have p:=hR.le;have r:¬((j:Int)<(i:Int)):=wB
 have s:¬((n:Int)<(j:Int)):=wB
 have t:¬((cap:Int)<(n:Int)):=wB
 by_cases a:cap=j
 all_goals
  gi_enter func271,ntmps271
  gi_wp2
  refine Cc 6 33 ?_
  gi_wp2
  refine Ee ?_ ?_
  .intro W f
   repeat' (refine AA ?_ ?_)
   all_goals first|exact dE|gi_wp2
  .intro W f;obtain⟨w1,b,h,l⟩:=al3 (w:=W) JR (hR.keep ((Aa.refl No w).drew.then f) id) u x;obtain⟨w2,d,k,o⟩:=Zh (c:=cap-(i+(n-j))) (q:=n-(i+(n-j))) (ty:=0) JR l wB;simp only[Nat.mul_one]at b d
   first|(rw[rW a]at b;simp only[a,Nat.sub_self]at b d)|rw[ru a]at b
   refine Dl rfl (.tmp 22) (.tmp 25) _ rfl rfl rfl b ?_;gi_wp2;go_ret;exact⟨by simp[a],(((Aa.refl _ _).drew.then f.no).then h).then k,o⟩
theorem VE (a:d_ f_)(n cap:Nat)(d:n<=cap):O_ m 271 #[.slice a n cap,b_ 0,b_ 0] w λe w'=>e=.returned (.slice a n cap)/\Aa No w w':=by
 cases a with
 |none=>
  gi_enter func271,ntmps271
  gi_wp2
  go_ret
  exact⟨sJ,Aa.refl _ _⟩
 |some a=>
  gi_enter func271,ntmps271
  gi_wp2
  go_ret
  exact⟨sJ,Aa.refl _ _⟩
end
def O1 (r:PR)(v:n_)(o n:Nat):Prop:=(v=.slice none 0 0/\n=0)\/∃g c,r.im=P_ g r.Af.length c/\v=.slice (some (S_ g o)) n n/\1<=n/\o+n<=r.Af.length
def SV (l:List Nat)(o:Nat)(ws:List Nat):List Nat:=l.take o++ws++l.drop (o+ws.length)
theorem bm0 (l:List Nat)(o:Nat):SV l o []=l:=by simp[SV]
def Zk (X:List Nat->(Nat->Ct)->Nat->Nat->n_->Prop)(K:KS)(b:Nat)(r:PR)(w:o_)(e:Ending)(w':o_):Prop:=∃(Af:List Nat) (ct:Nat->Ct) (x y:Nat) (f:n_),e=.returned (.agg #[a_ x,a_ y,f])/\x<65536/\y<65536/\MC K.T w' K.kb b f/\Af.length=r.Af.length/\(∀z∈Af,z<65536)/\AY (KS.Bj {K with ct:=ct} b {r with Af:=Af}) w'/\BQ K.T K.T w w'/\X Af ct x y f
theorem AY.lh (h:AY K w)(hb:K.ps b=some r)(f:r.en=false):∃g c,w.cell? (S_ b 8)=some (P_ g r.Af.length c)/\Rw 123 1 w g r.Af.length c (Aw r.Af)/\K.T g=(7,b)/\r.im=P_ g r.Af.length c:=by
 obtain⟨g,c,a,d,e⟩:=(h.ps b r hb).im f;exact⟨g,c,by rw[h.Iu hb];simp[PR.arr,a],d,e,a⟩
theorem AY.aj3 {w':o_}(h:AY K w)(hb:K.ps b=some r)(y:r.en=false)(u:r.im=P_ g r.Af.length c)(m:K.T g=(7,b))(q:Aa (At g) w w')(x:Rw 123 1 w' g r.Af.length c (Aw Af))(s:Af.length=r.Af.length):AY (K.Bj b {r with Af:=Af}) w'/\BQ K.T K.T w w':=by
 have M:CG K.T K.T (λt=>t=(6,b)\/t=(7,b)\/t=(8,b)\/t=(9,b)) (λt=>t=(6,b)\/t=(7,b)\/t=(8,b)\/t=(9,b)) w w':=CG.of (q.on λk _ e=>by subst e;exact .inr (.inl m)) h.lt;have a:=h.ps b r hb;have d:Aa (On K.T λt=>t=(7,b)) w w':=q.on λk _ e=>by subst e;exact m
 refine⟨h.lL M ⟨a.t,q.old a.o (λe=>?_),λ_=>⟨g,c,by rw[u];simp only[s],by simpa only[s]using x,m⟩,λe=>?_,a.bl.keep d sJ,λe=>qx e (by simp[y])⟩,M.Xu (by rintro t (rfl|rfl|rfl|rfl)<;>simp)⟩
 .have:=a.t;rw[show b=g from e,m]at this;simp at this
 .obtain⟨j,i,a1,a2,f⟩:=a.fd e;exact⟨j,i,a1,a2.keep d (by unfold On;rw[f];simp),f⟩
theorem FD (hb:K.ps b=some r):K.Bj b r=K:=by
 unfold KS.Bj;have e:CY K.ps b r=K.ps:=by funext k;unfold CY;split;rename_i e;rw[e,hb];rfl
 rw[e]
theorem JX (h:AY K w)(hb:K.ps b=some r)(N:r.en=false)(hI:∀z∈r.Af,z<65536)(Q:O1 r v o n)(R:∀x∈ws,x<65536)(M:ws.length=CZ)(P:∀ad,a=some ad->∀j u,(Aw ws)[j]?=some u->w.cell? (ad.add j)=some u)(O:a=none->CZ=0):
  ∃w' k Af,(Builtin.copy_ #[116,116] ty #[v,.slice a CZ sCap]).run prog w=.ok (goInt (k:Nat)) w'/\k<=CZ/\k<=128+r.Af.length/\Af.length=r.Af.length/\(∀z∈Af,z<65536)/\AY (K.Bj b {r with Af:=Af}) w'/\BQ K.T K.T w w'/\Aa (On K.T λt=>t=(7,b)) w w'/\Yp (k=Nat.min CZ n/\Af=SV r.Af o (ws.take k)):=by
 have i:∀(d:d_ f_)(IY IB:Nat),Nat.min CZ IY=0->v=.slice d IY IB->IY=n->∃w' k Af,(Builtin.copy_ #[116,116] ty #[v,.slice a CZ sCap]).run prog w=.ok (goInt (k:Nat)) w'/\k<=CZ/\k<=128+r.Af.length/\Af.length=r.Af.length/\(∀z∈Af,z<65536)/\AY (K.Bj b {r with Af:=Af}) w'/\BQ K.T K.T w w'/\Aa (On K.T λt=>t=(7,b)) w w'/\Yp (k=Nat.min CZ n/\Af=SV r.Af o (ws.take k)):=λd IY IB f e F=>by
  subst e F
  exact⟨w,0,r.Af,bl5 f,wB,wB,rfl,hI,by rw[FD hb];exact h,BQ.no (Aa.refl _ _) h.lt,Aa.refl _ _,f.symm,by rw[List.take_zero,bm0]⟩
 obtain⟨rfl,e⟩|⟨g,c,p,rfl,I,L⟩:=Q
 .exact i none 0 0 sJ rfl e.symm
 .cases a with
  |none=>exact i _ n n (by rw[O rfl];simp) rfl rfl
  |some ad=>
   obtain⟨G,E,_,hR,C,l⟩:=h.lh hb N
   obtain⟨rfl,rfl⟩:g=G/\c=E:=by rw[l]at p;simp at p;exact⟨p.1.symm,p.2.symm⟩
   have B:(ws.take (Nat.min CZ n)).length=Nat.min CZ n:=by rw[eP,M];exact Nat.min_eq_left (Nat.min_le_left _ _)
   have H:Nat.min CZ n<=n:=Nat.min_le_right _ _
   have m:Nat.min CZ n<=CZ:=Nat.min_le_left _ _
   obtain⟨w',J,A,D⟩:=Vl (ty:=ty) (sCap:=sCap) (IB:=n) (IY:=n) (o:=o) (a:=ad) hR rfl (ws:=ws.take (Nat.min CZ n)) (λj u q=>P ad rfl j u (by
    simp only[Aw,List.map_take,List.getElem?_take]at q
    split at q
    .exact q
    .cases q)) B (by rw[B];omega)
   have y:(r.Af.take o++ws.take (Nat.min CZ n)++r.Af.drop (o+(ws.take (Nat.min CZ n)).length)).length=r.Af.length:=by
    simp only[g_,eP,List.length_drop,M]
    have:min (Nat.min CZ n) CZ=Nat.min CZ n:=Nat.min_eq_left m
    rw[this];omega
   have s:=h.aj3 hb N l C A D y;refine⟨w',Nat.min CZ n,_,J,m,wB,y,λz f=>?_,s.1,s.2,A.on λk _ e=>(by subst e;exact C),rfl,rfl⟩;obtain f|f:=eF.1 f
   .obtain f|f:=eF.1 f
    .exact hI z (List.mem_of_mem_take f)
    .exact R z (List.mem_of_mem_take f)
   .exact hI z (List.mem_of_mem_drop f)
theorem EX {X:List Nat->(Nat->Ct)->Nat->Nat->n_->Prop}{ct:Nat->Ct}{x y:Nat}{w0 d j:o_}{f:n_}(m:∀k,w.heap.size<=k->K.T k=(0,0))(q:Aa No w w0)(u:BQ K.T K.T w0 d)(s:AY (KS.Bj {K with ct:=ct} b {r with Af:=Af}) d)(h:Aa (At w.heap.size) d j)(C:x<65536)(D:y<65536)(A:MC K.T d K.kb b f)(B:Af.length=r.Af.length)(hI:∀z∈Af,z<65536)(hX:X Af ct x y f):Zk X K b r w (.returned (.agg #[a_ x,a_ y,f])) j:=by
 have a:K.T w.heap.size=(0,0):=m _ w_;have c:Aa (On K.T λt=>t=(0,0)) d j:=h.on λk _ e=>by rw[show k=w.heap.size from e];exact a
 exact⟨Af,ct,x,y,f,rfl,C,D,A.keep c sJ,B,hI,s.own h a,((BQ.no q m).trans u).own h (λk e=>by rw[show k=w.heap.size from e];exact w_),hX⟩
def ai5 (T:Tag)(p:Nat)(ws:List Nat)(v:n_)(W:o_):Prop:=(∃a n c,v=.slice a n c)/\Tf T W p 16 v ws
theorem Tf.shape {T:Tag}{M:Nat}(h:Tf T w b M v ws):∃(a:d_ f_) (c:Nat),v=.slice a ws.length c/\ws.length<=c/\ws.length<=M/\(∀x∈ws,x<65536)/\(a=none->ws.length=0)/\(∀ad,a=some ad->∀j u,(Aw ws)[j]?=some u->w.cell? (ad.add j)=some u):=by
 obtain⟨rfl,rfl⟩|⟨g,c,rfl,hR,d,f,_⟩:=h
 .exact⟨none,0,rfl,sJ,sJ,sJ,λ_=>rfl,λad e=>by cases e⟩
 .exact⟨_,c,rfl,hR.le,d,f,λe=>(by cases e),λad e=>by cases e;exact hR.cells⟩
section
variable (m:Nat)(w:o_)
theorem Ξ (T:Tag)(p k:Nat)(v:n_)(ws:List Nat)(h:Tf T w p 16 v ws)(s:∀a n c,v=.slice a n c->k<=n):O_ m 271 #[v,b_ 0,b_ (k:Nat)] w λe w'=>∃u,e=.returned u/\ai5 T p (ws.drop k) u w'/\Aa (On T λt=>t=(15,p)) w w':=by
 obtain⟨rfl,rfl⟩|⟨g,c,rfl,hR,l,i,f⟩:=h
 .have:=s _ _ _ rfl;obtain rfl:k=0:=wB
  refine(VE m w none 0 0 wB).mono ?_;rintro e w' ⟨rfl,b⟩;exact⟨_,rfl,⟨⟨_,_,_,rfl⟩,.inl ⟨rfl,rfl⟩⟩,b.no⟩
 .have s:=s _ _ _ rfl;by_cases q:k=0
  .subst q;refine(VE m w _ _ _ hR.le).mono ?_;rintro e w' ⟨rfl,b⟩;exact⟨_,rfl,⟨⟨_,_,_,rfl⟩,.inr ⟨g,c,rfl,hR.keep b id,l,i,f⟩⟩,b.no⟩
  .refine(ac0 m w g ws.length c 0 k _ hR wB s).mono ?_;rintro e w' ⟨rfl,b,j⟩;have d:(ws.drop k).length=0+(ws.length-k):=sJ;refine⟨_,rfl,⟨⟨_,_,_,rfl⟩,.inr ⟨g,c,by rw[d],?_,by rw[d];omega,λx o=>i x (List.mem_of_mem_drop o),f⟩⟩,b.on λx _ e=>by subst e;exact f⟩;rw[d];simpa [Aw,List.map_drop]using j
def XRd (K:KS)(p:Nat)(r:PR)(o n:Nat):List Nat->(Nat->Ct)->Nat->Nat->n_->Prop:=λAf ct x y f=>
 (1<=n/\(K.ct p).starved=true/\Af=r.Af/\ct=K.ct/\x=0/\y=0/\f=.func (.func 270) #[ptr p] #[])\/
 ((n=0\/(K.ct p).starved=false)/\x=Nat.min (K.ct p).ws.length n/\Af=SV r.Af o ((K.ct p).ws.take x)/\ct=Ah K.ct p { K.ct p with ws:=(K.ct p).ws.drop x}/\y=0/\f=.nilFunc)
theorem ao5 (K:KS)(b e0 o n:Nat)(r:PR)(v:n_)(h:AY K w)(hb:K.ps b=some r)(hn:r.en=false)(hI:∀z∈r.Af,z<65536)(te:K.T e0=(13,0))(hv:O1 r v o n):
  O_ m 266 #[Q_ e0,v] w (Zk (XRd K (K.ct e0).n r o n) K b r w):=by
 obtain⟨K0,rb,_⟩:=IE w;have M:=h.no K0;have Hl:K.T w.heap.size=(0,0):=h.lt _ w_;obtain⟨d0,rfl⟩:∃d,v=.slice d n n:=by
  obtain⟨rfl,rfl⟩|⟨g,c,_,rfl,_⟩:=hv
  .exact⟨none,rfl⟩
  .exact⟨_,rfl⟩
 obtain⟨he,j⟩:=M.fl.rend e0 te;generalize (K.ct e0).n=p at*;have d1:(w.alloc V_).cell? (R_ e0)=some (Q_ p):=(Ai he 0).trans rfl;have A:∀w1,Aa No (w.alloc V_) w1->∃(a:d_ f_) (G D k:Nat) (Af:List Nat) (w2:o_),w1.cell? (R_ e0)=some (Q_ p)/\w1.cell? (R_ p)=some (.slice a G D)/\(Builtin.copy_ #[116,116] 3 #[.slice d0 n n,.slice a G D]).run prog w1=.ok (goInt (k:Nat)) w2/\k<=G/\G<=16/\Af.length=r.Af.length/\(∀z∈Af,z<65536)/\AY (K.Bj b {r with Af:=Af}) w2/\BQ K.T K.T w1 w2/\w2.heap[p]?=some (N_ #[.slice a G D,.bool (K.ct p).x,.bool (K.ct p).y] 329)/\Tf K.T w2 p 16 (.slice a G D) (K.ct p).ws/\Yp (k=Nat.min (K.ct p).ws.length n/\Af=SV r.Af o ((K.ct p).ws.take k))/\w2.cell? (R_ e0)=some (Q_ p):=λw1 B=>by
  have h1:=M.no B
  obtain⟨u,hp,hu⟩:=h1.fl.pipe p j
  obtain⟨a,D,rfl,hwc,hw16,hwx,hwn,hws⟩:=hu.shape
  obtain⟨w2,k,Af,BJ,hk,_,Jl,aj,Ib,hM2,Q,l⟩:=JX (ty:=3) (sCap:=D) h1 hb hn hI hv hwx rfl hws hwn
  have L:=B.has d1
  exact⟨a,(K.ct p).ws.length,D,k,Af,w2,L,(Ai hp 0).trans rfl,BJ,hk,hw16,Jl,aj,Ib,hM2,Q.old hp (by unfold On;rw[j];simp),hu.keep Q sJ,l,(Q.cell (l9 _ _ L) (by unfold On;rw[te];simp)).trans L⟩
 by_cases hz:n=0
 .subst hz;have B:Aa No (w.alloc V_) (w.alloc V_):=Aa.refl _ _;obtain⟨a,G,D,k,Af,w2,d1,d2,hcp,R,cy5,Jl,aj,h2,M2,q,S,l,e1⟩:=A _ B;clear A;have iq:=l9 _ _ e1;have V:=Dt q;have e2:w2.cell? (R_ p)=some (.slice a G D):=(Ai q 0).trans rfl;gi_enter func266,ntmps266;gi_wp2;generalize hw0:w.alloc V_=w0 at*;refine Dx (P:=prog) _ rfl rfl sU 13 48 [0,1,2,3,4,5,6,7,8,9,10,11] [12] sU (by rfl)
   (Oi (On K.T λt=>t=(15,p)) w2.drew 12 (ai5 K.T p ((K.ct p).ws.drop k)) []) (Gj sJ sJ) _ _ rfl rfl ?_;have cD:=λm=>Ξ m w2.drew K.T p k _ _ (S.set (Aa.refl No w2).drew (λ_ _=>id)) (λ_ _ _ e=>by cases e;exact R)
  gi_wp2_with (gi_at_call 271;refine(cD _).mono ?_;rintro e w3 ⟨u3,rfl,_,_⟩);refine⟨rfl,sU,Et,?_,?_,?_⟩
  .intro L' u W hI;have d1:=(hI.1.cell (w:=w2.drew) (p:=(R_ e0)) iq (by unfold On;rw[te];simp)).trans e1;have d2:=(hI.1.cell (w:=w2.drew) (p:=(R_ p)) V (by unfold On;rw[j];simp)).trans e2
   repeat' (refine AA ?_ ?_)
   all_goals first|exact dE|gi_wp2
  .intro i hi L' u W hI N hu;obtain rfl:i=12:=(by simpa using hi);obtain rfl:=hI.2.1 N;refine BI rfl λKK Ol=>?_
   show wpListIn NF m prog _ _ _ (Act.put _ (some 43) (u 12)) _;gi_wp2_with (gi_at_call 271;refine(cD _).mono ?_;rintro e w3 ⟨u3,rfl,O,C⟩);exact⟨_,rfl,Gl hI sJ C O⟩
  .intro L' u W hI hL;obtain⟨⟨J,X,c3,E⟩,F⟩:=hI.2.2.1 (hL 12 sJ);show wpListIn NF m prog _ _ _ (Act.put _ (some 43) (u 12)) _;rw[E];rw[E]at F;have C:Aa (On K.T λt=>t=(15,p)) w2 W:=(Aa.refl _ w2).drew.then hI.1;have s:=C.old q (by unfold On;rw[j];simp);have q3:W.cell? (R_ p)=some _:=(Ai s 0).trans rfl;have z3:=Cf s 0;have e1':=(C.cell (p:=(R_ e0)) iq (by unfold On;rw[te];simp)).trans e1;gi_wp2_with fail;have K4:Aa (λx=>x=p\/K.T x=(15,p)) w2 (W.setCell (R_ p) (.slice J X c3)):=(C.mono λx _ e=>.inr e).setCell _ λ_=>.inl rfl
   have s4:=AY.lY (b0:=p) (Qz:=Ah K.ct p { K.ct p with ws:=(K.ct p).ws.drop k}) h2 K4 (λx U=>by
    obtain rfl|U:=U
    .exact .inl ⟨rfl,by show(K.T x).1≠15;rw[j];simp⟩
    .exact .inr U) (by show 10<=(K.T p).1;rw[j];simp) (by show(K.T p).1<15;rw[j];simp) (EN.WI (T:=K.T) (v:=.slice J X c3) j ((Ap s _).trans (by simp[Ah])) (by have:=F.set (Aa.O8 (b:=p) (o:=0) (.slice J X c3)) (λg hg e=>by rw[show g=p from e,j]at hg;simp at hg);simpa [Ah]using this)) (λb hb=>ru hb) (λe=>qx (j.symm.trans e) sJ)
   have LU:BQ K.T K.T w0 _:=((BQ.no B M.lt).trans M2).trans s4.2;gi_wp2_with (first|(gi_at_call 272;refine(Dp _ _ k wB).mono ?_;rintro e wz ⟨rfl,I⟩;obtain⟨w8,Y,Z,H⟩:=Az (x:=k) (y:=0) (f:=.nilFunc) (I.old (LU.old rb Hl) id) rfl)|refine Fa Y ?_);refine T_ k 0 (by simp[results,results266,go_sem,FU H]) rfl ?_;exact EX (x:=k) (y:=0) h.lt K0 ((LU).then I) ((s4.1).no I) Z wB wB (.inl rfl) (Jl) (aj) (.inr ⟨.inl rfl,l.out.1,l.out.2,rfl,rfl,rfl⟩)
 .have f1:(0:Int)<(n:Int):=wB
  have cs:=λm=>ZA m _ K p M j
  gi_enter func266,ntmps266;gi_wp2_with (first|(gi_at_call 270;refine(cs _).mono ?_;rintro e w1 ⟨B,xb,rfl,hxb⟩;obtain⟨a,G,D,k,Af,w2,d1,d2,hcp,R,cy5,Jl,aj,h2,M2,q,S,l,e1⟩:=A w1 B;clear A;generalize hw0:w.alloc V_=w0 at *;obtain⟨w8,Y,Z,H⟩:=Az (x:=0) (y:=0) (f:=.func (.func 270) #[Q_ p] #[]) (B.old rb id) rfl;have iq:=l9 _ _ e1;have V:=Dt q;have e2:w2.cell? (R_ p)=some (.slice a G D):=(Ai q 0).trans rfl;cases xb)|refine Fa Y ?_)
  .clear Y Z H;refine Dx (P:=prog) _ rfl rfl sU 13 48 [0,1,2,3,4,5,6,7,8,9,10,11] [12] sU (by rfl)
    (Oi (On K.T λt=>t=(15,p)) w2.drew 12 (ai5 K.T p ((K.ct p).ws.drop k)) []) (Gj sJ sJ) _ _ rfl rfl ?_;have cD:=λm=>Ξ m w2.drew K.T p k _ _ (S.set (Aa.refl No w2).drew (λ_ _=>id)) (λ_ _ _ e=>by cases e;exact R)
   gi_wp2_with (gi_at_call 271;refine(cD _).mono ?_;rintro e w3 ⟨u3,rfl,_,_⟩);refine⟨rfl,sU,Et,?_,?_,?_⟩
   .intro L' u W hI;have d1:=(hI.1.cell (w:=w2.drew) (p:=(R_ e0)) iq (by unfold On;rw[te];simp)).trans e1;have d2:=(hI.1.cell (w:=w2.drew) (p:=(R_ p)) V (by unfold On;rw[j];simp)).trans e2
    repeat' (refine AA ?_ ?_)
    all_goals first|exact dE|gi_wp2
   .intro i hi L' u W hI N hu;obtain rfl:i=12:=(by simpa using hi);obtain rfl:=hI.2.1 N;refine BI rfl λKK Ol=>?_
    show wpListIn NF m prog _ _ _ (Act.put _ (some 43) (u 12)) _;gi_wp2_with (gi_at_call 271;refine(cD _).mono ?_;rintro e w3 ⟨u3,rfl,O,C⟩);exact⟨_,rfl,Gl hI sJ C O⟩
   .intro L' u W hI hL;obtain⟨⟨J,X,c3,E⟩,F⟩:=hI.2.2.1 (hL 12 sJ);show wpListIn NF m prog _ _ _ (Act.put _ (some 43) (u 12)) _;rw[E];rw[E]at F;have C:Aa (On K.T λt=>t=(15,p)) w2 W:=(Aa.refl _ w2).drew.then hI.1;have s:=C.old q (by unfold On;rw[j];simp);have q3:W.cell? (R_ p)=some _:=(Ai s 0).trans rfl;have z3:=Cf s 0;have e1':=(C.cell (p:=(R_ e0)) iq (by unfold On;rw[te];simp)).trans e1;gi_wp2_with fail;have K4:Aa (λx=>x=p\/K.T x=(15,p)) w2 (W.setCell (R_ p) (.slice J X c3)):=(C.mono λx _ e=>.inr e).setCell _ λ_=>.inl rfl
    have s4:=AY.lY (b0:=p) (Qz:=Ah K.ct p { K.ct p with ws:=(K.ct p).ws.drop k}) h2 K4 (λx U=>by
     obtain rfl|U:=U
     .exact .inl ⟨rfl,by show(K.T x).1≠15;rw[j];simp⟩
     .exact .inr U) (by show 10<=(K.T p).1;rw[j];simp) (by show(K.T p).1<15;rw[j];simp) (EN.WI (T:=K.T) (v:=.slice J X c3) j ((Ap s _).trans (by simp[Ah])) (by have:=F.set (Aa.O8 (b:=p) (o:=0) (.slice J X c3)) (λg hg e=>by rw[show g=p from e,j]at hg;simp at hg);simpa [Ah]using this)) (λb hb=>ru hb) (λe=>qx (j.symm.trans e) sJ)
    have LU:BQ K.T K.T w0 _:=((BQ.no B M.lt).trans M2).trans s4.2;gi_wp2_with (first|(gi_at_call 272;refine(Dp _ _ k wB).mono ?_;rintro e wz ⟨rfl,I⟩;obtain⟨w8,Y,Z,H⟩:=Az (x:=k) (y:=0) (f:=.nilFunc) (I.old (LU.old rb Hl) id) rfl)|refine Fa Y ?_);refine T_ k 0 (by simp[results,results266,go_sem,FU H]) rfl ?_;exact EX (x:=k) (y:=0) h.lt K0 ((LU).then I) ((s4.1).no I) Z wB wB (.inl rfl) (Jl) (aj) (.inr ⟨.inr hxb.out.symm,l.out.1,l.out.2,rfl,rfl,rfl⟩)
  .have ψ:w8.cell? (R_ w.heap.size)=some (a_ 0):=bce H rfl;have χ:w8.cell? (S_ w.heap.size 1)=some (a_ 0):=bce H rfl;have φ:w8.cell? (S_ w.heap.size 2)=some (.func (.func 270) #[Q_ p] #[]):=bce H rfl;refine bodyPost_ret (v:=.agg #[a_ 0,a_ 0,.func (.func 270) #[Q_ p] #[]]) (by simp[results,results266,go_sem,ψ,χ,φ]) rfl ?_;exact EX (x:=0) (y:=0) (Af:=r.Af) (ct:=K.ct) h.lt K0 (BQ.no B M.lt) (by rw[show KS.Bj {K with ct:=K.ct} b {r with Af:=r.Af}=K from FD hb];exact M.no B) Z wB wB (.inr (.inr ⟨p,.inl rfl,j⟩)) rfl hI (.inl ⟨wB,hxb.out.symm,rfl,rfl,rfl,rfl,rfl⟩)
end
end Go.Fxa
