/- Calls of descriptors: dup. -/
import Derived.Test.YtmhplpfpcnjekaaGreatA25
namespace Go.Fxa
open Conc Proofs RowKit Proofs.Tryz
set_option maxRecDepth 1000000
set_option maxHeartbeats 0
section
variable (m:Nat) (w:World)
theorem ad4 (K:KS) (NC NS b fd:Nat) (r:PR) (h:AQ K w) (hO:DZ NC NS K) (hm:b∈K.AJ) (hb:K.ps b=some r) (hn:r.en=false) (Zn:fd<65536):
  CallsIn NF m prog 149 #[R_ K.kb,R_ b,.int .u16 (fd:Nat)] w (ED NC NS b K w):=by
 have o:=hO.pr b r hb;have hlen:r.fds.length<=6:=by rw[o.fds hn];omega
 obtain⟨K0,rb,BA⟩:=FU w;have h0:=h.no K0;have E8:K.T w.heap.size=(0,0):=h.lt _ (Nat.le_refl _);have ch:=fun m=>RU m _ K b fd r h0 hb hn Zn
 gi_enter func149,ntmps149;gi_wp2_with (gi_at_call 202;refine(ch _).mono ?_;rintro e w1 ⟨K1,x,rfl,hx⟩;generalize hw0:w.alloc V_=w0 at *;cases x)
 ·skip
  gi_wp2_with (first|(gi_at_call 140;refine(AL _ _ 2).mono ?_;rintro e wz ⟨rfl,Kz⟩;obtain⟨w8,Ar,K8,b8⟩:=Af (x:=0) (y:=2) (f:=.nilFunc) (Kz.old (K1.old rb id) id) rfl)|refine Ae rfl _ _ _ rfl rfl rfl Ar ?_);refine TR 0 2 (by simp[results,results149,go_sem,Dz b8]) rfl ?_;exact Br h hO hm hb K0 BA (K1.then Kz) K8 (by decide) (by decide)
 ·obtain⟨n,hg,BN⟩:=hx (by first|rfl|trivial);obtain⟨i,rfl,hi⟩:=(o.fd n (List.mem_of_getElem? hg)).resolve_left BN;obtain⟨hd,_⟩:=hO.close hm hb hn hi hg;have h1:=h0.no K1;have cs:=fun m=>Xu m w1 K b r h1 hb hn (by omega)
  have hsp:=SL (l:=r.fds);generalize hs:EA r.fds=s at cs hsp;by_cases hs0:s=0
  ·subst hs0;gi_wp2_with (gi_at_call 204;refine(cs _).mono ?_;rintro e w2 ⟨K2,rfl⟩);gi_wp2_with (first|(gi_at_call 140;refine(AL _ _ 7).mono ?_;rintro e wz ⟨rfl,Kz⟩;obtain⟨w8,Ar,K8,b8⟩:=Af (x:=0) (y:=7) (f:=.nilFunc) (Kz.old ((K1.then K2).old rb id) id) rfl)|refine Ae rfl _ _ _ rfl rfl rfl Ar ?_);refine TR 0 7 (by simp[results,results149,go_sem,Dz b8]) rfl ?_;exact AV (K':=K) (x:=0) (y:=7) h.lt K0 BA (((Bw.no (K1.then K2) h0.lt)).then Kz) ((h0.no (K1.then K2)).no Kz) K8 (by omega) (by omega) (.inl rfl) (hO) (Rel.refl b K) hb (fun _=>hm)
  ·have f0:((s:Int)==0)=false:=(by simp;omega);gi_wp2_with (gi_at_call 204;refine(cs _).mono ?_;rintro e w2 ⟨K2,rfl⟩);have KK:=K1.then K2;have h2:=h0.no KK;obtain⟨g,c,q9,iX,tg,jo⟩:=h2.WH hb hn;have hfl:=(KH.1 hg).1;have f1:(fd:Int)<(r.fds.length:Int):=(by omega);have d:=iX.JH rfl hg;refine AA (P:=prog) No _ rfl rfl (by kernel_rfl) 10 37 [0,1,2,3,4,5,6,7,8,9] [] (by kernel_rfl) (by rfl) (fun _ _ _=>True) (fun _ _ _ _ _ h _=>h) _ _ rfl rfl ?_;gi_wp2;refine⟨rfl,by kernel_rfl,?_,(fun i hi=>absurd hi (by simp)),?_⟩
   ·intro W hK;have d9:=hK.has (w:=w2.drew) q9;have dd:=hK.has (w:=w2.drew) d
    repeat' (refine Ao ?_ ?_)
    all_goals first|exact trivial|gi_wp2
   ·intro u W hK _;simp only[C9];have KW:Ab No w2 W:=(Ab.refl No w2).drew.then hK;have hW:=h2.no KW;have cd:=fun m=>Xv m W K i hW hi hd (by have:=hO.CY.le i hi;rw[hO.CY.ho i hi];exact this)
    gi_wp2_with (gi_at_call 193;refine(cd _).mono ?_;rintro e w3 ⟨rfl,h3,M3⟩;obtain⟨g2,c2,p9,I7,tg2,ag8⟩:=h3.WH (b:=b) hb hn;have d2:=I7.JH rfl hg;have ce:=fun m=>Nk m w3 _ b (i:Int) r h3 hb hn (by omega) (by omega));gi_wp2_with (gi_at_call 200;refine(ce _).mono ?_;rintro e w4 ⟨j,hj,rfl,h4,M4⟩);have hjl:=(KH.1 hj).1;obtain⟨J5,Fb⟩:=hO.dup hm hb hn hi hd hj;have I1:Bw K.T K.T w0 w4:=((Bw.no (KK.then KW) h0.lt).trans M3).trans M4;gi_wp2_with (first|(gi_at_call 152;refine(Cr _ _ j (by omega)).mono ?_;rintro e wz ⟨rfl,Kz⟩;obtain⟨w8,Ar,K8,b8⟩:=Af (x:=j) (y:=0) (f:=.nilFunc) (Kz.old (I1.old rb E8) id) rfl)|refine Ae rfl _ _ _ rfl rfl rfl Ar ?_);refine TR j 0 (by simp[results,results149,go_sem,Dz b8]) rfl ?_;exact AV (K':=KS.Cg { K with desc:=Az K.desc i (K.desc i+1) } b { r with fds:=r.fds.set j (i:Int) }) (x:=j) (y:=0) h.lt K0 BA ((I1).then Kz) ((h4).no Kz) K8 (by omega) (by omega) (.inl rfl) (J5) (Fb) Al (fun _=>hm)
end
theorem u333:(prog.underlying 333).map (fun d=>match d with | .struct fs=>fs[0]?.map (fun f=>(f.type,f.offset,f.byteOffset))|_=>none)=some (some (331,0,0)):=by kernel_rfl
theorem aj2:prog.cellsOf 333=1:=by kernel_rfl
theorem aj1:prog.cellsOf 335=1:=by kernel_rfl
theorem aj4:byteOfCell prog prog.depth 333 0=some 0:=by kernel_rfl
theorem uO {w:World} {b p:Nat} {T:TypeId} (h:w.heap[b]?=some (.cells #[ptr p] T (0,0))) (hs:prog.cellsOf T=1) (hb:byteOfCell prog prog.depth T 0=some 0):(partAt (S_ b) 0 0).run prog w=.ok (S_ b) w:=by
 have FD:w.shape? b=some (T,1):=by simp[World.shape?,h]
 simp[partAt,byteOf,noView,viewAt,FD,hs,hb,Result.andThen]
theorem Py {w:World} {b p:Nat} {t S:TypeId} {name:String} {f:FuncId} (hm:((prog.info? t).bind fun i=>(i.methods.find? fun m=>m.name==name).map fun m=>(m.path.toList,m.func))=some ([⟨S,0,true⟩],some (f,false))) (hu:(prog.underlying S).map (fun d=>match d with | .struct fs=>fs[0]?.map (fun f=>(f.type,f.offset,f.byteOffset))|_=>none)=some (some (331,0,0))) (h:w.heap[b]?=some (.cells #[ptr p] S (0,0))) (hs:prog.cellsOf S=1) (hb:byteOfCell prog prog.depth S 0=some 0):
  (method 468 t (R_ b) name).run prog w=.ok (f,.agg #[]) w:=by
 cases hi:prog.info? t with
 | none=>rw[hi]at hm;cases hm
 | some i=>
  rw[hi]at hm
  simp only[Option.bind_some]at hm
  cases hf:i.methods.find? (fun m=>m.name==name)with
  | none=>rw[hf]at hm;cases hm
  | some M=>
   rw[hf]at hm
   simp only[Option.map_some,Option.some.injEq,Prod.mk.injEq]at hm
   obtain⟨m1,m2⟩:=hm
   cases hd:prog.underlying S with
   | none=>rw[hd]at hu;cases hu
   | some d=>
    rw[hd]at hu
    cases d with
    | struct fs=>
     simp only[Option.map_some,Option.some.injEq]at hu
     cases hx:fs[0]? with
     | none=>rw[hx]at hu;cases hu
     | some F=>
      rw[hx]at hu
      simp only[Option.map_some,Option.some.injEq,Prod.mk.injEq]at hu
      obtain⟨u1,u2,u3⟩:=hu
      have hpa:=uO h hs hb
      have an8:prog.underlying 331=some (.struct #[]):=by kernel_rfl
      rw[show(468:Nat)=467+1 from rfl]
      unfold method
      simp[typeInfo,hi,hf,m1,m2,follow,run_underlying hd,hx,u1,u2,u3,Place.get,asAddr,fieldPlace,hpa,receiverAt,run_underlying an8,loadVar,loadCells,loadCellsFrom,Result.andThen]
    | _=>simp at hu
theorem u335:(prog.underlying 335).map (fun d=>match d with | .struct fs=>fs[0]?.map (fun f=>(f.type,f.offset,f.byteOffset))|_=>none)=some (some (331,0,0)):=by kernel_rfl
theorem aj3:byteOfCell prog prog.depth 335 0=some 0:=by kernel_rfl
theorem XO {w:World} {b p:Nat} (h:w.heap[b]?=some (.cells #[ptr p] 333 (0,0))):(method 468 330 (.pointer (some ⟨b,0,none⟩)) "Write").run prog w=.ok (268,.agg #[]) w:=Py (by kernel_rfl) u333 h aj2 aj4
theorem qH {w:World} {b p:Nat} (h:w.heap[b]?=some (.cells #[ptr p] 333 (0,0))):(method 468 330 (.pointer (some ⟨b,0,none⟩)) "Seek").run prog w=.ok (267,.agg #[]) w:=Py (by kernel_rfl) u333 h aj2 aj4
theorem qG {w:World} {b p:Nat} (h:w.heap[b]?=some (.cells #[ptr p] 335 (0,0))):(method 468 334 (.pointer (some ⟨b,0,none⟩)) "Seek").run prog w=.ok (267,.agg #[]) w:=Py (by kernel_rfl) u335 h aj1 aj3
theorem XQ {w:World} {b p:Nat} (h:w.heap[b]?=some (.cells #[ptr p] 335 (0,0))):(method 468 334 (.pointer (some ⟨b,0,none⟩)) "Read").run prog w=.ok (274,.agg #[]) w:=Py (by kernel_rfl) u335 h aj1 aj3
theorem XR (b:Nat):∀w:World,(method 468 330 (.pointer (some ⟨b,0,none⟩)) "Read").run prog w=.ok (266,.pointer (some ⟨b,0,none⟩)) w:=fun w=>by kernel_rfl
theorem XN (b:Nat):∀w:World,(method 468 334 (.pointer (some ⟨b,0,none⟩)) "Write").run prog w=.ok (275,.pointer (some ⟨b,0,none⟩)) w:=fun w=>by kernel_rfl
theorem XM (b:Nat):∀w:World,(method 468 337 (.pointer (some ⟨b,0,none⟩)) "Write").run prog w=.ok (279,.pointer (some ⟨b,0,none⟩)) w:=fun w=>by kernel_rfl
theorem qF (b:Nat):∀w:World,(method 468 337 (.pointer (some ⟨b,0,none⟩)) "Seek").run prog w=.ok (278,.pointer (some ⟨b,0,none⟩)) w:=fun w=>by kernel_rfl
theorem XP (b:Nat):∀w:World,(method 468 337 (.pointer (some ⟨b,0,none⟩)) "Read").run prog w=.ok (277,.pointer (some ⟨b,0,none⟩)) w:=fun w=>by kernel_rfl
section
variable (m:Nat) (w:World)
theorem Vd (v:Value):CallsIn NF m prog 268 #[.agg #[],v] w fun e w'=>e=.returned (.agg #[.int .u16 0,.int .u16 2,.nilFunc])/\Ab No w w':=by
 have c:=fun m w=>En m w 2
 have K0:Ab No w ((w.alloc (.cells #[] 331)).alloc V_):=((Ab.refl _ _).alloc _).alloc _;have rb:((w.alloc (.cells #[] 331)).alloc V_).heap[w.heap.size+1]?=some (.cells #[.int .u16 0,.int .u16 0,.nilFunc] 206 (0,0)):=by
  have:=heap_alloc_new (w:=w.alloc (.cells #[] 331)) (o:=.cells #[.int .u16 0,.int .u16 0,.nilFunc] 206) rfl
  simpa using this
 gi_enter func268,ntmps268;gi_wp2_with (first|(gi_at_call 273;refine(c _ _).mono ?_;rintro e w1 ⟨rfl,K1⟩;obtain⟨w8,Ar,K8,b8⟩:=Af (x:=0) (y:=2) (f:=.nilFunc) (K1.old rb id) rfl)|refine Ae rfl _ _ _ rfl rfl rfl Ar ?_);have jd:w8.cell? (S_ (w.heap.size+1))=some (.int .u16 0):=bce b8 rfl;have jc:w8.cell? (T_ (w.heap.size+1) 1)=some (.int .u16 2):=bce b8 rfl;have ja:w8.cell? (T_ (w.heap.size+1) 2)=some .nilFunc:=bce b8 rfl;refine TR 0 2 (by simp[results,results268,go_sem,jd,jc,ja]) rfl ?_;exact⟨rfl,(K0.then K1).trans K8 (fun k hk e=>absurd hk (by rw[show k=w.heap.size+1 from e];omega))⟩
theorem Yc (v:Value):CallsIn NF m prog 267 #[.agg #[],v] w fun e w'=>e=.returned (.agg #[.int .u16 0,.int .u16 2,.nilFunc])/\Ab No w w':=by
 have c:=fun m w=>En m w 2
 have K0:Ab No w ((w.alloc (.cells #[] 331)).alloc V_):=((Ab.refl _ _).alloc _).alloc _;have rb:((w.alloc (.cells #[] 331)).alloc V_).heap[w.heap.size+1]?=some (.cells #[.int .u16 0,.int .u16 0,.nilFunc] 206 (0,0)):=by
  have:=heap_alloc_new (w:=w.alloc (.cells #[] 331)) (o:=.cells #[.int .u16 0,.int .u16 0,.nilFunc] 206) rfl
  simpa using this
 gi_enter func267,ntmps267;gi_wp2_with (first|(gi_at_call 273;refine(c _ _).mono ?_;rintro e w1 ⟨rfl,K1⟩;obtain⟨w8,Ar,K8,b8⟩:=Af (x:=0) (y:=2) (f:=.nilFunc) (K1.old rb id) rfl)|refine Ae rfl _ _ _ rfl rfl rfl Ar ?_);have jd:w8.cell? (S_ (w.heap.size+1))=some (.int .u16 0):=bce b8 rfl;have jc:w8.cell? (T_ (w.heap.size+1) 1)=some (.int .u16 2):=bce b8 rfl;have ja:w8.cell? (T_ (w.heap.size+1) 2)=some .nilFunc:=bce b8 rfl;refine TR 0 2 (by simp[results,results267,go_sem,jd,jc,ja]) rfl ?_;exact⟨rfl,(K0.then K1).trans K8 (fun k hk e=>absurd hk (by rw[show k=w.heap.size+1 from e];omega))⟩
theorem Yd (v:Value):CallsIn NF m prog 274 #[.agg #[],v] w fun e w'=>e=.returned (.agg #[.int .u16 0,.int .u16 2,.nilFunc])/\Ab No w w':=by
 have c:=fun m w=>En m w 2
 have K0:Ab No w ((w.alloc (.cells #[] 331)).alloc V_):=((Ab.refl _ _).alloc _).alloc _;have rb:((w.alloc (.cells #[] 331)).alloc V_).heap[w.heap.size+1]?=some (.cells #[.int .u16 0,.int .u16 0,.nilFunc] 206 (0,0)):=by
  have:=heap_alloc_new (w:=w.alloc (.cells #[] 331)) (o:=.cells #[.int .u16 0,.int .u16 0,.nilFunc] 206) rfl
  simpa using this
 gi_enter func274,ntmps274;gi_wp2_with (first|(gi_at_call 273;refine(c _ _).mono ?_;rintro e w1 ⟨rfl,K1⟩;obtain⟨w8,Ar,K8,b8⟩:=Af (x:=0) (y:=2) (f:=.nilFunc) (K1.old rb id) rfl)|refine Ae rfl _ _ _ rfl rfl rfl Ar ?_);have jd:w8.cell? (S_ (w.heap.size+1))=some (.int .u16 0):=bce b8 rfl;have jc:w8.cell? (T_ (w.heap.size+1) 1)=some (.int .u16 2):=bce b8 rfl;have ja:w8.cell? (T_ (w.heap.size+1) 2)=some .nilFunc:=bce b8 rfl;refine TR 0 2 (by simp[results,results274,go_sem,jd,jc,ja]) rfl ?_;exact⟨rfl,(K0.then K1).trans K8 (fun k hk e=>absurd hk (by rw[show k=w.heap.size+1 from e];omega))⟩
end
theorem He:J4 prog 116 123 (.int .u16 0) 1 2:=⟨underlying116,by kernel_rfl,by rfl,by decide,by intro x hx;simp[Value.cells]at hx;subst hx;rfl⟩
theorem Dr (l:List Nat):∀x∈Aq l,x.oneCell'=true:=by
 intro x hx;simp only[Aq,List.mem_map]at hx;obtain⟨n,_,rfl⟩:=hx
 rfl
theorem PE {w:World} {g n c o Gx FI Ca sCap:Nat} {l ws:List Nat} {a:Addr} {ty:TypeId} (hR:Rw 123 1 w g n c (Aq l)) (hl:l.length=n) (hsrc:∀j v,(Aq ws)[j]?=some v->w.cell? (a.add j)=some v) (hk:ws.length=Nat.min Ca Gx) (Dp:o+ws.length<=n):∃w',(Builtin.copy_ #[116,116] ty #[.slice (some (T_ g o)) Gx FI,.slice (some a) Ca sCap]).run prog w=.ok (goInt (Nat.min Ca Gx)) w'/\Ab (At g) w w'/\Rw 123 1 w' g n c (Aq (l.take o++ws++l.drop (o+ws.length))):=by
 obtain⟨cur,h1,h2,h3⟩:=hR.blk;have hle:=hR.le;have hwl:(Aq ws).length=ws.length:=by simp[Aq]
 have hcl:cur.toList.length=c*1:=by simpa using h2
 have hcp:=gq (ty:=ty) (sT:=116) (Gx:=Gx) (FI:=FI) (Ca:=Ca) (sCap:=sCap) He h1 (cs:=Aq ws) (o:=o) (by rw[hwl,hk];simp) hsrc (by rw[hwl,h2];omega) (Dr ws);have hsl:(NM cur.toList o (Aq ws)).length=c*1:=by rw[J8 (by rw[hwl,hcl];omega)];simpa using h2
 refine⟨_,hcp,(Ab.refl _ _).setRow _ _ fun _=>rfl,Qd hR hsl hle ?_ (Dr _)⟩;apply List.ext_getElem?;intro j;have hseg:=O0 (l:=cur.toList) (cs:=Aq ws) (o:=o) (i:=j) (by rw[hwl,hcl];omega);have ah1:∀j,j<n->cur.toList[j]?=(Aq l)[j]?:=fun j hj=>by rw[<-h3,List.getElem?_take,if_pos (by omega)]
 rw[List.getElem?_take];by_cases hj:j<n*1
 ·rw[if_pos hj,hseg,hwl];have e:(Aq (l.take o++ws++l.drop (o+ws.length)))[j]?=((l.take o++ws++l.drop (o+ws.length))[j]?).map fun x:Nat=>Value.int .u16 (x:Int):=by simp only[Aq,List.getElem?_map]
  rw[e,List.append_assoc,List.getElem?_append,List.getElem?_append];simp only[List.length_take,List.getElem?_take,List.getElem?_drop];have hm:min o l.length=o:=by omega
  rw[hm];by_cases h4:j<o
  ·rw[if_pos h4,if_pos h4,if_pos h4,ah1 j (by omega)];simp[Aq]
  ·rw[if_neg h4,if_neg h4];by_cases h5:j<o+ws.length
   ·rw[if_pos h5,if_pos (by omega)];simp[Aq]
   ·rw[if_neg h5,if_neg (by omega),ah1 j (by omega)];have e2:o+ws.length+(j-o-ws.length)=j:=(by omega);rw[e2];simp only[Aq,List.getElem?_map]
 ·rw[if_neg hj,List.getElem?_eq_none];simp[Aq];omega
theorem vR {w:World} {d a:Option Addr} {Gx FI Ca sCap:Nat} {ty:TypeId} (hn:Nat.min Ca Gx=0):(Builtin.copy_ #[116,116] ty #[.slice d Gx FI,.slice a Ca sCap]).run prog w=.ok (goInt 0) w:=dW He hn
section
variable (m:Nat) (w:World)
theorem kN (g n cap i j:Nat) (xs:U_) (hR:Rw 123 1 w g n cap xs) (hij:i<j) (hjn:j<=n):
  CallsIn NF m prog 271 #[.slice (some (S_ g)) n cap,.int .i64 (i:Nat),.int .i64 (j:Nat)] w fun e w'=>e=.returned (.slice (some (S_ g)) (i+(n-j)) cap)/\Ab (At g) w w'/\Rw 123 1 w' g (i+(n-j)) cap (xs.take (i*1)++xs.drop (j*1)):=by
 have hle:=hR.le;have f1:¬((j:Int)<(i:Int)):=by omega
 have f2:¬((n:Int)<(j:Int)):=by omega
 have f3:¬((cap:Int)<(n:Int)):=by omega
 by_cases hcj:cap=j
 all_goals
  gi_enter func271,ntmps271
  gi_wp2
  refine AA (P:=prog) No _ rfl rfl (by kernel_rfl) 6 33 [0,1,2,3,4,5] [] (by kernel_rfl) (by rfl) (fun _ _ _=>True) (fun _ _ _ _ _ h _=>h) _ _ rfl rfl ?_
  gi_wp2
  refine⟨rfl,by kernel_rfl,?_,(fun i hi=>absurd hi (by simp)),?_⟩
  ·intro W hK
   repeat' (refine Ao ?_ ?_)
   all_goals first|exact trivial|gi_wp2
  ·intro u W hK _;simp only[C9];obtain⟨w1,Fq,hK1,h1⟩:=ZW (w:=W) (ty:=116) He (hR.keep ((Ab.refl No w).drew.then hK) id) hij hjn;obtain⟨w2,hcl,Fe,h2⟩:=MJ (c:=cap-(i+(n-j))) (q:=n-(i+(n-j))) (ty:=0) He h1 (by omega);simp only[Nat.mul_one]at Fq hcl
   first|(rw[if_pos hcj]at Fq;simp only[hcj,Nat.sub_self]at Fq hcl)|rw[if_neg hcj]at Fq
   refine BL rfl (.tmp 22) (.tmp 25) _ rfl rfl rfl Fq ?_;gi_wp2;go_ret;exact⟨by simp[hcj],(((Ab.refl _ _).drew.then hK.no).then hK1).then Fe,h2⟩
theorem PZ (a:Option Addr) (n cap:Nat) (hc:n<=cap):CallsIn NF m prog 271 #[.slice a n cap,.int .i64 0,.int .i64 0] w fun e w'=>e=.returned (.slice a n cap)/\Ab No w w':=by
 cases a with
 | none=>
  gi_enter func271,ntmps271
  gi_wp2
  go_ret
  exact⟨by simp,Ab.refl _ _⟩
 | some a=>
  gi_enter func271,ntmps271
  gi_wp2
  go_ret
  exact⟨by simp,Ab.refl _ _⟩
end
def Hm (r:PR) (v:Value):Prop:=v=.slice none 0 0\/∃g c o n,r.im=.slice (some (S_ g)) r.Ah.length c/\v=.slice (some (T_ g o)) n n/\1<=n/\o+n<=r.Ah.length
def Sm (K:KS) (b:Nat) (r:PR) (w:World) (e:Ending) (w':World):Prop:=∃(Ah:List Nat) (x y:Nat) (f:Value),e=.returned (.agg #[.int .u16 x,.int .u16 y,f])/\x<65536/\y<65536/\IU K.T w' K.kb b f/\Ah.length=r.Ah.length/\(∀z∈Ah,z<65536)/\AQ (K.Cg b { r with Ah:=Ah }) w'/\Bw K.T K.T w w'
theorem AQ.Uu {K:KS} {w:World} {b:Nat} {r:PR} (h:AQ K w) (hb:K.ps b=some r) (hn:r.en=false):∃g c,w.cell? (T_ b 8)=some (.slice (some (S_ g)) r.Ah.length c)/\Rw 123 1 w g r.Ah.length c (Aq r.Ah)/\K.T g=(7,b)/\r.im=.slice (some (S_ g)) r.Ah.length c:=by
 obtain⟨g,c,h1,h2,h3⟩:=(h.ps b r hb).im hn;exact⟨g,c,by rw[h.FH hb];simp[PR.arr,h1],h2,h3,h1⟩
theorem AQ.oC {K:KS} {w w':World} {b g c:Nat} {r:PR} {Ah:List Nat} (h:AQ K w) (hb:K.ps b=some r) (hn:r.en=false) (h1:r.im=.slice (some (S_ g)) r.Ah.length c) (h3:K.T g=(7,b)) (hK:Ab (At g) w w') (h2:Rw 123 1 w' g r.Ah.length c (Aq Ah)) (hl:Ah.length=r.Ah.length):AQ (K.Cg b { r with Ah:=Ah }) w'/\Bw K.T K.T w w':=by
 have M:Ct K.T K.T (fun t=>t=(6,b)\/t=(7,b)\/t=(8,b)\/t=(9,b)) (fun t=>t=(6,b)\/t=(7,b)\/t=(8,b)\/t=(9,b)) w w':=Ct.of (hK.on fun k _ e=>by subst e;exact .inr (.inl h3)) h.lt;have hp:=h.ps b r hb;have K7:Ab (On K.T fun t=>t=(7,b)) w w':=hK.on fun k _ e=>by subst e;exact h3
 refine⟨h.WJ M ⟨hp.t,hK.old hp.o (fun e=>?_),fun _=>⟨g,c,by rw[h1];simp only[hl],by simpa only[hl]using h2,h3⟩,fun e=>?_,hp.bl.keep K7 (by simp),fun e=>absurd e (by simp[hn])⟩,M.Qb (by rintro t (rfl|rfl|rfl|rfl)<;>simp)⟩
 ·have:=hp.t;rw[show b=g from e,h3]at this;simp at this
 ·obtain⟨g',c',a1,a2,a3⟩:=hp.fd e;exact⟨g',c',a1,a2.keep K7 (by unfold On;rw[a3];simp),a3⟩
theorem EJ {K:KS} {b:Nat} {r:PR} (hb:K.ps b=some r):K.Cg b r=K:=by
 unfold KS.Cg;have e:Cu K.ps b r=K.ps:=by funext k;unfold Cu;split;rename_i e;rw[e,hb];rfl
 rw[e]
theorem Ho {K:KS} {w:World} {b:Nat} {r:PR} {v:Value} {Ca sCap:Nat} {a:Option Addr} {ws:List Nat} {ty:TypeId} (h:AQ K w) (hb:K.ps b=some r) (hn:r.en=false) (hI:∀z∈r.Ah,z<65536) (hv:Hm r v) (hw:∀x∈ws,x<65536) (hl:ws.length=Ca) (hs:∀ad,a=some ad->∀j u,(Aq ws)[j]?=some u->w.cell? (ad.add j)=some u) (ha:a=none->Ca=0):
  ∃w' k Ah,(Builtin.copy_ #[116,116] ty #[v,.slice a Ca sCap]).run prog w=.ok (goInt (k:Nat)) w'/\k<=Ca/\k<=128+r.Ah.length/\Ah.length=r.Ah.length/\(∀z∈Ah,z<65536)/\AQ (K.Cg b { r with Ah:=Ah }) w'/\Bw K.T K.T w w'/\Ab (On K.T fun t=>t=(7,b)) w w':=by
 have none_:∀(d:Option Addr) (Gx FI:Nat),Nat.min Ca Gx=0->v=.slice d Gx FI->∃w' k Ah,(Builtin.copy_ #[116,116] ty #[v,.slice a Ca sCap]).run prog w=.ok (goInt (k:Nat)) w'/\k<=Ca/\k<=128+r.Ah.length/\Ah.length=r.Ah.length/\(∀z∈Ah,z<65536)/\AQ (K.Cg b { r with Ah:=Ah }) w'/\Bw K.T K.T w w'/\Ab (On K.T fun t=>t=(7,b)) w w':=fun d Gx FI hz e=>by
  subst e
  exact⟨w,0,r.Ah,vR hz,by omega,by omega,rfl,hI,by rw[EJ hb];exact h,Bw.no (Ab.refl _ _) h.lt,Ab.refl _ _⟩
 rcases hv with rfl|⟨g,c,o,n,h1,rfl,hn1,Dp⟩
 ·exact none_ none 0 0 (by simp) rfl
 ·cases a with
  | none=>exact none_ _ n n (by rw[ha rfl];simp) rfl
  | some ad=>
   obtain⟨g',c',_,hR,tg,him⟩:=h.Uu hb hn
   obtain⟨rfl,rfl⟩:g=g'/\c=c':=by rw[him]at h1;simp at h1;exact⟨h1.1.symm,h1.2.symm⟩
   have hk:(ws.take (Nat.min Ca n)).length=Nat.min Ca n:=by rw[List.length_take,hl];exact Nat.min_eq_left (Nat.min_le_left _ _)
   have hm1:Nat.min Ca n<=n:=Nat.min_le_right _ _
   have hm2:Nat.min Ca n<=Ca:=Nat.min_le_left _ _
   obtain⟨w',hr,hK,Fb⟩:=PE (ty:=ty) (sCap:=sCap) (FI:=n) (Gx:=n) (o:=o) (a:=ad) hR rfl (ws:=ws.take (Nat.min Ca n)) (fun j u hu=>hs ad rfl j u (by
    simp only[Aq,List.map_take,List.getElem?_take]at hu
    split at hu
    ·exact hu
    ·cases hu)) hk (by rw[hk];omega)
   have Gl:(r.Ah.take o++ws.take (Nat.min Ca n)++r.Ah.drop (o+(ws.take (Nat.min Ca n)).length)).length=r.Ah.length:=by
    simp only[List.length_append,List.length_take,List.length_drop,hl]
    have:min (Nat.min Ca n) Ca=Nat.min Ca n:=Nat.min_eq_left hm2
    rw[this];omega
   have s:=h.oC hb hn him tg hK Fb Gl;refine⟨w',Nat.min Ca n,_,hr,hm2,by omega,Gl,fun z hz=>?_,s.1,s.2,hK.on fun k _ e=>by subst e;exact tg⟩;rcases List.mem_append.1 hz with hz|hz
   ·rcases List.mem_append.1 hz with hz|hz
    ·exact hI z (List.mem_of_mem_take hz)
    ·exact hw z (List.mem_of_mem_take hz)
   ·exact hI z (List.mem_of_mem_drop hz)
theorem DI {b x y:Nat} {K:KS} {r:PR} {w w0 w7 w8:World} {f:Value} {Ah:List Nat} (BC:∀k,w.heap.size<=k->K.T k=(0,0)) (K0:Ab No w w0) (hV:Bw K.T K.T w0 w7) (h7:AQ (K.Cg b { r with Ah:=Ah }) w7) (K8:Ab (At w.heap.size) w7 w8) (hx:x<65536) (hy:y<65536) (hf:IU K.T w7 K.kb b f) (hl:Ah.length=r.Ah.length) (hI:∀z∈Ah,z<65536):Sm K b r w (.returned (.agg #[.int .u16 x,.int .u16 y,f])) w8:=by
 have t7:K.T w.heap.size=(0,0):=BC _ (Nat.le_refl _);have K9:Ab (On K.T fun t=>t=(0,0)) w7 w8:=K8.on fun k _ e=>by rw[show k=w.heap.size from e];exact t7
 exact⟨Ah,x,y,f,rfl,hx,hy,hf.keep K9 (by simp),hl,hI,h7.own K8 t7,((Bw.no K0 BC).trans hV).own K8 (fun k e=>by rw[show k=w.heap.size from e];exact Nat.le_refl _)⟩
def oh (T:Tag) (p:Nat) (v:Value) (W:World):Prop:=(∃a n c,v=.slice a n c)/\OP T W p 16 v
theorem OP.shape {T:Tag} {w:World} {b M:Nat} {v:Value} (h:OP T w b M v):∃(a:Option Addr) (ws:List Nat) (c:Nat),v=.slice a ws.length c/\ws.length<=c/\ws.length<=M/\(∀x∈ws,x<65536)/\(a=none->ws.length=0)/\(∀ad,a=some ad->∀j u,(Aq ws)[j]?=some u->w.cell? (ad.add j)=some u):=by
 rcases h with rfl|⟨g,c,ws,rfl,hR,h1,h2,_⟩
 ·exact⟨none,[],0,rfl,by simp,by simp,by simp,fun _=>rfl,fun ad e=>by cases e⟩
 ·exact⟨_,ws,c,rfl,hR.le,h1,h2,fun e=>(by cases e),fun ad e=>by cases e;exact hR.cells⟩
section
variable (m:Nat) (w:World)
theorem iF (T:Tag) (p k:Nat) (v:Value) (h:OP T w p 16 v) (hk:∀a n c,v=.slice a n c->k<=n):CallsIn NF m prog 271 #[v,.int .i64 0,.int .i64 (k:Nat)] w fun e w'=>∃u,e=.returned u/\oh T p u w'/\Ab (On T fun t=>t=(15,p)) w w':=by
 rcases h with rfl|⟨g,c,ws,rfl,hR,h1,h2,h3⟩
 ·have:=hk _ _ _ rfl;obtain rfl:k=0:=by omega
  refine(PZ m w none 0 0 (by omega)).mono ?_;rintro e w' ⟨rfl,hK⟩;exact⟨_,rfl,⟨⟨_,_,_,rfl⟩,.inl rfl⟩,hK.no⟩
 ·have hk:=hk _ _ _ rfl;by_cases hz:k=0
  ·subst hz;refine(PZ m w _ _ _ hR.le).mono ?_;rintro e w' ⟨rfl,hK⟩;exact⟨_,rfl,⟨⟨_,_,_,rfl⟩,.inr ⟨g,c,ws,rfl,hR.keep hK id,h1,h2,h3⟩⟩,hK.no⟩
  ·refine(kN m w g ws.length c 0 k _ hR (by omega) hk).mono ?_;rintro e w' ⟨rfl,hK,Fb⟩;have el:(ws.drop k).length=0+(ws.length-k):=(by simp);refine⟨_,rfl,⟨⟨_,_,_,rfl⟩,.inr ⟨g,c,ws.drop k,by rw[el],?_,by rw[el];omega,fun x hx=>h2 x (List.mem_of_mem_drop hx),h3⟩⟩,hK.on fun x _ e=>by subst e;exact h3⟩;rw[el];simpa [Aq,List.map_drop]using Fb
theorem Xy (K:KS) (b e0:Nat) (r:PR) (v:Value) (h:AQ K w) (hb:K.ps b=some r) (hn:r.en=false) (hI:∀z∈r.Ah,z<65536) (te:K.T e0=(13,0)) (hv:Hm r v):
  CallsIn NF m prog 266 #[R_ e0,v] w (Sm K b r w):=by
 obtain⟨K0,rb,_⟩:=FU w;have h0:=h.no K0;have E8:K.T w.heap.size=(0,0):=h.lt _ (Nat.le_refl _);obtain⟨d0,n,rfl⟩:∃d n,v=.slice d n n:=by
  rcases hv with rfl|⟨g,c,o,n,_,rfl,_⟩
  ·exact⟨none,0,rfl⟩
  ·exact⟨_,n,rfl⟩
 obtain⟨p,he,tp⟩:=h0.fl.rend e0 te;have d1:(w.alloc V_).cell? (S_ e0)=some (R_ p):=(Ag he 0).trans rfl;have main:∀w1,Ab No (w.alloc V_) w1->∃(a:Option Addr) (m' c' k:Nat) (Ah:List Nat) (w2:World) (x y:Bool),w1.cell? (S_ e0)=some (R_ p)/\w1.cell? (S_ p)=some (.slice a m' c')/\(Builtin.copy_ #[116,116] 3 #[.slice d0 n n,.slice a m' c']).run prog w1=.ok (goInt (k:Nat)) w2/\k<=m'/\m'<=16/\Ah.length=r.Ah.length/\(∀z∈Ah,z<65536)/\AQ (K.Cg b { r with Ah:=Ah }) w2/\Bw K.T K.T w1 w2/\w2.heap[p]?=some (.cells #[.slice a m' c',.bool x,.bool y] 329 (0,0))/\OP K.T w2 p 16 (.slice a m' c')/\w2.cell? (S_ e0)=some (R_ p):=fun w1 K1=>by
  have h1:=h0.no K1
  obtain⟨u,x,y,hp,hu⟩:=h1.fl.pipe p tp
  obtain⟨a,ws,c',rfl,hwc,hw16,hwx,hwn,hws⟩:=hu.shape
  obtain⟨w2,k,Ah,Bg,hk,_,Gl,QB,Fe,hM2,hS2⟩:=Ho (ty:=3) (sCap:=c') h1 hb hn hI hv hwx rfl hws hwn
  have d1':=K1.has d1
  exact⟨a,ws.length,c',k,Ah,w2,x,y,d1',(Ag hp 0).trans rfl,Bg,hk,hw16,Gl,QB,Fe,hM2,hS2.old hp (by unfold On;rw[tp];simp),hu.keep hS2 (by simp),(hS2.cell (World.block_lt_of_cell? _ _ d1') (by unfold On;rw[te];simp)).trans d1'⟩
 by_cases hz:n=0
 ·subst hz;have K1:Ab No (w.alloc V_) (w.alloc V_):=Ab.refl _ _;obtain⟨a,m',c',k,Ah,w2,x,y,d1,d2,hcp,hkm,az3,Gl,QB,h2,M2,hp2,hu2,e1⟩:=main _ K1;clear main;have Vl:=World.block_lt_of_cell? _ _ e1;have lp2:=Co hp2;have e2:w2.cell? (S_ p)=some (.slice a m' c'):=(Ag hp2 0).trans rfl;gi_enter func266,ntmps266;gi_wp2;generalize hw0:w.alloc V_=w0 at*;refine BZ (P:=prog) _ rfl rfl (by kernel_rfl) 13 48 [0,1,2,3,4,5,6,7,8,9,10,11] [12] (by kernel_rfl) (by rfl)
   (J2 (On K.T fun t=>t=(15,p)) w2.drew 12 (oh K.T p) []) (EF (by simp) (by simp)) _ _ rfl rfl ?_;have cD:=fun m=>iF m w2.drew K.T p k _ (hu2.set (Ab.refl No w2).drew (fun _ _=>id)) (fun _ _ _ e=>by cases e;exact hkm)
  gi_wp2_with (gi_at_call 271;refine(cD _).mono ?_;rintro e w3 ⟨u3,rfl,_,_⟩);refine⟨rfl,by kernel_rfl,Dg,?_,?_,?_⟩
  ·intro L' u W hI;have d1:=(hI.1.cell (w:=w2.drew) (p:=(S_ e0)) Vl (by unfold On;rw[te];simp)).trans e1;have d2:=(hI.1.cell (w:=w2.drew) (p:=(S_ p)) lp2 (by unfold On;rw[tp];simp)).trans e2
   repeat' (refine Ao ?_ ?_)
   all_goals first|exact trivial|gi_wp2
  ·intro i hi L' u W hI Nf hu;obtain rfl:i=12:=(by simpa using hi);obtain rfl:=hI.2.1 Nf;refine Bh rfl fun KK Ko=>?_
   show wpListIn NF m prog _ _ _ (Act.put _ (some 43) (u 12)) _;gi_wp2_with (gi_at_call 271;refine(cD _).mono ?_;rintro e w3 ⟨u3,rfl,hP3,K3⟩);exact⟨_,rfl,EG hI (by simp) K3 hP3⟩
  ·intro L' u W hI hL;obtain⟨⟨a3,n3,c3,e12⟩,hw3⟩:=hI.2.2.1 (hL 12 (by simp));show wpListIn NF m prog _ _ _ (Act.put _ (some 43) (u 12)) _;rw[e12];rw[e12]at hw3;have K3:Ab (On K.T fun t=>t=(15,p)) w2 W:=(Ab.refl _ w2).drew.then hI.1;have hp3:=K3.old hp2 (by unfold On;rw[tp];simp);have q3:W.cell? (S_ p)=some _:=(Ag hp3 0).trans rfl;have z3:=BF hp3 0;have e1':=(K3.cell (p:=(S_ e0)) Vl (by unfold On;rw[te];simp)).trans e1;gi_wp2_with fail;have K4:Ab (fun x=>x=p\/K.T x=(15,p)) w2 (W.setCell (S_ p) (.slice a3 n3 c3)):=(K3.mono fun x _ e=>.inr e).setCell _ fun _=>.inl rfl
   have s4:=AQ.WU (b0:=p) h2 K4 (fun x hx=>by
    rcases hx with rfl|hx
    ·exact .inl ⟨rfl,by show(K.T x).1≠15;rw[tp];simp⟩
    ·exact .inr hx) (by show 10<=(K.T p).1;rw[tp];simp) (by show(K.T p).1<15;rw[tp];simp) (Dk.QG (T:=K.T) tp (Aj hp3 _) (hw3.set (Ab.Kq (b:=p) (o:=0) (.slice a3 n3 c3)) (fun g hg e=>by rw[show g=p from e,tp]at hg;simp at hg)))
   have I1:Bw K.T K.T w0 _:=((Bw.no K1 h0.lt).trans M2).trans s4.2;gi_wp2_with (first|(gi_at_call 272;refine(Cf _ _ k (by omega)).mono ?_;rintro e wz ⟨rfl,Kz⟩;obtain⟨w8,Ar,K8,b8⟩:=Af (x:=k) (y:=0) (f:=.nilFunc) (Kz.old (I1.old rb E8) id) rfl)|refine Ae rfl _ _ _ rfl rfl rfl Ar ?_);refine TR k 0 (by simp[results,results266,go_sem,Dz b8]) rfl ?_;exact DI (x:=k) (y:=0) h.lt K0 ((I1).then Kz) ((s4.1).no Kz) K8 (by omega) (by omega) (.inl rfl) (Gl) (QB)
 ·have f1:(0:Int)<(n:Int):=by omega
  have cs:=fun m=>SK m _ K p h0 tp
  gi_enter func266,ntmps266;gi_wp2_with (first|(gi_at_call 270;refine(cs _).mono ?_;rintro e w1 ⟨K1,xb,rfl⟩;obtain⟨a,m',c',k,Ah,w2,x,y,d1,d2,hcp,hkm,az3,Gl,QB,h2,M2,hp2,hu2,e1⟩:=main w1 K1;clear main;generalize hw0:w.alloc V_=w0 at *;obtain⟨w8,Ar,K8,b8⟩:=Af (x:=0) (y:=0) (f:=.func (.func 270) #[R_ p] #[]) (K1.old rb id) rfl;have Vl:=World.block_lt_of_cell? _ _ e1;have lp2:=Co hp2;have e2:w2.cell? (S_ p)=some (.slice a m' c'):=(Ag hp2 0).trans rfl;cases xb)|refine Ae rfl _ _ _ rfl rfl rfl Ar ?_)
  ·clear Ar K8 b8;refine BZ (P:=prog) _ rfl rfl (by kernel_rfl) 13 48 [0,1,2,3,4,5,6,7,8,9,10,11] [12] (by kernel_rfl) (by rfl)
    (J2 (On K.T fun t=>t=(15,p)) w2.drew 12 (oh K.T p) []) (EF (by simp) (by simp)) _ _ rfl rfl ?_;have cD:=fun m=>iF m w2.drew K.T p k _ (hu2.set (Ab.refl No w2).drew (fun _ _=>id)) (fun _ _ _ e=>by cases e;exact hkm)
   gi_wp2_with (gi_at_call 271;refine(cD _).mono ?_;rintro e w3 ⟨u3,rfl,_,_⟩);refine⟨rfl,by kernel_rfl,Dg,?_,?_,?_⟩
   ·intro L' u W hI;have d1:=(hI.1.cell (w:=w2.drew) (p:=(S_ e0)) Vl (by unfold On;rw[te];simp)).trans e1;have d2:=(hI.1.cell (w:=w2.drew) (p:=(S_ p)) lp2 (by unfold On;rw[tp];simp)).trans e2
    repeat' (refine Ao ?_ ?_)
    all_goals first|exact trivial|gi_wp2
   ·intro i hi L' u W hI Nf hu;obtain rfl:i=12:=(by simpa using hi);obtain rfl:=hI.2.1 Nf;refine Bh rfl fun KK Ko=>?_
    show wpListIn NF m prog _ _ _ (Act.put _ (some 43) (u 12)) _;gi_wp2_with (gi_at_call 271;refine(cD _).mono ?_;rintro e w3 ⟨u3,rfl,hP3,K3⟩);exact⟨_,rfl,EG hI (by simp) K3 hP3⟩
   ·intro L' u W hI hL;obtain⟨⟨a3,n3,c3,e12⟩,hw3⟩:=hI.2.2.1 (hL 12 (by simp));show wpListIn NF m prog _ _ _ (Act.put _ (some 43) (u 12)) _;rw[e12];rw[e12]at hw3;have K3:Ab (On K.T fun t=>t=(15,p)) w2 W:=(Ab.refl _ w2).drew.then hI.1;have hp3:=K3.old hp2 (by unfold On;rw[tp];simp);have q3:W.cell? (S_ p)=some _:=(Ag hp3 0).trans rfl;have z3:=BF hp3 0;have e1':=(K3.cell (p:=(S_ e0)) Vl (by unfold On;rw[te];simp)).trans e1;gi_wp2_with fail;have K4:Ab (fun x=>x=p\/K.T x=(15,p)) w2 (W.setCell (S_ p) (.slice a3 n3 c3)):=(K3.mono fun x _ e=>.inr e).setCell _ fun _=>.inl rfl
    have s4:=AQ.WU (b0:=p) h2 K4 (fun x hx=>by
     rcases hx with rfl|hx
     ·exact .inl ⟨rfl,by show(K.T x).1≠15;rw[tp];simp⟩
     ·exact .inr hx) (by show 10<=(K.T p).1;rw[tp];simp) (by show(K.T p).1<15;rw[tp];simp) (Dk.QG (T:=K.T) tp (Aj hp3 _) (hw3.set (Ab.Kq (b:=p) (o:=0) (.slice a3 n3 c3)) (fun g hg e=>by rw[show g=p from e,tp]at hg;simp at hg)))
    have I1:Bw K.T K.T w0 _:=((Bw.no K1 h0.lt).trans M2).trans s4.2;gi_wp2_with (first|(gi_at_call 272;refine(Cf _ _ k (by omega)).mono ?_;rintro e wz ⟨rfl,Kz⟩;obtain⟨w8,Ar,K8,b8⟩:=Af (x:=k) (y:=0) (f:=.nilFunc) (Kz.old (I1.old rb E8) id) rfl)|refine Ae rfl _ _ _ rfl rfl rfl Ar ?_);refine TR k 0 (by simp[results,results266,go_sem,Dz b8]) rfl ?_;exact DI (x:=k) (y:=0) h.lt K0 ((I1).then Kz) ((s4.1).no Kz) K8 (by omega) (by omega) (.inl rfl) (Gl) (QB)
  ·have jd:w8.cell? (S_ w.heap.size)=some (.int .u16 0):=bce b8 rfl;have jc:w8.cell? (T_ w.heap.size 1)=some (.int .u16 0):=bce b8 rfl;have ja:w8.cell? (T_ w.heap.size 2)=some (.func (.func 270) #[R_ p] #[]):=bce b8 rfl;refine bodyPost_ret (v:=.agg #[.int .u16 0,.int .u16 0,.func (.func 270) #[R_ p] #[]]) (by simp[results,results266,go_sem,jd,jc,ja]) rfl ?_;exact DI (x:=0) (y:=0) (Ah:=r.Ah) h.lt K0 (Bw.no K1 h0.lt) (by rw[EJ hb];exact h0.no K1) K8 (by omega) (by omega) (.inr (.inr ⟨p,.inl rfl,tp⟩)) rfl hI
end
theorem Dk.IY {T T':Tag} {op:Nat->Nat} {Q N:Nat×Nat->Prop} {w w':World} {kb b:Nat} (h:Dk T op w kb b) (M:Ct T T' Q N w w') (hw:¬Q (15,b)) (hQ:∀t,Q t->t.1<10\/t.1=15) (hN:∀t,N t->t.1<10\/t.1=15):Dk T' op w' kb b:=by
 have q:∀k c,10<=k->k<15->¬Q (k,c):=fun k c h1 h2 e=>by have:=hQ _ e;simp at this;omega
 have n:∀k c,10<=k->k<15->¬N (k,c):=fun k c h1 h2 e=>by have:=hN _ e;simp at this;omega
 refine⟨fun e=>?_,fun e=>?_,fun c e=>?_,fun e=>?_,fun e=>?_⟩
 ·have e:=M.back e (by simp) (n _ _ (by omega) (by omega));obtain⟨x,a1,a2⟩:=h.file e;exact⟨x,M.blk a1 e (q _ _ (by omega) (by omega)),a2.IY M hw⟩
 ·have e:=M.back e (by simp) (n _ _ (by omega) (by omega));obtain⟨x,y,z,a1,a2⟩:=h.pipe e;exact⟨x,y,z,M.blk a1 e (q _ _ (by omega) (by omega)),a2.IY M hw⟩
 ·have e:=M.back e (by simp) (n _ _ (by omega) (by omega));obtain⟨n,a1,a2,a3⟩:=h.Fs c e;exact⟨n,M.blk a1 e (q _ _ (by omega) (by omega)),M.tag a2 (by simp),a3⟩
 ·have e:=M.back e (by simp) (n _ _ (by omega) (by omega));obtain⟨x,a1,a2⟩:=h.rend e;exact⟨x,M.blk a1 e (q _ _ (by omega) (by omega)),M.tag a2 (by simp)⟩
 ·have e:=M.back e (by simp) (n _ _ (by omega) (by omega));obtain⟨x,a1,a2⟩:=h.Oo e;exact⟨x,M.blk a1 e (q _ _ (by omega) (by omega)),M.tag a2 (by simp)⟩
theorem AQ.setW {K:KS} {T':Tag} {w W:World} {p i:Nat} {v:Value} (h:AQ K w) (t1:10<=(K.T p).1) (t2:(K.T p).1<15) (M:Ct K.T T' (fun t=>t=(15,p)) (fun t=>t=(15,p)) w W) (hp:Dk T' K.op (W.setCell (T_ p i) v) K.kb p):AQ { K with T:=T' } (W.setCell (T_ p i) v)/\Bw K.T T' w (W.setCell (T_ p i) v):=by
 obtain⟨ks,hk,hc⟩:=h.k;have tp':T' p=K.T p:=Ct.old M p (by intro e;rw[e]at t1;simp at t1);have hK:Ab (At p) W (W.setCell (T_ p i) v):=(Ab.refl _ _).setCell _ fun _=>rfl
 have K2:Ab (On K.T fun t=>t=(1,0)\/t=(5,0)\/10<=t.1) w (W.setCell (T_ p i) v):=(M.keep.on fun k _ e=>.inr (.inr (by rw[show K.T k=(15,p)from e];simp))).trans hK fun k _ e=>by subst e;exact .inr (.inr t1)
 have BC:∀b,(W.setCell (T_ p i) v).heap.size<=b->T' b=(0,0):=fun b hb=>M.lt b (Nat.le_trans hK.size hb)
 have MM:Ct K.T T' (fun t=>t=(1,0)\/t=(5,0)\/10<=t.1) (fun t=>t=(5,0)\/10<=t.1) w (W.setCell (T_ p i) v):=⟨K2,Ct.old M,fun b h1 h2=>.inr (by rw[Ct.new M b h1 h2];simp),BC,M.fresh⟩;have M':Ct K.T T' (fun t=>10<=t.1) (fun t=>10<=t.1) w (W.setCell (T_ p i) v):=⟨(M.keep.on fun k _ e=>by rw[show K.T k=(15,p)from e];simp).trans hK fun k _ e=>by subst e;exact t1,Ct.old M,fun b h1 h2=>by rw[Ct.new M b h1 h2];simp,BC,M.fresh⟩;have hkp:K.kb≠p:=fun e=>by rw[<-e,h.tk]at t1;simp at t1
 refine⟨h.TP (ks':=ks) MM (M'.blk hk h.tk (by simp)) (hc.IY M' (by simp)) (Uw.of fun b=>?_),MM.Qb ?_⟩
 ·by_cases e:b=p
  ·subst e;exact hp
  ·refine((h.fl.one b).IY M (by simpa using e) (by rintro t rfl;simp) (by rintro t rfl;simp)).keep hK e fun g hg e'=>?_
   rw[show g=p from e',tp']at hg;rw[hg]at t2;simp at t2
 ·rintro t (rfl|rfl|h)<;>try simp
  rintro rfl;simp at h
def OY (T:Tag) (w:World) (p M:Nat) (v:Value) (W:World):Prop:=v=.slice none 0 0\/∃g c ws,v=.slice (some (S_ g)) ws.length c/\Rw 123 1 W g ws.length c (Aq ws)/\ws.length<=M/\(∀x∈ws,x<65536)/\(T g=(15,p)\/w.heap.size<=g)
theorem ad7 {w:World} {a:Addr} {m c:Nat} {ys:List Nat} {ty:TypeId} (hl:ys.length=m) (hm:1<=m) (hsrc:∀j v,(Aq ys)[j]?=some v->w.cell? (a.add j)=some v) (hsm:m<=1000):∃cap w',(Builtin.append_ #[116,116] ty #[.slice none 0 0,.slice (some a) m c]).run prog w=.ok (.slice (some (S_ w.heap.size)) m cap) w'/\Rw 123 1 w' w.heap.size m cap (Aq ys)/\Ab No w w':=by
 obtain⟨ii,hi,hz,hs,hby⟩:=He.parts;have hwl:(Aq ys).length=m:=by simp[Aq,hl]
 have Fq:=run_append_nil (P:=prog) w 116 ty 123 ii (.int .u16 0) He.und hi hz a m c (Aq ys) (by rw[hs,hwl];simp) hsrc (by omega) (by omega) (by rw[hby];omega);have yP:m<=maxLen:=by simp only[maxLen];omega
 have hge:=grownCap_ge w m 0 123;refine⟨_,_,Fq,⟨⟨_,heap_alloc_new rfl,?_,?_⟩,hge,grownCap_le_maxLen w m 0 123 yP,by rw[hwl];omega,Dr ys⟩,(Ab.refl No w).drew.alloc _⟩
 ·simp only[Array.size_append,List.size_toArray,size_zeroCells,He.zs,hwl];omega
 ·simp only[Array.toList_append];have:m*1=(Aq ys).length:=by rw[hwl];omega
  rw[this];exact List.take_left
theorem yu {w:World} {a d:Option Addr} {n c c2:Nat} {ty:TypeId} (h:n<=c):(Builtin.append_ #[116,116] ty #[.slice a n c,.slice d 0 c2]).run prog w=.ok (.slice a n c) w:=by
 obtain⟨ii,hi,hz,hs,hby⟩:=He.parts;cases a<;>cases d<;>simp[Builtin.append_,run_underlying He.und,Builtin.lenOf,Builtin.firstCells,sizeOf,typeInfo,hi,h,storeCells,loadCells,loadCellsFrom]
theorem appW {T:Tag} {w:World} {p M M' n c k cS:Nat} {a d:Option Addr} {ys:List Nat} {ty:TypeId} (hu:OP T w p M (.slice a n c)) (hM:M<=M') (hk:ys.length=k) (hy:∀x∈ys,x<65536) (hd:k=0\/∃ad,d=some ad/\∀j v,(Aq ys)[j]?=some v->w.cell? (ad.add j)=some v) (Dp:n+k<=M') (hM1:M'<=1000):∃v W,(Builtin.append_ #[116,116] ty #[.slice a n c,.slice d k cS]).run prog w=.ok v W/\OY T w p M' v W/\Ab (On T fun t=>t=(15,p)) w W:=by
 by_cases hz:k=0
 ·subst hz;rcases hu with e|⟨g,c',ws,e,hR,h1,h2,h3⟩
  ·cases e;exact⟨_,_,yu (Nat.le_refl _),.inl rfl,Ab.refl _ _⟩
  ·cases e;exact⟨_,_,yu hR.le,.inr ⟨g,c,ws,rfl,hR,Nat.le_trans h1 hM,h2,.inl h3⟩,Ab.refl _ _⟩
 ·obtain⟨ad,rfl,hs⟩:=hd.resolve_left hz;rcases hu with e|⟨g,c',ws,e,hR,h1,h2,h3⟩
  ·cases e;obtain⟨cap,w',hr,Fb,hK⟩:=ad7 (ty:=ty) (c:=cS) hk (by omega) hs (by omega);exact⟨_,_,hr,.inr ⟨w.heap.size,cap,ys,by rw[hk],by rw[hk];exact Fb,by omega,hy,.inr (Nat.le_refl _)⟩,hK.no⟩
  ·cases e;have hwl:(Aq ys).length=k*1:=(by simp[Aq,hk]);obtain⟨g',BK,w',hr,Fb,hg⟩:=WV (ty:=ty) (sCap:=cS) He hR hwl hs (Dr ys) (by omega) (by omega);have el:(ws++ys).length=ws.length+k:=(by rw[List.length_append,hk]);refine⟨_,_,hr,.inr ⟨g',BK,ws++ys,by rw[el],by rw[el];simpa [Aq]using Fb,by omega,fun x hx=>?_,?_⟩,?_⟩
   ·rcases List.mem_append.1 hx with hx|hx
    ·exact h2 x hx
    ·exact hy x hx
   ·rcases hg with⟨rfl,_⟩|⟨rfl,_⟩
    ·exact .inl h3
    ·exact .inr (Nat.le_refl _)
   ·rcases hg with⟨rfl,hK⟩|⟨rfl,hK⟩
    ·exact hK.on fun x _ e=>by subst e;exact h3
    ·exact hK.no
theorem OY.IY {T:Tag} {w W:World} {p M:Nat} {v:Value} (h:OY T w p M v W) (hK:Ab (On T fun t=>t=(15,p)) w W) (hl:∀b,w.heap.size<=b->T b=(0,0)):∃T',Ct T T' (fun t=>t=(15,p)) (fun t=>t=(15,p)) w W/\OP T' W p M v:=by
 rcases h with rfl|⟨g,c,ws,rfl,hR,h1,h2,h3⟩
 ·exact⟨T,Ct.of hK hl,.inl rfl⟩
 ·exact⟨A8 T g (15,p),Ct.row hK hl h3 hR.lt rfl,.inr ⟨g,c,ws,rfl,hR,h1,h2,BB⟩⟩
end Go.Fxa
