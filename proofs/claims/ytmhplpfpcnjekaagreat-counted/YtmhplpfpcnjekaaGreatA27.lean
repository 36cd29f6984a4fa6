/- A file with a place: Seek, Rea -/
import Derived.Test.YtmhplpfpcnjekaaGreatA26
namespace Go.Fxa
open Conc Proofs RowKit Proofs.Tryz
set_option maxRecDepth 1000000
set_option maxHeartbeats 0
section
variable (m:Nat) (w:o_)
theorem Ϧ (K:KS) (b e0 f pl:Nat) (h:AV K w) (te:K.T e0=(12,f)) (hpl:pl<65536):
  P_ m 278 #[R_ e0,b_ (pl:Nat)] w (WritePost K b w):=by
 obtain⟨g,q,o⟩:=HY w;have c:=h.no g;have r:K.T w.heap.size=(0,0):=h.lt _ (w_ _);obtain⟨n,k,v,s⟩:=c.fl.GL e0 f te;have d2:(w.alloc V_).cell? (T_ e0 2)=some (b_ n):=(Af k 2).trans rfl;have B:=BO k 2;by_cases u:64<pl
 .have t:(64:Int)<(pl:Int):=by omega
  gi_enter func278,ntmps278;gi_wp2_with fail;gi_wp2_with (first|(gi_at_call 273;refine(fw8 13 q _).mono ?_;rintro e A ⟨rfl,a,z,d,i,j⟩)|refine En d ?_);refine TR 0 13 (by simp[results,results278,go_sem,EF j]) rfl ?_;exact Dp (T':=K.T) (x:=0) (y:=13) h.lt g o (((BM.no (p_ No _) c.lt)).then a) ((c).no a) i (by omega) (by omega) (.inl rfl)
 .have t:¬(64:Int)<(pl:Int):=by omega
  gi_enter func278,ntmps278;gi_wp2_with fail;have l:=AV.PG (p:=e0) (w':=(w.alloc V_).setCell (T_ e0 2) (b_ (pl:Nat))) c ((p_ _ _).setCell _ λ_=>rfl) (by rw[te];simp) (by rw[te];simp) (by rw[te];simp) (FOne.Jd te (Ah k _) v (by omega));gi_wp2_with (first|(gi_at_call 272;refine(Dh _ _ 0 (by omega)).mono ?_;rintro e A ⟨rfl,a⟩;obtain⟨z,d,i,j⟩:=Ap (x:=0) (y:=0) (f:=.nilFunc) (a.old (l.2.old q r) id) rfl)|refine En d ?_);refine TR 0 0 (by simp[results,results278,go_sem,EF j]) rfl ?_;exact Dp (T':=K.T) (x:=0) (y:=0) h.lt g o ((l.2).then a) ((l.1).no a) i (by omega) (by omega) (.inl rfl)
theorem gz (K:KS) (b e0 f:Nat) (r:PR) (v:n_) (h:AV K w) (hb:K.ps b=some r) (hn:r.en=false) (hI:∀z∈r.Ag,z<65536) (te:K.T e0=(12,f)) (hv:Jr r v):
  P_ m 277 #[R_ e0,v] w (WZ K b r w):=by
 obtain⟨L,P,_⟩:=HY w;have M:=h.no L;have O:K.T w.heap.size=(0,0):=h.lt _ (w_ _);obtain⟨d0,n,rfl⟩:∃d n,v=.slice d n n:=by
  obtain rfl|⟨g,c,o,n,_,rfl,_⟩:=hv
  .exact⟨none,0,rfl⟩
  .exact⟨_,n,rfl⟩
 obtain⟨q,I,N,bd2⟩:=M.fl.GL e0 f te;obtain⟨u,hf,hu⟩:=M.fl.file f N;have d1:(w.alloc V_).cell? (T_ e0 1)=some (R_ f):=(Af I 1).trans rfl;have d2:(w.alloc V_).cell? (T_ e0 2)=some (b_ q):=(Af I 2).trans rfl;have d3:(w.alloc V_).cell? (S_ f)=some u:=(Af hf 0).trans rfl;obtain rfl|⟨g,c,ws,rfl,hR,hw64,hwx,tg⟩:=hu
 .obtain⟨w2,k,Ag,U,W,_,E,G,H,F,l⟩:=Js (ty:=3) (a:=none) (CX:=0) (sCap:=0) (ws:=[]) M hb hn hI hv (by simp) rfl (λV e=>by cases e) (λ_=>rfl);obtain rfl:k=0:=by omega
  by_cases Y:q=0
  .subst Y;simp only[Int.natCast_zero]at d2 I;have e2:w2.cell? (T_ e0 2)=some (b_ 0):=(l.cell (World.block_lt_of_cell? _ _ d2) (by unfold On;rw[te];simp)).trans d2;have i:=l.old I (by unfold On;rw[te];simp);have S:=BO i 2;have t:=AV.PG (p:=e0) (w':=w2.setCell (T_ e0 2) (b_ 0)) H ((p_ _ _).setCell _ λ_=>rfl) (by show 10<=(K.T e0).1;rw[te];simp) (by show(K.T e0).1<15;rw[te];simp) (by show(K.T e0).1≠10;rw[te];simp) (FOne.Jd (T:=K.T) (n:=0) te (Ah i _) N (by omega));gi_enter func277,ntmps277;gi_wp2_with fail;have A:BM K.T K.T (w.alloc V_) _:=F.trans t.2;gi_wp2_with (first|(gi_at_call 272;refine(Dh _ _ 0 (by omega)).mono ?_;rintro e R ⟨rfl,s⟩;obtain⟨Q,B,C,D⟩:=Ap (x:=0) (y:=0) (f:=.nilFunc) (s.old (A.old P O) id) rfl)|refine En B ?_);refine TR 0 0 (by simp[results,results277,go_sem,EF D]) rfl ?_;exact EI (x:=0) (y:=0) h.lt L ((A).then s) ((t.1).no s) C (by omega) (by omega) (.inl rfl) (E) (G)
  .have f1:(0:Int)<(q:Int):=(by omega);have e2:w2.cell? (T_ e0 2)=some (b_ q):=(l.cell (World.block_lt_of_cell? _ _ d2) (by unfold On;rw[te];simp)).trans d2;have i:=l.old I (by unfold On;rw[te];simp);have S:=BO i 2;have t:=AV.PG (p:=e0) (w':=w2.setCell (T_ e0 2) (b_ (q:Nat))) H ((p_ _ _).setCell _ λ_=>rfl) (by show 10<=(K.T e0).1;rw[te];simp) (by show(K.T e0).1<15;rw[te];simp) (by show(K.T e0).1≠10;rw[te];simp) (FOne.Jd (T:=K.T) (n:=q) te (Ah i _) N (by omega));gi_enter func277,ntmps277;gi_wp2_with fail;have A:BM K.T K.T (w.alloc V_) _:=F.trans t.2;gi_wp2_with (first|(gi_at_call 272;refine(Dh _ _ 0 (by omega)).mono ?_;rintro e R ⟨rfl,s⟩;obtain⟨Q,B,C,D⟩:=Ap (x:=0) (y:=0) (f:=.nilFunc) (s.old (A.old P O) id) rfl)|refine En B ?_);refine TR 0 0 (by simp[results,results277,go_sem,EF D]) rfl ?_;exact EI (x:=0) (y:=0) h.lt L ((A).then s) ((t.1).no s) C (by omega) (by omega) (.inl rfl) (E) (G)
 .have hle:=hR.le;by_cases BI:q<ws.length
  .have f1:(q:Int)<(ws.length:Int):=(by omega);have f2:¬c=q:=(by omega);obtain⟨w2,k,Ag,U,W,_,E,G,H,F,l⟩:=Js (ty:=3) (a:=some (T_ g q)) (CX:=ws.length-q) (sCap:=c-q) (ws:=ws.drop q) M hb hn hI hv (λx hx=>hwx x (List.mem_of_mem_drop hx)) (by simp) (λV e j u J=>by
    cases e
    have MK:((T_ g q):f_).add j=(T_ g (q+j)):=by unfold Addr.add;split<;>simp_all
    have X:=(LQ.1 J).1
    simp only[Az,List.length_map,List.length_drop]at X
    rw[MK,hR.cell (by omega)]
    simpa [Az,List.map_drop,List.getElem?_drop]using J) (λe=>by cases e);have e2:w2.cell? (T_ e0 2)=some (b_ q):=(l.cell (World.block_lt_of_cell? _ _ d2) (by unfold On;rw[te];simp)).trans d2;have i:=l.old I (by unfold On;rw[te];simp);have S:=BO i 2;have t:=AV.PG (p:=e0) (w':=w2.setCell (T_ e0 2) (b_ ((q+k:Nat):Int))) H ((p_ _ _).setCell _ λ_=>rfl) (by show 10<=(K.T e0).1;rw[te];simp) (by show(K.T e0).1<15;rw[te];simp) (by show(K.T e0).1≠10;rw[te];simp) (FOne.Jd (T:=K.T) (n:=q+k) te (Ah i _) N (by omega));have ev:((q+k:Nat):Int)=(q:Int)+k:=(by omega);rw[ev]at t;gi_enter func277,ntmps277;gi_wp2_with fail;have A:BM K.T K.T (w.alloc V_) _:=F.trans t.2;gi_wp2_with (first|(gi_at_call 272;refine(Dh _ _ k (by omega)).mono ?_;rintro e R ⟨rfl,s⟩;obtain⟨Q,B,C,D⟩:=Ap (x:=k) (y:=0) (f:=.nilFunc) (s.old (A.old P O) id) rfl)|refine En B ?_);refine TR k 0 (by simp[results,results277,go_sem,EF D]) rfl ?_;exact EI (x:=k) (y:=0) h.lt L ((A).then s) ((t.1).no s) C (by omega) (by omega) (.inl rfl) (E) (G)
  .obtain Z|hpl:=(by omega:q=ws.length\/ws.length<q)
   .subst Z;by_cases hc:c=ws.length
    .obtain⟨w2,k,Ag,U,W,_,E,G,H,F,l⟩:=Js (ty:=3) (a:=some (S_ g)) (CX:=0) (sCap:=0) (ws:=[]) M hb hn hI hv (by simp) rfl (λV e j u J=>by simp[Az]at J) (λe=>by cases e);obtain rfl:k=0:=(by omega);have e2:w2.cell? (T_ e0 2)=some (b_ ws.length):=(l.cell (World.block_lt_of_cell? _ _ d2) (by unfold On;rw[te];simp)).trans d2;have i:=l.old I (by unfold On;rw[te];simp);have S:=BO i 2;have t:=AV.PG (p:=e0) (w':=w2.setCell (T_ e0 2) (b_ (ws.length:Nat))) H ((p_ _ _).setCell _ λ_=>rfl) (by show 10<=(K.T e0).1;rw[te];simp) (by show(K.T e0).1<15;rw[te];simp) (by show(K.T e0).1≠10;rw[te];simp) (FOne.Jd (T:=K.T) (n:=ws.length) te (Ah i _) N (by omega));gi_enter func277,ntmps277;gi_wp2_with fail;have A:BM K.T K.T (w.alloc V_) _:=F.trans t.2;gi_wp2_with (first|(gi_at_call 272;refine(Dh _ _ 0 (by omega)).mono ?_;rintro e R ⟨rfl,s⟩;obtain⟨Q,B,C,D⟩:=Ap (x:=0) (y:=0) (f:=.nilFunc) (s.old (A.old P O) id) rfl)|refine En B ?_);refine TR 0 0 (by simp[results,results277,go_sem,EF D]) rfl ?_;exact EI (x:=0) (y:=0) h.lt L ((A).then s) ((t.1).no s) C (by omega) (by omega) (.inl rfl) (E) (G)
    .obtain⟨w2,k,Ag,U,W,_,E,G,H,F,l⟩:=Js (ty:=3) (a:=some (T_ g ws.length)) (CX:=0) (sCap:=c-ws.length) (ws:=[]) M hb hn hI hv (by simp) rfl (λV e j u J=>by simp[Az]at J) (λe=>by cases e);obtain rfl:k=0:=(by omega);have e2:w2.cell? (T_ e0 2)=some (b_ ws.length):=(l.cell (World.block_lt_of_cell? _ _ d2) (by unfold On;rw[te];simp)).trans d2;have i:=l.old I (by unfold On;rw[te];simp);have S:=BO i 2;have t:=AV.PG (p:=e0) (w':=w2.setCell (T_ e0 2) (b_ (ws.length:Nat))) H ((p_ _ _).setCell _ λ_=>rfl) (by show 10<=(K.T e0).1;rw[te];simp) (by show(K.T e0).1<15;rw[te];simp) (by show(K.T e0).1≠10;rw[te];simp) (FOne.Jd (T:=K.T) (n:=ws.length) te (Ah i _) N (by omega));gi_enter func277,ntmps277;gi_wp2_with fail;have A:BM K.T K.T (w.alloc V_) _:=F.trans t.2;gi_wp2_with (first|(gi_at_call 272;refine(Dh _ _ 0 (by omega)).mono ?_;rintro e R ⟨rfl,s⟩;obtain⟨Q,B,C,D⟩:=Ap (x:=0) (y:=0) (f:=.nilFunc) (s.old (A.old P O) id) rfl)|refine En B ?_);refine TR 0 0 (by simp[results,results277,go_sem,EF D]) rfl ?_;exact EI (x:=0) (y:=0) h.lt L ((A).then s) ((t.1).no s) C (by omega) (by omega) (.inl rfl) (E) (G)
   .have f1:(ws.length:Int)<(q:Int):=(by omega);by_cases hc:c=ws.length
    .obtain⟨w2,k,Ag,U,W,_,E,G,H,F,l⟩:=Js (ty:=3) (a:=some (S_ g)) (CX:=0) (sCap:=0) (ws:=[]) M hb hn hI hv (by simp) rfl (λV e j u J=>by simp[Az]at J) (λe=>by cases e);obtain rfl:k=0:=(by omega);have e2:w2.cell? (T_ e0 2)=some (b_ q):=(l.cell (World.block_lt_of_cell? _ _ d2) (by unfold On;rw[te];simp)).trans d2;have i:=l.old I (by unfold On;rw[te];simp);have S:=BO i 2;have t:=AV.PG (p:=e0) (w':=w2.setCell (T_ e0 2) (b_ (q:Nat))) H ((p_ _ _).setCell _ λ_=>rfl) (by show 10<=(K.T e0).1;rw[te];simp) (by show(K.T e0).1<15;rw[te];simp) (by show(K.T e0).1≠10;rw[te];simp) (FOne.Jd (T:=K.T) (n:=q) te (Ah i _) N (by omega));gi_enter func277,ntmps277;gi_wp2_with fail;have A:BM K.T K.T (w.alloc V_) _:=F.trans t.2;gi_wp2_with (first|(gi_at_call 272;refine(Dh _ _ 0 (by omega)).mono ?_;rintro e R ⟨rfl,s⟩;obtain⟨Q,B,C,D⟩:=Ap (x:=0) (y:=0) (f:=.nilFunc) (s.old (A.old P O) id) rfl)|refine En B ?_);refine TR 0 0 (by simp[results,results277,go_sem,EF D]) rfl ?_;exact EI (x:=0) (y:=0) h.lt L ((A).then s) ((t.1).no s) C (by omega) (by omega) (.inl rfl) (E) (G)
    .obtain⟨w2,k,Ag,U,W,_,E,G,H,F,l⟩:=Js (ty:=3) (a:=some (T_ g ws.length)) (CX:=0) (sCap:=c-ws.length) (ws:=[]) M hb hn hI hv (by simp) rfl (λV e j u J=>by simp[Az]at J) (λe=>by cases e);obtain rfl:k=0:=(by omega);have e2:w2.cell? (T_ e0 2)=some (b_ q):=(l.cell (World.block_lt_of_cell? _ _ d2) (by unfold On;rw[te];simp)).trans d2;have i:=l.old I (by unfold On;rw[te];simp);have S:=BO i 2;have t:=AV.PG (p:=e0) (w':=w2.setCell (T_ e0 2) (b_ (q:Nat))) H ((p_ _ _).setCell _ λ_=>rfl) (by show 10<=(K.T e0).1;rw[te];simp) (by show(K.T e0).1<15;rw[te];simp) (by show(K.T e0).1≠10;rw[te];simp) (FOne.Jd (T:=K.T) (n:=q) te (Ah i _) N (by omega));gi_enter func277,ntmps277;gi_wp2_with fail;have A:BM K.T K.T (w.alloc V_) _:=F.trans t.2;gi_wp2_with (first|(gi_at_call 272;refine(Dh _ _ 0 (by omega)).mono ?_;rintro e R ⟨rfl,s⟩;obtain⟨Q,B,C,D⟩:=Ap (x:=0) (y:=0) (f:=.nilFunc) (s.old (A.old P O) id) rfl)|refine En B ?_);refine TR 0 0 (by simp[results,results277,go_sem,EF D]) rfl ?_;exact EI (x:=0) (y:=0) h.lt L ((A).then s) ((t.1).no s) C (by omega) (by omega) (.inl rfl) (E) (G)
end
theorem ug {K:KS} {w:o_} (h:AV K w):∃es:X_,(Instr.loadAt 102 (.pointer (some (T_ K.kb 4)))).run prog w=.ok (.agg es) w/\∀i,i<16->∀w,(Instr.index 102 (.agg es) (b_ (i:Nat))).run prog w=.ok (XX (K.nm i)) w:=by
 obtain⟨a,r,d⟩:=h.k;have t:20<a.size:=by
  obtain⟨_,h,_⟩:=d.nl
  exact(y_.1 h).1
 have c:((a.toList.drop 4).take 16).length=16:=by simp;omega
 have g:=run_loadCells_list (P:=prog) w (T_ K.kb 4) ((a.toList.drop 4).take 16) (λj v b=>by
  have m:((T_ K.kb 4):f_).add j=(T_ K.kb (4+j)):=by unfold Addr.add;split<;>simp_all
  rw[m,Af r]
  rw[List.getElem?_take]at b
  split at b
  .simpa using b
  .cases b)
 rw[c]at g;have a1:∀w,(isAgg 102).run prog w=.ok true w:=λw=>by kernel_rfl
 have a2:∀w,(sizeOf 102).run prog w=.ok 16 w:=λw=>by kernel_rfl
 have n:∀w,(isAgg 101).run prog w=.ok false w:=λw=>by kernel_rfl
 have o:∀w,(sizeOf 101).run prog w=.ok 1 w:=λw=>by kernel_rfl
 refine⟨((a.toList.drop 4).take 16).toArray,by simp[Instr.loadAt,loadVar,Instr.sureAddr,a1,a2,g],λi f w=>?_⟩;have q:=(d.nm i f).1;have e:((a.toList.drop 4).take 16).toArray[i]?=some (XX (K.nm i)):=by
  simp only[List.getElem?_toArray,List.getElem?_take,List.getElem?_drop,Array.getElem?_toList]
  rw[if_pos f];exact q
 have p:∀w:o_,(asIntOf (b_ (i:Nat))).run prog w=.ok (.i64,(i:Int)) w:=λ_=>rfl
 have s:∀w,(underlying 102).run prog w=.ok (.array 16 101) w:=run_underlying underlying102;generalize ((a.toList.drop 4).take 16).toArray=es at e;have l:(i:Int)<16:=by omega
 simp[Instr.index,p,s,part,n,o,e,l]
theorem AV.as8 {K:KS} {w:o_} {f:Nat} {ln:Nat->Nat} (h:AV K w) (hl:∀b,K.T b=(10,0)->LenAt w b (ln b)) (tf:K.T f=(10,0)):∃a c,w.cell? (S_ f)=some (.slice a (ln f) c)/\ln f<=64:=by
 obtain⟨u,d,i⟩:=h.fl.file f tf;obtain⟨a,j,c,rfl,_,g,_⟩:=i.shape;have e:ln f=j.length:=(hl f tf).eq ⟨a,c,_,d⟩;exact⟨a,c,by rw[e];exact(Af d 0).trans rfl,by omega⟩
theorem ae {n:Nat} (h:n<=64):Aj n<=8:=by unfold Aj;omega
theorem O5 {f:Nat->Nat} {k:Nat}:BD f (List.range (k+1))=BD f (List.range k)+f k:=by
 rw[List.range_succ,OA];simp[BD]
theorem WN {ln:Nat->Nat} {nm:Nat->d_ Nat} {i:Nat} (h:nm i=none):Ot ln nm i=0:=by unfold Ot;rw[h]
theorem gJ {ln:Nat->Nat} {nm:Nat->d_ Nat} {i f:Nat} (h:nm i=some f):Ot ln nm i=Aj (ln f):=by unfold Ot;rw[h]
theorem Y3 {f:Nat->Nat} {l:List Nat} {j b:Nat} (h:l[j]?=some b):BD f (l.take (j+1))=BD f (l.take j)+f b:=by
 rw[List.take_add_one,h,OA];simp[BD]
theorem iF {K:KS} {w:o_} {f n:Nat} {ln:Nat->Nat} {y:Int} {s t:Nat} {x:Bool} (hY:Nonempty (PLift (y=(Aj n:Nat)-(Aj (ln f):Nat)+(s:Nat)+(t:Nat)))) (hs:Rx ln K.nm K.nl=s+t) (hln:∀b,K.T b=(10,0)->LenAt w b (ln b)) (hds:Nonempty (PLift (Rx ln K.nm K.nl<=40))) (hx:x=true->y<=40):nS K w f n x:=λe=>by
 obtain⟨⟨hY⟩⟩:=hY;obtain⟨⟨a⟩⟩:=hds;have:=hx e;exact⟨ln,hln,a,by omega⟩
section
variable (m:Nat) (w:o_)
theorem Xw (K:KS) (f n:Nat) (h:AV K w) (tf:K.T f=(10,0)) (hn:n<=1000) (hnl:K.nl.length<=1000):
  P_ m 281 #[.pointer (some (T_ K.kb 4)),R_ f,b_ (n:Nat)] w λe w'=>Keep No w w'/\∃x,e=.returned (.bool x)/\nS K w f n x:=by
 obtain⟨d,p,o⟩:=h.dk;obtain⟨af,cf,q0,hnf⟩:=h.as8 p tf;have E:∀{w1 l},Keep No w w1->K.T l=(10,0)->∃a c,w1.cell? (S_ l)=some (.slice a (d l) c)/\d l<=64:=λz D=>(h.no z).as8 (λb e=>(p b e).keep z id) D
 have o:=Nonempty.intro (PLift.up o);have JG:Aj n<=200:=by unfold Aj;omega
 have Hz:=ae hnf;gi_enter func281,ntmps281;gi_wp2;refine Cf (P:=prog) No _ rfl rfl (by kernel_rfl) 7 59 [0,2,3,4,5,6] [1] (by kernel_rfl) (by rfl) (λ_ v W=>v=b_ (Aj n:Nat)) (λ_ _ _ _ _ h _=>h) _ _ rfl rfl ?_;gi_wp2_with (gi_at_call 48;refine(FW _ _ _ (by omega)).mono ?_;rintro e w1 ⟨rfl,rfl⟩);refine⟨rfl,by kernel_rfl,?_,?_,?_⟩
 .intro W z;have d0:=z.has (w:=w.drew) q0
  repeat' (refine Ae ?_ ?_)
  all_goals first|exact trivial|gi_wp2
 .intro i hi u W z _;obtain rfl:i=1:=by simpa using hi
  refine Bh rfl λKK Lh=>?_
  show wpListIn NF m prog _ _ _ (Act.put _ (some 13) (u 1)) _;gi_wp2_with (gi_at_call 48;refine(FW _ _ _ (by omega)).mono ?_;rintro e w1 ⟨rfl,rfl⟩);exact⟨_,rfl,p_ _ _,rfl⟩
 .intro u W z hu;have hu:=hu 1 (by simp);show wpListIn NF m prog _ _ _ (Act.put _ (some 13) (u 1)) _;rw[hu];have KW:Keep No w W:=(p_ No w).drew.then z;have hW:=h.no KW;obtain⟨es,Z,V⟩:=ug hW;gi_wp2_with (first|(gi_at_call 48;refine(FW _ _ _ (by omega)).mono ?_;rintro e w1 ⟨rfl,rfl⟩)|refine UN rfl (.tmp 23) 102 rfl rfl Z ?_);gi_loopw [7,25] (λa i wr=>∃(k:Nat) (x:Int),k<=16/\a=b_ x/\-1000<=x/\x<=1000+10*k/\i=b_ k/\Keep No w wr/\Nonempty (PLift (x=(Aj n:Nat)-(Aj (d f):Nat)+(BD (Ot d K.nm) (List.range k):Nat)))) (λ_ i _=>16-(intOf i).toNat)
  case atStart=>exact⟨0,_,by omega,rfl,by omega,by omega,rfl,KW,⟨⟨by simp[BD]⟩⟩⟩
  case round=>
   obtain⟨k,x,hk,rfl,Kt,JF,rfl,KK,r⟩:=hrel
   by_cases BI:k<16
   .have hlt':(k:Int)<16:=(by omega);have q:=V k BI wr;have hr:=h.no KK;cases hnm:K.nm k with
    |none=>
     rw[hnm]at q
     simp only[XX]at q
     gi_wp2_with (refine Qx rfl (.tmp 24) (.tmp 25) 102 rfl rfl rfl q ?_)
     go_roundw
     case rel=>exact⟨k+1,x,by omega,rfl,by omega,by omega,by go_num,KK,⟨⟨by obtain⟨⟨r⟩⟩:=r;rw[O5,WN hnm];omega⟩⟩⟩
     case measure=>simp[intOf];omega
    |some l=>
     rw[hnm]at q
     simp only[XX,ptr]at q
     obtain⟨ks,_,R⟩:=hr.k
     have D:=(R.nm k BI).2 l hnm
     obtain⟨a',c',q',B⟩:=E KK D
     have O:=ae B
     gi_wp2_with (first|refine Qx rfl (.tmp 24) (.tmp 25) 102 rfl rfl rfl q ?_|(gi_at_call 48;refine(FW _ _ _ (by omega)).mono ?_;rintro e w1 ⟨rfl,rfl⟩))
     go_roundw
     case rel=>exact⟨k+1,_,by omega,rfl,by omega,by omega,by go_num,KK,⟨⟨by obtain⟨⟨r⟩⟩:=r;rw[O5,gJ hnm];omega⟩⟩⟩
     case measure=>simp[intOf];omega
   .obtain rfl:k=16:=(by omega);have hr:=h.no KK;obtain⟨ks,G,R⟩:=hr.k;obtain⟨v,q,hN,Q⟩:=R.nl;have q20:=(Af G 20).trans q;obtain⟨rfl,I⟩|⟨g,c,rfl,hR,tg⟩:=hN
    .gi_wp2;refine wpIn_loop_once ?_;gi_wp2
     all_goals go_ret
     all_goals exact⟨KK,_,rfl,iF (y:=x) (s:=BD (Ot d K.nm) (List.range 16)) (t:=0) (let ⟨⟨e⟩⟩:=r;⟨⟨by rw[e];simp⟩⟩) (by rw[I];rfl) p o (by simp)⟩
    .gi_wp2;gi_loopw [7,44] (λa i wr=>∃(j:Nat) (y:Int),j<=K.nl.length/\a=b_ y/\-1000<=y/\y<=2000+10*j/\i=b_ j/\Keep No w wr/\Nonempty (PLift (y=(Aj n:Nat)-(Aj (d f):Nat)+(BD (Ot d K.nm) (List.range 16):Nat)+(BD (λb=>Aj (d b)) (K.nl.take j):Nat)))) (λ_ i _=>K.nl.length-(intOf i).toNat)
     case atStart=>exact⟨0,x,by omega,rfl,by omega,by omega,rfl,KK,⟨⟨by obtain⟨⟨r⟩⟩:=r;simp[BD,r]⟩⟩⟩
     case round=>
      obtain⟨j,y,hj,rfl,hy1,hy2,rfl,C,N⟩:=hrel
      by_cases H:j<K.nl.length
      .have L:K.nl[j]?=some K.nl[j]:=Ii H;generalize K.nl[j]=l at L;have X:=h.no C;have D:=Q l (t_ L);obtain⟨a',c',q',B⟩:=E C D;have O:=ae B;obtain⟨ks2,OU,S⟩:=X.k;obtain⟨v2,hv2,hN2,_⟩:=S.nl;have A:w.cell? (T_ g j)=some (R_ l):=by
        obtain⟨ks3,Y,U⟩:=h.k
        have e3:=KK.old Y id
        rw[G]at e3
        obtain rfl:ks=ks3:=by simpa using e3
        obtain⟨v3,J,M,_⟩:=U.nl
        rw[q]at J
        cases J
        obtain⟨e,_⟩|⟨g3,c3,e,VH,_⟩:=M
        .cases e
        .cases e;rw[VH.cell (by omega)];simp[Bj,L,ptr]
       have d3:=C.has A;gi_wp2_with (gi_at_call 48;refine(FW _ _ _ (by omega)).mono ?_;rintro e w1 ⟨rfl,rfl⟩);go_roundw
       case rel=>
        have F:Nonempty (PLift (y+(Aj (d l):Nat)=(Aj n:Nat)-(Aj (d f):Nat)+(BD (Ot d K.nm) (List.range 16):Nat)+(BD (λb=>Aj (d b)) (K.nl.take (j+1)):Nat))):=⟨⟨by obtain⟨⟨N⟩⟩:=N;rw[Y3 L];omega⟩⟩
        first
        |exact⟨j+1,_,by omega,rfl,by omega,by omega,by go_num,C,F⟩
        |exact⟨_,_,.int .i64 ((j:Int)+1),_,_,_,_,_,_,_,_,_,_,_,_,⟨j+1,y+Aj (d l),by omega,rfl,by omega,by omega,by simp,C,F⟩,rfl⟩
       case measure=>simp[intOf];omega
      .obtain rfl:j=K.nl.length:=(by omega);gi_wp2
       all_goals go_ret
       all_goals exact⟨C,_,rfl,iF N (by rw[List.take_length];rfl) p o (by simp)⟩
end
theorem ac3:prog.underlying 3=some (.int .i64):=by kernel_rfl
theorem zt (m:Nat):(Builtin.zeroCells (Value.int .u16 0).cells m).toList=Az (List.replicate m 0):=by
 simp[Builtin.zeroCells,Az,Value.cells];apply List.ext_getElem?;intro j;simp[List.getElem?_map,List.getElem?_replicate];by_cases h:j<m<;>simp[h,Nat.mod_one]
section
variable {w:o_} {ty:j_} {m:Nat}
theorem asI (w:o_):(asIntOf (b_ (m:Nat))).run prog w=.ok (.i64,(m:Int)) w:=rfl
theorem wrI (h:m<=1000):IntKind.i64.wrap (m:Int)=m:=by unfold IntKind.wrap;simp[IntKind.bits,IntKind.signed];split<;>omega
theorem ap5 {a:d_ f_} {n c:Nat} (h:n<=c):(Builtin.append_ #[116,3] ty #[.slice a n c,b_ ((0:Nat):Int)]).run prog w=.ok (.slice a n c) w:=by
 obtain⟨ii,e,f,_⟩:=Jp.parts;have b:=λw=>asI (m:=0) w
 have d:=wrI (m:=0) (by omega);simp only[Int.natCast_zero]at b d ⊢;cases a<;>simp[Builtin.append_,run_underlying Jp.und,run_underlying ac3,sizeOf,typeInfo,zeroValue,e,f,Builtin.lenOf,h,asInt,b,d,storeCells]
theorem ab7 {g n c:Nat} {cur:X_} {T:j_} (hg:w.heap[g]?=some (O_ cur T)) (hm:1<=m) (hm':m<=1000) (hroom:n+m<=c) (Eo:n+m<=cur.size):(Builtin.append_ #[116,3] ty #[Q_ g n c,b_ (m:Nat)]).run prog w=.ok (Q_ g (n+m) c) (w.setRow g (QV cur.toList n (Az (List.replicate m 0))).toArray):=by
 obtain⟨ii,l,p,o,a⟩:=Jp.parts;have j:=λw=>asI (m:=m) w
 have k:=wrI (m:=m) hm';have d:¬((m:Int)<0):=by omega
 have e:¬(281474976710656<(m:Int)*(ii.bytes:Int)):=by rw[a];omega
 have b:¬m=0:=by omega
 have h:=run_storeCells_at prog g n T (Az (List.replicate m 0)) 0 cur w hg (by simp[Az];omega) (Et _);simp only[Nat.add_zero]at h;have i:((S_ g):f_).add n=(T_ g n):=by unfold Addr.add;split<;>simp_all
 have f:=zt m;simp[Builtin.append_,run_underlying Jp.und,run_underlying ac3,sizeOf,typeInfo,zeroValue,l,p,o,Builtin.lenOf,hroom,e,d,b,asInt,j,k,i,f,h,QV]
theorem am1 (hm:1<=m) (hm':m<=1000):(Builtin.append_ #[116,3] ty #[.slice none 0 0,b_ (m:Nat)]).run prog w=.ok (Q_ w.heap.size m (grownCap w m 0 123)) (w.drew.alloc (.cells ((Builtin.zeroCells (Value.int .u16 0).cells m)++Builtin.zeroCells (Value.int .u16 0).cells (grownCap w m 0 123-m)) 123)):=by
 obtain⟨ii,i,k,j,c⟩:=Jp.parts;have g:=λw=>asI (m:=m) w
 have h:=wrI (m:=m) hm';have e:¬((m:Int)<0):=by omega
 have f:¬(281474976710656<(m:Int)*(ii.bytes:Int)):=by rw[c];omega
 have d:¬m=0:=by omega
 have b:¬(9223372036854775807<(m:Int)):=by omega
 have a:¬(281474976710656<Builtin.nextslicecap m 0*ii.bytes):=by rw[nextslicecap_zero (by omega),c];omega
 simp[Builtin.append_,run_underlying Jp.und,run_underlying ac3,sizeOf,typeInfo,zeroValue,i,k,j,Builtin.lenOf,f,e,d,b,a,asInt,g,h,Question.forced,run_firstCells_none,newRow,grownCap]
end
theorem bg3 {T:Tag} {w:o_} {p M M' n c m:Nat} {a:d_ f_} {ty:j_} (hu:Sj T w p M (.slice a n c)) (hM:M<=M') (Eo:n+m<=M') (hM1:M'<=1000):∃v W,(Builtin.append_ #[116,3] ty #[.slice a n c,b_ (m:Nat)]).run prog w=.ok v W/\PostA T w p M' v W/\(∃a' c',v=.slice a' (n+m) c')/\Keep (On T λt=>t=(15,p)) w W:=by
 by_cases J:m=0
 .subst J;obtain e|⟨g,c',b,e,h,C,y,u⟩:=hu
  .cases e;exact⟨_,_,ap5 (w_ _),.inl rfl,⟨_,_,rfl⟩,p_ _ _⟩
  .cases e;exact⟨_,_,ap5 h.le,.inr ⟨g,c,b,rfl,h,Nat.le_trans C hM,y,.inl u⟩,⟨_,_,rfl⟩,p_ _ _⟩
 .have d:(List.replicate m 0).length=m:=List.length_replicate;obtain e|⟨g,c',b,e,h,C,y,u⟩:=hu
  .cases e;have z:=grownCap_ge w m 0 123;have A:m<=maxLen:=(by simp only[maxLen];omega);refine⟨_,_,am1 (by omega) (by omega),.inr ⟨w.heap.size,grownCap w m 0 123,List.replicate m 0,by rw[d],⟨⟨_,heap_alloc_new rfl,?_,?_⟩,by rw[d];exact z,grownCap_le_maxLen w m 0 123 A,by simp[Az],Et _⟩,by rw[d];omega,λx f=>?_,.inr (w_ _)⟩,⟨_,_,by rw[Nat.zero_add]⟩,((p_ No w).drew.alloc _).no⟩
   .simp only[Array.size_append,size_zeroCells,Jp.zs];omega
   .rw[d,Array.toList_append,zt];have:m*1=(Az (List.replicate m 0)).length:=(by simp[Az]);rw[this];exact List.take_left
   .rw[(List.mem_replicate.1 f).2];omega
  .cases e;obtain⟨j,H,o,i⟩:=h.blk;have I:=h.le;have f:∀x∈b++List.replicate m 0,x<65536:=λx f=>by
    obtain f|f:=List.mem_append.1 f
    .exact y x f
    .rw[(List.mem_replicate.1 f).2];omega
   have s:(b++List.replicate m 0).length=b.length+m:=(by rw[List.length_append,d]);have k:Az (b++List.replicate m 0)=Az b++Az (List.replicate m 0):=(by simp[Az]);by_cases D:b.length+m<=c
   .have r:(Az (List.replicate m 0)).length=m:=(by simp[Az]);refine⟨_,_,ab7 H (by omega) (by omega) D (by rw[o];omega),.inr ⟨g,c,b++List.replicate m 0,by rw[s],?_,by omega,f,.inl u⟩,⟨_,_,rfl⟩,((p_ (At g) w).setRow _ _ λ_=>rfl).on λx _ e=>by subst e;exact u⟩;rw[s];refine Ur h ?_ D ?_ (Et _)
    .have l:j.toList.length=c*1:=(by simpa using o);rw[NP (by rw[r,l];omega)];exact l
    .unfold QV;have q:(j.toList.take (b.length*1)++Az (List.replicate m 0)).length=(b.length+m)*1:=(by rw[i,List.length_append,r];simp[Az]);have e1:b.length*1=b.length:=(by omega);rw[e1]at q i;rw[<-q,List.take_left,i,k]
   .obtain⟨E,K,F,B,G⟩:=l9 (ty:=ty) (ti:=3) Jp h (w_ _) (by omega:0<m) (by omega) (by omega) (by omega) ac3;refine⟨_,_,F,.inr ⟨w.heap.size,E,b++List.replicate m 0,by rw[s],?_,by omega,f,.inr (w_ _)⟩,⟨_,_,rfl⟩,G.no⟩;rw[s];have e1:(Az b).take (b.length*1)=Az b:=List.take_of_length_le (by simp[Az]);rw[e1,zt,<-k]at B;exact B
section
variable (m:Nat) (w:o_)
theorem Za (K:KS) (b e0 f:Nat) (r:PR) (v:n_) (h:AV K w) (hb:K.ps b=some r) (hn:r.en=false) (hI:∀z∈r.Ag,z<65536) (hL:r.Ag.length<=128) (te:K.T e0=(12,f)) (hv:Jr r v) (hnl:K.nl.length<=1000) (hU:Uniq K.nm K.nl):
  P_ m 279 #[R_ e0,v] w (WritePost K b w):=by
 obtain⟨K0,rb,BN⟩:=HY w;have J:=h.no K0;have Gp:K.T w.heap.size=(0,0):=h.lt _ (w_ _);obtain⟨dv,n,rfl,bm7⟩:∃d n,v=.slice d n n/\n<=128:=by
  obtain rfl|⟨g,c,o,n,_,rfl,_,_⟩:=hv
  .exact⟨none,0,rfl,by omega⟩
  .exact⟨_,n,rfl,by omega⟩
 obtain⟨j,he,V,bd2⟩:=J.fl.GL e0 f te;obtain⟨u,hf,hu⟩:=J.fl.file f V;obtain⟨a,l,c',rfl,hwc,hw64,hwx,hwn,hws⟩:=hu.shape;have d0:(w.alloc V_).cell? (S_ e0)=some (.pointer (some (T_ K.kb 4))):=(Af he 0).trans rfl;have d1:(w.alloc V_).cell? (T_ e0 1)=some (R_ f):=(Af he 1).trans rfl;have d2:(w.alloc V_).cell? (T_ e0 2)=some (b_ j):=(Af he 2).trans rfl;have d3:(w.alloc V_).cell? (S_ f)=some (.slice a l.length c'):=(Af hf 0).trans rfl;by_cases h64:64<j+n
 .have f1:(64:Int)<(j:Int)+(n:Int):=by omega
  gi_enter func279,ntmps279;gi_wp2_with fail;gi_wp2_with (first|(gi_at_call 273;refine(fw8 9 rb _).mono ?_;rintro e wz ⟨rfl,D,w8,Au,K8,b8⟩)|refine En Au ?_);refine TR 0 9 (by simp[results,results279,go_sem,EF b8]) rfl ?_;exact Dp (T':=K.T) (x:=0) (y:=9) h.lt K0 BN (((BM.no (p_ No _) J.lt)).then D) ((J).no D) K8 (by omega) (by omega) (.inl rfl)
 .have f1:¬(64:Int)<(j:Int)+(n:Int):=by omega
  by_cases hz:n=0
  .subst hz;simp only[Int.natCast_zero,Int.add_zero]at f1;gi_enter func279,ntmps279;gi_wp2_with fail;gi_wp2_with (first|(gi_at_call 272;refine(Dh _ _ 0 (by omega)).mono ?_;rintro e wz ⟨rfl,D⟩;obtain⟨w8,Au,K8,b8⟩:=Ap (x:=0) (y:=0) (f:=.nilFunc) (D.old (rb) id) rfl)|refine En Au ?_);refine TR 0 0 (by simp[results,results279,go_sem,EF b8]) rfl ?_;exact Dp (T':=K.T) (x:=0) (y:=0) h.lt K0 BN (((BM.no (p_ No _) J.lt)).then D) ((J).no D) K8 (by omega) (by omega) (.inl rfl)
  .have f2:((n:Int)==0)=false:=(by simp;omega);obtain⟨q,hsz'⟩:∃q:Nat,(j:Int)+(n:Int)=(q:Int):=⟨j+n,by omega⟩;rw[hsz']at f1;by_cases hmx:j+n<l.length
   .have f3:(q:Int)<(l.length:Int):=(by omega);gi_enter func279,ntmps279;gi_wp2;refine Bi 9 88 ?_;have cm:=λm w1 (H:Keep No (w.alloc V_) w1)=>Xw m w1 K f (l.length) (J.no H) V (by omega) (by omega)
    gi_wp2_with (gi_at_call 281;refine(cm _ _ (p_ No _).drew).mono ?_;rintro e w1 ⟨K1,x,rfl,_⟩);refine CZ ?_ ?_
    .intro W H;have e0':=H.has (w:=(w.alloc V_).drew) d0;have e1':=H.has (w:=(w.alloc V_).drew) d1
     repeat' (refine Ae ?_ ?_)
     all_goals first|exact trivial|gi_wp2
    .intro W H;have KW:Keep No (w.alloc V_) W:=(p_ No _).drew.then H;gi_wp2_with (gi_at_call 281;refine(cm _ _ KW).mono ?_;rintro e w1 ⟨K1,x,rfl,hG⟩;have A:=KW.then K1;cases x)
     .have h1:=J.no A;gi_wp2_with (first|(gi_at_call 273;refine(fw8 10 (A.old rb id) _).mono ?_;rintro e wz ⟨rfl,D,w8,Au,K8,b8⟩)|refine En Au ?_);refine TR 0 10 (by simp[results,results279,go_sem,EF b8]) rfl ?_;exact Dp (T':=K.T) (x:=0) (y:=10) h.lt K0 BN (((BM.no A J.lt)).then D) ((h1).no D) K8 (by omega) (by omega) (.inl rfl)
     .have h1:AV K w1.drew:=J.no A.drew;obtain⟨va,Wa,GH,hPa,⟨aa,ca,hva⟩,hKa⟩:=bg3 (ty:=116) (m:=l.length-l.length) (hu.set A.drew (fun _ _=>id)) (w_ 64) (by omega) (by omega);have ev:((l.length-l.length:Nat):Int)=0:=(by omega);rw[ev]at GH;obtain rfl:va=.slice aa (l.length) ca:=hva.trans (by congr 1;omega);clear hva;have e0':w1.drew.cell? (S_ e0)=some (.pointer (some (T_ K.kb 4))):=A.has d0;have e1:w1.drew.cell? (T_ e0 1)=some (R_ f):=A.has d1;have e2:w1.drew.cell? (T_ e0 2)=some (b_ j):=A.has d2;have e3:w1.drew.cell? (S_ f)=some (.slice a l.length c'):=A.has d3;have ZB:=World.block_lt_of_cell? _ _ e1;have lf2:=World.block_lt_of_cell? _ _ e3;refine CV (P:=prog) _ rfl rfl (by kernel_rfl) 22 88 [0,1,2,3,4,5,6,7,8,9,10,11,12,13,14,15,16,17,18,19,20] [21] (by kernel_rfl) (by rfl)
       (NG (On K.T λt=>t=(15,f)) w1.drew 21 (λv W=>PostA K.T w1.drew f 64 v W/\∃a' c',v=.slice a' (l.length) c') []) (FU (by simp) (by simp)) _ _ rfl rfl ?_;gi_wp2_with (refine Ci rfl (.tmp 53) (.tmp 63) _ rfl rfl rfl GH ?_);refine⟨rfl,by kernel_rfl,Ef,?_,?_,?_⟩
      .intro L' u W s;have g1:=(s.1.cell (w:=w1.drew) (p:=(T_ e0 1)) ZB (by unfold On;rw[te];simp)).trans e1;have g3:=(s.1.cell (w:=w1.drew) (p:=(S_ f)) lf2 (by unfold On;rw[V];simp)).trans e3
       repeat' (refine Ae ?_ ?_)
       all_goals first|exact trivial|gi_wp2
      .intro i hi L' u W s hLi hu';obtain rfl:i=21:=(by simpa using hi);obtain rfl:=s.2.1 hLi;refine Bh rfl λKK Lh=>?_
       show wpListIn NF m prog _ _ _ (Act.put _ (some 64) (u 21)) _;gi_wp2_with (refine Ci rfl (.tmp 53) (.tmp 63) _ rfl rfl rfl GH ?_);exact⟨_,rfl,FV s (by simp) hKa ⟨hPa,_,_,rfl⟩⟩
      .intro L' u W s hL';obtain⟨hPw,a3,c3,e21⟩:=s.2.2.1 (hL' 21 (by simp));show wpListIn NF m prog _ _ _ (Act.put _ (some 64) (u 21)) _;rw[e21];rw[e21]at hPw;have B:=s.1.old (w:=w1.drew) (A.old hf id) (by unfold On;rw[V];simp);have q3:W.cell? (S_ f)=some _:=(Af B 0).trans rfl;have z3:=BO B 0;have g1:=(s.1.cell (w:=w1.drew) (p:=(T_ e0 1)) ZB (by unfold On;rw[te];simp)).trans e1;have R:e0≠f:=λe=>by rw[e,V]at te;simp at te
       have bv0:¬f=e0:=Ne.symm R;obtain⟨T',MT,hwT⟩:=hPw.IE s.1 h1.lt;have F:T' f=(10,0):=MT.tag V (by simp);have Z:T' e0=(12,f):=MT.tag te (by simp);have yM:Keep (At f) W (W.setCell (S_ f) (.slice a3 (l.length) c3)):=(p_ _ _).setCell _ λ_=>rfl
       have yT:=hwT.set yM (λg hg e=>by rw[show g=f from e,F]at hg;simp at hg);have s4:=h1.setW (by rw[V];simp) (by rw[V];simp) MT (FOne.file' (v:=.slice a3 (l.length) c3) F (Ah B _) yT) (VK.grow hG hU (K1.drew) MT B);obtain e|⟨g,c9,X,e,hR9,_,yS,Y⟩:=yT
       .exfalso;injection e with _ e2;omega
       obtain⟨rfl,hl9,rfl⟩:a3=some (S_ g)/\l.length=X.length/\c3=c9:=(by injection e with e1 e2 e3;exact⟨e1,e2,e3⟩);have bu3:=hR9.le;have g1':(W.setCell (S_ f) (Q_ g (l.length) c3)).cell? (T_ e0 1)=some (R_ f):=(yM.cell (p:=(T_ e0 1)) (World.block_lt_of_cell? _ _ g1) R).trans g1;have g2:=(s.1.cell (w:=w1.drew) (p:=(T_ e0 2)) ZB (by unfold On;rw[te];simp)).trans e2;have g2':(W.setCell (S_ f) (Q_ g (l.length) c3)).cell? (T_ e0 2)=some (b_ j):=(yM.cell (p:=(T_ e0 2)) (World.block_lt_of_cell? _ _ g2) R).trans g2;have g3':(W.setCell (S_ f) (Q_ g (l.length) c3)).cell? (S_ f)=some (Q_ g (l.length) c3):=(Af (Ah B _) 0).trans (by simp);have KO:BM K.T T' (w.alloc V_) _:=(BM.no A.drew J.lt).trans s4.2;have fc:¬c3=j:=(by omega);have fpl:¬((l.length:Nat):Int)<(j:Int):=(by omega);have cp:∀WX,Keep No (W.setCell (S_ f) (Q_ g (l.length) c3)) WX->∃G C,(Builtin.copy_ #[116,116] 3 #[.slice (some (T_ g j)) (l.length-j) (c3-j),.slice dv n n]).run prog WX=.ok (goInt (n:Nat)) G/\Keep (At g) WX G/\Rw 123 1 G g (l.length) c3 (Az C)/\C.length=l.length/\∀x∈C,x<65536:=λWX L=>by
        have hX:=AV.no s4.1 L
        obtain⟨ys,U,hyx,hyd⟩:=Jr.words (K:={ K with T:=T' }) hX hb hn hI hv n (w_ n)
        obtain⟨ad,rfl,hys⟩:=hyd.resolve_left hz
        have I:Nat.min n (l.length-j)=n:=Nat.min_eq_left (by omega)
        obtain⟨G,hr,H,Gt⟩:=TL (ty:=3) (IX:=l.length-j) (G8:=c3-j) (CX:=n) (sCap:=n) (o:=j) (Rw.keep hR9 L id) rfl hys (by rw[I];exact U) (by rw[U];omega)
        rw[I]at hr
        have hlen:(X.take j++ys++X.drop (j+ys.length)).length=l.length:=by simp only[List.length_append,List.length_take,List.length_drop,U];omega
        refine⟨G,_,hr,H,by simpa only[hl9]using Gt,hlen,λx E=>?_⟩
        obtain E|E:=List.mem_append.1 E
        .obtain E|E:=List.mem_append.1 E
         .exact yS x (List.mem_of_mem_take E)
         .exact hyx x E
        .exact yS x (List.mem_of_mem_drop E)
       clear hl9 e;gi_wp2;generalize hW9:W.setCell (S_ f) (Q_ g (l.length) c3)=M at*;obtain⟨WY0,ws0,bv3,_,_⟩:=cp M.drew (p_ No M).drew;refine Bi 13 88 ?_;gi_wp2;refine CZ ?_ ?_
       .intro W2 Gu;have k1:=Gu.has (w:=M.drew) g1';have k2:=Gu.has (w:=M.drew) g2';have k3:=Gu.has (w:=M.drew) g3'
        repeat' (refine Ae ?_ ?_)
        all_goals first|exact trivial|gi_wp2
       .intro W2 Gu;have L:Keep No M W2:=(p_ No M).drew.then Gu;obtain⟨G,C,hcp,O,hRY,S,hxY⟩:=cp W2 L;have N:=AV.no s4.1 L;have hgf:g≠f:=λe=>by rw[e,F]at Y;simp at Y
        have hge:g≠e0:=λe=>by rw[e,Z]at Y;simp at Y
        obtain⟨vf,hfX,_⟩:=N.fl.file f F;obtain⟨pn,heX,_⟩:=N.fl.GL e0 f Z;have k3:=L.has g3';have ek:vf=Q_ g (l.length) c3:=by
         have:=(Af hfX 0).symm.trans k3
         simpa using this
        subst ek;have s5:=AV.dK (b0:=f) N O (λk hk=>by rw[show k=g from hk];exact .inr Y) (by show 10<=(T' f).1;rw[F];simp) (by show(T' f).1<15;rw[F];simp) (FOne.file' (T:=T') F (O.old hfX (Ne.symm hgf)) (.inr ⟨g,c3,C,by rw[S],by rw[S];exact hRY,by rw[S];omega,hxY,Y⟩)) (λ_ e=>hgf (show f=g from e).symm);have Q:=O.old heX (Ne.symm hge);have kz:=BO Q 2;have kq:G.cell? (T_ e0 2)=some (b_ pn):=(Af Q 2).trans rfl;have s6:=AV.PG (p:=e0) (w':=G.setCell (T_ e0 2) (b_ (q:Nat))) s5.1 ((p_ _ _).setCell _ λ_=>rfl) (by show 10<=(T' e0).1;rw[Z];simp) (by show(T' e0).1<15;rw[Z];simp) (by show(T' e0).1≠10;rw[Z];simp) (FOne.Jd (T:=T') (n:=q) Z (Ah Q _) F (by omega));gi_wp2_with fail;have bW:BM K.T T' (w.alloc V_) _:=((KO.then L).trans s5.2).trans s6.2;gi_wp2_with (first|(gi_at_call 272;refine(Dh _ _ n (by omega)).mono ?_;rintro e wz ⟨rfl,D⟩;obtain⟨w8,Au,K8,b8⟩:=Ap (x:=n) (y:=0) (f:=.nilFunc) (D.old (bW.old rb Gp) id) rfl)|refine En Au ?_);refine TR n 0 (by simp[results,results279,go_sem,EF b8]) rfl ?_;exact Dp (T':=T') (x:=n) (y:=0) h.lt K0 BN ((bW).then D) ((s6.1).no D) K8 (by omega) (by omega) (.inl rfl)
   .have f3:¬(q:Int)<(l.length:Int):=(by omega);gi_enter func279,ntmps279;gi_wp2;refine Bi 9 88 ?_;have cm:=λm w1 (H:Keep No (w.alloc V_) w1)=>Xw m w1 K f (q) (J.no H) V (by omega) (by omega)
    gi_wp2_with (gi_at_call 281;refine(cm _ _ (p_ No _).drew).mono ?_;rintro e w1 ⟨K1,x,rfl,_⟩);refine CZ ?_ ?_
    .intro W H;have e0':=H.has (w:=(w.alloc V_).drew) d0;have e1':=H.has (w:=(w.alloc V_).drew) d1
     repeat' (refine Ae ?_ ?_)
     all_goals first|exact trivial|gi_wp2
    .intro W H;have KW:Keep No (w.alloc V_) W:=(p_ No _).drew.then H;gi_wp2_with (gi_at_call 281;refine(cm _ _ KW).mono ?_;rintro e w1 ⟨K1,x,rfl,hG⟩;have A:=KW.then K1;cases x)
     .have h1:=J.no A;gi_wp2_with (first|(gi_at_call 273;refine(fw8 10 (A.old rb id) _).mono ?_;rintro e wz ⟨rfl,D,w8,Au,K8,b8⟩)|refine En Au ?_);refine TR 0 10 (by simp[results,results279,go_sem,EF b8]) rfl ?_;exact Dp (T':=K.T) (x:=0) (y:=10) h.lt K0 BN (((BM.no A J.lt)).then D) ((h1).no D) K8 (by omega) (by omega) (.inl rfl)
     .have h1:AV K w1.drew:=J.no A.drew;obtain⟨va,Wa,GH,hPa,⟨aa,ca,hva⟩,hKa⟩:=bg3 (ty:=116) (m:=q-l.length) (hu.set A.drew (fun _ _=>id)) (w_ 64) (by omega) (by omega);have ev:((q-l.length:Nat):Int)=(q:Int)-l.length:=(by omega);rw[ev]at GH;obtain rfl:va=.slice aa (q) ca:=hva.trans (by congr 1;omega);clear hva;have e0':w1.drew.cell? (S_ e0)=some (.pointer (some (T_ K.kb 4))):=A.has d0;have e1:w1.drew.cell? (T_ e0 1)=some (R_ f):=A.has d1;have e2:w1.drew.cell? (T_ e0 2)=some (b_ j):=A.has d2;have e3:w1.drew.cell? (S_ f)=some (.slice a l.length c'):=A.has d3;have ZB:=World.block_lt_of_cell? _ _ e1;have lf2:=World.block_lt_of_cell? _ _ e3;refine CV (P:=prog) _ rfl rfl (by kernel_rfl) 22 88 [0,1,2,3,4,5,6,7,8,9,10,11,12,13,14,15,16,17,18,19,20] [21] (by kernel_rfl) (by rfl)
       (NG (On K.T λt=>t=(15,f)) w1.drew 21 (λv W=>PostA K.T w1.drew f 64 v W/\∃a' c',v=.slice a' (q) c') []) (FU (by simp) (by simp)) _ _ rfl rfl ?_;gi_wp2_with (refine Ci rfl (.tmp 53) (.tmp 63) _ rfl rfl rfl GH ?_);refine⟨rfl,by kernel_rfl,Ef,?_,?_,?_⟩
      .intro L' u W s;have g1:=(s.1.cell (w:=w1.drew) (p:=(T_ e0 1)) ZB (by unfold On;rw[te];simp)).trans e1;have g3:=(s.1.cell (w:=w1.drew) (p:=(S_ f)) lf2 (by unfold On;rw[V];simp)).trans e3
       repeat' (refine Ae ?_ ?_)
       all_goals first|exact trivial|gi_wp2
      .intro i hi L' u W s hLi hu';obtain rfl:i=21:=(by simpa using hi);obtain rfl:=s.2.1 hLi;refine Bh rfl λKK Lh=>?_
       show wpListIn NF m prog _ _ _ (Act.put _ (some 64) (u 21)) _;gi_wp2_with (refine Ci rfl (.tmp 53) (.tmp 63) _ rfl rfl rfl GH ?_);exact⟨_,rfl,FV s (by simp) hKa ⟨hPa,_,_,rfl⟩⟩
      .intro L' u W s hL';obtain⟨hPw,a3,c3,e21⟩:=s.2.2.1 (hL' 21 (by simp));show wpListIn NF m prog _ _ _ (Act.put _ (some 64) (u 21)) _;rw[e21];rw[e21]at hPw;have B:=s.1.old (w:=w1.drew) (A.old hf id) (by unfold On;rw[V];simp);have q3:W.cell? (S_ f)=some _:=(Af B 0).trans rfl;have z3:=BO B 0;have g1:=(s.1.cell (w:=w1.drew) (p:=(T_ e0 1)) ZB (by unfold On;rw[te];simp)).trans e1;have R:e0≠f:=λe=>by rw[e,V]at te;simp at te
       have bv0:¬f=e0:=Ne.symm R;obtain⟨T',MT,hwT⟩:=hPw.IE s.1 h1.lt;have F:T' f=(10,0):=MT.tag V (by simp);have Z:T' e0=(12,f):=MT.tag te (by simp);have yM:Keep (At f) W (W.setCell (S_ f) (.slice a3 (q) c3)):=(p_ _ _).setCell _ λ_=>rfl
       have yT:=hwT.set yM (λg hg e=>by rw[show g=f from e,F]at hg;simp at hg);have s4:=h1.setW (by rw[V];simp) (by rw[V];simp) MT (FOne.file' (v:=.slice a3 (q) c3) F (Ah B _) yT) (VK.grow hG hU (K1.drew) MT B);obtain e|⟨g,c9,X,e,hR9,_,yS,Y⟩:=yT
       .exfalso;injection e with _ e2;omega
       obtain⟨rfl,hl9,rfl⟩:a3=some (S_ g)/\q=X.length/\c3=c9:=(by injection e with e1 e2 e3;exact⟨e1,e2,e3⟩);have bu3:=hR9.le;have g1':(W.setCell (S_ f) (Q_ g (q) c3)).cell? (T_ e0 1)=some (R_ f):=(yM.cell (p:=(T_ e0 1)) (World.block_lt_of_cell? _ _ g1) R).trans g1;have g2:=(s.1.cell (w:=w1.drew) (p:=(T_ e0 2)) ZB (by unfold On;rw[te];simp)).trans e2;have g2':(W.setCell (S_ f) (Q_ g (q) c3)).cell? (T_ e0 2)=some (b_ j):=(yM.cell (p:=(T_ e0 2)) (World.block_lt_of_cell? _ _ g2) R).trans g2;have g3':(W.setCell (S_ f) (Q_ g (q) c3)).cell? (S_ f)=some (Q_ g (q) c3):=(Af (Ah B _) 0).trans (by simp);have KO:BM K.T T' (w.alloc V_) _:=(BM.no A.drew J.lt).trans s4.2;have fc:¬c3=j:=(by omega);have fpl:¬((q:Nat):Int)<(j:Int):=(by omega);have cp:∀WX,Keep No (W.setCell (S_ f) (Q_ g (q) c3)) WX->∃G C,(Builtin.copy_ #[116,116] 3 #[.slice (some (T_ g j)) (q-j) (c3-j),.slice dv n n]).run prog WX=.ok (goInt (n:Nat)) G/\Keep (At g) WX G/\Rw 123 1 G g (q) c3 (Az C)/\C.length=q/\∀x∈C,x<65536:=λWX L=>by
        have hX:=AV.no s4.1 L
        obtain⟨ys,U,hyx,hyd⟩:=Jr.words (K:={ K with T:=T' }) hX hb hn hI hv n (w_ n)
        obtain⟨ad,rfl,hys⟩:=hyd.resolve_left hz
        have I:Nat.min n (q-j)=n:=Nat.min_eq_left (by omega)
        obtain⟨G,hr,H,Gt⟩:=TL (ty:=3) (IX:=q-j) (G8:=c3-j) (CX:=n) (sCap:=n) (o:=j) (Rw.keep hR9 L id) rfl hys (by rw[I];exact U) (by rw[U];omega)
        rw[I]at hr
        have hlen:(X.take j++ys++X.drop (j+ys.length)).length=q:=by simp only[List.length_append,List.length_take,List.length_drop,U];omega
        refine⟨G,_,hr,H,by simpa only[hl9]using Gt,hlen,λx E=>?_⟩
        obtain E|E:=List.mem_append.1 E
        .obtain E|E:=List.mem_append.1 E
         .exact yS x (List.mem_of_mem_take E)
         .exact hyx x E
        .exact yS x (List.mem_of_mem_drop E)
       clear hl9 e;gi_wp2;generalize hW9:W.setCell (S_ f) (Q_ g (q) c3)=M at*;obtain⟨WY0,ws0,bv3,_,_⟩:=cp M.drew (p_ No M).drew;refine Bi 13 88 ?_;gi_wp2;refine CZ ?_ ?_
       .intro W2 Gu;have k1:=Gu.has (w:=M.drew) g1';have k2:=Gu.has (w:=M.drew) g2';have k3:=Gu.has (w:=M.drew) g3'
        repeat' (refine Ae ?_ ?_)
        all_goals first|exact trivial|gi_wp2
       .intro W2 Gu;have L:Keep No M W2:=(p_ No M).drew.then Gu;obtain⟨G,C,hcp,O,hRY,S,hxY⟩:=cp W2 L;have N:=AV.no s4.1 L;have hgf:g≠f:=λe=>by rw[e,F]at Y;simp at Y
        have hge:g≠e0:=λe=>by rw[e,Z]at Y;simp at Y
        obtain⟨vf,hfX,_⟩:=N.fl.file f F;obtain⟨pn,heX,_⟩:=N.fl.GL e0 f Z;have k3:=L.has g3';have ek:vf=Q_ g (q) c3:=by
         have:=(Af hfX 0).symm.trans k3
         simpa using this
        subst ek;have s5:=AV.dK (b0:=f) N O (λk hk=>by rw[show k=g from hk];exact .inr Y) (by show 10<=(T' f).1;rw[F];simp) (by show(T' f).1<15;rw[F];simp) (FOne.file' (T:=T') F (O.old hfX (Ne.symm hgf)) (.inr ⟨g,c3,C,by rw[S],by rw[S];exact hRY,by rw[S];omega,hxY,Y⟩)) (λ_ e=>hgf (show f=g from e).symm);have Q:=O.old heX (Ne.symm hge);have kz:=BO Q 2;have kq:G.cell? (T_ e0 2)=some (b_ pn):=(Af Q 2).trans rfl;have s6:=AV.PG (p:=e0) (w':=G.setCell (T_ e0 2) (b_ (q:Nat))) s5.1 ((p_ _ _).setCell _ λ_=>rfl) (by show 10<=(T' e0).1;rw[Z];simp) (by show(T' e0).1<15;rw[Z];simp) (by show(T' e0).1≠10;rw[Z];simp) (FOne.Jd (T:=T') (n:=q) Z (Ah Q _) F (by omega));gi_wp2_with fail;have bW:BM K.T T' (w.alloc V_) _:=((KO.then L).trans s5.2).trans s6.2;gi_wp2_with (first|(gi_at_call 272;refine(Dh _ _ n (by omega)).mono ?_;rintro e wz ⟨rfl,D⟩;obtain⟨w8,Au,K8,b8⟩:=Ap (x:=n) (y:=0) (f:=.nilFunc) (D.old (bW.old rb Gp) id) rfl)|refine En Au ?_);refine TR n 0 (by simp[results,results279,go_sem,EF b8]) rfl ?_;exact Dp (T':=T') (x:=n) (y:=0) h.lt K0 BN ((bW).then D) ((s6.1).no D) K8 (by omega) (by omega) (.inl rfl)
end
end Go.Fxa
