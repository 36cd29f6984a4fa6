/- A file with a place: Seek, Rea -/
import Derived.Test.YtmhplpfpcnjekaaGreatA26
namespace Go.Fxa
open Conc Proofs RowKit Proofs.Tryz
set_option maxRecDepth 1000000
set_option maxHeartbeats 0
variable {K:KS} {w:o_} {e0 f n i c:Nat} {ws:List Nat} {ln:Nat->Nat} {nm:Nat->d_ Nat} {a:d_ f_}
theorem AV.place (h:AV K w) (e:K.T e0=(12,f)) (g:n<=64):AV { K with ct:=Ag K.ct e0 { K.ct e0 with n:=n } } (w.setCell (S_ e0 2) (b_ (n:Nat)))/\BN K.T K.T w (w.setCell (S_ e0 2) (b_ (n:Nat))):=by
 obtain⟨c,d,_⟩:=h.fl.GI e0 f e;exact AV.ac7 (p:=e0) h ((Ac.refl _ _).setCell _ λ_=>rfl) (by rw[e];simp) (by rw[e];simp) (by rw[e];simp) (EI.yK e ((Ap c _).trans (by simp[Ag])) d (by simp[Ag];exact g)) λb a=>ru a
def XSk (K:KS) (e0 pl:Nat):(Nat->Ct)->Nat->Nat->n_->Prop:=λct x y f=>(64<pl/\ct=K.ct/\x=0/\y=13/\f=.nilFunc)\/(pl<=64/\ct=Ag K.ct e0 { K.ct e0 with n:=pl }/\x=0/\y=0/\f=.nilFunc)
def XRf (K:KS) (e0 f:Nat) (r:PR) (o n:Nat):List Nat->(Nat->Ct)->Nat->Nat->n_->Prop:=λAf ct x y v=>x=Nat.min ((K.ct f).ws.length-(K.ct e0).n) n/\Af=RP r.Af o (((K.ct f).ws.drop (K.ct e0).n).take x)/\ct=Ag K.ct e0 { K.ct e0 with n:=(K.ct e0).n+x }/\y=0/\v=.nilFunc
theorem XRf.of {o x L b q:Nat} {r:PR} {Af j:List Nat} (g:ag ((K.ct f).ws=ws)) (d:ag ((K.ct e0).n=b)) (h:ag (x=Nat.min L n/\Af=RP r.Af o (j.take x))) (k:L=ws.length-b) (e:j=ws.drop b) (l:q=b+x):XRf K e0 f r o n Af (Ag K.ct e0 { K.ct e0 with n:=q }) x 0 .nilFunc:=by
 refine⟨?_,?_,?_,rfl,rfl⟩
 .rw[g.out,d.out,<-k];exact h.out.1
 .rw[g.out,d.out,<-e];exact h.out.2
 .rw[d.out,l]
section
variable (m:Nat) (w:o_)
theorem al6 (K:KS) (b e0 f B:Nat) (h:AV K w) (C:K.T e0=(12,f)) (D:B<65536):
  O_ m 278 #[Q_ e0,b_ (B:Nat)] w (RD (XSk K e0 B) K b w):=by
 obtain⟨g,q,o⟩:=Iw w;have c:=h.no g;have r:K.T w.heap.size=(0,0):=h.lt _ (w_ _);obtain⟨p,z,s⟩:=c.fl.GI e0 f C;have d2:(w.alloc V_).cell? (S_ e0 2)=some (b_ ((K.ct e0).n:Nat)):=(Ah p 2).trans rfl;have A:=BQ p 2;by_cases k:64<B
 .have t:(64:Int)<(B:Int):=zD
  gi_enter func278,ntmps278;gi_wp2_with fail;gi_wp2_with (first|(gi_at_call 273;refine(fw8 13 q _).mono ?_;rintro e v ⟨rfl,a,u,d,i,j⟩)|refine EX d ?_);refine T_ 0 13 (by simp[results,results278,go_sem,FI j]) rfl ?_;exact Dp (T':=K.T) (ct:=K.ct) (x:=0) (y:=13) h.lt g o (((BN.no (Ac.refl No _) c.lt)).then a) ((c).no a) i zD zD (.inl rfl) (.inl ⟨k,rfl,rfl,rfl,rfl⟩)
 .have t:¬(64:Int)<(B:Int):=zD
  gi_enter func278,ntmps278;gi_wp2_with fail;have l:=AV.place (n:=B) c C zD;gi_wp2_with (first|(gi_at_call 272;refine(Dk _ _ 0 zD).mono ?_;rintro e v ⟨rfl,a⟩;obtain⟨u,d,i,j⟩:=AA (x:=0) (y:=0) (f:=.nilFunc) (a.old (l.2.old q r) id) rfl)|refine EX d ?_);refine T_ 0 0 (by simp[results,results278,go_sem,FI j]) rfl ?_;exact Dp (T':=K.T) (x:=0) (y:=0) h.lt g o ((l.2).then a) ((l.1).no a) i zD zD (.inl rfl) (.inr ⟨zD,rfl,rfl,rfl,rfl⟩)
theorem al7 (K:KS) (b e0 f o n:Nat) (r:PR) (v:n_) (h:AV K w) (hb:K.ps b=some r) (hn:r.en=false) (hI:∀z∈r.Af,z<65536) (te:K.T e0=(12,f)) (hv:OM r v o n):
  O_ m 277 #[Q_ e0,v] w (YC (XRf K e0 f r o n) K b r w):=by
 obtain⟨L,Q,_⟩:=Iw w;have N:=h.no L;have P:K.T w.heap.size=(0,0):=h.lt _ (w_ _);obtain⟨d0,rfl⟩:∃d,v=.slice d n n:=by
  obtain⟨rfl,rfl⟩|⟨g,c,_,rfl,_⟩:=hv
  .exact⟨none,rfl⟩
  .exact⟨_,rfl⟩
 obtain⟨I,tf,Y⟩:=N.fl.GI e0 f te;obtain⟨u,hf,hu⟩:=N.fl.file f tf;obtain⟨q,O⟩:∃q,ag ((K.ct e0).n=q):=⟨_,rfl⟩;obtain⟨ws,M⟩:∃ws,ag ((K.ct f).ws=ws):=⟨_,rfl⟩;rw[O.out]at I Y;rw[M.out]at hu;have d1:(w.alloc V_).cell? (S_ e0 1)=some (Q_ f):=(Ah I 1).trans rfl;have d2:(w.alloc V_).cell? (S_ e0 2)=some (b_ q):=(Ah I 2).trans rfl;have d3:(w.alloc V_).cell? (R_ f)=some u:=(Ah hf 0).trans rfl;obtain⟨rfl,rfl⟩|⟨g,c,rfl,hR,hw64,hwx,tg⟩:=hu
 .obtain⟨w2,k,Af,V,X,_,E,G,H,F,i,s⟩:=JO (ty:=3) (a:=none) (CV:=0) (sCap:=0) (ws:=[]) N hb hn hI hv zF rfl (λW e=>by cases e) (λ_=>rfl);obtain rfl:k=0:=zD
  by_cases hp0:q=0
  .subst hp0;simp only[Int.natCast_zero]at d2 I;have e2:w2.cell? (S_ e0 2)=some (b_ 0):=(i.cell (qy _ _ d2) (by unfold On;rw[te];simp)).trans d2;have p:=i.old I (by unfold On;rw[te];simp);have U:=BQ p 2;have t:=AV.place (n:=0) H te zD;simp only[Int.natCast_zero]at t;gi_enter func277,ntmps277;gi_wp2_with fail;have A:BN K.T K.T (w.alloc V_) _:=F.trans t.2;gi_wp2_with (first|(gi_at_call 272;refine(Dk _ _ 0 zD).mono ?_;rintro e S ⟨rfl,l⟩;obtain⟨R,B,C,D⟩:=AA (x:=0) (y:=0) (f:=.nilFunc) (l.old (A.old Q P) id) rfl)|refine EX B ?_);refine T_ 0 0 (by simp[results,results277,go_sem,FI D]) rfl ?_;exact ER (x:=0) (y:=0) h.lt L ((A).then l) ((t.1).no l) C zD zD (.inl rfl) (E) (G) (XRf.of M O s rfl rfl rfl)
  .have f1:(0:Int)<(q:Int):=zD;have e2:w2.cell? (S_ e0 2)=some (b_ q):=(i.cell (qy _ _ d2) (by unfold On;rw[te];simp)).trans d2;have p:=i.old I (by unfold On;rw[te];simp);have U:=BQ p 2;have t:=AV.place (n:=q) H te zD;gi_enter func277,ntmps277;gi_wp2_with fail;have A:BN K.T K.T (w.alloc V_) _:=F.trans t.2;gi_wp2_with (first|(gi_at_call 272;refine(Dk _ _ 0 zD).mono ?_;rintro e S ⟨rfl,l⟩;obtain⟨R,B,C,D⟩:=AA (x:=0) (y:=0) (f:=.nilFunc) (l.old (A.old Q P) id) rfl)|refine EX B ?_);refine T_ 0 0 (by simp[results,results277,go_sem,FI D]) rfl ?_;exact ER (x:=0) (y:=0) h.lt L ((A).then l) ((t.1).no l) C zD zD (.inl rfl) (E) (G) (XRf.of M O s zF zF rfl)
 .have hle:=hR.le;by_cases BL:q<ws.length
  .have f1:(q:Int)<(ws.length:Int):=zD;have f2:¬c=q:=zD;obtain⟨w2,k,Af,V,X,_,E,G,H,F,i,s⟩:=JO (ty:=3) (a:=some (S_ g q)) (CV:=ws.length-q) (sCap:=c-q) (ws:=ws.drop q) N hb hn hI hv (λx hx=>hwx x (List.mem_of_mem_drop hx)) zF (λW e j u J=>by
    cases e
    have Nl:((S_ g q):f_).add j=(S_ g (q+j)):=by unfold Addr.add;split<;>simp_all
    have Z:=(KT.1 J).1
    simp only[Az,List.length_map,List.length_drop]at Z
    rw[Nl,hR.cell zD]
    simpa [Az,List.map_drop,List.getElem?_drop]using J) (λe=>by cases e);have e2:w2.cell? (S_ e0 2)=some (b_ q):=(i.cell (qy _ _ d2) (by unfold On;rw[te];simp)).trans d2;have p:=i.old I (by unfold On;rw[te];simp);have U:=BQ p 2;have t:=AV.place (n:=q+k) H te zD;have ev:((q+k:Nat):Int)=(q:Int)+k:=zD;rw[ev]at t;gi_enter func277,ntmps277;gi_wp2_with fail;have A:BN K.T K.T (w.alloc V_) _:=F.trans t.2;gi_wp2_with (first|(gi_at_call 272;refine(Dk _ _ k zD).mono ?_;rintro e S ⟨rfl,l⟩;obtain⟨R,B,C,D⟩:=AA (x:=k) (y:=0) (f:=.nilFunc) (l.old (A.old Q P) id) rfl)|refine EX B ?_);refine T_ k 0 (by simp[results,results277,go_sem,FI D]) rfl ?_;exact ER (x:=k) (y:=0) h.lt L ((A).then l) ((t.1).no l) C zD zD (.inl rfl) (E) (G) (XRf.of M O s rfl rfl rfl)
  .obtain hpe|hpl:=(by omega:q=ws.length\/ws.length<q)
   .subst hpe;by_cases hc:c=ws.length
    .obtain⟨w2,k,Af,V,X,_,E,G,H,F,i,s⟩:=JO (ty:=3) (a:=some (R_ g)) (CV:=0) (sCap:=0) (ws:=[]) N hb hn hI hv zF rfl (λW e j u J=>by simp[Az]at J) (λe=>by cases e);obtain rfl:k=0:=zD;have e2:w2.cell? (S_ e0 2)=some (b_ ws.length):=(i.cell (qy _ _ d2) (by unfold On;rw[te];simp)).trans d2;have p:=i.old I (by unfold On;rw[te];simp);have U:=BQ p 2;have t:=AV.place (n:=ws.length) H te zD;gi_enter func277,ntmps277;gi_wp2_with fail;have A:BN K.T K.T (w.alloc V_) _:=F.trans t.2;gi_wp2_with (first|(gi_at_call 272;refine(Dk _ _ 0 zD).mono ?_;rintro e S ⟨rfl,l⟩;obtain⟨R,B,C,D⟩:=AA (x:=0) (y:=0) (f:=.nilFunc) (l.old (A.old Q P) id) rfl)|refine EX B ?_);refine T_ 0 0 (by simp[results,results277,go_sem,FI D]) rfl ?_;exact ER (x:=0) (y:=0) h.lt L ((A).then l) ((t.1).no l) C zD zD (.inl rfl) (E) (G) (XRf.of M O s zF zF rfl)
    .obtain⟨w2,k,Af,V,X,_,E,G,H,F,i,s⟩:=JO (ty:=3) (a:=some (S_ g ws.length)) (CV:=0) (sCap:=c-ws.length) (ws:=[]) N hb hn hI hv zF rfl (λW e j u J=>by simp[Az]at J) (λe=>by cases e);obtain rfl:k=0:=zD;have e2:w2.cell? (S_ e0 2)=some (b_ ws.length):=(i.cell (qy _ _ d2) (by unfold On;rw[te];simp)).trans d2;have p:=i.old I (by unfold On;rw[te];simp);have U:=BQ p 2;have t:=AV.place (n:=ws.length) H te zD;gi_enter func277,ntmps277;gi_wp2_with fail;have A:BN K.T K.T (w.alloc V_) _:=F.trans t.2;gi_wp2_with (first|(gi_at_call 272;refine(Dk _ _ 0 zD).mono ?_;rintro e S ⟨rfl,l⟩;obtain⟨R,B,C,D⟩:=AA (x:=0) (y:=0) (f:=.nilFunc) (l.old (A.old Q P) id) rfl)|refine EX B ?_);refine T_ 0 0 (by simp[results,results277,go_sem,FI D]) rfl ?_;exact ER (x:=0) (y:=0) h.lt L ((A).then l) ((t.1).no l) C zD zD (.inl rfl) (E) (G) (XRf.of M O s zF zF rfl)
   .have f1:(ws.length:Int)<(q:Int):=zD;by_cases hc:c=ws.length
    .obtain⟨w2,k,Af,V,X,_,E,G,H,F,i,s⟩:=JO (ty:=3) (a:=some (R_ g)) (CV:=0) (sCap:=0) (ws:=[]) N hb hn hI hv zF rfl (λW e j u J=>by simp[Az]at J) (λe=>by cases e);obtain rfl:k=0:=zD;have e2:w2.cell? (S_ e0 2)=some (b_ q):=(i.cell (qy _ _ d2) (by unfold On;rw[te];simp)).trans d2;have p:=i.old I (by unfold On;rw[te];simp);have U:=BQ p 2;have t:=AV.place (n:=q) H te zD;gi_enter func277,ntmps277;gi_wp2_with fail;have A:BN K.T K.T (w.alloc V_) _:=F.trans t.2;gi_wp2_with (first|(gi_at_call 272;refine(Dk _ _ 0 zD).mono ?_;rintro e S ⟨rfl,l⟩;obtain⟨R,B,C,D⟩:=AA (x:=0) (y:=0) (f:=.nilFunc) (l.old (A.old Q P) id) rfl)|refine EX B ?_);refine T_ 0 0 (by simp[results,results277,go_sem,FI D]) rfl ?_;exact ER (x:=0) (y:=0) h.lt L ((A).then l) ((t.1).no l) C zD zD (.inl rfl) (E) (G) (XRf.of M O s zD (List.drop_eq_nil_of_le zD).symm rfl)
    .obtain⟨w2,k,Af,V,X,_,E,G,H,F,i,s⟩:=JO (ty:=3) (a:=some (S_ g ws.length)) (CV:=0) (sCap:=c-ws.length) (ws:=[]) N hb hn hI hv zF rfl (λW e j u J=>by simp[Az]at J) (λe=>by cases e);obtain rfl:k=0:=zD;have e2:w2.cell? (S_ e0 2)=some (b_ q):=(i.cell (qy _ _ d2) (by unfold On;rw[te];simp)).trans d2;have p:=i.old I (by unfold On;rw[te];simp);have U:=BQ p 2;have t:=AV.place (n:=q) H te zD;gi_enter func277,ntmps277;gi_wp2_with fail;have A:BN K.T K.T (w.alloc V_) _:=F.trans t.2;gi_wp2_with (first|(gi_at_call 272;refine(Dk _ _ 0 zD).mono ?_;rintro e S ⟨rfl,l⟩;obtain⟨R,B,C,D⟩:=AA (x:=0) (y:=0) (f:=.nilFunc) (l.old (A.old Q P) id) rfl)|refine EX B ?_);refine T_ 0 0 (by simp[results,results277,go_sem,FI D]) rfl ?_;exact ER (x:=0) (y:=0) h.lt L ((A).then l) ((t.1).no l) C zD zD (.inl rfl) (E) (G) (XRf.of M O s zD (List.drop_eq_nil_of_le zD).symm rfl)
end
theorem yP (h:AV K w):∃es:X_,(Instr.loadAt 102 (.pointer (some (S_ K.kb 4)))).run prog w=.ok (.agg es) w/\∀i,i<16->∀w,(Instr.index 102 (.agg es) (b_ (i:Nat))).run prog w=.ok (U8 (K.nm i)) w:=by
 obtain⟨a,r,d⟩:=h.k;have t:20<a.size:=by
  obtain⟨_,h,_⟩:=d.nl
  exact(y_.1 h).1
 have c:((a.toList.drop 4).take 16).length=16:=by simp;omega
 have g:=run_loadCells_list (P:=prog) w (S_ K.kb 4) ((a.toList.drop 4).take 16) (λj v b=>by
  have m:((S_ K.kb 4):f_).add j=(S_ K.kb (4+j)):=by unfold Addr.add;split<;>simp_all
  rw[m,Ah r]
  rw[List.getElem?_take]at b
  split at b
  .simpa using b
  .cases b)
 rw[c]at g;have a1:∀w,(isAgg 102).run prog w=.ok true w:=λw=>sJ
 have a2:∀w,(sizeOf 102).run prog w=.ok 16 w:=λw=>sJ
 have n:∀w,(isAgg 101).run prog w=.ok false w:=λw=>sJ
 have o:∀w,(sizeOf 101).run prog w=.ok 1 w:=λw=>sJ
 refine⟨((a.toList.drop 4).take 16).toArray,by simp[Instr.loadAt,loadVar,Instr.sureAddr,a1,a2,g],λi f w=>?_⟩;have q:=(d.nm i f).1;have e:((a.toList.drop 4).take 16).toArray[i]?=some (U8 (K.nm i)):=by
  simp only[List.getElem?_toArray,List.getElem?_take,List.getElem?_drop,Array.getElem?_toList]
  rw[rC f];exact q
 have p:∀w:o_,(asIntOf (b_ (i:Nat))).run prog w=.ok (.i64,(i:Int)) w:=λ_=>rfl
 have s:∀w,(underlying 102).run prog w=.ok (.array 16 101) w:=run_underlying underlying102;generalize ((a.toList.drop 4).take 16).toArray=es at e;have l:(i:Int)<16:=zD
 simp[Instr.index,p,s,part,n,o,e,l]
theorem AV.bv8 (h:AV K w) (k:∀b,K.T b=(10,0)->JJ w b (ln b)) (j:K.T f=(10,0)):∃a c,w.cell? (R_ f)=some (.slice a (ln f) c)/\ln f<=64:=by
 obtain⟨u,d,i⟩:=h.fl.file f j;obtain⟨a,c,rfl,_,g,_⟩:=i.shape;have e:ln f=(K.ct f).ws.length:=(k f j).eq ⟨a,c,_,d⟩;exact⟨a,c,by rw[e];exact(Ah d 0).trans rfl,zD⟩
theorem gy (h:n<=64):Ai n<=8:=by unfold Ai;omega
theorem Tv {f:Nat->Nat} {k:Nat}:BK f (List.range (k+1))=BK f (List.range k)+f k:=by
 rw[List.range_succ,QA];simp[BK]
theorem O7 (h:nm i=none):Pq ln nm i=0:=by unfold Pq;rw[h]
theorem QE (h:nm i=some f):Pq ln nm i=Ai (ln f):=by unfold Pq;rw[h]
theorem Ρ {f:Nat->Nat} {l:List Nat} {j b:Nat} (h:l[j]?=some b):BK f (l.take (j+1))=BK f (l.take j)+f b:=by
 rw[List.take_add_one,h,QA];simp[BK]
theorem AV.fct (h:AV K w) (k:∀b,K.T b=(10,0)->JJ w b (ln b)) (j:K.T f=(10,0)):ln f=(K.ct f).ws.length:=by
 obtain⟨u,e,g⟩:=h.fl.file f j;obtain⟨a,c,rfl,_,d,_⟩:=g.shape;exact(k f j).eq ⟨a,c,_,e⟩
theorem AV.be5 (h:AV K w) (l:∀b,K.T b=(10,0)->JJ w b (ln b)):Np ln K.nm K.nl=Np (λb=>(K.ct b).ws.length) K.nm K.nl:=by
 unfold Np
 congr 1
 .refine BO λi d=>?_
  have d:=List.mem_range.1 d;obtain⟨j,_,c⟩:=h.k;cases e:K.nm i with
  |none=>rw[O7 e,O7 e]
  |some f=>rw[QE e,QE e,h.fct l ((c.nm i d).2 f e)]
 .refine BO λf g=>?_
  obtain⟨j,_,c⟩:=h.k;obtain⟨_,_,_,a⟩:=c.nl;show Ai (ln f)=_;rw[h.fct l (a f g)]
theorem lL {y:Int} {s t:Nat} {x:Bool} (j:Nonempty (PLift (y=(Ai n:Nat)-(Ai (ln f):Nat)+(s:Nat)+(t:Nat)))) (m:Np ln K.nm K.nl=s+t) (h:∀b,K.T b=(10,0)->JJ w b (ln b)) (g:Nonempty (PLift (Np ln K.nm K.nl<=40))) (l:Nonempty (PLift (Np ln K.nm K.nl=Np (λb=>(K.ct b).ws.length) K.nm K.nl/\ln f=(K.ct f).ws.length))) (k:x=true ↔ y<=40):X0 K w f n x:=by
 obtain⟨⟨j⟩⟩:=j;obtain⟨⟨d⟩⟩:=g;obtain⟨⟨a,c⟩⟩:=l;refine⟨λe=>?_,?_⟩
 .have:=k.1 e;exact⟨ln,h,d,zD⟩
 .unfold ag KS.Gw;rw[k,<-a,<-c];omega
section
variable (m:Nat) (w:o_)
theorem YZ (K:KS) (f n:Nat) (h:AV K w) (tf:K.T f=(10,0)) (hn:n<=1000) (hnl:K.nl.length<=1000):
  O_ m 281 #[.pointer (some (S_ K.kb 4)),Q_ f,b_ (n:Nat)] w λe w'=>Ac No w w'/\∃x,e=.returned (.bool x)/\X0 K w f n x:=by
 obtain⟨l,d,p⟩:=h.dk;obtain⟨af,cf,q0,hnf⟩:=h.bv8 d tf;have E:∀{w1 o},Ac No w w1->K.T o=(10,0)->∃a c,w1.cell? (R_ o)=some (.slice a (l o) c)/\l o<=64:=λz D=>(h.no z).bv8 (λb e=>(d b e).keep z id) D
 have p:=Nonempty.intro (PLift.up p);have G:=Nonempty.intro (PLift.up (And.intro (h.be5 d) (h.fct d tf)));have JA:Ai n<=200:=by unfold Ai;omega
 have Ii:=gy hnf;gi_enter func281,ntmps281;gi_wp2;refine CG (P:=prog) No _ rfl rfl sJ 7 59 [0,2,3,4,5,6] [1] sJ (by rfl) (λ_ v W=>v=b_ (Ai n:Nat)) (λ_ _ _ _ _ h _=>h) _ _ rfl rfl ?_;gi_wp2_with (gi_at_call 48;refine(F9 _ _ _ zD).mono ?_;rintro e w1 ⟨rfl,rfl⟩);refine⟨rfl,sJ,?_,?_,?_⟩
 .intro W z;have d0:=z.has (w:=w.drew) q0
  repeat' (refine Au ?_ ?_)
  all_goals first|exact eu|gi_wp2
 .intro i hi u W z _;obtain rfl:i=1:=by simpa using hi
  refine BC rfl λKK Nc=>?_
  show wpListIn NF m prog _ _ _ (Act.put _ (some 13) (u 1)) _;gi_wp2_with (gi_at_call 48;refine(F9 _ _ _ zD).mono ?_;rintro e w1 ⟨rfl,rfl⟩);exact⟨_,rfl,Ac.refl _ _,rfl⟩
 .intro u W z hu;have hu:=hu 1 zF;show wpListIn NF m prog _ _ _ (Act.put _ (some 13) (u 1)) _;rw[hu];have KW:Ac No w W:=(Ac.refl No w).drew.then z;have hW:=h.no KW;obtain⟨es,hld,X⟩:=yP hW;gi_wp2_with (first|(gi_at_call 48;refine(F9 _ _ _ zD).mono ?_;rintro e w1 ⟨rfl,rfl⟩)|refine VF rfl (.tmp 23) 102 rfl rfl hld ?_);gi_loopw [7,25] (λa i wr=>∃(k:Nat) (x:Int),k<=16/\a=b_ x/\-1000<=x/\x<=1000+10*k/\i=b_ k/\Ac No w wr/\Nonempty (PLift (x=(Ai n:Nat)-(Ai (l f):Nat)+(BK (Pq l K.nm) (List.range k):Nat)))) (λ_ i _=>16-(intOf i).toNat)
  case atStart=>exact⟨0,_,zD,rfl,zD,zD,rfl,KW,⟨⟨by simp[BK]⟩⟩⟩
  case round=>
   obtain⟨k,x,hk,rfl,OV,ML,rfl,KK,r⟩:=hrel
   by_cases BL:k<16
   .have hlt':(k:Int)<16:=zD;have q:=X k BL wr;have hr:=h.no KK;cases hnm:K.nm k with
    |none=>
     rw[hnm]at q
     simp only[U8]at q
     gi_wp2_with (refine QX rfl (.tmp 24) (.tmp 25) 102 rfl rfl rfl q ?_)
     go_roundw
     case rel=>exact⟨k+1,x,zD,rfl,zD,zD,by go_num,KK,⟨⟨by obtain⟨⟨r⟩⟩:=r;rw[Tv,O7 hnm];omega⟩⟩⟩
     case measure=>simp[intOf];omega
    |some o=>
     rw[hnm]at q
     simp only[U8,ptr]at q
     obtain⟨ks,_,S⟩:=hr.k
     have D:=(S.nm k BL).2 o hnm
     obtain⟨a',c',q',B⟩:=E KK D
     have Q:=gy B
     gi_wp2_with (first|refine QX rfl (.tmp 24) (.tmp 25) 102 rfl rfl rfl q ?_|(gi_at_call 48;refine(F9 _ _ _ zD).mono ?_;rintro e w1 ⟨rfl,rfl⟩))
     go_roundw
     case rel=>exact⟨k+1,_,zD,rfl,zD,zD,by go_num,KK,⟨⟨by obtain⟨⟨r⟩⟩:=r;rw[Tv,QE hnm];omega⟩⟩⟩
     case measure=>simp[intOf];omega
   .obtain rfl:k=16:=zD;have hr:=h.no KK;obtain⟨ks,H,S⟩:=hr.k;obtain⟨v,q,hN,R⟩:=S.nl;have q20:=(Ah H 20).trans q;obtain⟨rfl,J⟩|⟨g,c,rfl,hR,tg⟩:=hN
    .gi_wp2;refine wpIn_loop_once ?_;gi_wp2
     all_goals go_ret
     all_goals exact⟨KK,_,rfl,lL (y:=x) (s:=BK (Pq l K.nm) (List.range 16)) (t:=0) (let ⟨⟨e⟩⟩:=r;⟨⟨by rw[e];simp⟩⟩) (by rw[J];rfl) d p G zF⟩
    .gi_wp2;gi_loopw [7,44] (λa i wr=>∃(j:Nat) (y:Int),j<=K.nl.length/\a=b_ y/\-1000<=y/\y<=2000+10*j/\i=b_ j/\Ac No w wr/\Nonempty (PLift (y=(Ai n:Nat)-(Ai (l f):Nat)+(BK (Pq l K.nm) (List.range 16):Nat)+(BK (λb=>Ai (l b)) (K.nl.take j):Nat)))) (λ_ i _=>K.nl.length-(intOf i).toNat)
     case atStart=>exact⟨0,x,zD,rfl,zD,zD,rfl,KK,⟨⟨by obtain⟨⟨r⟩⟩:=r;simp[BK,r]⟩⟩⟩
     case round=>
      obtain⟨j,y,hj,rfl,hy1,hy2,rfl,C,O⟩:=hrel
      by_cases I:j<K.nl.length
      .have M:K.nl[j]?=some K.nl[j]:=IG I;generalize K.nl[j]=o at M;have Y:=h.no C;have D:=R o (t_ M);obtain⟨a',c',q',B⟩:=E C D;have Q:=gy B;obtain⟨ks2,Xv,U⟩:=Y.k;obtain⟨v2,hv2,hN2,_⟩:=U.nl;have A:w.cell? (S_ g j)=some (Q_ o):=by
        obtain⟨ks3,Z,V⟩:=h.k
        have e3:=KK.old Z id
        rw[H]at e3
        obtain rfl:ks=ks3:=by simpa using e3
        obtain⟨v3,L,N,_⟩:=V.nl
        rw[q]at L
        cases L
        obtain⟨e,_⟩|⟨g3,c3,e,WW,_⟩:=N
        .cases e
        .cases e;rw[WW.cell zD];simp[Bj,M,ptr]
       have d3:=C.has A;gi_wp2_with (gi_at_call 48;refine(F9 _ _ _ zD).mono ?_;rintro e w1 ⟨rfl,rfl⟩);go_roundw
       case rel=>
        have F:Nonempty (PLift (y+(Ai (l o):Nat)=(Ai n:Nat)-(Ai (l f):Nat)+(BK (Pq l K.nm) (List.range 16):Nat)+(BK (λb=>Ai (l b)) (K.nl.take (j+1)):Nat))):=⟨⟨by obtain⟨⟨O⟩⟩:=O;rw[Ρ M];omega⟩⟩
        first
        |exact⟨j+1,_,zD,rfl,zD,zD,by go_num,C,F⟩
        |exact⟨_,_,.int .i64 ((j:Int)+1),_,_,_,_,_,_,_,_,_,_,_,_,⟨j+1,y+Ai (l o),zD,rfl,zD,zD,zF,C,F⟩,rfl⟩
       case measure=>simp[intOf];omega
      .obtain rfl:j=K.nl.length:=zD;gi_wp2
       all_goals go_ret
       all_goals exact⟨C,_,rfl,lL O (by rw[List.take_length];rfl) d p G zF⟩
end
theorem as3:prog.underlying 3=some (.int .i64):=sJ
theorem ab9 (m:Nat):(Builtin.zeroCells (Value.int .u16 0).cells m).toList=Az (List.replicate m 0):=by
 simp[Builtin.zeroCells,Az,Value.cells];apply List.ext_getElem?;intro j;simp[List.getElem?_map,List.getElem?_replicate];by_cases h:j<m<;>simp[h,Nat.mod_one]
section
variable {w:o_} {ty:j_} {m:Nat}
theorem asI (w:o_):(asIntOf (b_ (m:Nat))).run prog w=.ok (.i64,(m:Int)) w:=rfl
theorem wrI (h:m<=1000):IntKind.i64.wrap (m:Int)=m:=by unfold IntKind.wrap;simp[IntKind.bits,IntKind.signed];split<;>omega
theorem bj6 (h:n<=c):(Builtin.append_ #[116,3] ty #[.slice a n c,b_ ((0:Nat):Int)]).run prog w=.ok (.slice a n c) w:=by
 obtain⟨ii,e,f,_⟩:=JI.parts;have b:=λw=>asI (m:=0) w
 have d:=wrI (m:=0) zD;simp only[Int.natCast_zero]at b d ⊢;cases a<;>simp[Builtin.append_,run_underlying JI.und,run_underlying as3,sizeOf,typeInfo,zeroValue,e,f,Builtin.lenOf,h,asInt,b,d,storeCells]
theorem ar5 {g:Nat} {q:X_} {T:j_} (t:w.heap[g]?=some (N_ q T)) (v:1<=m) (s:m<=1000) (r:n+m<=c) (u:n+m<=q.size):(Builtin.append_ #[116,3] ty #[P_ g n c,b_ (m:Nat)]).run prog w=.ok (P_ g (n+m) c) (w.setRow g (RG q.toList n (Az (List.replicate m 0))).toArray):=by
 obtain⟨ii,l,p,o,a⟩:=JI.parts;have j:=λw=>asI (m:=m) w
 have k:=wrI (m:=m) s;have d:¬((m:Int)<0):=zD
 have e:¬(281474976710656<(m:Int)*(ii.bytes:Int)):=by rw[a];omega
 have b:¬m=0:=zD
 have h:=run_storeCells_at prog g n T (Az (List.replicate m 0)) 0 q w t (by simp[Az];omega) (EF _);simp only[Nat.add_zero]at h;have i:((R_ g):f_).add n=(S_ g n):=by unfold Addr.add;split<;>simp_all
 have f:=ab9 m;simp[Builtin.append_,run_underlying JI.und,run_underlying as3,sizeOf,typeInfo,zeroValue,l,p,o,Builtin.lenOf,r,e,d,b,asInt,j,k,i,f,h,RG]
theorem bg5 (o:1<=m) (l:m<=1000):(Builtin.append_ #[116,3] ty #[.slice none 0 0,b_ (m:Nat)]).run prog w=.ok (P_ w.heap.size m (grownCap w m 0 123)) (w.drew.alloc (.cells ((Builtin.zeroCells (Value.int .u16 0).cells m)++Builtin.zeroCells (Value.int .u16 0).cells (grownCap w m 0 123-m)) 123)):=by
 obtain⟨ii,i,k,j,c⟩:=JI.parts;have g:=λw=>asI (m:=m) w
 have h:=wrI (m:=m) l;have e:¬((m:Int)<0):=zD
 have f:¬(281474976710656<(m:Int)*(ii.bytes:Int)):=by rw[c];omega
 have d:¬m=0:=zD
 have b:¬(9223372036854775807<(m:Int)):=zD
 have a:¬(281474976710656<Builtin.nextslicecap m 0*ii.bytes):=by rw[nextslicecap_zero zD,c];omega
 simp[Builtin.append_,run_underlying JI.und,run_underlying as3,sizeOf,typeInfo,zeroValue,i,k,j,Builtin.lenOf,f,e,d,b,a,asInt,g,h,Question.forced,run_firstCells_none,newRow,grownCap]
end
theorem bw7 {T:Tag} {p M L m:Nat} {ty:j_} (O:RU T w p M (.slice a n c) ws) (Q:M<=L) (S:n+m<=L) (R:L<=1000):∃v W,(Builtin.append_ #[116,3] ty #[.slice a n c,b_ (m:Nat)]).run prog w=.ok v W/\Uc T w p L (ws++List.replicate m 0) v W/\(∃P N,v=.slice P (n+m) N)/\Ac (On T λt=>t=(15,p)) w W:=by
 by_cases I:m=0
 .subst I;rw[List.replicate_zero,List.append_nil];obtain⟨e,rfl⟩|⟨g,N,e,f,B,u,s⟩:=O
  .cases e;exact⟨_,_,bj6 (w_ _),.inl ⟨rfl,rfl⟩,⟨_,_,rfl⟩,Ac.refl _ _⟩
  .cases e;exact⟨_,_,bj6 f.le,.inr ⟨g,c,rfl,f,pV B Q,u,.inl s⟩,⟨_,_,rfl⟩,Ac.refl _ _⟩
 .have b:(List.replicate m 0).length=m:=List.length_replicate;obtain⟨e,rfl⟩|⟨g,N,e,f,B,u,s⟩:=O
  .cases e;rw[List.nil_append];have y:=grownCap_ge w m 0 123;have z:m<=maxLen:=(by simp only[maxLen];omega);refine⟨_,_,bg5 zD zD,.inr ⟨w.heap.size,grownCap w m 0 123,by rw[b],⟨⟨_,Y7 rfl,?_,?_⟩,by rw[b];exact y,grownCap_le_maxLen w m 0 123 z,by simp[Az],EF _⟩,by rw[b];omega,λx d=>?_,.inr (w_ _)⟩,⟨_,_,by rw[Nat.zero_add]⟩,((Ac.refl No w).drew.alloc _).no⟩
   .simp only[Array.size_append,size_zeroCells,JI.zs];omega
   .rw[b,Array.toList_append,ab9];have:m*1=(Az (List.replicate m 0)).length:=(by simp[Az]);rw[this];exact List.take_left
   .rw[(List.mem_replicate.1 d).2];omega
  .cases e;obtain⟨i,G,l,h⟩:=f.blk;have H:=f.le;have d:∀x∈ws++List.replicate m 0,x<65536:=λx d=>by
    obtain d|d:=gJ.1 d
    .exact u x d
    .rw[(List.mem_replicate.1 d).2];omega
   have r:(ws++List.replicate m 0).length=ws.length+m:=(by rw[jR,b]);have j:Az (ws++List.replicate m 0)=Az ws++Az (List.replicate m 0):=(by simp[Az]);by_cases C:ws.length+m<=c
   .have q:(Az (List.replicate m 0)).length=m:=(by simp[Az]);refine⟨_,_,ar5 G zD zD C (by rw[l];omega),.inr ⟨g,c,by rw[r],?_,zD,d,.inl s⟩,⟨_,_,rfl⟩,((Ac.refl (At g) w).setRow _ _ λ_=>rfl).on λx _ e=>by subst e;exact s⟩;rw[r];refine Vb f ?_ C ?_ (EF _)
    .have k:i.toList.length=c*1:=(by simpa using l);rw[Oh (by rw[q,k];omega)];exact k
    .unfold RG;have o:(i.toList.take (ws.length*1)++Az (List.replicate m 0)).length=(ws.length+m)*1:=(by rw[h,jR,q];simp[Az]);have e1:ws.length*1=ws.length:=zD;rw[e1]at o h;rw[<-o,List.take_left,h,j]
   .obtain⟨D,J,E,A,F⟩:=qX (ty:=ty) (ti:=3) JI f (w_ _) (by omega:0<m) zD zD zD as3;refine⟨_,_,E,.inr ⟨w.heap.size,D,by rw[r],?_,zD,d,.inr (w_ _)⟩,⟨_,_,rfl⟩,F.no⟩;rw[r];have e1:(Az ws).take (ws.length*1)=Az ws:=List.take_of_length_le (by simp[Az]);rw[e1,ab9,<-j]at A;exact A
end Go.Fxa
