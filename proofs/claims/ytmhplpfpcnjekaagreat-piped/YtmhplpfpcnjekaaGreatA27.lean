/- A file with a place: Seek, Rea -/
import Derived.Test.YtmhplpfpcnjekaaGreatA26
namespace Go.Fxa
open Conc Proofs RowKit Proofs.Tryz
set_option maxRecDepth 1000000
set_option maxHeartbeats 0
theorem A8.place {K:KS} {w:o_} {e0 f n:Nat} (h:A8 K w) (te:K.T e0=(12,f)) (hn:n<=64):A8 { K with ct:=Aj K.ct e0 { K.ct e0 with n:=n } } (w.setCell (T_ e0 2) (b_ (n:Nat)))/\BV K.T K.T w (w.setCell (T_ e0 2) (b_ (n:Nat))):=by
 obtain⟨c,d,_⟩:=h.fl.Iu e0 f te;exact A8.yA (p:=e0) h ((p_ _ _).setCell _ λ_=>rfl) (by rw[te];simp) (by rw[te];simp) (by rw[te];simp) (FOne.ad7 te ((Ak c _).trans (by simp[Aj])) d (by simp[Aj];exact hn)) λb a=>if_neg a
def XSk (K:KS) (e0 pl:Nat):(Nat->Ct)->Nat->Nat->n_->Prop:=λct x y f=>(64<pl/\ct=K.ct/\x=0/\y=13/\f=.nilFunc)\/(pl<=64/\ct=Aj K.ct e0 { K.ct e0 with n:=pl }/\x=0/\y=0/\f=.nilFunc)
def xH (K:KS) (e0 f:Nat) (r:PR) (o n:Nat):List Nat->(Nat->Ct)->Nat->Nat->n_->Prop:=λAe ct x y v=>x=Nat.min ((K.ct f).ws.length-(K.ct e0).n) n/\Ae=N7 r.Ae o (((K.ct f).ws.drop (K.ct e0).n).take x)/\ct=Aj K.ct e0 { K.ct e0 with n:=(K.ct e0).n+x }/\y=0/\v=.nilFunc
theorem xH.of {K:KS} {e0 f o n x L pl q:Nat} {r:PR} {Ae ws wa:List Nat} (hw:Hid ((K.ct f).ws=ws)) (hp:Hid ((K.ct e0).n=pl)) (h:Hid (x=Nat.min L n/\Ae=N7 r.Ae o (wa.take x))) (hL:L=ws.length-pl) (hwa:wa=ws.drop pl) (hq:q=pl+x):xH K e0 f r o n Ae (Aj K.ct e0 { K.ct e0 with n:=q }) x 0 .nilFunc:=by
 refine⟨?_,?_,?_,rfl,rfl⟩
 .rw[hw.out,hp.out,<-hL];exact h.out.1
 .rw[hw.out,hp.out,<-hwa];exact h.out.2
 .rw[hp.out,hq]
section
variable (m:Nat) (w:o_)
theorem dI (K:KS) (b e0 f o n:Nat) (r:PR) (v:n_) (h:A8 K w) (hb:K.ps b=some r) (hn:r.en=false) (hI:∀z∈r.Ae,z<65536) (te:K.T e0=(12,f)) (hv:Jq r v o n):
  P_ m 277 #[R_ e0,v] w (WJ (xH K e0 f r o n) K b r w):=by
 obtain⟨L,P,_⟩:=Oa w;have M:=h.no L;have O:K.T w.heap.size=(0,0):=h.lt _ (w_ _);obtain⟨d0,rfl⟩:∃d,v=.slice d n n:=by
  obtain⟨rfl,rfl⟩|⟨g,c,_,rfl,_⟩:=hv
  .exact⟨none,rfl⟩
  .exact⟨_,rfl⟩
 obtain⟨I,tf,X⟩:=M.fl.Iu e0 f te;obtain⟨u,hf,hu⟩:=M.fl.file f tf;obtain⟨q,ϩ⟩:∃q,Hid ((K.ct e0).n=q):=⟨_,rfl⟩;obtain⟨ws,N⟩:∃ws,Hid ((K.ct f).ws=ws):=⟨_,rfl⟩;rw[ϩ.out]at I X;rw[N.out]at hu;have d1:(w.alloc V_).cell? (T_ e0 1)=some (R_ f):=(Af I 1).trans rfl;have d2:(w.alloc V_).cell? (T_ e0 2)=some (b_ q):=(Af I 2).trans rfl;have d3:(w.alloc V_).cell? (S_ f)=some u:=(Af hf 0).trans rfl;obtain⟨rfl,rfl⟩|⟨g,c,rfl,hR,hw64,hwx,tg⟩:=hu
 .obtain⟨w2,k,Ae,U,W,_,E,G,H,F,i,s⟩:=Js (ty:=3) (a:=none) (CQ:=0) (sCap:=0) (ws:=[]) M hb hn hI hv (by simp) rfl (λV e=>by cases e) (λ_=>rfl);obtain rfl:k=0:=by omega
  by_cases Z:q=0
  .subst Z;simp only[Int.natCast_zero]at d2 I;have e2:w2.cell? (T_ e0 2)=some (b_ 0):=(i.cell (World.block_lt_of_cell? _ _ d2) (by unfold On;rw[te];simp)).trans d2;have p:=i.old I (by unfold On;rw[te];simp);have S:=BN p 2;have t:=A8.place (n:=0) H te (by omega);simp only[Int.natCast_zero]at t;gi_enter func277,ntmps277;gi_wp2_with fail;have A:BV K.T K.T (w.alloc V_) _:=F.trans t.2;gi_wp2_with (first|(gi_at_call 272;refine(CZ _ _ 0 (by omega)).mono ?_;rintro e R ⟨rfl,l⟩;obtain⟨Q,B,C,D⟩:=AU (x:=0) (y:=0) (f:=.nilFunc) (l.old (A.old P O) id) rfl)|refine Io B ?_);refine TR 0 0 (by simp[results,results277,go_sem,Jj D]) rfl ?_;exact Ez (x:=0) (y:=0) h.lt L ((A).then l) ((t.1).no l) C (by omega) (by omega) (.inl rfl) (E) (G) (xH.of N ϩ s rfl rfl rfl)
  .have f1:(0:Int)<(q:Int):=(by omega);have e2:w2.cell? (T_ e0 2)=some (b_ q):=(i.cell (World.block_lt_of_cell? _ _ d2) (by unfold On;rw[te];simp)).trans d2;have p:=i.old I (by unfold On;rw[te];simp);have S:=BN p 2;have t:=A8.place (n:=q) H te (by omega);gi_enter func277,ntmps277;gi_wp2_with fail;have A:BV K.T K.T (w.alloc V_) _:=F.trans t.2;gi_wp2_with (first|(gi_at_call 272;refine(CZ _ _ 0 (by omega)).mono ?_;rintro e R ⟨rfl,l⟩;obtain⟨Q,B,C,D⟩:=AU (x:=0) (y:=0) (f:=.nilFunc) (l.old (A.old P O) id) rfl)|refine Io B ?_);refine TR 0 0 (by simp[results,results277,go_sem,Jj D]) rfl ?_;exact Ez (x:=0) (y:=0) h.lt L ((A).then l) ((t.1).no l) C (by omega) (by omega) (.inl rfl) (E) (G) (xH.of N ϩ s (by simp) (by simp) rfl)
 .have hle:=hR.le;by_cases Bv:q<ws.length
  .have f1:(q:Int)<(ws.length:Int):=(by omega);have f2:¬c=q:=(by omega);obtain⟨w2,k,Ae,U,W,_,E,G,H,F,i,s⟩:=Js (ty:=3) (a:=some (T_ g q)) (CQ:=ws.length-q) (sCap:=c-q) (ws:=ws.drop q) M hb hn hI hv (λx hx=>hwx x (List.mem_of_mem_drop hx)) (by simp) (λV e j u J=>by
    cases e
    have NH:((T_ g q):f_).add j=(T_ g (q+j)):=by unfold Addr.add;split<;>simp_all
    have Y:=(O5.1 J).1
    simp only[AB,List.length_map,List.length_drop]at Y
    rw[NH,hR.cell (by omega)]
    simpa [AB,List.map_drop,List.getElem?_drop]using J) (λe=>by cases e);have e2:w2.cell? (T_ e0 2)=some (b_ q):=(i.cell (World.block_lt_of_cell? _ _ d2) (by unfold On;rw[te];simp)).trans d2;have p:=i.old I (by unfold On;rw[te];simp);have S:=BN p 2;have t:=A8.place (n:=q+k) H te (by omega);have ev:((q+k:Nat):Int)=(q:Int)+k:=(by omega);rw[ev]at t;gi_enter func277,ntmps277;gi_wp2_with fail;have A:BV K.T K.T (w.alloc V_) _:=F.trans t.2;gi_wp2_with (first|(gi_at_call 272;refine(CZ _ _ k (by omega)).mono ?_;rintro e R ⟨rfl,l⟩;obtain⟨Q,B,C,D⟩:=AU (x:=k) (y:=0) (f:=.nilFunc) (l.old (A.old P O) id) rfl)|refine Io B ?_);refine TR k 0 (by simp[results,results277,go_sem,Jj D]) rfl ?_;exact Ez (x:=k) (y:=0) h.lt L ((A).then l) ((t.1).no l) C (by omega) (by omega) (.inl rfl) (E) (G) (xH.of N ϩ s rfl rfl rfl)
  .obtain hpe|hpl:=(by omega:q=ws.length\/ws.length<q)
   .subst hpe;by_cases hc:c=ws.length
    .obtain⟨w2,k,Ae,U,W,_,E,G,H,F,i,s⟩:=Js (ty:=3) (a:=some (S_ g)) (CQ:=0) (sCap:=0) (ws:=[]) M hb hn hI hv (by simp) rfl (λV e j u J=>by simp[AB]at J) (λe=>by cases e);obtain rfl:k=0:=(by omega);have e2:w2.cell? (T_ e0 2)=some (b_ ws.length):=(i.cell (World.block_lt_of_cell? _ _ d2) (by unfold On;rw[te];simp)).trans d2;have p:=i.old I (by unfold On;rw[te];simp);have S:=BN p 2;have t:=A8.place (n:=ws.length) H te (by omega);gi_enter func277,ntmps277;gi_wp2_with fail;have A:BV K.T K.T (w.alloc V_) _:=F.trans t.2;gi_wp2_with (first|(gi_at_call 272;refine(CZ _ _ 0 (by omega)).mono ?_;rintro e R ⟨rfl,l⟩;obtain⟨Q,B,C,D⟩:=AU (x:=0) (y:=0) (f:=.nilFunc) (l.old (A.old P O) id) rfl)|refine Io B ?_);refine TR 0 0 (by simp[results,results277,go_sem,Jj D]) rfl ?_;exact Ez (x:=0) (y:=0) h.lt L ((A).then l) ((t.1).no l) C (by omega) (by omega) (.inl rfl) (E) (G) (xH.of N ϩ s (by simp) (by simp) rfl)
    .obtain⟨w2,k,Ae,U,W,_,E,G,H,F,i,s⟩:=Js (ty:=3) (a:=some (T_ g ws.length)) (CQ:=0) (sCap:=c-ws.length) (ws:=[]) M hb hn hI hv (by simp) rfl (λV e j u J=>by simp[AB]at J) (λe=>by cases e);obtain rfl:k=0:=(by omega);have e2:w2.cell? (T_ e0 2)=some (b_ ws.length):=(i.cell (World.block_lt_of_cell? _ _ d2) (by unfold On;rw[te];simp)).trans d2;have p:=i.old I (by unfold On;rw[te];simp);have S:=BN p 2;have t:=A8.place (n:=ws.length) H te (by omega);gi_enter func277,ntmps277;gi_wp2_with fail;have A:BV K.T K.T (w.alloc V_) _:=F.trans t.2;gi_wp2_with (first|(gi_at_call 272;refine(CZ _ _ 0 (by omega)).mono ?_;rintro e R ⟨rfl,l⟩;obtain⟨Q,B,C,D⟩:=AU (x:=0) (y:=0) (f:=.nilFunc) (l.old (A.old P O) id) rfl)|refine Io B ?_);refine TR 0 0 (by simp[results,results277,go_sem,Jj D]) rfl ?_;exact Ez (x:=0) (y:=0) h.lt L ((A).then l) ((t.1).no l) C (by omega) (by omega) (.inl rfl) (E) (G) (xH.of N ϩ s (by simp) (by simp) rfl)
   .have f1:(ws.length:Int)<(q:Int):=(by omega);by_cases hc:c=ws.length
    .obtain⟨w2,k,Ae,U,W,_,E,G,H,F,i,s⟩:=Js (ty:=3) (a:=some (S_ g)) (CQ:=0) (sCap:=0) (ws:=[]) M hb hn hI hv (by simp) rfl (λV e j u J=>by simp[AB]at J) (λe=>by cases e);obtain rfl:k=0:=(by omega);have e2:w2.cell? (T_ e0 2)=some (b_ q):=(i.cell (World.block_lt_of_cell? _ _ d2) (by unfold On;rw[te];simp)).trans d2;have p:=i.old I (by unfold On;rw[te];simp);have S:=BN p 2;have t:=A8.place (n:=q) H te (by omega);gi_enter func277,ntmps277;gi_wp2_with fail;have A:BV K.T K.T (w.alloc V_) _:=F.trans t.2;gi_wp2_with (first|(gi_at_call 272;refine(CZ _ _ 0 (by omega)).mono ?_;rintro e R ⟨rfl,l⟩;obtain⟨Q,B,C,D⟩:=AU (x:=0) (y:=0) (f:=.nilFunc) (l.old (A.old P O) id) rfl)|refine Io B ?_);refine TR 0 0 (by simp[results,results277,go_sem,Jj D]) rfl ?_;exact Ez (x:=0) (y:=0) h.lt L ((A).then l) ((t.1).no l) C (by omega) (by omega) (.inl rfl) (E) (G) (xH.of N ϩ s (by omega) (List.drop_eq_nil_of_le (by omega)).symm rfl)
    .obtain⟨w2,k,Ae,U,W,_,E,G,H,F,i,s⟩:=Js (ty:=3) (a:=some (T_ g ws.length)) (CQ:=0) (sCap:=c-ws.length) (ws:=[]) M hb hn hI hv (by simp) rfl (λV e j u J=>by simp[AB]at J) (λe=>by cases e);obtain rfl:k=0:=(by omega);have e2:w2.cell? (T_ e0 2)=some (b_ q):=(i.cell (World.block_lt_of_cell? _ _ d2) (by unfold On;rw[te];simp)).trans d2;have p:=i.old I (by unfold On;rw[te];simp);have S:=BN p 2;have t:=A8.place (n:=q) H te (by omega);gi_enter func277,ntmps277;gi_wp2_with fail;have A:BV K.T K.T (w.alloc V_) _:=F.trans t.2;gi_wp2_with (first|(gi_at_call 272;refine(CZ _ _ 0 (by omega)).mono ?_;rintro e R ⟨rfl,l⟩;obtain⟨Q,B,C,D⟩:=AU (x:=0) (y:=0) (f:=.nilFunc) (l.old (A.old P O) id) rfl)|refine Io B ?_);refine TR 0 0 (by simp[results,results277,go_sem,Jj D]) rfl ?_;exact Ez (x:=0) (y:=0) h.lt L ((A).then l) ((t.1).no l) C (by omega) (by omega) (.inl rfl) (E) (G) (xH.of N ϩ s (by omega) (List.drop_eq_nil_of_le (by omega)).symm rfl)
end
theorem ag6 {K:KS} {w:o_} (h:A8 K w):∃es:X_,(Instr.loadAt 102 (.pointer (some (T_ K.kb 4)))).run prog w=.ok (.agg es) w/\∀i,i<16->∀w,(Instr.index 102 (.agg es) (b_ (i:Nat))).run prog w=.ok (ϯ (K.nm i)) w:=by
 obtain⟨a,r,d⟩:=h.k;have t:20<a.size:=by
  obtain⟨_,h,_⟩:=d.nl
  exact(y_.1 h).1
 have c:((a.toList.drop 4).take 16).length=16:=by simp;omega
 have g:=run_loadCells_list (P:=prog) w (T_ K.kb 4) ((a.toList.drop 4).take 16) (λj v b=>by
  have m:((T_ K.kb 4):f_).add j=(T_ K.kb (4+j)):=by unfold Addr.add;split<;>simp_all
  rw[m,Af r]
  rw[List.getElem?_take]at b
  split at b
  .simpa using b
  .cases b)
 rw[c]at g;have a1:∀w,(isAgg 102).run prog w=.ok true w:=λw=>by kernel_rfl
 have a2:∀w,(sizeOf 102).run prog w=.ok 16 w:=λw=>by kernel_rfl
 have n:∀w,(isAgg 101).run prog w=.ok false w:=λw=>by kernel_rfl
 have o:∀w,(sizeOf 101).run prog w=.ok 1 w:=λw=>by kernel_rfl
 refine⟨((a.toList.drop 4).take 16).toArray,by simp[Instr.loadAt,loadVar,Instr.sureAddr,a1,a2,g],λi f w=>?_⟩;have q:=(d.nm i f).1;have e:((a.toList.drop 4).take 16).toArray[i]?=some (ϯ (K.nm i)):=by
  simp only[List.getElem?_toArray,List.getElem?_take,List.getElem?_drop,Array.getElem?_toList]
  rw[if_pos f];exact q
 have p:∀w:o_,(asIntOf (b_ (i:Nat))).run prog w=.ok (.i64,(i:Int)) w:=λ_=>rfl
 have s:∀w,(underlying 102).run prog w=.ok (.array 16 101) w:=run_underlying underlying102;generalize ((a.toList.drop 4).take 16).toArray=es at e;have l:(i:Int)<16:=by omega
 simp[Instr.index,p,s,part,n,o,e,l]
theorem A8.bb4 {K:KS} {w:o_} {f:Nat} {ln:Nat->Nat} (h:A8 K w) (hl:∀b,K.T b=(10,0)->LenAt w b (ln b)) (tf:K.T f=(10,0)):∃a c,w.cell? (S_ f)=some (.slice a (ln f) c)/\ln f<=64:=by
 obtain⟨u,d,i⟩:=h.fl.file f tf;obtain⟨a,c,rfl,_,g,_⟩:=i.shape;have e:ln f=(K.ct f).ws.length:=(hl f tf).eq ⟨a,c,_,d⟩;exact⟨a,c,by rw[e];exact(Af d 0).trans rfl,by omega⟩
theorem ZK {n:Nat} (h:n<=64):Am n<=8:=by unfold Am;omega
theorem Rn {f:Nat->Nat} {k:Nat}:BF f (List.range (k+1))=BF f (List.range k)+f k:=by
 rw[List.range_succ,SH];simp[BF]
theorem dL {ln:Nat->Nat} {nm:Nat->d_ Nat} {i:Nat} (h:nm i=none):UE ln nm i=0:=by unfold UE;rw[h]
theorem π {ln:Nat->Nat} {nm:Nat->d_ Nat} {i f:Nat} (h:nm i=some f):UE ln nm i=Am (ln f):=by unfold UE;rw[h]
theorem uJ {f:Nat->Nat} {l:List Nat} {j b:Nat} (h:l[j]?=some b):BF f (l.take (j+1))=BF f (l.take j)+f b:=by
 rw[List.take_add_one,h,SH];simp[BF]
theorem eQ {K:KS} {w:o_} {f n:Nat} {ln:Nat->Nat} {y:Int} {s t:Nat} {x:Bool} (hY:Nonempty (PLift (y=(Am n:Nat)-(Am (ln f):Nat)+(s:Nat)+(t:Nat)))) (hs:VS ln K.nm K.nl=s+t) (hln:∀b,K.T b=(10,0)->LenAt w b (ln b)) (hds:Nonempty (PLift (VS ln K.nm K.nl<=40))) (hx:x=true->y<=40):lN K w f n x:=λe=>by
 obtain⟨⟨hY⟩⟩:=hY;obtain⟨⟨a⟩⟩:=hds;have:=hx e;exact⟨ln,hln,a,by omega⟩
section
variable (m:Nat) (w:o_)
theorem Xi (K:KS) (f n:Nat) (h:A8 K w) (tf:K.T f=(10,0)) (hn:n<=1000) (hnl:K.nl.length<=1000):
  P_ m 281 #[.pointer (some (T_ K.kb 4)),R_ f,b_ (n:Nat)] w λe w'=>Keep No w w'/\∃x,e=.returned (.bool x)/\lN K w f n x:=by
 obtain⟨d,p,o⟩:=h.dk;obtain⟨af,cf,q0,hnf⟩:=h.bb4 p tf;have E:∀{w1 l},Keep No w w1->K.T l=(10,0)->∃a c,w1.cell? (S_ l)=some (.slice a (d l) c)/\d l<=64:=λz D=>(h.no z).bb4 (λb e=>(p b e).keep z id) D
 have o:=Nonempty.intro (PLift.up o);have J6:Am n<=200:=by unfold Am;omega
 have LJ:=ZK hnf;gi_enter func281,ntmps281;gi_wp2;refine CP (P:=prog) No _ rfl rfl (by kernel_rfl) 7 59 [0,2,3,4,5,6] [1] (by kernel_rfl) (by rfl) (λ_ v W=>v=b_ (Am n:Nat)) (λ_ _ _ _ _ h _=>h) _ _ rfl rfl ?_;gi_wp2_with (gi_at_call 48;refine(Ig _ _ _ (by omega)).mono ?_;rintro e w1 ⟨rfl,rfl⟩);refine⟨rfl,by kernel_rfl,?_,?_,?_⟩
 .intro W z;have d0:=z.has (w:=w.drew) q0
  repeat' (refine Az ?_ ?_)
  all_goals first|exact trivial|gi_wp2
 .intro i hi u W z _;obtain rfl:i=1:=by simpa using hi
  refine BJ rfl λKK Qj=>?_
  show wpListIn NF m prog _ _ _ (Act.put _ (some 13) (u 1)) _;gi_wp2_with (gi_at_call 48;refine(Ig _ _ _ (by omega)).mono ?_;rintro e w1 ⟨rfl,rfl⟩);exact⟨_,rfl,p_ _ _,rfl⟩
 .intro u W z hu;have hu:=hu 1 (by simp);show wpListIn NF m prog _ _ _ (Act.put _ (some 13) (u 1)) _;rw[hu];have KW:Keep No w W:=(p_ No w).drew.then z;have hW:=h.no KW;obtain⟨es,Z,V⟩:=ag6 hW;gi_wp2_with (first|(gi_at_call 48;refine(Ig _ _ _ (by omega)).mono ?_;rintro e w1 ⟨rfl,rfl⟩)|refine YX rfl (.tmp 23) 102 rfl rfl Z ?_);gi_loopw [7,25] (λa i wr=>∃(k:Nat) (x:Int),k<=16/\a=b_ x/\-1000<=x/\x<=1000+10*k/\i=b_ k/\Keep No w wr/\Nonempty (PLift (x=(Am n:Nat)-(Am (d f):Nat)+(BF (UE d K.nm) (List.range k):Nat)))) (λ_ i _=>16-(intOf i).toNat)
  case atStart=>exact⟨0,_,by omega,rfl,by omega,by omega,rfl,KW,⟨⟨by simp[BF]⟩⟩⟩
  case round=>
   obtain⟨k,x,hk,rfl,J4,JE,rfl,KK,r⟩:=hrel
   by_cases Bv:k<16
   .have hlt':(k:Int)<16:=(by omega);have q:=V k Bv wr;have hr:=h.no KK;cases hnm:K.nm k with
    |none=>
     rw[hnm]at q
     simp only[ϯ]at q
     gi_wp2_with (refine VF rfl (.tmp 24) (.tmp 25) 102 rfl rfl rfl q ?_)
     go_roundw
     case rel=>exact⟨k+1,x,by omega,rfl,by omega,by omega,by go_num,KK,⟨⟨by obtain⟨⟨r⟩⟩:=r;rw[Rn,dL hnm];omega⟩⟩⟩
     case measure=>simp[intOf];omega
    |some l=>
     rw[hnm]at q
     simp only[ϯ,ptr]at q
     obtain⟨ks,_,R⟩:=hr.k
     have D:=(R.nm k Bv).2 l hnm
     obtain⟨a',c',q',B⟩:=E KK D
     have O:=ZK B
     gi_wp2_with (first|refine VF rfl (.tmp 24) (.tmp 25) 102 rfl rfl rfl q ?_|(gi_at_call 48;refine(Ig _ _ _ (by omega)).mono ?_;rintro e w1 ⟨rfl,rfl⟩))
     go_roundw
     case rel=>exact⟨k+1,_,by omega,rfl,by omega,by omega,by go_num,KK,⟨⟨by obtain⟨⟨r⟩⟩:=r;rw[Rn,π hnm];omega⟩⟩⟩
     case measure=>simp[intOf];omega
   .obtain rfl:k=16:=(by omega);have hr:=h.no KK;obtain⟨ks,G,R⟩:=hr.k;obtain⟨v,q,hN,Q⟩:=R.nl;have q20:=(Af G 20).trans q;obtain⟨rfl,I⟩|⟨g,c,rfl,hR,tg⟩:=hN
    .gi_wp2;refine wpIn_loop_once ?_;gi_wp2
     all_goals go_ret
     all_goals exact⟨KK,_,rfl,eQ (y:=x) (s:=BF (UE d K.nm) (List.range 16)) (t:=0) (let ⟨⟨e⟩⟩:=r;⟨⟨by rw[e];simp⟩⟩) (by rw[I];rfl) p o (by simp)⟩
    .gi_wp2;gi_loopw [7,44] (λa i wr=>∃(j:Nat) (y:Int),j<=K.nl.length/\a=b_ y/\-1000<=y/\y<=2000+10*j/\i=b_ j/\Keep No w wr/\Nonempty (PLift (y=(Am n:Nat)-(Am (d f):Nat)+(BF (UE d K.nm) (List.range 16):Nat)+(BF (λb=>Am (d b)) (K.nl.take j):Nat)))) (λ_ i _=>K.nl.length-(intOf i).toNat)
     case atStart=>exact⟨0,x,by omega,rfl,by omega,by omega,rfl,KK,⟨⟨by obtain⟨⟨r⟩⟩:=r;simp[BF,r]⟩⟩⟩
     case round=>
      obtain⟨j,y,hj,rfl,hy1,hy2,rfl,C,N⟩:=hrel
      by_cases H:j<K.nl.length
      .have L:K.nl[j]?=some K.nl[j]:=Lh H;generalize K.nl[j]=l at L;have X:=h.no C;have D:=Q l (t_ L);obtain⟨a',c',q',B⟩:=E C D;have O:=ZK B;obtain⟨ks2,Pm,S⟩:=X.k;obtain⟨v2,hv2,hN2,_⟩:=S.nl;have A:w.cell? (T_ g j)=some (R_ l):=by
        obtain⟨ks3,Y,U⟩:=h.k
        have e3:=KK.old Y id
        rw[G]at e3
        obtain rfl:ks=ks3:=by simpa using e3
        obtain⟨v3,J,M,_⟩:=U.nl
        rw[q]at J
        cases J
        obtain⟨e,_⟩|⟨g3,c3,e,aQ,_⟩:=M
        .cases e
        .cases e;rw[aQ.cell (by omega)];simp[BH,L,ptr]
       have d3:=C.has A;gi_wp2_with (gi_at_call 48;refine(Ig _ _ _ (by omega)).mono ?_;rintro e w1 ⟨rfl,rfl⟩);go_roundw
       case rel=>
        have F:Nonempty (PLift (y+(Am (d l):Nat)=(Am n:Nat)-(Am (d f):Nat)+(BF (UE d K.nm) (List.range 16):Nat)+(BF (λb=>Am (d b)) (K.nl.take (j+1)):Nat))):=⟨⟨by obtain⟨⟨N⟩⟩:=N;rw[uJ L];omega⟩⟩
        first
        |exact⟨j+1,_,by omega,rfl,by omega,by omega,by go_num,C,F⟩
        |exact⟨_,_,.int .i64 ((j:Int)+1),_,_,_,_,_,_,_,_,_,_,_,_,⟨j+1,y+Am (d l),by omega,rfl,by omega,by omega,by simp,C,F⟩,rfl⟩
       case measure=>simp[intOf];omega
      .obtain rfl:j=K.nl.length:=(by omega);gi_wp2
       all_goals go_ret
       all_goals exact⟨C,_,rfl,eQ N (by rw[List.take_length];rfl) p o (by simp)⟩
end
theorem aa1:prog.underlying 3=some (.int .i64):=by kernel_rfl
theorem yg (m:Nat):(Builtin.zeroCells (Value.int .u16 0).cells m).toList=AB (List.replicate m 0):=by
 simp[Builtin.zeroCells,AB,Value.cells];apply List.ext_getElem?;intro j;simp[List.getElem?_map,List.getElem?_replicate];by_cases h:j<m<;>simp[h,Nat.mod_one]
section
variable {w:o_} {ty:j_} {m:Nat}
theorem asI (w:o_):(asIntOf (b_ (m:Nat))).run prog w=.ok (.i64,(m:Int)) w:=rfl
theorem wrI (h:m<=1000):IntKind.i64.wrap (m:Int)=m:=by unfold IntKind.wrap;simp[IntKind.bits,IntKind.signed];split<;>omega
theorem ao5 {a:d_ f_} {n c:Nat} (h:n<=c):(Builtin.append_ #[116,3] ty #[.slice a n c,b_ ((0:Nat):Int)]).run prog w=.ok (.slice a n c) w:=by
 obtain⟨ii,e,f,_⟩:=Jm.parts;have b:=λw=>asI (m:=0) w
 have d:=wrI (m:=0) (by omega);simp only[Int.natCast_zero]at b d ⊢;cases a<;>simp[Builtin.append_,run_underlying Jm.und,run_underlying aa1,sizeOf,typeInfo,zeroValue,e,f,Builtin.lenOf,h,asInt,b,d,storeCells]
theorem Ϟ {g n c:Nat} {cur:X_} {T:j_} (hg:w.heap[g]?=some (O_ cur T)) (hm:1<=m) (hm':m<=1000) (hroom:n+m<=c) (Dk:n+m<=cur.size):(Builtin.append_ #[116,3] ty #[Q_ g n c,b_ (m:Nat)]).run prog w=.ok (Q_ g (n+m) c) (w.setRow g (QG cur.toList n (AB (List.replicate m 0))).toArray):=by
 obtain⟨ii,l,p,o,a⟩:=Jm.parts;have j:=λw=>asI (m:=m) w
 have k:=wrI (m:=m) hm';have d:¬((m:Int)<0):=by omega
 have e:¬(281474976710656<(m:Int)*(ii.bytes:Int)):=by rw[a];omega
 have b:¬m=0:=by omega
 have h:=run_storeCells_at prog g n T (AB (List.replicate m 0)) 0 cur w hg (by simp[AB];omega) (F5 _);simp only[Nat.add_zero]at h;have i:((S_ g):f_).add n=(T_ g n):=by unfold Addr.add;split<;>simp_all
 have f:=yg m;simp[Builtin.append_,run_underlying Jm.und,run_underlying aa1,sizeOf,typeInfo,zeroValue,l,p,o,Builtin.lenOf,hroom,e,d,b,asInt,j,k,i,f,h,QG]
theorem al4 (hm:1<=m) (hm':m<=1000):(Builtin.append_ #[116,3] ty #[.slice none 0 0,b_ (m:Nat)]).run prog w=.ok (Q_ w.heap.size m (grownCap w m 0 123)) (w.drew.alloc (.cells ((Builtin.zeroCells (Value.int .u16 0).cells m)++Builtin.zeroCells (Value.int .u16 0).cells (grownCap w m 0 123-m)) 123)):=by
 obtain⟨ii,i,k,j,c⟩:=Jm.parts;have g:=λw=>asI (m:=m) w
 have h:=wrI (m:=m) hm';have e:¬((m:Int)<0):=by omega
 have f:¬(281474976710656<(m:Int)*(ii.bytes:Int)):=by rw[c];omega
 have d:¬m=0:=by omega
 have b:¬(9223372036854775807<(m:Int)):=by omega
 have a:¬(281474976710656<Builtin.nextslicecap m 0*ii.bytes):=by rw[nextslicecap_zero (by omega),c];omega
 simp[Builtin.append_,run_underlying Jm.und,run_underlying aa1,sizeOf,typeInfo,zeroValue,i,k,j,Builtin.lenOf,f,e,d,b,a,asInt,g,h,Question.forced,run_firstCells_none,newRow,grownCap]
end
theorem bb8 {T:Tag} {w:o_} {p M M' n c m:Nat} {a:d_ f_} {ty:j_} {ws:List Nat} (hu:RJ T w p M (.slice a n c) ws) (hM:M<=M') (Dk:n+m<=M') (hM1:M'<=1000):∃v W,(Builtin.append_ #[116,3] ty #[.slice a n c,b_ (m:Nat)]).run prog w=.ok v W/\PostA T w p M' (ws++List.replicate m 0) v W/\(∃a' c',v=.slice a' (n+m) c')/\Keep (On T λt=>t=(15,p)) w W:=by
 by_cases I:m=0
 .subst I;rw[List.replicate_zero,List.append_nil];obtain⟨e,rfl⟩|⟨g,c',e,f,B,u,s⟩:=hu
  .cases e;exact⟨_,_,ao5 (w_ _),.inl ⟨rfl,rfl⟩,⟨_,_,rfl⟩,p_ _ _⟩
  .cases e;exact⟨_,_,ao5 f.le,.inr ⟨g,c,rfl,f,Nat.le_trans B hM,u,.inl s⟩,⟨_,_,rfl⟩,p_ _ _⟩
 .have b:(List.replicate m 0).length=m:=List.length_replicate;obtain⟨e,rfl⟩|⟨g,c',e,f,B,u,s⟩:=hu
  .cases e;rw[List.nil_append];have y:=grownCap_ge w m 0 123;have z:m<=maxLen:=(by simp only[maxLen];omega);refine⟨_,_,al4 (by omega) (by omega),.inr ⟨w.heap.size,grownCap w m 0 123,by rw[b],⟨⟨_,heap_alloc_new rfl,?_,?_⟩,by rw[b];exact y,grownCap_le_maxLen w m 0 123 z,by simp[AB],F5 _⟩,by rw[b];omega,λx d=>?_,.inr (w_ _)⟩,⟨_,_,by rw[Nat.zero_add]⟩,((p_ No w).drew.alloc _).no⟩
   .simp only[Array.size_append,size_zeroCells,Jm.zs];omega
   .rw[b,Array.toList_append,yg];have:m*1=(AB (List.replicate m 0)).length:=(by simp[AB]);rw[this];exact List.take_left
   .rw[(List.mem_replicate.1 d).2];omega
  .cases e;obtain⟨i,G,l,h⟩:=f.blk;have H:=f.le;have d:∀x∈ws++List.replicate m 0,x<65536:=λx d=>by
    obtain d|d:=List.mem_append.1 d
    .exact u x d
    .rw[(List.mem_replicate.1 d).2];omega
   have r:(ws++List.replicate m 0).length=ws.length+m:=(by rw[List.length_append,b]);have j:AB (ws++List.replicate m 0)=AB ws++AB (List.replicate m 0):=(by simp[AB]);by_cases C:ws.length+m<=c
   .have q:(AB (List.replicate m 0)).length=m:=(by simp[AB]);refine⟨_,_,Ϟ G (by omega) (by omega) C (by rw[l];omega),.inr ⟨g,c,by rw[r],?_,by omega,d,.inl s⟩,⟨_,_,rfl⟩,((p_ (At g) w).setRow _ _ λ_=>rfl).on λx _ e=>by subst e;exact s⟩;rw[r];refine Ua f ?_ C ?_ (F5 _)
    .have k:i.toList.length=c*1:=(by simpa using l);rw[Nl (by rw[q,k];omega)];exact k
    .unfold QG;have o:(i.toList.take (ws.length*1)++AB (List.replicate m 0)).length=(ws.length+m)*1:=(by rw[h,List.length_append,q];simp[AB]);have e1:ws.length*1=ws.length:=(by omega);rw[e1]at o h;rw[<-o,List.take_left,h,j]
   .obtain⟨D,J,E,A,F⟩:=kE (ty:=ty) (ti:=3) Jm f (w_ _) (by omega:0<m) (by omega) (by omega) (by omega) aa1;refine⟨_,_,E,.inr ⟨w.heap.size,D,by rw[r],?_,by omega,d,.inr (w_ _)⟩,⟨_,_,rfl⟩,F.no⟩;rw[r];have e1:(AB ws).take (ws.length*1)=AB ws:=List.take_of_length_le (by simp[AB]);rw[e1,yg,<-j]at A;exact A
theorem zD {α:Type} (a:α):∃l,Hid (a=l):=⟨a,show a=a from rfl⟩
section
variable (m:Nat) (w:o_)
theorem YR (K:KS) (b e0 f o n:Nat) (r:PR) (v:n_) (h:A8 K w) (hb:K.ps b=some r) (hn:r.en=false) (hI:∀z∈r.Ae,z<65536) (hL:r.Ae.length<=128) (te:K.T e0=(12,f)) (hv:Jq r v o n) (hnl:K.nl.length<=1000) (hU:Uniq K.nm K.nl):
  P_ m 279 #[R_ e0,v] w (WritePost NW K b w):=by
 obtain⟨K0,rb,Cj⟩:=Oa w;have H:=h.no K0;have MR:K.T w.heap.size=(0,0):=h.lt _ (w_ _);obtain⟨dv,rfl,bk5⟩:∃d,v=.slice d n n/\n<=128:=by
  obtain⟨rfl,rfl⟩|⟨g,c,_,rfl,_,_⟩:=hv
  .exact⟨none,rfl,by omega⟩
  .exact⟨_,rfl,by omega⟩
 obtain⟨he,U,aq5⟩:=H.fl.Iu e0 f te;obtain⟨u,hf,hu⟩:=H.fl.file f U;obtain⟨j,ϩ⟩:∃j,Hid ((K.ct e0).n=j):=⟨_,rfl⟩;obtain⟨ws,jD⟩:∃ws,Hid ((K.ct f).ws=ws):=⟨_,rfl⟩;rw[ϩ.out]at he aq5;rw[jD.out]at hu;obtain⟨a,c',rfl,hwc,hw64,hwx,hwn,hws⟩:=hu.shape;have d0:(w.alloc V_).cell? (S_ e0)=some (.pointer (some (T_ K.kb 4))):=(Af he 0).trans rfl;have d1:(w.alloc V_).cell? (T_ e0 1)=some (R_ f):=(Af he 1).trans rfl;have d2:(w.alloc V_).cell? (T_ e0 2)=some (b_ j):=(Af he 2).trans rfl;have d3:(w.alloc V_).cell? (S_ f)=some (.slice a ws.length c'):=(Af hf 0).trans rfl;by_cases h64:64<j+n
 .have f1:(64:Int)<(j:Int)+(n:Int):=by omega
  gi_enter func279,ntmps279;gi_wp2_with fail;gi_wp2_with (first|(gi_at_call 273;refine(fw8 9 rb _).mono ?_;rintro e wz ⟨rfl,C,w8,X,Z,b8⟩)|refine Io X ?_);refine TR 0 9 (by simp[results,results279,go_sem,Jj b8]) rfl ?_;exact Dx (T':=K.T) (ct:=K.ct) (x:=0) (y:=9) h.lt K0 Cj (((BV.no (p_ No _) H.lt)).then C) ((H).no C) Z (by omega) (by omega) (.inl rfl) NW.all
 .have f1:¬(64:Int)<(j:Int)+(n:Int):=by omega
  by_cases hz:n=0
  .subst hz;simp only[Int.natCast_zero,Int.add_zero]at f1;gi_enter func279,ntmps279;gi_wp2_with fail;gi_wp2_with (first|(gi_at_call 272;refine(CZ _ _ 0 (by omega)).mono ?_;rintro e wz ⟨rfl,C⟩;obtain⟨w8,X,Z,b8⟩:=AU (x:=0) (y:=0) (f:=.nilFunc) (C.old (rb) id) rfl)|refine Io X ?_);refine TR 0 0 (by simp[results,results279,go_sem,Jj b8]) rfl ?_;exact Dx (T':=K.T) (ct:=K.ct) (x:=0) (y:=0) h.lt K0 Cj (((BV.no (p_ No _) H.lt)).then C) ((H).no C) Z (by omega) (by omega) (.inl rfl) NW.all
  .have f2:((n:Int)==0)=false:=(by simp;omega);obtain⟨l,hsz'⟩:∃l:Nat,(j:Int)+(n:Int)=(l:Int):=⟨j+n,by omega⟩;rw[hsz']at f1;by_cases hmx:j+n<ws.length
   .have f3:(l:Int)<(ws.length:Int):=(by omega);gi_enter func279,ntmps279;gi_wp2;refine CV 9 88 ?_;have cm:=λm w1 (F:Keep No (w.alloc V_) w1)=>Xi m w1 K f (ws.length) (H.no F) U (by omega) (by omega)
    gi_wp2_with (gi_at_call 281;refine(cm _ _ (p_ No _).drew).mono ?_;rintro e w1 ⟨K1,x,rfl,_⟩);refine Fg ?_ ?_
    .intro W F;have e0':=F.has (w:=(w.alloc V_).drew) d0;have e1':=F.has (w:=(w.alloc V_).drew) d1
     repeat' (refine Az ?_ ?_)
     all_goals first|exact trivial|gi_wp2
    .intro W F;have KW:Keep No (w.alloc V_) W:=(p_ No _).drew.then F;gi_wp2_with (gi_at_call 281;refine(cm _ _ KW).mono ?_;rintro e w1 ⟨K1,x,rfl,hG⟩;have A:=KW.then K1;cases x)
     .have h1:=H.no A;gi_wp2_with (first|(gi_at_call 273;refine(fw8 10 (A.old rb id) _).mono ?_;rintro e wz ⟨rfl,C,w8,X,Z,b8⟩)|refine Io X ?_);refine TR 0 10 (by simp[results,results279,go_sem,Jj b8]) rfl ?_;exact Dx (T':=K.T) (ct:=K.ct) (x:=0) (y:=10) h.lt K0 Cj (((BV.no A H.lt)).then C) ((h1).no C) Z (by omega) (by omega) (.inl rfl) NW.all
     .have h1:A8 K w1.drew:=H.no A.drew;obtain⟨va,Wa,Ho,xq,⟨aa,ca,hva⟩,hKa⟩:=bb8 (ty:=116) (m:=ws.length-ws.length) (hu.set A.drew (fun _ _=>id)) (w_ 64) (by omega) (by omega);obtain⟨xe,e9⟩ :=zD (ws++List.replicate (ws.length-ws.length) 0);rw[e9.out]at xq;have ev:((ws.length-ws.length:Nat):Int)=0:=(by omega);rw[ev]at Ho;obtain rfl:va=.slice aa (ws.length) ca:=hva.trans (by congr 1;omega);clear hva;have e0':w1.drew.cell? (S_ e0)=some (.pointer (some (T_ K.kb 4))):=A.has d0;have e1:w1.drew.cell? (T_ e0 1)=some (R_ f):=A.has d1;have e2:w1.drew.cell? (T_ e0 2)=some (b_ j):=A.has d2;have e3:w1.drew.cell? (S_ f)=some (.slice a ws.length c'):=A.has d3;have Zb:=World.block_lt_of_cell? _ _ e1;have lf2:=World.block_lt_of_cell? _ _ e3;refine DT (P:=prog) _ rfl rfl (by kernel_rfl) 22 88 [0,1,2,3,4,5,6,7,8,9,10,11,12,13,14,15,16,17,18,19,20] [21] (by kernel_rfl) (by rfl)
       (NJ (On K.T λt=>t=(15,f)) w1.drew 21 (λv W=>PostA K.T w1.drew f 64 xe v W/\∃a' c',v=.slice a' (ws.length) c') []) (F8 (by simp) (by simp)) _ _ rfl rfl ?_;gi_wp2_with (refine Cc rfl (.tmp 53) (.tmp 63) _ rfl rfl rfl Ho ?_);refine⟨rfl,by kernel_rfl,En,?_,?_,?_⟩
      .intro L' u W s;have g1:=(s.1.cell (w:=w1.drew) (p:=(T_ e0 1)) Zb (by unfold On;rw[te];simp)).trans e1;have g3:=(s.1.cell (w:=w1.drew) (p:=(S_ f)) lf2 (by unfold On;rw[U];simp)).trans e3
       repeat' (refine Az ?_ ?_)
       all_goals first|exact trivial|gi_wp2
      .intro i hi L' u W s hLi hu';obtain rfl:i=21:=(by simpa using hi);obtain rfl:=s.2.1 hLi;refine BJ rfl λKK Qj=>?_
       show wpListIn NF m prog _ _ _ (Act.put _ (some 64) (u 21)) _;gi_wp2_with (refine Cc rfl (.tmp 53) (.tmp 63) _ rfl rfl rfl Ho ?_);exact⟨_,rfl,F9 s (by simp) hKa ⟨xq,_,_,rfl⟩⟩
      .intro L' u W s hL';obtain⟨hPw,a3,c3,e21⟩:=s.2.2.1 (hL' 21 (by simp));show wpListIn NF m prog _ _ _ (Act.put _ (some 64) (u 21)) _;rw[e21];rw[e21]at hPw;have B:=s.1.old (w:=w1.drew) (A.old hf id) (by unfold On;rw[U];simp);have q3:W.cell? (S_ f)=some _:=(Af B 0).trans rfl;have z3:=BN B 0;have g1:=(s.1.cell (w:=w1.drew) (p:=(T_ e0 1)) Zb (by unfold On;rw[te];simp)).trans e1;have O:e0≠f:=λe=>by rw[e,U]at te;simp at te
       have bt4:¬f=e0:=Ne.symm O;obtain⟨T',MT,hwT⟩:=hPw.Jl s.1 h1.lt;have L:T' f=(10,0):=MT.tag U (by simp);have S:T' e0=(12,f):=MT.tag te (by simp);have xK:Keep (At f) W (W.setCell (S_ f) (.slice a3 (ws.length) c3)):=(p_ _ _).setCell _ λ_=>rfl
       have xQ:=hwT.set xK (λg hg e=>by rw[show g=f from e,L]at hg;simp at hg);have s4:=h1.setW (by rw[U];simp) (by rw[U];simp) MT (FOne.file' (ct:=Aj K.ct f { K.ct f with ws:=xe }) (v:=.slice a3 (ws.length) c3) L (Ak B _) (by simpa [Aj]using xQ)) (VQ.grow hG hU (K1.drew) MT B) (λb hb=>if_neg hb);obtain⟨e,_⟩|⟨g,c9,e,hR9,_,xP,V⟩:=xQ
       .exfalso;injection e with _ e2;omega
       obtain⟨rfl,hl9,rfl⟩:a3=some (S_ g)/\ws.length=xe.length/\c3=c9:=(by injection e with e1 e2 e3;exact⟨e1,e2,e3⟩);have bs7:=hR9.le;have g1':(W.setCell (S_ f) (Q_ g (ws.length) c3)).cell? (T_ e0 1)=some (R_ f):=(xK.cell (p:=(T_ e0 1)) (World.block_lt_of_cell? _ _ g1) O).trans g1;have g2:=(s.1.cell (w:=w1.drew) (p:=(T_ e0 2)) Zb (by unfold On;rw[te];simp)).trans e2;have g2':(W.setCell (S_ f) (Q_ g (ws.length) c3)).cell? (T_ e0 2)=some (b_ j):=(xK.cell (p:=(T_ e0 2)) (World.block_lt_of_cell? _ _ g2) O).trans g2;have g3':(W.setCell (S_ f) (Q_ g (ws.length) c3)).cell? (S_ f)=some (Q_ g (ws.length) c3):=(Af (Ak B _) 0).trans (by simp);have ND:BV K.T T' (w.alloc V_) _:=(BV.no A.drew H.lt).trans s4.2;have fc:¬c3=j:=(by omega);have fpl:¬((ws.length:Nat):Int)<(j:Int):=(by omega);have cp:∀WX,Keep No (W.setCell (S_ f) (Q_ g (ws.length) c3)) WX->∃E q,(Builtin.copy_ #[116,116] 3 #[.slice (some (T_ g j)) (ws.length-j) (c3-j),.slice dv n n]).run prog WX=.ok (goInt (n:Nat)) E/\Keep (At g) WX E/\Rw 123 1 E g (ws.length) c3 (AB q)/\q.length=ws.length/\∀x∈q,x<65536:=λWX I=>by
        have hX:=A8.no s4.1 I
        obtain⟨ys,R,hyx,ϲ,hye⟩:=Jq.words hX hb hn hI hv n (w_ n)
        obtain⟨ad,rfl,hys⟩:=ϲ.resolve_left hz
        have G:Nat.min n (ws.length-j)=n:=Nat.min_eq_left (by omega)
        obtain⟨E,hr,F,Jn⟩:=WG (ty:=3) (IW:=ws.length-j) (Hq:=c3-j) (CQ:=n) (sCap:=n) (o:=j) (Rw.keep hR9 I id) rfl hys (by rw[G];exact R) (by rw[R];omega)
        rw[G]at hr
        have hlen:(xe.take j++ys++xe.drop (j+ys.length)).length=ws.length:=by simp only[List.length_append,List.length_take,List.length_drop,R];omega
        refine⟨E,_,hr,F,by simpa only[hl9]using Jn,hlen,λx D=>?_⟩
        obtain D|D:=List.mem_append.1 D
        .obtain D|D:=List.mem_append.1 D
         .exact xP x (List.mem_of_mem_take D)
         .exact hyx x D
        .exact xP x (List.mem_of_mem_drop D)
       clear hl9 e;gi_wp2;generalize hW9:W.setCell (S_ f) (Q_ g (ws.length) c3)=J at*;obtain⟨WY0,ws0,bt6,_,_⟩:=cp J.drew (p_ No J).drew;refine CV 13 88 ?_;gi_wp2;refine Fg ?_ ?_
       .intro W2 Y;have k1:=Y.has (w:=J.drew) g1';have k2:=Y.has (w:=J.drew) g2';have k3:=Y.has (w:=J.drew) g3'
        repeat' (refine Az ?_ ?_)
        all_goals first|exact trivial|gi_wp2
       .intro W2 Y;have I:Keep No J W2:=(p_ No J).drew.then Y;obtain⟨E,q,hcp,N,hRY,Q,hxY⟩:=cp W2 I;have M:=A8.no s4.1 I;have hgf:g≠f:=λe=>by rw[e,L]at V;simp at V
        have hge:g≠e0:=λe=>by rw[e,S]at V;simp at V
        obtain⟨vf,hfX,_⟩:=M.fl.file f L;obtain⟨pn,heX⟩:∃pn:Nat,W2.heap[e0]?=some (O_ #[.pointer (some (T_ K.kb 4)),ptr f,b_ pn] 339):=⟨_,(M.fl.Iu e0 f S).1⟩;have k3:=I.has g3';have ek:vf=Q_ g (ws.length) c3:=by
         have:=(Af hfX 0).symm.trans k3
         simpa using this
        subst ek;have s5:=A8.bF (b0:=f) (QL:=Aj K.ct f { K.ct f with ws:=q }) M N (λk hk=>by rw[show k=g from hk];exact .inr V) (by show 10<=(T' f).1;rw[L];simp) (by show(T' f).1<15;rw[L];simp) (FOne.file' (T:=T') L (N.old hfX (Ne.symm hgf)) (by show RJ T' E f 64 _ (Aj K.ct f { K.ct f with ws:=q } f).ws;simp only[Aj,if_true];exact .inr ⟨g,c3,by rw[Q],by rw[Q];exact hRY,by rw[Q];omega,hxY,V⟩)) (λb hb=>(if_neg hb).trans (if_neg hb).symm) (λ_ e=>hgf (show f=g from e).symm);have heY:=N.old heX (Ne.symm hge);have kz:=BN heY 2;have kq:E.cell? (T_ e0 2)=some (b_ pn):=(Af heY 2).trans rfl;have s6:=A8.place (n:=l) s5.1 S (by omega);gi_wp2_with fail;have hV6:BV K.T T' (w.alloc V_) _:=((ND.then I).trans s5.2).trans s6.2;gi_wp2_with (first|(gi_at_call 272;refine(CZ _ _ n (by omega)).mono ?_;rintro e wz ⟨rfl,C⟩;obtain⟨w8,X,Z,b8⟩:=AU (x:=n) (y:=0) (f:=.nilFunc) (C.old (hV6.old rb MR) id) rfl)|refine Io X ?_);refine TR n 0 (by simp[results,results279,go_sem,Jj b8]) rfl ?_;exact Dx (T':=T') (x:=n) (y:=0) h.lt K0 Cj ((hV6).then C) ((s6.1).no C) Z (by omega) (by omega) (.inl rfl) NW.all
   .have f3:¬(l:Int)<(ws.length:Int):=(by omega);gi_enter func279,ntmps279;gi_wp2;refine CV 9 88 ?_;have cm:=λm w1 (F:Keep No (w.alloc V_) w1)=>Xi m w1 K f (l) (H.no F) U (by omega) (by omega)
    gi_wp2_with (gi_at_call 281;refine(cm _ _ (p_ No _).drew).mono ?_;rintro e w1 ⟨K1,x,rfl,_⟩);refine Fg ?_ ?_
    .intro W F;have e0':=F.has (w:=(w.alloc V_).drew) d0;have e1':=F.has (w:=(w.alloc V_).drew) d1
     repeat' (refine Az ?_ ?_)
     all_goals first|exact trivial|gi_wp2
    .intro W F;have KW:Keep No (w.alloc V_) W:=(p_ No _).drew.then F;gi_wp2_with (gi_at_call 281;refine(cm _ _ KW).mono ?_;rintro e w1 ⟨K1,x,rfl,hG⟩;have A:=KW.then K1;cases x)
     .have h1:=H.no A;gi_wp2_with (first|(gi_at_call 273;refine(fw8 10 (A.old rb id) _).mono ?_;rintro e wz ⟨rfl,C,w8,X,Z,b8⟩)|refine Io X ?_);refine TR 0 10 (by simp[results,results279,go_sem,Jj b8]) rfl ?_;exact Dx (T':=K.T) (ct:=K.ct) (x:=0) (y:=10) h.lt K0 Cj (((BV.no A H.lt)).then C) ((h1).no C) Z (by omega) (by omega) (.inl rfl) NW.all
     .have h1:A8 K w1.drew:=H.no A.drew;obtain⟨va,Wa,Ho,xq,⟨aa,ca,hva⟩,hKa⟩:=bb8 (ty:=116) (m:=l-ws.length) (hu.set A.drew (fun _ _=>id)) (w_ 64) (by omega) (by omega);obtain⟨xe,e9⟩ :=zD (ws++List.replicate (l-ws.length) 0);rw[e9.out]at xq;have ev:((l-ws.length:Nat):Int)=(l:Int)-ws.length:=(by omega);rw[ev]at Ho;obtain rfl:va=.slice aa (l) ca:=hva.trans (by congr 1;omega);clear hva;have e0':w1.drew.cell? (S_ e0)=some (.pointer (some (T_ K.kb 4))):=A.has d0;have e1:w1.drew.cell? (T_ e0 1)=some (R_ f):=A.has d1;have e2:w1.drew.cell? (T_ e0 2)=some (b_ j):=A.has d2;have e3:w1.drew.cell? (S_ f)=some (.slice a ws.length c'):=A.has d3;have Zb:=World.block_lt_of_cell? _ _ e1;have lf2:=World.block_lt_of_cell? _ _ e3;refine DT (P:=prog) _ rfl rfl (by kernel_rfl) 22 88 [0,1,2,3,4,5,6,7,8,9,10,11,12,13,14,15,16,17,18,19,20] [21] (by kernel_rfl) (by rfl)
       (NJ (On K.T λt=>t=(15,f)) w1.drew 21 (λv W=>PostA K.T w1.drew f 64 xe v W/\∃a' c',v=.slice a' (l) c') []) (F8 (by simp) (by simp)) _ _ rfl rfl ?_;gi_wp2_with (refine Cc rfl (.tmp 53) (.tmp 63) _ rfl rfl rfl Ho ?_);refine⟨rfl,by kernel_rfl,En,?_,?_,?_⟩
      .intro L' u W s;have g1:=(s.1.cell (w:=w1.drew) (p:=(T_ e0 1)) Zb (by unfold On;rw[te];simp)).trans e1;have g3:=(s.1.cell (w:=w1.drew) (p:=(S_ f)) lf2 (by unfold On;rw[U];simp)).trans e3
       repeat' (refine Az ?_ ?_)
       all_goals first|exact trivial|gi_wp2
      .intro i hi L' u W s hLi hu';obtain rfl:i=21:=(by simpa using hi);obtain rfl:=s.2.1 hLi;refine BJ rfl λKK Qj=>?_
       show wpListIn NF m prog _ _ _ (Act.put _ (some 64) (u 21)) _;gi_wp2_with (refine Cc rfl (.tmp 53) (.tmp 63) _ rfl rfl rfl Ho ?_);exact⟨_,rfl,F9 s (by simp) hKa ⟨xq,_,_,rfl⟩⟩
      .intro L' u W s hL';obtain⟨hPw,a3,c3,e21⟩:=s.2.2.1 (hL' 21 (by simp));show wpListIn NF m prog _ _ _ (Act.put _ (some 64) (u 21)) _;rw[e21];rw[e21]at hPw;have B:=s.1.old (w:=w1.drew) (A.old hf id) (by unfold On;rw[U];simp);have q3:W.cell? (S_ f)=some _:=(Af B 0).trans rfl;have z3:=BN B 0;have g1:=(s.1.cell (w:=w1.drew) (p:=(T_ e0 1)) Zb (by unfold On;rw[te];simp)).trans e1;have O:e0≠f:=λe=>by rw[e,U]at te;simp at te
       have bt4:¬f=e0:=Ne.symm O;obtain⟨T',MT,hwT⟩:=hPw.Jl s.1 h1.lt;have L:T' f=(10,0):=MT.tag U (by simp);have S:T' e0=(12,f):=MT.tag te (by simp);have xK:Keep (At f) W (W.setCell (S_ f) (.slice a3 (l) c3)):=(p_ _ _).setCell _ λ_=>rfl
       have xQ:=hwT.set xK (λg hg e=>by rw[show g=f from e,L]at hg;simp at hg);have s4:=h1.setW (by rw[U];simp) (by rw[U];simp) MT (FOne.file' (ct:=Aj K.ct f { K.ct f with ws:=xe }) (v:=.slice a3 (l) c3) L (Ak B _) (by simpa [Aj]using xQ)) (VQ.grow hG hU (K1.drew) MT B) (λb hb=>if_neg hb);obtain⟨e,_⟩|⟨g,c9,e,hR9,_,xP,V⟩:=xQ
       .exfalso;injection e with _ e2;omega
       obtain⟨rfl,hl9,rfl⟩:a3=some (S_ g)/\l=xe.length/\c3=c9:=(by injection e with e1 e2 e3;exact⟨e1,e2,e3⟩);have bs7:=hR9.le;have g1':(W.setCell (S_ f) (Q_ g (l) c3)).cell? (T_ e0 1)=some (R_ f):=(xK.cell (p:=(T_ e0 1)) (World.block_lt_of_cell? _ _ g1) O).trans g1;have g2:=(s.1.cell (w:=w1.drew) (p:=(T_ e0 2)) Zb (by unfold On;rw[te];simp)).trans e2;have g2':(W.setCell (S_ f) (Q_ g (l) c3)).cell? (T_ e0 2)=some (b_ j):=(xK.cell (p:=(T_ e0 2)) (World.block_lt_of_cell? _ _ g2) O).trans g2;have g3':(W.setCell (S_ f) (Q_ g (l) c3)).cell? (S_ f)=some (Q_ g (l) c3):=(Af (Ak B _) 0).trans (by simp);have ND:BV K.T T' (w.alloc V_) _:=(BV.no A.drew H.lt).trans s4.2;have fc:¬c3=j:=(by omega);have fpl:¬((l:Nat):Int)<(j:Int):=(by omega);have cp:∀WX,Keep No (W.setCell (S_ f) (Q_ g (l) c3)) WX->∃E q,(Builtin.copy_ #[116,116] 3 #[.slice (some (T_ g j)) (l-j) (c3-j),.slice dv n n]).run prog WX=.ok (goInt (n:Nat)) E/\Keep (At g) WX E/\Rw 123 1 E g (l) c3 (AB q)/\q.length=l/\∀x∈q,x<65536:=λWX I=>by
        have hX:=A8.no s4.1 I
        obtain⟨ys,R,hyx,ϲ,hye⟩:=Jq.words hX hb hn hI hv n (w_ n)
        obtain⟨ad,rfl,hys⟩:=ϲ.resolve_left hz
        have G:Nat.min n (l-j)=n:=Nat.min_eq_left (by omega)
        obtain⟨E,hr,F,Jn⟩:=WG (ty:=3) (IW:=l-j) (Hq:=c3-j) (CQ:=n) (sCap:=n) (o:=j) (Rw.keep hR9 I id) rfl hys (by rw[G];exact R) (by rw[R];omega)
        rw[G]at hr
        have hlen:(xe.take j++ys++xe.drop (j+ys.length)).length=l:=by simp only[List.length_append,List.length_take,List.length_drop,R];omega
        refine⟨E,_,hr,F,by simpa only[hl9]using Jn,hlen,λx D=>?_⟩
        obtain D|D:=List.mem_append.1 D
        .obtain D|D:=List.mem_append.1 D
         .exact xP x (List.mem_of_mem_take D)
         .exact hyx x D
        .exact xP x (List.mem_of_mem_drop D)
       clear hl9 e;gi_wp2;generalize hW9:W.setCell (S_ f) (Q_ g (l) c3)=J at*;obtain⟨WY0,ws0,bt6,_,_⟩:=cp J.drew (p_ No J).drew;refine CV 13 88 ?_;gi_wp2;refine Fg ?_ ?_
       .intro W2 Y;have k1:=Y.has (w:=J.drew) g1';have k2:=Y.has (w:=J.drew) g2';have k3:=Y.has (w:=J.drew) g3'
        repeat' (refine Az ?_ ?_)
        all_goals first|exact trivial|gi_wp2
       .intro W2 Y;have I:Keep No J W2:=(p_ No J).drew.then Y;obtain⟨E,q,hcp,N,hRY,Q,hxY⟩:=cp W2 I;have M:=A8.no s4.1 I;have hgf:g≠f:=λe=>by rw[e,L]at V;simp at V
        have hge:g≠e0:=λe=>by rw[e,S]at V;simp at V
        obtain⟨vf,hfX,_⟩:=M.fl.file f L;obtain⟨pn,heX⟩:∃pn:Nat,W2.heap[e0]?=some (O_ #[.pointer (some (T_ K.kb 4)),ptr f,b_ pn] 339):=⟨_,(M.fl.Iu e0 f S).1⟩;have k3:=I.has g3';have ek:vf=Q_ g (l) c3:=by
         have:=(Af hfX 0).symm.trans k3
         simpa using this
        subst ek;have s5:=A8.bF (b0:=f) (QL:=Aj K.ct f { K.ct f with ws:=q }) M N (λk hk=>by rw[show k=g from hk];exact .inr V) (by show 10<=(T' f).1;rw[L];simp) (by show(T' f).1<15;rw[L];simp) (FOne.file' (T:=T') L (N.old hfX (Ne.symm hgf)) (by show RJ T' E f 64 _ (Aj K.ct f { K.ct f with ws:=q } f).ws;simp only[Aj,if_true];exact .inr ⟨g,c3,by rw[Q],by rw[Q];exact hRY,by rw[Q];omega,hxY,V⟩)) (λb hb=>(if_neg hb).trans (if_neg hb).symm) (λ_ e=>hgf (show f=g from e).symm);have heY:=N.old heX (Ne.symm hge);have kz:=BN heY 2;have kq:E.cell? (T_ e0 2)=some (b_ pn):=(Af heY 2).trans rfl;have s6:=A8.place (n:=l) s5.1 S (by omega);gi_wp2_with fail;have hV6:BV K.T T' (w.alloc V_) _:=((ND.then I).trans s5.2).trans s6.2;gi_wp2_with (first|(gi_at_call 272;refine(CZ _ _ n (by omega)).mono ?_;rintro e wz ⟨rfl,C⟩;obtain⟨w8,X,Z,b8⟩:=AU (x:=n) (y:=0) (f:=.nilFunc) (C.old (hV6.old rb MR) id) rfl)|refine Io X ?_);refine TR n 0 (by simp[results,results279,go_sem,Jj b8]) rfl ?_;exact Dx (T':=T') (x:=n) (y:=0) h.lt K0 Cj ((hV6).then C) ((s6.1).no C) Z (by omega) (by omega) (.inl rfl) NW.all
end
section
variable (m:Nat) (w:o_)
theorem VI (K:KS) (i:Nat) (v:n_) (hi:i<20) (h1:w.cell? (T_ K.kb (21+i*2))=some v):
  P_ m 203 #[.pointer (some (T_ K.kb 21)),b_ (i:Nat)] w λe w'=>Keep No w w'/\e=.returned v:=by
 have a:(i:Int)<20:=by omega
 gi_enter func203,ntmps203;gi_wp2;go_ret;exact⟨p_ _ _,by simp⟩
end
section
variable (pb ib c L n a m:Nat) (w:o_)
theorem YF (h8:w.cell? (T_ pb 8)=some (Q_ ib L c)) (hn:1<=n) (hn':n<65536) (ha:a<65536) (h:¬a+n<=L):
  P_ m 138 #[.pointer (some (T_ pb 5)),a_ a,b_ n] w λe w'=>e=.returned (.tuple #[.slice none 0 0,.bool false])/\w'=w:=by
 gi_enter func138,ntmps138;gi_wp2;go_ret2;exact⟨by simp,rfl⟩
end
def XFd (K:KS) (r:PR) (fd:Nat) (X7:Nat->Nat->KS->Nat->Nat->n_->Prop) (Xr Xw:Nat->KS->Nat->Nat->n_->Prop):KS->Nat->Nat->n_->Prop:=λK' x y f=>(r.has fd=false/\O6 K 2 K' x y f)\/∃i:Nat,r.fds[fd]?=some (i:Int)/\i<20/\((∃e g,K.tv i=.iface 337 (ptr e)/\K.T e=(12,g)/\X7 e g K' x y f)\/(∃e,K.tv i=.iface 330 (ptr e)/\K.T e=(13,0)/\Xr e K' x y f)\/∃e,K.tv i=.iface 334 (ptr e)/\K.T e=(14,0)/\Xw e K' x y f)
def bl7 (K:KS) (r:PR) (fd pl:Nat):KS->Nat->Nat->n_->Prop:=XFd K r fd (λe _ K' x y f=>∃T' ct,XSk K e pl ct x y f/\K'={ K with T:=T',ct:=ct }) (λ_=>O6 K 2) (λ_=>O6 K 2)
section
variable (m:Nat) (w:o_)
end
end Go.Fxa
