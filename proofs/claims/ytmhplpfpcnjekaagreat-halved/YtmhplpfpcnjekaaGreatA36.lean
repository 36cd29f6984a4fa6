/- Look, Pids, amon -/
import Derived.Test.YtmhplpfpcnjekaaGreatA34
namespace Go.Fxa
open Conc Proofs RowKit Proofs.Tryz
set_option maxRecDepth 1000000
set_option maxHeartbeats 0
variable {base:Nat}{v:n_}{l:List Int}{w w':o_}
def Xy (base:Nat)(v:n_)(l:List Int)(w:o_):Prop:=∃s c,v=.slice s l.length c/\(0<l.length->∃(g:Nat) (cs:X_),s=some (R_ g)/\base<=g/\w.heap[g]?=some (N_ cs 3)/\∀(i:Nat)(x:Int),l[i]?=some x->cs[i]?=some (b_ x))
theorem Xy.keep {S:Nat->Prop}(h:Xy base v l w)(j:Aa S w w')(m:∀k cs,base<=k->w.heap[k]?=some (N_ cs 3)->¬S k):Xy base v l w':=by
 obtain⟨s,c,e,h⟩:=h;refine⟨s,c,e,λi=>?_⟩;obtain⟨g,cs,d,a,b,f⟩:=h i;exact⟨g,cs,d,a,j.old b (m g cs a b),f⟩
theorem Xy.no (h:Xy base v l w)(a:Aa No w w'):Xy base v l w':=h.keep a λ_ _ _ _ x=>x
theorem Xy.mono {b:Nat}(h:Xy base v l w)(hb:b<=base):Xy b v l w:=let ⟨s,c,e,h⟩:=h;⟨s,c,e,λa=>let ⟨g,cs,h1,h2,h3⟩:=h a;⟨g,cs,h1,lN hb h2,h3⟩⟩
theorem Xy.sl (h:Xy base v l w)(m:l.length<=1000):SlI w v l.length (λi=>l.getD i 0):=by
 obtain⟨s,c,e,h⟩:=h;refine⟨wB,s,c,e,λf=>?_⟩;obtain⟨g,j,a,k,b,d⟩:=h f;refine⟨g,0,a,λi hi=>?_⟩;rw[Nat.zero_add,Ai b];exact d i _ (by show l[i]?=some (l.getD i 0);rw[List.getD_eq_getElem?_getD,JM hi];rfl)
def ints (l:List Nat):List Int:=l.map λx:Nat=>(x:Int)
def Jq (a b c d e f g:Int)(v7 v8:n_):X_:=#[b_ a,b_ b,b_ c,b_ d,b_ e,b_ f,b_ g,v7,v8]
abbrev Yt (r:PR)(s:Int)(v7 v8:n_):X_:=Jq r.pid r.par s r.A r.B r.P r.st v7 v8
abbrev Ez:X_:=Jq 0 0 0 0 0 0 0 (.slice none 0 0) (.slice none 0 0)
theorem EK {rb:Nat}{x0 x1 n o p q r s t:n_}{a b c d e f g:Int}{n7 c7 n8 c8:Nat}{a7 a8:d_ f_}(h:w.heap[rb]?=some (N_ #[x0,x1,n,o,p,q,r,s,t] 48)):∃w',(Instr.storeAt 48 (Q_ rb) (.agg (Jq a b c d e f g (.slice a7 n7 c7) (.slice a8 n8 c8)))).run prog w=.ok () w'/\Aa (At rb) w w'/\w'.heap[rb]?=some (.cells (Jq a b c d e f g (.slice a7 n7 c7) (.slice a8 n8 c8)) 48 (0,0)):=by
 have m:(Instr.storeAt 48 (Q_ rb) (.agg (Jq a b c d e f g (.slice a7 n7 c7) (.slice a8 n8 c8)))).run prog w=(OV rb 0 (Jq a b c d e f g (.slice a7 n7 c7) (.slice a8 n8 c8)).toList (.pure ())).run prog w:=sU
 obtain⟨w',i,j,l⟩:=Hr (P:=prog) (k:=Sem.pure ()) (Jq a b c d e f g (.slice a7 n7 c7) (.slice a8 n8 c8)).toList 0 _ w h (by simp[Jq]) (by simp[Jq,Value.oneCell']);refine⟨w',?_,j,?_⟩
 .rw[m,i];rfl
 .rw[l];simp[UI,Jq]
theorem qY (w:o_):(Instr.build 48 #[]).run prog w=.ok (.agg Ez) w:=sU
def StX (K:KS)(r:PR)(s:Int):Prop:=Ko r.en s/\Yp (s=K.BV r)
def dc7 (base:Nat)(K:KS)(r:PR)(i:Nat)(v:n_)(W:o_):Prop:=(i=9->∃s,v=b_ s/\StX K r s)/\(i=38->Xy base v (ints r.Af) W)/\(i=43->Xy base v r.fds W)
section
variable (m:Nat)(w:o_)
theorem vP (K:KS)(b:Nat)(r:PR)(h:AY K w)(hb:K.ps b=some r)(o:r.Ok)(hL:r.Af.length<=128):O_ m 101 #[r.im] w λe w'=>Aa No w w'/\∃v,e=.returned v/\Xy w.heap.size v (ints r.Af) w':=by
 cases hn:r.en with
 |true=>
  obtain⟨e1,_,e3,_⟩:=(h.ps b r hb).no hn
  rw[e1,e3]
  refine(vO m w).mono ?_
  rintro e w' ⟨a,rfl⟩
  exact⟨a,_,rfl,_,_,rfl,λh=>by simp[ints]at h⟩
 |false=>
  obtain⟨g,c,e1,hR,_⟩:=(h.ps b r hb).im hn
  rw[e1]
  refine(jR m w g r.Af.length (λi=>r.Af.getD i 0) c (λi hi=>?_) (λi hi=>?_) hL).mono ?_
  .rw[hR.cell wB,Aw,List.getElem?_map,List.getD_eq_getElem?_getD,JM hi];rfl
  .rw[List.getD_eq_getElem?_getD,JM hi];exact o.Af _ (List.getElem_mem hi)
  .rintro e w' ⟨a,rfl,l⟩;obtain⟨k,j,n,d⟩:=l;refine⟨a,_,rfl,some (R_ w.heap.size),r.Af.length,by simp[ints],λ_=>⟨_,k,rfl,w_,j,λi x f=>?_⟩⟩;have hi:i<r.Af.length:=by
    have:=(Oc.1 f).1
    simpa [ints]using this
   rw[d i hi];simp only[ints,List.getElem?_map,JM hi,Option.map_some]at f;simp only[List.getD_eq_getElem?_getD,JM hi,Option.getD_some];rw[x_ f]
theorem ac3 (K:KS)(b:Nat)(r:PR)(h:AY K w)(hb:K.ps b=some r)(o:r.Ok):O_ m 102 #[r.fd] w λe w'=>Aa No w w'/\∃v,e=.returned v/\Xy w.heap.size v r.fds w':=by
 cases hn:r.en with
 |true=>
  obtain⟨_,e1,_,e3⟩:=(h.ps b r hb).no hn
  rw[e1,e3]
  refine(yj m w).mono ?_
  rintro e w' ⟨rfl,f⟩
  exact⟨f,_,rfl,_,_,rfl,λh=>by simp at h⟩
 |false=>
  obtain⟨g,c,e1,hR,_⟩:=(h.ps b r hb).fd hn
  have t:=o.fds hn
  rw[e1]
  refine(ZV m w (R_ g) r.fds.length c (FW r.fds) (by simp[FW]) (λj u l=>?_) (by simp[FW,Value.oneCell']) wB).mono ?_
  .have s:j<r.fds.length:=(by have:=(Oc.1 l).1;simpa [FW]using this);rw[Addr.add_lit,Nat.zero_add,hR.cell wB,l]
  .rintro e w' ⟨f,v,rfl,n⟩;refine⟨f,v,rfl,?_⟩;obtain⟨_,e⟩|⟨q,cap,d,rfl,k,a,_⟩:=n.2
   .omega
   .refine⟨_,cap,rfl,λ_=>⟨q,d,rfl,k,a,λi x p=>?_⟩⟩;have hi:=(Oc.1 p).1;refine((Ai a i).symm.trans (n.cellAt i wB)).trans ?_;simp only[FW,List.getElem?_map,p,Option.map_some]
theorem bw5 (K:KS)(b:Nat)(r:PR)(h:AY K w)(hT:K.ED)(hl:K.Ar.length<=12)(hb:K.ps b=some r)(o:r.Ok)(hL:r.Af.length<=128):
  O_ m 57 #[Q_ b] w λe w'=>Aa No w w'/\∃st v7 v8,e=.returned (.agg (Yt r st v7 v8))/\StX K r st/\Xy w.heap.size v7 (ints r.Af) w'/\Xy w.heap.size v8 r.fds w':=by
 have D:Aa No w (w.alloc (.cells Ez 48)):=(Aa.refl _ _).alloc _;have L:(w.alloc (.cells Ez 48)).heap[w.heap.size]?=some (N_ Ez 48):=Yw rfl;have y:w.heap.size<=(w.alloc (.cells Ez 48)).heap.size:=D.size;have G:w.alloc (.cells #[b_ 0,b_ 0,b_ 0,b_ 0,b_ 0,b_ 0,b_ 0,.slice none 0 0,.slice none 0 0] 48)=w.alloc (.cells Ez 48):=rfl;gi_enter func57,ntmps57;gi_wp2
 try rw[G]
 have n:=h.no D;generalize w.alloc (.cells Ez 48)=w1 at*;have N:=n.Iu hb 0;have O:=n.Iu hb 1;have c3:=n.Iu hb 3;have Q:=n.Iu hb 5;have R:=n.Iu hb 6;have c7:=n.Iu hb 7;have c8:=n.Iu hb 8;have S:=n.Iu hb 9;simp[PR.arr]at N O c3 Q R c7 c8 S;have oA:=o.A;have oB:=o.B;have oP:=o.P;have oS:=o.st;refine DI (P:=prog) No _ rfl rfl sU 44 48 [0,1,2,3,4,5,6,7,8,10,11,12,13,14,15,16,17,18,19,20,21,22,23,24,25,26,27,28,29,30,31,32,33,34,35,36,37,39,40,41,42] [9,38,43] sU (by rfl) (dc7 w1.heap.size K r)
  (λ_ _ _ _ _ h j=>⟨h.1,λe=>(h.2.1 e).no j,λe=>(h.2.2 e).no j⟩) _ _ rfl rfl ?_;gi_wp2;refine⟨rfl,sU,?_,?_,?_⟩
 .intro W j;have d0:=j.has (w:=w1.drew) N;have d1:=j.has (w:=w1.drew) O;have d3:=j.has (w:=w1.drew) c3;have d5:=j.has (w:=w1.drew) Q;have d6:=j.has (w:=w1.drew) R;have d7:=j.has (w:=w1.drew) c7;have d8:=j.has (w:=w1.drew) c8;have d9:=j.has (w:=w1.drew) S
  repeat' (refine AA ?_ ?_)
  all_goals first|exact dE|gi_wp2
 .intro i hx u W j C;have F:=n.no ((Aa.refl No w1).drew.then j);obtain rfl|rfl|rfl:=(by simpa using hx:i=9\/i=38\/i=43)
  .refine BI rfl λKK M=>?_
   show wpListIn NF m prog _ _ _ (Act.put (Act.put (Act.put _ (some 12) (u 9)) (some 41) (u 38)) (some 46) (u 43)) _;gi_wp2_with (gi_at_call 55;refine(jq _ W K b r F hT hb wB).mono ?_;rintro e w2 ⟨t,s,rfl,x,z⟩;replace x:StX K r s:=⟨x,z⟩;clear z);exact⟨_,rfl,t,λ_=>⟨s,rfl,x⟩,(λh=>qx h sN),λh=>qx h sN⟩
  .refine BI rfl λKK M=>?_
   show wpListIn NF m prog _ _ _ (Act.put (Act.put (Act.put _ (some 12) (u 9)) (some 41) (u 38)) (some 46) (u 43)) _;gi_wp2_with (gi_at_call 101;refine(vP _ W K b r F hb o hL).mono ?_;rintro e w2 ⟨t,v,rfl,J⟩);exact⟨_,rfl,t,(λh=>qx h sN),λ_=>J.mono j.size,λh=>qx h sN⟩
  .refine BI rfl λKK M=>?_
   show wpListIn NF m prog _ _ _ (Act.put (Act.put (Act.put _ (some 12) (u 9)) (some 41) (u 38)) (some 46) (u 43)) _;gi_wp2_with (gi_at_call 102;refine(ac3 _ W K b r F hb o).mono ?_;rintro e w2 ⟨t,v,rfl,J⟩);exact⟨_,rfl,t,(λh=>qx h sN),(λh=>qx h sN),λ_=>J.mono j.size⟩
 .intro u W j C;have KW:Aa No w W:=D.drew.then j;obtain⟨st,e9,x⟩:=(C 9 sJ).1 rfl;have V:=(C 38 sJ).2.1 rfl;have i8:=(C 43 sJ).2.2 rfl;show wpListIn NF m prog _ _ _ (Act.put (Act.put (Act.put _ (some 12) (u 9)) (some 41) (u 38)) (some 46) (u 43)) _;rw[e9];generalize u 38=v7 at*;generalize u 43=v8 at*;obtain⟨a7,p,T,_⟩:=id V;obtain⟨a8,q,U,_⟩:=id i8;generalize H:(ints r.Af).length=n7 at T;generalize I:r.fds.length=n8 at U;subst T U;have hW:=j.old (heap_drew.trans L) id;obtain⟨w3,Y,E,l⟩:=EK (a:=r.pid) (b:=r.par) (c:=st) (d:=r.A) (e:=r.B) (f:=r.P) (g:=r.st) (n7:=n7) (c7:=p) (n8:=n8) (c8:=q) (a7:=a7) (a8:=a8) hW;clear C H I;gi_wp2_with (refine BM rfl (.tmp 2) (.tmp 47) 48 rfl rfl rfl Y ?_);have g0:w3.cell? (R_ w.heap.size)=some (b_ r.pid):=bce l rfl;have g1:w3.cell? (S_ w.heap.size 1)=some (b_ r.par):=bce l rfl;have g2:w3.cell? (S_ w.heap.size 2)=some (b_ st):=bce l rfl;have g3:w3.cell? (S_ w.heap.size 3)=some (b_ r.A):=bce l rfl;have g4:w3.cell? (S_ w.heap.size 4)=some (b_ r.B):=bce l rfl;have g5:w3.cell? (S_ w.heap.size 5)=some (b_ r.P):=bce l rfl;have g6:w3.cell? (S_ w.heap.size 6)=some (b_ r.st):=bce l rfl;have g7:w3.cell? (S_ w.heap.size 7)=some (.slice a7 n7 p):=bce l rfl;have g8:w3.cell? (S_ w.heap.size 8)=some (.slice a8 n8 q):=bce l rfl;refine bodyPost_ret (v:=.agg (Yt r st (.slice a7 n7 p) (.slice a8 n8 q))) (by simp[results,results57,go_sem,Yt,Jq,g0,g1,g2,g3,g4,g5,g6,g7,g8]) rfl ?_;have X:∀k Z,w1.heap.size<=k->W.heap[k]?=some (N_ Z 3)->¬At w.heap.size k:=λk _ hk _ e=>by
   have e:k=w.heap.size:=e
   have:=Dt L
   omega
  exact⟨KW.trans E (λk hk e=>qx (show k=w.heap.size from e) wB),st,_,_,rfl,x,(V.keep E X).mono y,(i8.keep E X).mono y⟩
def am2 (K:KS)(pid:Int)(base:Nat)(e:Ending)(w':o_):Prop:=
 (∃b r st v7 v8,b∈K.Ar/\K.ps b=some r/\(r.pid:Int)=pid/\e=.returned (.tuple #[.agg (Yt r st v7 v8),b_ 0])/\StX K r st/\Xy base v7 (ints r.Af) w'/\Xy base v8 r.fds w')\/(e=.returned (.tuple #[.agg Ez,b_ 2])/\∀b∈K.Ar,∀r,K.ps b=some r->(r.pid:Int)≠pid)
theorem QL (NC NS:Nat)(K:KS)(pid:Int)(h:AY K w)(ok:DU NC NS K):O_ m 20 #[Q_ K.kb,b_ pid] w λe w'=>Aa No w w'/\am2 K pid w.heap.size e w':=by
 have o:Aa No w (w.alloc (.cells Ez 48)):=(Aa.refl _ _).alloc _;have t:(w.alloc (.cells Ez 48)).heap[w.heap.size]?=some (N_ Ez 48):=Yw rfl;have M:w.heap.size<=(w.alloc (.cells Ez 48)).heap.size:=o.size;have H:w.alloc (.cells #[b_ 0,b_ 0,b_ 0,b_ 0,b_ 0,b_ 0,b_ 0,.slice none 0 0,.slice none 0 0] 48)=w.alloc (.cells Ez 48):=rfl;have R:=h.no o;gi_enter func20,ntmps20;gi_wp2_with fail
 try rw[H]
 generalize w.alloc (.cells Ez 48)=w1 at*;refine(TQ _ w1 K pid R ok.th (by have:=ok.len;omega)).mono ?_;rintro e w2 ⟨j,p,rfl,X⟩;obtain⟨b,r,rfl,hm,hb,V⟩|⟨rfl,L⟩:=X
 .unfold ptr;gi_wp2_with fail;refine(bw5 _ w2 K b r (R.no j) ok.th ok.len hb (ok.pr b r hb) (ok.co.pl b r hb).1).mono ?_;rintro e w4 ⟨N,q,v7,v8,rfl,Y,T,i8⟩;obtain⟨a7,c7,O,_⟩:=id T;obtain⟨a8,c8,Q,_⟩:=id i8;generalize I:(ints r.Af).length=n7 at O;generalize J:r.fds.length=n8 at Q;subst O Q;clear I J;have Z:=N.old (j.old t id) id;obtain⟨w3,s,l,i⟩:=EK (a:=r.pid) (b:=r.par) (c:=q) (d:=r.A) (e:=r.B) (f:=r.P) (g:=r.st) (n7:=n7) (c7:=c7) (n8:=n8) (c8:=c8) (a7:=a7) (a8:=a8) Z;gi_wp2_with (refine BM rfl (.tmp 4) (.tmp 14) 48 rfl rfl rfl s ?_);have u:w3.cell? (R_ w.heap.size)=some (b_ r.pid):=bce i rfl;have x:w3.cell? (S_ w.heap.size 1)=some (b_ r.par):=bce i rfl;have y:w3.cell? (S_ w.heap.size 2)=some (b_ q):=bce i rfl;have z:w3.cell? (S_ w.heap.size 3)=some (b_ r.A):=bce i rfl;have C:w3.cell? (S_ w.heap.size 4)=some (b_ r.B):=bce i rfl;have D:w3.cell? (S_ w.heap.size 5)=some (b_ r.P):=bce i rfl;have E:w3.cell? (S_ w.heap.size 6)=some (b_ r.st):=bce i rfl;have F:w3.cell? (S_ w.heap.size 7)=some (.slice a7 n7 c7):=bce i rfl;have G:w3.cell? (S_ w.heap.size 8)=some (.slice a8 n8 c8):=bce i rfl;refine bodyPost_ret (v:=.tuple #[.agg (Yt r q (.slice a7 n7 c7) (.slice a8 n8 c8)),b_ 0]) (by simp[results,results20,go_sem,Yt,Jq,u,x,y,z,C,D,E,F,G]) rfl ?_;have U:∀k W,w2.heap.size<=k->w4.heap[k]?=some (N_ W 3)->¬At w.heap.size k:=λk _ S _ e=>by
   have e:k=w.heap.size:=e
   have:=Dt t
   have:=j.size
   omega
  have n:w.heap.size<=w2.heap.size:=lN M j.size;exact⟨((o.then j).then N).trans l (λk S e=>qx (show k=w.heap.size from e) wB),.inl ⟨b,r,q,_,_,hm,hb,V,rfl,Y,(T.keep l U).mono n,(i8.keep l U).mono n⟩⟩
 .have hbd:=qY w2;obtain⟨w3,s,l,i⟩:=EK (a:=0) (b:=0) (c:=0) (d:=0) (e:=0) (f:=0) (g:=0) (n7:=0) (c7:=0) (n8:=0) (c8:=0) (a7:=none) (a8:=none) (j.old t id);gi_wp2_with (refine BM rfl (.tmp 4) (.tmp 12) 48 rfl rfl rfl s ?_);have u:w3.cell? (R_ w.heap.size)=some (b_ 0):=bce i rfl;have x:w3.cell? (S_ w.heap.size 1)=some (b_ 0):=bce i rfl;have y:w3.cell? (S_ w.heap.size 2)=some (b_ 0):=bce i rfl;have z:w3.cell? (S_ w.heap.size 3)=some (b_ 0):=bce i rfl;have C:w3.cell? (S_ w.heap.size 4)=some (b_ 0):=bce i rfl;have D:w3.cell? (S_ w.heap.size 5)=some (b_ 0):=bce i rfl;have E:w3.cell? (S_ w.heap.size 6)=some (b_ 0):=bce i rfl;have F:w3.cell? (S_ w.heap.size 7)=some (.slice none 0 0):=bce i rfl;have G:w3.cell? (S_ w.heap.size 8)=some (.slice none 0 0):=bce i rfl;refine bodyPost_ret (v:=.tuple #[.agg Ez,b_ 2]) (by simp[results,results20,go_sem,Ez,Jq,u,x,y,z,C,D,E,F,G]) rfl ?_;exact⟨(o.then j).trans l (λk S e=>qx (show k=w.heap.size from e) wB),.inr ⟨rfl,L⟩⟩
end
end Go.Fxa
