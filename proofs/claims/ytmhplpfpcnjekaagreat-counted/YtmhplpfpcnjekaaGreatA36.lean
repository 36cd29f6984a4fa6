/- Look, Pids, among many. -/
import Derived.Test.YtmhplpfpcnjekaaGreatA35
namespace Go.Fxa
open Conc Proofs RowKit Proofs.Tryz
set_option maxRecDepth 1000000
set_option maxHeartbeats 0
def ZE (base:Nat) (v:n_) (l:List Int) (w:o_):Prop:=∃s c,v=.slice s l.length c/\(0<l.length->∃(g:Nat) (cs:X_),s=some (S_ g)/\base<=g/\w.heap[g]?=some (O_ cs 3)/\∀(i:Nat) (x:Int),l[i]?=some x->cs[i]?=some (b_ x))
theorem ZE.keep {base:Nat} {v:n_} {l:List Int} {w w':o_} {S:Nat->Prop} (h:ZE base v l w) (hK:Keep S w w') (hn:∀k cs,base<=k->w.heap[k]?=some (O_ cs 3)->¬S k):ZE base v l w':=by
 obtain⟨s,c,e,h⟩:=h;refine⟨s,c,e,λi=>?_⟩;obtain⟨g,cs,d,a,b,f⟩:=h i;exact⟨g,cs,d,a,hK.old b (hn g cs a b),f⟩
theorem ZE.no {base:Nat} {v:n_} {l:List Int} {w w':o_} (h:ZE base v l w) (hK:Keep No w w'):ZE base v l w':=h.keep hK λ_ _ _ _ x=>x
theorem ZE.mono {base base':Nat} {v:n_} {l:List Int} {w:o_} (h:ZE base v l w) (hb:base'<=base):ZE base' v l w:=let ⟨s,c,e,h⟩:=h;⟨s,c,e,λa=>let ⟨g,cs,h1,h2,h3⟩:=h a;⟨g,cs,h1,Nat.le_trans hb h2,h3⟩⟩
def ints (l:List Nat):List Int:=l.map λx:Nat=>(x:Int)
def MQ (a b c d e f g:Int) (v7 v8:n_):X_:=#[b_ a,b_ b,b_ c,b_ d,b_ e,b_ f,b_ g,v7,v8]
abbrev V7 (r:PR) (s:Int) (v7 v8:n_):X_:=MQ r.pid r.par s r.A r.B r.P r.st v7 v8
abbrev look0:X_:=MQ 0 0 0 0 0 0 0 (.slice none 0 0) (.slice none 0 0)
theorem Nj {w:o_} {rb:Nat} {x0 x1 x2 x3 x4 x5 x6 x7 x8:n_} {a b c d e f g:Int} {n7 c7 n8 c8:Nat} {a7 a8:d_ f_} (h:w.heap[rb]?=some (O_ #[x0,x1,x2,x3,x4,x5,x6,x7,x8] 48)):∃w',(Instr.storeAt 48 (R_ rb) (.agg (MQ a b c d e f g (.slice a7 n7 c7) (.slice a8 n8 c8)))).run prog w=.ok () w'/\Keep (At rb) w w'/\w'.heap[rb]?=some (.cells (MQ a b c d e f g (.slice a7 n7 c7) (.slice a8 n8 c8)) 48 (0,0)):=by
 have m:(Instr.storeAt 48 (R_ rb) (.agg (MQ a b c d e f g (.slice a7 n7 c7) (.slice a8 n8 c8)))).run prog w=(stores rb 0 (MQ a b c d e f g (.slice a7 n7 c7) (.slice a8 n8 c8)).toList (.pure ())).run prog w:=by kernel_rfl
 obtain⟨w',i,j,l⟩:=GR (P:=prog) (k:=Sem.pure ()) (MQ a b c d e f g (.slice a7 n7 c7) (.slice a8 n8 c8)).toList 0 _ w h (by simp[MQ]) (by simp[MQ,Value.oneCell']);refine⟨w',?_,j,?_⟩
 .rw[m,i];rfl
 .rw[l];simp[Sz,MQ]
theorem kH (w:o_):(Instr.build 48 #[]).run prog w=.ok (.agg look0) w:=by kernel_rfl
def bz6 (base:Nat) (r:PR) (i:Nat) (v:n_) (W:o_):Prop:=(i=9->∃s,v=b_ s/\Hl r.en s)/\(i=38->ZE base v (ints r.Ag) W)/\(i=43->ZE base v r.fds W)
section
variable (m:Nat) (w:o_)
theorem nX (K:KS) (b:Nat) (r:PR) (h:AV K w) (hb:K.ps b=some r) (o:r.Ok) (hL:r.Ag.length<=128):P_ m 101 #[r.im] w λe w'=>Keep No w w'/\∃v,e=.returned v/\ZE w.heap.size v (ints r.Ag) w':=by
 cases hn:r.en with
 |true=>
  obtain⟨e1,_,e3,_⟩:=(h.ps b r hb).no hn
  rw[e1,e3]
  refine(nV m w).mono ?_
  rintro e w' ⟨d,rfl⟩
  exact⟨d,_,rfl,_,_,rfl,λh=>by simp[ints]at h⟩
 |false=>
  obtain⟨g,c,e1,n,_⟩:=(h.ps b r hb).im hn
  rw[e1]
  refine(aG m w g r.Ag.length (λi=>r.Ag.getD i 0) c (λi a=>?_) (λi a=>?_) hL).mono ?_
  .rw[n.cell (by omega),Az,List.getElem?_map,List.getD_eq_getElem?_getD,Ii a];rfl
  .rw[List.getD_eq_getElem?_getD,Ii a];exact o.Ag _ (List.getElem_mem a)
  .rintro e w' ⟨d,rfl,p⟩;obtain⟨l,k,q,f⟩:=p;refine⟨d,_,rfl,some (S_ w.heap.size),r.Ag.length,by simp[ints],λ_=>⟨_,l,rfl,w_ _,k,λi x j=>?_⟩⟩;have a:i<r.Ag.length:=by
    have:=(LQ.1 j).1
    simpa [ints]using this
   rw[f i a];simp only[ints,List.getElem?_map,Ii a,Option.map_some]at j;simp only[List.getD_eq_getElem?_getD,Ii a,Option.getD_some];rw[x_ j]
theorem clone_any (K:KS) (b:Nat) (r:PR) (h:AV K w) (hb:K.ps b=some r) (o:r.Ok):P_ m 102 #[r.fd] w λe w'=>Keep No w w'/\∃v,e=.returned v/\ZE w.heap.size v r.fds w':=by
 cases hn:r.en with
 |true=>
  obtain⟨_,e1,_,e3⟩:=(h.ps b r hb).no hn
  rw[e1,e3]
  refine(qI m w).mono ?_
  rintro e w' ⟨rfl,f⟩
  exact⟨f,_,rfl,_,_,rfl,λh=>by simp at h⟩
 |false=>
  obtain⟨g,c,e1,s,_⟩:=(h.ps b r hb).fd hn
  have y:=o.fds hn
  rw[e1]
  refine(XK m w (S_ g) r.fds.length c (Fp r.fds) (by simp[Fp]) (λj u l=>?_) (by simp[Fp,Value.oneCell']) (by omega)).mono ?_
  .have t:j<r.fds.length:=(by have:=(LQ.1 l).1;simpa [Fp]using this);rw[Addr.add_lit,Nat.zero_add,s.cell (by omega),l]
  .rintro e w' ⟨f,v,rfl,n⟩;refine⟨f,v,rfl,?_⟩;obtain⟨_,e⟩|⟨q,cap,d,rfl,k,a,_⟩:=n.2
   .omega
   .refine⟨_,cap,rfl,λ_=>⟨q,d,rfl,k,a,λi x p=>?_⟩⟩;have z:=(LQ.1 p).1;refine((Af a i).symm.trans (n.cellAt i (by omega))).trans ?_;simp only[Fp,List.getElem?_map,p,Option.map_some]
theorem aw5 (K:KS) (b:Nat) (r:PR) (h:AV K w) (hT:K.EC) (hl:K.AP.length<=12) (hb:K.ps b=some r) (o:r.Ok) (hL:r.Ag.length<=128):
  P_ m 57 #[R_ b] w λe w'=>Keep No w w'/\∃st v7 v8,e=.returned (.agg (V7 r st v7 v8))/\Hl r.en st/\ZE w.heap.size v7 (ints r.Ag) w'/\ZE w.heap.size v8 r.fds w':=by
 have z:Keep No w (w.alloc (.cells look0 48)):=(p_ _ _).alloc _;have J:(w.alloc (.cells look0 48)).heap[w.heap.size]?=some (O_ look0 48):=heap_alloc_new rfl;have x:w.heap.size<=(w.alloc (.cells look0 48)).heap.size:=z.size;have F:w.alloc (.cells #[b_ 0,b_ 0,b_ 0,b_ 0,b_ 0,b_ 0,b_ 0,.slice none 0 0,.slice none 0 0] 48)=w.alloc (.cells look0 48):=rfl;gi_enter func57,ntmps57;gi_wp2
 try rw[F]
 have n:=h.no z;generalize w.alloc (.cells look0 48)=w1 at*;have M:=n.GG hb 0;have N:=n.GG hb 1;have c3:=n.GG hb 3;have O:=n.GG hb 5;have Q:=n.GG hb 6;have c7:=n.GG hb 7;have c8:=n.GG hb 8;have R:=n.GG hb 9;simp[PR.arr]at M N c3 O Q c7 c8 R;have oA:=o.A;have oB:=o.B;have oP:=o.P;have oS:=o.st;refine Cf (P:=prog) No _ rfl rfl (by kernel_rfl) 44 48 [0,1,2,3,4,5,6,7,8,10,11,12,13,14,15,16,17,18,19,20,21,22,23,24,25,26,27,28,29,30,31,32,33,34,35,36,37,39,40,41,42] [9,38,43] (by kernel_rfl) (by rfl) (bz6 w1.heap.size r)
  (λ_ _ _ _ _ h j=>⟨h.1,λe=>(h.2.1 e).no j,λe=>(h.2.2 e).no j⟩) _ _ rfl rfl ?_;gi_wp2;refine⟨rfl,by kernel_rfl,?_,?_,?_⟩
 .intro W j;have d0:=j.has (w:=w1.drew) M;have d1:=j.has (w:=w1.drew) N;have d3:=j.has (w:=w1.drew) c3;have d5:=j.has (w:=w1.drew) O;have d6:=j.has (w:=w1.drew) Q;have d7:=j.has (w:=w1.drew) c7;have d8:=j.has (w:=w1.drew) c8;have d9:=j.has (w:=w1.drew) R
  repeat' (refine Ae ?_ ?_)
  all_goals first|exact trivial|gi_wp2
 .intro i hx u W j y;have D:=n.no ((p_ No w1).drew.then j);obtain rfl|rfl|rfl:=(by simpa using hx:i=9\/i=38\/i=43)
  .refine Bh rfl λKK L=>?_
   show wpListIn NF m prog _ _ _ (Act.put (Act.put (Act.put _ (some 12) (u 9)) (some 41) (u 38)) (some 46) (u 43)) _;gi_wp2_with (gi_at_call 55;refine(sK _ W K b r D hT hb (by omega)).mono ?_;rintro e w2 ⟨t,s,rfl,E⟩);exact⟨_,rfl,t,λ_=>⟨s,rfl,E⟩,(λh=>absurd h (by decide)),λh=>absurd h (by decide)⟩
  .refine Bh rfl λKK L=>?_
   show wpListIn NF m prog _ _ _ (Act.put (Act.put (Act.put _ (some 12) (u 9)) (some 41) (u 38)) (some 46) (u 43)) _;gi_wp2_with (gi_at_call 101;refine(nX _ W K b r D hb o hL).mono ?_;rintro e w2 ⟨t,v,rfl,I⟩);exact⟨_,rfl,t,(λh=>absurd h (by decide)),λ_=>I.mono j.size,λh=>absurd h (by decide)⟩
  .refine Bh rfl λKK L=>?_
   show wpListIn NF m prog _ _ _ (Act.put (Act.put (Act.put _ (some 12) (u 9)) (some 41) (u 38)) (some 46) (u 43)) _;gi_wp2_with (gi_at_call 102;refine(clone_any _ W K b r D hb o).mono ?_;rintro e w2 ⟨t,v,rfl,I⟩);exact⟨_,rfl,t,(λh=>absurd h (by decide)),(λh=>absurd h (by decide)),λ_=>I.mono j.size⟩
 .intro u W j y;have KW:Keep No w W:=z.drew.then j;obtain⟨st,Z,E⟩:=(y 9 (by simp)).1 rfl;have U:=(y 38 (by simp)).2.1 rfl;have i8:=(y 43 (by simp)).2.2 rfl;show wpListIn NF m prog _ _ _ (Act.put (Act.put (Act.put _ (some 12) (u 9)) (some 41) (u 38)) (some 46) (u 43)) _;rw[Z];generalize u 38=v7 at*;generalize u 43=v8 at*;obtain⟨a7,p,S,_⟩:=id U;obtain⟨a8,q,T,_⟩:=id i8;generalize G:(ints r.Ag).length=n7 at S;generalize H:r.fds.length=n8 at T;subst S T;have hW:=j.old (heap_drew.trans J) id;obtain⟨w3,X,C,l⟩:=Nj (a:=r.pid) (b:=r.par) (c:=st) (d:=r.A) (e:=r.B) (f:=r.P) (g:=r.st) (n7:=n7) (c7:=p) (n8:=n8) (c8:=q) (a7:=a7) (a8:=a8) hW;clear y G H;gi_wp2_with (refine Dk rfl (.tmp 2) (.tmp 47) 48 rfl rfl rfl X ?_);have g0:w3.cell? (S_ w.heap.size)=some (b_ r.pid):=bce l rfl;have g1:w3.cell? (T_ w.heap.size 1)=some (b_ r.par):=bce l rfl;have g2:w3.cell? (T_ w.heap.size 2)=some (b_ st):=bce l rfl;have g3:w3.cell? (T_ w.heap.size 3)=some (b_ r.A):=bce l rfl;have g4:w3.cell? (T_ w.heap.size 4)=some (b_ r.B):=bce l rfl;have g5:w3.cell? (T_ w.heap.size 5)=some (b_ r.P):=bce l rfl;have g6:w3.cell? (T_ w.heap.size 6)=some (b_ r.st):=bce l rfl;have g7:w3.cell? (T_ w.heap.size 7)=some (.slice a7 n7 p):=bce l rfl;have g8:w3.cell? (T_ w.heap.size 8)=some (.slice a8 n8 q):=bce l rfl;refine bodyPost_ret (v:=.agg (V7 r st (.slice a7 n7 p) (.slice a8 n8 q))) (by simp[results,results57,go_sem,V7,MQ,g0,g1,g2,g3,g4,g5,g6,g7,g8]) rfl ?_;have V:∀k Y,w1.heap.size<=k->W.heap[k]?=some (O_ Y 3)->¬At w.heap.size k:=λk _ hk _ e=>by
   have e:k=w.heap.size:=e
   have:=BQ J
   omega
  exact⟨KW.trans C (λk hk e=>absurd (show k=w.heap.size from e) (by omega)),st,_,_,rfl,E,(U.keep C V).mono x,(i8.keep C V).mono x⟩
def ω (K:KS) (pid:Int) (base:Nat) (e:Ending) (w':o_):Prop:=
 (∃b r st v7 v8,b∈K.AP/\K.ps b=some r/\(r.pid:Int)=pid/\e=.returned (.tuple #[.agg (V7 r st v7 v8),b_ 0])/\Hl r.en st/\ZE base v7 (ints r.Ag) w'/\ZE base v8 r.fds w')\/(e=.returned (.tuple #[.agg look0,b_ 2])/\∀b∈K.AP,∀r,K.ps b=some r->(r.pid:Int)≠pid)
theorem Ψ (NC NS:Nat) (K:KS) (pid:Int) (h:AV K w) (ok:Ez NC NS K):P_ m 20 #[R_ K.kb,b_ pid] w λe w'=>Keep No w w'/\ω K pid w.heap.size e w':=by
 have o:Keep No w (w.alloc (.cells look0 48)):=(p_ _ _).alloc _;have u:(w.alloc (.cells look0 48)).heap[w.heap.size]?=some (O_ look0 48):=heap_alloc_new rfl;have N:w.heap.size<=(w.alloc (.cells look0 48)).heap.size:=o.size;have I:w.alloc (.cells #[b_ 0,b_ 0,b_ 0,b_ 0,b_ 0,b_ 0,b_ 0,.slice none 0 0,.slice none 0 0] 48)=w.alloc (.cells look0 48):=rfl;have S:=h.no o;gi_enter func20,ntmps20;gi_wp2_with fail
 try rw[I]
 generalize w.alloc (.cells look0 48)=w1 at*;refine(ZP _ w1 K pid S ok.th (by have:=ok.len;omega)).mono ?_;rintro e w2 ⟨j,p,rfl,Y⟩;obtain⟨b,r,rfl,hm,q,W⟩|⟨rfl,M⟩:=Y
 .unfold ptr;gi_wp2_with fail;refine(aw5 _ w2 K b r (S.no j) ok.th ok.len q (ok.pr b r q) (ok.co.pl b r q).1).mono ?_;rintro e w4 ⟨O,s,v7,v8,rfl,Z,U,i8⟩;obtain⟨a7,c7,Q,_⟩:=id U;obtain⟨a8,c8,R,_⟩:=id i8;generalize J:(ints r.Ag).length=n7 at Q;generalize L:r.fds.length=n8 at R;subst Q R;clear J L;have hW:=O.old (j.old u id) id;obtain⟨w3,t,l,i⟩:=Nj (a:=r.pid) (b:=r.par) (c:=s) (d:=r.A) (e:=r.B) (f:=r.P) (g:=r.st) (n7:=n7) (c7:=c7) (n8:=n8) (c8:=c8) (a7:=a7) (a8:=a8) hW;gi_wp2_with (refine Dk rfl (.tmp 4) (.tmp 14) 48 rfl rfl rfl t ?_);have x:w3.cell? (S_ w.heap.size)=some (b_ r.pid):=bce i rfl;have y:w3.cell? (T_ w.heap.size 1)=some (b_ r.par):=bce i rfl;have z:w3.cell? (T_ w.heap.size 2)=some (b_ s):=bce i rfl;have C:w3.cell? (T_ w.heap.size 3)=some (b_ r.A):=bce i rfl;have D:w3.cell? (T_ w.heap.size 4)=some (b_ r.B):=bce i rfl;have E:w3.cell? (T_ w.heap.size 5)=some (b_ r.P):=bce i rfl;have F:w3.cell? (T_ w.heap.size 6)=some (b_ r.st):=bce i rfl;have G:w3.cell? (T_ w.heap.size 7)=some (.slice a7 n7 c7):=bce i rfl;have H:w3.cell? (T_ w.heap.size 8)=some (.slice a8 n8 c8):=bce i rfl;refine bodyPost_ret (v:=.tuple #[.agg (V7 r s (.slice a7 n7 c7) (.slice a8 n8 c8)),b_ 0]) (by simp[results,results20,go_sem,V7,MQ,x,y,z,C,D,E,F,G,H]) rfl ?_;have V:∀k X,w2.heap.size<=k->w4.heap[k]?=some (O_ X 3)->¬At w.heap.size k:=λk _ T _ e=>by
   have e:k=w.heap.size:=e
   have:=BQ u
   have:=j.size
   omega
  have n:w.heap.size<=w2.heap.size:=Nat.le_trans N j.size;exact⟨((o.then j).then O).trans l (λk T e=>absurd (show k=w.heap.size from e) (by omega)),.inl ⟨b,r,s,_,_,hm,q,W,rfl,Z,(U.keep l V).mono n,(i8.keep l V).mono n⟩⟩
 .have hbd:=kH w2;obtain⟨w3,t,l,i⟩:=Nj (a:=0) (b:=0) (c:=0) (d:=0) (e:=0) (f:=0) (g:=0) (n7:=0) (c7:=0) (n8:=0) (c8:=0) (a7:=none) (a8:=none) (j.old u id);gi_wp2_with (refine Dk rfl (.tmp 4) (.tmp 12) 48 rfl rfl rfl t ?_);have x:w3.cell? (S_ w.heap.size)=some (b_ 0):=bce i rfl;have y:w3.cell? (T_ w.heap.size 1)=some (b_ 0):=bce i rfl;have z:w3.cell? (T_ w.heap.size 2)=some (b_ 0):=bce i rfl;have C:w3.cell? (T_ w.heap.size 3)=some (b_ 0):=bce i rfl;have D:w3.cell? (T_ w.heap.size 4)=some (b_ 0):=bce i rfl;have E:w3.cell? (T_ w.heap.size 5)=some (b_ 0):=bce i rfl;have F:w3.cell? (T_ w.heap.size 6)=some (b_ 0):=bce i rfl;have G:w3.cell? (T_ w.heap.size 7)=some (.slice none 0 0):=bce i rfl;have H:w3.cell? (T_ w.heap.size 8)=some (.slice none 0 0):=bce i rfl;refine bodyPost_ret (v:=.tuple #[.agg look0,b_ 2]) (by simp[results,results20,go_sem,look0,MQ,x,y,z,C,D,E,F,G,H]) rfl ?_;exact⟨(o.then j).trans l (λk T e=>absurd (show k=w.heap.size from e) (by omega)),.inr ⟨rfl,M⟩⟩
end
def U4 (c:Int) (n:Nat):Nat:=if c<0 then((-(c+1)) % (n:Int)).toNat else(c % (n:Int)).toNat
theorem ϥ (c:Int) {n:Nat} (hn:1<=n):U4 c n<n:=by
 unfold U4;split
 .have:=Int.emod_lt_of_pos (-(c+1)) (show(0:Int)<n by omega);have:=Int.emod_nonneg (-(c+1)) (show(n:Int)≠0 by omega);omega
 .have:=Int.emod_lt_of_pos c (show(0:Int)<n by omega);have:=Int.emod_nonneg c (show(n:Int)≠0 by omega);omega
section
variable (m:Nat) (w:o_)
theorem Ξ (c:Int) (n r:Nat) (hc:-9223372036854775808<=c) (hc':c<=9223372036854775807) (hn:1<=n) (hn':n<=4) (hr:U4 c n=r):P_ m 16 #[b_ c,b_ n] w λe w'=>e=.returned (b_ r)/\w'=w:=by
 unfold U4 at hr;by_cases a:c<0
 .rw[if_pos a]at hr;gi_enter func16,ntmps16;gi_wp2
  all_goals go_ret
  refine⟨Z8 ?_,rfl⟩;have:=Int.emod_nonneg (-(c+1)) (show(n:Int)≠0 by omega);have e:-((c+1).tmod (n:Int))=(-(c+1)) % (n:Int):=by rw[<-Int.neg_tmod,Int.tmod_eq_emod_of_nonneg (by omega)]
  simp only[e];omega
 .rw[if_neg a]at hr;gi_enter func16,ntmps16;gi_wp2
  all_goals go_ret
  have b:=Int.emod_nonneg c (show(n:Int)≠0 by omega);exact⟨Z8 (by omega),rfl⟩
end
theorem tX {w w':o_} {base:Nat} {e:j_} {size:Nat} {v:n_} {n:Nat} {xs:U_} (h:w.ownsRow base e size v n xs) (hK:Keep No w w'):w'.ownsRow base e size v n xs:=by
 obtain⟨j,i⟩:=h;refine⟨j,?_⟩;obtain i|⟨g,cap,f,a,b,c,d⟩:=i
 .exact .inl i
 .exact .inr ⟨g,cap,f,a,b,hK.old c id,d⟩
def dh (K:KS) (k:Nat):U_:=(K.AP.take k).map λb=>b_ (match K.ps b with|some r=>(r.pid:Int)|none=>0)
theorem wV {K:KS} {k b:Nat} {r:PR} (h:K.AP[k]?=some b) (hr:K.ps b=some r):dh K (k+1)=dh K k++[b_ r.pid]:=by
 unfold dh;rw[List.take_add_one,h];simp[hr]
section
variable (m:Nat) (w:o_)
theorem av3 (K:KS) (h:AV K w) (hT:K.EC) (hl:K.AP.length<=12):P_ m 50 #[R_ K.kb] w λe w'=>Keep No w w'/\∃v,e=.returned v/\w'.ownsRow w.heap.size 3 1 v K.AP.length (dh K K.AP.length):=by
 have I:=h.kc2;obtain⟨G,j,n,o,p⟩:=info_parts info3;gi_enter func50,ntmps50;gi_wp2;gi_loopw [3,11] (λa i wr=>∃k:Nat,k<=K.AP.length/\i=b_ k/\Keep No w wr/\wr.ownsRow w.heap.size 3 1 a k (dh K k)) (λ_ i _=>K.AP.length-(intOf i).toNat)
 case atStart=>exact⟨0,by omega,rfl,p_ _ _,World.ownsRow_nil _ _ _ _⟩
 case round=>
  obtain⟨k,z,rfl,KK,t⟩:=hrel
  by_cases C:k<K.AP.length
  .have f:K.AP[k]?=some K.AP[k]:=Ii C;generalize K.AP[k]=b at f;obtain⟨r,B⟩:=AV.mem hT f;have y:=h.no KK;have E:=y.dU f;have d1:=y.GG B 0;simp only[ptr]at E;simp[PR.arr]at d1;have g:Keep No wr (wr.alloc (.cells #[b_ r.pid] 3)):=(p_ _ _).alloc _;have c:∀q u,([b_ r.pid]:U_)[q]?=some u->(wr.alloc (.cells #[b_ r.pid] 3)).cell? (((S_ wr.heap.size):f_).add q)=some u:=λq u l=>by
    match q,l with
    |0,l=>
     have F:(wr.alloc (.cells #[b_ r.pid] 3)).heap[wr.heap.size]?=some (O_ #[b_ r.pid] 3):=heap_alloc_new rfl
     rw[Addr.add_lit]
     refine(Af F 0).trans ?_
     simpa using l
   have A:(wr.alloc (.cells #[b_ r.pid] 3)).ownsRow w.heap.size 3 1 _ k (dh K k):=tX t g;gi_wp2_with (gi_at_builtin;refine wpListIn_append_own _ rfl (.tmp 15) (.tmp 20) 22 rfl w.heap.size 3 G (b_ 0) 1 8 underlying22 j n o p rfl (by decide) _ k (dh K k) rfl A (S_ wr.heap.size) 1 1 [b_ r.pid] rfl rfl c (by simp[Value.oneCell']) (by unfold maxLen;omega) (by omega) (Nat.le_trans KK.size g.size) ?_;intro J w4 d s _;have D:Keep No w w4:=(KK.then g).trans (Ey s λk z _=>z) (λx H e=>absurd (A.lt x e).1 (by omega));clear s);go_roundw
   case rel=>exact⟨k+1,by omega,by go_num,D,by rw[wV f B];exact d⟩
   case measure=>simp[intOf];omega
  .obtain rfl:k=K.AP.length:=(by omega);gi_wp2;go_ret;exact⟨KK,by simpa using t⟩
end
theorem uf {NC NS k b:Nat} {K:KS} {r:PR} {w w':o_} {e:Ending} (ok:Ez NC NS K) (hg:K.AP[k]?=some b) (hr:K.ps b=some r) (h:Keep No w w'/\ω K r.pid w.heap.size e w'):Keep No w w'/\∃st a7 n7 c7 a8 n8 c8,e=.returned (.tuple #[.agg (V7 r st (.slice a7 n7 c7) (.slice a8 n8 c8)),b_ 0])/\Hl r.en st/\ZE w.heap.size (.slice a7 n7 c7) (ints r.Ag) w'/\ZE w.heap.size (.slice a8 n8 c8) r.fds w':=by
 obtain⟨g,⟨f,j,st,l,m,c,a,i,e1,e2,e3,e4⟩|⟨_,d⟩⟩:=h
 .obtain rfl:=ok.one f j b r c (t_ hg) a hr (by omega);rw[hr]at a;cases a;obtain⟨a7,c7,rfl,_⟩:=id e3;obtain⟨a8,c8,rfl,_⟩:=id e4;exact⟨g,st,a7,_,c7,a8,_,c8,e1,e2,e3,e4⟩
 .exact absurd rfl (d b (t_ hg) r hr)
section
variable (m:Nat) (w:o_)
end
theorem ar0:(prog.funcs[13]?).any (·.norace)=false:=by kernel_rfl
theorem nG:FP prog 13=Tryz.f13.body.getD .skip:=by kernel_rfl
def bq (P:l_) (i:Nat):Code:=piece (behind i (FP P 13))
def bX (P:l_) (i:Nat):Code:=behind i (FP P 13)
theorem al3:(bq prog 1).BC (CS prog)=true:=by kernel_rfl
theorem al2:(bq prog 2).BC (CS prog)=true:=by kernel_rfl
theorem al9:(bX prog 4).BC (CS prog)=true:=by kernel_rfl
theorem am0:bX prog 2=(bq prog 2).seq (bX prog 3):=by kernel_rfl
section
variable (kp told er:n_) (cs:Z_) (f:Y_) (c0:Frame)
def bA (P:l_:=prog):Frame×Z_:=run P 5 (Frame.enter P 13 #[] .normal,cs)
theorem bz1:AB prog 5 (Frame.enter prog 13 #[] .normal,cs)=some []:=by kernel_rfl
theorem bz0:Dj (bA cs)=(13,[.code (bq prog 1),.code (bX prog 2)],[],.run,.normal,none,cs):=by kernel_rfl
theorem by9:(bA cs).1.tmps.size=63:=by kernel_rfl
def bB (P:l_:=prog):Frame×Z_:=(Frame.mk 13 (TN 63 (AY f [(1,kp)])) [.code (bX P 3)] [] .run .normal none,cs)
theorem by7:AB prog 4 (bB kp cs f)=some []:=by kernel_rfl
def bC (P:l_:=prog):Frame:=(below (run P 4 (bB kp cs f P))).1
theorem by6:run prog 4 (bB kp cs f)=(Frame.enter prog 19 #[kp,b_ 1,b_ 1] .normal,bC kp cs f::cs):=by kernel_rfl
def bD (P:l_:=prog):Frame×Z_:=run P 6 ((bC kp cs f P).finish (.tuple #[told,er]),cs)
theorem by5:AB prog 6 ((bC kp cs f).finish (.tuple #[told,er]),cs)=some []:=by kernel_rfl
theorem by4:Dj (bD kp told er cs f)=(13,[.code (bX prog 4)],[],.run,.normal,none,cs):=by kernel_rfl
theorem by3:slotsOf (bD kp told er cs f) [1,3,4]=[kp,told,er]:=by kernel_rfl
theorem by2:(bD kp told er cs f).1.tmps.size=63:=by kernel_rfl
theorem by1 (b:Bool) (todo:List Item):AB prog 1 (Frame.mk 13 (TN 63 (AY f [(0,.bool b)])) todo [] .returning .normal none,c0::cs)=some []:=by kernel_rfl
theorem by0 (b:Bool) (todo:List Item):run prog 1 (Frame.mk 13 (TN 63 (AY f [(0,.bool b)])) todo [] .returning .normal none,c0::cs)=(c0.finish (.bool b),cs):=by kernel_rfl
end
def bz9 (w:o_) (tm:X_) (w':o_):Prop:=Keep No w w'/\∃K C M g,tm=TN 63 (AY g [(1,ptr K.kb)])/\tm=TN 63 (AY g [(1,ptr K.kb),(2,b_ 0)])/\AV K w'/\Ez C M K/\Beg K 1 1/\∀k,K.T k≠(0,0)->w.heap.size<=k
def rJ (i:Nat):Int:=if i=0 then 11 else 12
def vk (f:Y_) (a b c d e:n_):X_:=#[a,b,c,d,e,f 5,f 6,f 7,f 8,f 9,f 10,f 11,f 12,f 13,f 14,f 15,f 16,f 17,f 18,f 19,f 20,f 21,f 22,f 23,f 24,f 25,f 26,f 27,f 28,f 29,f 30,f 31,f 32,f 33,f 34,f 35,f 36,f 37,f 38,f 39,f 40,f 41,f 42,f 43,f 44,f 45,f 46,f 47,f 48,f 49,f 50,f 51,f 52,f 53,f 54,f 55,f 56,f 57,f 58,f 59,f 60,f 61,f 62]
theorem br4:(di 2 (8*Aj 2) λi=>(rJ i).toNat)=[11,12,0,0,0,0,0,0]:=by decide
section
variable (m:Nat) (w:o_) (f:Y_)
theorem al6:(bq prog 1).wpIn NF m prog (Ends (bz9 w)) ⟨TN 63 (AY f []),[]⟩ w:=by
 unfold bq;rw[nG];dsimp only[Tryz.f13,Option.getD,behind,piece];show Code.wpIn (Fence.list LF none) m prog _ _ ⟨vk f (f 0) (f 1) (f 2) (f 3) (f 4),[]⟩ _;unfold vk;have c:Keep No w (w.alloc (.cells #[b_ 11,b_ 12] 3)):=(p_ _ _).alloc _;have j:(w.alloc (.cells #[b_ 11,b_ 12] 3)).heap[w.heap.size]?=some (O_ #[b_ 11,b_ 12] 3):=heap_alloc_new rfl;have n:kZ (w.alloc (.cells #[b_ 11,b_ 12] 3)) (Q_ w.heap.size 2 2) 2 rJ:=⟨⟨_,_,rfl⟩,λ_=>⟨by omega,_,_,rfl,λ_=>⟨_,_,rfl,λi o=>by
  have:i=0\/i=1:=by omega
  obtain rfl|rfl:=this<;>rw[Af j]<;>rfl⟩⟩⟩;have l:Uo (w.alloc (.cells #[b_ 11,b_ 12] 3)) (.slice none 0 0) 0 (λ_=>(.slice none 0 0,0,λ_=>0)):=⟨_,_,rfl,λh=>absurd h (by omega)⟩;gi_wp2_with fail;refine(ao2 _ (w.alloc (.cells #[b_ 11,b_ 12] 3)) 16 20 _ _ 2 0 rJ _ n l).mono ?_;rintro e w1 ⟨g,⟨_,a⟩|⟨K,b,u,t,C,M,rfl,s,ok,q,d,r,_⟩⟩
 .exact(a rfl ⟨by omega,⟨by omega,by omega,λi o=>by unfold rJ;split<;>omega⟩,by unfold Aj;omega⟩).elim
 .rw[br4]at d;unfold ptr;gi_wp2;exact⟨rfl,rfl,c.then g,K,C,M,_,DW rfl (by simp[ptr]),DW rfl (by simp[ptr]),s,ok,⟨rfl,rfl,b,_,q,d,rfl,rfl,rfl,rfl,rfl⟩,λk p=>Nat.le_trans c.size (r k p)⟩
theorem al8 (kb:Nat):(bq prog 2).wpIn NF m prog (Ends λtm w'=>(∃g,tm=TN 63 (AY g [(1,ptr kb)]))/\Keep No w w') ⟨TN 63 (AY f [(1,ptr kb),(2,b_ 0)]),[]⟩ w:=by
 unfold bq;rw[nG];dsimp only[Tryz.f13,Option.getD,behind,piece];show Code.wpIn (Fence.list LF none) m prog _ _ ⟨vk f (f 0) (ptr kb) (b_ 0) (f 3) (f 4),[]⟩ _;unfold vk ptr;gi_wp2;exact⟨rfl,rfl,⟨_,DW rfl (by simp)⟩,p_ _ _⟩
theorem al7 (NC NS:Nat) (K:KS) (told:n_) (b:Nat) (r:PR) (h:AV K w) (ok:Ez NC NS K) (ht:w.ownsRow 0 59 4 told 1 (Vx [(1,12,1,0)])) (hm:b∈K.AP) (hb:K.ps b=some r) (hA:r.A=1) (hP:r.P=2) (hi:r.Ag.length=8) (Su:r.pid=1):
  (bX prog 4).wpIn NF m prog (VZ λtm w'=>(∃g,tm=TN 63 (AY g [(0,.bool true)]))/\Keep No w w') ⟨TN 63 (AY f [(1,ptr K.kb),(3,told),(4,b_ 0)]),[]⟩ w:=by
 obtain⟨k,z⟩:=List.mem_iff_getElem?.1 hm;have j:=λm=>(Ψ m w NC NS K r.pid h ok).mono λe w2 h=>uf ok z hb h
 rw[Su]at j;obtain⟨l,I,C⟩:∃g c,told=Q_ g 1 c:=by
  obtain⟨_,e⟩|⟨g,cap,v,e,_⟩:=ht.2
  .omega
  .exact⟨g,cap,e⟩
 subst C;have E:w.cell? (S_ l)=some (b_ 1):=ht.cellAt 0 (by omega);have F:w.cell? (T_ l 1)=some (b_ 12):=ht.cellAt 1 (by omega);have G:w.cell? (T_ l 2)=some (b_ 1):=ht.cellAt 2 (by omega);have H:w.cell? (T_ l 3)=some (b_ 0):=ht.cellAt 3 (by omega);unfold bX;rw[nG];dsimp only[Tryz.f13,Option.getD,behind];show Code.wpIn (Fence.list LF none) m prog _ _ ⟨vk f (f 0) (ptr K.kb) (f 2) (Q_ l 1 I) (b_ 0),[]⟩ _;unfold vk ptr;gi_upto_region 6 with(first|(gi_at_call 20;refine(j _).mono ?_;rintro e w2 ⟨t,D,a7,n7,c7,a8,n8,c8,rfl,y,q,i8⟩;obtain⟨w3,i,p,n⟩:=Nj (w:=w2.alloc (.cells look0 48)) (rb:=w2.heap.size) (a:=r.pid) (b:=r.par) (c:=D) (d:=r.A) (e:=r.B) (f:=r.P) (g:=r.st) (n7:=n7) (c7:=c7) (n8:=n8) (c8:=c8) (a7:=a7) (a8:=a8) (heap_alloc_new rfl))|refine Dk rfl (.tmp 5) (.tmp 27) 48 rfl rfl rfl i ?_);have u:Keep No w2 w3:=((p_ No w2).alloc (.cells look0 48)).trans p (λx O e=>absurd (show x=w2.heap.size from e) (by omega));have o:n7=8:=by
  obtain⟨s,c,e,_⟩:=q
  cases e
  simp[ints,hi]
 subst o;have K23:=t.then u;have J:=K23.has E;have d1:=K23.has F;have d2:=K23.has G;have d3:=K23.has H;have L:w3.cell? (T_ w2.heap.size 3)=some (b_ 1):=by rw[Af n];simp[MQ,hA]
 have M:w3.cell? (T_ w2.heap.size 5)=some (b_ 2):=by rw[Af n];simp[MQ,hP]
 have N:w3.cell? (T_ w2.heap.size 7)=some (.slice a7 8 c7):=bce n rfl;clear hA hP hi Su i n p q i8 y;gi_wp2;exact⟨rfl,rfl,⟨_,DW rfl (by simp)⟩,K23⟩
end
theorem BM.low {T T':Tag} {v0 v v':o_} (M:BM T T' v v') (h0:Keep No v0 v) (ht:∀k,T k≠(0,0)->v0.heap.size<=k):Keep No v0 v'/\∀k,T' k≠(0,0)->v0.heap.size<=k:=by
 refine⟨h0.trans M.keep (λk a e=>absurd (ht k e) (by omega)),λk a=>?_⟩;by_cases e:k<v.heap.size
 .exact ht k (by rw[<-Dv.fresh M k e];exact a)
 .exact Nat.le_trans h0.size (by omega)
theorem qR {Od:Old} {v:o_} {c0:Frame} {cs:Z_} {R:Frame×Z_->o_->Prop} (hk:∀v',Keep No v v'->Goes Od prog (c0.finish (.bool true),cs) v' R):Goes Od prog (Frame.enter prog 13 #[] .normal,c0::cs) v R:=by
 refine Goes.AB (bz1 _) ?_;rw[show run prog 5 (Frame.enter prog 13 #[] .normal,c0::cs)=bA (c0::cs)from rfl,at_toldM (l:=[]) (bz0 _) rfl (by9 _)];refine Goes.part (m:=0) ar0 rfl al3 (λv1 _=>al6 0 v1 _) λv1 p v2 n ⟨s,K,C,M,g,_,e,J,ok,D,I⟩=>?_
 subst e;rw[am0];refine Goes.seq (Goes.part (m:=0) ar0 rfl al2 (λv1 _=>al8 0 v1 _ _) λv3 p v4 t ⟨⟨f,e⟩,u⟩=>?_);subst e;have o:=t.then u;refine Goes.AB (x:=bB (ptr K.kb) (c0::cs) f) (by7 _ _ _) ?_;rw[by6];refine UI (bg:=true) (J.no o) ok (λ_=>D) λtold e O j a=>?_
 obtain⟨rfl,c,b,r,H,F,B,h,G,y,_⟩:=a.bg rfl;have i:j.kb=K.kb:=by
  obtain e|⟨_,_,_,_,_,E⟩:=a.rel
  .rw[e]
  .exact E.kb
 refine Goes.AB (by5 _ _ _ _ _) ?_;rw[show run prog 6 ((bC (ptr K.kb) (c0::cs) f).finish (.tuple #[told,b_ 0]),c0::cs)=bD (ptr K.kb) told (b_ 0) (c0::cs) f from rfl,at_toldM (l:=[(1,ptr K.kb),(3,told),(4,b_ 0)]) (by4 _ _ _ _ _) (by3 _ _ _ _ _) (by2 _ _ _ _ _),<-i];refine Goes.yP (m:=0) ar0 rfl al9 (λv6 d=>al7 0 v6 _ C M j told b r (a.ka.no d) a.ok (tX c d) H F B h G y) λv6 p q L d ⟨⟨N,e⟩,w⟩=>?_
 subst e;refine Goes.AB (by1 _ _ _ _ _) ?_;rw[by0];refine hk L ?_;have z:Keep No v v4:=(n.then s).then o;have A:=(a.mv.low z (λk hk=>Nat.le_trans n.size (I k hk))).1;exact A.then (d.then w)
@[simp] theorem lf23:(23:h_)∈LF:=by decide
@[simp] theorem lf60:(60:h_)∈LF:=by decide
@[simp] theorem lf61:(61:h_)∈LF:=by decide
@[simp] theorem lf62:(62:h_)∈LF:=by decide
def uQ (a k i:Nat):Bool:=decide (a<=i) && decide (i<a+k)
theorem ay7 (a i:Nat):uQ a 0 i=false:=by unfold uQ;simp
def I4 (w:o_) (b n:Nat) (f:Nat->Bool):Prop:=∃cs,w.heap[b]?=some (O_ cs 4)/\cs.size=n/\∀i,i<n->cs[i]?=some (.bool (f i))
theorem I4.keep {w w':o_} {b n:Nat} {f:Nat->Bool} {S:Nat->Prop} (h:I4 w b n f) (hK:Keep S w w') (hn:¬S b):I4 w' b n f:=let ⟨cs,h1,h2,h3⟩:=h;⟨cs,hK.old h1 hn,h2,h3⟩
theorem I4.cell {w:o_} {b n:Nat} {f:Nat->Bool} (h:I4 w b n f) {i:Nat} (hi:i<n):w.cell? (T_ b i)=some (.bool (f i)):=let ⟨_,h1,_,h3⟩:=h;bce h1 (h3 i hi)
theorem I4.fz {w:o_} {b n:Nat} {f:Nat->Bool} (h:I4 w b n f) (i:Nat):w.frozen? (T_ b i)=false:=let ⟨_,h1,_⟩:=h;BO h1 i
theorem I4.set {w:o_} {b n:Nat} {f g:Nat->Bool} (h:I4 w b n f) (i:Nat) (hg:∀j,j<n->g j=if j=i then true else f j):I4 (w.setCell (T_ b i) (.bool true)) b n g:=by
 obtain⟨l,d,c,k⟩:=h;refine⟨_,Ah d _,by simpa using c,λj a=>?_⟩;rw[Array.getElem?_setIfInBounds,hg j a];by_cases e:i=j
 .subst e;simp[c,a]
 .rw[if_neg e,k j a,if_neg (Ne.symm e)]
theorem I4.ext {w:o_} {b n:Nat} {f g:Nat->Bool} (h:I4 w b n f) (e:∀i,i<n->f i=g i):I4 w b n g:=by
 obtain⟨c,d,j,k⟩:=h;exact⟨c,d,j,λi a=>by rw[k i a,e i a]⟩
def eQ (w:o_) (v:n_) (l:List (W_)):Prop:=∃s c,v=.slice s l.length c/\(0<l.length->∃b,s=some (S_ b)/\(∃cs,w.heap[b]?=some (O_ cs 174))/\∀i r,l[i]?=some r->w.cell? (T_ b (i*2))=some (b_ (r.1:Nat))/\w.cell? (T_ b (i*2+1))=some (b_ (r.2:Nat)))
theorem QO {c i a n:Nat}:(decide (1<=c) || uQ a n i)=decide (1<=c+(Ny i a n+0)):=by
 unfold uQ Ny;by_cases b:a<=i<;>by_cases d:i<a+n<;>simp[b,d]
section
variable (m:Nat) (w:o_)
theorem WO (g N c a k:Nat) (f:Nat->Bool) (h:I4 w g N f) (hN:N<=1000) (ha:a+k<=N) (hk:1<=k) (hf:∀i,a<=i->i<a+k->f i=false):P_ m 61 #[Q_ g N c,b_ (a:Nat),b_ (k:Nat)] w λe w'=>e=.returned (.bool true)/\Keep (At g) w w'/\I4 w' g N λi=>f i || uQ a k i:=by
 have p:¬(a:Int)<0:=by omega
 have q:¬(k:Int)<1:=by omega
 have r:¬(N:Int)<(a:Int)+k:=by omega
 gi_enter func61,ntmps61;gi_wp2;gi_loopw [7] (λi wr=>∃j:Nat,j<=k/\i=b_ ((a+j:Nat):Int)/\Keep (At g) w wr/\I4 wr g N λi=>f i || uQ a j i) (λi _=>a+k-(intOf i).toNat)
 case atStart=>exact⟨0,by omega,rfl,p_ _ _,h.ext λi _=>by simp[ay7]⟩
 case round=>
  obtain⟨j,u,rfl,KK,b⟩:=hrel
  by_cases o:j<k
  .have d:=b.cell (i:=a+j) (by omega);have f:=b.fz (a+j);rw[hf (a+j) (by omega) (by omega)]at d;have l:(false || uQ a j (a+j))=false:=(by simp[uQ]);rw[l]at d;have n:((a+j:Nat):Int)<(a:Int)+k:=(by omega);have s:((a+j:Nat):Int)<(N:Int):=(by omega);gi_wp2;go_roundw
   case rel=>
    refine⟨j+1,by omega,by go_num,KK.setCell _ λ_=>rfl,b.set (a+j) λi t=>?_⟩
    by_cases e:i=a+j
    .subst e;simp[uQ]
    .rw[if_neg e]
     congr 1
     unfold uQ
     congr 1
     simp only[decide_eq_decide];omega
   case measure=>simp[intOf];omega
  .obtain rfl:j=k:=(by omega);have n:¬((a+j:Nat):Int)<(a:Int)+j:=(by omega);gi_wp2;go_ret;exact⟨by simp,KK,b⟩
theorem θ (g N c:Nat) (f:Nat->Bool) (h:I4 w g N f) (hN:N<=1000) (hf:∀i,i<N->f i=true):P_ m 62 #[Q_ g N c] w λe w'=>e=.returned (.bool true)/\w'=w:=by
 gi_enter func62,ntmps62;gi_wp2;gi_loopw [3] (λi wr=>wr=w/\∃k:Nat,k<=N/\i=b_ k) (λi _=>N-(intOf i).toNat)
 case atStart=>exact⟨rfl,0,by omega,rfl⟩
 case round=>
  obtain⟨b,k,j,rfl⟩:=hrel
  subst b
  by_cases a:k<N
  .have d:=h.cell a;rw[hf k a]at d;gi_wp2;go_roundw
   case rel=>exact⟨trivial,k+1,by omega,by go_num⟩
   case measure=>simp[intOf];omega
  .gi_wp2;go_ret;exact⟨by simp,rfl⟩
theorem κ (g N c:Nat) (v:n_) (l:List (W_)) (h:I4 w g N λ_=>false) (hN:N<=1000) (hv:eQ w v l) (hs:Sound N l) (hr:VW l) (hc:∀i,i<N->Dq i l<=1):P_ m 60 #[Q_ g N c,v] w λe w'=>e=.returned (.bool true)/\Keep (At g) w w'/\I4 w' g N λi=>decide (1<=Dq i l):=by
 obtain⟨s,cp,rfl,U⟩:=hv;by_cases S:l.length=0
 .have X:l=[]:=List.length_eq_zero_iff.1 S;subst X;gi_enter func60,ntmps60;gi_wp2;refine wpIn_loop_once ?_;gi_wp2;go_ret;exact⟨by simp,p_ _ _,h.ext λi _=>by simp[Dq]⟩
 obtain⟨b,rfl,⟨cs,f⟩,j⟩:=U (by omega);have o:b≠g:=λe=>by obtain⟨_,H,_⟩:=h;rw[e,H]at f;simp at f
 have M:=hs.len;have O:GI l<=N:=by
  rw[<-TB hs]
  have key:∀n,n<=N->Ie (λi=>Dq i l) n<=n:=λn=>by
   induction n with
   |zero=>intro _;exact w_ _
   |succ n ih=>intro hn;have:=ih (by omega);have:=hc n (by omega);simp only[Ie];omega
  exact key N (w_ _)
 gi_enter func60,ntmps60;gi_wp2;gi_loopw [5] (λi wr=>∃k:Nat,k<=l.length/\i=b_ k/\Keep (At g) w wr/\I4 wr g N λi=>decide (1<=Dq i (l.take k))) (λi _=>l.length-(intOf i).toNat)
 case atStart=>exact⟨0,by omega,rfl,p_ _ _,h.ext λi _=>by simp[Dq]⟩
 case round=>
  obtain⟨k,hk,rfl,KK,Q⟩:=hrel
  by_cases E:k<l.length
  .have r:l[k]?=some l[k]:=Ii E;generalize l[k]=x at r;obtain⟨z,d1⟩:=j k x r;have z:=(KK.cell (p:=(T_ b (k*2))) (BQ f) o).trans z;have d1:=(KK.cell (p:=(T_ b (k*2+1))) (BQ f) o).trans d1;have P:=hs x (t_ r);have K:=λm d (a:Keep No wr d)=>WO m d g N c x.1 x.2 _ (Q.keep a id) hN P.2 P.1 λi H T=>by
    have L:=hc i (by omega)
    have e:=OW r
    rw[e,J4]at L
    simp only[Dq,Uu H T]at L
    simp;omega
   by_cases I:k=0
   .have G:¬(0:Int)<(k:Int):=(by omega);clear I;gi_wp2;refine Bi 22 50 ?_;gi_wp2;refine CZ ?_ ?_
    .intro W a
     repeat' (refine Ae ?_ ?_)
     all_goals first|exact trivial|gi_wp2
    .intro W a;have KW:Keep No wr W:=(p_ No wr).drew.then a;clear a G;gi_wp2;have A:=KW.has z;have e1:=KW.has d1;have u:=λm d (a:Keep No W d)=>K m d (KW.then a)
     refine Bi 11 50 ?_;gi_wp2;refine CZ ?_ ?_
     .intro t a;have A:=a.has (w:=W.drew) A;have e1:=a.has (w:=W.drew) e1
      repeat' (refine Ae ?_ ?_)
      all_goals first|exact trivial|gi_wp2
     .intro t a;have KW':Keep No W t:=(p_ No W).drew.then a;gi_wp2_with (gi_at_call 61;refine(u _ t KW').mono ?_;rintro e w2 ⟨rfl,F,R2⟩);go_roundw
      case rel=>
       refine⟨k+1,by omega,by go_num,((KK.trans (KW.then KW') λ_ _ h=>h.elim).trans F λ_ _ h=>h),R2.ext λi V=>?_⟩
       rw[List.take_add_one,r,J4]
       simp only[Option.toList,Dq]
       exact QO
      case measure=>simp[intOf];omega
   .have G:(0:Int)<(k:Int):=(by omega);obtain⟨q,Y⟩:∃q:Nat,(k:Int)-1=(q:Int):=⟨k-1,by omega⟩;have D:l[q]?=some l[q]:=Ii (by omega);have J:l[q].1+l[q].2<x.1:=by
     have:=List.pairwise_iff_getElem.1 hr q k (by omega) E (by omega)
     rw[Ii E]at r
     rw[x_ r]at this
     exact this
    generalize l[q]=y at D J;obtain⟨B,C⟩:=j q y D;have B:=(KK.cell (p:=(T_ b (q*2))) (BQ f) o).trans B;have C:=(KK.cell (p:=(T_ b (q*2+1))) (BQ f) o).trans C;have Z:=hs y (t_ D);have R:¬(x.1:Int)<=(y.1:Int)+y.2:=(by omega);have g2:(q:Int)<(l.length:Int):=(by omega);gi_wp2;refine Bi 22 50 ?_;gi_wp2;refine CZ ?_ ?_
    .intro W a;have B:=a.has (w:=wr.drew) B;have C:=a.has (w:=wr.drew) C;have z:=a.has (w:=wr.drew) z
     repeat' (refine Ae ?_ ?_)
     all_goals first|exact trivial|gi_wp2
    .intro W a;have KW:Keep No wr W:=(p_ No wr).drew.then a;clear a G R B C Y D;gi_wp2;have A:=KW.has z;have e1:=KW.has d1;have u:=λm d (a:Keep No W d)=>K m d (KW.then a)
     refine Bi 11 50 ?_;gi_wp2;refine CZ ?_ ?_
     .intro t a;have A:=a.has (w:=W.drew) A;have e1:=a.has (w:=W.drew) e1
      repeat' (refine Ae ?_ ?_)
      all_goals first|exact trivial|gi_wp2
     .intro t a;have KW':Keep No W t:=(p_ No W).drew.then a;gi_wp2_with (gi_at_call 61;refine(u _ t KW').mono ?_;rintro e w2 ⟨rfl,F,R2⟩);go_roundw
      case rel=>
       refine⟨k+1,by omega,by go_num,((KK.trans (KW.then KW') λ_ _ h=>h.elim).trans F λ_ _ h=>h),R2.ext λi V=>?_⟩
       rw[List.take_add_one,r,J4]
       simp only[Option.toList,Dq]
       exact QO
      case measure=>simp[intOf];omega
  .obtain rfl:k=l.length:=(by omega);gi_wp2;go_ret;exact⟨by simp,KK,by simpa using Q⟩
end
theorem bg4 {w:o_} {rb:Nat} {x y z:n_} (h:w.heap[rb]?=some (O_ #[x,y,z] 54)):w.cell? (S_ rb)=some x/\w.cell? (T_ rb 1)=some y/\w.cell? (T_ rb 2)=some z:=by
 refine⟨?_,?_,?_⟩<;>rw[Af h]<;>rfl
theorem SL {w:o_} {rb:Nat} {a b c:n_} {x y z:Int} (h:w.heap[rb]?=some (O_ #[a,b,c] 54)):∃w',(Instr.storeAt 54 (R_ rb) (.agg #[b_ x,b_ y,b_ z])).run prog w=.ok () w'/\Keep (At rb) w w'/\w'.heap[rb]?=some (O_ #[b_ x,b_ y,b_ z] 54):=by
 have e:(Instr.storeAt 54 (R_ rb) (.agg #[b_ x,b_ y,b_ z])).run prog w=(stores rb 0 [b_ x,b_ y,b_ z] (.pure ())).run prog w:=by kernel_rfl
 obtain⟨w',d,f,g⟩:=GR (P:=prog) (k:=Sem.pure ()) [b_ x,b_ y,b_ z] 0 _ w h (by simp) (by simp[Value.oneCell']);refine⟨w',?_,f,?_⟩
 .rw[e,d];rfl
 .rw[g];simp[Sz]
def ZA (K:KS) (pid:Int) (w:o_) (e:Ending) (w':o_):Prop:=Keep No w w'/\∃x y z s:Int,e=.returned (.tuple #[.agg #[b_ x,b_ y,b_ z],b_ s])/\(vg K pid s\/(s=0/\∃b r,yu K pid b r/\x=(r.sw:Nat)/\y=r.co/\z=(Aj r.Ag.length:Nat)))
def bo8 (r:PR) (i:Nat) (v:n_) (_W:o_):Prop:=v=if i=9 then b_ (Aj r.Ag.length:Nat)else .agg #[b_ (r.sw:Nat),b_ r.co,b_ (Aj r.Ag.length:Nat)]
section
variable (m:Nat) (w:o_)
theorem ZT (K:KS) (N:Nat) (pid:Int) (h:AV K w) (hT:K.EC) (hC:BR N (0,0) K) (hl:K.AP.length<=100):
  P_ m 22 #[R_ K.kb,b_ pid] w (ZA K pid w):=by
 have l:Keep No w (w.alloc (.cells #[b_ 0,b_ 0,b_ 0] 54)):=(p_ _ _).alloc _;have p:(w.alloc (.cells #[b_ 0,b_ 0,b_ 0] 54)).heap[w.heap.size]?=some (O_ #[b_ 0,b_ 0,b_ 0] 54):=heap_alloc_new rfl;have c:=λm=>ah m _ K pid (h.no l) hT hl
 have L:=hC.le;gi_enter func22,ntmps22;gi_wp2_with (first|(gi_at_call 51;refine(c _).mono ?_;rintro e w1 ⟨a,⟨s,rfl,T,d⟩|⟨b,r,rfl,d⟩⟩<;>obtain⟨O,j,n,o⟩:=SL (x:=0) (y:=0) (z:=0) (a.old p id))|refine Dk rfl (.tmp 4) (.tmp 16) 54 rfl rfl rfl j ?_)
 .refine bodyPost_ret (v:=.tuple #[.agg #[b_ 0,b_ 0,b_ 0],b_ s]) (by simp[results,results22,go_sem,bg4 o]) rfl ?_;exact⟨(l.then a).trans n (λk J e=>absurd (show k=w.heap.size from e) (by omega)),0,0,0,s,rfl,.inl d⟩
 .clear j n o;have B:=l.then a;have t:=h.no B;have S:=hC.pl b r d.2.1;obtain⟨Q,R,M⟩:=t.im8 d.2.1;have f:=t.GG d.2.1 10;have g:=t.GG d.2.1 11;simp[PR.arr]at f g;have D:=a.old p id;clear c l a p;refine Cf (P:=prog) No _ rfl rfl (by kernel_rfl) 11 29 [0,1,2,3,4,5,6,7,8] [9,10] (by kernel_rfl) (by rfl) (bo8 r) (λ_ _ _ _ _ h _=>h) _ _ rfl rfl ?_;gi_wp2;refine⟨rfl,by kernel_rfl,?_,?_,?_⟩
  .intro W a;have F:=a.has (w:=w1.drew) f;have G:=a.has (w:=w1.drew) g
   repeat' (refine Ae ?_ ?_)
   all_goals first|exact trivial|gi_wp2
  .intro i I u W a A;have H:=a.has (w:=w1.drew) M;obtain rfl|rfl:=(by simpa using I:i=9\/i=10)
   .refine Bh rfl λKK E=>?_
    show wpListIn NF m prog _ _ _ (Act.put (Act.put _ (some 27) (u 9)) (some 28) (u 10)) _;gi_wp2_with (gi_at_call 58;refine(ER _ W b _ _ _ H (by omega)).mono ?_;rintro e w2 ⟨rfl,rfl⟩);exact⟨_,rfl,p_ _ _,rfl⟩
   .have C:u 9=b_ (Aj r.Ag.length:Nat):=A 9 (by simp) (by decide);refine Bh rfl λKK E=>?_
    show wpListIn NF m prog _ _ _ (Act.put (Act.put _ (some 27) (u 9)) (some 28) (u 10)) _;rw[C];gi_wp2;exact⟨.agg #[b_ (r.sw:Nat),b_ r.co,b_ (Aj r.Ag.length:Nat)],by rw[<-C];rfl,p_ _ _,rfl⟩
  .intro u W a A;have q:u 10=.agg #[b_ (r.sw:Nat),b_ r.co,b_ (Aj r.Ag.length:Nat)]:=A 10 (by simp);show wpListIn NF m prog _ _ _ (Act.put (Act.put _ (some 27) (u 9)) (some 28) (u 10)) _;rw[q];have KW:Keep No w1 W:=(p_ No w1).drew.then a;obtain⟨O,j,n,o⟩:=SL (x:=(r.sw:Nat)) (y:=r.co) (z:=(Aj r.Ag.length:Nat)) (KW.old D id);gi_wp2_with (refine Dk rfl (.tmp 4) (.tmp 28) 54 rfl rfl rfl j ?_);refine bodyPost_ret (v:=.tuple #[.agg #[b_ (r.sw:Nat),b_ r.co,b_ (Aj r.Ag.length:Nat)],b_ 0]) (by simp[results,results22,go_sem,bg4 o]) rfl ?_;exact⟨(B.then KW).trans n (λk J e=>absurd (show k=w.heap.size from e) (by omega)),_,_,_,_,rfl,.inr ⟨rfl,b,r,d,rfl,rfl,rfl⟩⟩
end
end Go.Fxa
