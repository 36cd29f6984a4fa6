/- Look, Pids, among many. -/
import Derived.Test.YtmhplpfpcnjekaaGreatA33
namespace Go.Fxa
open Conc Proofs RowKit Proofs.Tryz
set_option maxRecDepth 1000000
set_option maxHeartbeats 0
def Yp (base:Nat) (v:n_) (l:List Int) (w:o_):Prop:=∃s c,v=.slice s l.length c/\(0<l.length->∃(g:Nat) (cs:X_),s=some (S_ g)/\base<=g/\w.heap[g]?=some (O_ cs 3)/\∀(i:Nat) (x:Int),l[i]?=some x->cs[i]?=some (b_ x))
theorem Yp.keep {base:Nat} {v:n_} {l:List Int} {w w':o_} {S:Nat->Prop} (h:Yp base v l w) (hK:Keep S w w') (hn:∀k cs,base<=k->w.heap[k]?=some (O_ cs 3)->¬S k):Yp base v l w':=by
 obtain⟨s,c,e,h⟩:=h;refine⟨s,c,e,λi=>?_⟩;obtain⟨g,cs,d,a,b,f⟩:=h i;exact⟨g,cs,d,a,hK.old b (hn g cs a b),f⟩
theorem Yp.no {base:Nat} {v:n_} {l:List Int} {w w':o_} (h:Yp base v l w) (hK:Keep No w w'):Yp base v l w':=h.keep hK λ_ _ _ _ x=>x
theorem Yp.mono {base base':Nat} {v:n_} {l:List Int} {w:o_} (h:Yp base v l w) (hb:base'<=base):Yp base' v l w:=let ⟨s,c,e,h⟩:=h;⟨s,c,e,λa=>let ⟨g,cs,h1,h2,h3⟩:=h a;⟨g,cs,h1,Nat.le_trans hb h2,h3⟩⟩
def ints (l:List Nat):List Int:=l.map λx:Nat=>(x:Int)
def LV (a b c d e f g:Int) (v7 v8:n_):X_:=#[b_ a,b_ b,b_ c,b_ d,b_ e,b_ f,b_ g,v7,v8]
abbrev VX (r:PR) (s:Int) (v7 v8:n_):X_:=LV r.pid r.par s r.A r.B r.P r.st v7 v8
abbrev look0:X_:=LV 0 0 0 0 0 0 0 (.slice none 0 0) (.slice none 0 0)
theorem MI {w:o_} {rb:Nat} {x0 x1 x2 x3 x4 x5 x6 x7 x8:n_} {a b c d e f g:Int} {n7 c7 n8 c8:Nat} {a7 a8:d_ f_} (h:w.heap[rb]?=some (O_ #[x0,x1,x2,x3,x4,x5,x6,x7,x8] 48)):∃w',(Instr.storeAt 48 (R_ rb) (.agg (LV a b c d e f g (.slice a7 n7 c7) (.slice a8 n8 c8)))).run prog w=.ok () w'/\Keep (At rb) w w'/\w'.heap[rb]?=some (.cells (LV a b c d e f g (.slice a7 n7 c7) (.slice a8 n8 c8)) 48 (0,0)):=by
 have m:(Instr.storeAt 48 (R_ rb) (.agg (LV a b c d e f g (.slice a7 n7 c7) (.slice a8 n8 c8)))).run prog w=(stores rb 0 (LV a b c d e f g (.slice a7 n7 c7) (.slice a8 n8 c8)).toList (.pure ())).run prog w:=by kernel_rfl
 obtain⟨w',i,j,l⟩:=Iy (P:=prog) (k:=Sem.pure ()) (LV a b c d e f g (.slice a7 n7 c7) (.slice a8 n8 c8)).toList 0 _ w h (by simp[LV]) (by simp[LV,Value.oneCell']);refine⟨w',?_,j,?_⟩
 .rw[m,i];rfl
 .rw[l];simp[UJ,LV]
theorem jc (w:o_):(Instr.build 48 #[]).run prog w=.ok (.agg look0) w:=by kernel_rfl
def bw9 (base:Nat) (r:PR) (i:Nat) (v:n_) (W:o_):Prop:=(i=9->∃s,v=b_ s/\GN r.en s)/\(i=38->Yp base v (ints r.Ae) W)/\(i=43->Yp base v r.fds W)
section
variable (m:Nat) (w:o_)
theorem lW (K:KS) (b:Nat) (r:PR) (h:A8 K w) (hb:K.ps b=some r) (o:r.Ok) (hL:r.Ae.length<=128):P_ m 101 #[r.im] w λe w'=>Keep No w w'/\∃v,e=.returned v/\Yp w.heap.size v (ints r.Ae) w':=by
 cases hn:r.en with
 |true=>
  obtain⟨e1,_,e3,_⟩:=(h.ps b r hb).no hn
  rw[e1,e3]
  refine(lV m w).mono ?_
  rintro e w' ⟨d,rfl⟩
  exact⟨d,_,rfl,_,_,rfl,λh=>by simp[ints]at h⟩
 |false=>
  obtain⟨g,c,e1,n,_⟩:=(h.ps b r hb).im hn
  rw[e1]
  refine(ZX m w g r.Ae.length (λi=>r.Ae.getD i 0) c (λi a=>?_) (λi a=>?_) hL).mono ?_
  .rw[n.cell (by omega),AB,List.getElem?_map,List.getD_eq_getElem?_getD,Lh a];rfl
  .rw[List.getD_eq_getElem?_getD,Lh a];exact o.Ae _ (List.getElem_mem a)
  .rintro e w' ⟨d,rfl,p⟩;obtain⟨l,k,q,f⟩:=p;refine⟨d,_,rfl,some (S_ w.heap.size),r.Ae.length,by simp[ints],λ_=>⟨_,l,rfl,w_ _,k,λi x j=>?_⟩⟩;have a:i<r.Ae.length:=by
    have:=(O5.1 j).1
    simpa [ints]using this
   rw[f i a];simp only[ints,List.getElem?_map,Lh a,Option.map_some]at j;simp only[List.getD_eq_getElem?_getD,Lh a,Option.getD_some];rw[x_ j]
theorem clone_any (K:KS) (b:Nat) (r:PR) (h:A8 K w) (hb:K.ps b=some r) (o:r.Ok):P_ m 102 #[r.fd] w λe w'=>Keep No w w'/\∃v,e=.returned v/\Yp w.heap.size v r.fds w':=by
 cases hn:r.en with
 |true=>
  obtain⟨_,e1,_,e3⟩:=(h.ps b r hb).no hn
  rw[e1,e3]
  refine(pI m w).mono ?_
  rintro e w' ⟨rfl,f⟩
  exact⟨f,_,rfl,_,_,rfl,λh=>by simp at h⟩
 |false=>
  obtain⟨g,c,e1,s,_⟩:=(h.ps b r hb).fd hn
  have y:=o.fds hn
  rw[e1]
  refine(Xp m w (S_ g) r.fds.length c (Fh r.fds) (by simp[Fh]) (λj u l=>?_) (by simp[Fh,Value.oneCell']) (by omega)).mono ?_
  .have t:j<r.fds.length:=(by have:=(O5.1 l).1;simpa [Fh]using this);rw[Addr.add_lit,Nat.zero_add,s.cell (by omega),l]
  .rintro e w' ⟨f,v,rfl,n⟩;refine⟨f,v,rfl,?_⟩;obtain⟨_,e⟩|⟨q,cap,d,rfl,k,a,_⟩:=n.2
   .omega
   .refine⟨_,cap,rfl,λ_=>⟨q,d,rfl,k,a,λi x p=>?_⟩⟩;have z:=(O5.1 p).1;refine((Af a i).symm.trans (n.cellAt i (by omega))).trans ?_;simp only[Fh,List.getElem?_map,p,Option.map_some]
theorem av9 (K:KS) (b:Nat) (r:PR) (h:A8 K w) (hT:K.EZ) (hl:K.AV.length<=12) (hb:K.ps b=some r) (o:r.Ok) (hL:r.Ae.length<=128):
  P_ m 57 #[R_ b] w λe w'=>Keep No w w'/\∃st v7 v8,e=.returned (.agg (VX r st v7 v8))/\GN r.en st/\Yp w.heap.size v7 (ints r.Ae) w'/\Yp w.heap.size v8 r.fds w':=by
 have z:Keep No w (w.alloc (.cells look0 48)):=(p_ _ _).alloc _;have L:(w.alloc (.cells look0 48)).heap[w.heap.size]?=some (O_ look0 48):=heap_alloc_new rfl;have x:w.heap.size<=(w.alloc (.cells look0 48)).heap.size:=z.size;have F:w.alloc (.cells #[b_ 0,b_ 0,b_ 0,b_ 0,b_ 0,b_ 0,b_ 0,.slice none 0 0,.slice none 0 0] 48)=w.alloc (.cells look0 48):=rfl;gi_enter func57,ntmps57;gi_wp2
 try rw[F]
 have n:=h.no z;generalize w.alloc (.cells look0 48)=w1 at*;have N:=n.JK hb 0;have O:=n.JK hb 1;have c3:=n.JK hb 3;have Q:=n.JK hb 5;have R:=n.JK hb 6;have c7:=n.JK hb 7;have c8:=n.JK hb 8;have S:=n.JK hb 9;simp[PR.arr]at N O c3 Q R c7 c8 S;have oA:=o.A;have oB:=o.B;have oP:=o.P;have oS:=o.st;refine CP (P:=prog) No _ rfl rfl (by kernel_rfl) 44 48 [0,1,2,3,4,5,6,7,8,10,11,12,13,14,15,16,17,18,19,20,21,22,23,24,25,26,27,28,29,30,31,32,33,34,35,36,37,39,40,41,42] [9,38,43] (by kernel_rfl) (by rfl) (bw9 w1.heap.size r)
  (λ_ _ _ _ _ h j=>⟨h.1,λe=>(h.2.1 e).no j,λe=>(h.2.2 e).no j⟩) _ _ rfl rfl ?_;gi_wp2;refine⟨rfl,by kernel_rfl,?_,?_,?_⟩
 .intro W j;have d0:=j.has (w:=w1.drew) N;have d1:=j.has (w:=w1.drew) O;have d3:=j.has (w:=w1.drew) c3;have d5:=j.has (w:=w1.drew) Q;have d6:=j.has (w:=w1.drew) R;have d7:=j.has (w:=w1.drew) c7;have d8:=j.has (w:=w1.drew) c8;have d9:=j.has (w:=w1.drew) S
  repeat' (refine Az ?_ ?_)
  all_goals first|exact trivial|gi_wp2
 .intro i hx u W j y;have D:=n.no ((p_ No w1).drew.then j);obtain rfl|rfl|rfl:=(by simpa using hx:i=9\/i=38\/i=43)
  .refine BJ rfl λKK M=>?_
   show wpListIn NF m prog _ _ _ (Act.put (Act.put (Act.put _ (some 12) (u 9)) (some 41) (u 38)) (some 46) (u 43)) _;gi_wp2_with (gi_at_call 55;refine(ry _ W K b r D hT hb (by omega)).mono ?_;rintro e w2 ⟨t,s,rfl,E,I⟩;clear I);exact⟨_,rfl,t,λ_=>⟨s,rfl,E⟩,(λh=>absurd h (by decide)),λh=>absurd h (by decide)⟩
  .refine BJ rfl λKK M=>?_
   show wpListIn NF m prog _ _ _ (Act.put (Act.put (Act.put _ (some 12) (u 9)) (some 41) (u 38)) (some 46) (u 43)) _;gi_wp2_with (gi_at_call 101;refine(lW _ W K b r D hb o hL).mono ?_;rintro e w2 ⟨t,v,rfl,J⟩);exact⟨_,rfl,t,(λh=>absurd h (by decide)),λ_=>J.mono j.size,λh=>absurd h (by decide)⟩
  .refine BJ rfl λKK M=>?_
   show wpListIn NF m prog _ _ _ (Act.put (Act.put (Act.put _ (some 12) (u 9)) (some 41) (u 38)) (some 46) (u 43)) _;gi_wp2_with (gi_at_call 102;refine(clone_any _ W K b r D hb o).mono ?_;rintro e w2 ⟨t,v,rfl,J⟩);exact⟨_,rfl,t,(λh=>absurd h (by decide)),(λh=>absurd h (by decide)),λ_=>J.mono j.size⟩
 .intro u W j y;have KW:Keep No w W:=z.drew.then j;obtain⟨st,e9,E⟩:=(y 9 (by simp)).1 rfl;have V:=(y 38 (by simp)).2.1 rfl;have i8:=(y 43 (by simp)).2.2 rfl;show wpListIn NF m prog _ _ _ (Act.put (Act.put (Act.put _ (some 12) (u 9)) (some 41) (u 38)) (some 46) (u 43)) _;rw[e9];generalize u 38=v7 at*;generalize u 43=v8 at*;obtain⟨a7,p,T,_⟩:=id V;obtain⟨a8,q,U,_⟩:=id i8;generalize G:(ints r.Ae).length=n7 at T;generalize H:r.fds.length=n8 at U;subst T U;have hW:=j.old (heap_drew.trans L) id;obtain⟨w3,Y,C,l⟩:=MI (a:=r.pid) (b:=r.par) (c:=st) (d:=r.A) (e:=r.B) (f:=r.P) (g:=r.st) (n7:=n7) (c7:=p) (n8:=n8) (c8:=q) (a7:=a7) (a8:=a8) hW;clear y G H;gi_wp2_with (refine DU rfl (.tmp 2) (.tmp 47) 48 rfl rfl rfl Y ?_);have g0:w3.cell? (S_ w.heap.size)=some (b_ r.pid):=bce l rfl;have g1:w3.cell? (T_ w.heap.size 1)=some (b_ r.par):=bce l rfl;have g2:w3.cell? (T_ w.heap.size 2)=some (b_ st):=bce l rfl;have g3:w3.cell? (T_ w.heap.size 3)=some (b_ r.A):=bce l rfl;have g4:w3.cell? (T_ w.heap.size 4)=some (b_ r.B):=bce l rfl;have g5:w3.cell? (T_ w.heap.size 5)=some (b_ r.P):=bce l rfl;have g6:w3.cell? (T_ w.heap.size 6)=some (b_ r.st):=bce l rfl;have g7:w3.cell? (T_ w.heap.size 7)=some (.slice a7 n7 p):=bce l rfl;have g8:w3.cell? (T_ w.heap.size 8)=some (.slice a8 n8 q):=bce l rfl;refine bodyPost_ret (v:=.agg (VX r st (.slice a7 n7 p) (.slice a8 n8 q))) (by simp[results,results57,go_sem,VX,LV,g0,g1,g2,g3,g4,g5,g6,g7,g8]) rfl ?_;have X:∀k Z,w1.heap.size<=k->W.heap[k]?=some (O_ Z 3)->¬At w.heap.size k:=λk _ hk _ e=>by
   have e:k=w.heap.size:=e
   have:=DN L
   omega
  exact⟨KW.trans C (λk hk e=>absurd (show k=w.heap.size from e) (by omega)),st,_,_,rfl,E,(V.keep C X).mono x,(i8.keep C X).mono x⟩
def zU (K:KS) (pid:Int) (base:Nat) (e:Ending) (w':o_):Prop:=
 (∃b r st v7 v8,b∈K.AV/\K.ps b=some r/\(r.pid:Int)=pid/\e=.returned (.tuple #[.agg (VX r st v7 v8),b_ 0])/\GN r.en st/\Yp base v7 (ints r.Ae) w'/\Yp base v8 r.fds w')\/(e=.returned (.tuple #[.agg look0,b_ 2])/\∀b∈K.AV,∀r,K.ps b=some r->(r.pid:Int)≠pid)
theorem zA (NC NS:Nat) (K:KS) (pid:Int) (h:A8 K w) (ok:GK NC NS K):P_ m 20 #[R_ K.kb,b_ pid] w λe w'=>Keep No w w'/\zU K pid w.heap.size e w':=by
 have o:Keep No w (w.alloc (.cells look0 48)):=(p_ _ _).alloc _;have u:(w.alloc (.cells look0 48)).heap[w.heap.size]?=some (O_ look0 48):=heap_alloc_new rfl;have N:w.heap.size<=(w.alloc (.cells look0 48)).heap.size:=o.size;have I:w.alloc (.cells #[b_ 0,b_ 0,b_ 0,b_ 0,b_ 0,b_ 0,b_ 0,.slice none 0 0,.slice none 0 0] 48)=w.alloc (.cells look0 48):=rfl;have S:=h.no o;gi_enter func20,ntmps20;gi_wp2_with fail
 try rw[I]
 generalize w.alloc (.cells look0 48)=w1 at*;refine(Zr _ w1 K pid S ok.th (by have:=ok.len;omega)).mono ?_;rintro e w2 ⟨j,p,rfl,Y⟩;obtain⟨b,r,rfl,hm,q,W⟩|⟨rfl,M⟩:=Y
 .unfold ptr;gi_wp2_with fail;refine(av9 _ w2 K b r (S.no j) ok.th ok.len q (ok.pr b r q) (ok.co.pl b r q).1).mono ?_;rintro e w4 ⟨O,s,v7,v8,rfl,Z,U,i8⟩;obtain⟨a7,c7,Q,_⟩:=id U;obtain⟨a8,c8,R,_⟩:=id i8;generalize J:(ints r.Ae).length=n7 at Q;generalize L:r.fds.length=n8 at R;subst Q R;clear J L;have hW:=O.old (j.old u id) id;obtain⟨w3,t,l,i⟩:=MI (a:=r.pid) (b:=r.par) (c:=s) (d:=r.A) (e:=r.B) (f:=r.P) (g:=r.st) (n7:=n7) (c7:=c7) (n8:=n8) (c8:=c8) (a7:=a7) (a8:=a8) hW;gi_wp2_with (refine DU rfl (.tmp 4) (.tmp 14) 48 rfl rfl rfl t ?_);have x:w3.cell? (S_ w.heap.size)=some (b_ r.pid):=bce i rfl;have y:w3.cell? (T_ w.heap.size 1)=some (b_ r.par):=bce i rfl;have z:w3.cell? (T_ w.heap.size 2)=some (b_ s):=bce i rfl;have C:w3.cell? (T_ w.heap.size 3)=some (b_ r.A):=bce i rfl;have D:w3.cell? (T_ w.heap.size 4)=some (b_ r.B):=bce i rfl;have E:w3.cell? (T_ w.heap.size 5)=some (b_ r.P):=bce i rfl;have F:w3.cell? (T_ w.heap.size 6)=some (b_ r.st):=bce i rfl;have G:w3.cell? (T_ w.heap.size 7)=some (.slice a7 n7 c7):=bce i rfl;have H:w3.cell? (T_ w.heap.size 8)=some (.slice a8 n8 c8):=bce i rfl;refine bodyPost_ret (v:=.tuple #[.agg (VX r s (.slice a7 n7 c7) (.slice a8 n8 c8)),b_ 0]) (by simp[results,results20,go_sem,VX,LV,x,y,z,C,D,E,F,G,H]) rfl ?_;have V:∀k X,w2.heap.size<=k->w4.heap[k]?=some (O_ X 3)->¬At w.heap.size k:=λk _ T _ e=>by
   have e:k=w.heap.size:=e
   have:=DN u
   have:=j.size
   omega
  have n:w.heap.size<=w2.heap.size:=Nat.le_trans N j.size;exact⟨((o.then j).then O).trans l (λk T e=>absurd (show k=w.heap.size from e) (by omega)),.inl ⟨b,r,s,_,_,hm,q,W,rfl,Z,(U.keep l V).mono n,(i8.keep l V).mono n⟩⟩
 .have hbd:=jc w2;obtain⟨w3,t,l,i⟩:=MI (a:=0) (b:=0) (c:=0) (d:=0) (e:=0) (f:=0) (g:=0) (n7:=0) (c7:=0) (n8:=0) (c8:=0) (a7:=none) (a8:=none) (j.old u id);gi_wp2_with (refine DU rfl (.tmp 4) (.tmp 12) 48 rfl rfl rfl t ?_);have x:w3.cell? (S_ w.heap.size)=some (b_ 0):=bce i rfl;have y:w3.cell? (T_ w.heap.size 1)=some (b_ 0):=bce i rfl;have z:w3.cell? (T_ w.heap.size 2)=some (b_ 0):=bce i rfl;have C:w3.cell? (T_ w.heap.size 3)=some (b_ 0):=bce i rfl;have D:w3.cell? (T_ w.heap.size 4)=some (b_ 0):=bce i rfl;have E:w3.cell? (T_ w.heap.size 5)=some (b_ 0):=bce i rfl;have F:w3.cell? (T_ w.heap.size 6)=some (b_ 0):=bce i rfl;have G:w3.cell? (T_ w.heap.size 7)=some (.slice none 0 0):=bce i rfl;have H:w3.cell? (T_ w.heap.size 8)=some (.slice none 0 0):=bce i rfl;refine bodyPost_ret (v:=.tuple #[.agg look0,b_ 2]) (by simp[results,results20,go_sem,look0,LV,x,y,z,C,D,E,F,G,H]) rfl ?_;exact⟨(o.then j).trans l (λk T e=>absurd (show k=w.heap.size from e) (by omega)),.inr ⟨rfl,M⟩⟩
end
def Dt (c:Int) (n:Nat):Nat:=if c<0 then((-(c+1)) % (n:Int)).toNat else(c % (n:Int)).toNat
theorem Ie (c:Int) {n:Nat} (hn:1<=n):Dt c n<n:=by
 unfold Dt;split
 .have:=Int.emod_lt_of_pos (-(c+1)) (show(0:Int)<n by omega);have:=Int.emod_nonneg (-(c+1)) (show(n:Int)≠0 by omega);omega
 .have:=Int.emod_lt_of_pos c (show(0:Int)<n by omega);have:=Int.emod_nonneg c (show(n:Int)≠0 by omega);omega
section
variable (m:Nat) (w:o_)
theorem Q5 (c:Int) (n r:Nat) (hc:-9223372036854775808<=c) (hc':c<=9223372036854775807) (hn:1<=n) (hn':n<=65536) (hr:Dt c n=r):P_ m 16 #[b_ c,b_ n] w λe w'=>e=.returned (b_ r)/\w'=w:=by
 unfold Dt at hr;by_cases a:c<0
 .rw[if_pos a]at hr;gi_enter func16,ntmps16;gi_wp2
  all_goals go_ret
  refine⟨ZI ?_,rfl⟩;have:=Int.emod_nonneg (-(c+1)) (show(n:Int)≠0 by omega);have e:-((c+1).tmod (n:Int))=(-(c+1)) % (n:Int):=by rw[<-Int.neg_tmod,Int.tmod_eq_emod_of_nonneg (by omega)]
  simp only[e];omega
 .rw[if_neg a]at hr;gi_enter func16,ntmps16;gi_wp2
  all_goals go_ret
  have b:=Int.emod_nonneg c (show(n:Int)≠0 by omega);exact⟨ZI (by omega),rfl⟩
end
theorem ZJ {w w':o_} {base:Nat} {e:j_} {size:Nat} {v:n_} {n:Nat} {xs:U_} (h:w.ownsRow base e size v n xs) (hK:Keep No w w'):w'.ownsRow base e size v n xs:=by
 obtain⟨j,i⟩:=h;refine⟨j,?_⟩;obtain i|⟨g,cap,f,a,b,c,d⟩:=i
 .exact .inl i
 .exact .inr ⟨g,cap,f,a,b,hK.old c id,d⟩
section
variable (m:Nat) (w:o_)
end
theorem sF {NC NS k b:Nat} {K:KS} {r:PR} {w w':o_} {e:Ending} (ok:GK NC NS K) (hg:K.AV[k]?=some b) (hr:K.ps b=some r) (h:Keep No w w'/\zU K r.pid w.heap.size e w'):Keep No w w'/\∃st a7 n7 c7 a8 n8 c8,e=.returned (.tuple #[.agg (VX r st (.slice a7 n7 c7) (.slice a8 n8 c8)),b_ 0])/\GN r.en st/\Yp w.heap.size (.slice a7 n7 c7) (ints r.Ae) w'/\Yp w.heap.size (.slice a8 n8 c8) r.fds w':=by
 obtain⟨g,⟨f,j,st,l,m,c,a,i,e1,e2,e3,e4⟩|⟨_,d⟩⟩:=h
 .obtain rfl:=ok.one f j b r c (t_ hg) a hr (by omega);rw[hr]at a;cases a;obtain⟨a7,c7,rfl,_⟩:=id e3;obtain⟨a8,c8,rfl,_⟩:=id e4;exact⟨g,st,a7,_,c7,a8,_,c8,e1,e2,e3,e4⟩
 .exact absurd rfl (d b (t_ hg) r hr)
section
variable (m:Nat) (w:o_)
end
theorem ap8:(prog.funcs[13]?).any (·.norace)=false:=by kernel_rfl
theorem lu:Gj prog 13=Tryz.f13.body.getD .skip:=by kernel_rfl
def bq (P:l_) (i:Nat):Code:=piece (behind i (Gj P 13))
def bX (P:l_) (i:Nat):Code:=behind i (Gj P 13)
theorem aj9:(bq prog 1).Bf (Cb prog)=true:=by kernel_rfl
theorem aj8:(bq prog 2).Bf (Cb prog)=true:=by kernel_rfl
theorem al2:(bX prog 4).Bf (Cb prog)=true:=by kernel_rfl
theorem al3:bX prog 2=(bq prog 2).seq (bX prog 3):=by kernel_rfl
section
variable (kp told er:n_) (cs:Z_) (f:Y_) (c0:Frame)
def bA (P:l_:=prog):Frame×Z_:=run P 5 (Frame.enter P 13 #[] .normal,cs)
theorem bw2:Ar prog 5 (Frame.enter prog 13 #[] .normal,cs)=some []:=by kernel_rfl
theorem bw1:CU (bA cs)=(13,[.code (bq prog 1),.code (bX prog 2)],[],.run,.normal,none,cs):=by kernel_rfl
theorem bw0:(bA cs).1.tmps.size=63:=by kernel_rfl
def bB (P:l_:=prog):Frame×Z_:=(Frame.mk 13 (TN 63 (AL f [(1,kp)])) [.code (bX P 3)] [] .run .normal none,cs)
theorem bv9:Ar prog 4 (bB kp cs f)=some []:=by kernel_rfl
def bC (P:l_:=prog):Frame:=(below (run P 4 (bB kp cs f P))).1
theorem bv8:run prog 4 (bB kp cs f)=(Frame.enter prog 19 #[kp,b_ 1,b_ 1] .normal,bC kp cs f::cs):=by kernel_rfl
def bD (P:l_:=prog):Frame×Z_:=run P 6 ((bC kp cs f P).finish (.tuple #[told,er]),cs)
theorem bv7:Ar prog 6 ((bC kp cs f).finish (.tuple #[told,er]),cs)=some []:=by kernel_rfl
theorem bv6:CU (bD kp told er cs f)=(13,[.code (bX prog 4)],[],.run,.normal,none,cs):=by kernel_rfl
theorem bv5:slotsOf (bD kp told er cs f) [1,3,4]=[kp,told,er]:=by kernel_rfl
theorem bv4:(bD kp told er cs f).1.tmps.size=63:=by kernel_rfl
theorem bv3 (b:Bool) (todo:List Item):Ar prog 1 (Frame.mk 13 (TN 63 (AL f [(0,.bool b)])) todo [] .returning .normal none,c0::cs)=some []:=by kernel_rfl
theorem bv2 (b:Bool) (todo:List Item):run prog 1 (Frame.mk 13 (TN 63 (AL f [(0,.bool b)])) todo [] .returning .normal none,c0::cs)=(c0.finish (.bool b),cs):=by kernel_rfl
end
def Beg (K:KS):Prop:=∃b r,K.AV=[b]/\K.ps b=some r/\r.pid=1/\r.P=0/\r.Ae=[11,12,0,0,0,0,0,0]/\r.en=false/\r.bl=.nilFunc
theorem CG.at {K K':KS} {b:Nat} {r':PR} (h:CG K K') (hb:K'.ps b=some r'):∃r c,K.ps b=some r/\r'={ r with co:=c }:=by
 obtain⟨f,a⟩:=h.ps;have:=a b;rw[hb]at this;cases e:K.ps b with
 |none=>rw[e]at this;cases this
 |some r=>rw[e]at this;exact⟨r,f b,rfl,x_ this⟩
theorem Qs {NC NS b n:Nat} {K0:KS} (h:∀j BA K r call,j<n->XS b K0 j BA 1 call K r->QO call):NR NC NS b K0 n:=λm w j BA K r call c f g ok d a e=>au1 m w K NC NS b call r (h j BA K r call c f) g ok d a e
theorem XS.zero {b n j call:Nat} {K0 K:KS} {BA:List Ev} {r:PR} (hj:j<n) (hn:n=1) (h:XS b K0 j BA 1 call K r):∃K1 rm,OI b K0 K1/\K1.ps b=some rm/\Dq rm=(1,call,r):=by
 obtain⟨f,rm,⟨K1,d,e⟩,a,c,_⟩:=h;obtain rfl:j=0:=by omega
 obtain⟨_,rfl⟩:=e;exact⟨_,rm,d,a,c⟩
theorem Beg.calls {NC NS b:Nat} {K:KS} (h:Beg K) (hm:b∈K.AV):NR NC NS b K (1:Int).toNat:=Qs λj o p t call m n=>by
 obtain⟨q,v,⟨d,r0,l,a,rfl⟩,e1,e2⟩:=n.zero m rfl;obtain⟨e,s,f,g,r,i,k,_⟩:=h;obtain rfl:b=e:=by rw[f]at hm;exact List.mem_singleton.1 hm
 obtain⟨u,c,e3,e4⟩:=l.at a;rw[g]at e3;cases e3;rw[show(d.AP b { r0 with bl:=.nilFunc }).ps b=some { r0 with bl:=.nilFunc } from Ah]at e1;cases e1;subst e4;unfold Dq MV at e2;simp[i,k]at e2;rw[<-e2.1];exact .inr (.inr (.inr (.inr (.inr (.inr rfl)))))
theorem Beg.pick {K K':KS} {BA:List Ev} {e:Int} (h:Beg K) (hP:UU K 1 1 BA e K'):e=0/\BA=[(1,12,1,0)]/\∃b r,b∈K'.AV/\K'.ps b=some r/\r.A=1/\r.P=2/\r.Ae.length=8/\r.pid=1:=by
 obtain⟨b,r,p,q,G,N,O,H,Q⟩:=h;obtain⟨B,_⟩|⟨F,Y,t,g,_,⟨X,_⟩|⟨_,m,_⟩|⟨_,_,rfl,w,_⟩⟩:=hP
 .exact absurd (by rw[G];rfl) (B b (by rw[p];simp) r q)
 .omega
 .obtain rfl:b=F:=by rw[p]at t;exact(List.mem_singleton.1 t).symm
  rw[q]at g;cases g;exact absurd (by unfold KS.Eg KS.blk;rw[H,Q];rfl) m
 .obtain rfl:b=F:=by rw[p]at t;exact(List.mem_singleton.1 t).symm
  rw[q]at g;cases g;obtain⟨W,⟨u,r0,I,C,rfl⟩,w⟩:=w;obtain⟨a,c,e1,e2⟩:=I.at C;rw[q]at e1;cases e1;have key:∀{k:KS} {n:PR} {s call:Nat} {a:PR},k=u.AP b { r0 with bl:=.nilFunc }->k.ps b=some n->Dq n=(s,call,a)->s=1/\call=12/\a.pid=1/\a.P=2/\a.Ae.length=8/\a.en=false/\b∈(k.AP b a).AV/\(k.AP b a).ps b=some a:=fun {k n s call a} T h m=>by
   subst T
   rw[show(u.AP b { r0 with bl:=.nilFunc }).ps b=some { r0 with bl:=.nilFunc } from Ah]at h
   cases h
   subst e2
   unfold Dq MV at m
   simp[N,O]at m
   obtain⟨rfl,rfl,rfl⟩:=m
   refine⟨rfl,rfl,G,rfl,by simp,H,?_,Ah⟩
   show b∈u.AV
   rw[I.AV,p];simp
  have d:∀{E i:KS} {a:PR} {x y:Nat} {f:n_},a.pid=1->LY E b a 12 i x y f->i=E/\x=1/\y=0/\f=.nilFunc:=λU h=>by
   obtain⟨h,_⟩|⟨_,a1,a2,L,M⟩:=h
   .exact absurd (.inl rfl) h
   .exact⟨a1,a2.trans U,L,M⟩
  obtain⟨e1,v,K1',⟨rfl,rfl⟩,⟨n,s,call,a,x1,D,l⟩,rfl⟩|⟨j,e1,v,i,S,R,⟨n,s,call,a,x1,D,l⟩,rfl⟩:=w
  .obtain⟨rfl,rfl,o,J,y3,y4,y5,y6⟩:=key rfl x1 D;obtain⟨h,_⟩|⟨_,i,x,y,V,z,z1,Z,rfl,rfl⟩:=l
   .cases h
   .obtain⟨rfl,rfl,rfl,_⟩:=d o z;rw[y6]at z1;cases z1;refine⟨rfl,by simp[o],b,_,?_,Ah,rfl,J,y3,o⟩;exact y5
  .obtain rfl:j=0:=(by have:j<1:=S;omega);obtain⟨rfl,rfl⟩:=R;obtain⟨rfl,rfl,o,J,y3,y4,y5,y6⟩:=key rfl x1 D;obtain⟨h,_⟩|⟨_,i,x,y,f,V,z,z1,l⟩:=l
   .cases h
   .obtain⟨rfl,rfl,rfl,rfl⟩:=d o z;rw[y6]at z1;cases z1;obtain⟨_,h,_⟩|⟨⟨_,_,_,h⟩,_⟩:=l
    .rw[y4]at h;cases h
    .cases h
def bx4 (w:o_) (tm:X_) (w':o_):Prop:=Keep No w w'/\∃K C M g,tm=TN 63 (AL g [(1,ptr K.kb)])/\tm=TN 63 (AL g [(1,ptr K.kb),(2,b_ 0)])/\A8 K w'/\GK C M K/\Beg K/\∀k,K.T k≠(0,0)->w.heap.size<=k
def qI (i:Nat):Int:=if i=0 then 11 else 12
def uj (f:Y_) (a b c d e:n_):X_:=#[a,b,c,d,e,f 5,f 6,f 7,f 8,f 9,f 10,f 11,f 12,f 13,f 14,f 15,f 16,f 17,f 18,f 19,f 20,f 21,f 22,f 23,f 24,f 25,f 26,f 27,f 28,f 29,f 30,f 31,f 32,f 33,f 34,f 35,f 36,f 37,f 38,f 39,f 40,f 41,f 42,f 43,f 44,f 45,f 46,f 47,f 48,f 49,f 50,f 51,f 52,f 53,f 54,f 55,f 56,f 57,f 58,f 59,f 60,f 61,f 62]
theorem bp8:(XO 2 (8*Am 2) λi=>(qI i).toNat)=[11,12,0,0,0,0,0,0]:=by decide
section
variable (m:Nat) (w:o_) (f:Y_)
theorem ak9:(bq prog 1).wpIn NF m prog (Ends (bx4 w)) ⟨TN 63 (AL f []),[]⟩ w:=by
 unfold bq;rw[lu];dsimp only[Tryz.f13,Option.getD,behind,piece];show Code.wpIn (Fence.list LF none) m prog _ _ ⟨uj f (f 0) (f 1) (f 2) (f 3) (f 4),[]⟩ _;unfold uj;have c:Keep No w (w.alloc (.cells #[b_ 11,b_ 12] 3)):=(p_ _ _).alloc _;have j:(w.alloc (.cells #[b_ 11,b_ 12] 3)).heap[w.heap.size]?=some (O_ #[b_ 11,b_ 12] 3):=heap_alloc_new rfl;have n:PgI (w.alloc (.cells #[b_ 11,b_ 12] 3)) (Q_ w.heap.size 2 2) 2 qI:=⟨⟨_,_,rfl⟩,λ_=>⟨by omega,_,_,rfl,λ_=>⟨_,_,rfl,λi o=>by
  have:i=0\/i=1:=by omega
  obtain rfl|rfl:=this<;>rw[Af j]<;>rfl⟩⟩⟩;have l:bu (w.alloc (.cells #[b_ 11,b_ 12] 3)) (.slice none 0 0) 0 (λ_=>(.slice none 0 0,0,λ_=>0)):=⟨_,_,rfl,λh=>absurd h (by omega)⟩;gi_wp2_with fail;refine(an1 _ (w.alloc (.cells #[b_ 11,b_ 12] 3)) 16 20 _ _ 2 0 qI _ n l).mono ?_;rintro e w1 ⟨g,⟨_,a⟩|⟨K,b,u,t,C,M,rfl,s,ok,q,d,r,_⟩⟩
 .exact(a rfl ⟨by omega,⟨by omega,by omega,λi o=>by unfold qI;split<;>omega⟩,by unfold Am;omega⟩).elim
 .rw[bp8]at d;unfold ptr;gi_wp2;exact⟨rfl,rfl,c.then g,K,C,M,_,C9 rfl (by simp[ptr]),C9 rfl (by simp[ptr]),s,ok,⟨b,_,q,d,rfl,rfl,rfl,rfl,rfl⟩,λk p=>Nat.le_trans c.size (r k p)⟩
theorem al1 (kb:Nat):(bq prog 2).wpIn NF m prog (Ends λtm w'=>(∃g,tm=TN 63 (AL g [(1,ptr kb)]))/\Keep No w w') ⟨TN 63 (AL f [(1,ptr kb),(2,b_ 0)]),[]⟩ w:=by
 unfold bq;rw[lu];dsimp only[Tryz.f13,Option.getD,behind,piece];show Code.wpIn (Fence.list LF none) m prog _ _ ⟨uj f (f 0) (ptr kb) (b_ 0) (f 3) (f 4),[]⟩ _;unfold uj ptr;gi_wp2;exact⟨rfl,rfl,⟨_,C9 rfl (by simp)⟩,p_ _ _⟩
theorem al0 (NC NS:Nat) (K:KS) (told:n_) (b:Nat) (r:PR) (h:A8 K w) (ok:GK NC NS K) (ht:w.ownsRow 0 59 4 told 1 (VR [(1,12,1,0)])) (hm:b∈K.AV) (hb:K.ps b=some r) (hA:r.A=1) (hP:r.P=2) (hi:r.Ae.length=8) (HY:r.pid=1):
  (bX prog 4).wpIn NF m prog (XU λtm w'=>(∃g,tm=TN 63 (AL g [(0,.bool true)]))/\Keep No w w') ⟨TN 63 (AL f [(1,ptr K.kb),(3,told),(4,b_ 0)]),[]⟩ w:=by
 obtain⟨k,z⟩:=List.mem_iff_getElem?.1 hm;have j:=λm=>(zA m w NC NS K r.pid h ok).mono λe w2 h=>sF ok z hb h
 rw[HY]at j;obtain⟨l,I,C⟩:∃g c,told=Q_ g 1 c:=by
  obtain⟨_,e⟩|⟨g,cap,v,e,_⟩:=ht.2
  .omega
  .exact⟨g,cap,e⟩
 subst C;have E:w.cell? (S_ l)=some (b_ 1):=ht.cellAt 0 (by omega);have F:w.cell? (T_ l 1)=some (b_ 12):=ht.cellAt 1 (by omega);have G:w.cell? (T_ l 2)=some (b_ 1):=ht.cellAt 2 (by omega);have H:w.cell? (T_ l 3)=some (b_ 0):=ht.cellAt 3 (by omega);unfold bX;rw[lu];dsimp only[Tryz.f13,Option.getD,behind];show Code.wpIn (Fence.list LF none) m prog _ _ ⟨uj f (f 0) (ptr K.kb) (f 2) (Q_ l 1 I) (b_ 0),[]⟩ _;unfold uj ptr;gi_upto_region 6 with(first|(gi_at_call 20;refine(j _).mono ?_;rintro e w2 ⟨t,D,a7,n7,c7,a8,n8,c8,rfl,y,q,i8⟩;obtain⟨w3,i,p,n⟩:=MI (w:=w2.alloc (.cells look0 48)) (rb:=w2.heap.size) (a:=r.pid) (b:=r.par) (c:=D) (d:=r.A) (e:=r.B) (f:=r.P) (g:=r.st) (n7:=n7) (c7:=c7) (n8:=n8) (c8:=c8) (a7:=a7) (a8:=a8) (heap_alloc_new rfl))|refine DU rfl (.tmp 5) (.tmp 27) 48 rfl rfl rfl i ?_);have u:Keep No w2 w3:=((p_ No w2).alloc (.cells look0 48)).trans p (λx O e=>absurd (show x=w2.heap.size from e) (by omega));have o:n7=8:=by
  obtain⟨s,c,e,_⟩:=q
  cases e
  simp[ints,hi]
 subst o;have K23:=t.then u;have J:=K23.has E;have d1:=K23.has F;have d2:=K23.has G;have d3:=K23.has H;have L:w3.cell? (T_ w2.heap.size 3)=some (b_ 1):=by rw[Af n];simp[LV,hA]
 have M:w3.cell? (T_ w2.heap.size 5)=some (b_ 2):=by rw[Af n];simp[LV,hP]
 have N:w3.cell? (T_ w2.heap.size 7)=some (.slice a7 8 c7):=bce n rfl;clear hA hP hi HY i n p q i8 y;gi_wp2;exact⟨rfl,rfl,⟨_,C9 rfl (by simp)⟩,K23⟩
end
theorem BV.low {T T':Tag} {v0 v v':o_} (M:BV T T' v v') (h0:Keep No v0 v) (ht:∀k,T k≠(0,0)->v0.heap.size<=k):Keep No v0 v'/\∀k,T' k≠(0,0)->v0.heap.size<=k:=by
 refine⟨h0.trans M.keep (λk a e=>absurd (ht k e) (by omega)),λk a=>?_⟩;by_cases e:k<v.heap.size
 .exact ht k (by rw[<-DY.fresh M k e];exact a)
 .exact Nat.le_trans h0.size (by omega)
theorem pY {Od:Old} {v:o_} {c0:Frame} {cs:Z_} {R:Frame×Z_->o_->Prop} (hk:∀v',Keep No v v'->Goes Od prog (c0.finish (.bool true),cs) v' R):Goes Od prog (Frame.enter prog 13 #[] .normal,c0::cs) v R:=by
 refine Goes.Ar (bw2 _) ?_;rw[show run prog 5 (Frame.enter prog 13 #[] .normal,c0::cs)=bA (c0::cs)from rfl,at_toldM (l:=[]) (bw1 _) rfl (bw0 _)];refine Goes.part (m:=0) ap8 rfl aj9 (λv1 _=>ak9 0 v1 _) λv1 q v2 n ⟨w,K,C,M,g,_,e,I,ok,o,H⟩=>?_
 subst e;rw[al3];refine Goes.seq (Goes.part (m:=0) ap8 rfl aj8 (λv1 _=>al1 0 v1 _ _) λv3 q v4 y ⟨⟨f,e⟩,z⟩=>?_);subst e;have p:=y.then z;refine Goes.Ar (x:=bB (ptr K.kb) (c0::cs) f) (bv9 _ _ _) ?_;rw[bv8];refine Qx (I.no p) ok (λb r j _ _ _=>o.calls j) λtold e O u L a=>?_
 obtain⟨rfl,rfl,b,r,j,F,E,h,G,t⟩:=o.pick a.x;have c:=YS a.told.row (Nat.zero_le _);have i:=a.kb;refine Goes.Ar (bv7 _ _ _ _ _) ?_;rw[show run prog 6 ((bC (ptr K.kb) (c0::cs) f).finish (.tuple #[told,b_ 0]),c0::cs)=bD (ptr K.kb) told (b_ 0) (c0::cs) f from rfl,at_toldM (l:=[(1,ptr K.kb),(3,told),(4,b_ 0)]) (bv6 _ _ _ _ _) (bv5 _ _ _ _ _) (bv4 _ _ _ _ _),<-i];refine Goes.aa2 (m:=0) ap8 rfl al2 (λv6 d=>al0 0 v6 _ C M u told b r (a.ka.no d) a.ok (ZJ c d) j F E h G t) λv6 q s J d ⟨⟨N,e⟩,A⟩=>?_
 subst e;refine Goes.Ar (bv3 _ _ _ _ _) ?_;rw[bv2];refine hk J ?_;have B:Keep No v v4:=(n.then w).then p;have D:=(a.mv.low B (λk hk=>Nat.le_trans n.size (H k hk))).1;exact D.then (d.then A)
def pw (t n m:Nat) (d:Nat->Nat) (i:Nat):Nat:=
 if i<8 then[1,64,11,5,11,2,7,32].getD i 0
 else if i<8+4*t then[1,66,11,7].getD ((i-8) % 4) 0
 else if i<12+4*t then[1,69,11,1].getD (i-(8+4*t)) 0
 else if i<32 then 0
 else if i<48 then[1,70,11,8,1,71,11,6,7,44,6,36,1,69,11,1].getD (i-32) 0
 else if i<64 then 0
 else if i<74 then[76,0,1,80,n,0,1,0,112,m].getD (i-64) 0
 else if i<80 then 0
 else if i<112 then d (i-80)else 0
structure Q3 (t n m:Nat) (d:Nat->Nat) (Ae:List Nat):Prop where
 len:Ae.length=128
 at_:∀i,i<112->i≠77->Ae[i]?=some (pw t n m d i)
theorem Yt {t n m k:Nat} {d:Nat->Nat} (hk:k<=t) (ht:t<=4):pw t n m d (8+4*k)=1/\pw t n m d (8+4*k+1)=(if k<t then 66 else 69)/\pw t n m d (10+4*k)=11/\pw t n m d (10+4*k+1)=if k<t then 7 else 1:=by
 have a:t=0\/t=1\/t=2\/t=3\/t=4:=by omega
 have b:k=0\/k=1\/k=2\/k=3\/k=4:=by omega
 obtain rfl|rfl|rfl|rfl|rfl:=a<;>obtain rfl|rfl|rfl|rfl|rfl:=b<;>first|omega|exact⟨rfl,rfl,rfl,rfl⟩
theorem Hr {t n m:Nat} {d:Nat->Nat} (ht:t<=4):(∀i,i<16->pw t n m d (32+i)=[1,70,11,8,1,71,11,6,7,44,6,36,1,69,11,1].getD i 0)/\(∀i,i<10->pw t n m d (64+i)=[76,0,1,80,n,0,1,0,112,m].getD i 0)/\(∀i,i<32->pw t n m d (80+i)=d i):=by
 refine⟨λi a=>?_,λi a=>?_,λi a=>?_⟩
 .unfold pw;rw[if_neg (by omega),if_neg (by omega),if_neg (by omega),if_neg (by omega),if_pos (by omega)]
  congr 1;omega
 .unfold pw;rw[if_neg (by omega),if_neg (by omega),if_neg (by omega),if_neg (by omega),if_neg (by omega),if_neg (by omega),if_pos (by omega)]
  congr 1;omega
 .unfold pw;rw[if_neg (by omega),if_neg (by omega),if_neg (by omega),if_neg (by omega),if_neg (by omega),if_neg (by omega),if_neg (by omega),if_neg (by omega),if_pos (by omega)]
  congr 1;omega
section
variable {t n m:Nat} {d:Nat->Nat}
theorem Q3.w {Ae:List Nat} {i v:Nat} (h:Q3 t n m d Ae) (hi:i<112) (hn:i≠77) (hv:pw t n m d i=v):Ae[i]?=some v:=by rw[h.at_ i hi hn,hv]
theorem Q3.step {r:PR} {op a:Nat} (h:Q3 t n m d r.Ae) (hP:r.P+1<112) (hn:r.P+1<77) (h0:pw t n m d r.P=op) (h1:pw t n m d (r.P+1)=a):Dq r=MV r op a:=by
 unfold Dq;rw[if_pos (by rw[h.len];omega),h.w (by omega) (by omega) h0,h.w hP (by omega) h1]
 rfl
theorem Q3.arg {r:PR} {j v:Nat} (h:Q3 t n m d r.Ae) (hA:r.A+j<77) (h0:pw t n m d (r.A+j)=v):Gi r j=v:=by
 unfold Gi;rw[h.w (by omega) (by omega) h0]
 rfl
theorem Q3.out {Ae:List Nat} {x:Nat} (h:Q3 t n m d Ae) (ht:t<=4) (hx:x<=32):(Ae.drop 80).take x=(List.range x).map d:=by
 apply List.ext_getElem?;intro i;by_cases a:i<x
 .rw[List.getElem?_take_of_lt a,List.getElem?_drop,h.w (v:=d i) (by omega) (by omega) ((Hr ht).2.2 i (by omega)),List.getElem?_map,List.getElem?_range a]
  rfl
 .rw[List.getElem?_eq_none (by simp;omega),List.getElem?_eq_none (by simp;omega)]
theorem Q3.N7 {Ae ws:List Nat} (h:Q3 t n m d Ae) (hw:ws.length<=16):Q3 t n m d (N7 Ae 112 ws)/\∀i,i<ws.length->(Go.Fxa.N7 Ae 112 ws)[112+i]?=ws[i]?:=by
 have c:=h.len;have e:(Ae.take 112).length=112:=by simp;omega
 refine⟨⟨by unfold Go.Fxa.N7;simp;omega,λi a b=>?_⟩,λi a=>?_⟩
 .unfold Go.Fxa.N7;rw[List.append_assoc,List.getElem?_append_left (by omega),List.getElem?_take_of_lt a,h.at_ i a b]
 .unfold Go.Fxa.N7;rw[List.append_assoc,List.getElem?_append_right (by omega),List.getElem?_append_left (by omega)]
  congr 1;omega
end
def bc4 (t u P A:Nat):Prop:=(u=2*t+3/\P=6/\A≠0)\/(∃k,k<=t/\u+2*k=2*t+2/\P=8+4*k)\/∃k,k<=t/\u+2*k=2*t+1/\P=10+4*k/\A=if k<t then 66 else 69
def as5 (c P A:Nat):Prop:=(c=8/\P=6/\A=0)\/(c=7/\P=32)\/(c=6/\P=34/\A=70)\/(c=5/\P=36)\/(c=4/\P=38/\A=71)\/(c=3/\P=40/\A=0)\/(c=2/\P=44)\/(c=1/\P=46/\A=69)\/(c=10/\P=40/\A≠0)\/(c=9/\P=42)
structure ϫ (t n m:Nat) (d:Nat->Nat) (p u:Nat) (r:PR):Prop where
 pid:r.pid=1
 en:r.en=false
 Yn:Q3 t n m d r.Ae
 fds:r.fds=[0,1,-1,-1,-1,-1]
 at_:bc4 t u r.P r.A
 bl:r.bl=.nilFunc\/(r.bl=.func (.func 265) #[ptr p] #[]/\u % 2=1/\3<=u/\u<=2*t+1)
structure qA (t n m:Nat) (d:Nat->Nat) (p c:Nat) (r:PR):Prop where
 pid:r.pid=2
 en:r.en=false
 Yn:Q3 t n m d r.Ae
 fds:r.fds=if 6<=c/\c<=8 then[0,1,-1,-1,-1,-1]else[0,-1,-1,-1,-1,-1]
 at_:as5 c r.P r.A
 bl:r.bl=.nilFunc\/(r.bl=.func (.func 270) #[ptr p] #[]/\c=4)
structure PI (t n m:Nat) (d:Nat->Nat) (b1 b2 p e1 e2 u c:Nat) (ws:List Nat) (K:KS):Prop where
 ne:b1≠b2
 pe:p≠e1/\p≠e2
 one:0<u->b1∈K.AV/\∃r,K.ps b1=some r/\ϫ t n m d p u r
 two:0<c->b2∈K.AV/\∃r,K.ps b2=some r/\qA t n m d p c r
 only:∀b r,b∈K.AV->K.ps b=some r->r.en=false->(b=b1/\0<u)\/(b=b2/\0<c)
 tv0:0<c->K.tv 0=.iface 330 (ptr e1)
 tv1:0<u\/(6<=c/\c<=8)->K.tv 1=.iface 334 (ptr e2)
 ef:K.ef 0=none/\K.ef 1=none
 d0:K.desc 0=(if 0<u then 1 else 0)+(if 0<c then 1 else 0)
 d1:K.desc 1=(if 0<u then 1 else 0)+(if 6<=c/\c<=8 then 1 else 0)
 n1:(K.ct e1).n=p/\(K.ct e2).n=p
 wv:(K.ct p).ws=ws
 x:0<c->(K.ct p).x=true
 y:(K.ct p).y=true ↔ 0<u\/(6<=c/\c<=8)
 wl:ws.length<=16
 fin:c<=3->u=0/\ws=[]
 le:u<=2*t+3/\c<=10/\1<=t/\t<=4/\1<=n/\n<=32/\1<=m/\m<=16
structure aV (b:Nat) (K K':KS) (r':PR):Prop where
 AV:K'.AV=K.AV
 tv:K'.tv=K.tv
 ef:K'.ef=K.ef
 desc:K'.desc=K.desc
 me:K'.ps b=some r'
 ps:∀k,k≠b->K'.ps k=K.ps k
theorem aV.of {b:Nat} {K:KS} {r r':PR} {T:Tag} {ct:Nat->Ct}:aV b K (KS.AP { K.AP b r with T:=T,ct:=ct } b r') r':=⟨rfl,rfl,rfl,rfl,Ah,λk a=>by show BX (BX K.ps b r) b r' k=_;rw[Bg a,Bg a]⟩
theorem aV.of1 {b:Nat} {K:KS} {r':PR}:aV b K (K.AP b r') r':=⟨rfl,rfl,rfl,rfl,Ah,λ_ a=>Bg a⟩
section
variable {t n m b1 b2 p e1 e2 u c:Nat} {d:Nat->Nat} {ws:List Nat} {K K':KS} {r r':PR}
theorem ϫ.co {x:Int} (h:ϫ t n m d p u r):ϫ t n m d p u { r with co:=x }:=⟨h.pid,h.en,h.Yn,h.fds,h.at_,h.bl⟩
theorem qA.co {x:Int} (h:qA t n m d p c r):qA t n m d p c { r with co:=x }:=⟨h.pid,h.en,h.Yn,h.fds,h.at_,h.bl⟩
theorem PI.moved (h:PI t n m d b1 b2 p e1 e2 u c ws K) (hM:CG K K'):PI t n m d b1 b2 p e1 e2 u c ws K':=by
 obtain⟨f,l⟩:=hM.ps;have e1:=hM.AV;have e2:K'.tv=K.tv:=by rw[hM.eq]
 have e3:K'.ef=K.ef:=by rw[hM.eq]
 have e4:K'.desc=K.desc:=by rw[hM.eq]
 have g:K'.ct=K.ct:=by rw[hM.eq]
 refine⟨h.ne,h.pe,λw=>?_,λs=>?_,λb r o a v=>?_,by rw[e2];exact h.tv0,by rw[e2];exact h.tv1,by rw[e3];exact h.ef,by rw[e4];exact h.d0,by rw[e4];exact h.d1,by rw[g];exact h.n1,by rw[g];exact h.wv,by rw[g];exact h.x,by rw[g];exact h.y,h.wl,h.fin,h.le⟩
 .obtain⟨i,r,j,k⟩:=h.one w;exact⟨by rw[e1];exact i,_,by rw[l,j];rfl,k.co⟩
 .obtain⟨i,r,j,k⟩:=h.two s;exact⟨by rw[e1];exact i,_,by rw[l,j];rfl,k.co⟩
 .rw[e1]at o;rw[l]at a;cases e:K.ps b with
  |none=>rw[e]at a;cases a
  |some q=>
   rw[e]at a
   cases a
   exact h.only b q o e v
theorem PI.Jo {u':Nat} {ws':List Nat} (h:PI t n m d b1 b2 p e1 e2 u c ws K) (hu:0<u) (hU:aV b1 K K' r') (hu':0<u') (hle:u'<=u) (hr:ϫ t n m d p u' r') (hn:(K'.ct e1).n=p/\(K'.ct e2).n=p) (hw:(K'.ct p).ws=ws') (hx:(K'.ct p).x=(K.ct p).x) (hy:(K'.ct p).y=(K.ct p).y) (hl:ws'.length<=16):PI t n m d b1 b2 p e1 e2 u' c ws' K':=by
 have j:=h.le;refine⟨h.ne,h.pe,λ_=>⟨by rw[hU.AV];exact(h.one hu).1,r',hU.me,hr⟩,λf=>?_,λb r i g hn=>?_,λf=>by rw[hU.tv];exact h.tv0 f,λ_=>by rw[hU.tv];exact h.tv1 (.inl hu),by rw[hU.ef];exact h.ef,by rw[hU.desc,h.d0,if_pos hu,if_pos hu'],by rw[hU.desc,h.d1,if_pos hu,if_pos hu'],hn,hw,λf=>by rw[hx];exact h.x f,by rw[hy,h.y];omega,by assumption,λf=>absurd (h.fin f).1 (by omega),by omega⟩
 .obtain⟨k,r,l,o⟩:=h.two f;exact⟨by rw[hU.AV];exact k,r,by rw[hU.ps b2 h.ne.symm];exact l,o⟩
 .rw[hU.AV]at i;by_cases e:b=b1
  .exact .inl ⟨e,hu'⟩
  .rw[hU.ps b e]at g;obtain⟨a,_⟩|a:=h.only b r i g hn
   .exact absurd a e
   .exact .inr a
theorem PI.set2 {c':Nat} {ws':List Nat} (h:PI t n m d b1 b2 p e1 e2 u c ws K) (hc:0<c) (hU:aV b2 K K' r') (hc':0<c') (hle:c'<=10) (hcl:(6<=c/\c<=8) ↔ (6<=c'/\c'<=8)) (hr:qA t n m d p c' r') (hn:(K'.ct e1).n=p/\(K'.ct e2).n=p) (hw:(K'.ct p).ws=ws') (hx:(K'.ct p).x=(K.ct p).x) (hy:(K'.ct p).y=(K.ct p).y) (hl:ws'.length<=16) (hf:c'<=3->u=0/\ws'=[]):PI t n m d b1 b2 p e1 e2 u c' ws' K':=by
 have i:=h.le;refine⟨h.ne,h.pe,λo=>?_,λ_=>⟨by rw[hU.AV];exact(h.two hc).1,r',hU.me,hr⟩,λb r g f hn=>?_,λ_=>by rw[hU.tv];exact h.tv0 hc,λe=>by rw[hU.tv];exact h.tv1 (by omega),by rw[hU.ef];exact h.ef,by rw[hU.desc,h.d0,if_pos hc,if_pos hc'],by rw[hU.desc,h.d1];simp only[hcl],hn,hw,λ_=>by rw[hx];exact h.x hc,by rw[hy,h.y,hcl],hl,hf,by omega⟩
 .obtain⟨j,r,k,l⟩:=h.one o;exact⟨by rw[hU.AV];exact j,r,by rw[hU.ps b1 h.ne];exact k,l⟩
 .rw[hU.AV]at g;by_cases e:b=b2
  .exact .inr ⟨e,hc'⟩
  .rw[hU.ps b e]at f;obtain a|⟨a,_⟩:=h.only b r g f hn
   .exact .inl a
   .exact absurd a e
theorem VT.one {b:Nat} {BA:List Ev} (h:VT b 1 K BA K'):∃K1,OI b K K1/\(UR b K1 BA K'\/Last b K1 BA K'):=by
 obtain⟨K1,a,⟨e1,e2,c,⟨rfl,rfl⟩,d,rfl⟩|⟨j,e1,e2,c,g,f,e,rfl⟩⟩:=h
 .exact⟨_,a,.inl d⟩
 .obtain rfl:j=0:=by omega
  obtain⟨rfl,rfl⟩:=f;exact⟨_,a,.inr e⟩
end
section
variable {t n m b1 b2 p e1 e2 u c:Nat} {d:Nat->Nat} {ws:List Nat} {K K':KS} {r r':PR} {BA:List Ev}
theorem ad6 {a b:Nat} (h:ptr a=ptr b):a=b:=congrArg Addr.block (x_ (Value.pointer.inj h))
theorem LC {x y a b:Nat} (h:(Value.iface x (ptr a))=.iface y (ptr b)):x=y/\a=b:=by
 injection h with c d;exact⟨c,ad6 d⟩
theorem XFd.get {K:KS} {r:PR} {fd i x y:Nat} {f:n_} {X7:Nat->Nat->KS->Nat->Nat->n_->Prop} {Xr Xw:Nat->KS->Nat->Nat->n_->Prop} (h:XFd K r fd X7 Xr Xw K' x y f) (hf:r.fds[fd]?=some (i:Int)):(∃e g,K.tv i=.iface 337 (ptr e)/\X7 e g K' x y f)\/(∃e,K.tv i=.iface 330 (ptr e)/\Xr e K' x y f)\/∃e,K.tv i=.iface 334 (ptr e)/\Xw e K' x y f:=by
 obtain⟨h,_⟩|⟨j,c,_,h⟩:=h
 .unfold PR.has at h;rw[hf]at h;simp at h
 .rw[hf]at c;obtain rfl:j=i:=by have:=x_ c;omega
  obtain⟨e,g,a,_,b⟩|⟨e,a,_,b⟩|⟨e,a,_,b⟩:=h
  .exact .inl ⟨e,g,a,b⟩
  .exact .inr (.inl ⟨e,a,b⟩)
  .exact .inr (.inr ⟨e,a,b⟩)
theorem LY.get {K:KS} {b call x y:Nat} {r:PR} {f:n_} (h:LY K b r call K' x y f) (ha:r.A+UQ call<=r.Ae.length):zh K b r call K' x y f:=by
 obtain⟨h,_⟩|⟨_,h⟩:=h
 .exact absurd (.inr ha) h
 .exact h
theorem ϫ.p2 {P A:Nat} (h:ϫ t n m d p u r) (e:bc4 t c P A) (hb:r.bl=.nilFunc):ϫ t n m d p c { r with P:=P,A:=A }:=⟨h.pid,h.en,h.Yn,h.fds,e,.inl hb⟩
theorem qA.p2 {P A v:Nat} (h:qA t n m d p c r) (e:as5 v P A) (hb:r.bl=.nilFunc) (hc:(6<=c/\c<=8) ↔ (6<=v/\v<=8)):qA t n m d p v { r with P:=P,A:=A }:=⟨h.pid,h.en,h.Yn,by have:=h.fds;simp only[hc]at this;exact this,e,.inl hb⟩
theorem PI.br1 (h:PI t n m d b1 b2 p e1 e2 u c ws K) (hu:0<u) (hB:OI b1 K K'):PI t n m d b1 b2 p e1 e2 u c ws K'/\∃r,K'.ps b1=some r/\ϫ t n m d p u r/\r.bl=.nilFunc:=by
 obtain⟨j,r,g,i,rfl⟩:=hB;have a:=h.moved g;obtain⟨k,q,f,b⟩:=a.one hu;rw[i]at f;cases f;have e:ϫ t n m d p u { r with bl:=.nilFunc }:=⟨b.pid,b.en,b.Yn,b.fds,b.at_,.inl rfl⟩;exact⟨a.Jo hu aV.of1 hu (w_ _) e a.n1 a.wv rfl rfl a.wl,_,Ah,e,rfl⟩
theorem PI.br2 (h:PI t n m d b1 b2 p e1 e2 u c ws K) (hc:0<c) (hB:OI b2 K K'):PI t n m d b1 b2 p e1 e2 u c ws K'/\∃r,K'.ps b2=some r/\qA t n m d p c r/\r.bl=.nilFunc:=by
 obtain⟨j,r,g,i,rfl⟩:=hB;have a:=h.moved g;obtain⟨k,q,f,b⟩:=a.two hc;rw[i]at f;cases f;have e:qA t n m d p c { r with bl:=.nilFunc }:=⟨b.pid,b.en,b.Yn,b.fds,b.at_,.inl rfl⟩;exact⟨a.set2 hc aV.of1 hc h.le.2.1 Iff.rfl e a.n1 a.wv rfl rfl a.wl a.fin,_,Ah,e,rfl⟩
theorem drop_one {i:Nat} (h:K.desc i=2):K.drop i={ K with desc:=Aj K.desc i 1 }:=by unfold KS.drop;rw[if_neg (by omega),h]
theorem Uz {i:Nat} (h:K.desc i=1) (he:K.ef i=none):K.drop i={ K with desc:=Aj K.desc i 0,ef:=Aj K.ef i none,tv:=Aj K.tv i .nilIface,ct:=K.clo i }:=by unfold KS.drop;rw[if_pos h,he]
theorem bn.parts {b st:Nat} (h:bn K b r st K'):∃f:Nat->Nat,∃g:Nat->Int,K'.tv=(K.drops r.fds).tv/\K'.ef=(K.drops r.fds).ef/\K'.desc=(K.drops r.fds).desc/\K'.ct=(K.drops r.fds).ct/\(∀k,k∈K'.AV ↔ k∈(K.drops r.fds).AV/\RQ K'.ps k=false)/\(∃q,K'.ps b=some q/\q.en=true/\q.pid=r.pid)/\∀k,k≠b->K'.ps k=((K.drops r.fds).ps k).map λq=>{ q with co:=g k,par:=f k }:=by
 obtain⟨i,g,c,a,l,j,rfl⟩:=h;obtain⟨f,m⟩:=j.ps;obtain⟨n,d⟩:=l.ps;have e:=j.eq;have e2:=l.eq;refine⟨f,n,by show a.tv=_;rw[e,e2];rfl,by show a.ef=_;rw[e,e2];rfl,by show a.desc=_;rw[e,e2];rfl,by show a.ct=_;rw[e,e2];rfl,λk=>?_,⟨FQ { r with co:=-1,par:=f b } st,?_,rfl,rfl⟩,λk o=>?_⟩
 .show k∈a.AV.filter _ ↔ _;have e3:a.AV=(K.drops r.fds).AV:=by rw[e,e2];rfl
  rw[e3,List.mem_filter];show _/\(!RQ a.ps k)=true ↔ _/\RQ a.ps k=false;simp
 .show a.ps b=_;rw[m b];show(BX i.ps b _ b).map _=_;rw[Ah];rfl
 .show a.ps k=_;rw[m k];show(BX i.ps b _ k).map _=_;rw[Bg o,d k];cases (K.drops r.fds).ps k<;>rfl
end
end Go.Fxa
