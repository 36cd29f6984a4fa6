/- Files, as they a -/
import Derived.Test.YtmhplpfpcnjekaaGreatA36
import Derived.Test.YtmhplpfpcnjekaaGreatA38
namespace Go.Fxa
open Conc Proofs RowKit Proofs.Tryz
set_option maxRecDepth 1000000
set_option maxHeartbeats 0
variable {w w':o_}{x:Int}{y z:n_}{n base:Nat}{fs:List (Int×Nat×List Nat)}
theorem bp8 {rb:Nat}{x:n_}(h:w.heap[rb]?=some (N_ #[x,y,z] 147)):w.cell? (R_ rb)=some x/\w.cell? (S_ rb 1)=some y/\w.cell? (S_ rb 2)=some z:=by
 refine⟨?_,?_,?_⟩<;>rw[Ai h]<;>rfl
theorem nD {rb:Nat}{a b c:n_}{y:Int}{s:d_ f_}{k:Nat}(h:w.heap[rb]?=some (N_ #[a,b,c] 147)):∃w',(Instr.storeAt 147 (Q_ rb) (.agg #[b_ x,b_ y,.slice s n k])).run prog w=.ok () w'/\Aa (At rb) w w'/\w'.heap[rb]?=some (N_ #[b_ x,b_ y,.slice s n k] 147):=by
 have e:(Instr.storeAt 147 (Q_ rb) (.agg #[b_ x,b_ y,.slice s n k])).run prog w=(OV rb 0 [b_ x,b_ y,.slice s n k] (.pure ())).run prog w:=sU
 obtain⟨w',d,f,g⟩:=Hr (P:=prog) (k:=Sem.pure ()) [b_ x,b_ y,.slice s n k] 0 _ w h sJ (by simp[Value.oneCell']);refine⟨w',?_,f,?_⟩
 .rw[e,d];rfl
 .rw[g];simp[UI]
section
variable (m:Nat)(w:o_)
theorem zC (K:KS)(f:Nat)(name:Int)(h:AY K w)(tf:K.T f=(10,0)):O_ m 161 #[Q_ f,b_ name] w λe w'=>Aa No w w'/\∃a c,e=.returned (.agg #[b_ name,b_ (K.op f),.slice a (K.ct f).ws.length c])/\Xy w.heap.size (.slice a (K.ct f).ws.length c) (ints (K.ct f).ws) w':=by
 obtain⟨ws,p⟩:∃ws,Yp ((K.ct f).ws=ws):=⟨_,rfl⟩;rw[p.out];have I:Aa No w (w.alloc (.cells #[b_ 0,b_ 0,.slice none 0 0] 147)):=(Aa.refl _ _).alloc _;have H:(w.alloc (.cells #[b_ 0,b_ 0,.slice none 0 0] 147)).heap[w.heap.size]?=some (N_ #[b_ 0,b_ 0,.slice none 0 0] 147):=Yw rfl;have h1:=h.no I;have R:w.heap.size<(w.alloc (.cells #[b_ 0,b_ 0,.slice none 0 0] 147)).heap.size:=Dt H;gi_enter func161,ntmps161;gi_upto_region 1 with fail;generalize w.alloc (.cells #[b_ 0,b_ 0,.slice none 0 0] 147)=w1 at*;obtain⟨u,M,S⟩:=h1.fl.file f tf;obtain⟨W,hi,A,B,C⟩:=info_parts Yu;have d1:w1.cell? (S_ f 1)=some (b_ (K.op f)):=bce M rfl;rw[p.out]at S;clear p;obtain⟨rfl,rfl⟩|⟨b,X,rfl,hR,U,N,tg⟩:=S
 .have L:w1.cell? (R_ f)=some (.slice none 0 0):=bce M rfl;have l:=run_make (P:=prog) w1 22 3 W (b_ 0) underlying22 hi A .i64 .i64 0 0 wB wB (by rw[C];omega) wB;rw[B]at l;have l:(Instr.makeSlice 22 (b_ 0) (b_ 0)).run prog w1=.ok (P_ w1.heap.size 0 0) (w1.alloc (.cells (madeCells #[b_ 0] 0) 3)):=l;have o:Aa No w1 (w1.alloc (.cells (madeCells #[b_ 0] 0) 3)):=(Aa.refl _ _).alloc _;have Z:=o.has L;have e1:=o.has d1;obtain⟨w8,G,D,J⟩:=nD (x:=name) (y:=K.op f) (s:=some (R_ w1.heap.size)) (n:=0) (k:=0) (o.old H id);gi_wp2;refine wpIn_loop_once ?_;gi_wp2_with (refine BM rfl (.tmp 4) (.tmp 36) 147 rfl rfl rfl G ?_);refine bodyPost_ret (v:=.agg #[b_ name,b_ (K.op f),P_ w1.heap.size 0 0]) (by simp[results,results161,go_sem,bp8 J]) rfl ?_;exact⟨(I.then o).trans D (λk Q e=>qx (show k=w.heap.size from e) wB),some (R_ w1.heap.size),0,rfl,_,_,rfl,λh=>by simp[ints]at h⟩
 .have L:w1.cell? (R_ f)=some (P_ b ws.length X):=bce M rfl;have l:=run_make (P:=prog) w1 22 3 W (b_ 0) underlying22 hi A .i64 .i64 ws.length ws.length wB wB (by rw[C];omega) wB;rw[B]at l;simp only[Int.toNat_natCast,Nat.mul_one,Value.cells]at l;have r0:=Y8 w1 ws.length;have o:Aa No w1 (w1.alloc (.cells (madeCells #[b_ 0] ws.length) 3)):=(Aa.refl _ _).alloc _;generalize w1.alloc (.cells (madeCells #[b_ 0] ws.length) 3)=w2 at*;have Z:=o.has L;gi_wp2;gi_loopw [6,7,19] (λ_ _ i wr=>∃k:Nat,k<=ws.length/\i=b_ k/\Aa No w1 wr/\∃g,FO 3 .i64 wr w1.heap.size ws.length g/\Yp (∀j x,j<k->ws[j]?=some x->g j=(x:Nat))) (λ_ _ i _=>ws.length-(intOf i).toNat)
  case atStart=>exact⟨0,wB,rfl,o,_,r0,λj x h=>qx h wB⟩
  case round=>
   obtain⟨k,Q,rfl,KK,g,F,r⟩:=hrel
   by_cases O:k<ws.length
   .have E:ws[k]?=some ws[k]:=JM O;generalize ws[k]=x at E;have V:=N x (t_ E);have d:=KK.has ((hR.cell (i:=k) wB).trans (by simp[Aw,E]:(Aw ws)[k]?=some (a_ (x:Nat))));have ec:=F.cell O;have ez:=F.fz k;gi_wp2;go_roundw
    case rel=>exact⟨k+1,wB,by go_num,KK.setCell _ (λV=>qx V (Nat.lt_irrefl _)),_,F.set k x,λj z hj q=>by
     unfold upd
     by_cases e:j=k
     .subst e;rw[rW rfl];rw[E]at q;cases q;rfl
     .rw[ru e];exact r.out j z wB q⟩
    case measure=>simp[intOf];omega
   .obtain rfl:k=ws.length:=wB;have e1:=KK.has d1;obtain⟨w8,G,D,J⟩:=nD (x:=name) (y:=K.op f) (s:=some (R_ w1.heap.size)) (n:=ws.length) (k:=ws.length) (KK.old H id);gi_wp2_with (refine BM rfl (.tmp 4) (.tmp 36) 147 rfl rfl rfl G ?_);refine bodyPost_ret (v:=.agg #[b_ name,b_ (K.op f),P_ w1.heap.size ws.length ws.length]) (by simp[results,results161,go_sem,bp8 J]) rfl ?_;refine⟨(I.then KK).trans D (λk Q e=>qx (show k=w.heap.size from e) wB),some (R_ w1.heap.size),ws.length,rfl,some (R_ w1.heap.size),ws.length,by simp[ints],λ_=>?_⟩;obtain⟨Y,q1,q2,q3⟩:=F.keep D (show ¬At w.heap.size w1.heap.size from λe=>by have e:w1.heap.size=w.heap.size:=e;omega);refine⟨w1.heap.size,Y,rfl,wB,q1,λi z q=>?_⟩;simp only[ints,List.getElem?_map]at q;obtain⟨z',t,rfl⟩:=lT.1 q;have hi:=(Oc.1 t).1;rw[q3 i hi,r.out i z' hi t]
end
structure ϋ (base:Nat)(w:o_)(xs:U_)(fs:List (Int×Nat×List Nat)):Prop where
 len:xs.length=fs.length*3
 get:∀i q,fs[i]?=some q->xs[i*3]?=some (b_ q.1)/\xs[i*3+1]?=some (b_ (q.2.1:Nat))/\∃a c,xs[i*3+2]?=some (.slice a q.2.2.length c)/\Xy base (.slice a q.2.2.length c) (ints q.2.2) w
theorem ϋ.nil:ϋ base w [] []:=⟨rfl,λi q h=>by simp at h⟩
theorem ϋ.keep {xs:U_}{S:Nat->Prop}(h:ϋ base w xs fs)(b:Aa S w w')(d:∀k cs,base<=k->w.heap[k]?=some (N_ cs 3)->¬S k):ϋ base w' xs fs:=
 ⟨h.len,λi q hq=>let ⟨h1,h2,a,c,h3,h4⟩:=h.get i q hq;⟨h1,h2,a,c,h3,h4.keep b d⟩⟩
theorem ϋ.no {xs:U_}(h:ϋ base w xs fs)(a:Aa No w w'):ϋ base w' xs fs:=h.keep a λ_ _ _ _ x=>x
theorem XX {g:o_}{v:n_}{xs:U_}(h:g.ownsRow base 147 3 v n xs):∀x cs,base<=x->g.heap[x]?=some (N_ cs 3)->¬(v.ownBlock=some x):=λx cs _ e c=>by
 obtain⟨rfl,_⟩|⟨d,f,b,rfl,_,a,_⟩:=h.2
 .cases c
 .obtain rfl:d=x:=x_ c;rw[e]at a;cases a
theorem ϋ.snoc {xs:U_}{o c:Nat}{l:List Nat}{a:d_ f_}(h:ϋ base w xs fs)(e:Xy base (.slice a l.length c) (ints l) w):ϋ base w (xs++[b_ x,b_ (o:Nat),.slice a l.length c]) (fs++[(x,o,l)]):=by
 refine⟨by simp[h.len];omega,λi q hq=>?_⟩;have d:=h.len;by_cases hi:i<fs.length
 .rw[List.getElem?_append_left hi]at hq;rw[List.getElem?_append_left wB,List.getElem?_append_left wB,List.getElem?_append_left wB];exact h.get i q hq
 .rw[List.getElem?_append_right wB]at hq;have b:i=fs.length:=by have:=(Oc.1 hq).1;simp at this;omega
  subst b;simp at hq;subst hq;rw[List.getElem?_append_right wB,List.getElem?_append_right wB,List.getElem?_append_right wB];rw[show fs.length*3-xs.length=0 by omega,show fs.length*3+1-xs.length=1 by omega,show fs.length*3+2-xs.length=2 by omega];exact⟨rfl,rfl,a,c,rfl,e⟩
def SK (K:KS):Nat->List (Int×Nat×List Nat)
 |0=>[]
 |k+1=>SK K k++match K.nm k with|some f=>[((k:Int),K.op f,(K.ct f).ws)]|none=>[]
def au (K:KS)(l:List Nat):List (Int×Nat×List Nat):=l.map λf=>(-1,K.op f,(K.ct f).ws)
theorem bi1:(prog.info? 147).map (λi=>(i.zero,i.size,i.bytes))=some (some (.agg #[b_ 0,b_ 0,.slice none 0 0]),3,40):=sU
theorem WU {b:Nat}{x:n_}{t:j_}(h:w.heap[b]?=some (N_ #[x,y,z] t)):∀q u,([x,y,z]:U_)[q]?=some u->w.cell? (((R_ b):f_).add q)=some u:=λq u hq=>by
 rw[Addr.add_lit,Nat.zero_add,Ai h q,<-hq];simp
def dX (w:o_)(base:Nat)(v:n_)(fs:List (Int×Nat×List Nat)):Prop:=∃xs,w.ownsRow base 147 3 v fs.length xs/\ϋ base w xs fs
section
variable (m:Nat)(w:o_)
theorem bh3 (K:KS)(h:AY K w)(hnl:K.nl.length<=1000):O_ m 107 #[.pointer (some (S_ K.kb 4))] w λe w'=>Aa No w w'/\∃v,e=.returned v/\dX w' w.heap.size v (SK K 16++au K K.nl):=by
 obtain⟨V,C,F,G,H⟩:=info_parts bi1;obtain⟨es,Q,O⟩:=Β h;gi_enter func107,ntmps107;gi_wp2_with (refine Ws rfl (.tmp 10) 102 rfl rfl Q ?_);gi_loopw [3,4,5,12] (λa _ _ i wr=>∃k:Nat,k<=16/\i=b_ k/\Aa No w wr/\dX wr w.heap.size a (SK K k)) (λ_ _ _ i _=>16-(intOf i).toNat)
 case atStart=>exact⟨0,wB,rfl,Aa.refl _ _,[],World.ownsRow_nil _ _ _ _,ϋ.nil⟩
 case round=>
  obtain⟨k,l,rfl,KK,xs,u,b⟩:=hrel
  by_cases S:k<16
  .have T:(k:Int)<16:=wB;have t:=O k S wr;have U:=h.no KK;have D:(SK K k).length<=16:=by
    have key:∀k,(SK K k).length<=k:=λk=>by
     induction k with
     |zero=>exact w_
     |succ k ih=>simp only[SK,g_];cases K.nm k<;>simp<;>omega
    exact lN (key k) l
   cases hnm:K.nm k with
   |none=>
    rw[hnm]at t
    simp only[VJ]at t
    gi_wp2_with (refine Ry rfl (.tmp 11) (.tmp 12) 102 rfl rfl rfl t ?_)
    go_roundw
    case rel=>exact⟨k+1,wB,by go_num,KK,xs,by simpa [SK,hnm]using u,by simpa [SK,hnm]using b⟩
    case measure=>simp[intOf];omega
   |some f=>
    rw[hnm]at t
    simp only[VJ,ptr]at t
    obtain⟨ks,_,N⟩:=U.k
    have R:=(N.nm k S).2 f hnm
    have L:=λm=>zC m wr K f k U R
    gi_wp2_with (first|refine Ry rfl (.tmp 11) (.tmp 12) 102 rfl rfl rfl t ?_|(gi_at_call 161;refine(L _).mono ?_;rintro e w2 ⟨y,a,c,rfl,n⟩;have q:Aa No w2 (w2.alloc (.cells #[b_ (k:Int),b_ (K.op f:Nat),.slice a (K.ct f).ws.length c] 147)):=(Aa.refl _ _).alloc _;have r:=J9 (J9 u y) q;have KC:Aa No w (w2.alloc (.cells #[b_ (k:Int),b_ (K.op f:Nat),.slice a (K.ct f).ws.length c] 147)):=(KK.then y).then q)|(gi_at_builtin;refine wpListIn_append_own _ rfl (.tmp 18) (.tmp 22) 144 rfl w.heap.size 147 V (.agg #[b_ 0,b_ 0,.slice none 0 0]) 3 40 underlying144 C F G H rfl sN _ (SK K k).length xs rfl r (R_ w2.heap.size) 1 1 [b_ (k:Int),b_ (K.op f:Nat),.slice a (K.ct f).ws.length c] rfl rfl (WU (Yw rfl)) (by simp[Value.oneCell']) (by unfold maxLen;omega) wB KC.size ?_;intro W w4 d p _;have J:Aa No w w4:=KC.trans (Ef p λk l _=>l) (λx Z e=>qx (r.lt x e).1 wB);have z:=((b.no y).no q).keep (Ef p λk l _=>l) (XX r);have A:=((n.mono KK.size).no q).keep (Ef p λk l _=>l) (XX r);clear p n))
    go_roundw
    case rel=>exact⟨k+1,wB,by go_num,J,_,by simpa [SK,hnm]using d,by simpa [SK,hnm]using z.snoc (x:=k) (o:=K.op f) (a:=a) (c:=c) A⟩
    case measure=>simp[intOf];omega
  .obtain rfl:k=16:=wB;have D:(SK K 16).length<=16:=by
    have key:∀k,(SK K k).length<=k:=λk=>by
     induction k with
     |zero=>exact w_
     |succ k ih=>simp only[SK,g_];cases K.nm k<;>simp<;>omega
    exact key 16
   obtain⟨ks,P,N⟩:=h.k;obtain⟨v,t,hN,M⟩:=N.nl;have q20:=KK.has ((Ai P 20).trans t);obtain⟨rfl,s⟩|⟨g,c,rfl,hR,tg⟩:=hN
   .gi_wp2;refine wpIn_loop_once ?_;gi_wp2;go_ret;exact⟨KK,_,rfl,xs,by rw[s];simpa [au]using u,by rw[s];simpa [au]using b⟩
   .gi_wp2;gi_loopw [3,7,30] (λa _ i X=>∃j:Nat,j<=K.nl.length/\i=b_ j/\Aa No w X/\dX X w.heap.size a (SK K 16++au K (K.nl.take j))) (λ_ _ i _=>K.nl.length-(intOf i).toNat)
    case atStart=>exact⟨0,wB,rfl,KK,xs,by simpa [au]using u,by simpa [au]using b⟩
    case round=>
     obtain⟨j,hj,rfl,B,xs,u,b⟩:=hrel
     by_cases E:j<K.nl.length
     .have I:K.nl[j]?=some K.nl[j]:=JM E;generalize K.nl[j]=f at I;have R:=M f (t_ I);have d3:=B.has ((hR.cell (i:=j) wB).trans (by simp[Ce,I,ptr]:(Ce K.nl)[j]?=some (Q_ f)));have L:=λm=>zC m _ K f (-1) (h.no B) R
      have Y:(SK K 16++au K (K.nl.take j)).length<=2000:=(by simp[au];omega);have e2:SK K 16++au K (K.nl.take (j+1))=(SK K 16++au K (K.nl.take j))++[(-1,K.op f,(K.ct f).ws)]:=(by rw[List.take_add_one,I];simp[au]);gi_wp2_with (first|(gi_at_call 161;refine(L _).mono ?_;rintro e w2 ⟨y,a,c,rfl,n⟩;have q:Aa No w2 (w2.alloc (.cells #[b_ (-1),b_ (K.op f:Nat),.slice a (K.ct f).ws.length c] 147)):=(Aa.refl _ _).alloc _;have r:=J9 (J9 u y) q;have KC:Aa No w (w2.alloc (.cells #[b_ (-1),b_ (K.op f:Nat),.slice a (K.ct f).ws.length c] 147)):=(B.then y).then q)|(gi_at_builtin;refine wpListIn_append_own _ rfl (.tmp 34) (.tmp 37) 144 rfl w.heap.size 147 V (.agg #[b_ 0,b_ 0,.slice none 0 0]) 3 40 underlying144 C F G H rfl sN _ (SK K 16++au K (K.nl.take j)).length xs rfl r (R_ w2.heap.size) 1 1 [b_ (-1),b_ (K.op f:Nat),.slice a (K.ct f).ws.length c] rfl rfl (WU (Yw rfl)) (by simp[Value.oneCell']) (by unfold maxLen;omega) wB KC.size ?_;intro W w4 d p _;have J:Aa No w w4:=KC.trans (Ef p λk l _=>l) (λx Z e=>qx (r.lt x e).1 wB);have z:=((b.no y).no q).keep (Ef p λk l _=>l) (XX r);have A:=((n.mono B.size).no q).keep (Ef p λk l _=>l) (XX r);clear p n));go_roundw
      case rel=>exact⟨W,_,b_ ((j:Int)+1),_,_,_,_,_,_,_,_,_,⟨j+1,wB,sJ,J,_,by rw[e2,g_];exact d,by rw[e2];exact z.snoc (x:=-1) (o:=K.op f) (a:=a) (c:=c) A⟩,rfl⟩
      case measure=>simp[intOf];omega
     .obtain rfl:j=K.nl.length:=wB;gi_wp2;go_ret;exact⟨B,_,rfl,xs,by simpa using u,by simpa using b⟩
theorem Κ (K:KS)(h:AY K w)(d:K.nl.length<=1000):O_ m 63 #[Q_ K.kb] w λe w'=>Aa No w w'/\∃v,e=.returned v/\dX w' w.heap.size v (SK K 16++au K K.nl):=by
 have c:=λm=>bh3 m w K h d
 gi_enter func63,ntmps63;gi_wp2_with (gi_at_call 107;refine(c _).mono ?_;rintro e w1 ⟨a,v,rfl,b⟩);go_ret;exact⟨a,v,sJ,b⟩
end
end Go.Fxa
