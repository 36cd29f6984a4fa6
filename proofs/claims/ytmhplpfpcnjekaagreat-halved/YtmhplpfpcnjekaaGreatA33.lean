/- Lists of numbers -/
import Derived.Test.YtmhplpfpcnjekaaGreatA19
import Derived.Sort.CutIn
namespace Go.Fxa
open Conc Proofs RowKit Proofs.Tryz
set_option maxRecDepth 1000000
set_option maxHeartbeats 0
variable {T:j_}{k:IntKind}{w w':o_}{b n nf:Nat}{f:Nat->Int}{S:Nat->Prop}{v:n_}{ff:Nat->n_×Nat×(Nat->Int)}
def FO (T:j_)(k:IntKind)(w:o_)(b n:Nat)(f:Nat->Int):Prop:=∃cs,w.heap[b]?=some (N_ cs T)/\cs.size=n/\∀i,i<n->cs[i]?=some (.int k (f i))
theorem FO.row (h:FO T k w b n f):Row k w b n f:=let ⟨cs,h1,h2,h3⟩:=h;⟨cs,T,h1,h2,h3⟩
theorem FO.keep (h:FO T k w b n f)(a:Aa S w w')(c:¬S b):FO T k w' b n f:=let ⟨cs,h1,h2,h3⟩:=h;⟨cs,a.old h1 c,h2,h3⟩
theorem FO.cell (h:FO T k w b n f){i:Nat}(hi:i<n):w.cell? (S_ b i)=some (.int k (f i)):=h.row.cell hi
def Words (n:Nat)(f:Nat->Int):Prop:=∀i,i<n->0<=f i/\f i<=65535
def lX (n:Nat)(f:Nat->Int)(e:Ending):Prop:=∃r:Bool,e=.returned (.bool r)/\(r=true ↔ Words n f)
theorem lX.yes (h:Words n f):lX n f (.returned (.bool true)):=⟨true,rfl,by simpa using h⟩
theorem lX.no (h:¬Words n f):lX n f (.returned (.bool false)):=⟨false,rfl,by simpa using h⟩
section
variable (m:Nat)(w:o_)
theorem FO.set {w:o_}(h:FO T k w b n f)(i:Nat)(x:Int):FO T k (w.setCell (S_ b i) (.int k x)) b n (upd f i x):=by
 obtain⟨l,d,a,g⟩:=h;refine⟨_,Ap d _,by simpa using a,λj c=>?_⟩;rw[Array.getElem?_setIfInBounds];by_cases e:i=j
 .subst e;simp[upd,a,c]
 .rw[ru e,g j c];simp[upd,gJ e]
theorem FO.ext {w:o_}{g:Nat->Int}(h:FO T k w b n f)(e:∀i,i<n->f i=g i):FO T k w b n g:=by
 obtain⟨a,c,d,j⟩:=h;exact⟨a,c,d,λi hi=>by rw[j i hi,e i hi]⟩
theorem FO.fz {w:o_}(h:FO T k w b n f)(i:Nat):w.frozen? (S_ b i)=false:=h.row.fz i
theorem Y8 (n:Nat):FO 3 .i64 (w.alloc (.cells (madeCells #[b_ 0] n) 3)) w.heap.size n (λ_=>0):=by
 refine⟨madeCells #[b_ 0] n,Yw rfl,by simp[madeCells],λi hi=>?_⟩;simp[madeCells,hi,Nat.mod_one]
theorem Aa.bn8 {a w:o_}(h:Aa S a w){g:Nat}(cs:X_)(d:g<a.heap.size->S g):Aa S a (w.setRow g cs):=
 ⟨h.os,h.output,by rw[setRow_size];exact h.size,λk b c=>(setRow_other w g k cs (λe=>c (e ▸ d (e ▸ b)))).trans (h.block k b c)⟩
theorem Ur (n:Nat):FO 123 .u16 (w.alloc (.cells (madeCells #[a_ 0] n) 123)) w.heap.size n (λ_=>0):=by
 refine⟨madeCells #[a_ 0] n,Yw rfl,by simp[madeCells],λi hi=>?_⟩;simp[madeCells,hi,Nat.mod_one]
theorem jR (ib L:Nat)(Af:Nat->Nat)(c:Nat)(h:∀i,i<L->w.cell? (S_ ib i)=some (a_ (Af i)))(u:∀i,i<L->Af i<65536)(hL:L<=128):O_ m 101 #[P_ ib L c] w λe w'=>Aa No w w'/\e=.returned (P_ w.heap.size L L)/\FO 3 .i64 w' w.heap.size L (λi=>Af i):=by
 obtain⟨s,hi,l,n,o⟩:=info_parts Yu;have a:=run_make (P:=prog) w 22 3 s (b_ 0) underlying22 hi l .i64 .i64 L L wB wB (by rw[o];omega) wB;rw[n]at a;simp only[Int.toNat_natCast,Nat.mul_one,Value.cells]at a;have r0:=Y8 w L;have p:Aa No w (w.alloc (.cells (madeCells #[b_ 0] L) 3)):=(Aa.refl _ _).alloc _;generalize w.alloc (.cells (madeCells #[b_ 0] L) 3)=w1 at*;gi_enter func101,ntmps101;gi_wp2;gi_loopw [11] (λi wr=>∃k:Nat,k<=L/\i=b_ k/\Aa No w wr/\FO 3 .i64 wr w.heap.size L (λi=>if i<k then(Af i:Int)else 0)) (λi _=>L-(intOf i).toNat)
 case atStart=>exact⟨0,wB,rfl,p,r0.ext (λi _=>sJ)⟩
 case round=>
  obtain⟨k,t,rfl,KK,b⟩:=hrel
  by_cases g:k<L
  .have q:=u k g;have d:=KK.has (h k g);have e:=b.cell g;have f:=b.fz k;gi_wp2;go_roundw
   case rel=>
    refine⟨k+1,wB,by go_num,KK.setCell _ (λr=>qx r (Nat.lt_irrefl _)),(b.set k (Af k)).ext (λi hi=>?_)⟩
    show(if i=k then(Af k:Int)else if i<k then(Af i:Int)else 0)=if i<k+1 then(Af i:Int)else 0
    by_cases j:i=k
    .subst j;rw[rW rfl,rW wB]
    .by_cases c2:i<k
     .rw[ru j,rW c2,rW wB]
     .rw[ru j,ru c2,ru wB]
   case measure=>simp[intOf];omega
  .obtain rfl:k=L:=wB;gi_wp2;go_ret;exact⟨KK,sJ,b.ext (λi hi=>by simp[hi])⟩
theorem vO:O_ m 101 #[.slice none 0 0] w λe w'=>Aa No w w'/\e=.returned (P_ w.heap.size 0 0):=by
 obtain⟨g,hi,b,c,d⟩:=info_parts Yu;have a:=run_make (P:=prog) w 22 3 g (b_ 0) underlying22 hi b .i64 .i64 0 0 wB wB (by rw[d];omega) wB;rw[c]at a;have a:(Instr.makeSlice 22 (b_ 0) (b_ 0)).run prog w=.ok (P_ w.heap.size 0 0) (w.alloc (.cells (madeCells #[b_ 0] 0) 3)):=a;have f:Aa No w (w.alloc (.cells (madeCells #[b_ 0] 0) 3)):=(Aa.refl _ _).alloc _;gi_enter func101,ntmps101;gi_wp2;refine wpIn_loop_once ?_;gi_wp2;go_ret;exact⟨f,sJ⟩
theorem VB (v:n_)(n:Nat)(f:Nat->Int)(h:SlI w v n f):O_ m 87 #[v] w λe w'=>lX n f e/\w'=w:=by
 obtain⟨y,s,c,rfl,l⟩:=h;by_cases p:n=0
 .subst p;gi_enter func87,ntmps87;gi_wp2;refine wpIn_loop_once ?_;gi_wp2;go_ret;exact⟨lX.yes (λi hi=>qx hi wB),rfl⟩
 .obtain⟨b,o,rfl,q⟩:=l wB;clear l;gi_enter func87,ntmps87;gi_wp2;gi_loopw [7] (λi wr=>wr=w/\∃k:Nat,k<=n/\i=b_ k/\Words k f) (λi _=>n-(intOf i).toNat)
  case atStart=>exact⟨rfl,0,Nat.zero_le _,rfl,λi hi=>qx hi wB⟩
  case round=>
   obtain⟨r,k,x,rfl,j⟩:=hrel
   subst r
   by_cases d:k<n
   .have u:=q k d;have a:wrap64 (IntKind.u16.wrap (f k))=f k % 65536:=(by rw[wrap_u16];unfold wrap64;omega);by_cases g:f k % 65536=f k
    .have hb:(f k !=wrap64 (IntKind.u16.wrap (f k)))=false:=(by rw[a,g];simp);gi_wp2;go_roundw
     case rel=>
      refine⟨dE,k+1,wB,by go_num,λi hi=>?_⟩
      by_cases e:i=k
      .subst e;omega
      .exact j i wB
     case measure=>simp[intOf];omega
    .have hb:(f k !=wrap64 (IntKind.u16.wrap (f k)))=true:=by rw[a];simp only[bne_iff_ne,ne_eq];exact λe=>g e.symm
     gi_wp2;go_ret;exact⟨lX.no (λt=>by have:=t k d;omega),rfl⟩
   .obtain rfl:k=n:=wB;gi_wp2;go_ret;exact⟨lX.yes j,rfl⟩
theorem aZ (b o L c:Nat)(Af:Nat->Nat)(y:∀i,i<L->w.cell? (S_ b (o+i))=some (b_ (Af i)))(z:∀i,i<L->Af i<65536)(x:1<=L)(hL:L<=128):O_ m 45 #[.slice (some (S_ b o)) L c] w λe w'=>Aa No w w'/\e=.returned (P_ w.heap.size L L)/\FO 123 .u16 w' w.heap.size L (λi=>Af i):=by
 obtain⟨u,hi,l,n,p⟩:=info_parts UX;have a:=run_make (P:=prog) w 116 123 u (a_ 0) underlying116 hi l .i64 .i64 L L wB wB (by rw[p];omega) wB;rw[n]at a;simp only[Int.toNat_natCast,Nat.mul_one,Value.cells]at a;have r0:=Ur w L;have q:Aa No w (w.alloc (.cells (madeCells #[a_ 0] L) 123)):=(Aa.refl _ _).alloc _;generalize w.alloc (.cells (madeCells #[a_ 0] L) 123)=w1 at*;gi_enter func45,ntmps45;gi_wp2;gi_loopw [11] (λi wr=>∃k:Nat,k<=L/\i=b_ k/\Aa No w wr/\FO 123 .u16 wr w.heap.size L (λi=>if i<k then(Af i:Int)else 0)) (λi _=>L-(intOf i).toNat)
 case atStart=>exact⟨0,wB,rfl,q,r0.ext (λi _=>sJ)⟩
 case round=>
  obtain⟨k,v,rfl,KK,g⟩:=hrel
  by_cases h:k<L
  .have r:=z k h;have s:(Af k:Int) % 65536=Af k:=wB;have d:=KK.has (y k h);have e:=g.cell h;have f:=g.fz k;gi_wp2;go_roundw
   case rel=>
    refine⟨k+1,wB,by go_num,KK.setCell _ (λt=>qx t (Nat.lt_irrefl _)),(g.set k (Af k)).ext (λi hi=>?_)⟩
    show(if i=k then(Af k:Int)else if i<k then(Af i:Int)else 0)=if i<k+1 then(Af i:Int)else 0
    by_cases j:i=k
    .subst j;rw[rW rfl,rW wB]
    .by_cases c2:i<k
     .rw[ru j,rW c2,rW wB]
     .rw[ru j,ru c2,ru wB]
   case measure=>simp[intOf];omega
  .obtain rfl:k=L:=wB;gi_wp2;go_ret;exact⟨KK,sJ,g.ext (λi hi=>by simp[hi])⟩
theorem oZ (s:d_ f_)(c:Nat):O_ m 45 #[.slice s 0 c] w λe w'=>Aa No w w'/\e=.returned (P_ w.heap.size 0 0)/\FO 123 .u16 w' w.heap.size 0 (λ_=>0):=by
 obtain⟨h,hi,b,d,f⟩:=info_parts UX;have a:=run_make (P:=prog) w 116 123 h (a_ 0) underlying116 hi b .i64 .i64 0 0 wB wB (by rw[f];omega) wB;rw[d]at a;have a:(Instr.makeSlice 116 (b_ 0) (b_ 0)).run prog w=.ok (P_ w.heap.size 0 0) (w.alloc (.cells (madeCells #[a_ 0] 0) 123)):=a;have r0:=Ur w 0;have g:Aa No w (w.alloc (.cells (madeCells #[a_ 0] 0) 123)):=(Aa.refl _ _).alloc _;gi_enter func45,ntmps45;gi_wp2;refine wpIn_loop_once ?_;gi_wp2;go_ret;exact⟨g,sJ,r0⟩
def PY (n:Nat)(Af:Nat->Nat)(i:Nat):Nat:=if i<n then Af i else 0
theorem bT (D n E C:Nat)(Af:Nat->Nat)(h:FO 123 .u16 w D n (λi=>Af i))(G:8*E=C)(F:n<=C)(hb:C<=128):O_ m 47 #[P_ D n n,b_ E] w λe w'=>Aa No w w'/\e=.returned (P_ w.heap.size C C)/\FO 123 .u16 w' w.heap.size C (λi=>PY n Af i):=by
 obtain⟨y,hi,q,k,r⟩:=info_parts UX;have d:=run_make (P:=prog) w 116 123 y (a_ 0) underlying116 hi q .i64 .i64 C C wB wB (by rw[r];omega) wB;rw[k]at d;simp only[Int.toNat_natCast,Nat.mul_one,Value.cells]at d;have r0:=Ur w C;have s:Aa No w (w.alloc (.cells (madeCells #[a_ 0] C) 123)):=(Aa.refl _ _).alloc _;generalize w.alloc (.cells (madeCells #[a_ 0] C) 123)=w1 at*;have u:=h.keep s id;have A:(E:Int)*8=C:=wB
 obtain⟨a,q1,B,z⟩:=r0;have f:∀j v,((List.range n).map λi=>Value.int .u16 (Af i))[j]?=some v->w1.cell? (((R_ D):f_).add j)=some v:=λj v p=>by
  have c:j<n:=by
   obtain h|h:=Nat.lt_or_ge j n
   .exact h
   .rw[List.getElem?_eq_none (by simpa using h)]at p;cases p
  rw[Addr.add_lit,Nat.zero_add,u.cell c,<-p];simp[c]
 have l:=run_copy_row (P:=prog) w1 116 116 3 123 w.heap.size 0 C C (R_ D) n n a 123 ((List.range n).map λi=>Value.int .u16 (Af i)) underlying116 (by simp[hi,k]) q1 (by simp;exact(Nat.min_eq_left F).symm) f (by simp;omega) (by simp[Value.oneCell']);have o:=setRow_heap w1 w.heap.size a (a.toList.take 0++((List.range n).map λi=>Value.int .u16 (Af i))++a.toList.drop (0+((List.range n).map λi=>Value.int .u16 (Af i)).length)).toArray 123 (0,0) q1;have t:=s.bn8 (g:=w.heap.size) (a.toList.take 0++((List.range n).map λi=>Value.int .u16 (Af i))++a.toList.drop (0+((List.range n).map λi=>Value.int .u16 (Af i)).length)).toArray (λx=>qx x (Nat.lt_irrefl _));generalize w1.setRow w.heap.size _=w2 at*;gi_enter func47,ntmps47;gi_wp2_with (refine PK rfl (.tmp 9) (.tmp 10) _ rfl rfl rfl l ?_);go_ret;refine⟨t,sJ,_,o,by simp;omega,λi hi=>?_⟩;by_cases b:i<n
 .simp[PY,b,List.getElem?_append_left]
 .have:=z i hi;rw[<-Array.getElem?_toList]at this;simp[PY,b,List.getElem?_append_right (show((List.range n).map λi=>Value.int .u16 (Af i)).length<=i by simp;omega)];rw[show n+(i-n)=i by omega];simpa using this
theorem xE (N:Nat)(c:1<=N):O_ m 42 #[b_ N] w λe w'=>Aa No w w'/\∃cb,w.heap.size<=cb/\e=.returned (.agg #[P_ cb 1 1])/\w'.heap[cb]?=some (N_ #[b_ 0,b_ N] 186):=by
 gi_enter func42,ntmps42;gi_wp2;have a:((w.alloc (.cells #[P_ (w.heap.size+1) 1 1] 92)).alloc (.cells #[b_ 0,b_ N] 186)).cell? (R_ w.heap.size)=some (P_ (w.heap.size+1) 1 1):=by
  rw[Ai ((heap_alloc_old sJ).trans (Yw rfl))];rfl
 refine bodyPost_ret (v:=.agg #[P_ (w.heap.size+1) 1 1]) (by simp[results,results42,go_sem,a]) rfl ?_;exact⟨((Aa.refl No w).alloc _).alloc _,w.heap.size+1,wB,rfl,Yw sJ⟩
theorem xB (N:Nat)(c:1<=N):O_ m 43 #[b_ N] w λe w'=>Aa No w w'/\∃cb,w.heap.size<=cb/\e=.returned (.agg #[P_ cb 1 1])/\w'.heap[cb]?=some (N_ #[b_ 0,b_ N] 188):=by
 gi_enter func43,ntmps43;gi_wp2;have a:((w.alloc (.cells #[P_ (w.heap.size+1) 1 1] 97)).alloc (.cells #[b_ 0,b_ N] 188)).cell? (R_ w.heap.size)=some (P_ (w.heap.size+1) 1 1):=by
  rw[Ai ((heap_alloc_old sJ).trans (Yw rfl))];rfl
 refine bodyPost_ret (v:=.agg #[P_ (w.heap.size+1) 1 1]) (by simp[results,results43,go_sem,a]) rfl ?_;exact⟨((Aa.refl No w).alloc _).alloc _,w.heap.size+1,wB,rfl,Yw sJ⟩
theorem Ϲ:O_ m 90 #[.int .u64 1,.int .u64 6] w λe w'=>e=.returned (.tuple #[.int .u64 0,.int .u64 6])/\w'=w:=by
 gi_enter func90,ntmps90;gi_wp2;refine bodyPost_ret (v:=.tuple #[.int .u64 0,.int .u64 6]) sU rfl ?_;exact⟨rfl,rfl⟩
end
def pre6 (k:Nat)(i:Nat):Int:=if i<k then -1 else 0
theorem nK {W:o_}{fb k c d cap sb so:Nat}(h:FO 3 .i64 W fb 6 (pre6 k))(B:k<=6)(A:6-k=d)(y:Nat.min n d=c)(z:∀j,j<c->W.cell? (S_ sb (so+j))=some (b_ (-1))):∃x,(Builtin.copy_ #[22,22] 3 #[.slice (some (S_ fb k)) d d,.slice (some (S_ sb so)) n cap]).run prog W=.ok (b_ c) x/\Aa (At fb) W x/\FO 3 .i64 x fb 6 (pre6 (k+c)):=by
 obtain⟨t,hi,p,m,r⟩:=info_parts Yu;obtain⟨f,q1,u,s⟩:=id h;have o:c<=d:=by rw[<-y];exact Nat.min_le_right _ _
 have b:∀j v,(List.replicate c (Value.int .i64 (-1)))[j]?=some v->W.cell? (((S_ sb so):f_).add j)=some v:=λj v l=>by
  have a:j<c:=by
   obtain h|h:=Nat.lt_or_ge j c
   .exact h
   .rw[List.getElem?_eq_none (by simpa using h)]at l;cases l
  rw[Addr.add_lit,z j a,<-l,List.getElem?_replicate_of_lt a]
 have g:=run_copy_row (P:=prog) W 22 22 3 3 fb k d d (S_ sb so) n cap f 3 (List.replicate c (Value.int .i64 (-1))) underlying22 (by simp[hi,m]) q1 (by simp[y]) b (by simp;omega) (by simp[Value.oneCell']);refine⟨_,by simpa [goInt]using g,(Aa.refl _ W).bn8 _ (λ_=>rfl),_,setRow_heap W fb f _ 3 (0,0) q1,by simp;omega,λi hi=>?_⟩;have q:=s i hi;rw[<-Array.getElem?_toList]at q;simp only[List.getElem?_toArray,pre6];by_cases e:i<k
 .rw[List.getElem?_append_left (by simp;omega),List.getElem?_take_of_lt e,q];have c2:i<k+c:=wB
  simp[pre6,e,c2]
 .by_cases c2:i<k+c
  .rw[List.getElem?_append_right (by simp;omega),List.getElem?_append_left (by simp;omega),List.getElem?_replicate_of_lt (by simp;omega)];simp[c2]
  .rw[List.getElem?_append_right (by simp;omega),List.getElem?_append_right (by simp;omega),List.getElem?_drop];rw[show k+c+(i-(List.take k f.toList).length-(List.replicate c (Value.int .i64 (-1))).length)=i by simp;omega,q];simp[pre6,e,c2]
section
variable (m:Nat)(w:o_)
def co9 (g k c:Nat)(v:n_)(W:o_):Prop:=v=b_ c/\FO 3 .i64 W g 6 (pre6 (k+c))
theorem kE (U:Nat)(V:w.heap[U]?=some (N_ #[b_ (-1)] 3)):O_ m 49 #[P_ U 1 1,b_ 6] w λe w'=>Aa No w w'/\e=.returned (P_ w.heap.size 6 6)/\FO 3 .i64 w' w.heap.size 6 (λ_=>-1):=by
 obtain⟨M,hi,r,s,t⟩:=info_parts Yu;have b:=run_make (P:=prog) w 22 3 M (b_ 0) underlying22 hi r .i64 .i64 6 6 wB wB (by rw[t];omega) wB;rw[s]at b;have b:(Instr.makeSlice 22 (b_ 6) (b_ 6)).run prog w=.ok (P_ w.heap.size 6 6) (w.alloc (.cells (madeCells #[b_ 0] 6) 3)):=b;have r0:=(Y8 w 6).ext (g:=pre6 0) (λi _=>by simp[pre6]);have v:Aa No w (w.alloc (.cells (madeCells #[b_ 0] 6) 3)):=(Aa.refl _ _).alloc _;have p:=v.old V id;have o:∀j,j<1->(w.alloc (.cells (madeCells #[b_ 0] 6) 3)).cell? (S_ U (0+j))=some (b_ (-1)):=λj C=>by
  obtain rfl:j=0:=wB
  rw[Ai p];rfl
 obtain⟨w2,a,G,N⟩:=nK (c:=1) (d:=6) (n:=1) (cap:=1) (sb:=U) (so:=0) r0 wB rfl rfl o;have K02:Aa No w w2:=v.trans G (λk D e=>qx (show k=w.heap.size from e) wB);gi_enter func49,ntmps49;gi_wp2_with (first|(gi_at_call 90;refine(Ϲ _ w).mono ?_;rintro e w2 ⟨rfl,q⟩;have q:=q.symm;subst q)|(refine PK rfl (.tmp 31) (.tmp 32) _ rfl rfl rfl a ?_));gi_loopw [8] (λi wr=>∃k:Nat,(k=1\/k=2\/k=4\/k=6)/\i=b_ k/\Aa No w wr/\FO 3 .i64 wr w.heap.size 6 (pre6 k)) (λi _=>6-(intOf i).toNat)
 case atStart=>exact⟨1,.inl rfl,rfl,K02,N⟩
 case round=>
  obtain⟨k,D,rfl,KK,F⟩:=hrel
  by_cases z:k=6
  .subst z;gi_wp2;go_ret;exact⟨KK,sJ,F.ext (λi hi=>by simp[pre6,hi])⟩
  obtain⟨d,c,L,K,B,A⟩:∃d c,(k+c=2\/k+c=4\/k+c=6)/\1<=c/\6-k=d/\Nat.min k d=c:=by
   obtain rfl|rfl|rfl|rfl:=D
   .exact⟨5,1,wB,wB,rfl,rfl⟩
   .exact⟨4,2,wB,wB,rfl,rfl⟩
   .exact⟨2,2,wB,wB,rfl,rfl⟩
   .exact qx rfl z
  have O:k<6:=wB
  have H:d=6-k:=B.symm;have E:(k:Int)<6:=wB
  have f:FO 3 .i64 wr.drew w.heap.size 6 (pre6 k):=F;obtain⟨R,a,KC,rC⟩:=nK (c:=c) (d:=d) (n:=k) (cap:=6) (sb:=w.heap.size) (so:=0) f wB B A (λj C=>by
   have l:j<k:=Nat.lt_of_lt_of_le C (by rw[<-A];exact Nat.min_le_left _ _)
   rw[Nat.zero_add,f.cell wB]
   simp[pre6,l]);gi_wp2;refine Dx (P:=prog) _ rfl rfl sU 8 48 [0,1,2,3,4,5,6] [7] sU (by rfl)
   (Oi (Go.Fxa.At w.heap.size) wr.drew 7 (co9 w.heap.size k c) []) (Gj sJ sJ) _ _ rfl rfl ?_;subst H;gi_wp2;refine⟨rfl,sU,Et,?_,?_,?_⟩
  .intro y u W hI
   repeat' (refine AA ?_ ?_)
   all_goals first|exact dE|gi_wp2
  .intro i hi y u W hI h S;obtain rfl:i=7:=(by simpa using hi);obtain rfl:=hI.2.1 h;refine BI rfl λKK Q=>?_
   show wpListIn NF m prog _ _ _ (Act.put _ (some 45) (u 7)) _;gi_wp2_with (refine PK rfl (.tmp 41) (.tmp 44) _ rfl rfl rfl a ?_);exact⟨_,rfl,Gl hI sJ KC ⟨rfl,rC⟩⟩
  .intro y u W hI hL;obtain⟨I,J⟩:=hI.2.2.1 (hL 7 sJ);show wpListIn NF m prog _ _ _ (Act.put _ (some 45) (u 7)) _;rw[I];gi_wp2;go_roundw
   case rel=>exact⟨k+c,wB,by rw[Int.natCast_add],(KK.drew.trans hI.1 (λx T e=>qx (show x=w.heap.size from e) wB)),J⟩
   case measure=>simp[intOf];omega
end
def aJ (w:o_)(v:n_)(n:Nat)(f:Nat->Int):Prop:=(∃s c,v=.slice s n c)/\(n<=128->SlI w v n f)
theorem aJ.kp (h:aJ w v n f)(c:Aa No w w'):aJ w' v n f:=⟨h.1,λa=>(h.2 a).keep c⟩
def Pg (w:o_)(v:n_)(nf:Nat)(ff:Nat->n_×Nat×(Nat->Int)):Prop:=∃s c,v=.slice s nf c/\(0<nf->∃b o,s=some (S_ b o)/\∀i,i<nf->w.cell? (S_ b (o+i))=some (ff i).1/\aJ w (ff i).1 (ff i).2.1 (ff i).2.2)
theorem Pg.kp (h:Pg w v nf ff)(d:Aa No w w'):Pg w' v nf ff:=let ⟨s,c,e,h2⟩:=h;⟨s,c,e,λa=>let ⟨b,o,e',h3⟩:=h2 a;⟨b,o,e',λi hi=>⟨d.has (h3 i hi).1,(h3 i hi).2.kp d⟩⟩⟩
def zy (ff:Nat->n_×Nat×(Nat->Int))(k:Nat):Prop:=∀i,i<k->(ff i).2.1<=64/\Words (ff i).2.1 (ff i).2.2
def aU (L:Nat->Nat)(k:Nat):Nat:=IX (λi=>Aj (L i)) k
def JF (nf:Nat)(ff:Nat->n_×Nat×(Nat->Int)):Prop:=nf<=16/\zy ff nf/\aU (λi=>(ff i).2.1) nf<=40
theorem JF.zero:JF 0 ff:=⟨wB,λi hi=>qx hi wB,Nat.zero_le _⟩
def Ϙ (nf:Nat)(ff:Nat->n_×Nat×(Nat->Int))(e:Ending):Prop:=∃r:Bool,e=.returned (.bool r)/\(r=true->nf<=16/\zy ff nf/\aU (λi=>(ff i).2.1) nf<=40)/\(JF nf ff->r=true)
theorem Ϙ.no (h:¬JF nf ff):Ϙ nf ff (.returned (.bool false)):=⟨false,rfl,(λh=>by cases h),λe=>qx e h⟩
def UL (core swap:Int)(n:Nat)(f:Nat->Int):Prop:=(16<=core/\core<=64/\1<=swap/\swap<=256)/\(1<=n/\n<=128/\Words n f)/\(Aj n:Int)<=swap
def Yo (core swap:Int)(n:Nat)(f:Nat->Int)(nf:Nat)(ff:Nat->n_×Nat×(Nat->Int))(e:Ending):Prop:=∃r:Bool,e=.returned (.bool r)/\(r=true->UL core swap n f/\nf<=16/\zy ff nf/\aU (λi=>(ff i).2.1) nf<=40)/\(JF nf ff->UL core swap n f->r=true)
theorem Yo.no {core swap:Int}(h:¬UL core swap n f):Yo core swap n f nf ff (.returned (.bool false)):=⟨false,rfl,(λh=>by cases h),λ_ e=>qx e h⟩
theorem xG (h:n<=64):Aj n<=8:=by unfold Aj;omega
section
variable (m:Nat)(w:o_)
theorem fQ {F:Fence}{P:l_}{ops:Array Oper}{Q:Exit->Act->o_->Prop}{a:Act}{w:o_}{rest:List Oper}{o:Oper}(e:Region.wanted o (yielded ops a.tmps)=false)(c:o.about P w a.eval=none)(d:a.put o.dst undef=a)(h:wpListIn F n P ops Q rest a w):wpListIn F n P ops Q (o::rest) a w:=
 wpListIn_skip e c (by rw[d];exact h)
theorem xH (v:n_)(nf:Nat)(ff:Nat->n_×Nat×(Nat->Int))(h:Pg w v nf ff):O_ m 88 #[v] w λe w'=>Aa No w w'/\Ϙ nf ff e:=by
 obtain⟨s,c,rfl,y⟩:=h;by_cases B:nf=0
 .subst B;gi_enter func88,ntmps88;gi_wp2;refine wpIn_loop_once ?_;gi_wp2;go_ret;exact⟨Aa.refl _ _,true,sJ,λ_=>⟨wB,λi hi=>qx hi wB,Nat.zero_le _⟩,λ_=>rfl⟩
 by_cases C:(16:Int)<nf
 .gi_enter func88,ntmps88;gi_wp2;go_ret;exact⟨Aa.refl _ _,Ϙ.no λh=>by have:=h.1;omega⟩
 obtain⟨b,o,rfl,G⟩:=y wB;clear y;gi_enter func88,ntmps88;gi_wp2;gi_loopw [3,11] (λa i wr=>∃(k:Nat) (x:Int),k<=nf/\a=b_ x/\0<=x/\x<=8*k/\i=b_ k/\Aa No w wr/\zy ff k/\Nonempty (PLift (x=(aU (λi=>(ff i).2.1) k:Nat)))) (λ_ i _=>nf-(intOf i).toNat)
 case atStart=>exact⟨0,0,wB,rfl,wB,wB,rfl,Aa.refl _ _,λi hi=>qx hi wB,⟨⟨rfl⟩⟩⟩
 case round=>
  obtain⟨k,x,K,rfl,H,I,rfl,KK,u,hX⟩:=hrel
  by_cases j:k<nf
  .obtain⟨t,⟨L,J,z⟩,hI⟩:=G k j;generalize hq:ff k=q at*;obtain⟨M,d,l⟩:=q;simp only at t z hI;subst z;have d1:=KK.has t;by_cases D:(64:Int)<d
   .gi_wp2_with (refine fQ rfl rfl rfl ?_);go_ret;exact⟨KK,Ϙ.no λh=>by have:=(h.2.1 k j).1;rw[hq]at this;simp only at this;omega⟩
   .have E:=(hI wB).keep KK;gi_wp2_with (gi_at_call 87;refine(VB _ _ _ d l E).mono ?_;rintro e w1 ⟨⟨r,rfl,g⟩,f⟩;have f:=f.symm;subst f;cases r<;>first|(have p:Words d l:=g.1 rfl;clear g)|(have p:Yp (¬Words d l):=(λh=>by have:=g.2 h;cases this);clear g))
    .go_ret;exact⟨KK,Ϙ.no λh=>p.out (by have:=(h.2.1 k j).2;rw[hq]at this;exact this)⟩
    .have F:=xG (n:=d) wB;gi_wp2_with (gi_at_call 48;refine(Gm _ _ d wB).mono ?_;rintro e w1 ⟨rfl,f⟩;have f:=f.symm;subst f);go_roundw
     case rel=>
      have A:aU (λi=>(ff i).2.1) (k+1)=Aj d+aU (λi=>(ff i).2.1) k:=by simp only[aU,IX,hq]
      refine⟨k+1,x+Aj d,wB,by go_num,wB,wB,by go_num,KK,λi hi=>?_,⟨⟨by obtain⟨⟨hX⟩⟩:=hX;rw[A];omega⟩⟩⟩
      by_cases e:i=k
      .subst e;rw[hq];exact⟨by show d<=64;omega,p⟩
      .exact u i wB
     case measure=>simp[intOf];omega
  .obtain rfl:k=nf:=wB;gi_wp2;go_ret;refine⟨KK,_,rfl,λe=>⟨wB,u,?_⟩,λe=>?_⟩
   .obtain⟨⟨hX⟩⟩:=hX;simp at e;omega
   .obtain⟨⟨hX⟩⟩:=hX;have:=e.2.2;simp;omega
theorem bg9 (core swap:Int)(v M:n_)(n nf:Nat)(f:Nat->Int)(ff:Nat->n_×Nat×(Nat->Int))(h:aJ w v n f)(N:Pg w M nf ff):O_ m 41 #[.agg #[b_ core,b_ swap,v,M]] w λe w'=>Aa No w w'/\Yo core swap n f nf ff e:=by
 obtain⟨⟨s,c,rfl⟩,y⟩:=h;obtain⟨g,i,rfl⟩:∃s c,M=.slice s nf c:=let ⟨s,c,e,_⟩:=N;⟨s,c,e⟩
 have d:Aa No w (w.alloc (.cells #[b_ core,b_ swap,.slice s n c,.slice g nf i] 25)):=(Aa.refl _ _).alloc _;gi_enter func41,ntmps41;by_cases G:core<16
 .gi_wp2;go_ret;exact⟨d,Yo.no (λb=>by have:=b.1;omega)⟩
 by_cases H:64<core
 .gi_wp2;go_ret;exact⟨d,Yo.no (λb=>by have:=b.1;omega)⟩
 by_cases I:swap<1
 .gi_wp2;go_ret;exact⟨d,Yo.no (λb=>by have:=b.1;omega)⟩
 by_cases J:256<swap
 .gi_wp2;go_ret;exact⟨d,Yo.no (λb=>by have:=b.1;omega)⟩
 by_cases K:(n:Int)<1
 .gi_wp2;go_ret;exact⟨d,Yo.no (λb=>by have:=b.2.1;omega)⟩
 by_cases L:128<(n:Int)
 .gi_wp2;go_ret;exact⟨d,Yo.no (λb=>by have:=b.2.1;omega)⟩
 have C:=(y wB).keep d;have k:=N.kp d;clear y N;gi_wp2_with fail;refine(VB _ (w.alloc (.cells #[b_ core,b_ swap,.slice s n c,.slice g nf i] 25)) _ n f C).mono ?_;rintro e w1 ⟨⟨r,rfl,o⟩,q⟩;have q:=q.symm;subst q;cases r
 .gi_wp2;go_ret;exact⟨d,Yo.no (λb=>by have:=o.2 b.2.1.2.2;cases this)⟩
 have F:Words n f:=o.1 rfl;clear o;have t:(w.alloc (.cells #[b_ core,b_ swap,.slice s n c,.slice g nf i] 25)).heap[w.heap.size]?=some (N_ #[b_ core,b_ swap,.slice s n c,.slice g nf i] 25):=Yw rfl;have x:(w.alloc (.cells #[b_ core,b_ swap,.slice s n c,.slice g nf i] 25)).cell? (S_ w.heap.size 1)=some (b_ swap):=bce t rfl;have c3:(w.alloc (.cells #[b_ core,b_ swap,.slice s n c,.slice g nf i] 25)).cell? (S_ w.heap.size 3)=some (.slice g nf i):=bce t rfl;gi_wp2;generalize w.alloc (.cells #[b_ core,b_ swap,.slice s n c,.slice g nf i] 25)=w1 at*;refine Cc 4 47 ?_;gi_wp2_with (gi_at_call 48;refine(Gm _ w1.drew n wB).mono ?_;rintro e w2 ⟨rfl,a⟩;have a:=a.symm;subst a);refine Ee ?_ ?_
 .intro V D;have d1:=D.has (w:=w1.drew) x
  repeat' (refine AA ?_ ?_)
  all_goals first|exact dE|gi_wp2_with (gi_at_call 48;refine(Gm _ V n wB).mono ?_;rintro e w2 ⟨rfl,a⟩;have a:=a.symm;subst a)
 intro V j;have u:Aa No w V:=d.drew.then j;have d1:=j.has (w:=w1.drew) x;have d3:=j.has (w:=w1.drew) c3;have l:=(k.kp (w':=w1.drew) (Aa.refl No w1).drew).kp j;by_cases B:(Aj n:Int)<=swap
 .have E:UL core swap n f:=⟨⟨wB,wB,wB,wB⟩,⟨wB,wB,F⟩,B⟩;gi_wp2_with (gi_at_call 88;refine(xH _ V _ nf ff l).mono ?_;rintro e w2 ⟨A,r,rfl,z,p⟩);go_ret;exact⟨u.then A,r,sJ,λh=>⟨E,z h⟩,λh _=>p h⟩
 .gi_wp2_with (refine fQ rfl rfl rfl ?_);go_ret;exact⟨u,Yo.no (λb=>by have:=b.2.2;omega)⟩
end
theorem bi2:(prog.info? 119).map (λi=>(i.zero,i.size,i.bytes))=some (some (.pointer none),1,8):=sU
def lZ (ib L fb:Nat):X_:=#[b_ 0,b_ 0,.bool false,a_ 0,.nilFunc,a_ 0,a_ 0,a_ 0,P_ ib L L,P_ fb 6 6,b_ 0,b_ 0]
def EI (ib fb:Nat)(Af:List Nat):PR:=⟨1,0,0,0,0,0,0,false,-1,.nilFunc,P_ ib Af.length Af.length,P_ fb 6 6,Af,[-1,-1,-1,-1,-1,-1]⟩
def co8 (kb sb sc n M:Nat)(ks:X_)(v:n_)(W:o_):Prop:=v=.tuple #[b_ 0,.bool true]/\W.heap[kb]?=some (.cells (ks.setIfInBounds 1 (P_ sb (Aq [(0,M)] n).2.length sc)) 114 (0,0))/\Mp 188 W sb sc (Aq [(0,M)] n).2
theorem take_one {M:Nat}(a:1<=n)(h:n<=M):Aq [(0,M)] n=(some 0,if M=n then[]else[(n,M-n)]):=by
 unfold Aq;rw[ru wB];simp[h]
section
variable (m:Nat)(w:o_)
theorem cl5 (kb i:Nat)(o:X_)(a:d_ f_)(n c:Nat)(l:w.heap[kb]?=some (N_ o 114))(hi:i<16)(p:o[4+i]?=some (.pointer none)):
  O_ m 44 #[.pointer (some (S_ kb 4)),b_ (i:Nat),.slice a n c] w λe w'=>e=.returned (.tuple #[])/\Aa (At kb) w w'/\w'.heap[kb]?=some (.cells (o.setIfInBounds (4+i) (ptr w.heap.size)) 114 (0,0))/\w'.heap[w.heap.size]?=some (N_ #[.slice a n c,b_ 0] 191):=by
 have j:(i:Int)<16:=wB
 have f:Aa No w (w.alloc (.cells #[.slice a n c,b_ 0] 191)):=(Aa.refl _ _).alloc _;have b:=f.old l id;have h:=(Ai b (4+i)).trans p;have z1:=Cf b (4+i);have g:=Dt l;gi_enter func44,ntmps44;gi_wp2;go_end0;have d:Aa (At kb) w ((w.setCell (S_ kb (4+i)) (Q_ w.heap.size)).alloc (.cells #[.slice a n c,b_ 0] 191)):=Aa.alloc (Aa.O8 _) _;exact⟨sJ,d,((Aa.refl No _).alloc _).old (Ap l _) id,Yw sJ⟩
theorem by9 (kb pb sb sc M ib L fb:Nat)(ks:X_)(hp:w.heap[pb]?=some (N_ (lZ ib L fb) 128))(hk:w.heap[kb]?=some (N_ ks 114))(hs:ks[1]?=some (P_ sb 1 sc))(hs2:ks[2]?=some (.slice none 0 0))(hs3:ks[3]?=some (b_ 0))(hf:Mp 188 w sb sc [(0,M)])(hn:Aj L<=M)(hL:1<=L)(hL':L<=128)(hM:M<=500):
  O_ m 46 #[Q_ kb,Q_ pb] w λe w'=>e=.returned (.bool true)/\Aa (λb=>b=kb\/b=sb\/b=pb) w w'/\(∀Af:List Nat,Af.length=L->w'.heap[pb]?=some (EI ib fb Af).obj)/\∃g c,w.heap.size<=g/\w'.heap[kb]?=some (.cells (((ks.setIfInBounds 1 (P_ sb (Aq [(0,M)] (Aj L)).2.length sc)).setIfInBounds 3 (b_ 1)).setIfInBounds 2 (P_ g 1 c)) 114 (0,0))/\Mp 188 w' sb sc (Aq [(0,M)] (Aj L)).2/\Rw 119 1 w' g 1 c (Ce [pb]):=by
 have q8:w.cell? (S_ pb 8)=some (P_ ib L L):=bce hp rfl;have y:pb≠kb:=Cj hp hk sN;have hd:Hd 188 w kb 1 114 ks sb sc [(0,M)]:=⟨hk,hs,hf,sN⟩;have C:kb≠sb:=hd.apart;have hpc:pb≠sb:=by obtain⟨t,hc,_⟩:=hf.blk;exact Cj hp hc sN
 have n1:1<=Aj L:=by unfold Aj;omega
 have s:=take_one n1 hn;obtain⟨i9,hi9,E,F,G⟩:=info_parts bi2;gi_enter func46,ntmps46;gi_wp2;refine Dx (P:=prog) _ rfl rfl sU 10 49 [0,1,2,3,4] [5,6,7,8,9] sU (by rfl)
  (Oi (yQ kb sb) w.drew 5 (co8 kb sb sc (Aj L) M ks) [(6,.tuple #[b_ 0,.bool true]),(7,b_ 0),(8,.bool true),(9,b_ 0)]) (Gj sJ sJ) _ _ rfl rfl ?_;gi_wp2_with (gi_at_call 58;refine(Fe _ w.drew pb _ _ _ q8 wB).mono ?_;rintro e w1 ⟨rfl,rfl⟩);refine⟨rfl,sU,Et,?_,?_,?_⟩
 .intro L' u W hI;have d8:=(hI.1.cell (w:=w.drew) (p:=(S_ pb 8)) (Dt hp) (by rintro(h|h)<;>contradiction)).trans q8
  repeat' (refine AA ?_ ?_)
  all_goals first|exact dE|gi_wp2_with (gi_at_call 58;refine(Fe _ W pb _ _ _ d8 wB).mono ?_;rintro e w1 ⟨rfl,rfl⟩)
 .intro i hi L' u W hI Z N;obtain rfl|rfl|rfl|rfl|rfl:=(by simpa using hi:i=5\/i=6\/i=7\/i=8\/i=9)
  .obtain rfl:=hI.2.1 Z;refine BI rfl λKK Ol=>?_
   show wpListIn NF m prog _ _ _ (Act.put (Act.put (Act.put (Act.put (Act.put _ (some 13) (u 5)) (some 7) (u 6)) (some 14) (u 7)) (some 15) (u 8)) (some 5) (u 9)) _;gi_wp2_with fail;refine(takeC _ w.drew true 1 kb sb sc (Aj L) M 114 ks [(0,M)] (hd.keep (Aa.refl No w).drew id id) ⟨by simp;omega,λi r hr=>by match i,hr with|0,hr=>cases hr;simp⟩ wB (by unfold Aj;omega)).mono ?_;rintro e w1 ⟨rfl,Y,z,K⟩;rw[show UH (Aq [(0,M)] (Aj L)).1=.tuple #[b_ 0,.bool true] by rw[s];rfl];gi_wp2;exact⟨_,rfl,Gl hI sJ Y ⟨rfl,z,K⟩⟩
  .have J:=(hI.2.2.1 (N 5 sJ sN)).1;exact mg rfl rfl rfl ⟨_,rfl,FY hI sN J sJ⟩
  .have v:=hI.2.2.2 (6,.tuple #[b_ 0,.bool true]) sJ (N 6 sJ sN);exact Tj rfl rfl rfl v rfl ⟨_,rfl,Gs hI sN sJ⟩
  .have v:=hI.2.2.2 (6,.tuple #[b_ 0,.bool true]) sJ (N 6 sJ sN);exact Tj rfl rfl rfl v rfl ⟨_,rfl,Gs hI sN sJ⟩
  .have A:=hI.2.2.2 (7,b_ 0) sJ (N 7 sJ sN);exact mi rfl rfl rfl ⟨_,rfl,FY hI sN A sJ⟩
 .intro L' u W hI hL;obtain⟨J,z,K⟩:=hI.2.2.1 (hL 5 sJ);have R:=hI.2.2.2 (8,.bool true) sJ (hL 8 sJ);have S:=hI.2.2.2 (9,b_ 0) sJ (hL 9 sJ);have v:=hI.2.2.2 (6,.tuple #[b_ 0,.bool true]) sJ (hL 6 sJ);have A:=hI.2.2.2 (7,b_ 0) sJ (hL 7 sJ);simp only at v A R S;show wpListIn NF m prog _ _ _ (Act.put (Act.put (Act.put (Act.put (Act.put _ (some 13) (u 5)) (some 7) (u 6)) (some 14) (u 7)) (some 15) (u 8)) (some 5) (u 9)) _;rw[J,v,A,R,S];clear s;generalize hl9:(Aq [(0,M)] (Aj L)).2=l' at*;generalize hv':Value.slice (some (R_ sb)) l'.length sc=v' at*;have D:=hI.1.old (w:=w.drew) hp (by rintro(h|h)<;>contradiction);have KW:Aa (λb=>b=kb\/b=sb\/b=pb) w W:=(Aa.refl _ w).drew.trans hI.1 (by rintro k _ (h|h);exact .inl h;exact .inr (.inl h));have c3:W.cell? (S_ kb 3)=some (b_ 0):=(Ai z 3).trans ((BN sN).trans hs3);have f3:=Cf z 3;clear hI J v A R S hL;gi_upto_region 5 with fail;have V:=Ap (i:=3) z (b_ 1);have l:=(OI (p:=(S_ kb 3)) (b_ 1) y).trans D;have t3:=Rw.keep K (Aa.O8 (w:=W) (b:=kb) (o:=3) (b_ 1)) (λe=>C e.symm);have K3:=KW.setCell (p:=(S_ kb 3)) (b_ 1) (λ_=>.inl rfl);generalize W.setCell (S_ kb 3) (b_ 1)=f at*;clear c3 f3 z K D KW;have d3:f.cell? (S_ kb 3)=some (b_ 1):=(Ai V 3).trans (Rz ((BN sN).trans hs3));have p0:f.cell? (R_ pb)=some (b_ 0):=bce l rfl;have f0:=Cf l 0;have n:=Ap (i:=0) l (b_ 1);have p10:(f.setCell (R_ pb) (b_ 1)).cell? (S_ pb 10)=some (b_ 0):=bce n rfl;have T:=Cf n 10;have q:=Ap (i:=10) n (b_ 0);have p11:((f.setCell (R_ pb) (b_ 1)).setCell (S_ pb 10) (b_ 0)).cell? (S_ pb 11)=some (b_ 0):=bce q rfl;have U:=Cf q 11;have x:=Ap (i:=11) q (b_ (-1));gi_upto_region 6 with fail;have x:∀Af:List Nat,Af.length=L->(((f.setCell (R_ pb) (b_ 1)).setCell (S_ pb 10) (b_ 0)).setCell (S_ pb 11) (b_ (-1))).heap[pb]?=some (EI ib fb Af).obj:=λAf hl=>by
   rw[x]
   simp[EI,lZ,PR.obj,PR.arr,hl]
  have k1:Aa (Go.Fxa.At pb) f (f.setCell (R_ pb) (b_ 1)):=Aa.O8 _;have k2:Aa (Go.Fxa.At pb) (f.setCell (R_ pb) (b_ 1)) ((f.setCell (R_ pb) (b_ 1)).setCell (S_ pb 10) (b_ 0)):=Aa.O8 _;have k3:Aa (Go.Fxa.At pb) ((f.setCell (R_ pb) (b_ 1)).setCell (S_ pb 10) (b_ 0)) (((f.setCell (R_ pb) (b_ 1)).setCell (S_ pb 10) (b_ 0)).setCell (S_ pb 11) (b_ (-1))):=Aa.O8 _;have K36:=(k1.then k2).then k3;clear k1 k2 k3;generalize ((f.setCell (R_ pb) (b_ 1)).setCell (S_ pb 10) (b_ 0)).setCell (S_ pb 11) (b_ (-1))=d at*;have X:=K36.old V (λe=>y e.symm);have t6:=t3.keep K36 (λe=>hpc e.symm);have K6:Aa (λb=>b=kb\/b=sb\/b=pb) w d:=K3.trans K36 (λk _ e=>.inr (.inr e));clear d3 p0 f0 n p10 T q p11 U K36 t3 V l K3;have d2:d.cell? (S_ kb 2)=some (.slice none 0 0):=(Ai X 2).trans ((BN sN).trans ((BN sN).trans hs2));have O:Aa No d (d.alloc (.cells #[Q_ pb] 119)):=(Aa.refl No d).alloc _;have hcA:∀j u,([Q_ pb]:U_)[j]?=some u->(d.alloc (.cells #[Q_ pb] 119)).cell? (((R_ d.heap.size):f_).add j)=some u:=λj u hj=>by
   match j,hj with
   |0,hj=>
    have ea:((R_ d.heap.size):f_).add 0=(R_ d.heap.size):=by rw[Addr.add_lit,Nat.zero_add]
    rw[ea,Ai (Yw (w:=d) (o:=.cells #[Q_ pb] 119) rfl)]
    simpa using hj
  gi_wp2_with (gi_at_builtin;refine wpListIn_append_own _ rfl (.tmp 43) (.tmp 45) 100 rfl w.heap.size 119 i9 (.pointer none) 1 8 underlying100 hi9 E F G rfl sN (.slice none 0 0) 0 [] rfl (World.ownsRow_nil _ _ _ _) (R_ d.heap.size) 1 1 [Q_ pb] rfl sJ hcA (by simp[Value.oneCell']) (by unfold maxLen;omega) wB (lN K6.size O.size) ?_;intro va H oB Fv _;have KB:Aa No (d.alloc (.cells #[Q_ pb] 119)) H:=Ef Fv (λk h _=>by cases h);obtain⟨aa,Q,hva⟩:∃a c,va=.slice a 1 c:=(by obtain⟨_,hx⟩|⟨g,cap,t,hv,_⟩:=oB.2;(· omega);(· exact⟨_,_,hv⟩));subst hva;have bB:=KB.old (O.old X id) id;have gB:=Cf bB 2;have eB:=(Ai bB 2).trans ((BN sN).trans ((BN sN).trans hs2)));go_ret;have KB':Aa No d H:=O.then KB;have B:=KB'.old X id;have tB:=t6.keep KB' id;have I:Aa (Go.Fxa.At kb) H (H.setCell (S_ kb 2) (.slice aa 1 Q)):=Aa.O8 _;obtain⟨_,hx⟩|⟨g,cap,t,hv,hbg,hg,hc1,hmx,hcs,s⟩:=oB.2
  .omega
  .injection hv with e1 _ e3;subst e1 e3;have hgk:g≠kb:=Cj hg B sN;have hR:Rw 119 1 H g 1 Q (Ce [pb]):=⟨⟨t,hg,hcs,s⟩,hc1,hmx,rfl,by simp[Ce,ptr,Value.oneCell']⟩;subst hv' hl9;exact⟨sJ,(K6.trans (S':=No) KB' (λ_ _ e=>e.elim)).trans I (λk _ e=>.inl e),λAf hl=>I.old (KB'.old (x Af hl) id) y,g,hbg,Q,Ap B _,Rw.keep tB I (λe=>C e.symm),hR.keep I hgk⟩
end
end Go.Fxa
