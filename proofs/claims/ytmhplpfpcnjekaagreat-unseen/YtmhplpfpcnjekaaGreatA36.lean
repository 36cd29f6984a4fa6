/- A process of many goes on: goO -/
import Derived.Test.YtmhplpfpcnjekaaGreatA35
import Derived.Sort.CutIn
namespace Go.Fxa
open Conc Proofs RowKit Proofs.Tryz
set_option maxRecDepth 1000000
set_option maxHeartbeats 0
variable {T:j_} {k:IntKind} {w w':o_} {b n nf:Nat} {f:Nat->Int} {S:Nat->Prop} {v:n_} {ff:Nat->n_×Nat×(Nat->Int)}
section
variable (NC NS b:Nat) (K0:KS) (v0:o_) (n m:Nat)
theorem uy {NC NS b:Nat} {K0:KS} {v0:o_} {n:Nat} {told:n_} {v:o_} (h:SBl NC NS b K0 v0 n told v):∃cs ty p,v.heap[b]?=some (N_ cs ty)/\cs[7]?=some (a_ p)/\∀v',zy (R_ b) cs ty p v v'->SF NC NS b K0 v0 n told v':=by
 obtain⟨i,K,r,g,J⟩:=h;refine⟨r.arr,128,r.P,(g.ka.ps b r g.ps).o,rfl,λv' ⟨u,w,x,y,z⟩=>?_⟩;have o:=g.ok.pr b r g.ps;have e:IntKind.u16.wrap ((r.P:Int)-2)=(((r.P+65534) % 65536:Nat):Int):=by rw[wrap_u16];omega
 have C:Ac (At b) v v':=⟨y,z,u,λk G H=>w k G H⟩;have I:v'.heap[b]?=some ({ r with A:=r.A,B:=r.B,P:=(r.P+65534) % 65536 }:PR).obj:=by
  refine x.trans ?_
  unfold Vk PR.obj
  rw[e]
  rfl
 obtain⟨k1,t⟩:=zl g.ka g.ps C I;have l:=g.ok.GH (r':={ r with A:=r.A,B:=r.B,P:=(r.P+65534) % 65536 }) g.ps rfl rfl rfl rfl rfl rfl (Ok.bi2 o o.A o.B (Nat.mod_lt _ wB) rfl o.Af);refine⟨i,_,_,g.next k1 l.1 l.2 t Aj,?_⟩;obtain⟨j,call,d,wr,f,m,a,F,⟨Q,rc,⟨s,L,⟨q,x1,M⟩,N,O,rfl⟩,D⟩,c,E,rfl⟩:=J;have e2:r={ a with bl:=f }:=by have:=g.ps;rw[show(m.Bi b { a with bl:=f }).ps b=some { a with bl:=f } from Aj]at this;exact(x_ this).symm
 subst e2;rw[UC];exact⟨q,x1,.inr ⟨j,i,[],s,F,M,⟨L,1,call,rc,N,O,.inr ⟨rfl,m,d,wr,f,a,D,c,.inr ⟨E,rfl,rfl⟩⟩⟩,zF⟩⟩
def yl (hn:n<=1000) (hSv:Vp NC NS b K0 n):Sj prog NF m (ptr K0.kb) (R_ b) (n:Nat) where
 I:=SI NC NS b K0 v0
 Cd:=SC NC NS b K0 v0 n
 Bd:=SB NC NS b K0 v0 n
 D:=SD NC NS b K0 v0 n
 E0:=SE0 NC NS b K0 v0 n
 E:=SE NC NS b K0 v0 n
 An:=SA NC NS b K0 v0 n
 Fin:=SF NC NS b K0 v0 n
 Dn:=SDn NC NS b K0 v0 n
 Db:=SDb NC NS b K0 v0 n
 Bc:=λ_=>SBc NC NS b K0 v0 n
 Bl:=λ_=>SBl NC NS b K0 v0 n
 tDn:=λ_ _ _ _ v τ d h=>h.no (CX v τ d)
 tDb:=λ_ _ _ _ v τ d h=>h.no (CX v τ d)
 tBc:=λ_ _ _ v τ d h=>h.no (CX v τ d)
 tBl:=λ_ _ v τ d h=>h.no (CX v τ d)
 tI:=λ_ _ v τ d h=>h.no (CX v τ d)
 tC:=λ_ _ _ v τ d h=>h.no (CX v τ d)
 tB:=λ_ v τ d h=>h.no (CX v τ d)
 tD:=λ_ _ _ _ v τ d h=>h.no (CX v τ d)
 tE0:=λ_ _ _ v τ d h=>h.no (CX v τ d)
 tE:=λ_ _ _ v τ d h=>h.no (CX v τ d)
 tA:=λ_ _ _ v τ d h=>h.no (CX v τ d)
 tF:=λ_ v τ d h=>h.no (CX v τ d)
 step:=λ_ _ _ v _ h _ hi τ d=>uZ (h.no (CX v τ d)) hi
 serve:=λ_ _ _ _ v _ h τ d=>nN hSv (h.no (CX v τ d))
 asked:=λ_ _ _ _ _ v _ h τ d=>nT (h.no (CX v τ d))
 tells:=λ_ _ _ _ _ v _ h τ d=>nM (h.no (CX v τ d)) hn
 ended:=λ_ _ _ _ v _ h τ d=>nO (h.no (CX v τ d))
 answer:=λ_ _ _ _ ⟨j,CQ,K,r,res,wr,h1,h2,h4,h5,h6,h7,h8⟩=>⟨a_ res,a_ wr,.nilFunc,⟨by rw[Ah h7.blk];rfl,by rw[Ah h7.blk];rfl,by rw[Ah h7.blk];rfl,eu⟩,j,CQ,K,r,res,wr,h1,h2,h4,h5,h6,h7.res,h7.wr,rfl,h8⟩
 grow:=λ_ _ _ _ _ h hg=>h.no (Y6 hg)
 mf:=λq1 q3 _ _ A v _ h _ _ τ d=>Zh q1 q3 A (h.no (CX v τ d))
 bad:=λ_ _ v _ h τ d=>ν hn (h.no (CX v τ d))
 spent:=λtold v ⟨j,CQ,K,r,h1,h3,_,_,K1,h6,h7⟩=>⟨CQ,K,r,h3,K1,h6,.inl (by obtain rfl:n=j:=zD;exact h7)⟩
 blocks:=λ_ _ _ _ _ v _ h τ d=>iW (h.no (CX v τ d))
 blocked:=λ_ _ _ _ ⟨h,res,wr,fn,ca,cb,hb⟩=>⟨res,wr,fn,ca,cb,⟨by rw[Ah hb];rfl,by rw[Ah hb];rfl,by rw[Ah hb];rfl,eu⟩,h⟩
 bj5:=λ_ _ _ h=>uy h
def bp0 (hn:n<=1000) (hSv:Vp NC NS b K0 n):zA (yl NC NS b K0 v0 n m hn hSv) where
 B0:=SO NC NS b K0 v0 CY
 B2:=SM NC NS b K0 v0 CY
 B3:=SI NC NS b K0 v0 0 CY
 t2:=λv τ d h=>h.no (CX v τ d)
 t3:=λv τ d h=>h.no (CX v τ d)
 bring:=λv _ h τ d=>nS (h.no (CX v τ d)) _
 clear:=λv _ h τ d=>nR (h.no (CX v τ d)) _
 start:=λ_ _ h hg=>h.no (Y6 hg)
end
def FB (T:j_) (k:IntKind) (w:o_) (b n:Nat) (f:Nat->Int):Prop:=∃cs,w.heap[b]?=some (N_ cs T)/\cs.size=n/\∀i,i<n->cs[i]?=some (.int k (f i))
theorem FB.row (h:FB T k w b n f):Row k w b n f:=let ⟨cs,h1,h2,h3⟩:=h;⟨cs,T,h1,h2,h3⟩
theorem FB.keep (h:FB T k w b n f) (a:Ac S w w') (c:¬S b):FB T k w' b n f:=let ⟨cs,h1,h2,h3⟩:=h;⟨cs,a.old h1 c,h2,h3⟩
theorem FB.cell (h:FB T k w b n f) {i:Nat} (a:i<n):w.cell? (S_ b i)=some (.int k (f i)):=h.row.cell a
def Words (n:Nat) (f:Nat->Int):Prop:=∀i,i<n->0<=f i/\f i<=65535
def jL (n:Nat) (f:Nat->Int) (e:Ending):Prop:=∃r:Bool,e=.returned (.bool r)/\(r=true ↔ Words n f)
theorem jL.yes (h:Words n f):jL n f (.returned (.bool true)):=⟨true,rfl,by simpa using h⟩
theorem jL.no (h:¬Words n f):jL n f (.returned (.bool false)):=⟨false,rfl,by simpa using h⟩
section
variable (m:Nat) (w:o_)
theorem FB.set {w:o_} (h:FB T k w b n f) (i:Nat) (x:Int):FB T k (w.setCell (S_ b i) (.int k x)) b n (upd f i x):=by
 obtain⟨l,d,a,g⟩:=h;refine⟨_,Ap d _,by simpa using a,λj c=>?_⟩;rw[Array.getElem?_setIfInBounds];by_cases e:i=j
 .subst e;simp[upd,a,c]
 .rw[ru e,g j c];simp[upd,ik e]
theorem FB.ext {w:o_} {g:Nat->Int} (h:FB T k w b n f) (e:∀i,i<n->f i=g i):FB T k w b n g:=by
 obtain⟨c,d,j,l⟩:=h;exact⟨c,d,j,λi a=>by rw[l i a,e i a]⟩
theorem FB.fz {w:o_} (h:FB T k w b n f) (i:Nat):w.frozen? (S_ b i)=false:=h.row.fz i
theorem Yo (n:Nat):FB 3 .i64 (w.alloc (.cells (madeCells #[b_ 0] n) 3)) w.heap.size n (λ_=>0):=by
 refine⟨madeCells #[b_ 0] n,Y7 rfl,by simp[madeCells],λi a=>?_⟩;simp[madeCells,a,Nat.mod_one]
theorem Ac.bh9 {a w:o_} (h:Ac S a w) {g:Nat} (cs:X_) (d:g<a.heap.size->S g):Ac S a (w.setRow g cs):=
 ⟨h.os,h.output,by rw[setRow_size];exact h.size,λk b c=>(setRow_other w g k cs (λe=>c (e ▸ d (e ▸ b)))).trans (h.block k b c)⟩
theorem TC (n:Nat):FB 123 .u16 (w.alloc (.cells (madeCells #[a_ 0] n) 123)) w.heap.size n (λ_=>0):=by
 refine⟨madeCells #[a_ 0] n,Y7 rfl,by simp[madeCells],λi a=>?_⟩;simp[madeCells,a,Nat.mod_one]
theorem iG (ib L:Nat) (Af:Nat->Nat) (c:Nat) (h:∀i,i<L->w.cell? (S_ ib i)=some (a_ (Af i))) (x:∀i,i<L->Af i<65536) (y:L<=128):O_ m 101 #[P_ ib L c] w λe w'=>Ac No w w'/\e=.returned (P_ w.heap.size L L)/\FB 3 .i64 w' w.heap.size L (λi=>Af i):=by
 obtain⟨t,b,n,o,p⟩:=info_parts XF;have a:=run_make (P:=prog) w 22 3 t (b_ 0) underlying22 b n .i64 .i64 L L zD zD (by rw[p];omega) zD;rw[o]at a;simp only[Int.toNat_natCast,Nat.mul_one,Value.cells]at a;have r0:=Yo w L;have q:Ac No w (w.alloc (.cells (madeCells #[b_ 0] L) 3)):=(Ac.refl _ _).alloc _;generalize w.alloc (.cells (madeCells #[b_ 0] L) 3)=w1 at*;gi_enter func101,ntmps101;gi_wp2;gi_loopw [11] (λi wr=>∃k:Nat,k<=L/\i=b_ k/\Ac No w wr/\FB 3 .i64 wr w.heap.size L (λi=>if i<k then(Af i:Int)else 0)) (λi _=>L-(intOf i).toNat)
 case atStart=>exact⟨0,zD,rfl,q,r0.ext (λi _=>zF)⟩
 case round=>
  obtain⟨k,u,rfl,KK,g⟩:=hrel
  by_cases j:k<L
  .have r:=x k j;have d:=KK.has (h k j);have e:=g.cell j;have f:=g.fz k;gi_wp2;go_roundw
   case rel=>
    refine⟨k+1,zD,by go_num,KK.setCell _ (λs=>ql s (Nat.lt_irrefl _)),(g.set k (Af k)).ext (λi b=>?_)⟩
    show(if i=k then(Af k:Int)else if i<k then(Af i:Int)else 0)=if i<k+1 then(Af i:Int)else 0
    by_cases l:i=k
    .subst l;rw[rC rfl,rC zD]
    .by_cases c2:i<k
     .rw[ru l,rC c2,rC zD]
     .rw[ru l,ru c2,ru zD]
   case measure=>simp[intOf];omega
  .obtain rfl:k=L:=zD;gi_wp2;go_ret;exact⟨KK,zF,g.ext (λi b=>by simp[b])⟩
theorem tu:O_ m 101 #[.slice none 0 0] w λe w'=>Ac No w w'/\e=.returned (P_ w.heap.size 0 0):=by
 obtain⟨h,g,b,c,d⟩:=info_parts XF;have a:=run_make (P:=prog) w 22 3 h (b_ 0) underlying22 g b .i64 .i64 0 0 zD zD (by rw[d];omega) zD;rw[c]at a;have a:(Instr.makeSlice 22 (b_ 0) (b_ 0)).run prog w=.ok (P_ w.heap.size 0 0) (w.alloc (.cells (madeCells #[b_ 0] 0) 3)):=a;have f:Ac No w (w.alloc (.cells (madeCells #[b_ 0] 0) 3)):=(Ac.refl _ _).alloc _;gi_enter func101,ntmps101;gi_wp2;refine wpIn_loop_once ?_;gi_wp2;go_ret;exact⟨f,zF⟩
theorem UZ (v:n_) (n:Nat) (f:Nat->Int) (h:ϭ w v n f):O_ m 87 #[v] w λe w'=>jL n f e/\w'=w:=by
 obtain⟨A,s,c,rfl,p⟩:=h;by_cases q:n=0
 .subst q;gi_enter func87,ntmps87;gi_wp2;refine wpIn_loop_once ?_;gi_wp2;go_ret;exact⟨jL.yes (λi d=>ql d zD),rfl⟩
 .obtain⟨b,o,rfl,t⟩:=p zD;clear p;gi_enter func87,ntmps87;gi_wp2;gi_loopw [7] (λi wr=>wr=w/\∃k:Nat,k<=n/\i=b_ k/\Words k f) (λi _=>n-(intOf i).toNat)
  case atStart=>exact⟨rfl,0,Nat.zero_le _,rfl,λi d=>ql d zD⟩
  case round=>
   obtain⟨u,k,z,rfl,l⟩:=hrel
   subst u
   by_cases g:k<n
   .have y:=t k g;have a:wrap64 (IntKind.u16.wrap (f k))=f k % 65536:=(by rw[wrap_u16];unfold wrap64;omega);by_cases j:f k % 65536=f k
    .have r:(f k !=wrap64 (IntKind.u16.wrap (f k)))=false:=(by rw[a,j];simp);gi_wp2;go_roundw
     case rel=>
      refine⟨eu,k+1,zD,by go_num,λi d=>?_⟩
      by_cases e:i=k
      .subst e;omega
      .exact l i zD
     case measure=>simp[intOf];omega
    .have r:(f k !=wrap64 (IntKind.u16.wrap (f k)))=true:=by rw[a];simp only[bne_iff_ne,ne_eq];exact λe=>j e.symm
     gi_wp2;go_ret;exact⟨jL.no (λx=>by have:=x k g;omega),rfl⟩
   .obtain rfl:k=n:=zD;gi_wp2;go_ret;exact⟨jL.yes l,rfl⟩
theorem ZJ (b o L c:Nat) (Af:Nat->Nat) (z:∀i,i<L->w.cell? (S_ b (o+i))=some (b_ (Af i))) (A:∀i,i<L->Af i<65536) (y:1<=L) (B:L<=128):O_ m 45 #[.slice (some (S_ b o)) L c] w λe w'=>Ac No w w'/\e=.returned (P_ w.heap.size L L)/\FB 123 .u16 w' w.heap.size L (λi=>Af i):=by
 obtain⟨v,g,n,p,q⟩:=info_parts Uk;have a:=run_make (P:=prog) w 116 123 v (a_ 0) underlying116 g n .i64 .i64 L L zD zD (by rw[q];omega) zD;rw[p]at a;simp only[Int.toNat_natCast,Nat.mul_one,Value.cells]at a;have r0:=TC w L;have r:Ac No w (w.alloc (.cells (madeCells #[a_ 0] L) 123)):=(Ac.refl _ _).alloc _;generalize w.alloc (.cells (madeCells #[a_ 0] L) 123)=w1 at*;gi_enter func45,ntmps45;gi_wp2;gi_loopw [11] (λi wr=>∃k:Nat,k<=L/\i=b_ k/\Ac No w wr/\FB 123 .u16 wr w.heap.size L (λi=>if i<k then(Af i:Int)else 0)) (λi _=>L-(intOf i).toNat)
 case atStart=>exact⟨0,zD,rfl,r,r0.ext (λi _=>zF)⟩
 case round=>
  obtain⟨k,x,rfl,KK,h⟩:=hrel
  by_cases j:k<L
  .have s:=A k j;have t:(Af k:Int) % 65536=Af k:=zD;have d:=KK.has (z k j);have e:=h.cell j;have f:=h.fz k;gi_wp2;go_roundw
   case rel=>
    refine⟨k+1,zD,by go_num,KK.setCell _ (λu=>ql u (Nat.lt_irrefl _)),(h.set k (Af k)).ext (λi g=>?_)⟩
    show(if i=k then(Af k:Int)else if i<k then(Af i:Int)else 0)=if i<k+1 then(Af i:Int)else 0
    by_cases l:i=k
    .subst l;rw[rC rfl,rC zD]
    .by_cases c2:i<k
     .rw[ru l,rC c2,rC zD]
     .rw[ru l,ru c2,ru zD]
   case measure=>simp[intOf];omega
  .obtain rfl:k=L:=zD;gi_wp2;go_ret;exact⟨KK,zF,h.ext (λi g=>by simp[g])⟩
theorem mM (s:d_ f_) (c:Nat):O_ m 45 #[.slice s 0 c] w λe w'=>Ac No w w'/\e=.returned (P_ w.heap.size 0 0)/\FB 123 .u16 w' w.heap.size 0 (λ_=>0):=by
 obtain⟨i,h,b,d,f⟩:=info_parts Uk;have a:=run_make (P:=prog) w 116 123 i (a_ 0) underlying116 h b .i64 .i64 0 0 zD zD (by rw[f];omega) zD;rw[d]at a;have a:(Instr.makeSlice 116 (b_ 0) (b_ 0)).run prog w=.ok (P_ w.heap.size 0 0) (w.alloc (.cells (madeCells #[a_ 0] 0) 123)):=a;have r0:=TC w 0;have g:Ac No w (w.alloc (.cells (madeCells #[a_ 0] 0) 123)):=(Ac.refl _ _).alloc _;gi_enter func45,ntmps45;gi_wp2;refine wpIn_loop_once ?_;gi_wp2;go_ret;exact⟨g,zF,r0⟩
def PD (n:Nat) (Af:Nat->Nat) (i:Nat):Nat:=if i<n then Af i else 0
theorem ZZ (E n F D:Nat) (Af:Nat->Nat) (h:FB 123 .u16 w E n (λi=>Af i)) (H:8*F=D) (G:n<=D) (I:D<=128):O_ m 47 #[P_ E n n,b_ F] w λe w'=>Ac No w w'/\e=.returned (P_ w.heap.size D D)/\FB 123 .u16 w' w.heap.size D (λi=>PD n Af i):=by
 obtain⟨z,l,r,k,s⟩:=info_parts Uk;have d:=run_make (P:=prog) w 116 123 z (a_ 0) underlying116 l r .i64 .i64 D D zD zD (by rw[s];omega) zD;rw[k]at d;simp only[Int.toNat_natCast,Nat.mul_one,Value.cells]at d;have r0:=TC w D;have t:Ac No w (w.alloc (.cells (madeCells #[a_ 0] D) 123)):=(Ac.refl _ _).alloc _;generalize w.alloc (.cells (madeCells #[a_ 0] D) 123)=w1 at*;have x:=h.keep t id;have B:(F:Int)*8=D:=zD
 obtain⟨a,q1,C,A⟩:=r0;have f:∀j v,((List.range n).map λi=>Value.int .u16 (Af i))[j]?=some v->w1.cell? (((R_ E):f_).add j)=some v:=λj v q=>by
  have c:j<n:=by
   obtain h|h:=Nat.lt_or_ge j n
   .exact h
   .rw[List.getElem?_eq_none (by simpa using h)]at q;cases q
  rw[Addr.add_lit,Nat.zero_add,x.cell c,<-q];simp[c]
 have o:=run_copy_row (P:=prog) w1 116 116 3 123 w.heap.size 0 D D (R_ E) n n a 123 ((List.range n).map λi=>Value.int .u16 (Af i)) underlying116 (by simp[l,k]) q1 (by simp;exact(Nat.min_eq_left G).symm) f (by simp;omega) (by simp[Value.oneCell']);have p:=setRow_heap w1 w.heap.size a (a.toList.take 0++((List.range n).map λi=>Value.int .u16 (Af i))++a.toList.drop (0+((List.range n).map λi=>Value.int .u16 (Af i)).length)).toArray 123 (0,0) q1;have u:=t.bh9 (g:=w.heap.size) (a.toList.take 0++((List.range n).map λi=>Value.int .u16 (Af i))++a.toList.drop (0+((List.range n).map λi=>Value.int .u16 (Af i)).length)).toArray (λy=>ql y (Nat.lt_irrefl _));generalize w1.setRow w.heap.size _=w2 at*;gi_enter func47,ntmps47;gi_wp2_with (refine MZ rfl (.tmp 9) (.tmp 10) _ rfl rfl rfl o ?_);go_ret;refine⟨u,zF,_,p,by simp;omega,λi l=>?_⟩;by_cases b:i<n
 .simp[PD,b,List.getElem?_append_left]
 .have:=A i l;rw[<-Array.getElem?_toList]at this;simp[PD,b,List.getElem?_append_right (show((List.range n).map λi=>Value.int .u16 (Af i)).length<=i by simp;omega)];rw[show n+(i-n)=i by omega];simpa using this
theorem vF (N:Nat) (c:1<=N):O_ m 42 #[b_ N] w λe w'=>Ac No w w'/\∃cb,w.heap.size<=cb/\e=.returned (.agg #[P_ cb 1 1])/\w'.heap[cb]?=some (N_ #[b_ 0,b_ N] 186):=by
 gi_enter func42,ntmps42;gi_wp2;have a:((w.alloc (.cells #[P_ (w.heap.size+1) 1 1] 92)).alloc (.cells #[b_ 0,b_ N] 186)).cell? (R_ w.heap.size)=some (P_ (w.heap.size+1) 1 1):=by
  rw[Ah ((heap_alloc_old zF).trans (Y7 rfl))];rfl
 refine bodyPost_ret (v:=.agg #[P_ (w.heap.size+1) 1 1]) (by simp[results,results42,go_sem,a]) rfl ?_;exact⟨((Ac.refl No w).alloc _).alloc _,w.heap.size+1,zD,rfl,Y7 zF⟩
theorem vz (N:Nat) (c:1<=N):O_ m 43 #[b_ N] w λe w'=>Ac No w w'/\∃cb,w.heap.size<=cb/\e=.returned (.agg #[P_ cb 1 1])/\w'.heap[cb]?=some (N_ #[b_ 0,b_ N] 188):=by
 gi_enter func43,ntmps43;gi_wp2;have a:((w.alloc (.cells #[P_ (w.heap.size+1) 1 1] 97)).alloc (.cells #[b_ 0,b_ N] 188)).cell? (R_ w.heap.size)=some (P_ (w.heap.size+1) 1 1):=by
  rw[Ah ((heap_alloc_old zF).trans (Y7 rfl))];rfl
 refine bodyPost_ret (v:=.agg #[P_ (w.heap.size+1) 1 1]) (by simp[results,results43,go_sem,a]) rfl ?_;exact⟨((Ac.refl No w).alloc _).alloc _,w.heap.size+1,zD,rfl,Y7 zF⟩
theorem χ:O_ m 90 #[.int .u64 1,.int .u64 6] w λe w'=>e=.returned (.tuple #[.int .u64 0,.int .u64 6])/\w'=w:=by
 gi_enter func90,ntmps90;gi_wp2;refine bodyPost_ret (v:=.tuple #[.int .u64 0,.int .u64 6]) sJ rfl ?_;exact⟨rfl,rfl⟩
end
def pre6 (k:Nat) (i:Nat):Int:=if i<k then -1 else 0
theorem kT {W:o_} {fb k c d cap sb so:Nat} (h:FB 3 .i64 W fb 6 (pre6 k)) (B:k<=6) (A:6-k=d) (y:Nat.min n d=c) (z:∀j,j<c->W.cell? (S_ sb (so+j))=some (b_ (-1))):∃x,(Builtin.copy_ #[22,22] 3 #[.slice (some (S_ fb k)) d d,.slice (some (S_ sb so)) n cap]).run prog W=.ok (b_ c) x/\Ac (At fb) W x/\FB 3 .i64 x fb 6 (pre6 (k+c)):=by
 obtain⟨u,l,r,o,s⟩:=info_parts XF;obtain⟨f,q1,w,t⟩:=id h;have p:c<=d:=by rw[<-y];exact Nat.min_le_right _ _
 have b:∀j v,(List.replicate c (Value.int .i64 (-1)))[j]?=some v->W.cell? (((S_ sb so):f_).add j)=some v:=λj v m=>by
  have a:j<c:=by
   obtain h|h:=Nat.lt_or_ge j c
   .exact h
   .rw[List.getElem?_eq_none (by simpa using h)]at m;cases m
  rw[Addr.add_lit,z j a,<-m,List.getElem?_replicate_of_lt a]
 have g:=run_copy_row (P:=prog) W 22 22 3 3 fb k d d (S_ sb so) n cap f 3 (List.replicate c (Value.int .i64 (-1))) underlying22 (by simp[l,o]) q1 (by simp[y]) b (by simp;omega) (by simp[Value.oneCell']);refine⟨_,by simpa [goInt]using g,(Ac.refl _ W).bh9 _ (λ_=>rfl),_,setRow_heap W fb f _ 3 (0,0) q1,by simp;omega,λi l=>?_⟩;have q:=t i l;rw[<-Array.getElem?_toList]at q;simp only[List.getElem?_toArray,pre6];by_cases e:i<k
 .rw[List.getElem?_append_left (by simp;omega),List.getElem?_take_of_lt e,q];have c2:i<k+c:=zD
  simp[pre6,e,c2]
 .by_cases c2:i<k+c
  .rw[List.getElem?_append_right (by simp;omega),List.getElem?_append_left (by simp;omega),List.getElem?_replicate_of_lt (by simp;omega)];simp[c2]
  .rw[List.getElem?_append_right (by simp;omega),List.getElem?_append_right (by simp;omega),List.getElem?_drop];rw[show k+c+(i-(List.take k f.toList).length-(List.replicate c (Value.int .i64 (-1))).length)=i by simp;omega,q];simp[pre6,e,c2]
section
variable (m:Nat) (w:o_)
def cd3 (g k c:Nat) (v:n_) (W:o_):Prop:=v=b_ c/\FB 3 .i64 W g 6 (pre6 (k+c))
theorem iU (Z:Nat) (hv:w.heap[Z]?=some (N_ #[b_ (-1)] 3)):O_ m 49 #[P_ Z 1 1,b_ 6] w λe w'=>Ac No w w'/\e=.returned (P_ w.heap.size 6 6)/\FB 3 .i64 w' w.heap.size 6 (λ_=>-1):=by
 obtain⟨Q,h,t,v,y⟩:=info_parts XF;have b:=run_make (P:=prog) w 22 3 Q (b_ 0) underlying22 h t .i64 .i64 6 6 zD zD (by rw[y];omega) zD;rw[v]at b;have b:(Instr.makeSlice 22 (b_ 6) (b_ 6)).run prog w=.ok (P_ w.heap.size 6 6) (w.alloc (.cells (madeCells #[b_ 0] 6) 3)):=b;have r0:=(Yo w 6).ext (g:=pre6 0) (λi _=>by simp[pre6]);have z:Ac No w (w.alloc (.cells (madeCells #[b_ 0] 6) 3)):=(Ac.refl _ _).alloc _;have r:=z.old hv id;have q:∀j,j<1->(w.alloc (.cells (madeCells #[b_ 0] 6) 3)).cell? (S_ Z (0+j))=some (b_ (-1)):=λj E=>by
  obtain rfl:j=0:=zD
  rw[Ah r];rfl
 obtain⟨w2,a,J,R⟩:=kT (c:=1) (d:=6) (n:=1) (cap:=1) (sb:=Z) (so:=0) r0 zD rfl rfl q;have K02:Ac No w w2:=z.trans J (λk F e=>ql (show k=w.heap.size from e) zD);gi_enter func49,ntmps49;gi_wp2_with (first|(gi_at_call 90;refine(χ _ w).mono ?_;rintro e w2 ⟨rfl,s⟩;have s:=s.symm;subst s)|(refine MZ rfl (.tmp 31) (.tmp 32) _ rfl rfl rfl a ?_));gi_loopw [8] (λi wr=>∃k:Nat,(k=1\/k=2\/k=4\/k=6)/\i=b_ k/\Ac No w wr/\FB 3 .i64 wr w.heap.size 6 (pre6 k)) (λi _=>6-(intOf i).toNat)
 case atStart=>exact⟨1,.inl rfl,rfl,K02,R⟩
 case round=>
  obtain⟨k,F,rfl,KK,H⟩:=hrel
  by_cases B:k=6
  .subst B;gi_wp2;go_ret;exact⟨KK,zF,H.ext (λi h=>by simp[pre6,h])⟩
  obtain⟨d,c,O,N,D,C⟩:∃d c,(k+c=2\/k+c=4\/k+c=6)/\1<=c/\6-k=d/\Nat.min k d=c:=by
   obtain rfl|rfl|rfl|rfl:=F
   .exact⟨5,1,zD,zD,rfl,rfl⟩
   .exact⟨4,2,zD,zD,rfl,rfl⟩
   .exact⟨2,2,zD,zD,rfl,rfl⟩
   .exact ql rfl B
  have T:k<6:=zD
  have I:d=6-k:=D.symm;have G:(k:Int)<6:=zD
  have l:FB 3 .i64 wr.drew w.heap.size 6 (pre6 k):=H;obtain⟨V,a,KC,S⟩:=kT (c:=c) (d:=d) (n:=k) (cap:=6) (sb:=w.heap.size) (so:=0) l zD D C (λj E=>by
   have p:j<k:=Nat.lt_of_lt_of_le E (by rw[<-C];exact Nat.min_le_left _ _)
   rw[Nat.zero_add,l.cell zD]
   simp[pre6,p]);gi_wp2;refine Dl (P:=prog) _ rfl rfl sJ 8 48 [0,1,2,3,4,5,6] [7] sJ (by rfl)
   (Oa (Go.Fxa.At w.heap.size) wr.drew 7 (cd3 w.heap.size k c) []) (F7 zF zF) _ _ rfl rfl ?_;subst I;gi_wp2;refine⟨rfl,sJ,Em,?_,?_,?_⟩
  .intro A u W f
   repeat' (refine Au ?_ ?_)
   all_goals first|exact eu|gi_wp2
  .intro i h A u W f o X;obtain rfl:i=7:=(by simpa using h);obtain rfl:=f.2.1 o;refine BC rfl λKK U=>?_
   show wpListIn NF m prog _ _ _ (Act.put _ (some 45) (u 7)) _;gi_wp2_with (refine MZ rfl (.tmp 41) (.tmp 44) _ rfl rfl rfl a ?_);exact⟨_,rfl,F8 f zF KC ⟨rfl,S⟩⟩
  .intro A u W f M;obtain⟨K,L⟩:=f.2.2.1 (M 7 zF);show wpListIn NF m prog _ _ _ (Act.put _ (some 45) (u 7)) _;rw[K];gi_wp2;go_roundw
   case rel=>exact⟨k+c,zD,by rw[Int.natCast_add],(KK.drew.trans f.1 (λx Y e=>ql (show x=w.heap.size from e) zD)),L⟩
   case measure=>simp[intOf];omega
end
def qg (w:o_) (v:n_) (n:Nat) (f:Nat->Int):Prop:=(∃s c,v=.slice s n c)/\(n<=128->ϭ w v n f)
theorem qg.kp (h:qg w v n f) (c:Ac No w w'):qg w' v n f:=⟨h.1,λa=>(h.2 a).keep c⟩
def TU (w:o_) (v:n_) (nf:Nat) (ff:Nat->n_×Nat×(Nat->Int)):Prop:=∃s c,v=.slice s nf c/\(0<nf->∃b o,s=some (S_ b o)/\∀i,i<nf->w.cell? (S_ b (o+i))=some (ff i).1/\qg w (ff i).1 (ff i).2.1 (ff i).2.2)
theorem TU.kp (h:TU w v nf ff) (g:Ac No w w'):TU w' v nf ff:=let ⟨s,c,e,h2⟩:=h;⟨s,c,e,λd=>let ⟨b,o,e',h3⟩:=h2 d;⟨b,o,e',λi a=>⟨g.has (h3 i a).1,(h3 i a).2.kp g⟩⟩⟩
def xX (ff:Nat->n_×Nat×(Nat->Int)) (k:Nat):Prop:=∀i,i<k->(ff i).2.1<=64/\Words (ff i).2.1 (ff i).2.2
def ZE (L:Nat->Nat) (k:Nat):Nat:=IP (λi=>Ai (L i)) k
def Js (nf:Nat) (ff:Nat->n_×Nat×(Nat->Int)):Prop:=nf<=16/\xX ff nf/\ZE (λi=>(ff i).2.1) nf<=40
theorem Js.zero:Js 0 ff:=⟨zD,λi a=>ql a zD,Nat.zero_le _⟩
def Ε (nf:Nat) (ff:Nat->n_×Nat×(Nat->Int)) (e:Ending):Prop:=∃r:Bool,e=.returned (.bool r)/\(r=true->nf<=16/\xX ff nf/\ZE (λi=>(ff i).2.1) nf<=40)/\(Js nf ff->r=true)
theorem Ε.no (h:¬Js nf ff):Ε nf ff (.returned (.bool false)):=⟨false,rfl,(λh=>by cases h),λe=>ql e h⟩
def Ud (core swap:Int) (n:Nat) (f:Nat->Int):Prop:=(16<=core/\core<=64/\1<=swap/\swap<=256)/\(1<=n/\n<=128/\Words n f)/\(Ai n:Int)<=swap
def XA (core swap:Int) (n:Nat) (f:Nat->Int) (nf:Nat) (ff:Nat->n_×Nat×(Nat->Int)) (e:Ending):Prop:=∃r:Bool,e=.returned (.bool r)/\(r=true->Ud core swap n f/\nf<=16/\xX ff nf/\ZE (λi=>(ff i).2.1) nf<=40)/\(Js nf ff->Ud core swap n f->r=true)
theorem XA.no {core swap:Int} (h:¬Ud core swap n f):XA core swap n f nf ff (.returned (.bool false)):=⟨false,rfl,(λh=>by cases h),λ_ e=>ql e h⟩
theorem vG (h:n<=64):Ai n<=8:=by unfold Ai;omega
section
variable (m:Nat) (w:o_)
theorem bM {F:Fence} {P:l_} {ops:Array Oper} {Q:Exit->Act->o_->Prop} {a:Act} {w:o_} {rest:List Oper} {o:Oper} (e:Region.wanted o (yielded ops a.tmps)=false) (c:o.about P w a.eval=none) (d:a.put o.dst undef=a) (h:wpListIn F n P ops Q rest a w):wpListIn F n P ops Q (o::rest) a w:=
 wpListIn_skip e c (by rw[d];exact h)
theorem vH (v:n_) (nf:Nat) (ff:Nat->n_×Nat×(Nat->Int)) (h:TU w v nf ff):O_ m 88 #[v] w λe w'=>Ac No w w'/\Ε nf ff e:=by
 obtain⟨s,c,rfl,C⟩:=h;by_cases F:nf=0
 .subst F;gi_enter func88,ntmps88;gi_wp2;refine wpIn_loop_once ?_;gi_wp2;go_ret;exact⟨Ac.refl _ _,true,zF,λ_=>⟨zD,λi j=>ql j zD,Nat.zero_le _⟩,λ_=>rfl⟩
 by_cases G:(16:Int)<nf
 .gi_enter func88,ntmps88;gi_wp2;go_ret;exact⟨Ac.refl _ _,Ε.no λh=>by have:=h.1;omega⟩
 obtain⟨b,o,rfl,K⟩:=C zD;clear C;gi_enter func88,ntmps88;gi_wp2;gi_loopw [3,11] (λa i wr=>∃(k:Nat) (x:Int),k<=nf/\a=b_ x/\0<=x/\x<=8*k/\i=b_ k/\Ac No w wr/\xX ff k/\Nonempty (PLift (x=(ZE (λi=>(ff i).2.1) k:Nat)))) (λ_ i _=>nf-(intOf i).toNat)
 case atStart=>exact⟨0,0,zD,rfl,zD,zD,rfl,Ac.refl _ _,λi j=>ql j zD,⟨⟨rfl⟩⟩⟩
 case round=>
  obtain⟨k,x,O,rfl,L,M,rfl,KK,B,g⟩:=hrel
  by_cases t:k<nf
  .obtain⟨z,⟨P,N,D⟩,A⟩:=K k t;generalize l:ff k=q at*;obtain⟨Q,d,u⟩:=q;simp only at z D A;subst D;have d1:=KK.has z;by_cases H:(64:Int)<d
   .gi_wp2_with (refine bM rfl rfl rfl ?_);go_ret;exact⟨KK,Ε.no λh=>by have:=(h.2.1 k t).1;rw[l]at this;simp only at this;omega⟩
   .have I:=(A zD).keep KK;gi_wp2_with (gi_at_call 87;refine(UZ _ _ _ d u I).mono ?_;rintro e w1 ⟨⟨r,rfl,p⟩,f⟩;have f:=f.symm;subst f;cases r<;>first|(have y:Words d u:=p.1 rfl;clear p)|(have y:ag (¬Words d u):=(λh=>by have:=p.2 h;cases this);clear p))
    .go_ret;exact⟨KK,Ε.no λh=>y.out (by have:=(h.2.1 k t).2;rw[l]at this;exact this)⟩
    .have J:=vG (n:=d) zD;gi_wp2_with (gi_at_call 48;refine(F9 _ _ d zD).mono ?_;rintro e w1 ⟨rfl,f⟩;have f:=f.symm;subst f);go_roundw
     case rel=>
      have E:ZE (λi=>(ff i).2.1) (k+1)=Ai d+ZE (λi=>(ff i).2.1) k:=by simp only[ZE,IP,l]
      refine⟨k+1,x+Ai d,zD,by go_num,zD,zD,by go_num,KK,λi j=>?_,⟨⟨by obtain⟨⟨g⟩⟩:=g;rw[E];omega⟩⟩⟩
      by_cases e:i=k
      .subst e;rw[l];exact⟨by show d<=64;omega,y⟩
      .exact B i zD
     case measure=>simp[intOf];omega
  .obtain rfl:k=nf:=zD;gi_wp2;go_ret;refine⟨KK,_,rfl,λe=>⟨zD,B,?_⟩,λe=>?_⟩
   .obtain⟨⟨g⟩⟩:=g;simp at e;omega
   .obtain⟨⟨g⟩⟩:=g;have:=e.2.2;simp;omega
theorem bb5 (core swap:Int) (v M:n_) (n nf:Nat) (f:Nat->Int) (ff:Nat->n_×Nat×(Nat->Int)) (h:qg w v n f) (N:TU w M nf ff):O_ m 41 #[.agg #[b_ core,b_ swap,v,M]] w λe w'=>Ac No w w'/\XA core swap n f nf ff e:=by
 obtain⟨⟨s,c,rfl⟩,y⟩:=h;obtain⟨g,i,rfl⟩:∃s c,M=.slice s nf c:=let ⟨s,c,e,_⟩:=N;⟨s,c,e⟩
 have d:Ac No w (w.alloc (.cells #[b_ core,b_ swap,.slice s n c,.slice g nf i] 25)):=(Ac.refl _ _).alloc _;gi_enter func41,ntmps41;by_cases G:core<16
 .gi_wp2;go_ret;exact⟨d,XA.no (λb=>by have:=b.1;omega)⟩
 by_cases H:64<core
 .gi_wp2;go_ret;exact⟨d,XA.no (λb=>by have:=b.1;omega)⟩
 by_cases I:swap<1
 .gi_wp2;go_ret;exact⟨d,XA.no (λb=>by have:=b.1;omega)⟩
 by_cases J:256<swap
 .gi_wp2;go_ret;exact⟨d,XA.no (λb=>by have:=b.1;omega)⟩
 by_cases K:(n:Int)<1
 .gi_wp2;go_ret;exact⟨d,XA.no (λb=>by have:=b.2.1;omega)⟩
 by_cases L:128<(n:Int)
 .gi_wp2;go_ret;exact⟨d,XA.no (λb=>by have:=b.2.1;omega)⟩
 have C:=(y zD).keep d;have k:=N.kp d;clear y N;gi_wp2_with fail;refine(UZ _ (w.alloc (.cells #[b_ core,b_ swap,.slice s n c,.slice g nf i] 25)) _ n f C).mono ?_;rintro e w1 ⟨⟨r,rfl,o⟩,q⟩;have q:=q.symm;subst q;cases r
 .gi_wp2;go_ret;exact⟨d,XA.no (λb=>by have:=o.2 b.2.1.2.2;cases this)⟩
 have F:Words n f:=o.1 rfl;clear o;have t:(w.alloc (.cells #[b_ core,b_ swap,.slice s n c,.slice g nf i] 25)).heap[w.heap.size]?=some (N_ #[b_ core,b_ swap,.slice s n c,.slice g nf i] 25):=Y7 rfl;have x:(w.alloc (.cells #[b_ core,b_ swap,.slice s n c,.slice g nf i] 25)).cell? (S_ w.heap.size 1)=some (b_ swap):=bce t rfl;have c3:(w.alloc (.cells #[b_ core,b_ swap,.slice s n c,.slice g nf i] 25)).cell? (S_ w.heap.size 3)=some (.slice g nf i):=bce t rfl;gi_wp2;generalize w.alloc (.cells #[b_ core,b_ swap,.slice s n c,.slice g nf i] 25)=w1 at*;refine BP 4 47 ?_;gi_wp2_with (gi_at_call 48;refine(F9 _ w1.drew n zD).mono ?_;rintro e w2 ⟨rfl,a⟩;have a:=a.symm;subst a);refine Eb ?_ ?_
 .intro V D;have d1:=D.has (w:=w1.drew) x
  repeat' (refine Au ?_ ?_)
  all_goals first|exact eu|gi_wp2_with (gi_at_call 48;refine(F9 _ V n zD).mono ?_;rintro e w2 ⟨rfl,a⟩;have a:=a.symm;subst a)
 intro V j;have u:Ac No w V:=d.drew.then j;have d1:=j.has (w:=w1.drew) x;have d3:=j.has (w:=w1.drew) c3;have l:=(k.kp (w':=w1.drew) (Ac.refl No w1).drew).kp j;by_cases B:(Ai n:Int)<=swap
 .have E:Ud core swap n f:=⟨⟨zD,zD,zD,zD⟩,⟨zD,zD,F⟩,B⟩;gi_wp2_with (gi_at_call 88;refine(vH _ V _ nf ff l).mono ?_;rintro e w2 ⟨A,r,rfl,z,p⟩);go_ret;exact⟨u.then A,r,zF,λh=>⟨E,z h⟩,λh _=>p h⟩
 .gi_wp2_with (refine bM rfl rfl rfl ?_);go_ret;exact⟨u,XA.no (λb=>by have:=b.2.2;omega)⟩
end
theorem bd1:(prog.info? 119).map (λi=>(i.zero,i.size,i.bytes))=some (some (.pointer none),1,8):=sJ
def jQ (ib L fb:Nat):X_:=#[b_ 0,b_ 0,.bool false,a_ 0,.nilFunc,a_ 0,a_ 0,a_ 0,P_ ib L L,P_ fb 6 6,b_ 0,b_ 0]
def EE (ib fb:Nat) (Af:List Nat):PR:=⟨1,0,0,0,0,0,0,false,-1,.nilFunc,P_ ib Af.length Af.length,P_ fb 6 6,Af,[-1,-1,-1,-1,-1,-1]⟩
def cd2 (kb sb sc n M:Nat) (ks:X_) (v:n_) (W:o_):Prop:=v=.tuple #[b_ 0,.bool true]/\W.heap[kb]?=some (.cells (ks.setIfInBounds 1 (P_ sb (Aq [(0,M)] n).2.length sc)) 114 (0,0))/\Mp 188 W sb sc (Aq [(0,M)] n).2
theorem take_one {M:Nat} (a:1<=n) (h:n<=M):Aq [(0,M)] n=(some 0,if M=n then[]else[(n,M-n)]):=by
 unfold Aq;rw[ru zD];simp[h]
section
variable (m:Nat) (w:o_)
theorem ca9 (kb i:Nat) (o:X_) (a:d_ f_) (n c:Nat) (l:w.heap[kb]?=some (N_ o 114)) (q:i<16) (p:o[4+i]?=some (.pointer none)):
  O_ m 44 #[.pointer (some (S_ kb 4)),b_ (i:Nat),.slice a n c] w λe w'=>e=.returned (.tuple #[])/\Ac (At kb) w w'/\w'.heap[kb]?=some (.cells (o.setIfInBounds (4+i) (ptr w.heap.size)) 114 (0,0))/\w'.heap[w.heap.size]?=some (N_ #[.slice a n c,b_ 0] 191):=by
 have j:(i:Int)<16:=zD
 have f:Ac No w (w.alloc (.cells #[.slice a n c,b_ 0] 191)):=(Ac.refl _ _).alloc _;have b:=f.old l id;have h:=(Ah b (4+i)).trans p;have z1:=BQ b (4+i);have g:=Dt l;gi_enter func44,ntmps44;gi_wp2;go_end0;have d:Ac (At kb) w ((w.setCell (S_ kb (4+i)) (Q_ w.heap.size)).alloc (.cells #[.slice a n c,b_ 0] 191)):=Ac.alloc (Ac.NZ _) _;exact⟨zF,d,((Ac.refl No _).alloc _).old (Ap l _) id,Y7 zF⟩
theorem br4 (kb pb sb sc M ib L fb:Nat) (ks:X_) (hp:w.heap[pb]?=some (N_ (jQ ib L fb) 128)) (hk:w.heap[kb]?=some (N_ ks 114)) (hs:ks[1]?=some (P_ sb 1 sc)) (hs2:ks[2]?=some (.slice none 0 0)) (hs3:ks[3]?=some (b_ 0)) (hf:Mp 188 w sb sc [(0,M)]) (hn:Ai L<=M) (hL:1<=L) (hL':L<=128) (hM:M<=500):
  O_ m 46 #[Q_ kb,Q_ pb] w λe w'=>e=.returned (.bool true)/\Ac (λb=>b=kb\/b=sb\/b=pb) w w'/\(∀Af:List Nat,Af.length=L->w'.heap[pb]?=some (EE ib fb Af).obj)/\∃g c,w.heap.size<=g/\w'.heap[kb]?=some (.cells (((ks.setIfInBounds 1 (P_ sb (Aq [(0,M)] (Ai L)).2.length sc)).setIfInBounds 3 (b_ 1)).setIfInBounds 2 (P_ g 1 c)) 114 (0,0))/\Mp 188 w' sb sc (Aq [(0,M)] (Ai L)).2/\Rw 119 1 w' g 1 c (Bj [pb]):=by
 have q8:w.cell? (S_ pb 8)=some (P_ ib L L):=bce hp rfl;have z:pb≠kb:=BZ hp hk wB;have hd:Hd 188 w kb 1 114 ks sb sc [(0,M)]:=⟨hk,hs,hf,wB⟩;have D:kb≠sb:=hd.apart;have hpc:pb≠sb:=by obtain⟨v,hc,_⟩:=hf.blk;exact BZ hp hc wB
 have n1:1<=Ai L:=by unfold Ai;omega
 have t:=take_one n1 hn;obtain⟨i9,hi9,F,G,H⟩:=info_parts bd1;gi_enter func46,ntmps46;gi_wp2;refine Dl (P:=prog) _ rfl rfl sJ 10 49 [0,1,2,3,4] [5,6,7,8,9] sJ (by rfl)
  (Oa (ZA kb sb) w.drew 5 (cd2 kb sb sc (Ai L) M ks) [(6,.tuple #[b_ 0,.bool true]),(7,b_ 0),(8,.bool true),(9,b_ 0)]) (F7 zF zF) _ _ rfl rfl ?_;gi_wp2_with (gi_at_call 58;refine(EZ _ w.drew pb _ _ _ q8 zD).mono ?_;rintro e w1 ⟨rfl,rfl⟩);refine⟨rfl,sJ,Em,?_,?_,?_⟩
 .intro L' u W d;have d8:=(d.1.cell (w:=w.drew) (p:=(S_ pb 8)) (Dt hp) (by rintro(h|h)<;>contradiction)).trans q8
  repeat' (refine Au ?_ ?_)
  all_goals first|exact eu|gi_wp2_with (gi_at_call 58;refine(EZ _ W pb _ _ _ d8 zD).mono ?_;rintro e w1 ⟨rfl,rfl⟩)
 .intro i hi L' u W d hLi O;obtain rfl|rfl|rfl|rfl|rfl:=(by simpa using hi:i=5\/i=6\/i=7\/i=8\/i=9)
  .obtain rfl:=d.2.1 hLi;refine BC rfl λKK Nc=>?_
   show wpListIn NF m prog _ _ _ (Act.put (Act.put (Act.put (Act.put (Act.put _ (some 13) (u 5)) (some 7) (u 6)) (some 14) (u 7)) (some 15) (u 8)) (some 5) (u 9)) _;gi_wp2_with fail;refine(bh5 _ w.drew kb sb sc (Ai L) M 114 ks [(0,M)] (hd.keep (Ac.refl No w).drew id id) ⟨by simp;omega,λi r hr=>by match i,hr with|0,hr=>cases hr;simp⟩ zD (by unfold Ai;omega)).mono ?_;rintro e w1 ⟨rfl,Z,A,N⟩;rw[show Oc (Aq [(0,M)] (Ai L)).1=.tuple #[b_ 0,.bool true] by rw[t];rfl];gi_wp2;exact⟨_,rfl,F8 d zF Z ⟨rfl,A,N⟩⟩
  .have K:=(d.2.2.1 (O 5 zF wB)).1;exact jT rfl rfl rfl ⟨_,rfl,FP d wB K zF⟩
  .have x:=d.2.2.2 (6,.tuple #[b_ 0,.bool true]) zF (O 6 zF wB);exact RX rfl rfl rfl x rfl ⟨_,rfl,Gi d wB zF⟩
  .have x:=d.2.2.2 (6,.tuple #[b_ 0,.bool true]) zF (O 6 zF wB);exact RX rfl rfl rfl x rfl ⟨_,rfl,Gi d wB zF⟩
  .have B:=d.2.2.2 (7,b_ 0) zF (O 7 zF wB);exact jU rfl rfl rfl ⟨_,rfl,FP d wB B zF⟩
 .intro L' u W d hL;obtain⟨K,A,N⟩:=d.2.2.1 (hL 5 zF);have S:=d.2.2.2 (8,.bool true) zF (hL 8 zF);have T:=d.2.2.2 (9,b_ 0) zF (hL 9 zF);have x:=d.2.2.2 (6,.tuple #[b_ 0,.bool true]) zF (hL 6 zF);have B:=d.2.2.2 (7,b_ 0) zF (hL 7 zF);simp only at x B S T;show wpListIn NF m prog _ _ _ (Act.put (Act.put (Act.put (Act.put (Act.put _ (some 13) (u 5)) (some 7) (u 6)) (some 14) (u 7)) (some 15) (u 8)) (some 5) (u 9)) _;rw[K,x,B,S,T];clear t;generalize hl9:(Aq [(0,M)] (Ai L)).2=l' at*;generalize hv':Value.slice (some (R_ sb)) l'.length sc=v' at*;have E:=d.1.old (w:=w.drew) hp (by rintro(h|h)<;>contradiction);have KW:Ac (λb=>b=kb\/b=sb\/b=pb) w W:=(Ac.refl _ w).drew.trans d.1 (by rintro k _ (h|h);exact .inl h;exact .inr (.inl h));have c3:W.cell? (S_ kb 3)=some (b_ 0):=(Ah A 3).trans ((BI wB).trans hs3);have f3:=BQ A 3;clear d K x B S T hL;gi_upto_region 5 with fail;have X:=Ap (i:=3) A (b_ 1);have n:=(Hl (p:=(S_ kb 3)) (b_ 1) z).trans E;have t3:=Rw.keep N (Ac.NZ (w:=W) (b:=kb) (o:=3) (b_ 1)) (λe=>D e.symm);have K3:=KW.setCell (p:=(S_ kb 3)) (b_ 1) (λ_=>.inl rfl);generalize W.setCell (S_ kb 3) (b_ 1)=l at*;clear c3 f3 A N E KW;have d3:l.cell? (S_ kb 3)=some (b_ 1):=(Ah X 3).trans (Oj ((BI wB).trans hs3));have p0:l.cell? (R_ pb)=some (b_ 0):=bce n rfl;have f0:=BQ n 0;have q:=Ap (i:=0) n (b_ 1);have p10:(l.setCell (R_ pb) (b_ 1)).cell? (S_ pb 10)=some (b_ 0):=bce q rfl;have U:=BQ q 10;have s:=Ap (i:=10) q (b_ 0);have p11:((l.setCell (R_ pb) (b_ 1)).setCell (S_ pb 10) (b_ 0)).cell? (S_ pb 11)=some (b_ 0):=bce s rfl;have V:=BQ s 11;have y:=Ap (i:=11) s (b_ (-1));gi_upto_region 6 with fail;have y:∀Af:List Nat,Af.length=L->(((l.setCell (R_ pb) (b_ 1)).setCell (S_ pb 10) (b_ 0)).setCell (S_ pb 11) (b_ (-1))).heap[pb]?=some (EE ib fb Af).obj:=λAf hl=>by
   rw[y]
   simp[EE,jQ,PR.obj,PR.arr,hl]
  have k1:Ac (Go.Fxa.At pb) l (l.setCell (R_ pb) (b_ 1)):=Ac.NZ _;have k2:Ac (Go.Fxa.At pb) (l.setCell (R_ pb) (b_ 1)) ((l.setCell (R_ pb) (b_ 1)).setCell (S_ pb 10) (b_ 0)):=Ac.NZ _;have k3:Ac (Go.Fxa.At pb) ((l.setCell (R_ pb) (b_ 1)).setCell (S_ pb 10) (b_ 0)) (((l.setCell (R_ pb) (b_ 1)).setCell (S_ pb 10) (b_ 0)).setCell (S_ pb 11) (b_ (-1))):=Ac.NZ _;have K36:=(k1.then k2).then k3;clear k1 k2 k3;generalize ((l.setCell (R_ pb) (b_ 1)).setCell (S_ pb 10) (b_ 0)).setCell (S_ pb 11) (b_ (-1))=f at*;have Y:=K36.old X (λe=>z e.symm);have t6:=t3.keep K36 (λe=>hpc e.symm);have K6:Ac (λb=>b=kb\/b=sb\/b=pb) w f:=K3.trans K36 (λk _ e=>.inr (.inr e));clear d3 p0 f0 q p10 U s p11 V K36 t3 X n K3;have d2:f.cell? (S_ kb 2)=some (.slice none 0 0):=(Ah Y 2).trans ((BI wB).trans ((BI wB).trans hs2));have Q:Ac No f (f.alloc (.cells #[Q_ pb] 119)):=(Ac.refl No f).alloc _;have hcA:∀j u,([Q_ pb]:U_)[j]?=some u->(f.alloc (.cells #[Q_ pb] 119)).cell? (((R_ f.heap.size):f_).add j)=some u:=λj u hj=>by
   match j,hj with
   |0,hj=>
    have ea:((R_ f.heap.size):f_).add 0=(R_ f.heap.size):=by rw[Addr.add_lit,Nat.zero_add]
    rw[ea,Ah (Y7 (w:=f) (o:=.cells #[Q_ pb] 119) rfl)]
    simpa using hj
  gi_wp2_with (gi_at_builtin;refine wpListIn_append_own _ rfl (.tmp 43) (.tmp 45) 100 rfl w.heap.size 119 i9 (.pointer none) 1 8 underlying100 hi9 F G H rfl wB (.slice none 0 0) 0 [] rfl (World.ownsRow_nil _ _ _ _) (R_ f.heap.size) 1 1 [Q_ pb] rfl zF hcA (by simp[Value.oneCell']) (by unfold maxLen;omega) zD (pV K6.size Q.size) ?_;intro va I oB Ew _;have KB:Ac No (f.alloc (.cells #[Q_ pb] 119)) I:=DD Ew (λk h _=>by cases h);obtain⟨aa,R,hva⟩:∃a c,va=.slice a 1 c:=(by obtain⟨_,hx⟩|⟨g,cap,v,hv,_⟩:=oB.2;(· omega);(· exact⟨_,_,hv⟩));subst hva;have bB:=KB.old (Q.old Y id) id;have gB:=BQ bB 2;have eB:=(Ah bB 2).trans ((BI wB).trans ((BI wB).trans hs2)));go_ret;have KB':Ac No f I:=Q.then KB;have C:=KB'.old Y id;have tB:=t6.keep KB' id;have J:Ac (Go.Fxa.At kb) I (I.setCell (S_ kb 2) (.slice aa 1 R)):=Ac.NZ _;obtain⟨_,hx⟩|⟨g,cap,v,hv,hbg,hg,hc1,hmx,hcs,t⟩:=oB.2
  .omega
  .injection hv with e1 _ e3;subst e1 e3;have hgk:g≠kb:=BZ hg C wB;have hR:Rw 119 1 I g 1 R (Bj [pb]):=⟨⟨v,hg,hcs,t⟩,hc1,hmx,rfl,by simp[Bj,ptr,Value.oneCell']⟩;subst hv' hl9;exact⟨zF,(K6.trans (S':=No) KB' (λ_ _ e=>e.elim)).trans J (λk _ e=>.inl e),λAf hl=>J.old (KB'.old (y Af hl) id) z,g,hbg,R,Ap C _,Rw.keep tB J (λe=>D e.symm),hR.keep J hgk⟩
end
end Go.Fxa
