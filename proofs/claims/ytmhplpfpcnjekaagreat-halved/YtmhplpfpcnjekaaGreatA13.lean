/- Rows of memory: -/
import Derived.Test.YtmhplpfpcnjekaaGreatA12
import Derived.ArgAppend
namespace Go.Fxa
open Conc Proofs RowKit Proofs.Tryz
set_option maxRecDepth 1000000
set_option maxHeartbeats 0
variable {e sT ty T ti U:j_}{s y o i g IY IB CZ sCap n c m k q cap kb:Nat}{l:List (W_)}{cs:U_}{a:f_}{cur ks:X_}{b r:Nat×Nat}{w:o_}{p:Nat×Nat->Bool}
structure Oj (P:l_)(t e:j_)(z:n_)(s y:Nat):Prop where
 und:P.underlying t=some (.slice e)
 info:(P.info? e).map (λi=>(i.zero,i.size,i.bytes))=some (some z,s,y)
 zs:z.cells.size=s
 pos:0<s
 one:∀x∈z.cells.toList,x.oneCell'=true
theorem Oj.parts {P:l_}{t:j_}{z:n_}(E:Oj P t e z s y):∃i,P.info? e=some i/\i.zero=some z/\i.size=s/\i.bytes=y:=by
 have:=E.info;cases h:P.info? e with
 |none=>rw[h]at this;cases this
 |some i=>
  rw[h]at this
  simp only[Option.map_some,l7,lQ]at this
  exact⟨i,rfl,this⟩
def SH (l:U_)(o:Nat)(cs:U_):U_:=l.take o++cs++l.drop (o+cs.length)
theorem Ou {l:U_}(h:o+cs.length<=l.length):(SH l o cs).length=l.length:=by
 simp only[SH,g_,eP,List.length_drop];omega
theorem bb6 {l:U_}:SH l o []=l:=by simp[SH]
theorem UO {l:U_}(h:o+cs.length<=l.length):(SH l o cs)[i]?=if i<o then l[i]? else if i<o+cs.length then cs[i-o]? else l[i]?:=by
 unfold SH;rw[List.append_assoc,List.getElem?_append,List.getElem?_append];simp only[eP,List.getElem?_take,List.getElem?_drop];have c:min o l.length=o:=wB
 rw[c];by_cases a:i<o
 .simp[a]
 .simp only[a,if_false];by_cases b:i<o+cs.length
  .have:i-o<cs.length:=wB;simp[b,this]
  .have:¬i-o<cs.length:=wB;simp only[b,this,if_false]
   congr 1
   omega
section
variable {P:l_}{t e:j_}{z:n_}{s y:Nat}{w:o_}
theorem zl (E:Oj P t e z s y)
  (B:w.heap[g]?=some (N_ cur T)) (C:cs.length=Nat.min CZ IY*s) (u:∀j v,cs[j]?=some v->w.cell? (a.add j)=some v) (x:o+cs.length<=cur.size) (A:∀v∈cs,v.oneCell'=true):
  (Builtin.copy_ #[t,sT] ty #[.slice (some (S_ g o)) IY IB,.slice (some a) CZ sCap]).run P w=.ok (goInt (Nat.min CZ IY)) (w.setRow g (SH cur.toList o cs).toArray):=by
 obtain⟨i,hi,h,d,f⟩:=E.parts;have c:=run_loadCells_list (P:=P) w a cs u;have b:=run_storeCells_at P g o T cs 0 cur w B (by simpa using x) A;simp only[Nat.add_zero]at b;rw[C]at c;simp[Builtin.copy_,run_underlying E.und,Builtin.lenOf,Builtin.firstCells,sizeOf,typeInfo,hi,d,c,b,SH]
theorem yc (E:Oj P t e z s y){d a:d_ f_}(h:Nat.min CZ IY=0):
  (Builtin.copy_ #[t,sT] ty #[.slice d IY IB,.slice a CZ sCap]).run P w=.ok (goInt 0) w:=by
 obtain⟨i,hi,f,b,c⟩:=E.parts;cases a<;>cases d<;>simp[Builtin.copy_,run_underlying E.und,Builtin.lenOf,Builtin.firstCells,sizeOf,typeInfo,hi,h,storeCells,loadCells,loadCellsFrom]
theorem U4 (E:Oj P t e z s y)(n:Nat):(Builtin.zeroCells z.cells n).toList.length=n*s:=by simp[Builtin.zeroCells,E.zs]
theorem ng (E:Oj P t e z s y)(n:Nat):∀v∈(Builtin.zeroCells z.cells n).toList,v.oneCell'=true:=by
 intro v a;simp only[Builtin.zeroCells,Array.toList_map,List.mem_map]at a;obtain⟨i,_,rfl⟩:=a;have:i % z.cells.size<z.cells.size:=Nat.mod_lt _ (by rw[E.zs];exact E.pos);rw[getElem!_pos z.cells _ this];exact E.one _ sJ
theorem by6 (E:Oj P t e z s y)(j:w.heap[g]?=some (N_ cur T))(u:o+n*s<=cur.size):
  (Builtin.clear_ #[t] ty #[.slice (some (S_ g o)) n c]).run P w=.ok (.tuple #[]) (w.setRow g (SH cur.toList o (Builtin.zeroCells z.cells n).toList).toArray):=by
 obtain⟨i,hi,d,f,h⟩:=E.parts;have a:=run_storeCells_at P g o T (Builtin.zeroCells z.cells n).toList 0 cur w j (by simpa [U4 E]using u) (ng E n);simp only[Nat.add_zero]at a;cases n with
 |zero=>
  have b:(Builtin.zeroCells z.cells 0).toList=[]:=by simp[Builtin.zeroCells]
  rw[b,bb6]
  rw[setRow_self w g _ T (0,0) (by simpa using j)]
  simp[Builtin.clear_,run_underlying E.und]
 |succ n=>simp[Builtin.clear_,run_underlying E.und,zeroValue,typeInfo,hi,d,a,SH]
theorem oM (E:Oj P t e z s y){v:U_}(D:w.heap[g]?=some (N_ cur T))(F:v.length=m*s)
  (x:∀j u,v[j]?=some u->w.cell? (a.add j)=some u) (C:∀u∈v,u.oneCell'=true) (A:CZ+m<=sCap) (B:CZ*s+v.length<=cur.size):
  (Builtin.append_ #[t,t] ty #[P_ g CZ sCap,.slice (some a) m c]).run P w=.ok (P_ g (CZ+m) sCap) (w.setRow g (SH cur.toList (CZ*s) v).toArray):=by
 obtain⟨i,hi,l,b,k⟩:=E.parts;have f:=run_firstCells_some (P:=P) w i.size m a m c v (by rw[b];exact F) x;have d:=run_storeCells_at P g (CZ*s) T v 0 cur w D (by simpa using B) C;simp only[Nat.add_zero]at d;have h:((R_ g):f_).add (CZ*s)=(S_ g (CZ*s)):=by unfold Addr.add;split<;>simp_all
 rw[b]at f;simp[Builtin.append_,run_underlying E.und,sizeOf,typeInfo,hi,b,Builtin.lenOf,A,f,h,d,SH]
theorem aw3 (E:Oj P t e z s y)(G:P.underlying ti=some (.int .i64)){b:f_}{A:U_}(D:A.length=CZ*s)(B:∀j v,A[j]?=some v->w.cell? (b.add j)=some v)
  (I:0<m) (C:sCap<CZ+m) (F:CZ+m<=1000000) (H:y<=1000):
  (Builtin.append_ #[t,ti] ty #[.slice (some b) CZ sCap,b_ (m:Nat)]).run P w=.ok (P_ w.heap.size (CZ+m) (grownCap w (CZ+m) sCap e)) (w.drew.alloc (.cells (A.toArray++(Builtin.zeroCells z.cells m)++Builtin.zeroCells z.cells (grownCap w (CZ+m) sCap e-(CZ+m))) e)):=by
 obtain⟨i,hi,u,k,d⟩:=E.parts;have p:∀w:o_,(asIntOf (b_ (m:Nat))).run P w=.ok (.i64,(m:Int)) w:=λ_=>rfl
 have q:IntKind.i64.wrap (m:Int)=m:=by unfold IntKind.wrap;simp[IntKind.bits,IntKind.signed];split<;>omega
 have r:¬(CZ+m<=sCap):=wB
 have c:¬(9223372036854775807<((CZ:Int)+(m:Int))):=wB
 have o:(CZ+m)*y<=1000000*1000:=Nat.mul_le_mul F H;have a:¬(281474976710656<Builtin.nextslicecap (CZ+m) sCap*i.bytes):=by
  have:=growslice_fits C (bytes:=i.bytes) (by rw[d];omega)
  omega
 have f:=run_firstCells_some (P:=P) w.drew i.size CZ b CZ sCap A (by rw[k];exact D) (by simpa using B);have n:¬(281474976710656<(m:Int)*(i.bytes:Int)):=by
  have x:m*i.bytes<=1000000*1000:=by rw[d];exact Nat.mul_le_mul wB H
  have:((m*i.bytes:Nat):Int)=(m:Int)*(i.bytes:Int):=sJ
  omega
 have g:¬(m*i.size=0):=by
  rw[k];intro h
  obtain h|h:=Nat.mul_eq_zero.1 h
  .omega
  .have:=E.pos;omega
 have l:¬((m:Int)<0):=wB
 rw[k]at f g;simp[Builtin.append_,run_underlying E.und,run_underlying G,sizeOf,typeInfo,zeroValue,hi,u,k,Builtin.lenOf,r,c,a,n,l,g,asInt,p,q,Question.forced,f,newRow,grownCap]
end
structure Rw (e:j_)(s:Nat)(w:o_)(g n cap:Nat)(xs:U_):Prop where
 blk:∃cur,w.heap[g]?=some (N_ cur e)/\cur.size=cap*s/\cur.toList.take (n*s)=xs
 le:n<=cap
 max:cap<=maxLen
 len:xs.length=n*s
 one:∀x∈xs,x.oneCell'=true
section
variable {P:l_}{e:j_}{s:Nat}{w w':o_}{g n cap:Nat}{xs:U_}{S:Nat->Prop}
theorem Rw.keep (h:Rw e s w g n cap xs)(j:Aa S w w')(t:¬S g):Rw e s w' g n cap xs:=by
 obtain⟨⟨i,a,b,c⟩,d,f,l,o⟩:=h;exact⟨⟨i,j.old a t,b,c⟩,d,f,l,o⟩
theorem Rw.lt (h:Rw e s w g n cap xs):g<w.heap.size:=let ⟨_,a,_⟩:=h.blk;Dt a
theorem Rw.cell (h:Rw e s w g n cap xs)(hi:i<n*s):w.cell? (S_ g i)=xs[i]?:=by
 obtain⟨d,a,b,c⟩:=h.blk;rw[Ai a,<-c,List.getElem?_take,rW hi,Array.getElem?_toList]
theorem Rw.cells (h:Rw e s w g n cap xs):∀j v,xs[j]?=some v->w.cell? (((R_ g):f_).add j)=some v:=by
 intro j v a;have c:j<n*s:=by rw[<-h.len];exact(Oc.1 a).1
 have b:((R_ g):f_).add j=(S_ g j):=by unfold Addr.add;split<;>simp_all
 rw[b,h.cell c,a]
theorem Rw.fz (h:Rw e s w g n cap xs)(i:Nat):w.frozen? (S_ g i)=false:=let ⟨_,a,_⟩:=h.blk;Cf a i
theorem Aa.setRow {a:o_}(h:Aa S a w)(g:Nat)(cs:X_)(d:g<a.heap.size->S g):Aa S a (w.setRow g cs):=by
 refine⟨h.os,h.output,?_,λk b c=>?_⟩
 .simp[World.setRow];exact h.size
 .have:k≠g:=λe=>c (by subst e;exact d b)
  rw[<-h.block k b c];simp[World.setRow,iF,this.symm]
theorem VO (h:Rw e s w g n cap xs){l:U_}(j:l.length=cap*s){ys:U_}(t:m<=cap)(f:l.take (m*s)=ys)(u:∀x∈ys,x.oneCell'=true):Rw e s (w.setRow g l.toArray) g m cap ys:=by
 obtain⟨d,a,b,c⟩:=h.blk;refine⟨⟨l.toArray,setRow_heap w g d _ e _ a,by simpa using j,by simpa using f⟩,t,h.max,?_,u⟩;rw[<-f,eP,j];exact Nat.min_eq_left (Nat.mul_le_mul_right _ t)
end
def sx (x:Bool)(a b:Nat):Nat:=bif x then b else a
theorem aF {a b:Nat}:sx false a b=a:=rfl
theorem aC {a b:Nat}:sx true a b=b:=rfl
theorem WM:∀x,Oj prog (sx x 90 95) (sx x 186 188) (.agg #[b_ 0,b_ 0]) 2 16
 |false=>⟨underlying90,sU,by rfl,sN,by intro x a;simp[Value.cells]at a;subst a;rfl⟩
 |true=>⟨underlying95,sU,by rfl,sN,by intro x a;simp[Value.cells]at a;subst a;rfl⟩
section
variable {P:l_}{t e:j_}{z:n_}{s y:Nat}{w:o_}{g n cap i j:Nat}{xs:U_}
theorem bl4 (h:Rw e s w g n cap xs):(xs.drop (j*s)).length=(n-j)*s:=by
 rw[List.length_drop,h.len,Nat.sub_mul]
theorem al3 (E:Oj P t e z s y)(h:Rw e s w g n cap xs)(J:i<j)(K:j<=n):∃w',(Builtin.append_ #[t,t] t #[P_ g i cap,.slice (if cap=j then some (R_ g)else some (S_ g (j*s))) (n-j) (cap-j)]).run P w=.ok (P_ g (i+(n-j)) cap) w'/\Aa (At g) w w'/\Rw e s w' g (i+(n-j)) cap (xs.take (i*s)++xs.drop (j*s)):=by
 obtain⟨a,H,b,A⟩:=h.blk;have f:=h.le;have q:=bl4 (j:=j) h;have e1:i*s+(n-j)*s=(i+(n-j))*s:=by rw[Nat.add_mul]
 have e2:(i+(n-j))*s<=n*s:=Nat.mul_le_mul_right _ wB;have e3:n*s<=cap*s:=Nat.mul_le_mul_right _ f;have d:∀k u,(xs.drop (j*s))[k]?=some u->w.cell? ((if cap=j then((R_ g):f_)else(S_ g (j*s))).add k)=some u:=by
  intro k u l
  rw[List.getElem?_drop]at l
  have B:=(Oc.1 l).1
  rw[h.len]at B
  have:cap≠j:=by
   intro e;subst e
   have:=Nat.mul_le_mul_right s f
   omega
  rw[ru this]
  have G:((S_ g (j*s)):f_).add k=(S_ g (j*s+k)):=by unfold Addr.add;split<;>simp_all
  rw[G,h.cell B,l]
 have C:∀u∈xs.drop (j*s),u.oneCell'=true:=λu l=>h.one u (List.mem_of_mem_drop l)
 have F:=oM (w:=w) (m:=n-j) (c:=cap-j) (CZ:=i) (sCap:=cap) E (ty:=t) H q d C wB (by rw[b];omega);have p:(if cap=j then some ((R_ g):f_)else some (S_ g (j*s)))=some (if cap=j then((R_ g):f_)else(S_ g (j*s))):=by split<;>rfl
 rw[p];have v:(SH a.toList (i*s) (xs.drop (j*s))).length=cap*s:=by rw[Ou (by rw[q,Array.length_toList,b];omega)];simpa using b
 refine⟨_,F,(Aa.refl _ _).setRow _ _ λ_=>rfl,VO h v wB ?_ ?_⟩
 .have I:xs.take (i*s)=a.toList.take (i*s):=by rw[<-A,List.take_take,Nat.min_eq_left (Nat.mul_le_mul_right _ wB)]
  unfold SH;have D:(a.toList.take (i*s)).length=i*s:=by rw[eP,Array.length_toList,b];exact Nat.min_eq_left wB
  have r:(a.toList.take (i*s)++xs.drop (j*s)).length=(i+(n-j))*s:=by rw[g_,D,q,e1]
  rw[I,<-r,List.take_left]
 .intro x o;obtain o|o:=eF.1 o
  .exact h.one x (List.mem_of_mem_take o)
  .exact C x o
theorem Zh (E:Oj P t e z s y)(h:Rw e s w g k cap xs)(u:k+q<=cap):∃w',(Builtin.clear_ #[t] ty #[.slice (some (S_ g (k*s))) q c]).run P w=.ok (.tuple #[]) w'/\Aa (At g) w w'/\Rw e s w' g k cap xs:=by
 obtain⟨b,i,a,f⟩:=h.blk;have e1:k*s+q*s=(k+q)*s:=by rw[Nat.add_mul]
 have e2:(k+q)*s<=cap*s:=Nat.mul_le_mul_right _ u;have d:(SH b.toList (k*s) (Builtin.zeroCells z.cells q).toList).length=cap*s:=by rw[Ou (by rw[U4 E];simp[a];omega)];simpa using a
 refine⟨_,by6 E i (by rw[a];omega),(Aa.refl _ _).setRow _ _ λ_=>rfl,VO h d h.le ?_ h.one⟩;unfold SH;rw[List.append_assoc,List.take_append_of_le_length (by rw[eP,Array.length_toList,a];exact Nat.le_min.2 ⟨w_,wB⟩),List.take_take,Nat.min_self,f]
end
section
variable (m:Nat)(w:o_)
theorem Ο (x:Bool)(g n cap i j:Nat)(xs:U_)(hR:Rw (sx x 186 188) 2 w g n cap xs)(z:i<j)(A:j<=n):
  O_ m (sx x 132 124) #[P_ g n cap,b_ (i:Nat),b_ (j:Nat)] w λe w'=>e=.returned (P_ g (i+(n-j)) cap)/\Aa (At g) w w'/\Rw (sx x 186 188) 2 w' g (i+(n-j)) cap (xs.take (i*2)++xs.drop (j*2)):=by
 have r:=hR.le;have s:¬((j:Int)<(i:Int)):=wB
 have t:¬((n:Int)<(j:Int)):=wB
 have v:¬((cap:Int)<(n:Int)):=wB
 have E:=WM x;by_cases a:cap=j
 all_goals
  cases x<;>dsimp only[aF,aC]at*
  gi_enter func132,ntmps132
  rotate_left
  gi_enter func124,ntmps124
 all_goals
  gi_wp2
  refine DI (P:=prog) No _ rfl rfl sU 6 33 [0,1,2,3,4,5] [] sU (by rfl) (λ_ _ _=>True) (λ_ _ _ _ _ h _=>h) _ _ rfl rfl ?_
  gi_wp2
  refine⟨rfl,sU,?_,(λi hi=>qx hi sJ),?_⟩
  .intro W d
   repeat' (refine AA ?_ ?_)
   all_goals first|exact dE|gi_wp2
  .intro u W d _;simp only[LC];obtain⟨w1,b,f,o⟩:=al3 (w:=W) E (hR.keep ((Aa.refl No w).drew.then d) id) z A;obtain⟨w2,k,l,p⟩:=Zh (c:=cap-(i+(n-j))) (q:=n-(i+(n-j))) (ty:=0) E o wB
   first|(rw[rW a]at b;simp only[a,Nat.sub_self]at b k)|rw[ru a]at b
   refine Dl rfl (.tmp 22) (.tmp 25) _ rfl rfl rfl b ?_;gi_wp2;go_ret;exact⟨by simp[a],(((Aa.refl _ _).drew.then d.no).then f).then l,p⟩
end
theorem an9 {l:U_}(h:o+cs.length<=k)(d:k<=l.length):(SH l o cs).take k=SH (l.take k) o cs:=by
 apply List.ext_getElem?;intro i;rw[List.getElem?_take,UO wB,UO (by rw[eP];omega),List.getElem?_take];by_cases a:i<k
 .simp[a]
 .have:¬i<o:=wB
  have:¬i<o+cs.length:=wB
  simp[*]
section
variable {P:l_}{t e:j_}{z:n_}{s y:Nat}{w:o_}{g n cap i:Nat}{xs ys:U_}
theorem aj7 (E:Oj P t e z s y)(h:Rw e s w g n cap xs)(hq:Nat.min CZ IY=q)(A:cs.length=q*s)(u:∀j v,cs[j]?=some v->w.cell? (a.add j)=some v)(B:∀v∈cs,v.oneCell'=true)(C:o+q<=n):
  ∃w',(Builtin.copy_ #[t,sT] ty #[.slice (some (S_ g (o*s))) IY IB,.slice (some a) CZ sCap]).run P w=.ok (goInt q) w'/\Aa (At g) w w'/\Rw e s w' g n cap (SH xs (o*s) cs):=by
 obtain⟨k,l,c,i⟩:=h.blk;have f:=h.le;have e1:o*s+q*s<=n*s:=by rw[<-Nat.add_mul];exact Nat.mul_le_mul_right _ C
 have e3:n*s<=cap*s:=Nat.mul_le_mul_right _ f;have d:=zl (ty:=ty) (sT:=sT) (IY:=IY) (IB:=IB) (CZ:=CZ) (sCap:=sCap) (o:=o*s) E l (by rw[hq];exact A) u (by rw[A,c];omega) B;rw[hq]at d;refine⟨_,d,(Aa.refl _ _).setRow _ _ λ_=>rfl,VO h ?_ f ?_ ?_⟩
 .rw[Ou (by rw[A,Array.length_toList,c];omega)];simpa using c
 .rw[an9 (by rw[A];exact e1) (by rw[Array.length_toList,c];exact e3),i]
 .intro x b;unfold SH at b;obtain b|b:=eF.1 b
  .obtain b|b:=eF.1 b
   .exact h.one x (List.mem_of_mem_take b)
   .exact B x b
  .exact h.one x (List.mem_of_mem_drop b)
theorem yX (E:Oj P t e z s y)(h:Rw e s w g n cap xs)(F:ys.length=m*s)(G:∀j v,ys[j]?=some v->w.cell? (a.add j)=some v)(J:∀v∈ys,v.oneCell'=true)(H:n+m<=1000000)(K:y<=1000):
  ∃g' I w',(Builtin.append_ #[t,t] ty #[P_ g n cap,.slice (some a) m sCap]).run P w=.ok (P_ g' (n+m) I) w'/\Rw e s w' g' (n+m) I (xs++ys)/\(g'=g/\Aa (At g) w w'\/g'=w.heap.size/\Aa No w w'):=by
 obtain⟨l,C,b,f⟩:=h.blk;have A:∀x∈xs++ys,x.oneCell'=true:=λx i=>by
  obtain i|i:=eF.1 i
  .exact h.one x i
  .exact J x i
 by_cases r:n+m<=cap
 .have e1:n*s+m*s<=cap*s:=by rw[<-Nat.add_mul];exact Nat.mul_le_mul_right _ r
  have k:=oM (w:=w) (m:=m) (c:=sCap) (CZ:=n) (sCap:=cap) E (ty:=ty) C F G J r (by rw[F,b];exact e1);refine⟨g,cap,_,k,VO h ?_ r ?_ A,.inl ⟨rfl,(Aa.refl _ _).setRow _ _ λ_=>rfl⟩⟩
  .rw[Ou (by rw[F,Array.length_toList,b];exact e1)];simpa using b
  .unfold SH;have d:(l.toList.take (n*s)++ys).length=(n+m)*s:=(by rw[f,g_,h.len,F,Nat.add_mul]);rw[<-d,List.take_left,f]
 .obtain⟨ii,hi,D,B,o⟩:=E.parts;have u:(n+m)*y<=1000000*1000:=Nat.mul_le_mul H K;have k:=run_append_grow (P:=P) w t ty e ii z E.und hi D (R_ g) n cap xs (by rw[B];exact h.len) h.cells a m sCap ys (by rw[B];exact F) G wB wB (growslice_fits wB (by rw[o];omega));have q:n+m<=maxLen:=by simp only[maxLen];omega
  have p:=grownCap_ge w (n+m) cap e;refine⟨_,_,_,k,⟨⟨_,Yw rfl,?_,?_⟩,p,grownCap_le_maxLen w (n+m) cap e q,?_,A⟩,.inr ⟨rfl,(Aa.refl No w).drew.alloc _⟩⟩
  .simp only[Array.size_append,List.size_toArray,size_zeroCells,E.zs,h.len,F,<-Nat.add_mul]
   congr 1
   omega
  .simp only[Array.toList_append,List.append_assoc];rw[<-List.append_assoc];have d:(xs++ys).length=(n+m)*s:=(by rw[g_,h.len,F,Nat.add_mul]);rw[<-d];exact List.take_left
  .rw[g_,h.len,F,Nat.add_mul]
theorem aj6 (E:Oj P t e z s y)(h:Rw e s w g n cap xs)(hi:i<=n)(D:0<m)(u:cap<i+m)(A:i+m<=1000000)(F:y<=1000)(B:P.underlying ti=some (.int .i64)):
  ∃C w',(Builtin.append_ #[t,ti] ty #[P_ g i cap,b_ (m:Nat)]).run P w=.ok (P_ w.heap.size (i+m) C) w'/\Rw e s w' w.heap.size (i+m) C (xs.take (i*s)++(Builtin.zeroCells z.cells m).toList)/\Aa No w w':=by
 have l:i*s<=n*s:=Nat.mul_le_mul_right _ hi;have a:(xs.take (i*s)).length=i*s:=by rw[eP,h.len];exact Nat.min_eq_left l
 have p:=aw3 (w:=w) (ty:=ty) E B (b:=(R_ g)) (sCap:=cap) a (λj v d=>h.cells j v (by rw[List.getElem?_take]at d;split at d;exact d;cases d)) D u A F;have o:i+m<=maxLen:=by simp only[maxLen];omega
 have f:=grownCap_ge w (i+m) cap e;refine⟨_,_,p,⟨⟨_,Yw rfl,?_,?_⟩,f,grownCap_le_maxLen w (i+m) cap e o,?_,?_⟩,(Aa.refl No w).drew.alloc _⟩
 .simp only[Array.size_append,List.size_toArray,size_zeroCells,E.zs,a,<-Nat.add_mul]
  congr 1
  omega
 .simp only[Array.toList_append];have k:(xs.take (i*s)++(Builtin.zeroCells z.cells m).toList).length=(i+m)*s:=by rw[g_,a,U4 E,Nat.add_mul]
  rw[<-k];exact List.take_left
 .rw[g_,a,U4 E,Nat.add_mul]
 .intro x c;obtain c|c:=eF.1 c
  .exact h.one x (List.mem_of_mem_take c)
  .exact ng E m x c
theorem bb9 (E:Oj P t e z s y)(h:Rw e s w g n cap xs)(hi:i<n)(X:n+1<=cap){ty:Nat}:
  ∃w',(Builtin.copy_ #[t,t] ty #[.slice (some ⟨g,(i+1)*s,none⟩) (n+1-(i+1)) IB,.slice (some (S_ g (i*s))) (n+1-i) sCap]).run P w=.ok (goInt ((n-i:Nat):Int)) w'/\Aa (At g) w w'/\
   ∀w2 a W V,Aa No w' w2->ys.length=s->(∀j v,ys[j]?=some v->w2.cell? (a.add j)=some v)->(∀v∈ys,v.oneCell'=true)->
    ∃w3,(Builtin.copy_ #[t,t] ty #[.slice (some (S_ g (i*s))) (n+1-i) W,.slice (some a) 1 V]).run P w2=.ok (goInt 1) w3/\Aa (At g) w2 w3/\Rw e s w3 g (n+1) cap (xs.take (i*s)++ys++xs.drop (i*s)):=by
 obtain⟨c,H,f,G⟩:=h.blk;have e1:i*s+s=(i+1)*s:=by rw[Nat.succ_mul]
 have e2:(n-i)*s=n*s-i*s:=Nat.sub_mul ..;have e3:i*s<=n*s:=Nat.mul_le_mul_right _ wB;have e4:n*s+s=(n+1)*s:=by rw[Nat.succ_mul]
 have S:(n+1)*s<=cap*s:=Nat.mul_le_mul_right _ X;have q:(xs.drop (i*s)).length=(n-i)*s:=by rw[List.length_drop,h.len,e2]
 have B:∀j v,(xs.drop (i*s))[j]?=some v->w.cell? (((S_ g (i*s)):f_).add j)=some v:=by
  intro k u C
  rw[List.getElem?_drop]at C
  have I:=(Oc.1 C).1
  rw[h.len]at I
  have K:((S_ g (i*s)):f_).add k=(S_ g (i*s+k)):=by unfold Addr.add;split<;>simp_all
  rw[K,h.cell I,C]
 have hq:Nat.min (n+1-i) (n+1-(i+1))=n-i:=by
  show min _ _=_
  omega
 have J:∀u∈xs.drop (i*s),u.oneCell'=true:=λu C=>h.one u (List.mem_of_mem_drop C)
 have p:=zl (ty:=ty) (sT:=t) (IY:=n+1-(i+1)) (IB:=IB) (CZ:=n+1-i) (sCap:=sCap) (o:=(i+1)*s) E H (by rw[hq];exact q) B (by rw[q,f];omega) J;rw[hq]at p;have N:n+1-(i+1)=n-i:=wB
 have l:(SH c.toList ((i+1)*s) (xs.drop (i*s))).length=cap*s:=by rw[Ou (by rw[q,Array.length_toList,f];omega)];simpa using f
 refine⟨_,by rw[N]at p ⊢;exact p,(Aa.refl _ _).setRow _ _ λ_=>rfl,?_⟩;intro w2 a W V O b R D;have r:=O.old (setRow_heap w g c (SH c.toList ((i+1)*s) (xs.drop (i*s))).toArray e (0,0) H) id;have A:Nat.min 1 (n+1-i)=1:=by
  show min _ _=_
  omega
 have m:=zl (ty:=ty) (sT:=t) (IY:=n+1-i) (IB:=W) (CZ:=1) (sCap:=V) (o:=i*s) (cs:=ys) E r (by rw[A,b];omega) R (by rw[b,List.size_toArray,l];omega) D;rw[A]at m;refine⟨_,m,(Aa.refl _ _).setRow _ _ λ_=>rfl,⟨⟨_,setRow_heap w2 g _ _ e (0,0) r,?_,?_⟩,X,h.max,?_,?_⟩⟩
 .rw[List.size_toArray,Ou (by rw[b];simp only[l];omega)];simpa using l
 .show(SH (SH c.toList ((i+1)*s) (xs.drop (i*s))) (i*s) ys).take ((n+1)*s)=_;apply List.ext_getElem?;intro k;rw[List.getElem?_take,UO (by rw[l,b];omega),UO (by rw[q,Array.length_toList,f];omega),List.append_assoc,List.getElem?_append,List.getElem?_append,List.getElem?_take,List.getElem?_drop,b,q,eP,h.len,Nat.min_eq_left e3];have d:∀j,j<n*s->c.toList[j]?=xs[j]?:=λj Q=>by rw[<-G,List.getElem?_take,rW Q]
  by_cases F:k<i*s
  .have:k<(n+1)*s:=wB;have:k<(i+1)*s:=wB;simp only[*,if_true];exact d k wB
  .by_cases c2:k<i*s+s
   .have c3:k<(n+1)*s:=wB;have c4:k-i*s<s:=wB;simp only[F,c2,c3,c4,if_true,if_false]
   .have c4:¬k-i*s<s:=wB;have L:¬k<(i+1)*s:=wB;by_cases c3:k<(n+1)*s
    .have M:k<(i+1)*s+(n-i)*s:=wB;simp only[F,c2,c3,c4,L,M,if_true,if_false];rw[List.getElem?_drop]
     congr 1
     omega
    .simp only[F,c2,c3,c4,if_false];rw[List.getElem?_eq_none];rw[q];omega
 .rw[g_,g_,q,b,eP,h.len,Nat.min_eq_left e3];omega
 .intro x d;obtain d|d:=eF.1 d
  .obtain d|d:=eF.1 d
   .exact h.one x (List.mem_of_mem_take d)
   .exact D x d
  .exact J x d
def QF (xs ys:U_)(k:Nat):U_:=xs.take k++ys++xs.drop k
theorem bc4 (E:Oj P t e z s y){I:Nat}{O:Nat}{J:U_}(Q:Rw e s w I (n+1) O (xs.take (i*s)++J))(hi:i<n)(M:xs.length=n*s)(H:ys.length=s)(R:∀j v,ys[j]?=some v->w.cell? (a.add j)=some v)(N:∀v∈ys,v.oneCell'=true):
  ∃w',(Builtin.copy_ #[t,t] ty #[.slice (some (S_ I (i*s))) (n+1-i) IB,.slice (some a) 1 sCap]).run P w=.ok (goInt 1) w'/\Aa (At I) w w'/\
   ∀w2 L K,Aa No w' w2->Rw e s w2 g n cap xs->∃w3,(Builtin.copy_ #[t,t] ty #[.slice (some ⟨I,(i+1)*s,none⟩) (n+1-(i+1)) L,.slice (some (S_ g (i*s))) (n-i) K]).run P w2=.ok (goInt ((n-i:Nat):Int)) w3/\Aa (At I) w2 w3/\Rw e s w3 I (n+1) O (QF xs ys (i*s)):=by
 have e3:i*s<=n*s:=Nat.mul_le_mul_right _ wB;have e1:i*s+s=(i+1)*s:=by rw[Nat.succ_mul]
 have e2:(n-i)*s=n*s-i*s:=Nat.sub_mul ..;have e4:n*s+s=(n+1)*s:=by rw[Nat.succ_mul]
 have p:Nat.min 1 (n+1-i)=1:=by
  show min _ _=_
  omega
 have q:J.length=(n+1)*s-i*s:=by
  have:=Q.len
  rw[g_,eP,M,Nat.min_eq_left e3]at this
  omega
 obtain⟨w',m,h,B⟩:=aj7 (IB:=IB) (sCap:=sCap) (o:=i) (cs:=ys) (ty:=ty) (sT:=t) E Q p (by rw[H];omega) R N wB;refine⟨w',m,h,?_⟩;intro w2 L K D hR;have x:(xs.drop (i*s)).length=(n-i)*s:=by rw[List.length_drop,M,e2]
 have b:∀j v,(xs.drop (i*s))[j]?=some v->w2.cell? (((S_ g (i*s)):f_).add j)=some v:=by
  intro k u c
  rw[List.getElem?_drop]at c
  have r:=(Oc.1 c).1
  rw[hR.len]at r
  have C:((S_ g (i*s)):f_).add k=(S_ g (i*s+k)):=by unfold Addr.add;split<;>simp_all
  rw[C,hR.cell r,c]
 have hq:Nat.min (n-i) (n+1-(i+1))=n-i:=by
  show min _ _=_
  omega
 obtain⟨w3,f,l,A⟩:=aj7 (IB:=L) (sCap:=K) (o:=i+1) (cs:=xs.drop (i*s)) (ty:=ty) (sT:=t) E (B.keep D id) hq x b (λu c=>hR.one u (List.mem_of_mem_drop c)) wB;refine⟨w3,f,l,?_⟩;have d:(xs.take (i*s)).length=i*s:=by rw[eP,M];exact Nat.min_eq_left e3
 have q1:SH (xs.take (i*s)++J) (i*s) ys=xs.take (i*s)++(ys++J.drop s):=by
  unfold SH
  rw[List.take_left' d,H,List.drop_append,d,List.drop_of_length_le wB,List.nil_append,List.append_assoc]
  congr 3
  omega
 have G:SH (xs.take (i*s)++(ys++J.drop s)) ((i+1)*s) (xs.drop (i*s))=QF xs ys (i*s):=by
  have F:(xs.take (i*s)++ys++J.drop s).drop ((i+1)*s+(xs.drop (i*s)).length)=[]:=List.drop_of_length_le (by rw[g_,g_,d,H,List.length_drop,q,x];omega)
  unfold SH QF
  rw[<-List.append_assoc (xs.take (i*s)),List.take_left' (by rw[g_,d,H,e1]),F,List.append_nil]
 rw[q1,G]at A;exact A
end
theorem ap7 {P:Program} {t e:TypeId} {z:Value} (E:Oj P t e z s y) {w:World} {f:FuncId} (I:∃fn H,P.funcs[f]?=some fn/\(fn.name== "runtime.NumGoroutine")=false/\fn.body.isNone=true/\Extern.findNext fn=none/\Extern.find fn=some (Extern.SlicesOverlaps.overlaps #[t,t] H))
  {a b o la lb ca cb:Nat} (ne:a≠b) {x u:X_} {T U:j_} (G:w.heap[a]?=some (N_ x T)) (hb:w.heap[b]?=some (N_ u U)):(callFunc f #[P_ a la ca,.slice (some (S_ b o)) lb cb]).run P w=.ok (.value (.bool false)) w:=by
 obtain⟨fn,H,n,p,q,r,v⟩:=I;obtain⟨i,hi,F,d,D⟩:=E.parts;have g:w.frozen? (R_ a)=false:=Cf G 0;have j:w.frozen? (S_ b o)=false:=Cf hb o;have A:(a==b)=false:=by simpa using ne
 have e1:(callFunc f #[P_ a la ca,.slice (some (S_ b o)) lb cb]).run P w=((mark (.extern f))>>= λ_=>(Extern.SlicesOverlaps.overlaps #[t,t] H #[P_ a la ca,.slice (some (S_ b o)) lb cb])>>= λx=>pure (.value x):Sem Next).run P w:=by
  unfold callFunc
  show(match P.funcs[f]? with
   |none=>stuck "call: no such function"
   |some fn=>_:Sem Next).run P w=_
  rw[n]
  simp only[p,q,r,v,jb,if_false,if_true]
  first|done|rfl
 rw[e1,Qp];have B:w.shape? a=some (T,x.size):=by simp[World.shape?,G]
 have C:w.shape? b=some (U,u.size):=by simp[World.shape?,hb]
 have k:w.frozen? (S_ a x.size)=false:=Cf G _;have l:w.frozen? (S_ b u.size)=false:=Cf hb _;by_cases m:la=0\/lb=0
 .have c:la=0\/lb=0\/s=0:=by obtain h|h:=m<;>simp[h]
  simp[run_underlying E.und,sizeOf,typeInfo,hi,d,c]
 .have c:¬(la=0\/lb=0\/s=0):=by have:=E.pos;omega
  simp[run_underlying E.und,sizeOf,typeInfo,hi,d,g,j,A,noView,viewAt,mayBeOne,stringish,c,B,C,k,l]
@[simp] theorem df5:(169:h_)∈LF:=sN
@[simp] theorem df3:(235:h_)∈LF:=sN
theorem da6:∀x,∃fn d,prog.funcs[sx x 169 235]?=some fn/\(fn.name== "runtime.NumGoroutine")=false/\fn.body.isNone=true/\Extern.findNext fn=none/\Extern.find fn=some (Extern.SlicesOverlaps.overlaps #[sx x 90 95,sx x 90 95] d)
 |false=>⟨(prog.funcs[169]?).getD default,#[4],sU,sU,sU,sU,sU⟩
 |true=>⟨(prog.funcs[235]?).getD default,#[4],sU,sU,sU,sU,sU⟩
section
variable (m:Nat)(w:o_)
theorem qI (x:Bool)(g n cap u:Nat)(xs ys:U_)(hR:Rw (sx x 186 188) 2 w g n cap xs)(t:Rw (sx x 186 188) 2 w u 1 1 ys)(v:n<=100000):
  O_ m (sx x 129 210) #[P_ g n cap,b_ (n:Nat),P_ u 1 1] w λe w'=>∃g' j,e=.returned (P_ g' (n+1) j)/\Aa (At g) w w'/\Rw (sx x 186 188) 2 w' g' (n+1) j (xs++ys)/\(g'=g\/w.heap.size<=g'):=by
 obtain⟨g',j,w',b,d,c⟩:=yX (ty:=sx x 90 95) (sCap:=1) (WM x) hR t.len t.cells t.one wB wB;have f:=hR.le;by_cases a:cap=n
 all_goals
  first|simp only[a]at b ⊢ | skip
  cases x<;>dsimp only[aF,aC]at*
  gi_enter func129,ntmps129
  rotate_left
  gi_enter func210,ntmps210
  all_goals
   gi_wp2_with (refine Dl rfl (.tmp 23) (.tmp 24) _ rfl rfl rfl b ?_)
   go_ret
   refine⟨g',j,sJ,?_,d,?_⟩
   .obtain⟨_,h⟩|⟨_,h⟩:=c
    .exact h
    .exact h.no
   .obtain⟨h,_⟩|⟨h,_⟩:=c
    .exact .inl h
    .exact .inr wB
theorem kQ (x:Bool)(g n cap I i:Nat)(xs ys:U_)(hR:Rw (sx x 186 188) 2 w g n cap xs)(H:Rw (sx x 186 188) 2 w I 1 1 ys)(hi:i<n)(K:n<=100000)(J:cap<n+1):
  O_ m (sx x 129 210) #[P_ g n cap,b_ (i:Nat),P_ I 1 1] w λe w'=>∃g' G,e=.returned (P_ g' (n+1) G)/\Aa (At g) w w'/\Rw (sx x 186 188) 2 w' g' (n+1) G (QF xs ys (i*2))/\(g'=g\/w.heap.size<=g'):=by
 have y:=hR.le;obtain⟨G,w1,r,b,f⟩:=aj6 (i:=i) (m:=n+1-i) (ty:=sx x 90 95) (ti:=3) (WM x) hR wB wB wB wB wB underlying3;have u:i+(n+1-i)=n+1:=wB
 rw[u]at r b;have s:=b.le;obtain⟨w2,q,t,c⟩:=bc4 (i:=i) (n:=n) (xs:=xs) (ys:=ys) (g:=g) (cap:=cap) (IB:=G - i) (sCap:=1) (ty:=3) (a:=(R_ I)) (WM x) b hi hR.len H.len (H.keep f id).cells H.one;have d:Aa No w w2:=f.trans (S':=At w.heap.size) t (λk v h=>by have:k=w.heap.size:=h;omega);obtain⟨w3,j,p,z⟩:=c w2.drew (G - (i+1)) (cap-i) (Aa.refl No w2).drew ((hR.keep d id).keep (Aa.refl No w2).drew id);have o:n+1-(i+1)=n-i:=wB
 rw[o]at j;have l:Aa No w w3:=d.drew.trans (S':=At w.heap.size) p (λk v h=>by have:k=w.heap.size:=h;omega);have B:¬((n:Int)<(i:Int)):=wB
 have C:¬((n:Int)+1<=(cap:Int)):=wB
 have D:¬(G=i):=wB
 have E:¬(G=i+1):=wB
 have F:¬(cap=i):=wB
 have A:((n:Int)+1-(i:Int))=((n+1-i:Nat):Int):=wB
 cases x<;>dsimp only[aF,aC]at*;gi_enter func129,ntmps129
 rotate_left
 gi_enter func210,ntmps210
 all_goals
  gi_wp2_with (first|(gi_at_builtin;refine Dl rfl (.tmp 34) (.tmp 39) _ rfl rfl rfl r ?_)|(refine PK rfl (.tmp 43) (.tmp 44) _ rfl rfl rfl q ?_))
  gi_region
  all_goals gi_wp2
  all_goals go_ret
  all_goals exact⟨_,_,sJ,l.no,z,.inr w_⟩
theorem bQ (x:Bool)(g n cap v i:Nat)(xs ys:U_)(hR:Rw (sx x 186 188) 2 w g n cap xs)(u:Rw (sx x 186 188) 2 w v 1 1 ys)(A:v≠g)(hi:i<n)(C:n<=100000)(z:n+1<=cap):
  O_ m (sx x 129 210) #[P_ g n cap,b_ (i:Nat),P_ v 1 1] w λe w'=>∃g' B,e=.returned (P_ g' (n+1) B)/\Aa (At g) w w'/\Rw (sx x 186 188) 2 w' g' (n+1) B (QF xs ys (i*2))/\(g'=g\/w.heap.size<=g'):=by
 obtain⟨q,f,_⟩:=hR.blk;obtain⟨r,j,_⟩:=u.blk;have s:¬(cap=i):=wB
 have t:¬(cap=i+1):=wB
 have l:=ap7 (la:=1) (ca:=1) (lb:=n-i) (cb:=cap-(i+1)) (o:=(i+1)*2) (WM x) (da6 x) A j f;obtain⟨w1,h,b,a⟩:=bb9 (ys:=ys) (i:=i) (ty:=3) (IB:=cap-(i+1)) (sCap:=cap-i) (WM x) (hR.keep (Aa.refl No w).drew id) hi z;have c:n+1-(i+1)=n-i:=wB
 rw[c]at h;obtain⟨w3,k,d,p⟩:=a w1 (R_ v) (cap-i) 1 (Aa.refl No w1) u.len (u.keep ((Aa.refl (At g) w).drew.then b) A).cells u.one;cases x<;>dsimp only[aF,aC]at*;gi_enter func129,ntmps129
 rotate_left
 gi_enter func210,ntmps210
 all_goals
  gi_wp2
  gi_region
  all_goals gi_wp2
  all_goals go_ret
  all_goals exact⟨g,cap,sJ,((Aa.refl (At g) w).drew.then b).then d,p,.inl rfl⟩
end
def rc:List (W_)->U_
 |[]=>[]
 |r::l=>.int .i64 r.1::.int .i64 r.2::rc l
theorem uu:∀l:List (W_),(rc l).length=l.length*2
 |[]=>rfl
 |r::l=>by simp only[rc,List.length_cons,uu l];omega
theorem YF:∀l k:List (W_),rc (l++k)=rc l++rc k
 |[],k=>rfl
 |r::l,k=>by simp only[rc,List.cons_append,YF l k]
theorem Yb:∀(l:List (W_))(i:Nat),(rc l).take (i*2)=rc (l.take i)
 |_,0=>by simp[rc]
 |[],i+1=>by simp[rc]
 |r::l,i+1=>by simp only[rc,Nat.succ_mul,List.take_succ_cons,Yb l i]
theorem Yc:∀(l:List (W_))(i:Nat),(rc l).drop (i*2)=rc (l.drop i)
 |_,0=>sJ
 |[],i+1=>by simp[rc]
 |r::l,i+1=>by simp only[rc,Nat.succ_mul,List.drop_succ_cons,Yc l i]
theorem aj8:∀l:List (W_),∀x∈rc l,x.oneCell'=true
 |[],x,h=>by simp[rc]at h
 |r::l,x,h=>by
  simp only[rc,r_]at h
  obtain rfl|rfl|h:=h
  .rfl
  .rfl
  .exact aj8 l x h
theorem iP:∀(l:List (W_))(i:Nat)(r:W_),l[i]?=some r->(rc l)[i*2]?=some (b_ r.1)/\(rc l)[i*2+1]?=some (b_ r.2)
 |[],i,r,h=>by simp at h
 |x::l,0,r,h=>by simp at h;subst h;simp[rc]
 |x::l,i+1,r,h=>by
  have:=iP l i r (by simpa using h)
  simp only[rc,Nat.succ_mul,List.getElem?_cons_succ]
  exact this
theorem zS:∀(l:List (W_))(i a:Nat)(r:W_),l[i]?=some r->(rc l).set (i*2) (b_ a)=rc (l.set i (a,r.2))
 |[],i,a,r,h=>by simp at h
 |x::l,0,a,r,h=>by simp at h;subst h;simp[rc]
 |x::l,i+1,a,r,h=>by
  have:=zS l i a r (by simpa using h)
  simp only[rc,Nat.succ_mul,List.set_cons_succ,this]
theorem zQ:∀(l:List (W_))(i a:Nat)(r:W_),l[i]?=some r->(rc l).set (i*2+1) (b_ a)=rc (l.set i (r.1,a))
 |[],i,a,r,h=>by simp at h
 |x::l,0,a,r,h=>by simp at h;subst h;simp[rc]
 |x::l,i+1,a,r,h=>by
  have:=zQ l i a r (by simpa using h)
  simp only[rc,Nat.succ_mul,List.set_cons_succ]
  rw[this]
def Mp (T:j_)(w:o_)(g cap:Nat)(l:List (W_)):Prop:=Rw T 2 w g l.length cap (rc l)
theorem Mp.cells (h:Mp T w g cap l)(hi:l[i]?=some r):w.cell? (S_ g (i*2))=some (b_ r.1)/\w.cell? (S_ g (i*2+1))=some (b_ r.2):=by
 have b:=(Oc.1 hi).1;have a:=iP l i r hi;exact⟨(Rw.cell h wB).trans a.1,(Rw.cell h wB).trans a.2⟩
def sF (l:List (W_))(p:Nat×Nat->Bool):Int:=match l.findIdx? p with|some i=>i|none=>-1
theorem oL (h:∀(i:Nat) r,l[i]?=some r->p r=false):sF l p=-1:=by
 unfold sF;rw[List.findIdx?_eq_none_iff.2];intro x a;obtain⟨i,hi⟩:=List.getElem?_of_mem a;exact h i x hi
theorem oK (h:∀(i:Nat) r,i<k->l[i]?=some r->p r=false)(f:l[k]?=some r)(t:p r=true):sF l p=k:=by
 have d:=(Oc.1 f);obtain⟨b,e⟩:=d;unfold sF;have:l.findIdx? p=some k:=by
  rw[List.findIdx?_eq_some_iff_getElem]
  refine⟨b,by rw[e];exact t,λj c=>?_⟩
  have a:j<l.length:=Nat.lt_trans c b
  have:=h j l[j] c (JM a)
  simp[this]
 rw[this]
section
variable (m:Nat)(w:o_)
theorem as9 (x:Bool)(g cap t n:Nat)(l:List (W_))(h:Mp (sx x 186 188) w g cap l)(u:w.cell? (R_ t)=some (b_ n))(v:l.length<=100000):
  O_ m (sx x 127 122) #[P_ g l.length cap,.func (.func (sx x 131 123)) #[] #[Q_ t]] w λe w'=>e=.returned (b_ (sF l λr=>decide (n<=r.2)))/\Aa No w w':=by
 cases x<;>dsimp only[aF,aC]at*;gi_enter func127,ntmps127
 rotate_left
 gi_enter func122,ntmps122
 all_goals
  gi_wp2
  gi_loopw [8] (λi wr=>∃k:Nat,k<=l.length/\i=b_ k/\Aa No w wr/\∀j r,j<k->l[j]?=some r->¬n<=r.2) (λi _=>l.length-(intOf i).toNat)
  case atStart=>exact⟨0,wB,rfl,Aa.refl _ _,λj r h=>qx h wB⟩
  case round=>
   obtain⟨k,p,rfl,KK,b⟩:=hrel
   by_cases d:k<l.length
   .have a:l[k]?=some l[k]:=JM d;generalize l[k]=r at a;obtain⟨f,d1⟩:=Mp.cells (Rw.keep h KK id) a;have d2:=KK.has u;have d3:=((Aa.refl No wr).alloc (.cells #[b_ r.1,b_ r.2] 186)).has d2;have d4:=((Aa.refl No wr).alloc (.cells #[b_ r.1,b_ r.2] 188)).has d2;by_cases c:n<=r.2
    .gi_wp2_with gi_in;go_ret;exact⟨by rw[oK (k:=k) (r:=r) (λi q hi hq=>by have:=b i q hi hq;simpa using this) a (by simpa using c)];simp,KK.alloc _⟩
    .gi_wp2_with gi_in;go_roundw
     case rel=>
      refine⟨k+1,wB,by go_num,KK.alloc _,λj q o hq=>?_⟩
      by_cases e:j=k
      .subst e;rw[a]at hq;cases hq;exact c
      .exact b j q wB hq
     case measure=>simp[intOf];omega
   .obtain rfl:k=l.length:=wB;gi_wp2;go_ret;exact⟨by rw[oL (λi r hi=>by have:=b i r (Oc.1 hi).1 hi;simpa using this)];simp,KK⟩
theorem at6 (x:Bool)(g cap t n:Nat)(l:List (W_))(h:Mp (sx x 186 188) w g cap l)(u:w.cell? (R_ t)=some (b_ n))(v:l.length<=100000):
  O_ m (sx x 127 122) #[P_ g l.length cap,.func (.func (sx x 128 209)) #[] #[Q_ t]] w λe w'=>e=.returned (b_ (sF l λr=>decide (n<r.1)))/\Aa No w w':=by
 cases x<;>dsimp only[aF,aC]at*;gi_enter func127,ntmps127
 rotate_left
 gi_enter func122,ntmps122
 all_goals
  gi_wp2
  gi_loopw [8] (λi wr=>∃k:Nat,k<=l.length/\i=b_ k/\Aa No w wr/\∀j r,j<k->l[j]?=some r->¬n<r.1) (λi _=>l.length-(intOf i).toNat)
  case atStart=>exact⟨0,wB,rfl,Aa.refl _ _,λj r h=>qx h wB⟩
  case round=>
   obtain⟨k,p,rfl,KK,b⟩:=hrel
   by_cases d:k<l.length
   .have a:l[k]?=some l[k]:=JM d;generalize l[k]=r at a;obtain⟨f,d1⟩:=Mp.cells (Rw.keep h KK id) a;have d2:=KK.has u;have d3:=((Aa.refl No wr).alloc (.cells #[b_ r.1,b_ r.2] 186)).has d2;have d4:=((Aa.refl No wr).alloc (.cells #[b_ r.1,b_ r.2] 188)).has d2;by_cases c:n<r.1
    .gi_wp2_with gi_in;go_ret;exact⟨by rw[oK (k:=k) (r:=r) (λi q hi hq=>by have:=b i q hi hq;simpa using this) a (by simpa using c)];simp,KK.alloc _⟩
    .gi_wp2_with gi_in;go_roundw
     case rel=>
      refine⟨k+1,wB,by go_num,KK.alloc _,λj q o hq=>?_⟩
      by_cases e:j=k
      .subst e;rw[a]at hq;cases hq;exact c
      .exact b j q wB hq
     case measure=>simp[intOf];omega
   .obtain rfl:k=l.length:=wB;gi_wp2;go_ret;exact⟨by rw[oL (λi r hi=>by have:=b i r (Oc.1 hi).1 hi;simpa using this)];simp,KK⟩
end
def F6 (l:List (W_))(i:Nat):List (W_):=match l[i]?,l[i+1]? with
 |some a,some b=>if a.1+a.2=b.1 then l.take i++(a.1,a.2+b.2)::l.drop (i+2)else l
 |_,_=>l
theorem xK (h:l.length<=i+1):F6 l i=l:=by
 unfold F6;rw[List.getElem?_eq_none (i:=i+1) h];cases l[i]?<;>rfl
theorem ar4 {a:Nat×Nat}(d:l[i]?=some a)(hb:l[i+1]?=some b)(h:a.1+a.2≠b.1):F6 l i=l:=by
 unfold F6;rw[d,hb];simp[h]
theorem aa1 {a:Nat×Nat}(d:l[i]?=some a)(hb:l[i+1]?=some b)(h:a.1+a.2=b.1):F6 l i=(l.set i (a.1,a.2+b.2)).take (i+1)++(l.set i (a.1,a.2+b.2)).drop (i+2):=by
 have hi:=(Oc.1 d).1;unfold F6;rw[d,hb];simp only[h,if_true];rw[List.drop_set,rW wB,List.take_set,List.take_add_one,d];simp only[Option.toList_some];rw[List.set_append_right _ _ (by rw[eP];omega)];have:i-(l.take i).length=0:=by rw[eP];omega
 rw[this];simp
structure Hd (T:j_)(w:o_)(kb c:Nat)(U:j_)(ks:X_)(g cap:Nat)(l:List (W_)):Prop where
 k:w.heap[kb]?=some (N_ ks U)
 v:ks[c]?=some (P_ g l.length cap)
 mp:Mp T w g cap l
 ne:U≠T
theorem Hd.apart (h:Hd T w kb c U ks g cap l):kb≠g:=by
 obtain⟨a,b,_⟩:=h.mp.blk;exact Cj h.k b h.ne
theorem Hd.keep {w':o_}{S:Nat->Prop}(h:Hd T w kb c U ks g cap l)(d:Aa S w w')(f:¬S kb)(j:¬S g):Hd T w' kb c U ks g cap l:=⟨d.old h.k f,h.v,Rw.keep h.mp d j,h.ne⟩
theorem Hd.self (h:Hd T w kb c U ks g cap l):ks.setIfInBounds c (P_ g l.length cap)=ks:=QW h.v
theorem Rw.set {xs:U_}(h:Rw e s w g n cap xs)(v:n_)(t:v.oneCell'=true):Rw e s (w.setCell (S_ g i) v) g n cap (xs.set i v):=by
 obtain⟨⟨j,a,b,c⟩,d,f,l,o⟩:=h;refine⟨⟨_,Ap a v,by simpa using b,?_⟩,d,f,by simpa using l,?_⟩
 .rw[Array.toList_setIfInBounds,List.take_set,c]
 .intro x k;obtain h|h:=List.mem_or_eq_of_mem_set k
  .exact o x h
  .subst h;exact t
theorem Mp.O8 (h:Mp T w g cap l)(hi:l[i]?=some r)(a:Nat):Mp T (w.setCell (S_ g (i*2+1)) (b_ a)) g cap (l.set i (r.1,a)):=by
 have:=Rw.set (i:=i*2+1) h (b_ a) rfl;rw[zQ l i a r hi]at this;unfold Mp;rw[List.length_set];exact this
theorem Mp.set0 (h:Mp T w g cap l)(hi:l[i]?=some r)(a:Nat):Mp T (w.setCell (S_ g (i*2)) (b_ a)) g cap (l.set i (a,r.2)):=by
 have:=Rw.set (i:=i*2) h (b_ a) rfl;rw[zS l i a r hi]at this;unfold Mp;rw[List.length_set];exact this
section
variable (m:Nat)(w:o_)
theorem da9 (x:Bool)(f s:Nat)(d:f+s<=1000000):O_ m (sx x 171 237) #[.agg #[b_ f,b_ s]] w λe w'=>e=.returned (b_ (f+s:Nat))/\Aa No w w':=by
 cases x<;>dsimp only[aF,aC]at*;gi_enter func171,ntmps171
 rotate_left
 gi_enter func237,ntmps237
 all_goals
  gi_wp2
  go_ret
  exact⟨sJ,by repeat (first|exact Aa.refl _ _|refine Aa.drew ?_|refine Aa.alloc ?_ _)⟩
theorem xN (x:Bool)(c:Nat)(kb:Nat):
  O_ m (sx x 130 211) #[.pointer (some (S_ kb c)),b_ (-1)] w λe w'=>e=.returned (.tuple #[])/\Aa No w w':=by
 cases x<;>dsimp only[aF,aC]at*;gi_enter func130,ntmps130
 rotate_left
 gi_enter func211,ntmps211
 all_goals
  gi_wp2
  refine DI (P:=prog) No _ rfl rfl sU 31 68 [0,1,2,3,4,5,6,7,8,9,10,11,12,13,14,15,16,17,18,19,20,21,22,23,24,25,26,27,28,29,30] [] sU (by rfl) (λ_ _ _=>True) (λ_ _ _ _ _ h _=>h) _ _ rfl rfl ?_
  gi_wp2
  refine⟨rfl,sU,?_,(λi hi=>qx hi sJ),?_⟩
  .intro W a
   repeat' (refine AA ?_ ?_)
   all_goals first|exact dE|gi_wp2
  .intro u W a _;simp only[LC];gi_wp2;refine bodyPost_ret (results_none rfl _ _ _) rfl ?_;exact⟨sJ,(Aa.refl No w).drew.then a⟩
theorem xO (x:Bool)(c:Nat)(kb g cap i:Nat)(U:j_)(ks:X_)(l:List (W_))(h:Hd (sx x 186 188) w kb c U ks g cap l)(hi:l.length<=i+1)(t:i<=100000):
  O_ m (sx x 130 211) #[.pointer (some (S_ kb c)),b_ (i:Nat)] w λe w'=>e=.returned (.tuple #[])/\Aa No w w':=by
 have b:w.cell? (S_ kb c)=some (P_ g l.length cap):=(Ai h.k _).trans h.v;have f:¬((i:Int)<0):=wB
 have j:((l.length:Int)<=(i:Int)+1):=wB
 cases x<;>dsimp only[aF,aC]at*;gi_enter func130,ntmps130
 rotate_left
 gi_enter func211,ntmps211
 all_goals
  gi_wp2
  refine DI (P:=prog) No _ rfl rfl sU 31 68 [0,1,2,3,4,5,6,7,8,9,10,11,12,13,14,15,16,17,18,19,20,21,22,23,24,25,26,27,28,29,30] [] sU (by rfl) (λ_ _ _=>True) (λ_ _ _ _ _ h _=>h) _ _ rfl rfl ?_
  gi_wp2
  refine⟨rfl,sU,?_,(λi hi=>qx hi sJ),?_⟩
  .intro W a;have d:=a.has (w:=w.drew) b
   repeat' (refine AA ?_ ?_)
   all_goals first|exact dE|gi_wp2
  .intro u W a _;simp only[LC];gi_wp2;refine bodyPost_ret (results_none rfl _ _ _) rfl ?_;exact⟨sJ,(Aa.refl No w).drew.then a⟩
theorem xM (x:Bool)(c:Nat)(kb g cap i:Nat)(U:j_)(ks:X_)(l:List (W_))(h:Hd (sx x 186 188) w kb c U ks g cap l)(a b:W_)(V:l[i]?=some a)(hb:l[i+1]?=some b)(Z:i<=100000)(X:a.1+a.2<=100000)(Y:a.2+b.2<=100000):
  O_ m (sx x 130 211) #[.pointer (some (S_ kb c)),b_ (i:Nat)] w λe w'=>e=.returned (.tuple #[])/\Aa (yQ kb g) w w'/\w'.heap[kb]?=some (.cells (ks.setIfInBounds c (P_ g (F6 l i).length cap)) U (0,0))/\Mp (sx x 186 188) w' g cap (F6 l i):=by
 have J:w.cell? (S_ kb c)=some (P_ g l.length cap):=(Ai h.k _).trans h.v;have n:=h.apart;have E:=λm w=>Ο m w x g l.length cap (i+1) (i+2)
 have F:=λm w=>da9 m w x a.1 a.2
 obtain⟨G,H⟩:=h.mp.cells V;obtain⟨c2,c3⟩:=h.mp.cells hb;have S:=(Oc.1 hb).1;have N:¬((i:Int)<0):=wB
 have O:¬((l.length:Int)<=(i:Int)+1):=wB
 have Q:(i:Int)<(l.length:Int):=wB
 cases x<;>dsimp only[aF,aC]at*;gi_enter func130,ntmps130
 rotate_left
 gi_enter func211,ntmps211
 all_goals
  gi_wp2
  refine DI (P:=prog) No _ rfl rfl sU 30 68 [0,1,2,3,4,5,6,7,8,9,10,11,12,13,14,15,16,17,18,19,21,22,23,24,25,26,27,28,29] [20] sU (by rfl) (λ_ v W=>v=b_ (a.1+a.2:Nat)) (λ_ _ _ _ _ h _=>h) _ _ rfl rfl ?_
  gi_wp2
  refine⟨rfl,?_,?_,?_,?_⟩
  .kernel_rfl
  .intro W f;have I:=f.has (w:=w.drew) J;have d1:=f.has (w:=w.drew) G;have d2:=f.has (w:=w.drew) H;have d3:=f.has (w:=w.drew) c2
   repeat' (refine AA ?_ ?_)
   all_goals first|exact dE|gi_wp2
  .intro i hi u W f _;obtain rfl:i=20:=(by simpa using hi);refine BI rfl λKK K=>?_
   show wpListIn NF m prog _ _ _ (Act.put _ (some 24) (u 20)) _;gi_wp2_with ((first|gi_at_call 171|gi_at_call 237);refine(F _ _ wB).mono ?_;rintro e w1 ⟨rfl,q⟩);exact⟨_,rfl,q,sJ⟩
  .intro u W f y;have y:=y 20 sJ;show wpListIn NF m prog _ _ _ (Act.put _ (some 24) (u 20)) _;rw[y];have d:Aa No w W:=(Aa.refl No w).drew.then f;have o:=d.old h.k id;have q1:W.cell? (S_ kb c)=some (P_ g l.length cap):=(Ai o _).trans h.v;have m1:=Rw.keep h.mp d id;obtain⟨I,d1⟩:=Mp.cells m1 V;obtain⟨d2,d3⟩:=Mp.cells m1 hb;have R:=Rw.fz m1 (i*2+1);by_cases D:a.1+a.2=b.1
   .have s:(a.1:Int)+(a.2:Int)=(b.1:Int):=wB;have m2:=Mp.O8 m1 V (a.2+b.2);have j:(l.set i (a.1,a.2+b.2)).length=l.length:=List.length_set ..;have m3:=Rw.keep m2 (Aa.refl No _).drew id;rw[j]at m3;push_cast at m3;have dl:=λm=>E m _ _ m3 wB wB
    push_cast at dl;have t:((W.setCell (S_ g (i*2+1)) (b_ ((a.2:Int)+b.2))).drew).heap[kb]?=some (N_ ks U):=(OI _ n).trans o;have r:Aa (yQ kb g) w (W.setCell (S_ g (i*2+1)) (b_ ((a.2:Int)+b.2))).drew:=(d.no.setCell _ λ_=>.inr rfl).drew;gi_wp2;gi_region
    all_goals gi_wp2_with ((first|gi_at_call 132|gi_at_call 124);refine(dl _).mono ?_;rintro e w2 ⟨rfl,A,z⟩;have p:=A.old t n;have L:=Cf p c;have M:=(Ai p c).trans h.v)
    all_goals go_end0
    all_goals
     have B:=aa1 V hb D
     have C:(F6 l i).length=i+1+(l.length-(i+2)):=by rw[B];simp only[g_,eP,List.length_drop,j];omega
     rw[Yb,Yc,<-YF,<-B,<-C]at z
     exact⟨sJ,(r.trans A (λ_ _ h=>.inr h)).setCell _ (λ_=>.inl rfl),by rw[C];exact Ap p _,Rw.keep z ((Aa.refl (At kb) _).setCell _ λ_=>rfl) n.symm⟩
   .have s:((a.1:Int)+(a.2:Int) !=(b.1:Int))=true:=(by simp;omega);gi_wp2;refine bodyPost_ret (results_none rfl _ _ _) rfl ?_;rw[ar4 V hb D];exact⟨sJ,d.no,by rw[h.self];exact o,m1⟩
end
end Go.Fxa
