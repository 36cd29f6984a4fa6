/- Rows of memory: elements of so -/
import Derived.Test.YtmhplpfpcnjekaaGreatA18
import Derived.ArgAppend
namespace Go.Fxa
open Conc Proofs RowKit Proofs.Tryz
set_option maxRecDepth 1000000
set_option maxHeartbeats 0
variable {e sT ty T ti U:j_} {s y o i g IQ Hu CV sCap n c m k q cap kb:Nat} {l:List (W_)} {cs:U_} {a:f_} {cur ks:X_} {w:o_} {r b:Nat×Nat} {p:Nat×Nat->Bool}
structure Ob (P:l_) (t e:j_) (z:n_) (s y:Nat):Prop where
 und:P.underlying t=some (.slice e)
 info:(P.info? e).map (λi=>(i.zero,i.size,i.bytes))=some (some z,s,y)
 zs:z.cells.size=s
 pos:0<s
 one:∀x∈z.cells.toList,x.oneCell'=true
theorem Ob.parts {P:l_} {t:j_} {z:n_} (E:Ob P t e z s y):∃i,P.info? e=some i/\i.zero=some z/\i.size=s/\i.bytes=y:=by
 have:=E.info;cases h:P.info? e with
 |none=>rw[h]at this;cases this
 |some i=>
  rw[h]at this
  simp only[Option.map_some,qx,lJ]at this
  exact⟨i,rfl,this⟩
def RG (l:U_) (o:Nat) (cs:U_):U_:=l.take o++cs++l.drop (o+cs.length)
theorem Oh {l:U_} (h:o+cs.length<=l.length):(RG l o cs).length=l.length:=by
 simp only[RG,jR,ed,List.length_drop];omega
theorem ax5 {l:U_}:RG l o []=l:=by simp[RG]
theorem Ug {l:U_} (h:o+cs.length<=l.length):(RG l o cs)[i]?=if i<o then l[i]? else if i<o+cs.length then cs[i-o]? else l[i]?:=by
 unfold RG;rw[List.append_assoc,List.getElem?_append,List.getElem?_append];simp only[ed,List.getElem?_take,List.getElem?_drop];have c:min o l.length=o:=zD
 rw[c];by_cases a:i<o
 .simp[a]
 .simp only[a,if_false];by_cases b:i<o+cs.length
  .have:i-o<cs.length:=zD;simp[b,this]
  .have:¬i-o<cs.length:=zD;simp only[b,this,if_false]
   congr 1
   omega
section
variable {P:l_} {t e:j_} {z:n_} {s y:Nat} {w:o_}
theorem xP (E:Ob P t e z s y)
  (B:w.heap[g]?=some (N_ cur T)) (C:cs.length=Nat.min CV IQ*s) (u:∀j v,cs[j]?=some v->w.cell? (a.add j)=some v) (x:o+cs.length<=cur.size) (A:∀v∈cs,v.oneCell'=true):
  (Builtin.copy_ #[t,sT] ty #[.slice (some (S_ g o)) IQ Hu,.slice (some a) CV sCap]).run P w=.ok (goInt (Nat.min CV IQ)) (w.setRow g (RG cur.toList o cs).toArray):=by
 obtain⟨i,d,k,f,h⟩:=E.parts;have c:=run_loadCells_list (P:=P) w a cs u;have b:=run_storeCells_at P g o T cs 0 cur w B (by simpa using x) A;simp only[Nat.add_zero]at b;rw[C]at c;simp[Builtin.copy_,run_underlying E.und,Builtin.lenOf,Builtin.firstCells,sizeOf,typeInfo,d,f,c,b,RG]
theorem vZ (E:Ob P t e z s y) {d a:d_ f_} (h:Nat.min CV IQ=0):
  (Builtin.copy_ #[t,sT] ty #[.slice d IQ Hu,.slice a CV sCap]).run P w=.ok (goInt 0) w:=by
 obtain⟨i,b,g,c,f⟩:=E.parts;cases a<;>cases d<;>simp[Builtin.copy_,run_underlying E.und,Builtin.lenOf,Builtin.firstCells,sizeOf,typeInfo,b,h,storeCells,loadCells,loadCellsFrom]
theorem Ur (E:Ob P t e z s y) (n:Nat):(Builtin.zeroCells z.cells n).toList.length=n*s:=by simp[Builtin.zeroCells,E.zs]
theorem kF (E:Ob P t e z s y) (n:Nat):∀v∈(Builtin.zeroCells z.cells n).toList,v.oneCell'=true:=by
 intro v a;simp only[Builtin.zeroCells,Array.toList_map,List.mem_map]at a;obtain⟨i,_,rfl⟩:=a;have:i % z.cells.size<z.cells.size:=Nat.mod_lt _ (by rw[E.zs];exact E.pos);rw[getElem!_pos z.cells _ this];exact E.one _ zF
theorem br2 (E:Ob P t e z s y) (u:w.heap[g]?=some (N_ cur T)) (v:o+n*s<=cur.size):
  (Builtin.clear_ #[t] ty #[.slice (some (S_ g o)) n c]).run P w=.ok (.tuple #[]) (w.setRow g (RG cur.toList o (Builtin.zeroCells z.cells n).toList).toArray):=by
 obtain⟨i,d,f,h,j⟩:=E.parts;have a:=run_storeCells_at P g o T (Builtin.zeroCells z.cells n).toList 0 cur w u (by simpa [Ur E]using v) (kF E n);simp only[Nat.add_zero]at a;cases n with
 |zero=>
  have b:(Builtin.zeroCells z.cells 0).toList=[]:=by simp[Builtin.zeroCells]
  rw[b,ax5]
  rw[setRow_self w g _ T (0,0) (by simpa using u)]
  simp[Builtin.clear_,run_underlying E.und]
 |succ n=>simp[Builtin.clear_,run_underlying E.und,zeroValue,typeInfo,d,f,a,RG]
theorem l7 (E:Ob P t e z s y) {v:U_} (D:w.heap[g]?=some (N_ cur T)) (F:v.length=m*s)
  (x:∀j u,v[j]?=some u->w.cell? (a.add j)=some u) (C:∀u∈v,u.oneCell'=true) (A:CV+m<=sCap) (B:CV*s+v.length<=cur.size):
  (Builtin.append_ #[t,t] ty #[P_ g CV sCap,.slice (some a) m c]).run P w=.ok (P_ g (CV+m) sCap) (w.setRow g (RG cur.toList (CV*s) v).toArray):=by
 obtain⟨i,k,n,b,l⟩:=E.parts;have f:=run_firstCells_some (P:=P) w i.size m a m c v (by rw[b];exact F) x;have d:=run_storeCells_at P g (CV*s) T v 0 cur w D (by simpa using B) C;simp only[Nat.add_zero]at d;have h:((R_ g):f_).add (CV*s)=(S_ g (CV*s)):=by unfold Addr.add;split<;>simp_all
 rw[b]at f;simp[Builtin.append_,run_underlying E.und,sizeOf,typeInfo,k,b,Builtin.lenOf,A,f,h,d,RG]
theorem ar7 (E:Ob P t e z s y) (H:P.underlying ti=some (.int .i64)) {b:f_} {B:U_} (F:B.length=CV*s) (C:∀j v,B[j]?=some v->w.cell? (b.add j)=some v)
  (J:0<m) (D:sCap<CV+m) (G:CV+m<=1000000) (I:y<=1000):
  (Builtin.append_ #[t,ti] ty #[.slice (some b) CV sCap,b_ (m:Nat)]).run P w=.ok (P_ w.heap.size (CV+m) (grownCap w (CV+m) sCap e)) (w.drew.alloc (.cells (B.toArray++(Builtin.zeroCells z.cells m)++Builtin.zeroCells z.cells (grownCap w (CV+m) sCap e-(CV+m))) e)):=by
 obtain⟨i,r,x,k,d⟩:=E.parts;have p:∀w:o_,(asIntOf (b_ (m:Nat))).run P w=.ok (.i64,(m:Int)) w:=λ_=>rfl
 have q:IntKind.i64.wrap (m:Int)=m:=by unfold IntKind.wrap;simp[IntKind.bits,IntKind.signed];split<;>omega
 have u:¬(CV+m<=sCap):=zD
 have c:¬(9223372036854775807<((CV:Int)+(m:Int))):=zD
 have o:(CV+m)*y<=1000000*1000:=Nat.mul_le_mul G I;have a:¬(281474976710656<Builtin.nextslicecap (CV+m) sCap*i.bytes):=by
  have:=growslice_fits D (bytes:=i.bytes) (by rw[d];omega)
  omega
 have f:=run_firstCells_some (P:=P) w.drew i.size CV b CV sCap B (by rw[k];exact F) (by simpa using C);have n:¬(281474976710656<(m:Int)*(i.bytes:Int)):=by
  have A:m*i.bytes<=1000000*1000:=by rw[d];exact Nat.mul_le_mul zD I
  have:((m*i.bytes:Nat):Int)=(m:Int)*(i.bytes:Int):=zF
  omega
 have g:¬(m*i.size=0):=by
  rw[k];intro h
  obtain h|h:=Nat.mul_eq_zero.1 h
  .omega
  .have:=E.pos;omega
 have l:¬((m:Int)<0):=zD
 rw[k]at f g;simp[Builtin.append_,run_underlying E.und,run_underlying H,sizeOf,typeInfo,zeroValue,r,x,k,Builtin.lenOf,u,c,a,n,l,g,asInt,p,q,Question.forced,f,newRow,grownCap]
end
structure Rw (e:j_) (s:Nat) (w:o_) (g n cap:Nat) (xs:U_):Prop where
 blk:∃cur,w.heap[g]?=some (N_ cur e)/\cur.size=cap*s/\cur.toList.take (n*s)=xs
 le:n<=cap
 max:cap<=maxLen
 len:xs.length=n*s
 one:∀x∈xs,x.oneCell'=true
section
variable {P:l_} {e:j_} {s:Nat} {w w':o_} {g n cap:Nat} {xs:U_} {S:Nat->Prop}
theorem Rw.keep (h:Rw e s w g n cap xs) (j:Ac S w w') (t:¬S g):Rw e s w' g n cap xs:=by
 obtain⟨⟨i,a,b,c⟩,d,f,l,o⟩:=h;exact⟨⟨i,j.old a t,b,c⟩,d,f,l,o⟩
theorem Rw.lt (h:Rw e s w g n cap xs):g<w.heap.size:=let ⟨_,a,_⟩:=h.blk;Dt a
theorem Rw.cell (h:Rw e s w g n cap xs) (f:i<n*s):w.cell? (S_ g i)=xs[i]?:=by
 obtain⟨d,a,b,c⟩:=h.blk;rw[Ah a,<-c,List.getElem?_take,rC f,Array.getElem?_toList]
theorem Rw.cells (h:Rw e s w g n cap xs):∀j v,xs[j]?=some v->w.cell? (((R_ g):f_).add j)=some v:=by
 intro j v a;have c:j<n*s:=by rw[<-h.len];exact(KT.1 a).1
 have b:((R_ g):f_).add j=(S_ g j):=by unfold Addr.add;split<;>simp_all
 rw[b,h.cell c,a]
theorem Rw.fz (h:Rw e s w g n cap xs) (i:Nat):w.frozen? (S_ g i)=false:=let ⟨_,a,_⟩:=h.blk;BQ a i
theorem Ac.setRow {a:o_} (h:Ac S a w) (g:Nat) (cs:X_) (d:g<a.heap.size->S g):Ac S a (w.setRow g cs):=by
 refine⟨h.os,h.output,?_,λk b c=>?_⟩
 .simp[World.setRow];exact h.size
 .have:k≠g:=λe=>c (by subst e;exact d b)
  rw[<-h.block k b c];simp[World.setRow,jJ,this.symm]
theorem Vb (h:Rw e s w g n cap xs) {l:U_} (j:l.length=cap*s) {ys:U_} (t:m<=cap) (f:l.take (m*s)=ys) (u:∀x∈ys,x.oneCell'=true):Rw e s (w.setRow g l.toArray) g m cap ys:=by
 obtain⟨d,a,b,c⟩:=h.blk;refine⟨⟨l.toArray,setRow_heap w g d _ e _ a,by simpa using j,by simpa using f⟩,t,h.max,?_,u⟩;rw[<-f,ed,j];exact Nat.min_eq_left (Nat.mul_le_mul_right _ t)
end
theorem XH:Ob prog 90 186 (.agg #[b_ 0,b_ 0]) 2 16:=⟨underlying90,sJ,by rfl,wB,by intro x a;simp[Value.cells]at a;subst a;rfl⟩
section
variable {P:l_} {t e:j_} {z:n_} {s y:Nat} {w:o_} {g n cap i j:Nat} {xs:U_}
theorem be9 (h:Rw e s w g n cap xs):(xs.drop (j*s)).length=(n-j)*s:=by
 rw[List.length_drop,h.len,Nat.sub_mul]
theorem rE (E:Ob P t e z s y) (h:Rw e s w g n cap xs) (J:i<j) (K:j<=n):∃w',(Builtin.append_ #[t,t] ty #[P_ g i cap,.slice (if cap=j then some (R_ g)else some (S_ g (j*s))) (n-j) (cap-j)]).run P w=.ok (P_ g (i+(n-j)) cap) w'/\Ac (At g) w w'/\Rw e s w' g (i+(n-j)) cap (xs.take (i*s)++xs.drop (j*s)):=by
 obtain⟨a,H,b,A⟩:=h.blk;have f:=h.le;have q:=be9 (j:=j) h;have e1:i*s+(n-j)*s=(i+(n-j))*s:=by rw[Nat.add_mul]
 have e2:(i+(n-j))*s<=n*s:=Nat.mul_le_mul_right _ zD;have e3:n*s<=cap*s:=Nat.mul_le_mul_right _ f;have d:∀k u,(xs.drop (j*s))[k]?=some u->w.cell? ((if cap=j then((R_ g):f_)else(S_ g (j*s))).add k)=some u:=by
  intro k u l
  rw[List.getElem?_drop]at l
  have B:=(KT.1 l).1
  rw[h.len]at B
  have:cap≠j:=by
   intro e;subst e
   have:=Nat.mul_le_mul_right s f
   omega
  rw[ru this]
  have G:((S_ g (j*s)):f_).add k=(S_ g (j*s+k)):=by unfold Addr.add;split<;>simp_all
  rw[G,h.cell B,l]
 have C:∀u∈xs.drop (j*s),u.oneCell'=true:=λu l=>h.one u (List.mem_of_mem_drop l)
 have F:=l7 (w:=w) (m:=n-j) (c:=cap-j) (CV:=i) (sCap:=cap) E (ty:=ty) H q d C zD (by rw[b];omega);have p:(if cap=j then some ((R_ g):f_)else some (S_ g (j*s)))=some (if cap=j then((R_ g):f_)else(S_ g (j*s))):=by split<;>rfl
 rw[p];have v:(RG a.toList (i*s) (xs.drop (j*s))).length=cap*s:=by rw[Oh (by rw[q,Array.length_toList,b];omega)];simpa using b
 refine⟨_,F,(Ac.refl _ _).setRow _ _ λ_=>rfl,Vb h v zD ?_ ?_⟩
 .have I:xs.take (i*s)=a.toList.take (i*s):=by rw[<-A,List.take_take,Nat.min_eq_left (Nat.mul_le_mul_right _ zD)]
  unfold RG;have D:(a.toList.take (i*s)).length=i*s:=by rw[ed,Array.length_toList,b];exact Nat.min_eq_left zD
  have r:(a.toList.take (i*s)++xs.drop (j*s)).length=(i+(n-j))*s:=by rw[jR,D,q,e1]
  rw[I,<-r,List.take_left]
 .intro x o;obtain o|o:=gJ.1 o
  .exact h.one x (List.mem_of_mem_take o)
  .exact C x o
theorem QF (E:Ob P t e z s y) (h:Rw e s w g k cap xs) (u:k+q<=cap):∃w',(Builtin.clear_ #[t] ty #[.slice (some (S_ g (k*s))) q c]).run P w=.ok (.tuple #[]) w'/\Ac (At g) w w'/\Rw e s w' g k cap xs:=by
 obtain⟨b,i,a,f⟩:=h.blk;have e1:k*s+q*s=(k+q)*s:=by rw[Nat.add_mul]
 have e2:(k+q)*s<=cap*s:=Nat.mul_le_mul_right _ u;have d:(RG b.toList (k*s) (Builtin.zeroCells z.cells q).toList).length=cap*s:=by rw[Oh (by rw[Ur E];simp[a];omega)];simpa using a
 refine⟨_,br2 E i (by rw[a];omega),(Ac.refl _ _).setRow _ _ λ_=>rfl,Vb h d h.le ?_ h.one⟩;unfold RG;rw[List.append_assoc,List.take_append_of_le_length (by rw[ed,Array.length_toList,a];exact Nat.le_min.2 ⟨w_ _,zD⟩),List.take_take,Nat.min_self,f]
end
section
variable (m:Nat) (w:o_)
theorem zh (g n cap i j:Nat) (xs:U_) (B:Rw 186 2 w g n cap xs) (z:i<j) (A:j<=n):
  O_ m 132 #[P_ g n cap,b_ (i:Nat),b_ (j:Nat)] w λe w'=>e=.returned (P_ g (i+(n-j)) cap)/\Ac (At g) w w'/\Rw 186 2 w' g (i+(n-j)) cap (xs.take (i*2)++xs.drop (j*2)):=by
 have s:=B.le;have t:¬((j:Int)<(i:Int)):=zD
 have v:¬((n:Int)<(j:Int)):=zD
 have x:¬((cap:Int)<(n:Int)):=zD
 by_cases a:cap=j
 all_goals
  gi_enter func132,ntmps132
  gi_wp2
  refine CG (P:=prog) No _ rfl rfl sJ 6 33 [0,1,2,3,4,5] [] sJ (by rfl) (λ_ _ _=>True) (λ_ _ _ _ _ h _=>h) _ _ rfl rfl ?_
  gi_wp2
  refine⟨rfl,sJ,?_,(λi r=>ql r zF),?_⟩
  .intro W d
   repeat' (refine Au ?_ ?_)
   all_goals first|exact eu|gi_wp2
  .intro u W d _;simp only[JF];obtain⟨w1,b,f,o⟩:=rE (w:=W) (ty:=90) XH (B.keep ((Ac.refl No w).drew.then d) id) z A;obtain⟨w2,k,l,p⟩:=QF (c:=cap-(i+(n-j))) (q:=n-(i+(n-j))) (ty:=0) XH o zD
   first|(rw[rC a]at b;simp only[a,Nat.sub_self]at b k)|rw[ru a]at b
   refine Cj rfl (.tmp 22) (.tmp 25) _ rfl rfl rfl b ?_;gi_wp2;go_ret;exact⟨by simp[a],(((Ac.refl _ _).drew.then d.no).then f).then l,p⟩
end
theorem ak3 {l:U_} (h:o+cs.length<=k) (d:k<=l.length):(RG l o cs).take k=RG (l.take k) o cs:=by
 apply List.ext_getElem?;intro i;rw[List.getElem?_take,Ug zD,Ug (by rw[ed];omega),List.getElem?_take];by_cases a:i<k
 .simp[a]
 .have:¬i<o:=zD
  have:¬i<o+cs.length:=zD
  simp[*]
section
variable {P:l_} {t e:j_} {z:n_} {s y:Nat} {w:o_} {g n cap i:Nat} {xs ys:U_}
theorem ag1 (E:Ob P t e z s y) (h:Rw e s w g n cap xs) (C:Nat.min CV IQ=q) (A:cs.length=q*s) (u:∀j v,cs[j]?=some v->w.cell? (a.add j)=some v) (B:∀v∈cs,v.oneCell'=true) (D:o+q<=n):
  ∃w',(Builtin.copy_ #[t,sT] ty #[.slice (some (S_ g (o*s))) IQ Hu,.slice (some a) CV sCap]).run P w=.ok (goInt q) w'/\Ac (At g) w w'/\Rw e s w' g n cap (RG xs (o*s) cs):=by
 obtain⟨k,l,c,i⟩:=h.blk;have f:=h.le;have e1:o*s+q*s<=n*s:=by rw[<-Nat.add_mul];exact Nat.mul_le_mul_right _ D
 have e3:n*s<=cap*s:=Nat.mul_le_mul_right _ f;have d:=xP (ty:=ty) (sT:=sT) (IQ:=IQ) (Hu:=Hu) (CV:=CV) (sCap:=sCap) (o:=o*s) E l (by rw[C];exact A) u (by rw[A,c];omega) B;rw[C]at d;refine⟨_,d,(Ac.refl _ _).setRow _ _ λ_=>rfl,Vb h ?_ f ?_ ?_⟩
 .rw[Oh (by rw[A,Array.length_toList,c];omega)];simpa using c
 .rw[ak3 (by rw[A];exact e1) (by rw[Array.length_toList,c];exact e3),i]
 .intro x b;unfold RG at b;obtain b|b:=gJ.1 b
  .obtain b|b:=gJ.1 b
   .exact h.one x (List.mem_of_mem_take b)
   .exact B x b
  .exact h.one x (List.mem_of_mem_drop b)
theorem jP (E:Ob P t e z s y) (h:Rw e s w g n cap xs) (G:ys.length=m*s) (H:∀j v,ys[j]?=some v->w.cell? (a.add j)=some v) (K:∀v∈ys,v.oneCell'=true) (I:n+m<=1000000) (L:y<=1000):
  ∃g' J w',(Builtin.append_ #[t,t] ty #[P_ g n cap,.slice (some a) m sCap]).run P w=.ok (P_ g' (n+m) J) w'/\Rw e s w' g' (n+m) J (xs++ys)/\(g'=g/\Ac (At g) w w'\/g'=w.heap.size/\Ac No w w'):=by
 obtain⟨l,C,b,f⟩:=h.blk;have A:∀x∈xs++ys,x.oneCell'=true:=λx i=>by
  obtain i|i:=gJ.1 i
  .exact h.one x i
  .exact K x i
 by_cases r:n+m<=cap
 .have e1:n*s+m*s<=cap*s:=by rw[<-Nat.add_mul];exact Nat.mul_le_mul_right _ r
  have k:=l7 (w:=w) (m:=m) (c:=sCap) (CV:=n) (sCap:=cap) E (ty:=ty) C G H K r (by rw[G,b];exact e1);refine⟨g,cap,_,k,Vb h ?_ r ?_ A,.inl ⟨rfl,(Ac.refl _ _).setRow _ _ λ_=>rfl⟩⟩
  .rw[Oh (by rw[G,Array.length_toList,b];exact e1)];simpa using b
  .unfold RG;have d:(l.toList.take (n*s)++ys).length=(n+m)*s:=(by rw[f,jR,h.len,G,Nat.add_mul]);rw[<-d,List.take_left,f]
 .obtain⟨ii,D,F,B,o⟩:=E.parts;have u:(n+m)*y<=1000000*1000:=Nat.mul_le_mul I L;have k:=run_append_grow (P:=P) w t ty e ii z E.und D F (R_ g) n cap xs (by rw[B];exact h.len) h.cells a m sCap ys (by rw[B];exact G) H zD zD (growslice_fits zD (by rw[o];omega));have q:n+m<=maxLen:=by simp only[maxLen];omega
  have p:=grownCap_ge w (n+m) cap e;refine⟨_,_,_,k,⟨⟨_,Y7 rfl,?_,?_⟩,p,grownCap_le_maxLen w (n+m) cap e q,?_,A⟩,.inr ⟨rfl,(Ac.refl No w).drew.alloc _⟩⟩
  .simp only[Array.size_append,List.size_toArray,size_zeroCells,E.zs,h.len,G,<-Nat.add_mul]
   congr 1
   omega
  .simp only[Array.toList_append,List.append_assoc];rw[<-List.append_assoc];have d:(xs++ys).length=(n+m)*s:=(by rw[jR,h.len,G,Nat.add_mul]);rw[<-d];exact List.take_left
  .rw[jR,h.len,G,Nat.add_mul]
theorem qX (E:Ob P t e z s y) (h:Rw e s w g n cap xs) (D:i<=n) (F:0<m) (u:cap<i+m) (A:i+m<=1000000) (G:y<=1000) (B:P.underlying ti=some (.int .i64)):
  ∃C w',(Builtin.append_ #[t,ti] ty #[P_ g i cap,b_ (m:Nat)]).run P w=.ok (P_ w.heap.size (i+m) C) w'/\Rw e s w' w.heap.size (i+m) C (xs.take (i*s)++(Builtin.zeroCells z.cells m).toList)/\Ac No w w':=by
 have l:i*s<=n*s:=Nat.mul_le_mul_right _ D;have a:(xs.take (i*s)).length=i*s:=by rw[ed,h.len];exact Nat.min_eq_left l
 have p:=ar7 (w:=w) (ty:=ty) E B (b:=(R_ g)) (sCap:=cap) a (λj v d=>h.cells j v (by rw[List.getElem?_take]at d;split at d;exact d;cases d)) F u A G;have o:i+m<=maxLen:=by simp only[maxLen];omega
 have f:=grownCap_ge w (i+m) cap e;refine⟨_,_,p,⟨⟨_,Y7 rfl,?_,?_⟩,f,grownCap_le_maxLen w (i+m) cap e o,?_,?_⟩,(Ac.refl No w).drew.alloc _⟩
 .simp only[Array.size_append,List.size_toArray,size_zeroCells,E.zs,a,<-Nat.add_mul]
  congr 1
  omega
 .simp only[Array.toList_append];have k:(xs.take (i*s)++(Builtin.zeroCells z.cells m).toList).length=(i+m)*s:=by rw[jR,a,Ur E,Nat.add_mul]
  rw[<-k];exact List.take_left
 .rw[jR,a,Ur E,Nat.add_mul]
 .intro x c;obtain c|c:=gJ.1 c
  .exact h.one x (List.mem_of_mem_take c)
  .exact kF E m x c
theorem yC (E:Ob P t e z s y) (h:Rw e s w g n cap xs) (Y:i<n) (X:n+1<=cap) {ty:Nat}:
  ∃w',(Builtin.copy_ #[t,t] ty #[.slice (some ⟨g,(i+1)*s,none⟩) (n+1-(i+1)) Hu,.slice (some (S_ g (i*s))) (n+1-i) sCap]).run P w=.ok (goInt ((n-i:Nat):Int)) w'/\Ac (At g) w w'/\
   ∀w2 a W V,Ac No w' w2->ys.length=s->(∀j v,ys[j]?=some v->w2.cell? (a.add j)=some v)->(∀v∈ys,v.oneCell'=true)->
    ∃w3,(Builtin.copy_ #[t,t] ty #[.slice (some (S_ g (i*s))) (n+1-i) W,.slice (some a) 1 V]).run P w2=.ok (goInt 1) w3/\Ac (At g) w2 w3/\Rw e s w3 g (n+1) cap (xs.take (i*s)++ys++xs.drop (i*s)):=by
 obtain⟨c,H,f,G⟩:=h.blk;have e1:i*s+s=(i+1)*s:=by rw[Nat.succ_mul]
 have e2:(n-i)*s=n*s-i*s:=Nat.sub_mul ..;have e3:i*s<=n*s:=Nat.mul_le_mul_right _ zD;have e4:n*s+s=(n+1)*s:=by rw[Nat.succ_mul]
 have T:(n+1)*s<=cap*s:=Nat.mul_le_mul_right _ X;have q:(xs.drop (i*s)).length=(n-i)*s:=by rw[List.length_drop,h.len,e2]
 have B:∀j v,(xs.drop (i*s))[j]?=some v->w.cell? (((S_ g (i*s)):f_).add j)=some v:=by
  intro k u C
  rw[List.getElem?_drop]at C
  have I:=(KT.1 C).1
  rw[h.len]at I
  have L:((S_ g (i*s)):f_).add k=(S_ g (i*s+k)):=by unfold Addr.add;split<;>simp_all
  rw[L,h.cell I,C]
 have K:Nat.min (n+1-i) (n+1-(i+1))=n-i:=by
  show min _ _=_
  omega
 have J:∀u∈xs.drop (i*s),u.oneCell'=true:=λu C=>h.one u (List.mem_of_mem_drop C)
 have p:=xP (ty:=ty) (sT:=t) (IQ:=n+1-(i+1)) (Hu:=Hu) (CV:=n+1-i) (sCap:=sCap) (o:=(i+1)*s) E H (by rw[K];exact q) B (by rw[q,f];omega) J;rw[K]at p;have O:n+1-(i+1)=n-i:=zD
 have l:(RG c.toList ((i+1)*s) (xs.drop (i*s))).length=cap*s:=by rw[Oh (by rw[q,Array.length_toList,f];omega)];simpa using f
 refine⟨_,by rw[O]at p ⊢;exact p,(Ac.refl _ _).setRow _ _ λ_=>rfl,?_⟩;intro w2 a W V Q b S D;have r:=Q.old (setRow_heap w g c (RG c.toList ((i+1)*s) (xs.drop (i*s))).toArray e (0,0) H) id;have A:Nat.min 1 (n+1-i)=1:=by
  show min _ _=_
  omega
 have m:=xP (ty:=ty) (sT:=t) (IQ:=n+1-i) (Hu:=W) (CV:=1) (sCap:=V) (o:=i*s) (cs:=ys) E r (by rw[A,b];omega) S (by rw[b,List.size_toArray,l];omega) D;rw[A]at m;refine⟨_,m,(Ac.refl _ _).setRow _ _ λ_=>rfl,⟨⟨_,setRow_heap w2 g _ _ e (0,0) r,?_,?_⟩,X,h.max,?_,?_⟩⟩
 .rw[List.size_toArray,Oh (by rw[b];simp only[l];omega)];simpa using l
 .show(RG (RG c.toList ((i+1)*s) (xs.drop (i*s))) (i*s) ys).take ((n+1)*s)=_;apply List.ext_getElem?;intro k;rw[List.getElem?_take,Ug (by rw[l,b];omega),Ug (by rw[q,Array.length_toList,f];omega),List.append_assoc,List.getElem?_append,List.getElem?_append,List.getElem?_take,List.getElem?_drop,b,q,ed,h.len,Nat.min_eq_left e3];have d:∀j,j<n*s->c.toList[j]?=xs[j]?:=λj R=>by rw[<-G,List.getElem?_take,rC R]
  by_cases F:k<i*s
  .have:k<(n+1)*s:=zD;have:k<(i+1)*s:=zD;simp only[*,if_true];exact d k zD
  .by_cases c2:k<i*s+s
   .have c3:k<(n+1)*s:=zD;have c4:k-i*s<s:=zD;simp only[F,c2,c3,c4,if_true,if_false]
   .have c4:¬k-i*s<s:=zD;have M:¬k<(i+1)*s:=zD;by_cases c3:k<(n+1)*s
    .have N:k<(i+1)*s+(n-i)*s:=zD;simp only[F,c2,c3,c4,M,N,if_true,if_false];rw[List.getElem?_drop]
     congr 1
     omega
    .simp only[F,c2,c3,c4,if_false];rw[List.getElem?_eq_none];rw[q];omega
 .rw[jR,jR,q,b,ed,h.len,Nat.min_eq_left e3];omega
 .intro x d;obtain d|d:=gJ.1 d
  .obtain d|d:=gJ.1 d
   .exact h.one x (List.mem_of_mem_take d)
   .exact D x d
  .exact J x d
def LD (xs ys:U_) (k:Nat):U_:=xs.take k++ys++xs.drop k
theorem yD (E:Ob P t e z s y) {K:Nat} {R:Nat} {L:U_} (S:Rw e s w K (n+1) R (xs.take (i*s)++L)) (W:i<n) (O:xs.length=n*s) (J:ys.length=s) (V:∀j v,ys[j]?=some v->w.cell? (a.add j)=some v) (Q:∀v∈ys,v.oneCell'=true):
  ∃w',(Builtin.copy_ #[t,t] ty #[.slice (some (S_ K (i*s))) (n+1-i) Hu,.slice (some a) 1 sCap]).run P w=.ok (goInt 1) w'/\Ac (At K) w w'/\
   ∀w2 N M,Ac No w' w2->Rw e s w2 g n cap xs->∃w3,(Builtin.copy_ #[t,t] ty #[.slice (some ⟨K,(i+1)*s,none⟩) (n+1-(i+1)) N,.slice (some (S_ g (i*s))) (n-i) M]).run P w2=.ok (goInt ((n-i:Nat):Int)) w3/\Ac (At K) w2 w3/\Rw e s w3 K (n+1) R (LD xs ys (i*s)):=by
 have e3:i*s<=n*s:=Nat.mul_le_mul_right _ zD;have e1:i*s+s=(i+1)*s:=by rw[Nat.succ_mul]
 have e2:(n-i)*s=n*s-i*s:=Nat.sub_mul ..;have e4:n*s+s=(n+1)*s:=by rw[Nat.succ_mul]
 have p:Nat.min 1 (n+1-i)=1:=by
  show min _ _=_
  omega
 have q:L.length=(n+1)*s-i*s:=by
  have:=S.len
  rw[jR,ed,O,Nat.min_eq_left e3]at this
  omega
 obtain⟨w',m,f,B⟩:=ag1 (Hu:=Hu) (sCap:=sCap) (o:=i) (cs:=ys) (ty:=ty) (sT:=t) E S p (by rw[J];omega) V Q zD;refine⟨w',m,f,?_⟩;intro w2 N M D l;have A:(xs.drop (i*s)).length=(n-i)*s:=by rw[List.length_drop,O,e2]
 have b:∀j v,(xs.drop (i*s))[j]?=some v->w2.cell? (((S_ g (i*s)):f_).add j)=some v:=by
  intro k u c
  rw[List.getElem?_drop]at c
  have x:=(KT.1 c).1
  rw[l.len]at x
  have C:((S_ g (i*s)):f_).add k=(S_ g (i*s+k)):=by unfold Addr.add;split<;>simp_all
  rw[C,l.cell x,c]
 have G:Nat.min (n-i) (n+1-(i+1))=n-i:=by
  show min _ _=_
  omega
 obtain⟨w3,I,h,r⟩:=ag1 (Hu:=N) (sCap:=M) (o:=i+1) (cs:=xs.drop (i*s)) (ty:=ty) (sT:=t) E (B.keep D id) G A b (λu c=>l.one u (List.mem_of_mem_drop c)) zD;refine⟨w3,I,h,?_⟩;have d:(xs.take (i*s)).length=i*s:=by rw[ed,O];exact Nat.min_eq_left e3
 have q1:RG (xs.take (i*s)++L) (i*s) ys=xs.take (i*s)++(ys++L.drop s):=by
  unfold RG
  rw[List.take_left' d,J,List.drop_append,d,List.drop_of_length_le zD,List.nil_append,List.append_assoc]
  congr 3
  omega
 have H:RG (xs.take (i*s)++(ys++L.drop s)) ((i+1)*s) (xs.drop (i*s))=LD xs ys (i*s):=by
  have F:(xs.take (i*s)++ys++L.drop s).drop ((i+1)*s+(xs.drop (i*s)).length)=[]:=List.drop_of_length_le (by rw[jR,jR,d,J,List.length_drop,q,A];omega)
  unfold RG LD
  rw[<-List.append_assoc (xs.take (i*s)),List.take_left' (by rw[jR,d,J,e1]),F,List.append_nil]
 rw[q1,H]at r;exact r
end
theorem lC {P:Program} {t e:TypeId} {z:Value} (E:Ob P t e z s y) {w:World} {f:FuncId} (K:∃fn J,P.funcs[f]?=some fn/\(fn.name== "runtime.NumGoroutine")=false/\fn.body.isNone=true/\Extern.findNext fn=none/\Extern.find fn=some (Extern.SlicesOverlaps.overlaps #[t,t] J))
  {a b o la lb ca cb:Nat} (ne:a≠b) {x u:X_} {T U:j_} (H:w.heap[a]?=some (N_ x T)) (I:w.heap[b]?=some (N_ u U)):(callFunc f #[P_ a la ca,.slice (some (S_ b o)) lb cb]).run P w=.ok (.value (.bool false)) w:=by
 obtain⟨fn,J,p,q,r,v,A⟩:=K;obtain⟨i,d,G,g,F⟩:=E.parts;have j:w.frozen? (R_ a)=false:=BQ H 0;have k:w.frozen? (S_ b o)=false:=BQ I o;have B:(a==b)=false:=by simpa using ne
 have e1:(callFunc f #[P_ a la ca,.slice (some (S_ b o)) lb cb]).run P w=((mark (.extern f))>>= λ_=>(Extern.SlicesOverlaps.overlaps #[t,t] J #[P_ a la ca,.slice (some (S_ b o)) lb cb])>>= λx=>pure (.value x):Sem Next).run P w:=by
  unfold callFunc
  show(match P.funcs[f]? with
   |none=>stuck "call: no such function"
   |some fn=>_:Sem Next).run P w=_
  rw[p]
  simp only[q,r,v,A,jH,if_false,if_true]
  first|done|rfl
 rw[e1,P5];have C:w.shape? a=some (T,x.size):=by simp[World.shape?,H]
 have D:w.shape? b=some (U,u.size):=by simp[World.shape?,I]
 have l:w.frozen? (S_ a x.size)=false:=BQ H _;have m:w.frozen? (S_ b u.size)=false:=BQ I _;by_cases n:la=0\/lb=0
 .have c:la=0\/lb=0\/s=0:=by obtain h|h:=n<;>simp[h]
  simp[run_underlying E.und,sizeOf,typeInfo,d,g,c]
 .have c:¬(la=0\/lb=0\/s=0):=by have:=E.pos;omega
  simp[run_underlying E.und,sizeOf,typeInfo,d,g,j,k,B,noView,viewAt,mayBeOne,stringish,c,C,D,l,m]
@[simp] theorem ct8:(169:h_)∈LF:=wB
@[simp] theorem ct6:(235:h_)∈LF:=wB
theorem cn6:∃fn d,prog.funcs[169]?=some fn/\(fn.name== "runtime.NumGoroutine")=false/\fn.body.isNone=true/\Extern.findNext fn=none/\Extern.find fn=some (Extern.SlicesOverlaps.overlaps #[90,90] d):=⟨(prog.funcs[169]?).getD default,#[4],by kernel_rfl,by kernel_rfl,by kernel_rfl,by kernel_rfl,by kernel_rfl⟩
section
variable (m:Nat) (w:o_)
theorem oG (g n cap v:Nat) (xs ys:U_) (u:Rw 186 2 w g n cap xs) (t:Rw 186 2 w v 1 1 ys) (x:n<=100000):
  O_ m 129 #[P_ g n cap,b_ (n:Nat),P_ v 1 1] w λe w'=>∃g' j,e=.returned (P_ g' (n+1) j)/\Ac (At g) w w'/\Rw 186 2 w' g' (n+1) j (xs++ys)/\(g'=g\/w.heap.size<=g'):=by
 obtain⟨g',j,w',b,d,c⟩:=jP (ty:=90) (sCap:=1) XH u t.len t.cells t.one zD zD;have f:=u.le;by_cases a:cap=n
 all_goals
  first|simp only[a]at b ⊢ | skip
  gi_enter func129,ntmps129
  gi_wp2_with (refine Cj rfl (.tmp 23) (.tmp 24) _ rfl rfl rfl b ?_)
  go_ret
  refine⟨g',j,zF,?_,d,?_⟩
  .obtain⟨_,h⟩|⟨_,h⟩:=c
   .exact h
   .exact h.no
  .obtain⟨h,_⟩|⟨h,_⟩:=c
   .exact .inl h
   .exact .inr zD
theorem je (g n cap I i:Nat) (xs ys:U_) (G:Rw 186 2 w g n cap xs) (H:Rw 186 2 w I 1 1 ys) (K:i<n) (L:n<=100000) (J:cap<n+1):
  O_ m 129 #[P_ g n cap,b_ (i:Nat),P_ I 1 1] w λe w'=>∃g' F,e=.returned (P_ g' (n+1) F)/\Ac (At g) w w'/\Rw 186 2 w' g' (n+1) F (LD xs ys (i*2))/\(g'=g\/w.heap.size<=g'):=by
 have x:=G.le;obtain⟨F,w1,q,b,f⟩:=qX (i:=i) (m:=n+1-i) (ty:=90) (ti:=3) XH G zD zD zD zD zD underlying3;have u:i+(n+1-i)=n+1:=zD
 rw[u]at q b;have r:=b.le;obtain⟨w2,p,s,c⟩:=yD (i:=i) (n:=n) (xs:=xs) (ys:=ys) (g:=g) (cap:=cap) (Hu:=F - i) (sCap:=1) (ty:=3) (a:=(R_ I)) XH b K G.len H.len (H.keep f id).cells H.one;have d:Ac No w w2:=f.trans (S':=At w.heap.size) s (λk v h=>by have:k=w.heap.size:=h;omega);obtain⟨w3,y,o,t⟩:=c w2.drew (F - (i+1)) (cap-i) (Ac.refl No w2).drew ((G.keep d id).keep (Ac.refl No w2).drew id);have l:n+1-(i+1)=n-i:=zD
 rw[l]at y;have j:Ac No w w3:=d.drew.trans (S':=At w.heap.size) o (λk v h=>by have:k=w.heap.size:=h;omega);have A:¬((n:Int)<(i:Int)):=zD
 have B:¬((n:Int)+1<=(cap:Int)):=zD
 have C:¬(F=i):=zD
 have D:¬(F=i+1):=zD
 have E:¬(cap=i):=zD
 have z:((n:Int)+1-(i:Int))=((n+1-i:Nat):Int):=zD
 gi_enter func129,ntmps129;gi_wp2_with (first|(gi_at_builtin;refine Cj rfl (.tmp 34) (.tmp 39) _ rfl rfl rfl q ?_)|(refine MZ rfl (.tmp 43) (.tmp 44) _ rfl rfl rfl p ?_));gi_region
 all_goals gi_wp2
 all_goals go_ret
 all_goals exact⟨_,_,zF,j.no,t,.inr (w_ _)⟩
theorem ZY (g n cap v i:Nat) (xs ys:U_) (B:Rw 186 2 w g n cap xs) (u:Rw 186 2 w v 1 1 ys) (A:v≠g) (C:i<n) (D:n<=100000) (x:n+1<=cap):
  O_ m 129 #[P_ g n cap,b_ (i:Nat),P_ v 1 1] w λe w'=>∃g' z,e=.returned (P_ g' (n+1) z)/\Ac (At g) w w'/\Rw 186 2 w' g' (n+1) z (LD xs ys (i*2))/\(g'=g\/w.heap.size<=g'):=by
 obtain⟨p,f,_⟩:=B.blk;obtain⟨q,j,_⟩:=u.blk;have r:¬(cap=i):=zD
 have s:¬(cap=i+1):=zD
 have l:=lC (la:=1) (ca:=1) (lb:=n-i) (cb:=cap-(i+1)) (o:=(i+1)*2) XH cn6 A j f;obtain⟨w1,h,b,a⟩:=yC (ys:=ys) (i:=i) (ty:=3) (Hu:=cap-(i+1)) (sCap:=cap-i) XH (B.keep (Ac.refl No w).drew id) C x;have c:n+1-(i+1)=n-i:=zD
 rw[c]at h;obtain⟨w3,t,d,k⟩:=a w1 (R_ v) (cap-i) 1 (Ac.refl No w1) u.len (u.keep ((Ac.refl (At g) w).drew.then b) A).cells u.one;gi_enter func129,ntmps129;gi_wp2;gi_region
 all_goals gi_wp2
 all_goals go_ret
 all_goals exact⟨g,cap,zF,((Ac.refl (At g) w).drew.then b).then d,k,.inl rfl⟩
end
def rc:List (W_)->U_
 |[]=>[]
 |r::l=>.int .i64 r.1::.int .i64 r.2::rc l
theorem XR:∀l:List (W_),(rc l).length=l.length*2
 |[]=>rfl
 |r::l=>by simp only[rc,List.length_cons,XR l];omega
theorem Qo:∀l k:List (W_),rc (l++k)=rc l++rc k
 |[],k=>rfl
 |r::l,k=>by simp only[rc,List.cons_append,Qo l k]
theorem QU:∀(l:List (W_)) (i:Nat),(rc l).take (i*2)=rc (l.take i)
 |_,0=>by simp[rc]
 |[],i+1=>by simp[rc]
 |r::l,i+1=>by simp only[rc,Nat.succ_mul,List.take_succ_cons,QU l i]
theorem QV:∀(l:List (W_)) (i:Nat),(rc l).drop (i*2)=rc (l.drop i)
 |_,0=>zF
 |[],i+1=>by simp[rc]
 |r::l,i+1=>by simp only[rc,Nat.succ_mul,List.drop_succ_cons,QV l i]
theorem qY:∀l:List (W_),∀x∈rc l,x.oneCell'=true
 |[],x,h=>by simp[rc]at h
 |r::l,x,h=>by
  simp only[rc,r_]at h
  obtain rfl|rfl|h:=h
  .rfl
  .rfl
  .exact qY l x h
theorem XT:∀(l:List (W_)) (i:Nat) (r:W_),l[i]?=some r->(rc l)[i*2]?=some (b_ r.1)/\(rc l)[i*2+1]?=some (b_ r.2)
 |[],i,r,h=>by simp at h
 |x::l,0,r,h=>by simp at h;subst h;simp[rc]
 |x::l,i+1,r,h=>by
  have:=XT l i r (by simpa using h)
  simp only[rc,Nat.succ_mul,List.getElem?_cons_succ]
  exact this
theorem yI:∀(l:List (W_)) (i a:Nat) (r:W_),l[i]?=some r->(rc l).set (i*2) (b_ a)=rc (l.set i (a,r.2))
 |[],i,a,r,h=>by simp at h
 |x::l,0,a,r,h=>by simp at h;subst h;simp[rc]
 |x::l,i+1,a,r,h=>by
  have:=yI l i a r (by simpa using h)
  simp only[rc,Nat.succ_mul,List.set_cons_succ,this]
theorem yH:∀(l:List (W_)) (i a:Nat) (r:W_),l[i]?=some r->(rc l).set (i*2+1) (b_ a)=rc (l.set i (r.1,a))
 |[],i,a,r,h=>by simp at h
 |x::l,0,a,r,h=>by simp at h;subst h;simp[rc]
 |x::l,i+1,a,r,h=>by
  have:=yH l i a r (by simpa using h)
  simp only[rc,Nat.succ_mul,List.set_cons_succ]
  rw[this]
def Mp (T:j_) (w:o_) (g cap:Nat) (l:List (W_)):Prop:=Rw T 2 w g l.length cap (rc l)
theorem Mp.cells (h:Mp T w g cap l) (d:l[i]?=some r):w.cell? (S_ g (i*2))=some (b_ r.1)/\w.cell? (S_ g (i*2+1))=some (b_ r.2):=by
 have b:=(KT.1 d).1;have a:=XT l i r d;exact⟨(Rw.cell h zD).trans a.1,(Rw.cell h zD).trans a.2⟩
def VO (l:List (W_)) (p:Nat×Nat->Bool):Int:=match l.findIdx? p with|some i=>i|none=>-1
theorem UK (h:∀(i:Nat) r,l[i]?=some r->p r=false):VO l p=-1:=by
 unfold VO;rw[List.findIdx?_eq_none_iff.2];intro x b;obtain⟨i,a⟩:=List.getElem?_of_mem b;exact h i x a
theorem UJ (h:∀(i:Nat) r,i<k->l[i]?=some r->p r=false) (f:l[k]?=some r) (t:p r=true):VO l p=k:=by
 have d:=(KT.1 f);obtain⟨b,e⟩:=d;unfold VO;have:l.findIdx? p=some k:=by
  rw[List.findIdx?_eq_some_iff_getElem]
  refine⟨b,by rw[e];exact t,λj c=>?_⟩
  have a:j<l.length:=Nat.lt_trans c b
  have:=h j l[j] c (IG a)
  simp[this]
 rw[this]
section
variable (m:Nat) (w:o_)
theorem ap0 (g cap u n:Nat) (l:List (W_)) (h:Mp 186 w g cap l) (v:w.cell? (R_ u)=some (b_ n)) (x:l.length<=100000):
  O_ m 127 #[P_ g l.length cap,.func (.func 131) #[] #[Q_ u]] w λe w'=>e=.returned (b_ (VO l λr=>decide (n<=r.2)))/\Ac No w w':=by
 gi_enter func127,ntmps127;gi_wp2;gi_loopw [8] (λi wr=>∃k:Nat,k<=l.length/\i=b_ k/\Ac No w wr/\∀j r,j<k->l[j]?=some r->¬n<=r.2) (λi _=>l.length-(intOf i).toNat)
 case atStart=>exact⟨0,zD,rfl,Ac.refl _ _,λj r h=>ql h zD⟩
 case round=>
  obtain⟨k,t,rfl,KK,d⟩:=hrel
  by_cases o:k<l.length
  .have b:l[k]?=some l[k]:=IG o;generalize l[k]=r at b;obtain⟨p,d1⟩:=Mp.cells (Rw.keep h KK id) b;have d2:=KK.has v;have d3:(wr.alloc (.cells #[b_ r.1,b_ r.2] 186)).cell? (R_ u)=some (b_ n):=((Ac.refl No wr).alloc _).has d2;by_cases f:n<=r.2
   .gi_wp2_with gi_in;go_ret;exact⟨by rw[UJ (k:=k) (r:=r) (λi q c a=>by have:=d i q c a;simpa using this) b (by simpa using f)];simp,KK.alloc _⟩
   .gi_wp2_with gi_in;go_roundw
    case rel=>
     refine⟨k+1,zD,by go_num,KK.alloc _,λj q s a=>?_⟩
     by_cases e:j=k
     .subst e;rw[b]at a;cases a;exact f
     .exact d j q zD a
    case measure=>simp[intOf];omega
  .obtain rfl:k=l.length:=zD;gi_wp2;go_ret;exact⟨by rw[UK (λi r c=>by have:=d i r (KT.1 c).1 c;simpa using this)];simp,KK⟩
theorem ap1 (g cap u n:Nat) (l:List (W_)) (h:Mp 186 w g cap l) (v:w.cell? (R_ u)=some (b_ n)) (x:l.length<=100000):
  O_ m 127 #[P_ g l.length cap,.func (.func 128) #[] #[Q_ u]] w λe w'=>e=.returned (b_ (VO l λr=>decide (n<r.1)))/\Ac No w w':=by
 gi_enter func127,ntmps127;gi_wp2;gi_loopw [8] (λi wr=>∃k:Nat,k<=l.length/\i=b_ k/\Ac No w wr/\∀j r,j<k->l[j]?=some r->¬n<r.1) (λi _=>l.length-(intOf i).toNat)
 case atStart=>exact⟨0,zD,rfl,Ac.refl _ _,λj r h=>ql h zD⟩
 case round=>
  obtain⟨k,t,rfl,KK,d⟩:=hrel
  by_cases o:k<l.length
  .have b:l[k]?=some l[k]:=IG o;generalize l[k]=r at b;obtain⟨p,d1⟩:=Mp.cells (Rw.keep h KK id) b;have d2:=KK.has v;have d3:(wr.alloc (.cells #[b_ r.1,b_ r.2] 186)).cell? (R_ u)=some (b_ n):=((Ac.refl No wr).alloc _).has d2;by_cases f:n<r.1
   .gi_wp2_with gi_in;go_ret;exact⟨by rw[UJ (k:=k) (r:=r) (λi q c a=>by have:=d i q c a;simpa using this) b (by simpa using f)];simp,KK.alloc _⟩
   .gi_wp2_with gi_in;go_roundw
    case rel=>
     refine⟨k+1,zD,by go_num,KK.alloc _,λj q s a=>?_⟩
     by_cases e:j=k
     .subst e;rw[b]at a;cases a;exact f
     .exact d j q zD a
    case measure=>simp[intOf];omega
  .obtain rfl:k=l.length:=zD;gi_wp2;go_ret;exact⟨by rw[UK (λi r c=>by have:=d i r (KT.1 c).1 c;simpa using this)];simp,KK⟩
end
def Ep (l:List (W_)) (i:Nat):List (W_):=match l[i]?,l[i+1]? with
 |some a,some b=>if a.1+a.2=b.1 then l.take i++(a.1,a.2+b.2)::l.drop (i+2)else l
 |_,_=>l
theorem Y1 (h:l.length<=i+1):Ep l i=l:=by
 unfold Ep;rw[List.getElem?_eq_none (i:=i+1) h];cases l[i]?<;>rfl
theorem lH {a:Nat×Nat} (d:l[i]?=some a) (f:l[i+1]?=some b) (h:a.1+a.2≠b.1):Ep l i=l:=by
 unfold Ep;rw[d,f];simp[h]
theorem bP {a:Nat×Nat} (d:l[i]?=some a) (f:l[i+1]?=some b) (h:a.1+a.2=b.1):Ep l i=(l.set i (a.1,a.2+b.2)).take (i+1)++(l.set i (a.1,a.2+b.2)).drop (i+2):=by
 have c:=(KT.1 d).1;unfold Ep;rw[d,f];simp only[h,if_true];rw[List.drop_set,rC zD,List.take_set,List.take_add_one,d];simp only[Option.toList_some];rw[List.set_append_right _ _ (by rw[ed];omega)];have:i-(l.take i).length=0:=by rw[ed];omega
 rw[this];simp
structure Hd (T:j_) (w:o_) (kb c:Nat) (U:j_) (ks:X_) (g cap:Nat) (l:List (W_)):Prop where
 k:w.heap[kb]?=some (N_ ks U)
 v:ks[c]?=some (P_ g l.length cap)
 mp:Mp T w g cap l
 ne:U≠T
theorem Hd.apart (h:Hd T w kb c U ks g cap l):kb≠g:=by
 obtain⟨a,b,_⟩:=h.mp.blk;exact BZ h.k b h.ne
theorem Hd.keep {w':o_} {S:Nat->Prop} (h:Hd T w kb c U ks g cap l) (d:Ac S w w') (f:¬S kb) (j:¬S g):Hd T w' kb c U ks g cap l:=⟨d.old h.k f,h.v,Rw.keep h.mp d j,h.ne⟩
theorem Hd.self (h:Hd T w kb c U ks g cap l):ks.setIfInBounds c (P_ g l.length cap)=ks:=QB h.v
theorem Rw.set {xs:U_} (h:Rw e s w g n cap xs) (v:n_) (t:v.oneCell'=true):Rw e s (w.setCell (S_ g i) v) g n cap (xs.set i v):=by
 obtain⟨⟨j,a,b,c⟩,d,f,l,o⟩:=h;refine⟨⟨_,Ap a v,by simpa using b,?_⟩,d,f,by simpa using l,?_⟩
 .rw[Array.toList_setIfInBounds,List.take_set,c]
 .intro x k;obtain h|h:=List.mem_or_eq_of_mem_set k
  .exact o x h
  .subst h;exact t
theorem Mp.NZ (h:Mp T w g cap l) (d:l[i]?=some r) (a:Nat):Mp T (w.setCell (S_ g (i*2+1)) (b_ a)) g cap (l.set i (r.1,a)):=by
 have:=Rw.set (i:=i*2+1) h (b_ a) rfl;rw[yH l i a r d]at this;unfold Mp;rw[List.length_set];exact this
theorem Mp.set0 (h:Mp T w g cap l) (d:l[i]?=some r) (a:Nat):Mp T (w.setCell (S_ g (i*2)) (b_ a)) g cap (l.set i (a,r.2)):=by
 have:=Rw.set (i:=i*2) h (b_ a) rfl;rw[yI l i a r d]at this;unfold Mp;rw[List.length_set];exact this
section
variable (m:Nat) (w:o_)
theorem co0 (f s:Nat) (d:f+s<=1000000):O_ m 171 #[.agg #[b_ f,b_ s]] w λe w'=>e=.returned (b_ (f+s:Nat))/\Ac No w w':=by
 gi_enter func171,ntmps171;gi_wp2;go_ret;exact⟨zF,by repeat (first|exact Ac.refl _ _|refine Ac.drew ?_|refine Ac.alloc ?_ _)⟩
theorem vO (kb:Nat):
  O_ m 130 #[Q_ kb,b_ (-1)] w λe w'=>e=.returned (.tuple #[])/\Ac No w w':=by
 gi_enter func130,ntmps130;gi_wp2;refine CG (P:=prog) No _ rfl rfl sJ 31 68 [0,1,2,3,4,5,6,7,8,9,10,11,12,13,14,15,16,17,18,19,20,21,22,23,24,25,26,27,28,29,30] [] sJ (by rfl) (λ_ _ _=>True) (λ_ _ _ _ _ h _=>h) _ _ rfl rfl ?_;gi_wp2;refine⟨rfl,sJ,?_,(λi b=>ql b zF),?_⟩
 .intro W a
  repeat' (refine Au ?_ ?_)
  all_goals first|exact eu|gi_wp2
 .intro u W a _;simp only[JF];gi_wp2;refine bodyPost_ret (results_none rfl _ _ _) rfl ?_;exact⟨zF,(Ac.refl No w).drew.then a⟩
theorem vP (kb g cap i:Nat) (U:j_) (ks:X_) (l:List (W_)) (h:Hd 186 w kb 0 U ks g cap l) (j:l.length<=i+1) (t:i<=100000):
  O_ m 130 #[Q_ kb,b_ (i:Nat)] w λe w'=>e=.returned (.tuple #[])/\Ac No w w':=by
 have b:w.cell? (R_ kb)=some (P_ g l.length cap):=(Ah h.k _).trans h.v;have d:¬((i:Int)<0):=zD
 have f:((l.length:Int)<=(i:Int)+1):=zD
 gi_enter func130,ntmps130;gi_wp2;refine CG (P:=prog) No _ rfl rfl sJ 31 68 [0,1,2,3,4,5,6,7,8,9,10,11,12,13,14,15,16,17,18,19,20,21,22,23,24,25,26,27,28,29,30] [] sJ (by rfl) (λ_ _ _=>True) (λ_ _ _ _ _ h _=>h) _ _ rfl rfl ?_;gi_wp2;refine⟨rfl,sJ,?_,(λi j=>ql j zF),?_⟩
 .intro W a;have c:=a.has (w:=w.drew) b
  repeat' (refine Au ?_ ?_)
  all_goals first|exact eu|gi_wp2
 .intro u W a _;simp only[JF];gi_wp2;refine bodyPost_ret (results_none rfl _ _ _) rfl ?_;exact⟨zF,(Ac.refl No w).drew.then a⟩
theorem vN (kb g cap i:Nat) (U:j_) (ks:X_) (l:List (W_)) (h:Hd 186 w kb 0 U ks g cap l) (a b:W_) (R:l[i]?=some a) (S:l[i+1]?=some b) (Y:i<=100000) (V:a.1+a.2<=100000) (X:a.2+b.2<=100000):
  O_ m 130 #[Q_ kb,b_ (i:Nat)] w λe w'=>e=.returned (.tuple #[])/\Ac (ZA kb g) w w'/\w'.heap[kb]?=some (.cells (ks.setIfInBounds 0 (P_ g (Ep l i).length cap)) U (0,0))/\Mp 186 w' g cap (Ep l i):=by
 have H:w.cell? (R_ kb)=some (P_ g l.length cap):=(Ah h.k _).trans h.v;have n:=h.apart;obtain⟨D,E⟩:=h.mp.cells R;obtain⟨c2,c3⟩:=h.mp.cells S;have Q:=(KT.1 S).1;have L:¬((i:Int)<0):=zD
 have M:¬((l.length:Int)<=(i:Int)+1):=zD
 have N:(i:Int)<(l.length:Int):=zD
 gi_enter func130,ntmps130;gi_wp2;refine CG (P:=prog) No _ rfl rfl sJ 30 68 [0,1,2,3,4,5,6,7,8,9,10,11,12,13,14,15,16,17,18,19,21,22,23,24,25,26,27,28,29] [20] sJ (by rfl) (λ_ v W=>v=b_ (a.1+a.2:Nat)) (λ_ _ _ _ _ h _=>h) _ _ rfl rfl ?_;gi_wp2;refine⟨rfl,?_,?_,?_,?_⟩
 .kernel_rfl
 .intro W d;have F:=d.has (w:=w.drew) H;have d1:=d.has (w:=w.drew) D;have d2:=d.has (w:=w.drew) E;have d3:=d.has (w:=w.drew) c2
  repeat' (refine Au ?_ ?_)
  all_goals first|exact eu|gi_wp2
 .intro i G u W d _;obtain rfl:i=20:=by simpa using G
  refine BC rfl λKK I=>?_
  show wpListIn NF m prog _ _ _ (Act.put _ (some 24) (u 20)) _;gi_wp2_with (gi_at_call 171;refine(co0 _ _ a.1 a.2 zD).mono ?_;rintro e w1 ⟨rfl,q⟩);exact⟨_,rfl,q,zF⟩
 .intro u W d x;have x:=x 20 zF;show wpListIn NF m prog _ _ _ (Act.put _ (some 24) (u 20)) _;rw[x];have c:Ac No w W:=(Ac.refl No w).drew.then d;have o:=c.old h.k id;have q1:W.cell? (R_ kb)=some (P_ g l.length cap):=(Ah o _).trans h.v;have m1:Mp 186 W g cap l:=Rw.keep h.mp c id;obtain⟨F,d1⟩:=m1.cells R;obtain⟨d2,d3⟩:=m1.cells S;have O:=Rw.fz m1 (i*2+1);by_cases C:a.1+a.2=b.1
  .have s:(a.1:Int)+(a.2:Int)=(b.1:Int):=zD;have m2:=m1.NZ R (a.2+b.2);have j:(l.set i (a.1,a.2+b.2)).length=l.length:=List.length_set ..;have m3:Rw 186 2 (W.setCell (S_ g (i*2+1)) (b_ ((a.2:Int)+b.2))).drew g l.length cap (rc (l.set i (a.1,a.2+b.2))):=by
    have f:=Rw.keep m2 (Ac.refl No _).drew id
    rw[j]at f
    push_cast at f
    exact f
   have dl:=λm=>zh m _ g l.length cap (i+1) (i+2) _ m3 zD zD
   push_cast at dl;have t:((W.setCell (S_ g (i*2+1)) (b_ ((a.2:Int)+b.2))).drew).heap[kb]?=some (N_ ks U):=(Hl _ n).trans o;have r:Ac (ZA kb g) w (W.setCell (S_ g (i*2+1)) (b_ ((a.2:Int)+b.2))).drew:=(c.no.setCell _ λ_=>.inr rfl).drew;gi_wp2;gi_region
   all_goals gi_wp2_with (gi_at_call 132;refine(dl _).mono ?_;rintro e w2 ⟨rfl,y,z⟩;have p:=y.old t n;have J:=BQ p 0;have K:=(Ah p 0).trans h.v)
   all_goals go_end0
   all_goals
    have A:=bP R S C
    have B:(Ep l i).length=i+1+(l.length-(i+2)):=by rw[A];simp only[jR,ed,List.length_drop,j];omega
    rw[QU,QV,<-Qo,<-A,<-B]at z
    exact⟨zF,(r.trans y (λ_ _ h=>.inr h)).setCell _ (λ_=>.inl rfl),by rw[B];exact Ap p _,Rw.keep z ((Ac.refl (At kb) _).setCell _ λ_=>rfl) n.symm⟩
  .have s:((a.1:Int)+(a.2:Int) !=(b.1:Int))=true:=(by simp;omega);gi_wp2;refine bodyPost_ret (results_none rfl _ _ _) rfl ?_;rw[lH R S C];exact⟨zF,c.no,by rw[h.self];exact o,m1⟩
end
end Go.Fxa
