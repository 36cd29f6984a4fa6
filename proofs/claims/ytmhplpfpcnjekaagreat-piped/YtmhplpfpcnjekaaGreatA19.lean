/- Rows of memory: elements of so -/
import Derived.Test.YtmhplpfpcnjekaaGreatA18
import Derived.ArgAppend
namespace Go.Fxa
open Conc Proofs RowKit Proofs.Tryz
set_option maxRecDepth 1000000
set_option maxHeartbeats 0
structure Nh (P:l_) (t e:j_) (z:n_) (s y:Nat):Prop where
 und:P.underlying t=some (.slice e)
 info:(P.info? e).map (λi=>(i.zero,i.size,i.bytes))=some (some z,s,y)
 zs:z.cells.size=s
 pos:0<s
 one:∀x∈z.cells.toList,x.oneCell'=true
theorem Nh.parts {P:l_} {t e:j_} {z:n_} {s y:Nat} (E:Nh P t e z s y):∃i,P.info? e=some i/\i.zero=some z/\i.size=s/\i.bytes=y:=by
 have:=E.info;cases h:P.info? e with
 |none=>rw[h]at this;cases this
 |some i=>
  rw[h]at this
  simp only[Option.map_some,Option.some.injEq,Prod.mk.injEq]at this
  exact⟨i,rfl,this⟩
def QG (l:U_) (o:Nat) (cs:U_):U_:=l.take o++cs++l.drop (o+cs.length)
theorem Nl {l cs:U_} {o:Nat} (h:o+cs.length<=l.length):(QG l o cs).length=l.length:=by
 simp only[QG,List.length_append,List.length_take,List.length_drop];omega
theorem ac3 {l:U_} {o:Nat}:QG l o []=l:=by simp[QG]
theorem RY {l cs:U_} {o i:Nat} (h:o+cs.length<=l.length):(QG l o cs)[i]?=if i<o then l[i]? else if i<o+cs.length then cs[i-o]? else l[i]?:=by
 unfold QG;rw[List.append_assoc,List.getElem?_append,List.getElem?_append];simp only[List.length_take,List.getElem?_take,List.getElem?_drop];have c:min o l.length=o:=by omega
 rw[c];by_cases a:i<o
 .simp[a]
 .simp only[a,if_false];by_cases b:i<o+cs.length
  .have:i-o<cs.length:=(by omega);simp[b,this]
  .have:¬i-o<cs.length:=(by omega);simp only[b,this,if_false]
   congr 1
   omega
section
variable {P:l_} {t e:j_} {z:n_} {s y:Nat} {w:o_}
theorem qR (E:Nh P t e z s y) {sT ty T:j_} {g o IW Hq:Nat} {a:f_} {CQ sCap:Nat} {cur:X_} {cs:U_}
  (hg:w.heap[g]?=some (O_ cur T)) (hn:cs.length=Nat.min CQ IW*s) (hsrc:∀j v,cs[j]?=some v->w.cell? (a.add j)=some v) (Dk:o+cs.length<=cur.size) (h1:∀v∈cs,v.oneCell'=true):
  (Builtin.copy_ #[t,sT] ty #[.slice (some (T_ g o)) IW Hq,.slice (some a) CQ sCap]).run P w=.ok (goInt (Nat.min CQ IW)) (w.setRow g (QG cur.toList o cs).toArray):=by
 obtain⟨i,d,k,f,h⟩:=E.parts;have c:=run_loadCells_list (P:=P) w a cs hsrc;have b:=run_storeCells_at P g o T cs 0 cur w hg (by simpa using Dk) h1;simp only[Nat.add_zero]at b;rw[hn]at c;simp[Builtin.copy_,run_underlying E.und,Builtin.lenOf,Builtin.firstCells,sizeOf,typeInfo,d,f,c,b,QG]
theorem pq (E:Nh P t e z s y) {sT ty:j_} {d a:d_ f_} {IW Hq CQ sCap:Nat} (hn:Nat.min CQ IW=0):
  (Builtin.copy_ #[t,sT] ty #[.slice d IW Hq,.slice a CQ sCap]).run P w=.ok (goInt 0) w:=by
 obtain⟨i,b,g,c,f⟩:=E.parts;cases a<;>cases d<;>simp[Builtin.copy_,run_underlying E.und,Builtin.lenOf,Builtin.firstCells,sizeOf,typeInfo,b,hn,storeCells,loadCells,loadCellsFrom]
theorem Su (E:Nh P t e z s y) (n:Nat):(Builtin.zeroCells z.cells n).toList.length=n*s:=by simp[Builtin.zeroCells,E.zs]
theorem bU (E:Nh P t e z s y) (n:Nat):∀v∈(Builtin.zeroCells z.cells n).toList,v.oneCell'=true:=by
 intro v a;simp only[Builtin.zeroCells,Array.toList_map,List.mem_map]at a;obtain⟨i,_,rfl⟩:=a;have:i % z.cells.size<z.cells.size:=Nat.mod_lt _ (by rw[E.zs];exact E.pos);rw[getElem!_pos z.cells _ this];exact E.one _ (by simp)
theorem ax2 (E:Nh P t e z s y) {ty T:j_} {g o n c:Nat} {cur:X_} (hg:w.heap[g]?=some (O_ cur T)) (Dk:o+n*s<=cur.size):
  (Builtin.clear_ #[t] ty #[.slice (some (T_ g o)) n c]).run P w=.ok (.tuple #[]) (w.setRow g (QG cur.toList o (Builtin.zeroCells z.cells n).toList).toArray):=by
 obtain⟨i,d,f,h,j⟩:=E.parts;have a:=run_storeCells_at P g o T (Builtin.zeroCells z.cells n).toList 0 cur w hg (by simpa [Su E]using Dk) (bU E n);simp only[Nat.add_zero]at a;cases n with
 |zero=>
  have b:(Builtin.zeroCells z.cells 0).toList=[]:=by simp[Builtin.zeroCells]
  rw[b,ac3]
  rw[setRow_self w g _ T (0,0) (by simpa using hg)]
  simp[Builtin.clear_,run_underlying E.und]
 |succ n=>simp[Builtin.clear_,run_underlying E.und,zeroValue,typeInfo,d,f,a,QG]
theorem fF (E:Nh P t e z s y) {ty T:j_} {g CQ sCap:Nat} {cur:X_} {a:f_} {m c:Nat} {news:U_} (hg:w.heap[g]?=some (O_ cur T)) (hl:news.length=m*s)
  (hnews:∀j u,news[j]?=some u->w.cell? (a.add j)=some u) (h1:∀u∈news,u.oneCell'=true) (hroom:CQ+m<=sCap) (Dk:CQ*s+news.length<=cur.size):
  (Builtin.append_ #[t,t] ty #[Q_ g CQ sCap,.slice (some a) m c]).run P w=.ok (Q_ g (CQ+m) sCap) (w.setRow g (QG cur.toList (CQ*s) news).toArray):=by
 obtain⟨i,k,n,b,l⟩:=E.parts;have f:=run_firstCells_some (P:=P) w i.size m a m c news (by rw[b];exact hl) hnews;have d:=run_storeCells_at P g (CQ*s) T news 0 cur w hg (by simpa using Dk) h1;simp only[Nat.add_zero]at d;have h:((S_ g):f_).add (CQ*s)=(T_ g (CQ*s)):=by unfold Addr.add;split<;>simp_all
 rw[b]at f;simp[Builtin.append_,run_underlying E.und,sizeOf,typeInfo,k,b,Builtin.lenOf,hroom,f,h,d,QG]
theorem Ϡ (E:Nh P t e z s y) {ty ti:j_} (hti:P.underlying ti=some (.int .i64)) {b:f_} {CQ sCap m:Nat} {olds:U_} (hlo:olds.length=CQ*s) (holds:∀j v,olds[j]?=some v->w.cell? (b.add j)=some v)
  (hm:0<m) (hgr:sCap<CQ+m) (hsm:CQ+m<=1000000) (hy:y<=1000):
  (Builtin.append_ #[t,ti] ty #[.slice (some b) CQ sCap,b_ (m:Nat)]).run P w=.ok (Q_ w.heap.size (CQ+m) (grownCap w (CQ+m) sCap e)) (w.drew.alloc (.cells (olds.toArray++(Builtin.zeroCells z.cells m)++Builtin.zeroCells z.cells (grownCap w (CQ+m) sCap e-(CQ+m))) e)):=by
 obtain⟨i,r,x,k,d⟩:=E.parts;have p:∀w:o_,(asIntOf (b_ (m:Nat))).run P w=.ok (.i64,(m:Int)) w:=λ_=>rfl
 have q:IntKind.i64.wrap (m:Int)=m:=by unfold IntKind.wrap;simp[IntKind.bits,IntKind.signed];split<;>omega
 have u:¬(CQ+m<=sCap):=by omega
 have c:¬(9223372036854775807<((CQ:Int)+(m:Int))):=by omega
 have o:(CQ+m)*y<=1000000*1000:=Nat.mul_le_mul hsm hy;have a:¬(281474976710656<Builtin.nextslicecap (CQ+m) sCap*i.bytes):=by
  have:=growslice_fits hgr (bytes:=i.bytes) (by rw[d];omega)
  omega
 have f:=run_firstCells_some (P:=P) w.drew i.size CQ b CQ sCap olds (by rw[k];exact hlo) (by simpa using holds);have n:¬(281474976710656<(m:Int)*(i.bytes:Int)):=by
  have A:m*i.bytes<=1000000*1000:=by rw[d];exact Nat.mul_le_mul (by omega) hy
  have:((m*i.bytes:Nat):Int)=(m:Int)*(i.bytes:Int):=by simp
  omega
 have g:¬(m*i.size=0):=by
  rw[k];intro h
  obtain h|h:=Nat.mul_eq_zero.1 h
  .omega
  .have:=E.pos;omega
 have l:¬((m:Int)<0):=by omega
 rw[k]at f g;simp[Builtin.append_,run_underlying E.und,run_underlying hti,sizeOf,typeInfo,zeroValue,r,x,k,Builtin.lenOf,u,c,a,n,l,g,asInt,p,q,Question.forced,f,newRow,grownCap]
end
structure Rw (e:j_) (s:Nat) (w:o_) (g n cap:Nat) (xs:U_):Prop where
 blk:∃cur,w.heap[g]?=some (O_ cur e)/\cur.size=cap*s/\cur.toList.take (n*s)=xs
 le:n<=cap
 max:cap<=maxLen
 len:xs.length=n*s
 one:∀x∈xs,x.oneCell'=true
section
variable {P:l_} {e:j_} {s:Nat} {w w':o_} {g n cap:Nat} {xs:U_} {S:Nat->Prop}
theorem Rw.keep (h:Rw e s w g n cap xs) (hK:Keep S w w') (hn:¬S g):Rw e s w' g n cap xs:=by
 obtain⟨⟨i,a,b,c⟩,d,f,l,o⟩:=h;exact⟨⟨i,hK.old a hn,b,c⟩,d,f,l,o⟩
theorem Rw.lt (h:Rw e s w g n cap xs):g<w.heap.size:=let ⟨_,a,_⟩:=h.blk;DN a
theorem Rw.cell (h:Rw e s w g n cap xs) {i:Nat} (hi:i<n*s):w.cell? (T_ g i)=xs[i]?:=by
 obtain⟨d,a,b,c⟩:=h.blk;rw[Af a,<-c,List.getElem?_take,if_pos hi,Array.getElem?_toList]
theorem Rw.cells (h:Rw e s w g n cap xs):∀j v,xs[j]?=some v->w.cell? (((S_ g):f_).add j)=some v:=by
 intro j v a;have c:j<n*s:=by rw[<-h.len];exact(O5.1 a).1
 have b:((S_ g):f_).add j=(T_ g j):=by unfold Addr.add;split<;>simp_all
 rw[b,h.cell c,a]
theorem Rw.fz (h:Rw e s w g n cap xs) (i:Nat):w.frozen? (T_ g i)=false:=let ⟨_,a,_⟩:=h.blk;BN a i
theorem Keep.setRow {a:o_} (h:Keep S a w) (g:Nat) (cs:X_) (hp:g<a.heap.size->S g):Keep S a (w.setRow g cs):=by
 refine⟨h.os,h.output,?_,λk b c=>?_⟩
 .simp[World.setRow];exact h.size
 .have:k≠g:=λe=>c (by subst e;exact hp b)
  rw[<-h.block k b c];simp[World.setRow,Array.getElem?_modify,this.symm]
theorem Ua (h:Rw e s w g n cap xs) {l:U_} (hl:l.length=cap*s) {m:Nat} {ys:U_} (hm:m<=cap) (hys:l.take (m*s)=ys) (ho:∀x∈ys,x.oneCell'=true):Rw e s (w.setRow g l.toArray) g m cap ys:=by
 obtain⟨d,a,b,c⟩:=h.blk;refine⟨⟨l.toArray,setRow_heap w g d _ e _ a,by simpa using hl,by simpa using hys⟩,hm,h.max,?_,ho⟩;rw[<-hys,List.length_take,hl];exact Nat.min_eq_left (Nat.mul_le_mul_right _ hm)
end
theorem VZ:Nh prog 90 186 (.agg #[b_ 0,b_ 0]) 2 16:=⟨underlying90,by kernel_rfl,by rfl,by decide,by intro x a;simp[Value.cells]at a;subst a;rfl⟩
section
variable {P:l_} {t e:j_} {z:n_} {s y:Nat} {w:o_} {g n cap i j:Nat} {xs:U_}
theorem aj2 (h:Rw e s w g n cap xs):(xs.drop (j*s)).length=(n-j)*s:=by
 rw[List.length_drop,h.len,Nat.sub_mul]
theorem kJ (E:Nh P t e z s y) (h:Rw e s w g n cap xs) (hij:i<j) (hjn:j<=n) {ty:j_}:∃w',(Builtin.append_ #[t,t] ty #[Q_ g i cap,.slice (if cap=j then some (S_ g)else some (T_ g (j*s))) (n-j) (cap-j)]).run P w=.ok (Q_ g (i+(n-j)) cap) w'/\Keep (At g) w w'/\Rw e s w' g (i+(n-j)) cap (xs.take (i*s)++xs.drop (j*s)):=by
 obtain⟨a,H,b,A⟩:=h.blk;have f:=h.le;have q:=aj2 (j:=j) h;have e1:i*s+(n-j)*s=(i+(n-j))*s:=by rw[Nat.add_mul]
 have e2:(i+(n-j))*s<=n*s:=Nat.mul_le_mul_right _ (by omega);have e3:n*s<=cap*s:=Nat.mul_le_mul_right _ f;have d:∀k u,(xs.drop (j*s))[k]?=some u->w.cell? ((if cap=j then((S_ g):f_)else(T_ g (j*s))).add k)=some u:=by
  intro k u l
  rw[List.getElem?_drop]at l
  have B:=(O5.1 l).1
  rw[h.len]at B
  have:cap≠j:=by
   intro e;subst e
   have:=Nat.mul_le_mul_right s f
   omega
  rw[if_neg this]
  have G:((T_ g (j*s)):f_).add k=(T_ g (j*s+k)):=by unfold Addr.add;split<;>simp_all
  rw[G,h.cell B,l]
 have C:∀u∈xs.drop (j*s),u.oneCell'=true:=λu l=>h.one u (List.mem_of_mem_drop l)
 have F:=fF (w:=w) (m:=n-j) (c:=cap-j) (CQ:=i) (sCap:=cap) E (ty:=ty) H q d C (by omega) (by rw[b];omega);have p:(if cap=j then some ((S_ g):f_)else some (T_ g (j*s)))=some (if cap=j then((S_ g):f_)else(T_ g (j*s))):=by split<;>rfl
 rw[p];have v:(QG a.toList (i*s) (xs.drop (j*s))).length=cap*s:=by rw[Nl (by rw[q,Array.length_toList,b];omega)];simpa using b
 refine⟨_,F,(p_ _ _).setRow _ _ λ_=>rfl,Ua h v (by omega) ?_ ?_⟩
 .have I:xs.take (i*s)=a.toList.take (i*s):=by rw[<-A,List.take_take,Nat.min_eq_left (Nat.mul_le_mul_right _ (by omega))]
  unfold QG;have D:(a.toList.take (i*s)).length=i*s:=by rw[List.length_take,Array.length_toList,b];exact Nat.min_eq_left (by omega)
  have r:(a.toList.take (i*s)++xs.drop (j*s)).length=(i+(n-j))*s:=by rw[List.length_append,D,q,e1]
  rw[I,<-r,List.take_left]
 .intro x o;obtain o|o:=List.mem_append.1 o
  .exact h.one x (List.mem_of_mem_take o)
  .exact C x o
theorem PV (E:Nh P t e z s y) {k c q:Nat} (h:Rw e s w g k cap xs) (hk:k+q<=cap) {ty:j_}:∃w',(Builtin.clear_ #[t] ty #[.slice (some (T_ g (k*s))) q c]).run P w=.ok (.tuple #[]) w'/\Keep (At g) w w'/\Rw e s w' g k cap xs:=by
 obtain⟨b,i,a,f⟩:=h.blk;have e1:k*s+q*s=(k+q)*s:=by rw[Nat.add_mul]
 have e2:(k+q)*s<=cap*s:=Nat.mul_le_mul_right _ hk;have d:(QG b.toList (k*s) (Builtin.zeroCells z.cells q).toList).length=cap*s:=by rw[Nl (by rw[Su E];simp[a];omega)];simpa using a
 refine⟨_,ax2 E i (by rw[a];omega),(p_ _ _).setRow _ _ λ_=>rfl,Ua h d h.le ?_ h.one⟩;unfold QG;rw[List.append_assoc,List.take_append_of_le_length (by rw[List.length_take,Array.length_toList,a];exact Nat.le_min.2 ⟨w_ _,by omega⟩),List.take_take,Nat.min_self,f]
end
section
variable (m:Nat) (w:o_)
theorem sW (g n cap i j:Nat) (xs:U_) (hR:Rw 186 2 w g n cap xs) (hij:i<j) (hjn:j<=n):
  P_ m 132 #[Q_ g n cap,b_ (i:Nat),b_ (j:Nat)] w λe w'=>e=.returned (Q_ g (i+(n-j)) cap)/\Keep (At g) w w'/\Rw 186 2 w' g (i+(n-j)) cap (xs.take (i*2)++xs.drop (j*2)):=by
 have s:=hR.le;have t:¬((j:Int)<(i:Int)):=by omega
 have v:¬((n:Int)<(j:Int)):=by omega
 have x:¬((cap:Int)<(n:Int)):=by omega
 by_cases a:cap=j
 all_goals
  gi_enter func132,ntmps132
  gi_wp2
  refine CP (P:=prog) No _ rfl rfl (by kernel_rfl) 6 33 [0,1,2,3,4,5] [] (by kernel_rfl) (by rfl) (λ_ _ _=>True) (λ_ _ _ _ _ h _=>h) _ _ rfl rfl ?_
  gi_wp2
  refine⟨rfl,by kernel_rfl,?_,(λi r=>absurd r (by simp)),?_⟩
  .intro W d
   repeat' (refine Az ?_ ?_)
   all_goals first|exact trivial|gi_wp2
  .intro u W d _;simp only[Jk];obtain⟨w1,b,f,o⟩:=kJ (w:=W) (ty:=90) VZ (hR.keep ((p_ No w).drew.then d) id) hij hjn;obtain⟨w2,k,l,p⟩:=PV (c:=cap-(i+(n-j))) (q:=n-(i+(n-j))) (ty:=0) VZ o (by omega)
   first|(rw[if_pos a]at b;simp only[a,Nat.sub_self]at b k)|rw[if_neg a]at b
   refine Cc rfl (.tmp 22) (.tmp 25) _ rfl rfl rfl b ?_;gi_wp2;go_ret;exact⟨by simp[a],(((p_ _ _).drew.then d.no).then f).then l,p⟩
end
theorem Μ {l cs:U_} {o k:Nat} (h:o+cs.length<=k) (hk:k<=l.length):(QG l o cs).take k=QG (l.take k) o cs:=by
 apply List.ext_getElem?;intro i;rw[List.getElem?_take,RY (by omega),RY (by rw[List.length_take];omega),List.getElem?_take];by_cases a:i<k
 .simp[a]
 .have:¬i<o:=by omega
  have:¬i<o+cs.length:=by omega
  simp[*]
section
variable {P:l_} {t e:j_} {z:n_} {s y:Nat} {w:o_} {g n cap i:Nat} {xs ys:U_}
theorem zt (E:Nh P t e z s y) (h:Rw e s w g n cap xs) {o q IW Hq CQ sCap:Nat} {a:f_} {cs:U_} (hq:Nat.min CQ IW=q) (hl:cs.length=q*s) (hsrc:∀j v,cs[j]?=some v->w.cell? (a.add j)=some v) (h1:∀v∈cs,v.oneCell'=true) (ho:o+q<=n) {sT ty:j_}:
  ∃w',(Builtin.copy_ #[t,sT] ty #[.slice (some (T_ g (o*s))) IW Hq,.slice (some a) CQ sCap]).run P w=.ok (goInt q) w'/\Keep (At g) w w'/\Rw e s w' g n cap (QG xs (o*s) cs):=by
 obtain⟨k,l,c,i⟩:=h.blk;have f:=h.le;have e1:o*s+q*s<=n*s:=by rw[<-Nat.add_mul];exact Nat.mul_le_mul_right _ ho
 have e3:n*s<=cap*s:=Nat.mul_le_mul_right _ f;have d:=qR (ty:=ty) (sT:=sT) (IW:=IW) (Hq:=Hq) (CQ:=CQ) (sCap:=sCap) (o:=o*s) E l (by rw[hq];exact hl) hsrc (by rw[hl,c];omega) h1;rw[hq]at d;refine⟨_,d,(p_ _ _).setRow _ _ λ_=>rfl,Ua h ?_ f ?_ ?_⟩
 .rw[Nl (by rw[hl,Array.length_toList,c];omega)];simpa using c
 .rw[Μ (by rw[hl];exact e1) (by rw[Array.length_toList,c];exact e3),i]
 .intro x b;unfold QG at b;obtain b|b:=List.mem_append.1 b
  .obtain b|b:=List.mem_append.1 b
   .exact h.one x (List.mem_of_mem_take b)
   .exact h1 x b
  .exact h.one x (List.mem_of_mem_drop b)
theorem qH (E:Nh P t e z s y) (h:Rw e s w g n cap xs) {m sCap:Nat} {a:f_} (hl:ys.length=m*s) (hsrc:∀j v,ys[j]?=some v->w.cell? (a.add j)=some v) (h1:∀v∈ys,v.oneCell'=true) (hsm:n+m<=1000000) (hy:y<=1000) {ty:j_}:
  ∃g' BR w',(Builtin.append_ #[t,t] ty #[Q_ g n cap,.slice (some a) m sCap]).run P w=.ok (Q_ g' (n+m) BR) w'/\Rw e s w' g' (n+m) BR (xs++ys)/\(g'=g/\Keep (At g) w w'\/g'=w.heap.size/\Keep No w w'):=by
 obtain⟨l,C,b,f⟩:=h.blk;have A:∀x∈xs++ys,x.oneCell'=true:=λx i=>by
  obtain i|i:=List.mem_append.1 i
  .exact h.one x i
  .exact h1 x i
 by_cases r:n+m<=cap
 .have e1:n*s+m*s<=cap*s:=by rw[<-Nat.add_mul];exact Nat.mul_le_mul_right _ r
  have k:=fF (w:=w) (m:=m) (c:=sCap) (CQ:=n) (sCap:=cap) E (ty:=ty) C hl hsrc h1 r (by rw[hl,b];exact e1);refine⟨g,cap,_,k,Ua h ?_ r ?_ A,.inl ⟨rfl,(p_ _ _).setRow _ _ λ_=>rfl⟩⟩
  .rw[Nl (by rw[hl,Array.length_toList,b];exact e1)];simpa using b
  .unfold QG;have d:(l.toList.take (n*s)++ys).length=(n+m)*s:=(by rw[f,List.length_append,h.len,hl,Nat.add_mul]);rw[<-d,List.take_left,f]
 .obtain⟨ii,D,F,B,o⟩:=E.parts;have u:(n+m)*y<=1000000*1000:=Nat.mul_le_mul hsm hy;have k:=run_append_grow (P:=P) w t ty e ii z E.und D F (S_ g) n cap xs (by rw[B];exact h.len) h.cells a m sCap ys (by rw[B];exact hl) hsrc (by omega) (by omega) (growslice_fits (by omega) (by rw[o];omega));have q:n+m<=maxLen:=by simp only[maxLen];omega
  have p:=grownCap_ge w (n+m) cap e;refine⟨_,_,_,k,⟨⟨_,heap_alloc_new rfl,?_,?_⟩,p,grownCap_le_maxLen w (n+m) cap e q,?_,A⟩,.inr ⟨rfl,(p_ No w).drew.alloc _⟩⟩
  .simp only[Array.size_append,List.size_toArray,size_zeroCells,E.zs,h.len,hl,<-Nat.add_mul]
   congr 1
   omega
  .simp only[Array.toList_append,List.append_assoc];rw[<-List.append_assoc];have d:(xs++ys).length=(n+m)*s:=(by rw[List.length_append,h.len,hl,Nat.add_mul]);rw[<-d];exact List.take_left
  .rw[List.length_append,h.len,hl,Nat.add_mul]
theorem kE (E:Nh P t e z s y) (h:Rw e s w g n cap xs) {m:Nat} (hi:i<=n) (hm:0<m) (hgr:cap<i+m) (hsm:i+m<=1000000) (hy:y<=1000) {ty ti:j_} (hti:P.underlying ti=some (.int .i64)):
  ∃BR w',(Builtin.append_ #[t,ti] ty #[Q_ g i cap,b_ (m:Nat)]).run P w=.ok (Q_ w.heap.size (i+m) BR) w'/\Rw e s w' w.heap.size (i+m) BR (xs.take (i*s)++(Builtin.zeroCells z.cells m).toList)/\Keep No w w':=by
 have l:i*s<=n*s:=Nat.mul_le_mul_right _ hi;have a:(xs.take (i*s)).length=i*s:=by rw[List.length_take,h.len];exact Nat.min_eq_left l
 have p:=Ϡ (w:=w) (ty:=ty) E hti (b:=(S_ g)) (sCap:=cap) a (λj v d=>h.cells j v (by rw[List.getElem?_take]at d;split at d;exact d;cases d)) hm hgr hsm hy;have o:i+m<=maxLen:=by simp only[maxLen];omega
 have f:=grownCap_ge w (i+m) cap e;refine⟨_,_,p,⟨⟨_,heap_alloc_new rfl,?_,?_⟩,f,grownCap_le_maxLen w (i+m) cap e o,?_,?_⟩,(p_ No w).drew.alloc _⟩
 .simp only[Array.size_append,List.size_toArray,size_zeroCells,E.zs,a,<-Nat.add_mul]
  congr 1
  omega
 .simp only[Array.toList_append];have k:(xs.take (i*s)++(Builtin.zeroCells z.cells m).toList).length=(i+m)*s:=by rw[List.length_append,a,Su E,Nat.add_mul]
  rw[<-k];exact List.take_left
 .rw[List.length_append,a,Su E,Nat.add_mul]
 .intro x c;obtain c|c:=List.mem_append.1 c
  .exact h.one x (List.mem_of_mem_take c)
  .exact bU E m x c
theorem rJ (E:Nh P t e z s y) (h:Rw e s w g n cap xs) (hi:i<n) (hr:n+1<=cap) {ty Hq sCap:Nat}:
  ∃w',(Builtin.copy_ #[t,t] ty #[.slice (some ⟨g,(i+1)*s,none⟩) (n+1-(i+1)) Hq,.slice (some (T_ g (i*s))) (n+1-i) sCap]).run P w=.ok (goInt ((n-i:Nat):Int)) w'/\Keep (At g) w w'/\
   ∀w2 a V3 VW,Keep No w' w2->ys.length=s->(∀j v,ys[j]?=some v->w2.cell? (a.add j)=some v)->(∀v∈ys,v.oneCell'=true)->
    ∃w3,(Builtin.copy_ #[t,t] ty #[.slice (some (T_ g (i*s))) (n+1-i) V3,.slice (some a) 1 VW]).run P w2=.ok (goInt 1) w3/\Keep (At g) w2 w3/\Rw e s w3 g (n+1) cap (xs.take (i*s)++ys++xs.drop (i*s)):=by
 obtain⟨c,H,f,G⟩:=h.blk;have e1:i*s+s=(i+1)*s:=by rw[Nat.succ_mul]
 have e2:(n-i)*s=n*s-i*s:=Nat.sub_mul ..;have e3:i*s<=n*s:=Nat.mul_le_mul_right _ (by omega);have e4:n*s+s=(n+1)*s:=by rw[Nat.succ_mul]
 have T:(n+1)*s<=cap*s:=Nat.mul_le_mul_right _ hr;have q:(xs.drop (i*s)).length=(n-i)*s:=by rw[List.length_drop,h.len,e2]
 have B:∀j v,(xs.drop (i*s))[j]?=some v->w.cell? (((T_ g (i*s)):f_).add j)=some v:=by
  intro k u C
  rw[List.getElem?_drop]at C
  have I:=(O5.1 C).1
  rw[h.len]at I
  have L:((T_ g (i*s)):f_).add k=(T_ g (i*s+k)):=by unfold Addr.add;split<;>simp_all
  rw[L,h.cell I,C]
 have K:Nat.min (n+1-i) (n+1-(i+1))=n-i:=by
  show min _ _=_
  omega
 have J:∀u∈xs.drop (i*s),u.oneCell'=true:=λu C=>h.one u (List.mem_of_mem_drop C)
 have p:=qR (ty:=ty) (sT:=t) (IW:=n+1-(i+1)) (Hq:=Hq) (CQ:=n+1-i) (sCap:=sCap) (o:=(i+1)*s) E H (by rw[K];exact q) B (by rw[q,f];omega) J;rw[K]at p;have O:n+1-(i+1)=n-i:=by omega
 have l:(QG c.toList ((i+1)*s) (xs.drop (i*s))).length=cap*s:=by rw[Nl (by rw[q,Array.length_toList,f];omega)];simpa using f
 refine⟨_,by rw[O]at p ⊢;exact p,(p_ _ _).setRow _ _ λ_=>rfl,?_⟩;intro w2 a V3 VW Q b S D;have r:=Q.old (setRow_heap w g c (QG c.toList ((i+1)*s) (xs.drop (i*s))).toArray e (0,0) H) id;have A:Nat.min 1 (n+1-i)=1:=by
  show min _ _=_
  omega
 have m:=qR (ty:=ty) (sT:=t) (IW:=n+1-i) (Hq:=V3) (CQ:=1) (sCap:=VW) (o:=i*s) (cs:=ys) E r (by rw[A,b];omega) S (by rw[b,List.size_toArray,l];omega) D;rw[A]at m;refine⟨_,m,(p_ _ _).setRow _ _ λ_=>rfl,⟨⟨_,setRow_heap w2 g _ _ e (0,0) r,?_,?_⟩,hr,h.max,?_,?_⟩⟩
 .rw[List.size_toArray,Nl (by rw[b];simp only[l];omega)];simpa using l
 .show(QG (QG c.toList ((i+1)*s) (xs.drop (i*s))) (i*s) ys).take ((n+1)*s)=_;apply List.ext_getElem?;intro k;rw[List.getElem?_take,RY (by rw[l,b];omega),RY (by rw[q,Array.length_toList,f];omega),List.append_assoc,List.getElem?_append,List.getElem?_append,List.getElem?_take,List.getElem?_drop,b,q,List.length_take,h.len,Nat.min_eq_left e3];have d:∀j,j<n*s->c.toList[j]?=xs[j]?:=λj R=>by rw[<-G,List.getElem?_take,if_pos R]
  by_cases F:k<i*s
  .have:k<(n+1)*s:=(by omega);have:k<(i+1)*s:=(by omega);simp only[*,if_true];exact d k (by omega)
  .by_cases c2:k<i*s+s
   .have c3:k<(n+1)*s:=(by omega);have c4:k-i*s<s:=(by omega);simp only[F,c2,c3,c4,if_true,if_false]
   .have c4:¬k-i*s<s:=(by omega);have M:¬k<(i+1)*s:=(by omega);by_cases c3:k<(n+1)*s
    .have N:k<(i+1)*s+(n-i)*s:=(by omega);simp only[F,c2,c3,c4,M,N,if_true,if_false];rw[List.getElem?_drop]
     congr 1
     omega
    .simp only[F,c2,c3,c4,if_false];rw[List.getElem?_eq_none];rw[q];omega
 .rw[List.length_append,List.length_append,q,b,List.length_take,h.len,Nat.min_eq_left e3];omega
 .intro x d;obtain d|d:=List.mem_append.1 d
  .obtain d|d:=List.mem_append.1 d
   .exact h.one x (List.mem_of_mem_take d)
   .exact D x d
  .exact J x d
def Kv (xs ys:U_) (k:Nat):U_:=xs.take k++ys++xs.drop k
theorem rM (E:Nh P t e z s y) {g1:Nat} {BR:Nat} {zs:U_} (h1:Rw e s w g1 (n+1) BR (xs.take (i*s)++zs)) (hi:i<n) (hx:xs.length=n*s) {a:f_} {Hq sCap:Nat} (hyl:ys.length=s) (hy:∀j v,ys[j]?=some v->w.cell? (a.add j)=some v) (hy1:∀v∈ys,v.oneCell'=true) {ty:j_}:
  ∃w',(Builtin.copy_ #[t,t] ty #[.slice (some (T_ g1 (i*s))) (n+1-i) Hq,.slice (some a) 1 sCap]).run P w=.ok (goInt 1) w'/\Keep (At g1) w w'/\
   ∀w2 V3 VW,Keep No w' w2->Rw e s w2 g n cap xs->∃w3,(Builtin.copy_ #[t,t] ty #[.slice (some ⟨g1,(i+1)*s,none⟩) (n+1-(i+1)) V3,.slice (some (T_ g (i*s))) (n-i) VW]).run P w2=.ok (goInt ((n-i:Nat):Int)) w3/\Keep (At g1) w2 w3/\Rw e s w3 g1 (n+1) BR (Kv xs ys (i*s)):=by
 have e3:i*s<=n*s:=Nat.mul_le_mul_right _ (by omega);have e1:i*s+s=(i+1)*s:=by rw[Nat.succ_mul]
 have e2:(n-i)*s=n*s-i*s:=Nat.sub_mul ..;have e4:n*s+s=(n+1)*s:=by rw[Nat.succ_mul]
 have p:Nat.min 1 (n+1-i)=1:=by
  show min _ _=_
  omega
 have q:zs.length=(n+1)*s-i*s:=by
  have:=h1.len
  rw[List.length_append,List.length_take,hx,Nat.min_eq_left e3]at this
  omega
 obtain⟨w',m,f,B⟩:=zt (Hq:=Hq) (sCap:=sCap) (o:=i) (cs:=ys) (ty:=ty) (sT:=t) E h1 p (by rw[hyl];omega) hy hy1 (by omega);refine⟨w',m,f,?_⟩;intro w2 V3 VW D l;have A:(xs.drop (i*s)).length=(n-i)*s:=by rw[List.length_drop,hx,e2]
 have b:∀j v,(xs.drop (i*s))[j]?=some v->w2.cell? (((T_ g (i*s)):f_).add j)=some v:=by
  intro k u c
  rw[List.getElem?_drop]at c
  have x:=(O5.1 c).1
  rw[l.len]at x
  have C:((T_ g (i*s)):f_).add k=(T_ g (i*s+k)):=by unfold Addr.add;split<;>simp_all
  rw[C,l.cell x,c]
 have G:Nat.min (n-i) (n+1-(i+1))=n-i:=by
  show min _ _=_
  omega
 obtain⟨w3,H,h,r⟩:=zt (Hq:=V3) (sCap:=VW) (o:=i+1) (cs:=xs.drop (i*s)) (ty:=ty) (sT:=t) E (B.keep D id) G A b (λu c=>l.one u (List.mem_of_mem_drop c)) (by omega);refine⟨w3,H,h,?_⟩;have d:(xs.take (i*s)).length=i*s:=by rw[List.length_take,hx];exact Nat.min_eq_left e3
 have q1:QG (xs.take (i*s)++zs) (i*s) ys=xs.take (i*s)++(ys++zs.drop s):=by
  unfold QG
  rw[List.take_left' d,hyl,List.drop_append,d,List.drop_of_length_le (by omega),List.nil_append,List.append_assoc]
  congr 3
  omega
 have I:QG (xs.take (i*s)++(ys++zs.drop s)) ((i+1)*s) (xs.drop (i*s))=Kv xs ys (i*s):=by
  have F:(xs.take (i*s)++ys++zs.drop s).drop ((i+1)*s+(xs.drop (i*s)).length)=[]:=List.drop_of_length_le (by rw[List.length_append,List.length_append,d,hyl,List.length_drop,q,A];omega)
  unfold QG Kv
  rw[<-List.append_assoc (xs.take (i*s)),List.take_left' (by rw[List.length_append,d,hyl,e1]),F,List.append_nil]
 rw[q1,I]at r;exact r
end
theorem dJ {P:Program} {t e:TypeId} {z:Value} {s y:Nat} (E:Nh P t e z s y) {w:World} {f:FuncId} (hx:∃fn rs,P.funcs[f]?=some fn/\(fn.name== "runtime.NumGoroutine")=false/\fn.body.isNone=true/\Extern.findNext fn=none/\Extern.find fn=some (Extern.SlicesOverlaps.overlaps #[t,t] rs))
  {a b o la lb ca cb:Nat} (ne:a≠b) {x u:X_} {T U:j_} (ha:w.heap[a]?=some (O_ x T)) (hb:w.heap[b]?=some (O_ u U)):(callFunc f #[Q_ a la ca,.slice (some (T_ b o)) lb cb]).run P w=.ok (.value (.bool false)) w:=by
 obtain⟨fn,rs,p,q,r,v,A⟩:=hx;obtain⟨i,d,G,g,F⟩:=E.parts;have j:w.frozen? (S_ a)=false:=BN ha 0;have k:w.frozen? (T_ b o)=false:=BN hb o;have B:(a==b)=false:=by simpa using ne
 have e1:(callFunc f #[Q_ a la ca,.slice (some (T_ b o)) lb cb]).run P w=((mark (.extern f))>>= λ_=>(Extern.SlicesOverlaps.overlaps #[t,t] rs #[Q_ a la ca,.slice (some (T_ b o)) lb cb])>>= λx=>pure (.value x):Sem Next).run P w:=by
  unfold callFunc
  show(match P.funcs[f]? with
   |none=>stuck "call: no such function"
   |some fn=>_:Sem Next).run P w=_
  rw[p]
  simp only[q,r,v,A,Bool.false_eq_true,if_false,if_true]
  first|done|rfl
 rw[e1,OX];have C:w.shape? a=some (T,x.size):=by simp[World.shape?,ha]
 have D:w.shape? b=some (U,u.size):=by simp[World.shape?,hb]
 have l:w.frozen? (T_ a x.size)=false:=BN ha _;have m:w.frozen? (T_ b u.size)=false:=BN hb _;by_cases n:la=0\/lb=0
 .have c:la=0\/lb=0\/s=0:=by obtain h|h:=n<;>simp[h]
  simp[run_underlying E.und,sizeOf,typeInfo,d,g,c]
 .have c:¬(la=0\/lb=0\/s=0):=by have:=E.pos;omega
  simp[run_underlying E.und,sizeOf,typeInfo,d,g,j,k,B,noView,viewAt,mayBeOne,stringish,c,C,D,l,m]
@[simp] theorem bz4:(169:h_)∈LF:=by decide
@[simp] theorem bz3:(235:h_)∈LF:=by decide
theorem bu6:∃fn rs,prog.funcs[169]?=some fn/\(fn.name== "runtime.NumGoroutine")=false/\fn.body.isNone=true/\Extern.findNext fn=none/\Extern.find fn=some (Extern.SlicesOverlaps.overlaps #[90,90] rs):=⟨(prog.funcs[169]?).getD default,#[4],by kernel_rfl,by kernel_rfl,by kernel_rfl,by kernel_rfl,by kernel_rfl⟩
section
variable (m:Nat) (w:o_)
theorem iO (g n cap vb:Nat) (xs ys:U_) (hR:Rw 186 2 w g n cap xs) (hV:Rw 186 2 w vb 1 1 ys) (hsm:n<=100000):
  P_ m 129 #[Q_ g n cap,b_ (n:Nat),Q_ vb 1 1] w λe w'=>∃g' BR,e=.returned (Q_ g' (n+1) BR)/\Keep (At g) w w'/\Rw 186 2 w' g' (n+1) BR (xs++ys)/\(g'=g\/w.heap.size<=g'):=by
 obtain⟨g',BR,w',b,d,c⟩:=qH (ty:=90) (sCap:=1) VZ hR hV.len hV.cells hV.one (by omega) (by omega);have f:=hR.le;by_cases a:cap=n
 all_goals
  first|simp only[a]at b ⊢ | skip
  gi_enter func129,ntmps129
  gi_wp2_with (refine Cc rfl (.tmp 23) (.tmp 24) _ rfl rfl rfl b ?_)
  go_ret
  refine⟨g',BR,by simp,?_,d,?_⟩
  .obtain⟨_,h⟩|⟨_,h⟩:=c
   .exact h
   .exact h.no
  .obtain⟨h,_⟩|⟨h,_⟩:=c
   .exact .inl h
   .exact .inr (by omega)
theorem aH (g n cap vb i:Nat) (xs ys:U_) (hR:Rw 186 2 w g n cap xs) (hV:Rw 186 2 w vb 1 1 ys) (hi:i<n) (hsm:n<=100000) (hgr:cap<n+1):
  P_ m 129 #[Q_ g n cap,b_ (i:Nat),Q_ vb 1 1] w λe w'=>∃g' BR,e=.returned (Q_ g' (n+1) BR)/\Keep (At g) w w'/\Rw 186 2 w' g' (n+1) BR (Kv xs ys (i*2))/\(g'=g\/w.heap.size<=g'):=by
 have v:=hR.le;obtain⟨BR,w1,o,b,d⟩:=kE (i:=i) (m:=n+1-i) (ty:=90) (ti:=3) VZ hR (by omega) (by omega) (by omega) (by omega) (by omega) underlying3;have t:i+(n+1-i)=n+1:=by omega
 rw[t]at o b;have p:=b.le;obtain⟨w2,l,r,c⟩:=rM (i:=i) (n:=n) (xs:=xs) (ys:=ys) (g:=g) (cap:=cap) (Hq:=BR - i) (sCap:=1) (ty:=3) (a:=(S_ vb)) VZ b hi hR.len hV.len (hV.keep d id).cells hV.one;have q:Keep No w w2:=d.trans (S':=At w.heap.size) r (λk u h=>by have:k=w.heap.size:=h;omega);obtain⟨w3,x,j,s⟩:=c w2.drew (BR - (i+1)) (cap-i) (p_ No w2).drew ((hR.keep q id).keep (p_ No w2).drew id);have f:n+1-(i+1)=n-i:=by omega
 rw[f]at x;have y:Keep No w w3:=q.drew.trans (S':=At w.heap.size) j (λk u h=>by have:k=w.heap.size:=h;omega);have A:¬((n:Int)<(i:Int)):=by omega
 have B:¬((n:Int)+1<=(cap:Int)):=by omega
 have C:¬(BR=i):=by omega
 have D:¬(BR=i+1):=by omega
 have E:¬(cap=i):=by omega
 have z:((n:Int)+1-(i:Int))=((n+1-i:Nat):Int):=by omega
 gi_enter func129,ntmps129;gi_wp2_with (first|(gi_at_builtin;refine Cc rfl (.tmp 34) (.tmp 39) _ rfl rfl rfl o ?_)|(refine Ot rfl (.tmp 43) (.tmp 44) _ rfl rfl rfl l ?_));gi_region
 all_goals gi_wp2
 all_goals go_ret
 all_goals exact⟨_,_,by simp,y.no,s,.inr (w_ _)⟩
theorem Yh (g n cap vb i:Nat) (xs ys:U_) (hR:Rw 186 2 w g n cap xs) (hV:Rw 186 2 w vb 1 1 ys) (Cf:vb≠g) (hi:i<n) (hsm:n<=100000) (hgr:n+1<=cap):
  P_ m 129 #[Q_ g n cap,b_ (i:Nat),Q_ vb 1 1] w λe w'=>∃g' BR,e=.returned (Q_ g' (n+1) BR)/\Keep (At g) w w'/\Rw 186 2 w' g' (n+1) BR (Kv xs ys (i*2))/\(g'=g\/w.heap.size<=g'):=by
 obtain⟨p,f,_⟩:=hR.blk;obtain⟨q,j,_⟩:=hV.blk;have r:¬(cap=i):=by omega
 have s:¬(cap=i+1):=by omega
 have l:=dJ (la:=1) (ca:=1) (lb:=n-i) (cb:=cap-(i+1)) (o:=(i+1)*2) VZ bu6 Cf j f;obtain⟨w1,h,b,a⟩:=rJ (ys:=ys) (i:=i) (ty:=3) (Hq:=cap-(i+1)) (sCap:=cap-i) VZ (hR.keep (p_ No w).drew id) hi hgr;have c:n+1-(i+1)=n-i:=by omega
 rw[c]at h;obtain⟨w3,t,d,k⟩:=a w1 (S_ vb) (cap-i) 1 (p_ No w1) hV.len (hV.keep ((p_ (At g) w).drew.then b) Cf).cells hV.one;gi_enter func129,ntmps129;gi_wp2;gi_region
 all_goals gi_wp2
 all_goals go_ret
 all_goals exact⟨g,cap,by simp,((p_ (At g) w).drew.then b).then d,k,.inl rfl⟩
end
def rc:List (W_)->U_
 |[]=>[]
 |r::l=>.int .i64 r.1::.int .i64 r.2::rc l
theorem Ub:∀l k:List (W_),rc (l++k)=rc l++rc k
 |[],k=>rfl
 |r::l,k=>by simp only[rc,List.cons_append,Ub l k]
theorem Qk:∀(l:List (W_)) (i:Nat),(rc l).take (i*2)=rc (l.take i)
 |_,0=>by simp[rc]
 |[],i+1=>by simp[rc]
 |r::l,i+1=>by simp only[rc,Nat.succ_mul,List.take_succ_cons,Qk l i]
theorem Ql:∀(l:List (W_)) (i:Nat),(rc l).drop (i*2)=rc (l.drop i)
 |_,0=>by simp
 |[],i+1=>by simp[rc]
 |r::l,i+1=>by simp only[rc,Nat.succ_mul,List.drop_succ_cons,Ql l i]
theorem zu:∀(l:List (W_)) (i:Nat) (r:W_),l[i]?=some r->(rc l)[i*2]?=some (b_ r.1)/\(rc l)[i*2+1]?=some (b_ r.2)
 |[],i,r,h=>by simp at h
 |x::l,0,r,h=>by simp at h;subst h;simp[rc]
 |x::l,i+1,r,h=>by
  have:=zu l i r (by simpa using h)
  simp only[rc,Nat.succ_mul,List.getElem?_cons_succ]
  exact this
theorem rU:∀(l:List (W_)) (i a:Nat) (r:W_),l[i]?=some r->(rc l).set (i*2) (b_ a)=rc (l.set i (a,r.2))
 |[],i,a,r,h=>by simp at h
 |x::l,0,a,r,h=>by simp at h;subst h;simp[rc]
 |x::l,i+1,a,r,h=>by
  have:=rU l i a r (by simpa using h)
  simp only[rc,Nat.succ_mul,List.set_cons_succ,this]
theorem rQ:∀(l:List (W_)) (i a:Nat) (r:W_),l[i]?=some r->(rc l).set (i*2+1) (b_ a)=rc (l.set i (r.1,a))
 |[],i,a,r,h=>by simp at h
 |x::l,0,a,r,h=>by simp at h;subst h;simp[rc]
 |x::l,i+1,a,r,h=>by
  have:=rQ l i a r (by simpa using h)
  simp only[rc,Nat.succ_mul,List.set_cons_succ]
  rw[this]
def Mp (T:j_) (w:o_) (g cap:Nat) (l:List (W_)):Prop:=Rw T 2 w g l.length cap (rc l)
theorem Mp.cells {T:j_} {w:o_} {g cap:Nat} {l:List (W_)} (h:Mp T w g cap l) {i:Nat} {r:Nat×Nat} (hi:l[i]?=some r):w.cell? (T_ g (i*2))=some (b_ r.1)/\w.cell? (T_ g (i*2+1))=some (b_ r.2):=by
 have b:=(O5.1 hi).1;have a:=zu l i r hi;exact⟨(Rw.cell h (by omega)).trans a.1,(Rw.cell h (by omega)).trans a.2⟩
def UG (l:List (W_)) (p:Nat×Nat->Bool):Int:=match l.findIdx? p with|some i=>i|none=>-1
theorem Tj {l:List (W_)} {p:Nat×Nat->Bool} (h:∀(i:Nat) r,l[i]?=some r->p r=false):UG l p=-1:=by
 unfold UG;rw[List.findIdx?_eq_none_iff.2];intro x b;obtain⟨i,a⟩:=List.getElem?_of_mem b;exact h i x a
theorem Ti {l:List (W_)} {p:Nat×Nat->Bool} {k:Nat} {r:Nat×Nat} (h:∀(i:Nat) r,i<k->l[i]?=some r->p r=false) (hk:l[k]?=some r) (hp:p r=true):UG l p=k:=by
 have d:=(O5.1 hk);obtain⟨b,e⟩:=d;unfold UG;have:l.findIdx? p=some k:=by
  rw[List.findIdx?_eq_some_iff_getElem]
  refine⟨b,by rw[e];exact hp,λj c=>?_⟩
  have a:j<l.length:=Nat.lt_trans c b
  have:=h j l[j] c (Lh a)
  simp[this]
 rw[this]
section
variable (m:Nat) (w:o_)
theorem ω (g cap jr n:Nat) (l:List (W_)) (h:Mp 186 w g cap l) (hn:w.cell? (S_ jr)=some (b_ n)) (hl:l.length<=100000):
  P_ m 127 #[Q_ g l.length cap,.func (.func 131) #[] #[R_ jr]] w λe w'=>e=.returned (b_ (UG l λr=>decide (n<=r.2)))/\Keep No w w':=by
 gi_enter func127,ntmps127;gi_wp2;gi_loopw [8] (λi wr=>∃k:Nat,k<=l.length/\i=b_ k/\Keep No w wr/\∀j r,j<k->l[j]?=some r->¬n<=r.2) (λi _=>l.length-(intOf i).toNat)
 case atStart=>exact⟨0,by omega,rfl,p_ _ _,λj r h=>absurd h (by omega)⟩
 case round=>
  obtain⟨k,t,rfl,KK,d⟩:=hrel
  by_cases o:k<l.length
  .have b:l[k]?=some l[k]:=Lh o;generalize l[k]=r at b;obtain⟨p,d1⟩:=Mp.cells (Rw.keep h KK id) b;have d2:=KK.has hn;have d3:(wr.alloc (.cells #[b_ r.1,b_ r.2] 186)).cell? (S_ jr)=some (b_ n):=((p_ No wr).alloc _).has d2;by_cases f:n<=r.2
   .gi_wp2_with gi_in;go_ret;exact⟨by rw[Ti (k:=k) (r:=r) (λi q c a=>by have:=d i q c a;simpa using this) b (by simpa using f)];simp,KK.alloc _⟩
   .gi_wp2_with gi_in;go_roundw
    case rel=>
     refine⟨k+1,by omega,by go_num,KK.alloc _,λj q s a=>?_⟩
     by_cases e:j=k
     .subst e;rw[b]at a;cases a;exact f
     .exact d j q (by omega) a
    case measure=>simp[intOf];omega
  .obtain rfl:k=l.length:=(by omega);gi_wp2;go_ret;exact⟨by rw[Tj (λi r c=>by have:=d i r (O5.1 c).1 c;simpa using this)];simp,KK⟩
theorem ϊ (g cap jr n:Nat) (l:List (W_)) (h:Mp 186 w g cap l) (hn:w.cell? (S_ jr)=some (b_ n)) (hl:l.length<=100000):
  P_ m 127 #[Q_ g l.length cap,.func (.func 128) #[] #[R_ jr]] w λe w'=>e=.returned (b_ (UG l λr=>decide (n<r.1)))/\Keep No w w':=by
 gi_enter func127,ntmps127;gi_wp2;gi_loopw [8] (λi wr=>∃k:Nat,k<=l.length/\i=b_ k/\Keep No w wr/\∀j r,j<k->l[j]?=some r->¬n<r.1) (λi _=>l.length-(intOf i).toNat)
 case atStart=>exact⟨0,by omega,rfl,p_ _ _,λj r h=>absurd h (by omega)⟩
 case round=>
  obtain⟨k,t,rfl,KK,d⟩:=hrel
  by_cases o:k<l.length
  .have b:l[k]?=some l[k]:=Lh o;generalize l[k]=r at b;obtain⟨p,d1⟩:=Mp.cells (Rw.keep h KK id) b;have d2:=KK.has hn;have d3:(wr.alloc (.cells #[b_ r.1,b_ r.2] 186)).cell? (S_ jr)=some (b_ n):=((p_ No wr).alloc _).has d2;by_cases f:n<r.1
   .gi_wp2_with gi_in;go_ret;exact⟨by rw[Ti (k:=k) (r:=r) (λi q c a=>by have:=d i q c a;simpa using this) b (by simpa using f)];simp,KK.alloc _⟩
   .gi_wp2_with gi_in;go_roundw
    case rel=>
     refine⟨k+1,by omega,by go_num,KK.alloc _,λj q s a=>?_⟩
     by_cases e:j=k
     .subst e;rw[b]at a;cases a;exact f
     .exact d j q (by omega) a
    case measure=>simp[intOf];omega
  .obtain rfl:k=l.length:=(by omega);gi_wp2;go_ret;exact⟨by rw[Tj (λi r c=>by have:=d i r (O5.1 c).1 c;simpa using this)];simp,KK⟩
end
def Ec (l:List (W_)) (i:Nat):List (W_):=match l[i]?,l[i+1]? with
 |some a,some b=>if a.1+a.2=b.1 then l.take i++(a.1,a.2+b.2)::l.drop (i+2)else l
 |_,_=>l
theorem Xk {l:List (W_)} {i:Nat} (h:l.length<=i+1):Ec l i=l:=by
 unfold Ec;rw[List.getElem?_eq_none (i:=i+1) h];cases l[i]?<;>rfl
theorem eG {l:List (W_)} {i:Nat} {a b:Nat×Nat} (ha:l[i]?=some a) (hb:l[i+1]?=some b) (h:a.1+a.2≠b.1):Ec l i=l:=by
 unfold Ec;rw[ha,hb];simp[h]
theorem YY {l:List (W_)} {i:Nat} {a b:Nat×Nat} (ha:l[i]?=some a) (hb:l[i+1]?=some b) (h:a.1+a.2=b.1):Ec l i=(l.set i (a.1,a.2+b.2)).take (i+1)++(l.set i (a.1,a.2+b.2)).drop (i+2):=by
 have c:=(O5.1 ha).1;unfold Ec;rw[ha,hb];simp only[h,if_true];rw[List.drop_set,if_pos (by omega),List.take_set,List.take_add_one,ha];simp only[Option.toList_some];rw[List.set_append_right _ _ (by rw[List.length_take];omega)];have:i-(l.take i).length=0:=by rw[List.length_take];omega
 rw[this];simp
structure Hd (T:j_) (w:o_) (kb c:Nat) (U:j_) (ks:X_) (g cap:Nat) (l:List (W_)):Prop where
 k:w.heap[kb]?=some (O_ ks U)
 v:ks[c]?=some (Q_ g l.length cap)
 mp:Mp T w g cap l
 ne:U≠T
theorem Hd.apart {T:j_} {w:o_} {kb c:Nat} {U:j_} {ks:X_} {g cap:Nat} {l:List (W_)} (h:Hd T w kb c U ks g cap l):kb≠g:=by
 obtain⟨a,b,_⟩:=h.mp.blk;exact BL h.k b h.ne
theorem Hd.keep {T:j_} {w w':o_} {kb c:Nat} {U:j_} {ks:X_} {g cap:Nat} {l:List (W_)} {S:Nat->Prop} (h:Hd T w kb c U ks g cap l) (hK:Keep S w w') (h1:¬S kb) (h2:¬S g):Hd T w' kb c U ks g cap l:=⟨hK.old h.k h1,h.v,Rw.keep h.mp hK h2,h.ne⟩
theorem Hd.self {T:j_} {w:o_} {kb c:Nat} {U:j_} {ks:X_} {g cap:Nat} {l:List (W_)} (h:Hd T w kb c U ks g cap l):ks.setIfInBounds c (Q_ g l.length cap)=ks:=PQ h.v
theorem Rw.set {e:j_} {s:Nat} {w:o_} {g n cap:Nat} {xs:U_} (h:Rw e s w g n cap xs) {i:Nat} (v:n_) (hv:v.oneCell'=true):Rw e s (w.setCell (T_ g i) v) g n cap (xs.set i v):=by
 obtain⟨⟨j,a,b,c⟩,d,f,l,o⟩:=h;refine⟨⟨_,Ak a v,by simpa using b,?_⟩,d,f,by simpa using l,?_⟩
 .rw[Array.toList_setIfInBounds,List.take_set,c]
 .intro x k;obtain h|h:=List.mem_or_eq_of_mem_set k
  .exact o x h
  .subst h;exact hv
theorem Mp.Jo {T:j_} {w:o_} {g cap:Nat} {l:List (W_)} (h:Mp T w g cap l) {i:Nat} {r:Nat×Nat} (hi:l[i]?=some r) (a:Nat):Mp T (w.setCell (T_ g (i*2+1)) (b_ a)) g cap (l.set i (r.1,a)):=by
 have:=Rw.set (i:=i*2+1) h (b_ a) rfl;rw[rQ l i a r hi]at this;unfold Mp;rw[List.length_set];exact this
theorem Mp.set0 {T:j_} {w:o_} {g cap:Nat} {l:List (W_)} (h:Mp T w g cap l) {i:Nat} {r:Nat×Nat} (hi:l[i]?=some r) (a:Nat):Mp T (w.setCell (T_ g (i*2)) (b_ a)) g cap (l.set i (a,r.2)):=by
 have:=Rw.set (i:=i*2) h (b_ a) rfl;rw[rU l i a r hi]at this;unfold Mp;rw[List.length_set];exact this
section
variable (m:Nat) (w:o_)
theorem bu8 (f s:Nat) (hsm:f+s<=1000000):P_ m 171 #[.agg #[b_ f,b_ s]] w λe w'=>e=.returned (b_ (f+s:Nat))/\Keep No w w':=by
 gi_enter func171,ntmps171;gi_wp2;go_ret;exact⟨by simp,by repeat (first|exact p_ _ _|refine Keep.drew ?_|refine Keep.alloc ?_ _)⟩
theorem oM (kb:Nat):
  P_ m 130 #[R_ kb,b_ (-1)] w λe w'=>e=.returned (.tuple #[])/\Keep No w w':=by
 gi_enter func130,ntmps130;gi_wp2;refine CP (P:=prog) No _ rfl rfl (by kernel_rfl) 31 68 [0,1,2,3,4,5,6,7,8,9,10,11,12,13,14,15,16,17,18,19,20,21,22,23,24,25,26,27,28,29,30] [] (by kernel_rfl) (by rfl) (λ_ _ _=>True) (λ_ _ _ _ _ h _=>h) _ _ rfl rfl ?_;gi_wp2;refine⟨rfl,by kernel_rfl,?_,(λi b=>absurd b (by simp)),?_⟩
 .intro W a
  repeat' (refine Az ?_ ?_)
  all_goals first|exact trivial|gi_wp2
 .intro u W a _;simp only[Jk];gi_wp2;refine bodyPost_ret (results_none rfl _ _ _) rfl ?_;exact⟨by simp,(p_ No w).drew.then a⟩
theorem oN (kb g cap i:Nat) (U:j_) (ks:X_) (l:List (W_)) (h:Hd 186 w kb 0 U ks g cap l) (hi:l.length<=i+1) (hsm:i<=100000):
  P_ m 130 #[R_ kb,b_ (i:Nat)] w λe w'=>e=.returned (.tuple #[])/\Keep No w w':=by
 have b:w.cell? (S_ kb)=some (Q_ g l.length cap):=(Af h.k _).trans h.v;have d:¬((i:Int)<0):=by omega
 have f:((l.length:Int)<=(i:Int)+1):=by omega
 gi_enter func130,ntmps130;gi_wp2;refine CP (P:=prog) No _ rfl rfl (by kernel_rfl) 31 68 [0,1,2,3,4,5,6,7,8,9,10,11,12,13,14,15,16,17,18,19,20,21,22,23,24,25,26,27,28,29,30] [] (by kernel_rfl) (by rfl) (λ_ _ _=>True) (λ_ _ _ _ _ h _=>h) _ _ rfl rfl ?_;gi_wp2;refine⟨rfl,by kernel_rfl,?_,(λi hi=>absurd hi (by simp)),?_⟩
 .intro W a;have c:=a.has (w:=w.drew) b
  repeat' (refine Az ?_ ?_)
  all_goals first|exact trivial|gi_wp2
 .intro u W a _;simp only[Jk];gi_wp2;refine bodyPost_ret (results_none rfl _ _ _) rfl ?_;exact⟨by simp,(p_ No w).drew.then a⟩
theorem oL (kb g cap i:Nat) (U:j_) (ks:X_) (l:List (W_)) (h:Hd 186 w kb 0 U ks g cap l) (a b:W_) (ha:l[i]?=some a) (hb:l[i+1]?=some b) (hsm:i<=100000) (hsa:a.1+a.2<=100000) (hsb:a.2+b.2<=100000):
  P_ m 130 #[R_ kb,b_ (i:Nat)] w λe w'=>e=.returned (.tuple #[])/\Keep (At2 kb g) w w'/\w'.heap[kb]?=some (.cells (ks.setIfInBounds 0 (Q_ g (Ec l i).length cap)) U (0,0))/\Mp 186 w' g cap (Ec l i):=by
 have H:w.cell? (S_ kb)=some (Q_ g l.length cap):=(Af h.k _).trans h.v;have n:=h.apart;obtain⟨D,E⟩:=h.mp.cells ha;obtain⟨c2,c3⟩:=h.mp.cells hb;have Q:=(O5.1 hb).1;have L:¬((i:Int)<0):=by omega
 have M:¬((l.length:Int)<=(i:Int)+1):=by omega
 have N:(i:Int)<(l.length:Int):=by omega
 gi_enter func130,ntmps130;gi_wp2;refine CP (P:=prog) No _ rfl rfl (by kernel_rfl) 30 68 [0,1,2,3,4,5,6,7,8,9,10,11,12,13,14,15,16,17,18,19,21,22,23,24,25,26,27,28,29] [20] (by kernel_rfl) (by rfl) (λ_ v W=>v=b_ (a.1+a.2:Nat)) (λ_ _ _ _ _ h _=>h) _ _ rfl rfl ?_;gi_wp2;refine⟨rfl,?_,?_,?_,?_⟩
 .kernel_rfl
 .intro W d;have F:=d.has (w:=w.drew) H;have d1:=d.has (w:=w.drew) D;have d2:=d.has (w:=w.drew) E;have d3:=d.has (w:=w.drew) c2
  repeat' (refine Az ?_ ?_)
  all_goals first|exact trivial|gi_wp2
 .intro i G u W d _;obtain rfl:i=20:=by simpa using G
  refine BJ rfl λKK I=>?_
  show wpListIn NF m prog _ _ _ (Act.put _ (some 24) (u 20)) _;gi_wp2_with (gi_at_call 171;refine(bu8 _ _ a.1 a.2 (by omega)).mono ?_;rintro e w1 ⟨rfl,q⟩);exact⟨_,rfl,q,by simp⟩
 .intro u W d x;have x:=x 20 (by simp);show wpListIn NF m prog _ _ _ (Act.put _ (some 24) (u 20)) _;rw[x];have c:Keep No w W:=(p_ No w).drew.then d;have o:=c.old h.k id;have q1:W.cell? (S_ kb)=some (Q_ g l.length cap):=(Af o _).trans h.v;have m1:Mp 186 W g cap l:=Rw.keep h.mp c id;obtain⟨F,d1⟩:=m1.cells ha;obtain⟨d2,d3⟩:=m1.cells hb;have O:=Rw.fz m1 (i*2+1);by_cases C:a.1+a.2=b.1
  .have s:(a.1:Int)+(a.2:Int)=(b.1:Int):=(by omega);have m2:=m1.Jo ha (a.2+b.2);have j:(l.set i (a.1,a.2+b.2)).length=l.length:=List.length_set ..;have m3:Rw 186 2 (W.setCell (T_ g (i*2+1)) (b_ ((a.2:Int)+b.2))).drew g l.length cap (rc (l.set i (a.1,a.2+b.2))):=by
    have f:=Rw.keep m2 (p_ No _).drew id
    rw[j]at f
    push_cast at f
    exact f
   have dl:=λm=>sW m _ g l.length cap (i+1) (i+2) _ m3 (by omega) (by omega)
   push_cast at dl;have t:((W.setCell (T_ g (i*2+1)) (b_ ((a.2:Int)+b.2))).drew).heap[kb]?=some (O_ ks U):=(Gz _ n).trans o;have r:Keep (At2 kb g) w (W.setCell (T_ g (i*2+1)) (b_ ((a.2:Int)+b.2))).drew:=(c.no.setCell _ λ_=>.inr rfl).drew;gi_wp2;gi_region
   all_goals gi_wp2_with (gi_at_call 132;refine(dl _).mono ?_;rintro e w2 ⟨rfl,y,z⟩;have p:=y.old t n;have J:=BN p 0;have K:=(Af p 0).trans h.v)
   all_goals go_end0
   all_goals
    have A:=YY ha hb C
    have B:(Ec l i).length=i+1+(l.length-(i+2)):=by rw[A];simp only[List.length_append,List.length_take,List.length_drop,j];omega
    rw[Qk,Ql,<-Ub,<-A,<-B]at z
    exact⟨by simp,(r.trans y (λ_ _ h=>.inr h)).setCell _ (λ_=>.inl rfl),by rw[B];exact Ak p _,Rw.keep z ((p_ (At kb) _).setCell _ λ_=>rfl) n.symm⟩
  .have s:((a.1:Int)+(a.2:Int) !=(b.1:Int))=true:=(by simp;omega);gi_wp2;refine bodyPost_ret (results_none rfl _ _ _) rfl ?_;rw[eG ha hb C];exact⟨by simp,c.no,by rw[h.self];exact o,m1⟩
end
end Go.Fxa
