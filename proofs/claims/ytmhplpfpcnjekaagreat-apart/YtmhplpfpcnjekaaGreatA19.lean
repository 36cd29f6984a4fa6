/- Rows of memory: elements of so -/
import Derived.Test.YtmhplpfpcnjekaaGreatA18
import Derived.ArgAppend
namespace Go.Fxa
open Conc Proofs RowKit Proofs.Tryz
set_option maxRecDepth 1000000
set_option maxHeartbeats 0
structure J4 (P:Program) (t e:TypeId) (z:Value) (s y:Nat):Prop where
 und:P.underlying t=some (.slice e)
 info:(P.info? e).map (fun i=>(i.zero,i.size,i.bytes))=some (some z,s,y)
 zs:z.cells.size=s
 pos:0<s
 one:∀x∈z.cells.toList,x.oneCell'=true
theorem J4.parts {P:Program} {t e:TypeId} {z:Value} {s y:Nat} (E:J4 P t e z s y):∃i,P.info? e=some i/\i.zero=some z/\i.size=s/\i.bytes=y:=by
 have:=E.info;cases h:P.info? e with
 | none=>rw[h]at this;cases this
 | some i=>
  rw[h]at this
  simp only[Option.map_some,Option.some.injEq,Prod.mk.injEq]at this
  exact⟨i,rfl,this⟩
def NM (l:U_) (o:Nat) (cs:U_):U_:=l.take o++cs++l.drop (o+cs.length)
theorem J8 {l cs:U_} {o:Nat} (h:o+cs.length<=l.length):(NM l o cs).length=l.length:=by
 simp only[NM,List.length_append,List.length_take,List.length_drop];omega
theorem uq {l:U_} {o:Nat}:NM l o []=l:=by simp[NM]
theorem O0 {l cs:U_} {o i:Nat} (h:o+cs.length<=l.length):(NM l o cs)[i]?=if i<o then l[i]? else if i<o+cs.length then cs[i-o]? else l[i]?:=by
 unfold NM;rw[List.append_assoc,List.getElem?_append,List.getElem?_append];simp only[List.length_take,List.getElem?_take,List.getElem?_drop];have hm:min o l.length=o:=by omega
 rw[hm];by_cases h1:i<o
 ·simp[h1]
 ·simp only[h1,if_false];by_cases h2:i<o+cs.length
  ·have:i-o<cs.length:=(by omega);simp[h2,this]
  ·have:¬i-o<cs.length:=(by omega);simp only[h2,this,if_false]
   congr 1
   omega
section
variable {P:Program} {t e:TypeId} {z:Value} {s y:Nat} {w:World}
theorem gq (E:J4 P t e z s y) {sT ty T:TypeId} {g o Gx FI:Nat} {a:Addr} {Ca sCap:Nat} {cur:X_} {cs:U_}
  (hg:w.heap[g]?=some (.cells cur T (0,0))) (hn:cs.length=Nat.min Ca Gx*s) (hsrc:∀j v,cs[j]?=some v->w.cell? (a.add j)=some v) (Dp:o+cs.length<=cur.size) (h1:∀v∈cs,v.oneCell'=true):
  (Builtin.copy_ #[t,sT] ty #[.slice (some (T_ g o)) Gx FI,.slice (some a) Ca sCap]).run P w=.ok (goInt (Nat.min Ca Gx)) (w.setRow g (NM cur.toList o cs).toArray):=by
 obtain⟨i,hi,hz,hs,hy⟩:=E.parts;have hl:=run_loadCells_list (P:=P) w a cs hsrc;have BH:=run_storeCells_at P g o T cs 0 cur w hg (by simpa using Dp) h1;simp only[Nat.add_zero]at BH;rw[hn]at hl;simp[Builtin.copy_,run_underlying E.und,Builtin.lenOf,Builtin.firstCells,sizeOf,typeInfo,hi,hs,hl,BH,NM]
theorem dW (E:J4 P t e z s y) {sT ty:TypeId} {d a:Option Addr} {Gx FI Ca sCap:Nat} (hn:Nat.min Ca Gx=0):
  (Builtin.copy_ #[t,sT] ty #[.slice d Gx FI,.slice a Ca sCap]).run P w=.ok (goInt 0) w:=by
 obtain⟨i,hi,hz,hs,hy⟩:=E.parts;cases a<;>cases d<;>simp[Builtin.copy_,run_underlying E.und,Builtin.lenOf,Builtin.firstCells,sizeOf,typeInfo,hi,hn,storeCells,loadCells,loadCellsFrom]
theorem Pg (E:J4 P t e z s y) (n:Nat):(Builtin.zeroCells z.cells n).toList.length=n*s:=by simp[Builtin.zeroCells,E.zs]
theorem Xo (E:J4 P t e z s y) (n:Nat):∀v∈(Builtin.zeroCells z.cells n).toList,v.oneCell'=true:=by
 intro v hv;simp only[Builtin.zeroCells,Array.toList_map,List.mem_map]at hv;obtain⟨i,_,rfl⟩:=hv;have:i % z.cells.size<z.cells.size:=Nat.mod_lt _ (by rw[E.zs];exact E.pos);rw[getElem!_pos z.cells _ this];exact E.one _ (by simp)
theorem ad6 (E:J4 P t e z s y) {ty T:TypeId} {g o n c:Nat} {cur:X_} (hg:w.heap[g]?=some (.cells cur T (0,0))) (Dp:o+n*s<=cur.size):
  (Builtin.clear_ #[t] ty #[.slice (some (T_ g o)) n c]).run P w=.ok (.tuple #[]) (w.setRow g (NM cur.toList o (Builtin.zeroCells z.cells n).toList).toArray):=by
 obtain⟨i,hi,hz,hs,hy⟩:=E.parts;have BH:=run_storeCells_at P g o T (Builtin.zeroCells z.cells n).toList 0 cur w hg (by simpa [Pg E]using Dp) (Xo E n);simp only[Nat.add_zero]at BH;cases n with
 | zero=>
  have e0:(Builtin.zeroCells z.cells 0).toList=[]:=by simp[Builtin.zeroCells]
  rw[e0,uq]
  rw[setRow_self w g _ T (0,0) (by simpa using hg)]
  simp[Builtin.clear_,run_underlying E.und]
 | succ n=>simp[Builtin.clear_,run_underlying E.und,zeroValue,typeInfo,hi,hz,BH,NM]
theorem Yg (E:J4 P t e z s y) {ty T:TypeId} {g Ca sCap:Nat} {cur:X_} {a:Addr} {m c:Nat} {news:U_} (hg:w.heap[g]?=some (.cells cur T (0,0))) (hl:news.length=m*s)
  (hnews:∀j u,news[j]?=some u->w.cell? (a.add j)=some u) (h1:∀u∈news,u.oneCell'=true) (hroom:Ca+m<=sCap) (Dp:Ca*s+news.length<=cur.size):
  (Builtin.append_ #[t,t] ty #[.slice (some (S_ g)) Ca sCap,.slice (some a) m c]).run P w=.ok (.slice (some (S_ g)) (Ca+m) sCap) (w.setRow g (NM cur.toList (Ca*s) news).toArray):=by
 obtain⟨i,hi,hz,hs,hy⟩:=E.parts;have hf:=run_firstCells_some (P:=P) w i.size m a m c news (by rw[hs];exact hl) hnews;have BH:=run_storeCells_at P g (Ca*s) T news 0 cur w hg (by simpa using Dp) h1;simp only[Nat.add_zero]at BH;have JA:((S_ g):Addr).add (Ca*s)=(T_ g (Ca*s)):=by unfold Addr.add;split<;>simp_all
 rw[hs]at hf;simp[Builtin.append_,run_underlying E.und,sizeOf,typeInfo,hi,hs,Builtin.lenOf,hroom,hf,JA,BH,NM]
theorem rE (E:J4 P t e z s y) {ty ti:TypeId} (hti:P.underlying ti=some (.int .i64)) {b:Addr} {Ca sCap m:Nat} {olds:U_} (hlo:olds.length=Ca*s) (holds:∀j v,olds[j]?=some v->w.cell? (b.add j)=some v)
  (hm:0<m) (hgr:sCap<Ca+m) (hsm:Ca+m<=1000000) (hy:y<=1000):
  (Builtin.append_ #[t,ti] ty #[.slice (some b) Ca sCap,.int .i64 (m:Nat)]).run P w=.ok (.slice (some (S_ w.heap.size)) (Ca+m) (grownCap w (Ca+m) sCap e)) (w.drew.alloc (.cells (olds.toArray++(Builtin.zeroCells z.cells m)++Builtin.zeroCells z.cells (grownCap w (Ca+m) sCap e-(Ca+m))) e)):=by
 obtain⟨i,hi,hz,hs,hby⟩:=E.parts;have ea:∀w:World,(asIntOf (.int .i64 (m:Nat))).run P w=.ok (.i64,(m:Int)) w:=fun _=>rfl
 have ew:IntKind.i64.wrap (m:Int)=m:=by unfold IntKind.wrap;simp[IntKind.bits,IntKind.signed];split<;>omega
 have hn:¬(Ca+m<=sCap):=by omega
 have h63':¬(9223372036854775807<((Ca:Int)+(m:Int))):=by omega
 have hmul:(Ca+m)*y<=1000000*1000:=Nat.mul_le_mul hsm hy;have h48':¬(281474976710656<Builtin.nextslicecap (Ca+m) sCap*i.bytes):=by
  have:=growslice_fits hgr (bytes:=i.bytes) (by rw[hby];omega)
  omega
 have hfo:=run_firstCells_some (P:=P) w.drew i.size Ca b Ca sCap olds (by rw[hs];exact hlo) (by simpa using holds);have hmy:¬(281474976710656<(m:Int)*(i.bytes:Int)):=by
  have h2:m*i.bytes<=1000000*1000:=by rw[hby];exact Nat.mul_le_mul (by omega) hy
  have:((m*i.bytes:Nat):Int)=(m:Int)*(i.bytes:Int):=by simp
  omega
 have hm0:¬(m*i.size=0):=by
  rw[hs];intro h
  rcases Nat.mul_eq_zero.1 h with h|h
  ·omega
  ·have:=E.pos;omega
 have hmn:¬((m:Int)<0):=by omega
 rw[hs]at hfo hm0;simp[Builtin.append_,run_underlying E.und,run_underlying hti,sizeOf,typeInfo,zeroValue,hi,hz,hs,Builtin.lenOf,hn,h63',h48',hmy,hmn,hm0,asInt,ea,ew,Question.forced,hfo,newRow,grownCap]
end
structure Rw (e:TypeId) (s:Nat) (w:World) (g n cap:Nat) (xs:U_):Prop where
 blk:∃cur,w.heap[g]?=some (.cells cur e (0,0))/\cur.size=cap*s/\cur.toList.take (n*s)=xs
 le:n<=cap
 max:cap<=maxLen
 len:xs.length=n*s
 one:∀x∈xs,x.oneCell'=true
section
variable {P:Program} {e:TypeId} {s:Nat} {w w':World} {g n cap:Nat} {xs:U_} {S:Nat->Prop}
theorem Rw.keep (h:Rw e s w g n cap xs) (hK:Ab S w w') (hn:¬S g):Rw e s w' g n cap xs:=by
 obtain⟨⟨cur,a,b,c⟩,d,f,l,o⟩:=h;exact⟨⟨cur,hK.old a hn,b,c⟩,d,f,l,o⟩
theorem Rw.lt (h:Rw e s w g n cap xs):g<w.heap.size:=let ⟨_,a,_⟩:=h.blk;Co a
theorem Rw.cell (h:Rw e s w g n cap xs) {i:Nat} (hi:i<n*s):w.cell? (T_ g i)=xs[i]?:=by
 obtain⟨cur,a,b,c⟩:=h.blk;rw[Ag a,<-c,List.getElem?_take,if_pos hi,Array.getElem?_toList]
theorem Rw.cells (h:Rw e s w g n cap xs):∀j v,xs[j]?=some v->w.cell? (((S_ g):Addr).add j)=some v:=by
 intro j v hv;have hj:j<n*s:=by rw[<-h.len];exact(KH.1 hv).1
 have JA:((S_ g):Addr).add j=(T_ g j):=by unfold Addr.add;split<;>simp_all
 rw[JA,h.cell hj,hv]
theorem Rw.fz (h:Rw e s w g n cap xs) (i:Nat):w.frozen? (T_ g i)=false:=let ⟨_,a,_⟩:=h.blk;BF a i
theorem Ab.setRow {a:World} (h:Ab S a w) (g:Nat) (cs:X_) (hp:g<a.heap.size->S g):Ab S a (w.setRow g cs):=by
 refine⟨h.os,h.output,?_,fun k hk hn=>?_⟩
 ·simp[World.setRow];exact h.size
 ·have:k≠g:=fun e=>hn (by subst e;exact hp hk)
  rw[<-h.block k hk hn];simp[World.setRow,Array.getElem?_modify,this.symm]
theorem Qd (h:Rw e s w g n cap xs) {l:U_} (hl:l.length=cap*s) {m:Nat} {ys:U_} (hm:m<=cap) (hys:l.take (m*s)=ys) (ho:∀x∈ys,x.oneCell'=true):Rw e s (w.setRow g l.toArray) g m cap ys:=by
 obtain⟨cur,a,b,c⟩:=h.blk;refine⟨⟨l.toArray,setRow_heap w g cur _ e _ a,by simpa using hl,by simpa using hys⟩,hm,h.max,?_,ho⟩;rw[<-hys,List.length_take,hl];exact Nat.min_eq_left (Nat.mul_le_mul_right _ hm)
end
theorem RH:J4 prog 90 186 (.agg #[.int .i64 0,.int .i64 0]) 2 16:=⟨underlying90,by kernel_rfl,by rfl,by decide,by intro x hx;simp[Value.cells]at hx;subst hx;rfl⟩
section
variable {P:Program} {t e:TypeId} {z:Value} {s y:Nat} {w:World} {g n cap i j:Nat} {xs:U_}
theorem vQ (h:Rw e s w g n cap xs):(xs.drop (j*s)).length=(n-j)*s:=by
 rw[List.length_drop,h.len,Nat.sub_mul]
theorem ZW (E:J4 P t e z s y) (h:Rw e s w g n cap xs) (hij:i<j) (hjn:j<=n) {ty:TypeId}:∃w',(Builtin.append_ #[t,t] ty #[.slice (some (S_ g)) i cap,.slice (if cap=j then some (S_ g)else some (T_ g (j*s))) (n-j) (cap-j)]).run P w=.ok (.slice (some (S_ g)) (i+(n-j)) cap) w'/\Ab (At g) w w'/\Rw e s w' g (i+(n-j)) cap (xs.take (i*s)++xs.drop (j*s)):=by
 obtain⟨cur,hc,hcs,htk⟩:=h.blk;have hle:=h.le;have hl:=vQ (j:=j) h;have e1:i*s+(n-j)*s=(i+(n-j))*s:=by rw[Nat.add_mul]
 have e2:(i+(n-j))*s<=n*s:=Nat.mul_le_mul_right _ (by omega);have e3:n*s<=cap*s:=Nat.mul_le_mul_right _ hle;have hnews:∀k u,(xs.drop (j*s))[k]?=some u->w.cell? ((if cap=j then((S_ g):Addr)else(T_ g (j*s))).add k)=some u:=by
  intro k u hu
  rw[List.getElem?_drop]at hu
  have hk:=(KH.1 hu).1
  rw[h.len]at hk
  have:cap≠j:=by
   intro e;subst e
   have:=Nat.mul_le_mul_right s hle
   omega
  rw[if_neg this]
  have JA:((T_ g (j*s)):Addr).add k=(T_ g (j*s+k)):=by unfold Addr.add;split<;>simp_all
  rw[JA,h.cell hk,hu]
 have ho:∀u∈xs.drop (j*s),u.oneCell'=true:=fun u hu=>h.one u (List.mem_of_mem_drop hu)
 have Fq:=Yg (w:=w) (m:=n-j) (c:=cap-j) (Ca:=i) (sCap:=cap) E (ty:=ty) hc hl hnews ho (by omega) (by rw[hcs];omega);have hif:(if cap=j then some ((S_ g):Addr)else some (T_ g (j*s)))=some (if cap=j then((S_ g):Addr)else(T_ g (j*s))):=by split<;>rfl
 rw[hif];have hsl:(NM cur.toList (i*s) (xs.drop (j*s))).length=cap*s:=by rw[J8 (by rw[hl,Array.length_toList,hcs];omega)];simpa using hcs
 refine⟨_,Fq,(Ab.refl _ _).setRow _ _ fun _=>rfl,Qd h hsl (by omega) ?_ ?_⟩
 ·have ht:xs.take (i*s)=cur.toList.take (i*s):=by rw[<-htk,List.take_take,Nat.min_eq_left (Nat.mul_le_mul_right _ (by omega))]
  unfold NM;have BC:(cur.toList.take (i*s)).length=i*s:=by rw[List.length_take,Array.length_toList,hcs];exact Nat.min_eq_left (by omega)
  have hla:(cur.toList.take (i*s)++xs.drop (j*s)).length=(i+(n-j))*s:=by rw[List.length_append,BC,hl,e1]
  rw[ht,<-hla,List.take_left]
 ·intro x hx;rcases List.mem_append.1 hx with hx|hx
  ·exact h.one x (List.mem_of_mem_take hx)
  ·exact ho x hx
theorem MJ (E:J4 P t e z s y) {k c q:Nat} (h:Rw e s w g k cap xs) (hk:k+q<=cap) {ty:TypeId}:∃w',(Builtin.clear_ #[t] ty #[.slice (some (T_ g (k*s))) q c]).run P w=.ok (.tuple #[]) w'/\Ab (At g) w w'/\Rw e s w' g k cap xs:=by
 obtain⟨cur,hc,hcs,htk⟩:=h.blk;have e1:k*s+q*s=(k+q)*s:=by rw[Nat.add_mul]
 have e2:(k+q)*s<=cap*s:=Nat.mul_le_mul_right _ hk;have hsl:(NM cur.toList (k*s) (Builtin.zeroCells z.cells q).toList).length=cap*s:=by rw[J8 (by rw[Pg E];simp[hcs];omega)];simpa using hcs
 refine⟨_,ad6 E hc (by rw[hcs];omega),(Ab.refl _ _).setRow _ _ fun _=>rfl,Qd h hsl h.le ?_ h.one⟩;unfold NM;rw[List.append_assoc,List.take_append_of_le_length (by rw[List.length_take,Array.length_toList,hcs];exact Nat.le_min.2 ⟨Nat.le_refl _,by omega⟩),List.take_take,Nat.min_self,htk]
end
section
variable (m:Nat) (w:World)
theorem iH (g n cap i j:Nat) (xs:U_) (hR:Rw 186 2 w g n cap xs) (hij:i<j) (hjn:j<=n):
  CallsIn NF m prog 132 #[.slice (some (S_ g)) n cap,.int .i64 (i:Nat),.int .i64 (j:Nat)] w fun e w'=>e=.returned (.slice (some (S_ g)) (i+(n-j)) cap)/\Ab (At g) w w'/\Rw 186 2 w' g (i+(n-j)) cap (xs.take (i*2)++xs.drop (j*2)):=by
 have hle:=hR.le;have f1:¬((j:Int)<(i:Int)):=by omega
 have f2:¬((n:Int)<(j:Int)):=by omega
 have f3:¬((cap:Int)<(n:Int)):=by omega
 by_cases hcj:cap=j
 all_goals
  gi_enter func132,ntmps132
  gi_wp2
  refine AA (P:=prog) No _ rfl rfl (by kernel_rfl) 6 33 [0,1,2,3,4,5] [] (by kernel_rfl) (by rfl) (fun _ _ _=>True) (fun _ _ _ _ _ h _=>h) _ _ rfl rfl ?_
  gi_wp2
  refine⟨rfl,by kernel_rfl,?_,(fun i hi=>absurd hi (by simp)),?_⟩
  ·intro W hK
   repeat' (refine Ao ?_ ?_)
   all_goals first|exact trivial|gi_wp2
  ·intro u W hK _;simp only[C9];obtain⟨w1,Fq,hK1,h1⟩:=ZW (w:=W) (ty:=90) RH (hR.keep ((Ab.refl No w).drew.then hK) id) hij hjn;obtain⟨w2,hcl,Fe,h2⟩:=MJ (c:=cap-(i+(n-j))) (q:=n-(i+(n-j))) (ty:=0) RH h1 (by omega)
   first|(rw[if_pos hcj]at Fq;simp only[hcj,Nat.sub_self]at Fq hcl)|rw[if_neg hcj]at Fq
   refine BL rfl (.tmp 22) (.tmp 25) _ rfl rfl rfl Fq ?_;gi_wp2;go_ret;exact⟨by simp[hcj],(((Ab.refl _ _).drew.then hK.no).then hK1).then Fe,h2⟩
end
theorem qb {l cs:U_} {o k:Nat} (h:o+cs.length<=k) (hk:k<=l.length):(NM l o cs).take k=NM (l.take k) o cs:=by
 apply List.ext_getElem?;intro i;rw[List.getElem?_take,O0 (by omega),O0 (by rw[List.length_take];omega),List.getElem?_take];by_cases h1:i<k
 ·simp[h1]
 ·have:¬i<o:=by omega
  have:¬i<o+cs.length:=by omega
  simp[*]
section
variable {P:Program} {t e:TypeId} {z:Value} {s y:Nat} {w:World} {g n cap i:Nat} {xs ys:U_}
theorem oD (E:J4 P t e z s y) (h:Rw e s w g n cap xs) {o q Gx FI Ca sCap:Nat} {a:Addr} {cs:U_} (hq:Nat.min Ca Gx=q) (hl:cs.length=q*s) (hsrc:∀j v,cs[j]?=some v->w.cell? (a.add j)=some v) (h1:∀v∈cs,v.oneCell'=true) (ho:o+q<=n) {sT ty:TypeId}:
  ∃w',(Builtin.copy_ #[t,sT] ty #[.slice (some (T_ g (o*s))) Gx FI,.slice (some a) Ca sCap]).run P w=.ok (goInt q) w'/\Ab (At g) w w'/\Rw e s w' g n cap (NM xs (o*s) cs):=by
 obtain⟨cur,hc,hcs,htk⟩:=h.blk;have hle:=h.le;have e1:o*s+q*s<=n*s:=by rw[<-Nat.add_mul];exact Nat.mul_le_mul_right _ ho
 have e3:n*s<=cap*s:=Nat.mul_le_mul_right _ hle;have hcp:=gq (ty:=ty) (sT:=sT) (Gx:=Gx) (FI:=FI) (Ca:=Ca) (sCap:=sCap) (o:=o*s) E hc (by rw[hq];exact hl) hsrc (by rw[hl,hcs];omega) h1;rw[hq]at hcp;refine⟨_,hcp,(Ab.refl _ _).setRow _ _ fun _=>rfl,Qd h ?_ hle ?_ ?_⟩
 ·rw[J8 (by rw[hl,Array.length_toList,hcs];omega)];simpa using hcs
 ·rw[qb (by rw[hl];exact e1) (by rw[Array.length_toList,hcs];exact e3),htk]
 ·intro x hx;unfold NM at hx;rcases List.mem_append.1 hx with hx|hx
  ·rcases List.mem_append.1 hx with hx|hx
   ·exact h.one x (List.mem_of_mem_take hx)
   ·exact h1 x hx
  ·exact h.one x (List.mem_of_mem_drop hx)
theorem WV (E:J4 P t e z s y) (h:Rw e s w g n cap xs) {m sCap:Nat} {a:Addr} (hl:ys.length=m*s) (hsrc:∀j v,ys[j]?=some v->w.cell? (a.add j)=some v) (h1:∀v∈ys,v.oneCell'=true) (hsm:n+m<=1000000) (hy:y<=1000) {ty:TypeId}:
  ∃g' BK w',(Builtin.append_ #[t,t] ty #[.slice (some (S_ g)) n cap,.slice (some a) m sCap]).run P w=.ok (.slice (some (S_ g')) (n+m) BK) w'/\Rw e s w' g' (n+m) BK (xs++ys)/\(g'=g/\Ab (At g) w w'\/g'=w.heap.size/\Ab No w w'):=by
 obtain⟨cur,hc,hcs,htk⟩:=h.blk;have ho:∀x∈xs++ys,x.oneCell'=true:=fun x hx=>by
  rcases List.mem_append.1 hx with hx|hx
  ·exact h.one x hx
  ·exact h1 x hx
 by_cases hr:n+m<=cap
 ·have e1:n*s+m*s<=cap*s:=by rw[<-Nat.add_mul];exact Nat.mul_le_mul_right _ hr
  have Fq:=Yg (w:=w) (m:=m) (c:=sCap) (Ca:=n) (sCap:=cap) E (ty:=ty) hc hl hsrc h1 hr (by rw[hl,hcs];exact e1);refine⟨g,cap,_,Fq,Qd h ?_ hr ?_ ho,.inl ⟨rfl,(Ab.refl _ _).setRow _ _ fun _=>rfl⟩⟩
  ·rw[J8 (by rw[hl,Array.length_toList,hcs];exact e1)];simpa using hcs
  ·unfold NM;have hla:(cur.toList.take (n*s)++ys).length=(n+m)*s:=(by rw[htk,List.length_append,h.len,hl,Nat.add_mul]);rw[<-hla,List.take_left,htk]
 ·obtain⟨ii,hi,hz,hs,hby⟩:=E.parts;have hmul:(n+m)*y<=1000000*1000:=Nat.mul_le_mul hsm hy;have Fq:=run_append_grow (P:=P) w t ty e ii z E.und hi hz (S_ g) n cap xs (by rw[hs];exact h.len) h.cells a m sCap ys (by rw[hs];exact hl) hsrc (by omega) (by omega) (growslice_fits (by omega) (by rw[hby];omega));have yP:n+m<=maxLen:=by simp only[maxLen];omega
  have hge:=grownCap_ge w (n+m) cap e;refine⟨_,_,_,Fq,⟨⟨_,heap_alloc_new rfl,?_,?_⟩,hge,grownCap_le_maxLen w (n+m) cap e yP,?_,ho⟩,.inr ⟨rfl,(Ab.refl No w).drew.alloc _⟩⟩
  ·simp only[Array.size_append,List.size_toArray,size_zeroCells,E.zs,h.len,hl,<-Nat.add_mul]
   congr 1
   omega
  ·simp only[Array.toList_append,List.append_assoc];rw[<-List.append_assoc];have hla:(xs++ys).length=(n+m)*s:=(by rw[List.length_append,h.len,hl,Nat.add_mul]);rw[<-hla];exact List.take_left
  ·rw[List.length_append,h.len,hl,Nat.add_mul]
theorem ZR (E:J4 P t e z s y) (h:Rw e s w g n cap xs) {m:Nat} (hi:i<=n) (hm:0<m) (hgr:cap<i+m) (hsm:i+m<=1000000) (hy:y<=1000) {ty ti:TypeId} (hti:P.underlying ti=some (.int .i64)):
  ∃BK w',(Builtin.append_ #[t,ti] ty #[.slice (some (S_ g)) i cap,.int .i64 (m:Nat)]).run P w=.ok (.slice (some (S_ w.heap.size)) (i+m) BK) w'/\Rw e s w' w.heap.size (i+m) BK (xs.take (i*s)++(Builtin.zeroCells z.cells m).toList)/\Ab No w w':=by
 have hle:i*s<=n*s:=Nat.mul_le_mul_right _ hi;have hlo:(xs.take (i*s)).length=i*s:=by rw[List.length_take,h.len];exact Nat.min_eq_left hle
 have Fq:=rE (w:=w) (ty:=ty) E hti (b:=(S_ g)) (sCap:=cap) hlo (fun j v hv=>h.cells j v (by rw[List.getElem?_take]at hv;split at hv;exact hv;cases hv)) hm hgr hsm hy;have yP:i+m<=maxLen:=by simp only[maxLen];omega
 have hge:=grownCap_ge w (i+m) cap e;refine⟨_,_,Fq,⟨⟨_,heap_alloc_new rfl,?_,?_⟩,hge,grownCap_le_maxLen w (i+m) cap e yP,?_,?_⟩,(Ab.refl No w).drew.alloc _⟩
 ·simp only[Array.size_append,List.size_toArray,size_zeroCells,E.zs,hlo,<-Nat.add_mul]
  congr 1
  omega
 ·simp only[Array.toList_append];have hla:(xs.take (i*s)++(Builtin.zeroCells z.cells m).toList).length=(i+m)*s:=by rw[List.length_append,hlo,Pg E,Nat.add_mul]
  rw[<-hla];exact List.take_left
 ·rw[List.length_append,hlo,Pg E,Nat.add_mul]
 ·intro x hx;rcases List.mem_append.1 hx with hx|hx
  ·exact h.one x (List.mem_of_mem_take hx)
  ·exact Xo E m x hx
theorem gV (E:J4 P t e z s y) (h:Rw e s w g n cap xs) (hi:i<n) (hr:n+1<=cap) {ty FI sCap:Nat}:
  ∃w',(Builtin.copy_ #[t,t] ty #[.slice (some ⟨g,(i+1)*s,none⟩) (n+1-(i+1)) FI,.slice (some (T_ g (i*s))) (n+1-i) sCap]).run P w=.ok (goInt ((n-i:Nat):Int)) w'/\Ab (At g) w w'/\
   ∀w2 a RI RA,Ab No w' w2->ys.length=s->(∀j v,ys[j]?=some v->w2.cell? (a.add j)=some v)->(∀v∈ys,v.oneCell'=true)->
    ∃w3,(Builtin.copy_ #[t,t] ty #[.slice (some (T_ g (i*s))) (n+1-i) RI,.slice (some a) 1 RA]).run P w2=.ok (goInt 1) w3/\Ab (At g) w2 w3/\Rw e s w3 g (n+1) cap (xs.take (i*s)++ys++xs.drop (i*s)):=by
 obtain⟨cur,hc,hcs,htk⟩:=h.blk;have e1:i*s+s=(i+1)*s:=by rw[Nat.succ_mul]
 have e2:(n-i)*s=n*s-i*s:=Nat.sub_mul ..;have e3:i*s<=n*s:=Nat.mul_le_mul_right _ (by omega);have e4:n*s+s=(n+1)*s:=by rw[Nat.succ_mul]
 have e5:(n+1)*s<=cap*s:=Nat.mul_le_mul_right _ hr;have hl:(xs.drop (i*s)).length=(n-i)*s:=by rw[List.length_drop,h.len,e2]
 have hsrc:∀j v,(xs.drop (i*s))[j]?=some v->w.cell? (((T_ g (i*s)):Addr).add j)=some v:=by
  intro k u hu
  rw[List.getElem?_drop]at hu
  have hk:=(KH.1 hu).1
  rw[h.len]at hk
  have JA:((T_ g (i*s)):Addr).add k=(T_ g (i*s+k)):=by unfold Addr.add;split<;>simp_all
  rw[JA,h.cell hk,hu]
 have hq:Nat.min (n+1-i) (n+1-(i+1))=n-i:=by
  show min _ _=_
  omega
 have ho:∀u∈xs.drop (i*s),u.oneCell'=true:=fun u hu=>h.one u (List.mem_of_mem_drop hu)
 have hcp:=gq (ty:=ty) (sT:=t) (Gx:=n+1-(i+1)) (FI:=FI) (Ca:=n+1-i) (sCap:=sCap) (o:=(i+1)*s) E hc (by rw[hq];exact hl) hsrc (by rw[hl,hcs];omega) ho;rw[hq]at hcp;have en:n+1-(i+1)=n-i:=by omega
 have hs1:(NM cur.toList ((i+1)*s) (xs.drop (i*s))).length=cap*s:=by rw[J8 (by rw[hl,Array.length_toList,hcs];omega)];simpa using hcs
 refine⟨_,by rw[en]at hcp ⊢;exact hcp,(Ab.refl _ _).setRow _ _ fun _=>rfl,?_⟩;intro w2 a RI RA hK hyl hy hy1;have hc2:=hK.old (setRow_heap w g cur (NM cur.toList ((i+1)*s) (xs.drop (i*s))).toArray e (0,0) hc) id;have hq2:Nat.min 1 (n+1-i)=1:=by
  show min _ _=_
  omega
 have hcp2:=gq (ty:=ty) (sT:=t) (Gx:=n+1-i) (FI:=RI) (Ca:=1) (sCap:=RA) (o:=i*s) (cs:=ys) E hc2 (by rw[hq2,hyl];omega) hy (by rw[hyl,List.size_toArray,hs1];omega) hy1;rw[hq2]at hcp2;refine⟨_,hcp2,(Ab.refl _ _).setRow _ _ fun _=>rfl,⟨⟨_,setRow_heap w2 g _ _ e (0,0) hc2,?_,?_⟩,hr,h.max,?_,?_⟩⟩
 ·rw[List.size_toArray,J8 (by rw[hyl];simp only[hs1];omega)];simpa using hs1
 ·show(NM (NM cur.toList ((i+1)*s) (xs.drop (i*s))) (i*s) ys).take ((n+1)*s)=_;apply List.ext_getElem?;intro k;rw[List.getElem?_take,O0 (by rw[hs1,hyl];omega),O0 (by rw[hl,Array.length_toList,hcs];omega),List.append_assoc,List.getElem?_append,List.getElem?_append,List.getElem?_take,List.getElem?_drop,hyl,hl,List.length_take,h.len,Nat.min_eq_left e3];have hx:∀j,j<n*s->cur.toList[j]?=xs[j]?:=fun j hj=>by rw[<-htk,List.getElem?_take,if_pos hj]
  by_cases c1:k<i*s
  ·have:k<(n+1)*s:=(by omega);have:k<(i+1)*s:=(by omega);simp only[*,if_true];exact hx k (by omega)
  ·by_cases c2:k<i*s+s
   ·have c3:k<(n+1)*s:=(by omega);have c4:k-i*s<s:=(by omega);simp only[c1,c2,c3,c4,if_true,if_false]
   ·have c4:¬k-i*s<s:=(by omega);have c5:¬k<(i+1)*s:=(by omega);by_cases c3:k<(n+1)*s
    ·have c6:k<(i+1)*s+(n-i)*s:=(by omega);simp only[c1,c2,c3,c4,c5,c6,if_true,if_false];rw[List.getElem?_drop]
     congr 1
     omega
    ·simp only[c1,c2,c3,c4,if_false];rw[List.getElem?_eq_none];rw[hl];omega
 ·rw[List.length_append,List.length_append,hl,hyl,List.length_take,h.len,Nat.min_eq_left e3];omega
 ·intro x hx;rcases List.mem_append.1 hx with hx|hx
  ·rcases List.mem_append.1 hx with hx|hx
   ·exact h.one x (List.mem_of_mem_take hx)
   ·exact hy1 x hx
  ·exact ho x hx
def I4 (xs ys:U_) (k:Nat):U_:=xs.take k++ys++xs.drop k
theorem gX (E:J4 P t e z s y) {g1:Nat} {BK:Nat} {zs:U_} (h1:Rw e s w g1 (n+1) BK (xs.take (i*s)++zs)) (hi:i<n) (hx:xs.length=n*s) {a:Addr} {FI sCap:Nat} (hyl:ys.length=s) (hy:∀j v,ys[j]?=some v->w.cell? (a.add j)=some v) (hy1:∀v∈ys,v.oneCell'=true) {ty:TypeId}:
  ∃w',(Builtin.copy_ #[t,t] ty #[.slice (some (T_ g1 (i*s))) (n+1-i) FI,.slice (some a) 1 sCap]).run P w=.ok (goInt 1) w'/\Ab (At g1) w w'/\
   ∀w2 RI RA,Ab No w' w2->Rw e s w2 g n cap xs->∃w3,(Builtin.copy_ #[t,t] ty #[.slice (some ⟨g1,(i+1)*s,none⟩) (n+1-(i+1)) RI,.slice (some (T_ g (i*s))) (n-i) RA]).run P w2=.ok (goInt ((n-i:Nat):Int)) w3/\Ab (At g1) w2 w3/\Rw e s w3 g1 (n+1) BK (I4 xs ys (i*s)):=by
 have e3:i*s<=n*s:=Nat.mul_le_mul_right _ (by omega);have e1:i*s+s=(i+1)*s:=by rw[Nat.succ_mul]
 have e2:(n-i)*s=n*s-i*s:=Nat.sub_mul ..;have e4:n*s+s=(n+1)*s:=by rw[Nat.succ_mul]
 have hq2:Nat.min 1 (n+1-i)=1:=by
  show min _ _=_
  omega
 have hzl:zs.length=(n+1)*s-i*s:=by
  have:=h1.len
  rw[List.length_append,List.length_take,hx,Nat.min_eq_left e3]at this
  omega
 obtain⟨w',hcp,hK',Fb⟩:=oD (FI:=FI) (sCap:=sCap) (o:=i) (cs:=ys) (ty:=ty) (sT:=t) E h1 hq2 (by rw[hyl];omega) hy hy1 (by omega);refine⟨w',hcp,hK',?_⟩;intro w2 RI RA hK hR;have hl:(xs.drop (i*s)).length=(n-i)*s:=by rw[List.length_drop,hx,e2]
 have hsrc:∀j v,(xs.drop (i*s))[j]?=some v->w2.cell? (((T_ g (i*s)):Addr).add j)=some v:=by
  intro k u hu
  rw[List.getElem?_drop]at hu
  have hk:=(KH.1 hu).1
  rw[hR.len]at hk
  have JA:((T_ g (i*s)):Addr).add k=(T_ g (i*s+k)):=by unfold Addr.add;split<;>simp_all
  rw[JA,hR.cell hk,hu]
 have hq:Nat.min (n-i) (n+1-(i+1))=n-i:=by
  show min _ _=_
  omega
 obtain⟨w3,Zw,hK3,Rf⟩:=oD (FI:=RI) (sCap:=RA) (o:=i+1) (cs:=xs.drop (i*s)) (ty:=ty) (sT:=t) E (Fb.keep hK id) hq hl hsrc (fun u hu=>hR.one u (List.mem_of_mem_drop hu)) (by omega);refine⟨w3,Zw,hK3,?_⟩;have BC:(xs.take (i*s)).length=i*s:=by rw[List.length_take,hx];exact Nat.min_eq_left e3
 have q1:NM (xs.take (i*s)++zs) (i*s) ys=xs.take (i*s)++(ys++zs.drop s):=by
  unfold NM
  rw[List.take_left' BC,hyl,List.drop_append,BC,List.drop_of_length_le (by omega),List.nil_append,List.append_assoc]
  congr 3
  omega
 have q2:NM (xs.take (i*s)++(ys++zs.drop s)) ((i+1)*s) (xs.drop (i*s))=I4 xs ys (i*s):=by
  have hd:(xs.take (i*s)++ys++zs.drop s).drop ((i+1)*s+(xs.drop (i*s)).length)=[]:=List.drop_of_length_le (by rw[List.length_append,List.length_append,BC,hyl,List.length_drop,hzl,hl];omega)
  unfold NM I4
  rw[<-List.append_assoc (xs.take (i*s)),List.take_left' (by rw[List.length_append,BC,hyl,e1]),hd,List.append_nil]
 rw[q1,q2]at Rf;exact Rf
end
theorem XL {P:Program} {t e:TypeId} {z:Value} {s y:Nat} (E:J4 P t e z s y) {w:World} {f:FuncId} (hx:∃fn rs,P.funcs[f]?=some fn/\(fn.name== "runtime.NumGoroutine")=false/\fn.body.isNone=true/\Extern.findNext fn=none/\Extern.find fn=some (Extern.SlicesOverlaps.overlaps #[t,t] rs))
  {a b o la lb ca cb:Nat} (ne:a≠b) {x u:X_} {T U:TypeId} (ha:w.heap[a]?=some (.cells x T (0,0))) (hb:w.heap[b]?=some (.cells u U (0,0))):(callFunc f #[.slice (some (S_ a)) la ca,.slice (some (T_ b o)) lb cb]).run P w=.ok (.value (.bool false)) w:=by
 obtain⟨fn,rs,h1,h2,h3,h4,h5⟩:=hx;obtain⟨i,hi,hz,hs,hy⟩:=E.parts;have fa:w.frozen? (S_ a)=false:=BF ha 0;have fb:w.frozen? (T_ b o)=false:=BF hb o;have hn:(a==b)=false:=by simpa using ne
 have e1:(callFunc f #[.slice (some (S_ a)) la ca,.slice (some (T_ b o)) lb cb]).run P w=((mark (.extern f))>>= fun _=>(Extern.SlicesOverlaps.overlaps #[t,t] rs #[.slice (some (S_ a)) la ca,.slice (some (T_ b o)) lb cb])>>= fun x=>pure (.value x):Sem Next).run P w:=by
  unfold callFunc
  show(match P.funcs[f]? with
   | none=>stuck "call: no such function"
   | some fn=>_:Sem Next).run P w=_
  rw[h1]
  simp only[h2,h3,h4,h5,Bool.false_eq_true,if_false,if_true]
  first|done|rfl
 rw[e1,LU];have sa:w.shape? a=some (T,x.size):=by simp[World.shape?,ha]
 have sb:w.shape? b=some (U,u.size):=by simp[World.shape?,hb]
 have ga:w.frozen? (T_ a x.size)=false:=BF ha _;have gb:w.frozen? (T_ b u.size)=false:=BF hb _;by_cases h0:la=0\/lb=0
 ·have h0':la=0\/lb=0\/s=0:=by rcases h0 with h|h<;>simp[h]
  simp[run_underlying E.und,sizeOf,typeInfo,hi,hs,h0']
 ·have h0':¬(la=0\/lb=0\/s=0):=by have:=E.pos;omega
  simp[run_underlying E.und,sizeOf,typeInfo,hi,hs,fa,fb,hn,noView,viewAt,mayBeOne,stringish,h0',sa,sb,ga,gb]
@[simp] theorem bh5:(169:FuncId)∈LF:=by decide
@[simp] theorem bh3:(235:FuncId)∈LF:=by decide
theorem bb7:∃fn rs,prog.funcs[169]?=some fn/\(fn.name== "runtime.NumGoroutine")=false/\fn.body.isNone=true/\Extern.findNext fn=none/\Extern.find fn=some (Extern.SlicesOverlaps.overlaps #[90,90] rs):=⟨(prog.funcs[169]?).getD default,#[4],by kernel_rfl,by kernel_rfl,by kernel_rfl,by kernel_rfl,by kernel_rfl⟩
section
variable (m:Nat) (w:World)
theorem YT (g n cap vb:Nat) (xs ys:U_) (hR:Rw 186 2 w g n cap xs) (hV:Rw 186 2 w vb 1 1 ys) (hsm:n<=100000):
  CallsIn NF m prog 129 #[.slice (some (S_ g)) n cap,.int .i64 (n:Nat),.slice (some (S_ vb)) 1 1] w fun e w'=>∃g' BK,e=.returned (.slice (some (S_ g')) (n+1) BK)/\Ab (At g) w w'/\Rw 186 2 w' g' (n+1) BK (xs++ys)/\(g'=g\/w.heap.size<=g'):=by
 obtain⟨g',BK,w',Fq,Fb,hK⟩:=WV (ty:=90) (sCap:=1) RH hR hV.len hV.cells hV.one (by omega) (by omega);have hle:=hR.le;by_cases hcn:cap=n
 all_goals
  first|simp only[hcn]at Fq ⊢ | skip
  gi_enter func129,ntmps129
  gi_wp2_with (refine BL rfl (.tmp 23) (.tmp 24) _ rfl rfl rfl Fq ?_)
  go_ret
  refine⟨g',BK,by simp,?_,Fb,?_⟩
  ·rcases hK with⟨_,h⟩|⟨_,h⟩
   ·exact h
   ·exact h.no
  ·rcases hK with⟨h,_⟩|⟨h,_⟩
   ·exact .inl h
   ·exact .inr (by omega)
theorem Ws (g n cap vb i:Nat) (xs ys:U_) (hR:Rw 186 2 w g n cap xs) (hV:Rw 186 2 w vb 1 1 ys) (hi:i<n) (hsm:n<=100000) (hgr:cap<n+1):
  CallsIn NF m prog 129 #[.slice (some (S_ g)) n cap,.int .i64 (i:Nat),.slice (some (S_ vb)) 1 1] w fun e w'=>∃g' BK,e=.returned (.slice (some (S_ g')) (n+1) BK)/\Ab (At g) w w'/\Rw 186 2 w' g' (n+1) BK (I4 xs ys (i*2))/\(g'=g\/w.heap.size<=g'):=by
 have hle:=hR.le;obtain⟨BK,w1,Fq,fG,hK1⟩:=ZR (i:=i) (m:=n+1-i) (ty:=90) (ti:=3) RH hR (by omega) (by omega) (by omega) (by omega) (by omega) underlying3;have en:i+(n+1-i)=n+1:=by omega
 rw[en]at Fq fG;have hle1:=fG.le;obtain⟨w2,hcp,Fe,hnext⟩:=gX (i:=i) (n:=n) (xs:=xs) (ys:=ys) (g:=g) (cap:=cap) (FI:=BK - i) (sCap:=1) (ty:=3) (a:=(S_ vb)) RH fG hi hR.len hV.len (hV.keep hK1 id).cells hV.one;have mM:Ab No w w2:=hK1.trans (S':=At w.heap.size) Fe (fun k hk h=>by have:k=w.heap.size:=h;omega);obtain⟨w3,Zw,hK3,Rf⟩:=hnext w2.drew (BK - (i+1)) (cap-i) (Ab.refl No w2).drew ((hR.keep mM id).keep (Ab.refl No w2).drew id);have zb:n+1-(i+1)=n-i:=by omega
 rw[zb]at Zw;have nJ:Ab No w w3:=mM.drew.trans (S':=At w.heap.size) hK3 (fun k hk h=>by have:k=w.heap.size:=h;omega);have f1:¬((n:Int)<(i:Int)):=by omega
 have f4:¬((n:Int)+1<=(cap:Int)):=by omega
 have f6:¬(BK=i):=by omega
 have f7:¬(BK=i+1):=by omega
 have f8:¬(cap=i):=by omega
 have ez:((n:Int)+1-(i:Int))=((n+1-i:Nat):Int):=by omega
 gi_enter func129,ntmps129;gi_wp2_with (first|(gi_at_builtin;refine BL rfl (.tmp 34) (.tmp 39) _ rfl rfl rfl Fq ?_)|(refine Js rfl (.tmp 43) (.tmp 44) _ rfl rfl rfl hcp ?_));gi_region
 all_goals gi_wp2
 all_goals go_ret
 all_goals exact⟨_,_,by simp,nJ.no,Rf,.inr (Nat.le_refl _)⟩
theorem Um (g n cap vb i:Nat) (xs ys:U_) (hR:Rw 186 2 w g n cap xs) (hV:Rw 186 2 w vb 1 1 ys) (BN:vb≠g) (hi:i<n) (hsm:n<=100000) (hgr:n+1<=cap):
  CallsIn NF m prog 129 #[.slice (some (S_ g)) n cap,.int .i64 (i:Nat),.slice (some (S_ vb)) 1 1] w fun e w'=>∃g' BK,e=.returned (.slice (some (S_ g')) (n+1) BK)/\Ab (At g) w w'/\Rw 186 2 w' g' (n+1) BK (I4 xs ys (i*2))/\(g'=g\/w.heap.size<=g'):=by
 obtain⟨cg,hcg,_⟩:=hR.blk;obtain⟨cv,hcv,_⟩:=hV.blk;have f8:¬(cap=i):=by omega
 have f9:¬(cap=i+1):=by omega
 have hov:=XL (la:=1) (ca:=1) (lb:=n-i) (cb:=cap-(i+1)) (o:=(i+1)*2) RH bb7 BN hcv hcg;obtain⟨w1,hcp,hK1,hnext⟩:=gV (ys:=ys) (i:=i) (ty:=3) (FI:=cap-(i+1)) (sCap:=cap-i) RH (hR.keep (Ab.refl No w).drew id) hi hgr;have zb:n+1-(i+1)=n-i:=by omega
 rw[zb]at hcp;obtain⟨w3,Zw,hK3,Rf⟩:=hnext w1 (S_ vb) (cap-i) 1 (Ab.refl No w1) hV.len (hV.keep ((Ab.refl (At g) w).drew.then hK1) BN).cells hV.one;gi_enter func129,ntmps129;gi_wp2;gi_region
 all_goals gi_wp2
 all_goals go_ret
 all_goals exact⟨g,cap,by simp,((Ab.refl (At g) w).drew.then hK1).then hK3,Rf,.inl rfl⟩
end
def rc:List (W_)->U_
 | []=>[]
 | r::l=>.int .i64 r.1::.int .i64 r.2::rc l
theorem Qe:∀l k:List (W_),rc (l++k)=rc l++rc k
 | [],k=>rfl
 | r::l,k=>by simp only[rc,List.cons_append,Qe l k]
theorem Nh:∀(l:List (W_)) (i:Nat),(rc l).take (i*2)=rc (l.take i)
 | _,0=>by simp[rc]
 | [],i+1=>by simp[rc]
 | r::l,i+1=>by simp only[rc,Nat.succ_mul,List.take_succ_cons,Nh l i]
theorem Ni:∀(l:List (W_)) (i:Nat),(rc l).drop (i*2)=rc (l.drop i)
 | _,0=>by simp
 | [],i+1=>by simp[rc]
 | r::l,i+1=>by simp only[rc,Nat.succ_mul,List.drop_succ_cons,Ni l i]
theorem oF:∀(l:List (W_)) (i:Nat) (r:W_),l[i]?=some r->(rc l)[i*2]?=some (.int .i64 r.1)/\(rc l)[i*2+1]?=some (.int .i64 r.2)
 | [],i,r,h=>by simp at h
 | x::l,0,r,h=>by simp at h;subst h;simp[rc]
 | x::l,i+1,r,h=>by
  have:=oF l i r (by simpa using h)
  simp only[rc,Nat.succ_mul,List.getElem?_cons_succ]
  exact this
theorem ig:∀(l:List (W_)) (i a:Nat) (r:W_),l[i]?=some r->(rc l).set (i*2) (.int .i64 a)=rc (l.set i (a,r.2))
 | [],i,a,r,h=>by simp at h
 | x::l,0,a,r,h=>by simp at h;subst h;simp[rc]
 | x::l,i+1,a,r,h=>by
  have:=ig l i a r (by simpa using h)
  simp only[rc,Nat.succ_mul,List.set_cons_succ,this]
theorem ic:∀(l:List (W_)) (i a:Nat) (r:W_),l[i]?=some r->(rc l).set (i*2+1) (.int .i64 a)=rc (l.set i (r.1,a))
 | [],i,a,r,h=>by simp at h
 | x::l,0,a,r,h=>by simp at h;subst h;simp[rc]
 | x::l,i+1,a,r,h=>by
  have:=ic l i a r (by simpa using h)
  simp only[rc,Nat.succ_mul,List.set_cons_succ]
  rw[this]
def Mp (T:TypeId) (w:World) (g cap:Nat) (l:List (W_)):Prop:=Rw T 2 w g l.length cap (rc l)
theorem Mp.cells {T:TypeId} {w:World} {g cap:Nat} {l:List (W_)} (h:Mp T w g cap l) {i:Nat} {r:Nat×Nat} (hi:l[i]?=some r):w.cell? (T_ g (i*2))=some (.int .i64 r.1)/\w.cell? (T_ g (i*2+1))=some (.int .i64 r.2):=by
 have hl:=(KH.1 hi).1;have hg:=oF l i r hi;exact⟨(Rw.cell h (by omega)).trans hg.1,(Rw.cell h (by omega)).trans hg.2⟩
def QC (l:List (W_)) (p:Nat×Nat->Bool):Int:=match l.findIdx? p with|some i=>i|none=>-1
theorem PI {l:List (W_)} {p:Nat×Nat->Bool} (h:∀(i:Nat) r,l[i]?=some r->p r=false):QC l p=-1:=by
 unfold QC;rw[List.findIdx?_eq_none_iff.2];intro x hx;obtain⟨i,hi⟩:=List.getElem?_of_mem hx;exact h i x hi
theorem PH {l:List (W_)} {p:Nat×Nat->Bool} {k:Nat} {r:Nat×Nat} (h:∀(i:Nat) r,i<k->l[i]?=some r->p r=false) (hk:l[k]?=some r) (hp:p r=true):QC l p=k:=by
 have BC:=(KH.1 hk);obtain⟨h1,h2⟩:=BC;unfold QC;have:l.findIdx? p=some k:=by
  rw[List.findIdx?_eq_some_iff_getElem]
  refine⟨h1,by rw[h2];exact hp,fun j hj=>?_⟩
  have hj':j<l.length:=Nat.lt_trans hj h1
  have:=h j l[j] hj (HZ hj')
  simp[this]
 rw[this]
section
variable (m:Nat) (w:World)
theorem qM (g cap Zj n:Nat) (l:List (W_)) (h:Mp 186 w g cap l) (hn:w.cell? (S_ Zj)=some (.int .i64 n)) (hl:l.length<=100000):
  CallsIn NF m prog 127 #[.slice (some (S_ g)) l.length cap,.func (.func 131) #[] #[R_ Zj]] w fun e w'=>e=.returned (.int .i64 (QC l fun r=>decide (n<=r.2)))/\Ab No w w':=by
 gi_enter func127,ntmps127;gi_wp2;gi_loopw [8] (fun i wr=>∃k:Nat,k<=l.length/\i=.int .i64 k/\Ab No w wr/\∀j r,j<k->l[j]?=some r->¬n<=r.2) (fun i _=>l.length-(intOf i).toNat)
 case atStart=>exact⟨0,by omega,rfl,Ab.refl _ _,fun j r h=>absurd h (by omega)⟩
 case round=>
  obtain⟨k,hk,rfl,KK,rr⟩:=hrel
  by_cases BC:k<l.length
  ·have hg:l[k]?=some l[k]:=HZ BC;generalize l[k]=r at hg;obtain⟨d0,d1⟩:=Mp.cells (Rw.keep h KK id) hg;have d2:=KK.has hn;have d3:(wr.alloc (.cells #[.int .i64 r.1,.int .i64 r.2] 186)).cell? (S_ Zj)=some (.int .i64 n):=((Ab.refl No wr).alloc _).has d2;by_cases hp:n<=r.2
   ·gi_wp2_with gi_in;go_ret;exact⟨by rw[PH (k:=k) (r:=r) (fun i q hi hq=>by have:=rr i q hi hq;simpa using this) hg (by simpa using hp)];simp,KK.alloc _⟩
   ·gi_wp2_with gi_in;go_roundw
    case rel=>
     refine⟨k+1,by omega,by go_num,KK.alloc _,fun j q hj hq=>?_⟩
     by_cases e:j=k
     ·subst e;rw[hg]at hq;cases hq;exact hp
     ·exact rr j q (by omega) hq
    case measure=>simp[intOf];omega
  ·obtain rfl:k=l.length:=(by omega);gi_wp2;go_ret;exact⟨by rw[PI (fun i r hi=>by have:=rr i r (KH.1 hi).1 hi;simpa using this)];simp,KK⟩
theorem qN (g cap Zj n:Nat) (l:List (W_)) (h:Mp 186 w g cap l) (hn:w.cell? (S_ Zj)=some (.int .i64 n)) (hl:l.length<=100000):
  CallsIn NF m prog 127 #[.slice (some (S_ g)) l.length cap,.func (.func 128) #[] #[R_ Zj]] w fun e w'=>e=.returned (.int .i64 (QC l fun r=>decide (n<r.1)))/\Ab No w w':=by
 gi_enter func127,ntmps127;gi_wp2;gi_loopw [8] (fun i wr=>∃k:Nat,k<=l.length/\i=.int .i64 k/\Ab No w wr/\∀j r,j<k->l[j]?=some r->¬n<r.1) (fun i _=>l.length-(intOf i).toNat)
 case atStart=>exact⟨0,by omega,rfl,Ab.refl _ _,fun j r h=>absurd h (by omega)⟩
 case round=>
  obtain⟨k,hk,rfl,KK,rr⟩:=hrel
  by_cases BC:k<l.length
  ·have hg:l[k]?=some l[k]:=HZ BC;generalize l[k]=r at hg;obtain⟨d0,d1⟩:=Mp.cells (Rw.keep h KK id) hg;have d2:=KK.has hn;have d3:(wr.alloc (.cells #[.int .i64 r.1,.int .i64 r.2] 186)).cell? (S_ Zj)=some (.int .i64 n):=((Ab.refl No wr).alloc _).has d2;by_cases hp:n<r.1
   ·gi_wp2_with gi_in;go_ret;exact⟨by rw[PH (k:=k) (r:=r) (fun i q hi hq=>by have:=rr i q hi hq;simpa using this) hg (by simpa using hp)];simp,KK.alloc _⟩
   ·gi_wp2_with gi_in;go_roundw
    case rel=>
     refine⟨k+1,by omega,by go_num,KK.alloc _,fun j q hj hq=>?_⟩
     by_cases e:j=k
     ·subst e;rw[hg]at hq;cases hq;exact hp
     ·exact rr j q (by omega) hq
    case measure=>simp[intOf];omega
  ·obtain rfl:k=l.length:=(by omega);gi_wp2;go_ret;exact⟨by rw[PI (fun i r hi=>by have:=rr i r (KH.1 hi).1 hi;simpa using this)];simp,KK⟩
end
def Ea (l:List (W_)) (i:Nat):List (W_):=match l[i]?,l[i+1]? with
 | some a,some b=>if a.1+a.2=b.1 then l.take i++(a.1,a.2+b.2)::l.drop (i+2)else l
 | _,_=>l
theorem Ti {l:List (W_)} {i:Nat} (h:l.length<=i+1):Ea l i=l:=by
 unfold Ea;rw[List.getElem?_eq_none (i:=i+1) h];cases l[i]?<;>rfl
theorem XV {l:List (W_)} {i:Nat} {a b:Nat×Nat} (ha:l[i]?=some a) (hb:l[i+1]?=some b) (h:a.1+a.2≠b.1):Ea l i=l:=by
 unfold Ea;rw[ha,hb];simp[h]
theorem U5 {l:List (W_)} {i:Nat} {a b:Nat×Nat} (ha:l[i]?=some a) (hb:l[i+1]?=some b) (h:a.1+a.2=b.1):Ea l i=(l.set i (a.1,a.2+b.2)).take (i+1)++(l.set i (a.1,a.2+b.2)).drop (i+2):=by
 have hi:=(KH.1 ha).1;unfold Ea;rw[ha,hb];simp only[h,if_true];rw[List.drop_set,if_pos (by omega),List.take_set,List.take_add_one,ha];simp only[Option.toList_some];rw[List.set_append_right _ _ (by rw[List.length_take];omega)];have:i-(l.take i).length=0:=by rw[List.length_take];omega
 rw[this];simp
structure Hd (T:TypeId) (w:World) (kb c:Nat) (U:TypeId) (ks:X_) (g cap:Nat) (l:List (W_)):Prop where
 k:w.heap[kb]?=some (.cells ks U (0,0))
 v:ks[c]?=some (.slice (some (S_ g)) l.length cap)
 mp:Mp T w g cap l
 ne:U≠T
theorem Hd.apart {T:TypeId} {w:World} {kb c:Nat} {U:TypeId} {ks:X_} {g cap:Nat} {l:List (W_)} (h:Hd T w kb c U ks g cap l):kb≠g:=by
 obtain⟨cur,hc,_⟩:=h.mp.blk;exact BG h.k hc h.ne
theorem Hd.keep {T:TypeId} {w w':World} {kb c:Nat} {U:TypeId} {ks:X_} {g cap:Nat} {l:List (W_)} {S:Nat->Prop} (h:Hd T w kb c U ks g cap l) (hK:Ab S w w') (h1:¬S kb) (h2:¬S g):Hd T w' kb c U ks g cap l:=⟨hK.old h.k h1,h.v,Rw.keep h.mp hK h2,h.ne⟩
theorem Hd.self {T:TypeId} {w:World} {kb c:Nat} {U:TypeId} {ks:X_} {g cap:Nat} {l:List (W_)} (h:Hd T w kb c U ks g cap l):ks.setIfInBounds c (.slice (some (S_ g)) l.length cap)=ks:=MG h.v
theorem Rw.set {e:TypeId} {s:Nat} {w:World} {g n cap:Nat} {xs:U_} (h:Rw e s w g n cap xs) {i:Nat} (v:Value) (hv:v.oneCell'=true):Rw e s (w.setCell (T_ g i) v) g n cap (xs.set i v):=by
 obtain⟨⟨cur,a,b,c⟩,d,f,l,o⟩:=h;refine⟨⟨_,Aj a v,by simpa using b,?_⟩,d,f,by simpa using l,?_⟩
 ·rw[Array.toList_setIfInBounds,List.take_set,c]
 ·intro x hx;rcases List.mem_or_eq_of_mem_set hx with h|h
  ·exact o x h
  ·subst h;exact hv
theorem Mp.Kq {T:TypeId} {w:World} {g cap:Nat} {l:List (W_)} (h:Mp T w g cap l) {i:Nat} {r:Nat×Nat} (hi:l[i]?=some r) (a:Nat):Mp T (w.setCell (T_ g (i*2+1)) (.int .i64 a)) g cap (l.set i (r.1,a)):=by
 have:=Rw.set (i:=i*2+1) h (.int .i64 a) rfl;rw[ic l i a r hi]at this;unfold Mp;rw[List.length_set];exact this
theorem Mp.set0 {T:TypeId} {w:World} {g cap:Nat} {l:List (W_)} (h:Mp T w g cap l) {i:Nat} {r:Nat×Nat} (hi:l[i]?=some r) (a:Nat):Mp T (w.setCell (T_ g (i*2)) (.int .i64 a)) g cap (l.set i (a,r.2)):=by
 have:=Rw.set (i:=i*2) h (.int .i64 a) rfl;rw[ig l i a r hi]at this;unfold Mp;rw[List.length_set];exact this
section
variable (m:Nat) (w:World)
theorem bc4 (f s:Nat) (hsm:f+s<=1000000):CallsIn NF m prog 171 #[.agg #[.int .i64 f,.int .i64 s]] w fun e w'=>e=.returned (.int .i64 (f+s:Nat))/\Ab No w w':=by
 gi_enter func171,ntmps171;gi_wp2;go_ret;exact⟨by simp,by repeat (first|exact Ab.refl _ _|refine Ab.drew ?_|refine Ab.alloc ?_ _)⟩
theorem dJ (kb:Nat):
  CallsIn NF m prog 130 #[R_ kb,.int .i64 (-1)] w fun e w'=>e=.returned (.tuple #[])/\Ab No w w':=by
 gi_enter func130,ntmps130;gi_wp2;refine AA (P:=prog) No _ rfl rfl (by kernel_rfl) 31 68 [0,1,2,3,4,5,6,7,8,9,10,11,12,13,14,15,16,17,18,19,20,21,22,23,24,25,26,27,28,29,30] [] (by kernel_rfl) (by rfl) (fun _ _ _=>True) (fun _ _ _ _ _ h _=>h) _ _ rfl rfl ?_;gi_wp2;refine⟨rfl,by kernel_rfl,?_,(fun i hi=>absurd hi (by simp)),?_⟩
 ·intro W hK
  repeat' (refine Ao ?_ ?_)
  all_goals first|exact trivial|gi_wp2
 ·intro u W hK _;simp only[C9];gi_wp2;refine bodyPost_ret (results_none rfl _ _ _) rfl ?_;exact⟨by simp,(Ab.refl No w).drew.then hK⟩
theorem dK (kb g cap i:Nat) (U:TypeId) (ks:X_) (l:List (W_)) (h:Hd 186 w kb 0 U ks g cap l) (hi:l.length<=i+1) (hsm:i<=100000):
  CallsIn NF m prog 130 #[R_ kb,.int .i64 (i:Nat)] w fun e w'=>e=.returned (.tuple #[])/\Ab No w w':=by
 have q0:w.cell? (S_ kb)=some (.slice (some (S_ g)) l.length cap):=(Ag h.k _).trans h.v;have f1:¬((i:Int)<0):=by omega
 have f2:((l.length:Int)<=(i:Int)+1):=by omega
 gi_enter func130,ntmps130;gi_wp2;refine AA (P:=prog) No _ rfl rfl (by kernel_rfl) 31 68 [0,1,2,3,4,5,6,7,8,9,10,11,12,13,14,15,16,17,18,19,20,21,22,23,24,25,26,27,28,29,30] [] (by kernel_rfl) (by rfl) (fun _ _ _=>True) (fun _ _ _ _ _ h _=>h) _ _ rfl rfl ?_;gi_wp2;refine⟨rfl,by kernel_rfl,?_,(fun i hi=>absurd hi (by simp)),?_⟩
 ·intro W hK;have d0:=hK.has (w:=w.drew) q0
  repeat' (refine Ao ?_ ?_)
  all_goals first|exact trivial|gi_wp2
 ·intro u W hK _;simp only[C9];gi_wp2;refine bodyPost_ret (results_none rfl _ _ _) rfl ?_;exact⟨by simp,(Ab.refl No w).drew.then hK⟩
theorem dI (kb g cap i:Nat) (U:TypeId) (ks:X_) (l:List (W_)) (h:Hd 186 w kb 0 U ks g cap l) (a b:W_) (ha:l[i]?=some a) (hb:l[i+1]?=some b) (hsm:i<=100000) (hsa:a.1+a.2<=100000) (hsb:a.2+b.2<=100000):
  CallsIn NF m prog 130 #[R_ kb,.int .i64 (i:Nat)] w fun e w'=>e=.returned (.tuple #[])/\Ab (TM kb g) w w'/\w'.heap[kb]?=some (.cells (ks.setIfInBounds 0 (.slice (some (S_ g)) (Ea l i).length cap)) U (0,0))/\Mp 186 w' g cap (Ea l i):=by
 have q0:w.cell? (S_ kb)=some (.slice (some (S_ g)) l.length cap):=(Ag h.k _).trans h.v;have BN:=h.apart;obtain⟨c0,c1⟩:=h.mp.cells ha;obtain⟨c2,c3⟩:=h.mp.cells hb;have li:=(KH.1 hb).1;have f1:¬((i:Int)<0):=by omega
 have f2:¬((l.length:Int)<=(i:Int)+1):=by omega
 have f3:(i:Int)<(l.length:Int):=by omega
 gi_enter func130,ntmps130;gi_wp2;refine AA (P:=prog) No _ rfl rfl (by kernel_rfl) 30 68 [0,1,2,3,4,5,6,7,8,9,10,11,12,13,14,15,16,17,18,19,21,22,23,24,25,26,27,28,29] [20] (by kernel_rfl) (by rfl) (fun _ v W=>v=.int .i64 (a.1+a.2:Nat)) (fun _ _ _ _ _ h _=>h) _ _ rfl rfl ?_;gi_wp2;refine⟨rfl,?_,?_,?_,?_⟩
 ·kernel_rfl
 ·intro W hK;have d0:=hK.has (w:=w.drew) q0;have d1:=hK.has (w:=w.drew) c0;have d2:=hK.has (w:=w.drew) c1;have d3:=hK.has (w:=w.drew) c2
  repeat' (refine Ao ?_ ?_)
  all_goals first|exact trivial|gi_wp2
 ·intro i hi u W hK _;obtain rfl:i=20:=by simpa using hi
  refine Bh rfl fun KK Ko=>?_
  show wpListIn NF m prog _ _ _ (Act.put _ (some 24) (u 20)) _;gi_wp2_with (gi_at_call 171;refine(bc4 _ _ a.1 a.2 (by omega)).mono ?_;rintro e w1 ⟨rfl,hK1⟩);exact⟨_,rfl,hK1,by simp⟩
 ·intro u W hK hu;have hu:=hu 20 (by simp);show wpListIn NF m prog _ _ _ (Act.put _ (some 24) (u 20)) _;rw[hu];have Li:Ab No w W:=(Ab.refl No w).drew.then hK;have G8:=Li.old h.k id;have q1:W.cell? (S_ kb)=some (.slice (some (S_ g)) l.length cap):=(Ag G8 _).trans h.v;have m1:Mp 186 W g cap l:=Rw.keep h.mp Li id;obtain⟨d0,d1⟩:=m1.cells ha;obtain⟨d2,d3⟩:=m1.cells hb;have fz:=Rw.fz m1 (i*2+1);by_cases hj:a.1+a.2=b.1
  ·have hj':(a.1:Int)+(a.2:Int)=(b.1:Int):=(by omega);have m2:=m1.Kq ha (a.2+b.2);have hl2:(l.set i (a.1,a.2+b.2)).length=l.length:=List.length_set ..;have m3:Rw 186 2 (W.setCell (T_ g (i*2+1)) (.int .i64 ((a.2:Int)+b.2))).drew g l.length cap (rc (l.set i (a.1,a.2+b.2))):=by
    have yM:=Rw.keep m2 (Ab.refl No _).drew id
    rw[hl2]at yM
    push_cast at yM
    exact yM
   have dl:=fun m=>iH m _ g l.length cap (i+1) (i+2) _ m3 (by omega) (by omega)
   push_cast at dl;have hk3:((W.setCell (T_ g (i*2+1)) (.int .i64 ((a.2:Int)+b.2))).drew).heap[kb]?=some (.cells ks U (0,0)):=(Fz _ BN).trans G8;have hK3:Ab (TM kb g) w (W.setCell (T_ g (i*2+1)) (.int .i64 ((a.2:Int)+b.2))).drew:=(Li.no.setCell _ fun _=>.inr rfl).drew;gi_wp2;gi_region
   all_goals gi_wp2_with (gi_at_call 132;refine(dl _).mono ?_;rintro e w2 ⟨rfl,Fe,I7⟩;have e7:=Fe.old hk3 BN;have e8:=BF e7 0;have e9:=(Ag e7 0).trans h.v)
   all_goals go_end0
   all_goals
    have ej:=U5 ha hb hj
    have el:(Ea l i).length=i+1+(l.length-(i+2)):=by rw[ej];simp only[List.length_append,List.length_take,List.length_drop,hl2];omega
    rw[Nh,Ni,<-Qe,<-ej,<-el]at I7
    exact⟨by simp,(hK3.trans Fe (fun _ _ h=>.inr h)).setCell _ (fun _=>.inl rfl),by rw[el];exact Aj e7 _,Rw.keep I7 ((Ab.refl (At kb) _).setCell _ fun _=>rfl) BN.symm⟩
  ·have hj':((a.1:Int)+(a.2:Int) !=(b.1:Int))=true:=(by simp;omega);gi_wp2;refine bodyPost_ret (results_none rfl _ _ _) rfl ?_;rw[XV ha hb hj];exact⟨by simp,Li.no,by rw[h.self];exact G8,m1⟩
end
end Go.Fxa
