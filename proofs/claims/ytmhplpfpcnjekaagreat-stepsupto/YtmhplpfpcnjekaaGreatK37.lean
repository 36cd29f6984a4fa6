/- Steps: what comes in, opened. -/
import Derived.Test.YtmhplpfpcnjekaaGreatK36
import Derived.ProofKit
import Derived.ChangeStays
namespace Go.Fxa
open Go.Conc
open Go.Proofs
open Go.RowKit
open Go.ChangeShapes
theorem cells3:Tryz.prog.cellsOf 3=1:=by kernel_rfl
theorem cells22:Tryz.prog.cellsOf 22=1:=by kernel_rfl
theorem cells23:Tryz.prog.cellsOf 23=1:=by kernel_rfl
theorem cells25:Tryz.prog.cellsOf 25=4:=by kernel_rfl
theorem cells28:Tryz.prog.cellsOf 28=8:=by kernel_rfl
section
variable {H:Type} {enc:TypeId×Value→H} {W:World} {sp:Nat→Bool}
theorem slice_of {t e:TypeId} (ht:Tryz.prog.underlying t=some (.slice e)) {fuel:Nat} {c:Value} {x:DataW H×List MemPlace} (h:DataW.trod enc Tryz.prog W 0 sp true fuel t [c]=some x):∃s n k,c=.slice s n k:=by
 rcases DataW.trod_slice ht h with⟨h1,_⟩|⟨a,len,cap,_,_,_,_,h1,_⟩
 ·cases h1;exact⟨none,0,0,rfl⟩
 ·cases h1;exact⟨some a,len,cap,rfl⟩
theorem openCf {fuel:Nat} {c0 c1 c2 c3:Value} {x:DataW H×List MemPlace} (h:DataW.trod enc Tryz.prog W 0 sp true fuel 25 [c0,c1,c2,c3]=some x):
  ∃co sw s n k s' n' k' y2 m,c0=.int .i64 co∧c1=.int .i64 sw∧c2=.slice s n k∧c3=.slice s' n' k'∧DataW.trod enc Tryz.prog W 0 sp true m 22 [.slice s n k]=some y2∧∃l1 l2,x.1=.agg (l1++y2.1::l2):=by
 obtain⟨xs,m,rfl,rfl,_,hl,hf⟩:=DataW.trod_struct Tryz.underlying25 h
 have hl4:xs.length=4:=hl
 match xs,hl4 with
 | [y0,y1,y2,y3],_=>
  have t0:DataW.trod enc Tryz.prog W 0 sp true m 3 [c0]=some y0:=by simpa [cells3]using hf 0 _ rfl
  have t1:DataW.trod enc Tryz.prog W 0 sp true m 3 [c1]=some y1:=by simpa [cells3]using hf 1 _ rfl
  have t2:DataW.trod enc Tryz.prog W 0 sp true m 22 [c2]=some y2:=by simpa [cells22]using hf 2 _ rfl
  have t3:DataW.trod enc Tryz.prog W 0 sp true m 23 [c3]=some y3:=by simpa [cells23]using hf 3 _ rfl
  obtain⟨co,e0,_⟩:=DataW.trod_int Tryz.underlying3 t0
  obtain⟨sw,e1,_⟩:=DataW.trod_int Tryz.underlying3 t1
  obtain⟨s,n,k,rfl⟩:=slice_of Tryz.underlying22 t2
  obtain⟨s',n',k',rfl⟩:=slice_of Tryz.underlying23 t3
  cases e0
  cases e1
  exact⟨co,sw,s,n,k,s',n',k',y2,m,rfl,rfl,rfl,rfl,t2,[y0.1,y1.1],[y3.1],rfl⟩
theorem open_op {fuel:Nat} {cs:List Value} {x:DataW H×List MemPlace} (hl:cs.length=8) (h:DataW.trod enc Tryz.prog W 0 sp true fuel 28 cs=some x):
  ∃(kd on pid nn co sw:Int) (s1 s2:Option Addr) (n1 c1 n2 c2:Nat),-9223372036854775808≤on∧on≤9223372036854775807∧cs=[.int .i64 kd,.int .i64 on,.int .i64 pid,.int .i64 nn,.int .i64 co,.int .i64 sw,.slice s1 n1 c1,.slice s2 n2 c2]:=by
 match cs,hl with
 | [c0,c1,c2,c3,c4,c5,c6,c7],_=>
  obtain⟨xs,m,rfl,rfl,_,hl,hf⟩:=DataW.trod_struct Tryz.underlying28 h
  have hl5:xs.length=5:=hl
  match xs,hl5 with
  | [y0,y1,y2,y3,y4],_=>
   have t0:DataW.trod enc Tryz.prog W 0 sp true m 3 [c0]=some y0:=by simpa [cells3]using hf 0 _ rfl
   have t1:DataW.trod enc Tryz.prog W 0 sp true m 3 [c1]=some y1:=by simpa [cells3]using hf 1 _ rfl
   have t2:DataW.trod enc Tryz.prog W 0 sp true m 3 [c2]=some y2:=by simpa [cells3]using hf 2 _ rfl
   have t3:DataW.trod enc Tryz.prog W 0 sp true m 3 [c3]=some y3:=by simpa [cells3]using hf 3 _ rfl
   have t4:DataW.trod enc Tryz.prog W 0 sp true m 25 [c4,c5,c6,c7]=some y4:=by simpa [cells25]using hf 4 _ rfl
   obtain⟨kd,e0,_⟩:=DataW.trod_int Tryz.underlying3 t0
   obtain⟨on,e1,_,won⟩:=DataW.trod_int Tryz.underlying3 t1
   obtain⟨pid,e2,_⟩:=DataW.trod_int Tryz.underlying3 t2
   obtain⟨nn,e3,_⟩:=DataW.trod_int Tryz.underlying3 t3
   obtain⟨co,sw,s,n,k,s',n',k',_,_,rfl,rfl,rfl,rfl,_⟩:=openCf t4
   cases e0
   cases e1
   cases e2
   cases e3
   have wr:(IntKind.i64).min≤on∧on≤(IntKind.i64).max:=by simpa [Lit.wf]using won
   have mn:(IntKind.i64).min=-9223372036854775808:=by decide
   have mx:(IntKind.i64).max=9223372036854775807:=by decide
   exact⟨kd,on,pid,nn,co,sw,s,s',n,k,n',k',by omega,by omega,rfl⟩
theorem open_script {fuel:Nat} {v:Value} {x:DataW H×List MemPlace} (h:DataW.trod enc Tryz.prog W 0 sp true fuel 26 [v]=some x):
  ∃t k d b o,v=.slice t k d∧(0<k→t=some ⟨b,o,none⟩)∧(∀i,i<k→OpIn W b o i)∧(k=0∨∃elems rest,x.1=.slice elems rest∧elems.length=k):=by
 rcases DataW.trod_slice Tryz.underlying26 h with⟨h1,_⟩|⟨a,len,cap,elems,rest,n,_,h1,h2,_,_,_,hlen,hel,_⟩
 ·cases h1
  exact⟨none,0,0,0,0,rfl,fun h=>absurd h (by omega),fun i hi=>absurd hi (by omega),.inl rfl⟩
 ·cases h1
  rw[cells28]at hel
  have each:∀i,i<len→∃cs y,W.cells? 0 (a.add (i*8)) 8=some cs∧DataW.trod enc Tryz.prog W 0 sp true n 28 cs=some y:=fun i hi=>by
   have e:=hel i hi
   have hlt:i<elems.length:=by omega
   rw[List.getElem?_eq_getElem hlt]at e
   obtain⟨cs,h3,h4⟩:=Option.bind_eq_some_iff.1 e
   exact⟨cs,_,h3,h4⟩
  have spot:0<len→a.spot=none:=fun hp=>by
   obtain⟨cs,y,h3,h4⟩:=each 0 hp
   obtain⟨_,hl,hc⟩:=World.cells?_some h3
   have e0:=hc 0 (by omega)
   rw[List.getElem?_eq_getElem (by omega)]at e0
   have e1:=World.cell?_spot e0
   simpa [Addr.add]using e1
  refine⟨some a,len,cap,a.block,a.off,rfl,fun hp=>?_,fun i hi=>?_,.inr ⟨_,_,by rw[h2],by simpa using hlen⟩⟩
  ·have e:=spot hp
   obtain⟨ab,ao,asp⟩:=a
   simp only at e
   rw[e]
  ·obtain⟨cs,y,h3,h4⟩:=each i hi
   obtain⟨_,hl,hc⟩:=World.cells?_some h3
   obtain⟨kd,on,pid,nn,co,sw,s1,s2,n1,c1,n2,c2,o1,o2,rfl⟩:=open_op hl h4
   have e:=spot (by omega)
   obtain⟨ab,ao,asp⟩:=a
   simp only at e
   subst e
   have go:∀q,q<8→W.cell? ⟨ab,ao+i*8+q,none⟩=([.int .i64 kd,.int .i64 on,.int .i64 pid,.int .i64 nn,.int .i64 co,.int .i64 sw,.slice s1 n1 c1,.slice s2 n2 c2]:List Value)[q]?:=fun q hq=>by
    have:=hc q hq
    rw[Addr.add_lit,Addr.add_lit]at this
    exact this
   exact⟨kd,on,pid,nn,co,sw,s1,s2,n1,c1,n2,c2,o1,o2,go 0 (by omega),go 1 (by omega),go 2 (by omega),go 3 (by omega),go 4 (by omega),go 5 (by omega),go 6 (by omega),go 7 (by omega)⟩
theorem open_prog {fuel:Nat} {s:Option Addr} {n k:Nat} {x:DataW H×List MemPlace} (hsp:∀r,sp r=true) (h:DataW.trod enc Tryz.prog W 0 sp true fuel 22 [.slice s n k]=some x) (hn:n<100000000):∃fn,SlI W (.slice s n k) n fn:=by
 rcases open_ints Tryz.underlying22 Tryz.underlying3 cells3 h with⟨h1,_⟩|⟨a,len,cap,zs,h1,_,hlc,_,hz,_,hc,_⟩
 ·cases h1
  exact⟨fun _=>0,hn,none,0,rfl,fun h=>absurd h (by omega)⟩
 ·cases h1
  rw[hsp,if_pos rfl]at hz
  refine⟨fun i=>zs.getD i 0,hn,some a,k,rfl,fun hp=>?_⟩
  have e0:=hc 0 (by omega)
  have e:a.spot=none:=by simpa [Addr.add]using World.cell?_spot e0
  obtain⟨ab,ao,asp⟩:=a
  simp only at e
  subst e
  exact⟨ab,ao,rfl,fun i hi=>by have:=hc i (by omega);rw[Addr.add_lit]at this;exact this⟩
theorem len_prog {fuel:Nat} {s:Option Addr} {n k:Nat} {x:DataW H×List MemPlace} (h:DataW.trod enc Tryz.prog W 0 sp true fuel 22 [.slice s n k]=some x):n=0∨∃elems rest,x.1=.slice elems rest∧elems.length=n:=by
 rcases DataW.trod_slice Tryz.underlying22 h with⟨h1,_⟩|⟨a,len,cap,elems,rest,m,_,h1,h2,_,_,_,hlen,_⟩
 ·cases h1
  exact .inl rfl
 ·cases h1
  exact .inr ⟨_,_,by rw[h2],by simpa using hlen⟩
end
end Go.Fxa
