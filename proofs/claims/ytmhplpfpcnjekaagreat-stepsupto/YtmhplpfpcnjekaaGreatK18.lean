/- A region that draws its order: with an invariant that tells what is done. The map of free blocks (core): the functions that the laws come to. The map of free blocks (swap): the functions that the laws come to. The map of free blocks (core): a run is put in, runs that touch are joined. The map of free blocks (swap): a run is put in, runs that touch are joined. The map of free blocks (core): blocks are given back. -/
import Derived.Test.YtmhplpfpcnjekaaGreatK17
namespace Go.Fxa
open Go.Conc
open Go.Proofs
open Go.RowKit
def did1 (L:Nat→Bool) (i:Nat):Nat→Bool:=fun j=>if j=i then true else L j
section
variable {F:Fence} {n:Nat} {P:Program} {ops:Array Oper} {Q:Exit→Act→World→Prop} {k:Nat}
theorem free_inv (hok:freeOk ops k=true) (hkn:k<ops.size) (A:(Nat→Value)→Act) (I:(Nat→Bool)→(Nat→Value)→World→Prop)
  (hop:∀i,i<k→∀L u W,I L u W→L i=false→(∀j∈aft ops i,L j=true)→wpOpIn F n P ops Q i (fun a' W'=>∃v,a'=A (updV u i v)∧I (did1 L i) (updV u i v) W') (A u) W)
  (hrest:∀L u W,I L u W→(∀i,i<k→L i=true)→wpListIn F n P ops Q (ops.toList.drop k) (A u) W):
  ∀(fuel:Nat) (l:Array Bool) (u:Nat→Value) (W:World),l.size=ops.size→l.toList.count true+fuel=ops.size→Lower ops l→(∀j,k≤j→l.getD j false=false)→I (fun j=>l.getD j false) u W→
  wpAnyIn F n P .any ops Q fuel l (A u) W
 | 0,l,u,W,hs,hc,lo,hh,hI=>by
  exfalso
  have:∀x∈l.toList,true=x:=by
   apply List.count_eq_length.1
   rw[Array.length_toList]
   omega
  have h7:=hh k (Nat.le_refl _)
  rw[Array.getD_eq_getD_getElem?,Array.getElem?_eq_getElem (by omega)]at h7
  have:=this l[k] (by simp)
  simp only[Option.getD_some]at h7
  rw[h7]at this
  cases this
 | fuel+1,l,u,W,hs,hc,lo,hh,hI=>by
  have gt:∀i,i<ops.size→l.getD i true=l.getD i false:=fun i hi=>by
   rw[Array.getD_eq_getD_getElem?,Array.getD_eq_getD_getElem?,Array.getElem?_eq_getElem (by omega)];rfl
  by_cases hd:∀j,j<k→l.getD j false=true
  ·have hl:∀j,l.getD j false=decide (j<k):=fun j=>by
    by_cases e:j<k
    ·rw[hd j e];simp[e]
    ·rw[hh j (by omega)];simp[e]
   have hcnt:l.toList.count true=k:=by
    have e:l.toList=List.replicate k true++List.replicate (ops.size-k) false:=by
     refine List.ext_getElem? fun i=>?_
     by_cases hi:i<ops.size
     ·have:=hl i
      rw[Array.getD_eq_getD_getElem?,Array.getElem?_eq_getElem (by omega)]at this
      simp only[Option.getD_some]at this
      rw[List.getElem?_append]
      simp only[List.length_replicate,List.getElem?_replicate]
      rw[show l.toList[i]?=some l[i] by simp[hs,hi],this]
      by_cases hik:i<k
      ·simp[hik]
      ·simp[hik];omega
     ·rw[List.getElem?_eq_none (by simp;omega),List.getElem?_eq_none (by simp;omega)]
    rw[e]
    simp[List.count_append,List.count_replicate]
   exact chain_any hok (fuel+1) k l (A u) W (Nat.le_refl _) (by omega) hs hl (hrest _ u W hI hd)
  ·refine⟨fun hn=>?_,fun i hi=>?_⟩
   ·exfalso
    apply hd
    intro j
    induction j using Nat.strongRecOn with
    | _ j ih=>
     intro hj
     cases hv:l.getD j false with
     | true=>rfl
     | false=>
      have:j∈Region.ready .any ops l:=mem_ready.2 ⟨by omega,by rw[gt j (by omega)];exact hv,fun x hx=>ih x (free_lt hok hx) (by have:=free_lt hok hx;omega)⟩
      rw[hn]at this
      cases this
   ·obtain⟨h1,h2,h3⟩:=mem_ready.1 hi
    by_cases hik:i<k
    ·have hx:=hop i hik _ u W hI (by rw[gt i h1]at h2;exact h2) h3
     refine al0 (fun a' W'=>?_) hx
     rintro⟨v,rfl,hI'⟩
     refine free_inv hok hkn A I hop hrest fuel _ _ W' (by simp[hs]) (by rw[count_set h2];omega) (lower_set lo (by omega) h3) (fun j hj=>?_) ?_
     ·rw[getD_set (by omega),if_neg (by omega)];exact hh j hj
     ·have e:(fun j=>(l.setIfInBounds i true).getD j false)=did1 (fun j=>l.getD j false) i:=funext fun j=>getD_set (by omega)
      rw[e];exact hI'
    ·exfalso
     exact hd fun j hj=>free_all hok lo h1 (by omega) h3 j (by omega)
structure MixInv (F:Fence) (n:Nat) (P:Program) (ops:Array Oper) (Q:Exit→Act→World→Prop) (a:Act) (w:World) (c:Nat) (rs ss:List Nat) (l l':List Oper) (I:(Nat→Bool)→(Nat→Value)→World→Prop) (a1:Act):Prop where
 act:a1=putS ops rs (vOf ops a1) a
 start:∀u,I (fun _=>false) u w.drew
 each:∀L u W,I L u W→eachIn F n P ops a1 W l
 spec:∀i∈ss,∀L u W,I L u W→L i=false→(∀j∈ss,j∈aft ops i→L j=true)→wpOpIn F n P ops (fun _ _ _=>False) i (fun a' W'=>∃v,a'=(putS ops ss u a1).put (dOf ops i) v∧I (did1 L i) (updV u i v) W') (putS ops ss u a1) W
 rest:∀L u W,I L u W→(∀j∈ss,L j=true)→wpListIn F n P ops Q l' (putS ops ss u a1) W
theorem ag5 (id:Nat) (hF:F.round=none) (hF2:F.depth=none) (hm:P.follows .mixedOrders=true) {a:Act} {w:World} (c N:Nat) (rs ss:List Nat) (hok:mixOk ops c N rs ss=true) (hN:a.tmps.size=N) (I:(Nat→Bool)→(Nat→Value)→World→Prop)
  (hind:∀L L' u u' W,(∀i∈ss,L i=L' i∧u i=u' i)→I L u W→I L' u' W) (l l':List Oper) (hl:sel ops rs=l) (hl':ops.toList.drop c=l')
  (h:wpListIn F n P ops (fun e a1 _=>e=.normal∧MixInv F n P ops Q a w c rs ss l l' I a1) l a w.drew):(Code.region id ops true).wpIn F n P Q a w:=by
 subst hl hl'
 have M:=mixOk.out hok
 obtain⟨a1,hA,hst,hE,hS,hR⟩:=list_ex hF2 (C:=MixInv F n P ops Q a w c rs ss (sel ops rs) (ops.toList.drop c) I) _ _ _ h
 have a1N:a1.tmps.size=N:=by rw[hA,putS_size];exact hN
 have a1V:∀i∈rs,∀d,dOf ops i=some d→a1.tmps[d]?=some (vOf ops a1 i):=fun i hi d hd=>by
  have:=putS_at M rs (vOf ops a1) a (fun x hx=>M.rl x hx) hN i hi d hd
  rw[←hA]at this
  exact this
 have a1O:∀s,(∀i∈rs,dOf ops i≠some s)→a1.tmps[s]?=a.tmps[s]?:=fun s hs=>by
  have:=af6 rs (vOf ops a1) a s hs
  rw[←hA]at this
  exact this
 have a1D:a1.defers=a.defers:=by rw[hA,ao3]
 have nr:∀j∈ss,j ∉ rs:=fun j hj hjr=>by
  rcases M.one j (M.sl j hj)with⟨_,h2⟩|⟨h1,_⟩
  ·exact h2 hj
  ·exact h1 hjr
 let I':(Nat→Bool)→(Nat→Value)→World→Prop:=fun L u W=>(∀i∈rs,L i=true→u i=vOf ops a1 i)∧I L u W
 have e0:ak4 ops c a (fun i=>vOf ops a i)=a:=by
  refine act_ext (fun s=>?_) rfl
  by_cases hs:∃j,j<c∧dOf ops j=some s
  ·obtain⟨j,hj,hjs⟩:=hs
   obtain⟨d',hd',hdN'⟩:=M.dst j hj
   have hsN:s<N:=by rw[hjs]at hd';cases hd';exact hdN'
   rw[mix_at M hN _ hj hjs hsN]
   unfold vOf
   rw[hjs]
   simp only[Option.getD_some]
   rw[Array.getElem?_eq_getElem (by omega)]
   rfl
  ·exact ai8 _ _ fun j hj he=>hs ⟨j,hj,he⟩
 have hop:∀i,i<c→∀L u W,I' L u W→L i=false→(∀j∈aft ops i,L j=true)→wpOpIn F n P ops Q i (fun a' W'=>∃v,a'=ak4 ops c a (updV u i v)∧I' (did1 L i) (updV u i v) W') (ak4 ops c a u) W:=by
  intro i hi L u W ⟨hIr,hI⟩ hLi hdep
  by_cases hr:i∈rs
  ·have hag:∀s,(∀j,j<c→dOf ops j=some s→j∈aft ops i)→a1.tmps[s]?=(ak4 ops c a u).tmps[s]?:=fun s hs=>by
    by_cases hx:∃j,j<c∧dOf ops j=some s
    ·obtain⟨j,hj,hjs⟩:=hx
     obtain⟨d',hd',hdN'⟩:=M.dst j hj
     have hsN:s<N:=by rw[hjs]at hd';cases hd';exact hdN'
     have hja:=hs j hj hjs
     have hjr:=M.rr i hr j hja
     rw[mix_at M hN _ hj hjs hsN,a1V j hjr s hjs,hIr j hjr (hdep j hja)]
    ·rw[ai8 _ _ fun j hj he=>hx ⟨j,hj,he⟩,a1O s fun j hj he=>hx ⟨j,M.rl j hj,he⟩]
   have ho:∃o,ops[i]?=some o:=⟨_,Array.getElem?_eq_getElem (by have:=M.cl;omega)⟩
   obtain⟨o,ho⟩:=ho
   obtain⟨d,hd,hdN⟩:=M.dst i hi
   have hdo:o.dst=some d:=by unfold dOf at hd;rw[ho]at hd;exact hd
   have hx:=each_mem rs (hE L u W hI) i hr o ho
   have same:∀v,a1.put (some d) v=a1→v=vOf ops a1 i:=fun v e=>by
    have h1:=congrArg (fun x:Act=>x.tmps[d]?) e
    simp only[put_at,if_true,if_pos (show d<a1.tmps.size by omega)]at h1
    rw[a1V i hr d hd]at h1
    exact Option.some.inj h1
   have self:a1.put (some d) (vOf ops a1 i)=a1:=act_ext (fun s=>by
    rw[put_at]
    by_cases e:s=d
    ·subst e;rw[if_pos rfl,if_pos (by omega),a1V i hr s hd]
    ·rw[if_neg e]) (put_defers _ _ _)
   have hw:wpOpIn F n P ops (fun _ _ _=>False) i (fun b W'=>∃v,b=a1.put (dOf ops i) v∧(v=vOf ops a1 i∧W'=W)) a1 W:=by
    unfold wpOpIn
    rw[ho,hd]
    simp only
    split
    ·rename_i hw
     rw[if_pos hw]at hx
     exact Oper.wpIn_mono (fun b W' ⟨e1,e2⟩=>⟨vOf ops a1 i,by rw[self];exact e1,rfl,e2⟩) hx
    ·rename_i hw
     rw[if_neg hw]at hx
     refine⟨hx.1,undef,by rw[hdo],?_⟩
     rw[hdo]at hx
     exact⟨same _ hx.2,trivial⟩
   refine al0 (fun b W'=>?_) (opIn_move M hF hi a1N hag hw (Q:=Q))
   rintro⟨v,rfl,rfl,rfl⟩
   refine⟨_,mix_put M hN u hi _,fun j hj hLj=>?_,hind _ _ _ _ _ (fun j hj=>?_) hI⟩
   ·unfold updV
    by_cases e:j=i
    ·rw[if_pos e,e]
    ·rw[if_neg e];unfold did1 at hLj;rw[if_neg e]at hLj;exact hIr j hj hLj
   ·have e:j≠i:=fun e=>nr j hj (e ▸ hr)
    unfold updV did1
    rw[if_neg e,if_neg e]
    exact⟨rfl,rfl⟩
  ·have his:i∈ss:=by
    rcases M.one i hi with⟨h1,_⟩|⟨_,h2⟩
    ·exact absurd h1 hr
    ·exact h2
   have hx:=hS i his L u W hI hLi fun j _ hja=>hdep j hja
   have hag:∀s,(∀j,j<c→dOf ops j=some s→j∈aft ops i)→(putS ops ss u a1).tmps[s]?=(ak4 ops c a u).tmps[s]?:=fun s hs=>by
    by_cases hx:∃j,j<c∧dOf ops j=some s
    ·obtain⟨j,hj,hjs⟩:=hx
     obtain⟨d',hd',hdN'⟩:=M.dst j hj
     have hsN:s<N:=by rw[hjs]at hd';cases hd';exact hdN'
     rw[mix_at M hN _ hj hjs hsN]
     rcases M.one j hj with⟨h1,h2⟩|⟨h1,h2⟩
     ·rw[af6 ss u a1 s,a1V j h1 s hjs,hIr j h1 (hdep j (hs j hj hjs))]
      intro x hx he
      exact M.ne x j (M.sl x hx) hj (fun e=>h2 (e ▸ hx)) (he.trans hjs.symm)
     ·exact putS_at M ss u a1 (fun x hx=>M.sl x hx) a1N j h2 s hjs
    ·rw[ai8 _ _ fun j hj he=>hx ⟨j,hj,he⟩,af6 ss u a1 s fun j hj he=>hx ⟨j,M.sl j hj,he⟩,a1O s fun j hj he=>hx ⟨j,M.rl j hj,he⟩]
   refine al0 (fun b W'=>?_) (opIn_move M hF hi (by rw[putS_size];exact a1N) hag hx (Q:=Q))
   rintro⟨v,rfl,hI'⟩
   refine⟨_,mix_put M hN u hi _,fun j hj hLj=>?_,hI'⟩
   have e:j≠i:=fun e=>hr (e ▸ hj)
   unfold updV
   rw[if_neg e]
   unfold did1 at hLj
   rw[if_neg e]at hLj
   exact hIr j hj hLj
 have hrest:∀L u W,I' L u W→(∀i,i<c→L i=true)→wpListIn F n P ops Q (ops.toList.drop c) (ak4 ops c a u) W:=by
  intro L u W ⟨hIr,hI⟩ hL
  have e:ak4 ops c a u=putS ops ss u a1:=by
   refine act_ext (fun s=>?_) (by rw[ao3];exact a1D.symm)
   by_cases hx:∃j,j<c∧dOf ops j=some s
   ·obtain⟨j,hj,hjs⟩:=hx
    obtain⟨d',hd',hdN'⟩:=M.dst j hj
    have hsN:s<N:=by rw[hjs]at hd';cases hd';exact hdN'
    rw[mix_at M hN _ hj hjs hsN]
    rcases M.one j hj with⟨h1,h2⟩|⟨h1,h2⟩
    ·rw[af6 ss u a1 s,a1V j h1 s hjs,hIr j h1 (hL j hj)]
     intro x hx he
     exact M.ne x j (M.sl x hx) hj (fun e=>h2 (e ▸ hx)) (he.trans hjs.symm)
    ·exact(putS_at M ss u a1 (fun x hx=>M.sl x hx) a1N j h2 s hjs).symm
   ·rw[ai8 _ _ fun j hj he=>hx ⟨j,hj,he⟩,af6 ss u a1 s fun j hj he=>hx ⟨j,M.sl j hj,he⟩,a1O s fun j hj he=>hx ⟨j,M.rl j hj,he⟩]
  rw[e]
  exact hR L u W hI fun j hj=>hL j (M.sl j hj)
 have go:=free_inv (F:=F) (n:=n) (P:=P) (Q:=Q) M.free M.cl (ak4 ops c a) I' hop hrest ops.size (Array.replicate ops.size false) (fun i=>vOf ops a i) w.drew (by simp) (by simp[List.count_replicate]) (fun i hi=>by simp[Array.getD]at hi) (fun j _=>by simp[Array.getD]) ⟨fun i _ hi=>by simp[Array.getD]at hi,by
  have:(fun j=>(Array.replicate ops.size false).getD j false)=fun _=>false:=funext fun j=>by simp[Array.getD]
  rw[this];exact hst _⟩
 rw[e0]at go
 exact wpIn_region_any hm go
end
end Go.Fxa
namespace Go.Fxa
open Go.Conc
open Go.Proofs
open Go.RowKit
set_option maxRecDepth 1000000
section
variable (m:Nat) (w:World)
theorem indexC_take (b nbx f s n c:Nat) (h0:w.cell? ⟨b,0,none⟩=some (.int .i64 f)) (h1:w.cell? ⟨b,1,none⟩=some (.int .i64 s)) (hn:w.cell? ⟨nbx,0,none⟩=some (.int .i64 n)) (hle:n≤s):
  CallsIn NF m Tryz.prog 127 #[.slice (some ⟨b,0,none⟩) 1 c,.func (.func 131) #[] #[.pointer (some ⟨nbx,0,none⟩)]] w fun e w'=>e=.returned (.int .i64 0)∧Keep No w w':=by
 have e1:(w.alloc (.cells #[.int .i64 f,.int .i64 s] 186)).cell? ⟨nbx,0,none⟩=some (.int .i64 n):=((Keep.refl No w).alloc _).has hn
 gi_enter Tryz.func127,Tryz.ntmps127
 gi_wp2
 refine wpIn_loop_once ?_
 gi_wp2_with gi_in
 go_ret
 exact⟨by simp,by repeat (first|exact Keep.refl _ _|refine Keep.drew ?_|refine Keep.alloc ?_ _)⟩
theorem clearC_one {w:World} {cb:Nat} {x y:Value} (hc:w.heap[cb]?=some (.cells #[x,y] 186 (0,0))):(Builtin.clear_ #[90] 0 #[.slice (some ⟨cb,0,none⟩) 1 1]).run Tryz.prog w=.ok (.tuple #[]) ((w.setCell ⟨cb,0,none⟩ (.int .i64 0)).setCell ⟨cb,1,none⟩ (.int .i64 0)):=by
 have c0:w.cell? ⟨cb,0,none⟩=some x:=by rw[aa0 hc];rfl
 have hc':=aa2 (i:=0) hc (.int .i64 0)
 have c1:(w.setCell ⟨cb,0,none⟩ (.int .i64 0)).cell? ⟨cb,1,none⟩=some y:=by rw[aa0 hc'];rfl
 have e:(Builtin.clear_ #[90] 0 #[.slice (some ⟨cb,0,none⟩) 1 1]).run Tryz.prog w=(Sem.store .plain ⟨cb,0,none⟩ (.int .i64 0) (Sem.store .plain ⟨cb,1,none⟩ (.int .i64 0) (.pure (.tuple #[])))).run Tryz.prog w:=by kernel_rfl
 rw[e,ad2 rfl c0 (ab3 hc 0),ad2 rfl c1 (ab3 hc' 1)]
 rfl
theorem deleteC_all (cb:Nat) (x y:Value) (hc:w.heap[cb]?=some (.cells #[x,y] 186 (0,0))):
  CallsIn NF m Tryz.prog 132 #[.slice (some ⟨cb,0,none⟩) 1 1,.int .i64 0,.int .i64 1] w fun e w'=>e=.returned (.slice (some ⟨cb,0,none⟩) 0 1)∧Keep (At cb) w w'∧w'.heap[cb]?=some (.cells #[.int .i64 0,.int .i64 0] 186 (0,0)):=by
 have hcl:=clearC_one (w:=w.drew) hc
 gi_enter Tryz.func132,Tryz.ntmps132
 gi_wp2
 gi_region
 all_goals gi_wp2
 all_goals go_ret
 all_goals exact⟨by simp,by repeat (first|exact Keep.refl _ _|refine Keep.drew ?_|refine Keep.setCell ?_ _ (fun _=>rfl)),by simp[World.setCell,World.drew,Array.getElem?_modify,hc]⟩
theorem takeC_part (kb cb f s n:Nat) (ks:Array Value) (T:TypeId) (hk:w.heap[kb]?=some (.cells ks T (0,0))) (hs:ks[0]?=some (.slice (some ⟨cb,0,none⟩) 1 1)) (hc:w.heap[cb]?=some (.cells #[.int .i64 f,.int .i64 s] 186 (0,0))) (_hne:kb≠cb) (h1:1≤n) (hlt:n<s) (hsm:f+s≤1000):
  CallsIn NF m Tryz.prog 92 #[.pointer (some ⟨kb,0,none⟩),.int .i64 n] w fun e w'=>e=.returned (.tuple #[.int .i64 f,.bool true])∧Keep (At cb) w w'∧w'.heap[cb]?=some (.cells #[.int .i64 (f+n:Nat),.int .i64 (s-n:Nat)] 186 (0,0)):=by
 have hnb:(w.alloc (.cells #[.int .i64 n] 3)).heap[w.heap.size]?=some (.cells #[.int .i64 n] 3):=aa4 rfl
 have hk0:(w.alloc (.cells #[.int .i64 n] 3)).heap[kb]?=some (.cells ks T (0,0)):=(ab5 (ab2 hk)).trans hk
 have hc0:(w.alloc (.cells #[.int .i64 n] 3)).heap[cb]?=some (.cells #[.int .i64 f,.int .i64 s] 186 (0,0)):=(ab5 (ab2 hc)).trans hc
 have lc:=ab2 hc
 have q0:w.cell? ⟨kb,0,none⟩=some (.slice (some ⟨cb,0,none⟩) 1 1):=by rw[aa0 hk];exact hs
 have d1:(w.alloc (.cells #[.int .i64 n] 3)).cell? ⟨cb,0,none⟩=some (.int .i64 f):=by rw[aa0 hc0];rfl
 have d2:(w.alloc (.cells #[.int .i64 n] 3)).cell? ⟨cb,1,none⟩=some (.int .i64 s):=by rw[aa0 hc0];rfl
 have d3:(w.alloc (.cells #[.int .i64 n] 3)).cell? ⟨w.heap.size,0,none⟩=some (.int .i64 n):=by rw[aa0 hnb];rfl
 have d4:(w.alloc (.cells #[.int .i64 n] 3)).cell? ⟨kb,0,none⟩=some (.slice (some ⟨cb,0,none⟩) 1 1):=by rw[aa0 hk0];exact hs
 have hK0:Keep (At cb) w (w.alloc (.cells #[.int .i64 n] 3)):=(Keep.refl _ _).alloc _
 gi_enter Tryz.func92,Tryz.ntmps92
 gi_wp2_with (gi_at_call 127;refine(indexC_take _ _ cb w.heap.size f s n 1 d1 d2 d3 (by omega)).mono ?_;rintro e w1 ⟨rfl,hK⟩;have e1:=hK.has d1;have e2:=hK.has d2;have e3:=hK.has d3;have e4:=hK.has d4;have e5:=hK.old hc0 id;have e6:=ab3 e5 0;have e7:=ab3 e5 1)
 gi_region
 all_goals gi_wp2
 all_goals gi_region
 all_goals gi_wp2
 all_goals gi_region
 all_goals gi_wp2
 all_goals go_ret2
 all_goals exact⟨by simp,by repeat (first|exact hK0.then hK.no|refine Keep.drew ?_|refine Keep.setCell ?_ _ (fun _=>rfl)),by simp[World.setCell,World.drew,Array.getElem?_modify,e5];omega⟩
theorem takeC_whole (kb cb f n:Nat) (ks:Array Value) (T:TypeId) (hk:w.heap[kb]?=some (.cells ks T (0,0))) (hs:ks[0]?=some (.slice (some ⟨cb,0,none⟩) 1 1)) (hc:w.heap[cb]?=some (.cells #[.int .i64 f,.int .i64 n] 186 (0,0))) (hne:kb≠cb) (h1:1≤n):
  CallsIn NF m Tryz.prog 92 #[.pointer (some ⟨kb,0,none⟩),.int .i64 n] w fun e w'=>e=.returned (.tuple #[.int .i64 f,.bool true])∧Keep (At2 kb cb) w w'∧w'.heap[kb]?=some (.cells (ks.setIfInBounds 0 (.slice (some ⟨cb,0,none⟩) 0 1)) T (0,0))∧w'.heap[cb]?=some (.cells #[.int .i64 0,.int .i64 0] 186 (0,0)):=by
 have hnb:(w.alloc (.cells #[.int .i64 n] 3)).heap[w.heap.size]?=some (.cells #[.int .i64 n] 3):=aa4 rfl
 have hk0:(w.alloc (.cells #[.int .i64 n] 3)).heap[kb]?=some (.cells ks T (0,0)):=(ab5 (ab2 hk)).trans hk
 have hc0:(w.alloc (.cells #[.int .i64 n] 3)).heap[cb]?=some (.cells #[.int .i64 f,.int .i64 n] 186 (0,0)):=(ab5 (ab2 hc)).trans hc
 have lc:=ab2 hc
 have q0:w.cell? ⟨kb,0,none⟩=some (.slice (some ⟨cb,0,none⟩) 1 1):=by rw[aa0 hk];exact hs
 have d1:(w.alloc (.cells #[.int .i64 n] 3)).cell? ⟨cb,0,none⟩=some (.int .i64 f):=by rw[aa0 hc0];rfl
 have d2:(w.alloc (.cells #[.int .i64 n] 3)).cell? ⟨cb,1,none⟩=some (.int .i64 n):=by rw[aa0 hc0];rfl
 have d3:(w.alloc (.cells #[.int .i64 n] 3)).cell? ⟨w.heap.size,0,none⟩=some (.int .i64 n):=by rw[aa0 hnb];rfl
 have d4:(w.alloc (.cells #[.int .i64 n] 3)).cell? ⟨kb,0,none⟩=some (.slice (some ⟨cb,0,none⟩) 1 1):=by rw[aa0 hk0];exact hs
 have hK0:Keep (At2 kb cb) w (w.alloc (.cells #[.int .i64 n] 3)):=(Keep.refl _ _).alloc _
 gi_enter Tryz.func92,Tryz.ntmps92
 gi_wp2_with (gi_at_call 127;refine(indexC_take _ _ cb w.heap.size f n n 1 d1 d2 d3 (by omega)).mono ?_;rintro e w1 ⟨rfl,hK⟩;have e1:=hK.has d1;have e2:=hK.has d2;have e3:=hK.has d3;have e4:=hK.has d4;have e5:=hK.old hc0 id)
 gi_region
 all_goals gi_wp2_with (gi_at_call 132;refine(deleteC_all _ w1.drew cb _ _ e5).mono ?_;rintro e w2 ⟨rfl,hK2,e6⟩;have e7:=hK2.old (heap_drew.trans (hK.old hk0 id)) hne;have e8:=ab3 e7 0;have e9:=(aa0 e7 0).trans hs)
 all_goals go_ret2
 all_goals exact⟨by simp,((hK0.then hK.no).drew.trans hK2 (fun _ _ h=>.inr h)).setCell _ (fun _=>.inl rfl),aa2 e7 _,(af4 _ hne.symm).trans e6⟩
end
section
variable (m:Nat) (w:World)
theorem indexS_take (b nbx f s n c:Nat) (h0:w.cell? ⟨b,0,none⟩=some (.int .i64 f)) (h1:w.cell? ⟨b,1,none⟩=some (.int .i64 s)) (hn:w.cell? ⟨nbx,0,none⟩=some (.int .i64 n)) (hle:n≤s):
  CallsIn NF m Tryz.prog 122 #[.slice (some ⟨b,0,none⟩) 1 c,.func (.func 123) #[] #[.pointer (some ⟨nbx,0,none⟩)]] w fun e w'=>e=.returned (.int .i64 0)∧Keep No w w':=by
 have e1:(w.alloc (.cells #[.int .i64 f,.int .i64 s] 188)).cell? ⟨nbx,0,none⟩=some (.int .i64 n):=((Keep.refl No w).alloc _).has hn
 gi_enter Tryz.func122,Tryz.ntmps122
 gi_wp2
 refine wpIn_loop_once ?_
 gi_wp2_with gi_in
 go_ret
 exact⟨by simp,by repeat (first|exact Keep.refl _ _|refine Keep.drew ?_|refine Keep.alloc ?_ _)⟩
theorem clearS_one {w:World} {cb:Nat} {x y:Value} (hc:w.heap[cb]?=some (.cells #[x,y] 188 (0,0))):(Builtin.clear_ #[95] 0 #[.slice (some ⟨cb,0,none⟩) 1 1]).run Tryz.prog w=.ok (.tuple #[]) ((w.setCell ⟨cb,0,none⟩ (.int .i64 0)).setCell ⟨cb,1,none⟩ (.int .i64 0)):=by
 have c0:w.cell? ⟨cb,0,none⟩=some x:=by rw[aa0 hc];rfl
 have hc':=aa2 (i:=0) hc (.int .i64 0)
 have c1:(w.setCell ⟨cb,0,none⟩ (.int .i64 0)).cell? ⟨cb,1,none⟩=some y:=by rw[aa0 hc'];rfl
 have e:(Builtin.clear_ #[95] 0 #[.slice (some ⟨cb,0,none⟩) 1 1]).run Tryz.prog w=(Sem.store .plain ⟨cb,0,none⟩ (.int .i64 0) (Sem.store .plain ⟨cb,1,none⟩ (.int .i64 0) (.pure (.tuple #[])))).run Tryz.prog w:=by kernel_rfl
 rw[e,ad2 rfl c0 (ab3 hc 0),ad2 rfl c1 (ab3 hc' 1)]
 rfl
theorem deleteS_all (cb:Nat) (x y:Value) (hc:w.heap[cb]?=some (.cells #[x,y] 188 (0,0))):
  CallsIn NF m Tryz.prog 124 #[.slice (some ⟨cb,0,none⟩) 1 1,.int .i64 0,.int .i64 1] w fun e w'=>e=.returned (.slice (some ⟨cb,0,none⟩) 0 1)∧Keep (At cb) w w'∧w'.heap[cb]?=some (.cells #[.int .i64 0,.int .i64 0] 188 (0,0)):=by
 have hcl:=clearS_one (w:=w.drew) hc
 gi_enter Tryz.func124,Tryz.ntmps124
 gi_wp2
 gi_region
 all_goals gi_wp2
 all_goals go_ret
 all_goals exact⟨by simp,by repeat (first|exact Keep.refl _ _|refine Keep.drew ?_|refine Keep.setCell ?_ _ (fun _=>rfl)),by simp[World.setCell,World.drew,Array.getElem?_modify,hc]⟩
theorem takeS_part (kb cb f s n:Nat) (ks:Array Value) (T:TypeId) (hk:w.heap[kb]?=some (.cells ks T (0,0))) (hs:ks[1]?=some (.slice (some ⟨cb,0,none⟩) 1 1)) (hc:w.heap[cb]?=some (.cells #[.int .i64 f,.int .i64 s] 188 (0,0))) (_hne:kb≠cb) (h1:1≤n) (hlt:n<s) (hsm:f+s≤1000):
  CallsIn NF m Tryz.prog 89 #[.pointer (some ⟨kb,1,none⟩),.int .i64 n] w fun e w'=>e=.returned (.tuple #[.int .i64 f,.bool true])∧Keep (At cb) w w'∧w'.heap[cb]?=some (.cells #[.int .i64 (f+n:Nat),.int .i64 (s-n:Nat)] 188 (0,0)):=by
 have hnb:(w.alloc (.cells #[.int .i64 n] 3)).heap[w.heap.size]?=some (.cells #[.int .i64 n] 3):=aa4 rfl
 have hk0:(w.alloc (.cells #[.int .i64 n] 3)).heap[kb]?=some (.cells ks T (0,0)):=(ab5 (ab2 hk)).trans hk
 have hc0:(w.alloc (.cells #[.int .i64 n] 3)).heap[cb]?=some (.cells #[.int .i64 f,.int .i64 s] 188 (0,0)):=(ab5 (ab2 hc)).trans hc
 have lc:=ab2 hc
 have q0:w.cell? ⟨kb,1,none⟩=some (.slice (some ⟨cb,0,none⟩) 1 1):=by rw[aa0 hk];exact hs
 have d1:(w.alloc (.cells #[.int .i64 n] 3)).cell? ⟨cb,0,none⟩=some (.int .i64 f):=by rw[aa0 hc0];rfl
 have d2:(w.alloc (.cells #[.int .i64 n] 3)).cell? ⟨cb,1,none⟩=some (.int .i64 s):=by rw[aa0 hc0];rfl
 have d3:(w.alloc (.cells #[.int .i64 n] 3)).cell? ⟨w.heap.size,0,none⟩=some (.int .i64 n):=by rw[aa0 hnb];rfl
 have d4:(w.alloc (.cells #[.int .i64 n] 3)).cell? ⟨kb,1,none⟩=some (.slice (some ⟨cb,0,none⟩) 1 1):=by rw[aa0 hk0];exact hs
 have hK0:Keep (At cb) w (w.alloc (.cells #[.int .i64 n] 3)):=(Keep.refl _ _).alloc _
 gi_enter Tryz.func89,Tryz.ntmps89
 gi_wp2_with (gi_at_call 122;refine(indexS_take _ _ cb w.heap.size f s n 1 d1 d2 d3 (by omega)).mono ?_;rintro e w1 ⟨rfl,hK⟩;have e1:=hK.has d1;have e2:=hK.has d2;have e3:=hK.has d3;have e4:=hK.has d4;have e5:=hK.old hc0 id;have e6:=ab3 e5 0;have e7:=ab3 e5 1)
 gi_region
 all_goals gi_wp2
 all_goals gi_region
 all_goals gi_wp2
 all_goals gi_region
 all_goals gi_wp2
 all_goals go_ret2
 all_goals exact⟨by simp,by repeat (first|exact hK0.then hK.no|refine Keep.drew ?_|refine Keep.setCell ?_ _ (fun _=>rfl)),by simp[World.setCell,World.drew,Array.getElem?_modify,e5];omega⟩
theorem takeS_whole (kb cb f n:Nat) (ks:Array Value) (T:TypeId) (hk:w.heap[kb]?=some (.cells ks T (0,0))) (hs:ks[1]?=some (.slice (some ⟨cb,0,none⟩) 1 1)) (hc:w.heap[cb]?=some (.cells #[.int .i64 f,.int .i64 n] 188 (0,0))) (hne:kb≠cb) (h1:1≤n):
  CallsIn NF m Tryz.prog 89 #[.pointer (some ⟨kb,1,none⟩),.int .i64 n] w fun e w'=>e=.returned (.tuple #[.int .i64 f,.bool true])∧Keep (At2 kb cb) w w'∧w'.heap[kb]?=some (.cells (ks.setIfInBounds 1 (.slice (some ⟨cb,0,none⟩) 0 1)) T (0,0))∧w'.heap[cb]?=some (.cells #[.int .i64 0,.int .i64 0] 188 (0,0)):=by
 have hnb:(w.alloc (.cells #[.int .i64 n] 3)).heap[w.heap.size]?=some (.cells #[.int .i64 n] 3):=aa4 rfl
 have hk0:(w.alloc (.cells #[.int .i64 n] 3)).heap[kb]?=some (.cells ks T (0,0)):=(ab5 (ab2 hk)).trans hk
 have hc0:(w.alloc (.cells #[.int .i64 n] 3)).heap[cb]?=some (.cells #[.int .i64 f,.int .i64 n] 188 (0,0)):=(ab5 (ab2 hc)).trans hc
 have lc:=ab2 hc
 have q0:w.cell? ⟨kb,1,none⟩=some (.slice (some ⟨cb,0,none⟩) 1 1):=by rw[aa0 hk];exact hs
 have d1:(w.alloc (.cells #[.int .i64 n] 3)).cell? ⟨cb,0,none⟩=some (.int .i64 f):=by rw[aa0 hc0];rfl
 have d2:(w.alloc (.cells #[.int .i64 n] 3)).cell? ⟨cb,1,none⟩=some (.int .i64 n):=by rw[aa0 hc0];rfl
 have d3:(w.alloc (.cells #[.int .i64 n] 3)).cell? ⟨w.heap.size,0,none⟩=some (.int .i64 n):=by rw[aa0 hnb];rfl
 have d4:(w.alloc (.cells #[.int .i64 n] 3)).cell? ⟨kb,1,none⟩=some (.slice (some ⟨cb,0,none⟩) 1 1):=by rw[aa0 hk0];exact hs
 have hK0:Keep (At2 kb cb) w (w.alloc (.cells #[.int .i64 n] 3)):=(Keep.refl _ _).alloc _
 gi_enter Tryz.func89,Tryz.ntmps89
 gi_wp2_with (gi_at_call 122;refine(indexS_take _ _ cb w.heap.size f n n 1 d1 d2 d3 (by omega)).mono ?_;rintro e w1 ⟨rfl,hK⟩;have e1:=hK.has d1;have e2:=hK.has d2;have e3:=hK.has d3;have e4:=hK.has d4;have e5:=hK.old hc0 id)
 gi_region
 all_goals gi_wp2_with (gi_at_call 124;refine(deleteS_all _ w1.drew cb _ _ e5).mono ?_;rintro e w2 ⟨rfl,hK2,e6⟩;have e7:=hK2.old (heap_drew.trans (hK.old hk0 id)) hne;have e8:=ab3 e7 1;have e9:=(aa0 e7 1).trans hs)
 all_goals go_ret2
 all_goals exact⟨by simp,((hK0.then hK.no).drew.trans hK2 (fun _ _ h=>.inr h)).setCell _ (fun _=>.inl rfl),aa2 e7 _,(af4 _ hne.symm).trans e6⟩
end
theorem infoC:(Tryz.prog.info? 186).map (fun i=>(i.zero,i.size,i.bytes))=some (some (.agg #[.int .i64 0,.int .i64 0]),2,16):=by kernel_rfl
theorem zero2C:Builtin.zeroCells #[.int .i64 0,.int .i64 0] 2=#[.int .i64 0,.int .i64 0,.int .i64 0,.int .i64 0]:=by kernel_rfl
section
variable (m:Nat) (w:World)
theorem appmakeC (cb:Nat):(Builtin.append_ #[90,3] 90 #[.slice (some ⟨cb,0,none⟩) 0 1,.int .i64 2]).run Tryz.prog w=.ok (.slice (some ⟨w.heap.size,0,none⟩) 2 (grownCap w 2 1 186)) (w.drew.alloc (.cells (#[.int .i64 0,.int .i64 0,.int .i64 0,.int .i64 0]++Builtin.zeroCells #[.int .i64 0,.int .i64 0] (grownCap w 2 1 186-2)) 186)):=by
 obtain⟨i,hi,hz,hs,hb⟩:=info_parts infoC
 have e:=zero2C
 have ea:∀w:World,(asIntOf (.int .i64 2)).run Tryz.prog w=.ok (.i64,2) w:=fun _=>rfl
 have ew:IntKind.i64.wrap 2=2:=by decide
 simp[Builtin.append_,run_underlying Tryz.underlying90,run_underlying Tryz.underlying3,sizeOf,typeInfo,zeroValue,hi,hz,hs,hb,Builtin.lenOf,Question.forced,newRow,grownCap,Builtin.firstCells,loadCells,loadCellsFrom,asInt,ea,ew,Builtin.nextslicecap,e,Value.cells]
 intro h
 exact absurd h (by decide)
section
variable {w:World} {db sb q c:Nat} {x y u v:Value}
theorem copyC_a (ox:x.oneCell'=true) (oy:y.oneCell'=true) (hx:w.cell? ⟨sb,0,none⟩=some x) (hy:w.cell? ⟨sb,1,none⟩=some y) (hu:w.cell? ⟨db,0,none⟩=some u) (hv:w.cell? ⟨db,1,none⟩=some v) (fz:∀i,w.frozen? ⟨db,i,none⟩=false):
  (Builtin.copy_ #[90,90] 3 #[.slice (some ⟨db,0,none⟩) 2 q,.slice (some ⟨sb,0,none⟩) 1 c]).run Tryz.prog w=.ok (.int .i64 1) ((w.setCell ⟨db,0,none⟩ x).setCell ⟨db,1,none⟩ y):=by
 have e:(Builtin.copy_ #[90,90] 3 #[.slice (some ⟨db,0,none⟩) 2 q,.slice (some ⟨sb,0,none⟩) 1 c]).run Tryz.prog w=(Sem.load .plain ⟨sb,0,none⟩ fun a=>Sem.load .plain ⟨sb,1,none⟩ fun b=>Sem.store .plain ⟨db,0,none⟩ a (Sem.store .plain ⟨db,1,none⟩ b (.pure (.int .i64 1)))).run Tryz.prog w:=by kernel_rfl
 rw[e,aj1 hx,aj1 hy,ad2 ox hu (fz 0),ad2 oy ((World.cell?_setCell_other _ _ _ _ (by simp)).trans hv) (by rw[World.frozen?_setCell];exact fz 1)]
 rfl
theorem copyC_b (ox:x.oneCell'=true) (oy:y.oneCell'=true) (hx:w.cell? ⟨sb,0,none⟩=some x) (hy:w.cell? ⟨sb,1,none⟩=some y) (hu:w.cell? ⟨db,2,none⟩=some u) (hv:w.cell? ⟨db,3,none⟩=some v) (fz:∀i,w.frozen? ⟨db,i,none⟩=false):
  (Builtin.copy_ #[90,90] 3 #[.slice (some ⟨db,2,none⟩) 1 q,.slice (some ⟨sb,0,none⟩) 1 c]).run Tryz.prog w=.ok (.int .i64 1) ((w.setCell ⟨db,2,none⟩ x).setCell ⟨db,3,none⟩ y):=by
 have e:(Builtin.copy_ #[90,90] 3 #[.slice (some ⟨db,2,none⟩) 1 q,.slice (some ⟨sb,0,none⟩) 1 c]).run Tryz.prog w=(Sem.load .plain ⟨sb,0,none⟩ fun a=>Sem.load .plain ⟨sb,1,none⟩ fun b=>Sem.store .plain ⟨db,2,none⟩ a (Sem.store .plain ⟨db,3,none⟩ b (.pure (.int .i64 1)))).run Tryz.prog w:=by kernel_rfl
 rw[e,aj1 hx,aj1 hy,ad2 ox hu (fz 2),ad2 oy ((World.cell?_setCell_other _ _ _ _ (by simp)).trans hv) (by rw[World.frozen?_setCell];exact fz 3)]
 rfl
end
theorem appmakeC_ex (cb:Nat):∃q w1 Z,(Builtin.append_ #[90,3] 90 #[.slice (some ⟨cb,0,none⟩) 0 1,.int .i64 2]).run Tryz.prog w=.ok (.slice (some ⟨w.heap.size,0,none⟩) 2 q) w1∧2≤q∧Keep No w w1∧w1.heap[w.heap.size]?=some (.cells (Four (.int .i64 0) (.int .i64 0) (.int .i64 0) (.int .i64 0) Z) 186 (0,0)):=
 ⟨_,_,_,appmakeC w cb,grownCap_ge w 2 1 186,(Keep.refl No w).drew.alloc _,aa4 rfl⟩
theorem insertC_grow (cb vb f s x y:Nat) (hc:w.heap[cb]?=some (.cells #[.int .i64 f,.int .i64 s] 186 (0,0))) (hv:w.heap[vb]?=some (.cells #[.int .i64 x,.int .i64 y] 186 (0,0))):
  CallsIn NF m Tryz.prog 129 #[.slice (some ⟨cb,0,none⟩) 1 1,.int .i64 0,.slice (some ⟨vb,0,none⟩) 1 1] w fun e w'=>∃q Z,2≤q∧e=.returned (.slice (some ⟨w.heap.size,0,none⟩) 2 q)∧Keep No w w'∧w'.heap[w.heap.size]?=some (.cells (Four (.int .i64 x) (.int .i64 y) (.int .i64 f) (.int .i64 s) Z) 186 (0,0)):=by
 obtain⟨q,w1,Z,hap,hq,hK1,hn1⟩:=appmakeC_ex w cb
 have lc:=ab2 hc
 have lv:=ab2 hv
 have hc1:=hK1.old hc id
 have hv1:=hK1.old hv id
 have hcp:=copyC_a (q:=q) (c:=1) (x:=.int .i64 x) (y:=.int .i64 y) rfl rfl ((aa0 hv1 0).trans rfl) ((aa0 hv1 1).trans rfl) ((aa0 hn1 0).trans four_get.1) ((aa0 hn1 1).trans four_get.2.1) (fun i=>ab3 hn1 i)
 have hn2:=aa2 (i:=0) hn1 (.int .i64 x)
 rw[four_set.1]at hn2
 have hn3:=aa2 (i:=1) hn2 (.int .i64 y)
 rw[four_set.2.1]at hn3
 have hK3:Keep No w ((w1.setCell ⟨w.heap.size,0,none⟩ (.int .i64 x)).setCell ⟨w.heap.size,1,none⟩ (.int .i64 y)):=(hK1.setCell _ (fun h=>absurd h (by simp))).setCell _ (fun h=>absurd h (by simp))
 generalize hw3:(w1.setCell ⟨w.heap.size,0,none⟩ (.int .i64 x)).setCell ⟨w.heap.size,1,none⟩ (.int .i64 y)=w3 at*
 clear hw3 hn2 hn1 hK1 hc1 hv1
 have hc3:=hK3.old hc id
 have hcp2:=copyC_b (w:=w3.drew) (q:=q-1) (c:=1) (x:=.int .i64 f) (y:=.int .i64 s) rfl rfl ((aa0 (heap_drew.trans hc3) 0).trans rfl) ((aa0 (heap_drew.trans hc3) 1).trans rfl) ((aa0 (heap_drew.trans hn3) 2).trans four_get.2.2.1) ((aa0 (heap_drew.trans hn3) 3).trans four_get.2.2.2) (fun i=>ab3 (heap_drew.trans hn3) i)
 gi_enter Tryz.func129,Tryz.ntmps129
 gi_wp2_with (first|(gi_at_builtin;refine aj3 rfl (.tmp 34) (.tmp 39) _ rfl rfl rfl hap ?_)|(refine list_copy rfl (.tmp 43) (.tmp 44) _ rfl rfl rfl hcp ?_))
 gi_region
 all_goals gi_wp2
 all_goals go_ret
 all_goals
  refine⟨q,Z,hq,by simp,(hK3.drew.setCell _ (fun h=>absurd h (by simp))).setCell _ (fun h=>absurd h (by simp)),?_⟩
  have hn4:=aa2 (i:=2) (heap_drew.trans hn3) (.int .i64 f)
  rw[four_set.2.2.1]at hn4
  have hn5:=aa2 (i:=3) hn4 (.int .i64 s)
  rw[four_set.2.2.2]at hn5
  exact hn5
end
theorem infoS:(Tryz.prog.info? 188).map (fun i=>(i.zero,i.size,i.bytes))=some (some (.agg #[.int .i64 0,.int .i64 0]),2,16):=by kernel_rfl
theorem zero2S:Builtin.zeroCells #[.int .i64 0,.int .i64 0] 2=#[.int .i64 0,.int .i64 0,.int .i64 0,.int .i64 0]:=by kernel_rfl
section
variable (m:Nat) (w:World)
theorem appmakeS (cb:Nat):(Builtin.append_ #[95,3] 95 #[.slice (some ⟨cb,0,none⟩) 0 1,.int .i64 2]).run Tryz.prog w=.ok (.slice (some ⟨w.heap.size,0,none⟩) 2 (grownCap w 2 1 188)) (w.drew.alloc (.cells (#[.int .i64 0,.int .i64 0,.int .i64 0,.int .i64 0]++Builtin.zeroCells #[.int .i64 0,.int .i64 0] (grownCap w 2 1 188-2)) 188)):=by
 obtain⟨i,hi,hz,hs,hb⟩:=info_parts infoS
 have e:=zero2S
 have ea:∀w:World,(asIntOf (.int .i64 2)).run Tryz.prog w=.ok (.i64,2) w:=fun _=>rfl
 have ew:IntKind.i64.wrap 2=2:=by decide
 simp[Builtin.append_,run_underlying Tryz.underlying95,run_underlying Tryz.underlying3,sizeOf,typeInfo,zeroValue,hi,hz,hs,hb,Builtin.lenOf,Question.forced,newRow,grownCap,Builtin.firstCells,loadCells,loadCellsFrom,asInt,ea,ew,Builtin.nextslicecap,e,Value.cells]
 intro h
 exact absurd h (by decide)
section
variable {w:World} {db sb q c:Nat} {x y u v:Value}
theorem copyS_a (ox:x.oneCell'=true) (oy:y.oneCell'=true) (hx:w.cell? ⟨sb,0,none⟩=some x) (hy:w.cell? ⟨sb,1,none⟩=some y) (hu:w.cell? ⟨db,0,none⟩=some u) (hv:w.cell? ⟨db,1,none⟩=some v) (fz:∀i,w.frozen? ⟨db,i,none⟩=false):
  (Builtin.copy_ #[95,95] 3 #[.slice (some ⟨db,0,none⟩) 2 q,.slice (some ⟨sb,0,none⟩) 1 c]).run Tryz.prog w=.ok (.int .i64 1) ((w.setCell ⟨db,0,none⟩ x).setCell ⟨db,1,none⟩ y):=by
 have e:(Builtin.copy_ #[95,95] 3 #[.slice (some ⟨db,0,none⟩) 2 q,.slice (some ⟨sb,0,none⟩) 1 c]).run Tryz.prog w=(Sem.load .plain ⟨sb,0,none⟩ fun a=>Sem.load .plain ⟨sb,1,none⟩ fun b=>Sem.store .plain ⟨db,0,none⟩ a (Sem.store .plain ⟨db,1,none⟩ b (.pure (.int .i64 1)))).run Tryz.prog w:=by kernel_rfl
 rw[e,aj1 hx,aj1 hy,ad2 ox hu (fz 0),ad2 oy ((World.cell?_setCell_other _ _ _ _ (by simp)).trans hv) (by rw[World.frozen?_setCell];exact fz 1)]
 rfl
theorem copyS_b (ox:x.oneCell'=true) (oy:y.oneCell'=true) (hx:w.cell? ⟨sb,0,none⟩=some x) (hy:w.cell? ⟨sb,1,none⟩=some y) (hu:w.cell? ⟨db,2,none⟩=some u) (hv:w.cell? ⟨db,3,none⟩=some v) (fz:∀i,w.frozen? ⟨db,i,none⟩=false):
  (Builtin.copy_ #[95,95] 3 #[.slice (some ⟨db,2,none⟩) 1 q,.slice (some ⟨sb,0,none⟩) 1 c]).run Tryz.prog w=.ok (.int .i64 1) ((w.setCell ⟨db,2,none⟩ x).setCell ⟨db,3,none⟩ y):=by
 have e:(Builtin.copy_ #[95,95] 3 #[.slice (some ⟨db,2,none⟩) 1 q,.slice (some ⟨sb,0,none⟩) 1 c]).run Tryz.prog w=(Sem.load .plain ⟨sb,0,none⟩ fun a=>Sem.load .plain ⟨sb,1,none⟩ fun b=>Sem.store .plain ⟨db,2,none⟩ a (Sem.store .plain ⟨db,3,none⟩ b (.pure (.int .i64 1)))).run Tryz.prog w:=by kernel_rfl
 rw[e,aj1 hx,aj1 hy,ad2 ox hu (fz 2),ad2 oy ((World.cell?_setCell_other _ _ _ _ (by simp)).trans hv) (by rw[World.frozen?_setCell];exact fz 3)]
 rfl
end
theorem appmakeS_ex (cb:Nat):∃q w1 Z,(Builtin.append_ #[95,3] 95 #[.slice (some ⟨cb,0,none⟩) 0 1,.int .i64 2]).run Tryz.prog w=.ok (.slice (some ⟨w.heap.size,0,none⟩) 2 q) w1∧2≤q∧Keep No w w1∧w1.heap[w.heap.size]?=some (.cells (Four (.int .i64 0) (.int .i64 0) (.int .i64 0) (.int .i64 0) Z) 188 (0,0)):=
 ⟨_,_,_,appmakeS w cb,grownCap_ge w 2 1 188,(Keep.refl No w).drew.alloc _,aa4 rfl⟩
theorem insertS_grow (cb vb f s x y:Nat) (hc:w.heap[cb]?=some (.cells #[.int .i64 f,.int .i64 s] 188 (0,0))) (hv:w.heap[vb]?=some (.cells #[.int .i64 x,.int .i64 y] 188 (0,0))):
  CallsIn NF m Tryz.prog 210 #[.slice (some ⟨cb,0,none⟩) 1 1,.int .i64 0,.slice (some ⟨vb,0,none⟩) 1 1] w fun e w'=>∃q Z,2≤q∧e=.returned (.slice (some ⟨w.heap.size,0,none⟩) 2 q)∧Keep No w w'∧w'.heap[w.heap.size]?=some (.cells (Four (.int .i64 x) (.int .i64 y) (.int .i64 f) (.int .i64 s) Z) 188 (0,0)):=by
 obtain⟨q,w1,Z,hap,hq,hK1,hn1⟩:=appmakeS_ex w cb
 have lc:=ab2 hc
 have lv:=ab2 hv
 have hc1:=hK1.old hc id
 have hv1:=hK1.old hv id
 have hcp:=copyS_a (q:=q) (c:=1) (x:=.int .i64 x) (y:=.int .i64 y) rfl rfl ((aa0 hv1 0).trans rfl) ((aa0 hv1 1).trans rfl) ((aa0 hn1 0).trans four_get.1) ((aa0 hn1 1).trans four_get.2.1) (fun i=>ab3 hn1 i)
 have hn2:=aa2 (i:=0) hn1 (.int .i64 x)
 rw[four_set.1]at hn2
 have hn3:=aa2 (i:=1) hn2 (.int .i64 y)
 rw[four_set.2.1]at hn3
 have hK3:Keep No w ((w1.setCell ⟨w.heap.size,0,none⟩ (.int .i64 x)).setCell ⟨w.heap.size,1,none⟩ (.int .i64 y)):=(hK1.setCell _ (fun h=>absurd h (by simp))).setCell _ (fun h=>absurd h (by simp))
 generalize hw3:(w1.setCell ⟨w.heap.size,0,none⟩ (.int .i64 x)).setCell ⟨w.heap.size,1,none⟩ (.int .i64 y)=w3 at*
 clear hw3 hn2 hn1 hK1 hc1 hv1
 have hc3:=hK3.old hc id
 have hcp2:=copyS_b (w:=w3.drew) (q:=q-1) (c:=1) (x:=.int .i64 f) (y:=.int .i64 s) rfl rfl ((aa0 (heap_drew.trans hc3) 0).trans rfl) ((aa0 (heap_drew.trans hc3) 1).trans rfl) ((aa0 (heap_drew.trans hn3) 2).trans four_get.2.2.1) ((aa0 (heap_drew.trans hn3) 3).trans four_get.2.2.2) (fun i=>ab3 (heap_drew.trans hn3) i)
 gi_enter Tryz.func210,Tryz.ntmps210
 gi_wp2_with (first|(gi_at_builtin;refine aj3 rfl (.tmp 34) (.tmp 39) _ rfl rfl rfl hap ?_)|(refine list_copy rfl (.tmp 43) (.tmp 44) _ rfl rfl rfl hcp ?_))
 gi_region
 all_goals gi_wp2
 all_goals go_ret
 all_goals
  refine⟨q,Z,hq,by simp,(hK3.drew.setCell _ (fun h=>absurd h (by simp))).setCell _ (fun h=>absurd h (by simp)),?_⟩
  have hn4:=aa2 (i:=2) (heap_drew.trans hn3) (.int .i64 f)
  rw[four_set.2.2.1]at hn4
  have hn5:=aa2 (i:=3) hn4 (.int .i64 s)
  rw[four_set.2.2.2]at hn5
  exact hn5
end
section
variable (m:Nat) (w:World)
theorem endC_calls (f s:Nat) (hsm:f+s≤1000):CallsIn NF m Tryz.prog 171 #[.agg #[.int .i64 f,.int .i64 s]] w fun e w'=>e=.returned (.int .i64 (f+s:Nat))∧Keep No w w':=by
 gi_enter Tryz.func171,Tryz.ntmps171
 gi_wp2
 go_ret
 exact⟨ret_int (by omega),by repeat (first|exact Keep.refl _ _|refine Keep.drew ?_|refine Keep.alloc ?_ _)⟩
theorem clearC_two {w:World} {nb q:Nat} {x y f s:Value} {Z:Array Value} (hc:w.heap[nb]?=some (.cells (Four x y f s Z) 186 (0,0))):(Builtin.clear_ #[90] 0 #[.slice (some ⟨nb,2,none⟩) 1 q]).run Tryz.prog w=.ok (.tuple #[]) ((w.setCell ⟨nb,2,none⟩ (.int .i64 0)).setCell ⟨nb,3,none⟩ (.int .i64 0)):=by
 have c0:w.cell? ⟨nb,2,none⟩=some f:=by rw[aa0 hc];exact four_get.2.2.1
 have hc':=aa2 (i:=2) hc (.int .i64 0)
 rw[four_set.2.2.1]at hc'
 have c1:(w.setCell ⟨nb,2,none⟩ (.int .i64 0)).cell? ⟨nb,3,none⟩=some s:=by rw[aa0 hc'];exact four_get.2.2.2
 have e:(Builtin.clear_ #[90] 0 #[.slice (some ⟨nb,2,none⟩) 1 q]).run Tryz.prog w=(Sem.store .plain ⟨nb,2,none⟩ (.int .i64 0) (Sem.store .plain ⟨nb,3,none⟩ (.int .i64 0) (.pure (.tuple #[])))).run Tryz.prog w:=by kernel_rfl
 rw[e,ad2 rfl c0 (ab3 hc 2),ad2 rfl c1 (ab3 hc' 3)]
 rfl
theorem deleteC_two (nb q:Nat) (x y f s:Value) (Z:Array Value) (hc:w.heap[nb]?=some (.cells (Four x y f s Z) 186 (0,0))) (hq:2≤q):
  CallsIn NF m Tryz.prog 132 #[.slice (some ⟨nb,0,none⟩) 2 q,.int .i64 1,.int .i64 2] w fun e w'=>e=.returned (.slice (some ⟨nb,0,none⟩) 1 q)∧Keep (At nb) w w':=by
 rcases Nat.eq_or_lt_of_le hq with e|e
 ·subst e
  have hcl:=clearC_two (q:=1) (w:=w.drew) hc
  gi_enter Tryz.func132,Tryz.ntmps132
  gi_wp2
  gi_region
  all_goals gi_wp2
  all_goals go_ret
  all_goals exact⟨by simp,by repeat (first|exact Keep.refl _ _|refine Keep.drew ?_|refine Keep.setCell ?_ _ (fun _=>rfl))⟩
 ·have hcl:=clearC_two (q:=q-1) (w:=w.drew) hc
  have hq2:¬q=2:=by omega
  gi_enter Tryz.func132,Tryz.ntmps132
  gi_wp2
  gi_region
  all_goals gi_wp2
  all_goals go_ret
  all_goals exact⟨by simp,by repeat (first|exact Keep.refl _ _|refine Keep.drew ?_|refine Keep.setCell ?_ _ (fun _=>rfl))⟩
set_option maxHeartbeats 4000000 in
theorem joinC_two (kb nb q x y:Nat) (ks Z:Array Value) (T:TypeId) (hk:w.heap[kb]?=some (.cells ks T (0,0))) (hs:ks[0]?=some (.slice (some ⟨nb,0,none⟩) 2 q)) (hn:w.heap[nb]?=some (.cells (Four (.int .i64 0) (.int .i64 x) (.int .i64 x) (.int .i64 y) Z) 186 (0,0))) (hne:kb≠nb) (hq:2≤q) (hsm:x+y≤1000):
  CallsIn NF m Tryz.prog 130 #[.pointer (some ⟨kb,0,none⟩),.int .i64 0] w fun e w'=>e=.returned (.tuple #[])∧Keep (At2 kb nb) w w'∧∃v,w'.heap[kb]?=some (.cells (ks.setIfInBounds 0 v) T (0,0)):=by
 have q0:w.cell? ⟨kb,0,none⟩=some (.slice (some ⟨nb,0,none⟩) 2 q):=(aa0 hk _).trans hs
 have c0:w.cell? ⟨nb,0,none⟩=some (.int .i64 0):=(aa0 hn _).trans four_get.1
 have c1:w.cell? ⟨nb,1,none⟩=some (.int .i64 x):=(aa0 hn _).trans four_get.2.1
 have c2:w.cell? ⟨nb,2,none⟩=some (.int .i64 x):=(aa0 hn _).trans four_get.2.2.1
 gi_enter Tryz.func130,Tryz.ntmps130
 gi_wp2
 refine aa9 (P:=Tryz.prog) No _ rfl rfl (by kernel_rfl) 30 68 [0,1,2,3,4,5,6,7,8,9,10,11,12,13,14,15,16,17,18,19,21,22,23,24,25,26,27,28,29] [20] (by kernel_rfl) (by rfl) (fun _ v W=>v=.int .i64 (0+x:Nat)) (fun _ _ _ _ _ h _=>h) _ _ rfl rfl ?_
 gi_wp2
 refine⟨rfl,?_,?_,?_,?_⟩
 ·kernel_rfl
 ·intro W hK
  have d0:=hK.has (w:=w.drew) q0
  have d1:=hK.has (w:=w.drew) c0
  have d2:=hK.has (w:=w.drew) c1
  have d3:=hK.has (w:=w.drew) c2
  repeat' (refine aa8 ?_ ?_)
  all_goals first|exact trivial|gi_wp2
 ·intro i hi u W hK _
  obtain rfl:i=20:=by simpa using hi
  refine ac4 rfl fun KK hKK=>?_
  show wpListIn NF m Tryz.prog _ _ _ (Act.put _ (some 24) (u 20)) _
  gi_wp2_with (gi_at_call 171;refine(endC_calls _ _ 0 x (by omega)).mono ?_;rintro e w1 ⟨rfl,hK1⟩)
  exact⟨_,rfl,hK1,by simp⟩
 ·intro u W hK hu
  have hu:=hu 20 (by simp)
  show wpListIn NF m Tryz.prog _ _ _ (Act.put _ (some 24) (u 20)) _
  rw[hu]
  have hk1:=hK.old (heap_drew.trans hk) id
  have hn1:=hK.old (heap_drew.trans hn) id
  have q1:W.cell? ⟨kb,0,none⟩=some (.slice (some ⟨nb,0,none⟩) 2 q):=(aa0 hk1 _).trans hs
  have d1:W.cell? ⟨nb,1,none⟩=some (.int .i64 x):=(aa0 hn1 _).trans four_get.2.1
  have d3:W.cell? ⟨nb,3,none⟩=some (.int .i64 y):=(aa0 hn1 _).trans four_get.2.2.2
  have f1:=ab3 hn1 1
  have hn2:=aa2 (i:=1) hn1 (.int .i64 ((x:Int)+y))
  rw[four_set.2.1]at hn2
  gi_wp2
  gi_region
  all_goals gi_wp2_with (gi_at_call 132;refine(deleteC_two _ (W.setCell ⟨nb,1,none⟩ (.int .i64 ((x:Int)+y))).drew nb q _ _ _ _ Z (heap_drew.trans hn2) hq).mono ?_;rintro e w2 ⟨rfl,hK2⟩;have e7:=hK2.old (heap_drew.trans ((af4 _ hne).trans hk1)) hne;have e8:=ab3 e7 0;have e9:=(aa0 e7 0).trans hs)
  all_goals go_end0
  all_goals exact⟨by simp,((((Keep.refl (At2 kb nb) w).drew.then hK.no).setCell _ (fun _=>.inr rfl)).drew.trans hK2 (fun _ _ h=>.inr h)).setCell _ (fun _=>.inl rfl),_,aa2 e7 _⟩
set_option maxHeartbeats 4000000 in
theorem joinC_one (kb nb q:Nat) (ks:Array Value) (T:TypeId) (hk:w.heap[kb]?=some (.cells ks T (0,0))) (hs:ks[0]?=some (.slice (some ⟨nb,0,none⟩) 1 q)):
  CallsIn NF m Tryz.prog 130 #[.pointer (some ⟨kb,0,none⟩),.int .i64 0] w fun e w'=>e=.returned (.tuple #[])∧Keep No w w':=by
 have q0:w.cell? ⟨kb,0,none⟩=some (.slice (some ⟨nb,0,none⟩) 1 q):=(aa0 hk _).trans hs
 gi_enter Tryz.func130,Tryz.ntmps130
 gi_wp2
 refine aa9 (P:=Tryz.prog) No _ rfl rfl (by kernel_rfl) 31 68 [0,1,2,3,4,5,6,7,8,9,10,11,12,13,14,15,16,17,18,19,20,21,22,23,24,25,26,27,28,29,30] [] (by kernel_rfl) (by rfl) (fun _ _ _=>True) (fun _ _ _ _ _ h _=>h) _ _ rfl rfl ?_
 gi_wp2
 refine⟨rfl,by kernel_rfl,?_,(fun i hi=>absurd hi (by simp)),?_⟩
 ·intro W hK
  have d0:=hK.has (w:=w.drew) q0
  repeat' (refine aa8 ?_ ?_)
  all_goals first|exact trivial|gi_wp2
 ·intro u W hK _
  simp only[putS]
  gi_wp2
  refine bodyPost_ret (results_none rfl _ _ _) rfl ?_
  exact⟨by simp,(Keep.refl No w).drew.then hK⟩
set_option maxHeartbeats 4000000 in
theorem joinC_neg (kb:Nat):
  CallsIn NF m Tryz.prog 130 #[.pointer (some ⟨kb,0,none⟩),.int .i64 (-1)] w fun e w'=>e=.returned (.tuple #[])∧Keep No w w':=by
 gi_enter Tryz.func130,Tryz.ntmps130
 gi_wp2
 refine aa9 (P:=Tryz.prog) No _ rfl rfl (by kernel_rfl) 31 68 [0,1,2,3,4,5,6,7,8,9,10,11,12,13,14,15,16,17,18,19,20,21,22,23,24,25,26,27,28,29,30] [] (by kernel_rfl) (by rfl) (fun _ _ _=>True) (fun _ _ _ _ _ h _=>h) _ _ rfl rfl ?_
 gi_wp2
 refine⟨rfl,by kernel_rfl,?_,(fun i hi=>absurd hi (by simp)),?_⟩
 ·intro W hK
  repeat' (refine aa8 ?_ ?_)
  all_goals first|exact trivial|gi_wp2
 ·intro u W hK _
  simp only[putS]
  gi_wp2
  refine bodyPost_ret (results_none rfl _ _ _) rfl ?_
  exact⟨by simp,(Keep.refl No w).drew.then hK⟩
theorem indexC_give1 (b fb f s from_ c:Nat) (h0:w.cell? ⟨b,0,none⟩=some (.int .i64 f)) (h1:w.cell? ⟨b,1,none⟩=some (.int .i64 s)) (hn:w.cell? ⟨fb,0,none⟩=some (.int .i64 from_)) (hlt:from_<f):
  CallsIn NF m Tryz.prog 127 #[.slice (some ⟨b,0,none⟩) 1 c,.func (.func 128) #[] #[.pointer (some ⟨fb,0,none⟩)]] w fun e w'=>e=.returned (.int .i64 0)∧Keep No w w':=by
 have e1:(w.alloc (.cells #[.int .i64 f,.int .i64 s] 186)).cell? ⟨fb,0,none⟩=some (.int .i64 from_):=((Keep.refl No w).alloc _).has hn
 gi_enter Tryz.func127,Tryz.ntmps127
 gi_wp2
 refine wpIn_loop_once ?_
 gi_wp2_with gi_in
 go_ret
 exact⟨by simp,by repeat (first|exact Keep.refl _ _|refine Keep.drew ?_|refine Keep.alloc ?_ _)⟩
theorem indexC_give0 (a:Option Addr) (c:Nat) (g:Value):
  CallsIn NF m Tryz.prog 127 #[.slice a 0 c,g] w fun e w'=>e=.returned (.int .i64 (-1))∧Keep No w w':=by
 gi_enter Tryz.func127,Tryz.ntmps127
 gi_wp2
 refine wpIn_loop_once ?_
 gi_wp2
 go_ret
 exact⟨by simp,Keep.refl _ _⟩
theorem appC_room {w:World} {cb vb:Nat} {x y u v:Value} (ox:x.oneCell'=true) (oy:y.oneCell'=true) (hc:w.heap[cb]?=some (.cells #[u,v] 186 (0,0))) (hv:w.heap[vb]?=some (.cells #[x,y] 186 (0,0))):
  (Builtin.append_ #[90,90] 90 #[.slice (some ⟨cb,0,none⟩) 0 1,.slice (some ⟨vb,0,none⟩) 1 1]).run Tryz.prog w=.ok (.slice (some ⟨cb,0,none⟩) 1 1) ((w.setCell ⟨cb,0,none⟩ x).setCell ⟨cb,1,none⟩ y):=by
 have e:(Builtin.append_ #[90,90] 90 #[.slice (some ⟨cb,0,none⟩) 0 1,.slice (some ⟨vb,0,none⟩) 1 1]).run Tryz.prog w=(Sem.load .plain ⟨vb,0,none⟩ fun a=>Sem.load .plain ⟨vb,1,none⟩ fun b=>Sem.store .plain ⟨cb,0,none⟩ a (Sem.store .plain ⟨cb,1,none⟩ b (.pure (.slice (some ⟨cb,0,none⟩) 1 1)))).run Tryz.prog w:=by kernel_rfl
 have hc':=aa2 (i:=0) hc x
 have a0:w.cell? ⟨vb,0,none⟩=some x:=by rw[aa0 hv];rfl
 have a1:w.cell? ⟨vb,1,none⟩=some y:=by rw[aa0 hv];rfl
 have b0:w.cell? ⟨cb,0,none⟩=some u:=by rw[aa0 hc];rfl
 have b1:(w.setCell ⟨cb,0,none⟩ x).cell? ⟨cb,1,none⟩=some v:=by rw[aa0 hc'];rfl
 rw[e,aj1 a0,aj1 a1,ad2 ox b0 (ab3 hc 0),ad2 oy b1 (ab3 hc' 1)]
 rfl
theorem insertC_room (cb vb x y:Nat) (u v:Value) (hc:w.heap[cb]?=some (.cells #[u,v] 186 (0,0))) (hv:w.heap[vb]?=some (.cells #[.int .i64 x,.int .i64 y] 186 (0,0))):
  CallsIn NF m Tryz.prog 129 #[.slice (some ⟨cb,0,none⟩) 0 1,.int .i64 0,.slice (some ⟨vb,0,none⟩) 1 1] w fun e w'=>e=.returned (.slice (some ⟨cb,0,none⟩) 1 1)∧Keep (At cb) w w':=by
 have hap:=appC_room (x:=.int .i64 x) (y:=.int .i64 y) rfl rfl hc hv
 gi_enter Tryz.func129,Tryz.ntmps129
 gi_wp2_with (gi_at_builtin;refine aj3 rfl (.tmp 23) (.tmp 24) _ rfl rfl rfl hap ?_)
 go_ret
 exact⟨by simp,by repeat (first|exact Keep.refl _ _|refine Keep.drew ?_|refine Keep.setCell ?_ _ (fun _=>rfl))⟩
end
end Go.Fxa
