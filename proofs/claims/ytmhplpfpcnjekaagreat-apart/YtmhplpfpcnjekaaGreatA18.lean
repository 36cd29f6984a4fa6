/- Rows of numbers in memory; the -/
import Derived.Test.YtmhplpfpcnjekaaGreatA17
import Derived.Handy
import Derived.BigRegionIn
import Derived.Outline
import Derived.OwnWalkIn
import Derived.LoopNIn
namespace Go.Fxa
open Go.Conc Go.Proofs Go.RowKit
set_option maxRecDepth 1000000
set_option maxHeartbeats 0
def Row (k:IntKind) (w:World) (b n:Nat) (f:Nat->Int):Prop:=
 ∃cs T,w.heap[b]?=some (.cells cs T (0,0))/\cs.size=n/\∀i,i<n->cs[i]?=some (.int k (f i))
section
variable {k:IntKind} {w w':World} {b n:Nat} {f g:Nat->Int}
theorem Row.cell (h:Row k w b n f) {i:Nat} (hi:i<n):w.cell? (T_ b i)=some (.int k (f i)):=by
 obtain⟨cs,T,h1,_,h3⟩:=h;rw[Ag h1];exact h3 i hi
theorem Row.fz (h:Row k w b n f) (i:Nat):w.frozen? (T_ b i)=false:=by
 obtain⟨cs,T,h1,_,_⟩:=h;exact BF h1 i
def upd (f:Nat->Int) (i:Nat) (x:Int):Nat->Int:=fun j=>if j=i then x else f j
theorem sN.keep {v:Value} (h:sN w v n f) (hk:Ab No w w'):sN w' v n f:=by
 obtain⟨h0,s,c,h1,h2⟩:=h;refine⟨h0,s,c,h1,fun hn=>?_⟩;obtain⟨b,o,h3,h4⟩:=h2 hn;exact⟨b,o,h3,fun i hi=>hk.has (h4 i hi)⟩
end
section
variable (m:Nat) (w:World)
end
section
variable (pb ib c L m:Nat) (w:World)
end
def QD (ops:Array Oper) (i:Nat):List Nat:=match ops[i]? with
 | none=>[]
 | some o=>(o.after.toList.filter (Region.binds .any)).map (·.on)
def reach (ops:Array Oper):Nat->List Nat->List Nat
 | 0,R=>R
 | j+1,R=>reach ops j (if R.contains j then QD ops j++R else R)
def Kv (ops:Array Oper) (k:Nat):Bool:=
 ((List.range ops.size).all fun i=>(QD ops i).all fun j=>decide (j<i)) && (List.range ops.size).all fun i=>decide (i<k) || (List.range i).all fun j=>(reach ops i (QD ops i)).contains j
section
variable {ops:Array Oper} {l:Array Bool} {k:Nat}
def Lower (ops:Array Oper) (l:Array Bool):Prop:=∀i,l.getD i false=true->∀j∈QD ops i,l.getD j false=true
theorem mem_ready {i:Nat}:i∈Region.ready .any ops l ↔ i<ops.size/\l.getD i true=false/\∀j∈QD ops i,l.getD j false=true:=by
 unfold Region.ready;rw[List.mem_filter,List.mem_range];refine and_congr_right fun hi=>?_
 rw[Bool.and_eq_true,Bool.not_eq_true'];refine and_congr_right fun _=>?_
 have e:ops[i]?=some ops[i]:=Array.getElem?_eq_getElem hi;unfold QD;rw[e];simp only[Option.map_some,Option.getD_some,Array.all_eq_true',List.mem_map,List.mem_filter,Array.mem_toList_iff,Bool.or_eq_true,Bool.not_eq_true'];constructor
 ·rintro h j ⟨ed,⟨he,hb⟩,rfl⟩;rcases h ed he with h' | h'
  ·rw[h']at hb;cases hb
  ·exact h'
 ·intro h ed he;cases hb:Region.binds .any ed with
  | false=>exact .inl rfl
  | true=>exact .inr (h _ ⟨ed,⟨he,hb⟩,rfl⟩)
theorem LQ (hl:Lower ops l):∀(j:Nat) (R:List Nat),(∀x∈R,l.getD x false=true)->∀x∈reach ops j R,l.getD x false=true
 | 0,R,h=>h
 | j+1,R,h=>by
  unfold reach
  split
  ·rename_i hc;refine LQ hl j _ fun x hx=>?_
   rcases List.mem_append.1 hx with hx|hx
   ·exact hl j (h j (by simpa using hc)) x hx
   ·exact h x hx
  ·exact LQ hl j R h
theorem Jc (h:Kv ops k=true) {i j:Nat} (hj:j∈QD ops i):j<i:=by
 unfold Kv at h;rw[Bool.and_eq_true,List.all_eq_true]at h;have hi:i<ops.size:=by
  by_cases hi:i<ops.size
  ·exact hi
  ·unfold QD at hj;rw[Array.getElem?_eq_none (by omega)]at hj;cases hj
 have:=h.1 i (List.mem_range.2 hi);rw[List.all_eq_true]at this;simpa using this j hj
theorem Si (h:Kv ops k=true) (hl:Lower ops l) {i:Nat} (hi:i<ops.size) (hk:k<=i) (hr:∀j∈QD ops i,l.getD j false=true):∀j,j<i->l.getD j false=true:=by
 unfold Kv at h;rw[Bool.and_eq_true,List.all_eq_true,List.all_eq_true]at h;have:=h.2 i (List.mem_range.2 hi);rw[Bool.or_eq_true,List.all_eq_true]at this;rcases this with h' | h'
 ·have:=of_decide_eq_true h';omega
 ·intro j hj;exact LQ hl i _ hr j (by simpa using h' j (List.mem_range.2 hj))
theorem KT {i j:Nat} {b:Bool} (hi:i<l.size):(l.setIfInBounds i true).getD j b=if j=i then true else l.getD j b:=by
 simp only[Array.getD_eq_getD_getElem?,Array.getElem?_setIfInBounds];by_cases e:i=j
 ·subst e;simp[hi]
 ·simp[e,Ne.symm e]
theorem U3 (h:Lower ops l) {i:Nat} (hi:i<l.size) (hr:∀j∈QD ops i,l.getD j false=true):Lower ops (l.setIfInBounds i true):=by
 intro x hx j hj;rw[KT hi]at hx ⊢;by_cases e:j=i
 ·rw[if_pos e]
 ·rw[if_neg e];by_cases e2:x=i
  ·subst e2;exact hr j hj
  ·rw[if_neg e2]at hx;exact h x hx j hj
end
section
variable {F:Fence} {n:Nat} {P:Program} {ops:Array Oper} {Q:Exit->Act->World->Prop} {k:Nat} {S:Nat->Prop}
theorem Qy (F3:Kv ops k=true):∀(fuel m:Nat) (l:Array Bool) (a:Act) (w:World),k<=m->m+fuel=ops.size->l.size=ops.size->(∀j,l.getD j false=decide (j<m))->
  wpListIn F n P ops Q (ops.toList.drop m) a w->wpAnyIn F n P .any ops Q fuel l a w
 | 0,m,l,a,w,hk,hf,hs,hl,h=>by
  have hm:ops.toList.drop m=[]:=List.drop_eq_nil_of_le (by simp;omega)
  rw[hm]at h
  refine wpAnyIn_done ?_ h 0
  refine List.eq_nil_iff_forall_not_mem.2 fun i hi=>?_
  obtain⟨h1,h2,_⟩:=mem_ready.1 hi
  have:=hl i
  rw[Array.getD_eq_getD_getElem?,Array.getElem?_eq_getElem (by omega)]at this h2
  simp only[Option.getD_some]at this h2
  rw[h2]at this
  have:=of_decide_eq_false this.symm
  omega
 | fuel+1,m,l,a,w,hk,hf,hs,hl,h=>by
  have hm:m<ops.size:=by omega
  have e:ops.toList.drop m=ops[m]::ops.toList.drop (m+1):=by
   rw[List.drop_eq_getElem_cons (by simpa using hm)]
   simp
  have lo:Lower ops l:=fun i hi j hj=>by
   rw[hl]at hi ⊢
   have:=of_decide_eq_true hi
   have:=Jc F3 hj
   exact decide_eq_true (by omega)
  have gt:∀i,i<ops.size->l.getD i true=l.getD i false:=fun i hi=>by
   rw[Array.getD_eq_getD_getElem?,Array.getD_eq_getD_getElem?,Array.getElem?_eq_getElem (by omega)];rfl
  refine⟨fun hn=>?_,fun i hi=>?_⟩
  ·exfalso;have:m∈Region.ready .any ops l:=mem_ready.2 ⟨hm,by rw[gt m hm,hl];exact decide_eq_false (by omega),fun j hj=>by rw[hl];exact decide_eq_true (Jc F3 hj)⟩;rw[hn]at this;cases this
  ·obtain⟨h1,h2,h3⟩:=mem_ready.1 hi;rw[gt i h1,hl]at h2;have h2:=of_decide_eq_false h2;have GG:=Si F3 lo h1 (by omega) h3;have him:i=m:=by
    by_cases e:i=m
    ·exact e
    ·have:=GG m (by omega);rw[hl]at this;have:=of_decide_eq_true this;omega
   subst him;rw[e]at h;unfold wpOpIn;rw[Array.getElem?_eq_getElem hm];simp only;have go:∀a w,wpListIn F n P ops Q (ops.toList.drop (i+1)) a w->wpAnyIn F n P .any ops Q fuel (l.setIfInBounds i true) a w:=fun a w h=>
    Qy F3 fuel (i+1) _ a w (by omega) (by omega) (by simp[hs]) (fun j=>by rw[KT (by omega),hl];by_cases e:j=i<;>simp[e];omega) h
   unfold wpListIn at h;split at h
   ·rename_i hw;rw[if_pos hw];exact Oper.wpIn_mono go h
   ·rename_i hw;rw[if_neg hw];exact⟨h.1,go _ _ h.2⟩
def Ii (u:Y_) (i:Nat) (v:Value):Nat->Value:=fun j=>if j=i then v else u j
theorem Gu {i:Nat} {K K':Act->World->Prop} {a:Act} {w:World} (h:∀a w,K a w->K' a w) (hx:wpOpIn F n P ops Q i K a w):wpOpIn F n P ops Q i K' a w:=by
 unfold wpOpIn at hx ⊢;split
 ·rename_i e;rw[e]at hx;exact h _ _ hx
 ·rename_i o e;rw[e]at hx;simp only at hx;split
  ·rename_i hw;rw[if_pos hw]at hx;exact Oper.wpIn_mono h hx
  ·rename_i hw;rw[if_neg hw]at hx;exact⟨hx.1,h _ _ hx.2⟩
theorem XZ (F3:Kv ops k=true) (hkn:k<ops.size) (A:(Y_)->Act) (Φ:Nat->Value->World->Prop) (w:World) (hmono:∀i,i<k->∀v W W',Φ i v W->Ab S W W'->Φ i v W')
  (AO:∀i,i<k->∀u W,Ab S w W->(∀j∈QD ops i,Φ j (u j) W)->wpOpIn F n P ops Q i (fun a' W'=>∃v,a'=A (Ii u i v)/\Ab S W W'/\Φ i v W') (A u) W)
  (hrest:∀u W,Ab S w W->(∀i,i<k->Φ i (u i) W)->wpListIn F n P ops Q (ops.toList.drop k) (A u) W):
  ∀(fuel:Nat) (l:Array Bool) (u:Y_) (W:World),l.size=ops.size->l.toList.count true+fuel=ops.size->Lower ops l->(∀j,k<=j->l.getD j false=false)->Ab S w W->(∀i,i<k->l.getD i false=true->Φ i (u i) W)->
  wpAnyIn F n P .any ops Q fuel l (A u) W
 | 0,l,u,W,hs,hc,lo,hh,hK,hΦ=>by
  exfalso
  have:∀x∈l.toList,true=x:=by
   apply List.count_eq_length.1
   rw[Array.length_toList]
   omega
  have h7:=hh k (Nat.le_refl _)
  rw[Array.getD_eq_getD_getElem?,Array.getElem?_eq_getElem (by omega)]at h7
  have:=this l[k] (by simp)
  simp only[Option.getD_some]at h7
  rw[h7]at this
  cases this
 | fuel+1,l,u,W,hs,hc,lo,hh,hK,hΦ=>by
  have gt:∀i,i<ops.size->l.getD i true=l.getD i false:=fun i hi=>by
   rw[Array.getD_eq_getD_getElem?,Array.getD_eq_getD_getElem?,Array.getElem?_eq_getElem (by omega)];rfl
  by_cases hd:∀j,j<k->l.getD j false=true
  ·have hl:∀j,l.getD j false=decide (j<k):=fun j=>by
    by_cases e:j<k
    ·rw[hd j e];simp[e]
    ·rw[hh j (by omega)];simp[e]
   have hcnt:l.toList.count true=k:=by
    have e:l.toList=List.replicate k true++List.replicate (ops.size-k) false:=by
     refine List.ext_getElem? fun i=>?_
     by_cases hi:i<ops.size
     ·have:=hl i;rw[Array.getD_eq_getD_getElem?,Array.getElem?_eq_getElem (by omega)]at this;simp only[Option.getD_some]at this;rw[List.getElem?_append];simp only[List.length_replicate,List.getElem?_replicate];rw[show l.toList[i]?=some l[i] by simp[hs,hi],this];by_cases hik:i<k
      ·simp[hik]
      ·simp[hik];omega
     ·rw[List.getElem?_eq_none (by simp;omega),List.getElem?_eq_none (by simp;omega)]
    rw[e];simp[List.count_append,List.count_replicate]
   exact Qy F3 (fuel+1) k l (A u) W (Nat.le_refl _) (by omega) hs hl (hrest u W hK fun i hi=>hΦ i hi (hd i hi))
  ·refine⟨fun hn=>?_,fun i hi=>?_⟩
   ·exfalso;apply hd;intro j
    induction j using Nat.strongRecOn with
    | _ j ih=>
     intro hj
     cases hv:l.getD j false with
     | true=>rfl
     | false=>
      have:j∈Region.ready .any ops l:=mem_ready.2 ⟨by omega,by rw[gt j (by omega)];exact hv,fun x hx=>ih x (Jc F3 hx) (by have:=Jc F3 hx;omega)⟩
      rw[hn]at this
      cases this
   ·obtain⟨h1,h2,h3⟩:=mem_ready.1 hi;by_cases hik:i<k
    ·have hx:=AO i hik u W hK fun j hj=>hΦ j (by have:=Jc F3 hj;omega) (h3 j hj)
     refine Gu (fun a' W'=>?_) hx;rintro⟨v,rfl,hK',hv⟩;refine XZ F3 hkn A Φ w hmono AO hrest fuel _ _ W' (by simp[hs]) (by rw[count_set h2];omega) (U3 lo (by omega) h3) (fun j hj=>?_) (hK.then hK') fun j hj hl=>?_
     ·rw[KT (by omega),if_neg (by omega)];exact hh j hj
     ·unfold Ii;by_cases e:j=i
      ·rw[if_pos e];subst e;exact hv
      ·rw[if_neg e];rw[KT (by omega),if_neg e]at hl;exact hmono j hj _ _ _ (hΦ j hj hl) hK'
    ·exfalso;exact hd fun j hj=>Si F3 lo h1 (by omega) h3 j (by omega)
theorem Yy (id:Nat) (hm:P.follows .mixedOrders=true) (k:Nat) (F3:Kv ops k=true) (hkn:k<ops.size) (A:(Y_)->Act) (u0:Y_) (Φ:Nat->Value->World->Prop) (w:World) (hmono:∀i,i<k->∀v W W',Φ i v W->Ab S W W'->Φ i v W')
  (AO:∀i,i<k->∀u W,Ab S w.drew W->(∀j∈QD ops i,Φ j (u j) W)->wpOpIn F n P ops Q i (fun a' W'=>∃v,a'=A (Ii u i v)/\Ab S W W'/\Φ i v W') (A u) W)
  (hrest:∀u W,Ab S w.drew W->(∀i,i<k->Φ i (u i) W)->wpListIn F n P ops Q (ops.toList.drop k) (A u) W):(Code.region id ops true).wpIn F n P Q (A u0) w:=
 wpIn_region_any hm (XZ F3 hkn A Φ w.drew hmono AO hrest ops.size _ u0 _ (by simp) (by simp[List.count_replicate]) (fun i hi=>by simp[Array.getD]at hi) (fun j _=>by simp[Array.getD]) (Ab.refl _ _) fun i _ hi=>by simp[Array.getD]at hi)
end
def Jn (ops:Array Oper) (i:Nat):Option Nat:=(ops[i]?).bind (·.dst)
def rP (ops:Array Oper):List Nat->List Oper
 | []=>[]
 | i::is=>match ops[i]? with
  | some o=>o::rP ops is
  | none=>rP ops is
def nL (ops:Array Oper) (c:Nat) (i:Nat) (o:Oper):Bool:=
 (o.op.operands.toList.all fun x=>match x with
  | .tmp s=>(List.range c).all fun j=>!(Jn ops j==some s) || (QD ops i).contains j
  | _=>true) && (match o.guard with
  | none=>true
  | some (j,_)=>(QD ops i).contains j)
def RF (ops:Array Oper) (c N:Nat) (rs ss:List Nat):Bool:=
 Kv ops c && decide (c<ops.size) && ((List.range c).all fun i=>rs.contains i !=ss.contains i) && rs.all (·<c) && ss.all (·<c) &&
 ((List.range c).all fun i=>match ops[i]? with
  | none=>false
  | some o=>nL ops c i o && (match o.dst with|some d=>decide (d<N)|none=>false) && (match o.op with | .select _ _=>false | .defer _=>false|_=>true)) &&
 ((List.range c).all fun i=>(List.range c).all fun j=>i==j || !(Jn ops i==Jn ops j)) &&
 (rs.all fun i=>(QD ops i).all fun j=>rs.contains j)
def Qh (F:Fence) (n:Nat) (P:Program) (ops:Array Oper) (a:Act) (W:World):List Oper->Prop
 | []=>True
 | o::os=>(if Region.wanted o (yielded ops a.tmps)then o.wpIn F n P a W (fun a' W'=>a'=a/\W'=W) (fun _ _ _=>False)else(∀f,o.about P W a.eval=some f->F.fn f)/\a.put o.dst undef=a)/\Qh F n P ops a W os
def C9 (ops:Array Oper):List Nat->(Y_)->Act->Act
 | [],_,a=>a
 | i::is,u,a=>C9 ops is u (a.put (Jn ops i) (u i))
def EC (ops:Array Oper) (c:Nat) (a:Act) (u:Y_):Act:=
 ⟨Array.ofFn (n:=a.tmps.size) fun s=>match (List.range c).find? (fun i=>Jn ops i==some s.1)with|some i=>u i|none=>a.tmps[s.1],a.defers⟩
section
variable {ops:Array Oper} {c N:Nat} {rs ss:List Nat}
structure Xn (ops:Array Oper) (c N:Nat) (rs ss:List Nat):Prop where
 free:Kv ops c=true
 cl:c<ops.size
 one:∀i,i<c->(i∈rs/\i ∉ ss)\/(i ∉ rs/\i∈ss)
 rl:∀i∈rs,i<c
 sl:∀i∈ss,i<c
 dep:∀i o,i<c->ops[i]?=some o->nL ops c i o=true
 dst:∀i,i<c->∃d,Jn ops i=some d/\d<N
 rP:∀i o,i<c->ops[i]?=some o->(∀cs b,o.op≠.select cs b)/\∀cl,o.op≠.defer cl
 ne:∀i j,i<c->j<c->i≠j->Jn ops i≠Jn ops j
 rr:∀i∈rs,∀j∈QD ops i,j∈rs
theorem RF.out (h:RF ops c N rs ss=true):Xn ops c N rs ss:=by
 unfold RF at h;simp only[Bool.and_eq_true,List.all_eq_true,List.mem_range,decide_eq_true_eq]at h;obtain⟨⟨⟨⟨⟨⟨⟨h1,h2⟩,h3⟩,h4⟩,h5⟩,h6⟩,h7⟩,h8⟩:=h;refine⟨h1,h2,fun i hi=>?_,fun i hi=>by simpa using h4 i hi,fun i hi=>by simpa using h5 i hi,fun i o hi ho=>?_,fun i hi=>?_,fun i o hi ho=>?_,fun i j hi hj hij=>?_,fun i hi j hj=>by simpa using h8 i hi j hj⟩
 ·have:=h3 i hi;by_cases hr:i∈rs<;>by_cases hs:i∈ss<;>simp[hr,hs]at this ⊢
 ·have:=h6 i hi;rw[ho]at this;simp only[Bool.and_eq_true]at this;exact this.1.1
 ·have:=h6 i hi;have e:ops[i]?=some (ops[i]'(by omega)):=Array.getElem?_eq_getElem (by omega);rw[e]at this;simp only[Bool.and_eq_true]at this;have:=this.1.2;unfold Jn;rw[e];simp only[Option.bind_some];split at this
  ·rename_i d hd;exact⟨d,hd,by simpa using this⟩
  ·cases this
 ·have:=h6 i hi;rw[ho]at this;simp only[Bool.and_eq_true]at this;have:=this.2;refine⟨fun cs b e=>?_,fun cl e=>?_⟩<;>(rw[e]at this;cases this)
 ·have:=h7 i hi j hj;simp[hij]at this;exact this
theorem qE (a:Act) (u:Y_):(EC ops c a u).tmps.size=a.tmps.size:=by simp[EC]
theorem JK (M:Xn ops c N rs ss) {a:Act} (hN:a.tmps.size=N) (u:Y_) {i d:Nat} (hi:i<c) (hd:Jn ops i=some d) (hdN:d<N):(EC ops c a u).tmps[d]?=some (u i):=by
 unfold EC;simp only[Array.getElem?_ofFn,hN,hdN];have:(List.range c).find? (fun j=>Jn ops j==some d)=some i:=by
  refine List.find?_eq_some_iff_getElem.2 ⟨by simp[hd],i,by simpa using hi,by simp,fun j hj=>?_⟩
  have:=M.ne j i (by omega) hi (by omega)
  rw[hd]at this
  simpa using this
 simp[this]
theorem E9 (a:Act) (u:Y_) {s:Nat} (h:∀i,i<c->Jn ops i≠some s):(EC ops c a u).tmps[s]?=a.tmps[s]?:=by
 unfold EC;by_cases hs:s<a.tmps.size
 ·simp only[Array.getElem?_ofFn,hs];have:(List.range c).find? (fun j=>Jn ops j==some s)=none:=by
   refine List.find?_eq_none.2 fun j hj=>?_
   simpa using h j (by simpa using hj)
  simp[this]
 ·rw[Array.getElem?_eq_none (by simpa using hs),Array.getElem?_eq_none (by simpa using hs)]
theorem Lu {a b:Act} (h:∀s:Nat,a.tmps[s]?=b.tmps[s]?) (hd:a.defers=b.defers):a=b:=by
 obtain⟨ta,da⟩:=a;obtain⟨tb,db⟩:=b;simp only at h hd;rw[hd,Array.ext_getElem? (fun i=>h i)]
theorem Mo (a:Act) (d:Nat) (v:Value) (s:Nat):(a.put (some d) v).tmps[s]?=if s=d then(if d<a.tmps.size then some v else none)else a.tmps[s]?:=by
 simp only[Act.put,Array.getElem?_setIfInBounds];by_cases e:d=s
 ·subst e;simp
 ·simp[e,Ne.symm e]
theorem Rm (M:Xn ops c N rs ss) {a:Act} (hN:a.tmps.size=N) (u:Y_) {i:Nat} (hi:i<c) (v:Value):(EC ops c a u).put (Jn ops i) v=EC ops c a (Ii u i v):=by
 obtain⟨d,hd,hdN⟩:=M.dst i hi;rw[hd];refine Lu (fun s=>?_) rfl;rw[Mo];by_cases e:s=d
 ·subst e;rw[if_pos rfl,qE,if_pos (by omega),JK M hN _ hi hd hdN];simp[Ii]
 ·rw[if_neg e];by_cases hs:∃j,j<c/\Jn ops j=some s
  ·obtain⟨j,hj,Jm⟩:=hs;obtain⟨d',Ih,Mh⟩:=M.dst j hj;have:s<N:=(by rw[Jm]at Ih;cases Ih;exact Mh);rw[JK M hN _ hj Jm this,JK M hN _ hj Jm this];have:j≠i:=fun e2=>by subst e2;rw[Jm]at hd;cases hd;exact e rfl
   simp[Ii,this]
  ·have FD:∀j,j<c->Jn ops j≠some s:=fun j hj he=>hs ⟨j,hj,he⟩
   rw[E9 _ _ FD,E9 _ _ FD]
end
section
variable {F:Fence} {n:Nat} {P:Program} {ops:Array Oper} {o:Oper} {a a':Act} {W:World}
theorem il {d:Nat} {v v':Value} (hd:d<a.tmps.size) (h:a.put (some d) v=a.put (some d) v'):v=v':=by
 have:=congrArg (fun x:Act=>x.tmps[d]?) h;simp only[Mo,if_pos hd,if_true]at this;exact Option.some.inj this
theorem uR (hF:F.round=none) {Φ:Value->World->Prop} (hs:(∀cs b,o.op≠.select cs b)/\∀cl,o.op≠.defer cl) {d:Nat} (hd:o.dst=some d) (hda:d<a.tmps.size) (he:∀x∈o.op.operands,a.eval x=a'.eval x)
  (h:o.wpIn F n P a W (fun b W'=>∃v,b=a.put (some d) v/\Φ v W') (fun _ _ _=>False)) {Q:Exit->Act->World->Prop}:o.wpIn F n P a' W (fun b W'=>∃v,b=a'.put (some d) v/\Φ v W') Q:=by
 obtain⟨h1,h2⟩:=h;refine⟨fun f hf=>h1 f (by rw[about_congr o W he];exact hf),?_⟩;rw[hF,Oper.semAt_none]at h2 ⊢;rw[<-execOp_congr o hs.1 he]
 revert h2
 generalize (execOp a.eval o).run P W=r;intro h2;have key:∀v W',(∃v',a.put o.dst v=a.put (some d) v'/\Φ v' W')->∃v',a'.put o.dst v=a'.put (some d) v'/\Φ v' W':=by
  rintro v W' ⟨v',e,hΦ⟩
  rw[hd]at e ⊢
  have:=il hda e
  subst this
  exact⟨_,rfl,hΦ⟩
 match r,h2 with
 | .ok (.value v) w',h2=>exact key _ _ h2
 | .ok .skip w',h2=>exact key _ _ h2
 | .ok (.defer dd) w',h2=>
  exfalso
  obtain⟨v,e,_⟩:=h2
  have:=congrArg Act.defers e
  rw[hd]at this
  simp[Act.put]at this
 | .ok (.enter f args) w',h2=>
  refine⟨h2.1,h2.2.mono fun e Jl hh=>?_⟩
  match e,hh with
  | .returned v,hh=>exact key _ _ hh
  | .panicked ch,hh=>exact hh.elim
  | .outgrown,hh=>exact hh.elim fun _ hw=>hw.elim fun _ hf=>hf.elim
 | .ok (.row row args) w',h2=>exact⟨h2.1,fun c cs hr=>let ⟨v,Jl,hR,hS⟩:=h2.2 c cs hr;⟨v,Jl,key _ _ hR,hS⟩⟩
 | .ok (.round l f tmps assign body) w',h2=>
  refine⟨h2.1,h2.2.mono fun e Jl hh=>?_⟩
  match e,hh with
  | .returned v,hh=>exact key _ _ hh
  | .panicked ch,hh=>exact hh.elim
  | .outgrown,hh=>exact hh.elim fun _ hw=>hw.elim fun _ hf=>hf.elim
 | .halt (.panic v) w',h2=>exact h2.elim
theorem VU {ts ts':X_} (h:∀j b,o.guard=some (j,b)->yielded ops ts j=yielded ops ts' j):Region.wanted o (yielded ops ts)=Region.wanted o (yielded ops ts'):=by
 unfold Region.wanted;split
 ·rfl
 ·rename_i j b hg;rw[h j b hg]
theorem Ya (a:Act) (s:Nat):a.eval (.tmp s)=(a.tmps[s]?).getD undef:=by
 show a.tmps.getD s undef=_;rw[Array.getD_eq_getD_getElem?]
theorem Nz {c N:Nat} {rs ss:List Nat} (M:Xn ops c N rs ss) (hF:F.round=none) {Φ:Value->World->Prop} {i:Nat} (hi:i<c) (hN:a.tmps.size=N)
  (he:∀s,(∀j,j<c->Jn ops j=some s->j∈QD ops i)->a.tmps[s]?=a'.tmps[s]?)
  (h:wpOpIn F n P ops (fun _ _ _=>False) i (fun b W'=>∃v,b=a.put (Jn ops i) v/\Φ v W') a W) {Q:Exit->Act->World->Prop}:wpOpIn F n P ops Q i (fun b W'=>∃v,b=a'.put (Jn ops i) v/\Φ v W') a' W:=by
 obtain⟨d,hd,hdN⟩:=M.dst i hi;have ho:∃o,ops[i]?=some o:=⟨_,Array.getElem?_eq_getElem (by have:=M.cl;omega)⟩;obtain⟨o,ho⟩:=ho;have hdo:o.dst=some d:=by unfold Jn at hd;rw[ho]at hd;exact hd
 have Q4:=M.dep i o hi ho;unfold nL at Q4;rw[Bool.and_eq_true,List.all_eq_true]at Q4;have heo:∀x∈o.op.operands,a.eval x=a'.eval x:=fun x hx=>by
  have:=Q4.1 x (by simpa using hx)
  cases x with
  | tmp s=>
   simp only[List.all_eq_true,List.mem_range,Bool.or_eq_true,Bool.not_eq_true',beq_eq_false_iff_ne]at this
   rw[Ya,Ya,he s fun j hj hs=>by rcases this j hj with h|h;exact absurd hs h;simpa using h]
  | const v=>rfl
  | global g=>rfl
  | func g=>rfl
 have hw:Region.wanted o (yielded ops a.tmps)=Region.wanted o (yielded ops a'.tmps):=VU fun j b hg=>by
  have h2:=Q4.2
  rw[hg]at h2
  have hj:j∈QD ops i:=by simpa using h2
  unfold yielded
  show(match (Jn ops j).bind (a.tmps[·]?)with|some (.bool b)=>some b|_=>none)=(match (Jn ops j).bind (a'.tmps[·]?)with|some (.bool b)=>some b|_=>none)
  obtain⟨d',Ih,_⟩:=M.dst j (by have:=Jc M.free hj;omega)
  rw[Ih]
  simp only[Option.bind_some]
  rw[he d' fun j' hj' hs=>by
   by_cases e:j'=j
   ·exact e ▸ hj
   ·exact absurd (hs.trans Ih.symm) (M.ne j' j hj' (by have:=Jc M.free hj;omega) e)]
 unfold wpOpIn at h ⊢;rw[ho]at h ⊢;simp only at h ⊢;rw[hd]at h ⊢;rw[<-hw];split
 ·rename_i hw';rw[if_pos hw']at h;exact uR hF (M.rP i o hi ho) hdo (by omega) heo h
 ·rename_i hw';rw[if_neg hw']at h;refine⟨fun f hf=>h.1 f (by rw[about_congr o W heo];exact hf),?_⟩;obtain⟨v,e,hΦ⟩:=h.2;rw[hdo]at e ⊢;have:=il (by omega) e;subst this;exact⟨_,rfl,hΦ⟩
end
section
variable {F:Fence} {n:Nat} {P:Program} {ops:Array Oper} {c N:Nat} {rs ss:List Nat}
theorem Ro (hd:F.depth=none) {C:Act->Prop}:∀(l:List Oper) (a:Act) (W:World),wpListIn F n P ops (fun e a' _=>e=.normal/\C a') l a W->∃a1,C a1
 | [],a,W,h=>⟨a,h.2⟩
 | o::l,a,W,h=>by
  have room:∀k,F.room k:=fun k d hdd=>by rw[hd]at hdd;cases hdd
  unfold wpListIn at h
  split at h
  ·obtain⟨_,h2⟩:=h
   revert h2
   generalize (o.semAt F.round a.eval).run P W=r;intro h2;have go:∀a W,wpListIn F n P ops (fun e a' _=>e=.normal/\C a') l a W->∃a1,C a1:=fun a W h=>Ro hd l a W h
   match r,h2 with
   | .ok (.value v) w',h2=>exact go _ _ h2
   | .ok .skip w',h2=>exact go _ _ h2
   | .ok (.defer dd) w',h2=>exact go _ _ h2
   | .ok (.enter f args) w',h2=>
    obtain⟨e,Jl,fr,hR,_⟩:=h2.2.2 [] (room _)
    match e,hR with
    | .returned v,hh=>exact go _ _ hh
    | .panicked ch,hh=>cases hh.1
    | .outgrown,hh=>exact hh.elim fun _ hw=>hw.elim fun _ hf=>by cases hf.1
   | .ok (.row row args) w',h2=>
    obtain⟨v,Jl,hR,_⟩:=h2.2 default [] (room _)
    exact go _ _ hR
   | .ok (.round l' f tmps assign body) w',h2=>
    obtain⟨e,Jl,hR,_⟩:=h2.2.2 default [] (room _)
    match e,hR with
    | .returned v,hh=>exact go _ _ hh
    | .panicked ch,hh=>cases hh.1
    | .outgrown,hh=>exact hh.elim fun _ hw=>hw.elim fun _ hf=>by cases hf.1
   | .halt (.panic v) w',h2=>cases h2.1
  ·exact Ro hd l _ _ h.2
theorem PD {a:Act} {W:World}:∀(l:List Nat),Qh F n P ops a W (rP ops l)->∀i∈l,∀o,ops[i]?=some o->(if Region.wanted o (yielded ops a.tmps)then o.wpIn F n P a W (fun a' W'=>a'=a/\W'=W) (fun _ _ _=>False)else(∀f,o.about P W a.eval=some f->F.fn f)/\a.put o.dst undef=a)
 | [],_,i,hi,_,_=>by cases hi
 | j::l,h,i,hi,o,ho=>by
  unfold rP at h
  rcases List.mem_cons.1 hi with e|hi
  ·subst e;rw[ho]at h;exact h.1
  ·cases hj:ops[j]? with
   | none=>rw[hj]at h;exact PD l h i hi o ho
   | some oj=>rw[hj]at h;exact PD l h.2 i hi o ho
theorem Dt:∀(l:List Nat) (u:Y_) (a:Act) (s:Nat),(∀i∈l,Jn ops i≠some s)->(C9 ops l u a).tmps[s]?=a.tmps[s]?
 | [],_,_,_,_=>rfl
 | i::l,u,a,s,h=>by
  unfold C9
  rw[Dt l u _ s fun j hj=>h j (List.mem_cons_of_mem _ hj)]
  have:=h i (List.mem_cons_self ..)
  cases hd:Jn ops i with
  | none=>rfl
  | some d=>rw[Mo,if_neg];rintro rfl;exact this hd
theorem XA (a:Act) (d:Option Nat) (v:Value):(a.put d v).tmps.size=a.tmps.size:=by cases d<;>simp[Act.put]
theorem put_defers (a:Act) (d:Option Nat) (v:Value):(a.put d v).defers=a.defers:=by cases d<;>rfl
theorem Lf:∀(l:List Nat) (u:Y_) (a:Act),(C9 ops l u a).tmps.size=a.tmps.size
 | [],_,_=>rfl
 | i::l,u,a=>by unfold C9;rw[Lf l,XA]
theorem IE:∀(l:List Nat) (u:Y_) (a:Act),(C9 ops l u a).defers=a.defers
 | [],_,_=>rfl
 | i::l,u,a=>by unfold C9;rw[IE l,put_defers]
theorem Lr (M:Xn ops c N rs ss):∀(l:List Nat) (u:Y_) (a:Act),(∀i∈l,i<c)->a.tmps.size=N->∀i∈l,∀d,Jn ops i=some d->(C9 ops l u a).tmps[d]?=some (u i)
 | [],_,_,_,_,i,hi,_,_=>by cases hi
 | j::l,u,a,hl,hN,i,hi,d,hd=>by
  unfold C9
  by_cases Gl:i∈l
  ·exact Lr M l u _ (fun x hx=>hl x (List.mem_cons_of_mem _ hx)) (by rw[XA];exact hN) i Gl d hd
  ·have e:i=j:=(by rcases List.mem_cons.1 hi with e|e;exact e;exact absurd e Gl);subst e;obtain⟨d',Ih,hdN⟩:=M.dst i (hl i hi);rw[hd]at Ih;cases Ih;rw[Dt l u _ d,hd,Mo,if_pos rfl,if_pos (by omega)];intro x hx he;by_cases e:x=i
   ·exact Gl (e ▸ hx)
   ·exact M.ne x i (hl x (List.mem_cons_of_mem _ hx)) (hl i hi) e (he.trans hd.symm)
def Rs (ops:Array Oper) (a1:Act) (i:Nat):Value:=(a1.tmps[(Jn ops i).getD 0]?).getD undef
structure iP (F:Fence) (n:Nat) (P:Program) (ops:Array Oper) (S:Nat->Prop) (Q:Exit->Act->World->Prop) (a:Act) (w:World) (c:Nat) (rs ss:List Nat) (l:List Oper) (l':List Oper) (Φ:Nat->Value->World->Prop) (a1:Act):Prop where
 act:a1=C9 ops rs (Rs ops a1) a
 each:∀W,Ab S w.drew W->Qh F n P ops a1 W l
 spec:∀i∈ss,∀u W,Ab S w.drew W->(∀j∈ss,j∈QD ops i->Φ j (u j) W)->wpOpIn F n P ops (fun _ _ _=>False) i (fun a' W'=>∃v,a'=(C9 ops ss u a1).put (Jn ops i) v/\Ab S W W'/\Φ i v W') (C9 ops ss u a1) W
 rest:∀u W,Ab S w.drew W->(∀j∈ss,Φ j (u j) W)->wpListIn F n P ops Q l' (C9 ops ss u a1) W
theorem AA (S:Nat->Prop) (id:Nat) (hF:F.round=none) (hF2:F.depth=none) (hm:P.follows .mixedOrders=true) {Q:Exit->Act->World->Prop} {a:Act} {w:World} (c N:Nat) (rs ss:List Nat) (F3:RF ops c N rs ss=true) (hN:a.tmps.size=N) (Φ:Nat->Value->World->Prop)
  (hmono:∀i∈ss,∀v W W',Φ i v W->Ab S W W'->Φ i v W') (l l':List Oper) (hl:rP ops rs=l) (hl':ops.toList.drop c=l')
  (h:wpListIn F n P ops (fun e a1 _=>e=.normal/\iP F n P ops S Q a w c rs ss l l' Φ a1) l a w.drew):(Code.region id ops true).wpIn F n P Q a w:=by
 subst hl hl';have M:=RF.out F3;obtain⟨a1,hA,hE,hS,hR⟩:=Ro hF2 (C:=iP F n P ops S Q a w c rs ss (rP ops rs) (ops.toList.drop c) Φ) _ _ _ h;have sK:a1.tmps.size=N:=by rw[hA,Lf];exact hN
 have lZ:∀i∈rs,∀d,Jn ops i=some d->a1.tmps[d]?=some (Rs ops a1 i):=fun i hi d hd=>by
  have:=Lr M rs (Rs ops a1) a (fun x hx=>M.rl x hx) hN i hi d hd
  rw[<-hA]at this
  exact this
 have zk:∀s,(∀i∈rs,Jn ops i≠some s)->a1.tmps[s]?=a.tmps[s]?:=fun s hs=>by
  have:=Dt rs (Rs ops a1) a s hs
  rw[<-hA]at this
  exact this
 have a1D:a1.defers=a.defers:=by rw[hA,IE]
 refine Eq.mp ?_ (Yy (S:=S) (F:=F) (n:=n) (P:=P) (ops:=ops) (Q:=Q) id hm c M.free M.cl (EC ops c a) (fun i=>Rs ops a i) (fun i v W=>if i∈rs then v=Rs ops a1 i else Φ i v W) w ?_ ?_ ?_)
 ·congr 1
  refine Lu (fun s=>?_) rfl;by_cases hs:∃j,j<c/\Jn ops j=some s
  ·obtain⟨j,hj,Jm⟩:=hs;obtain⟨d',Ih,Mh⟩:=M.dst j hj;have Zk:s<N:=(by rw[Jm]at Ih;cases Ih;exact Mh);rw[JK M hN _ hj Jm Zk];unfold Rs;rw[Jm];simp only[Option.getD_some];rw[Array.getElem?_eq_getElem (by omega)]
   rfl
  ·exact E9 _ _ fun j hj he=>hs ⟨j,hj,he⟩
 ·intro i hi v W W' hv hK;by_cases hr:i∈rs
  ·simp only[if_pos hr]at hv ⊢;exact hv
  ·simp only[if_neg hr]at hv ⊢;rcases M.one i hi with⟨h1,_⟩|⟨_,h2⟩
   ·exact absurd h1 hr
   ·exact hmono i h2 v W W' hv hK
 ·intro i hi u W hK Q4;by_cases hr:i∈rs
  ·have I6:∀s,(∀j,j<c->Jn ops j=some s->j∈QD ops i)->a1.tmps[s]?=(EC ops c a u).tmps[s]?:=fun s hs=>by
    by_cases hx:∃j,j<c/\Jn ops j=some s
    ·obtain⟨j,hj,Jm⟩:=hx;obtain⟨d',Ih,Mh⟩:=M.dst j hj;have Zk:s<N:=(by rw[Jm]at Ih;cases Ih;exact Mh);have hja:=hs j hj Jm;have hjr:=M.rr i hr j hja;have:=Q4 j hja;rw[if_pos hjr]at this;rw[JK M hN _ hj Jm Zk,lZ j hjr s Jm,this]
    ·rw[E9 _ _ fun j hj he=>hx ⟨j,hj,he⟩,zk s fun j hj he=>hx ⟨j,M.rl j hj,he⟩]
   have ho:∃o,ops[i]?=some o:=⟨_,Array.getElem?_eq_getElem (by have:=M.cl;omega)⟩;obtain⟨o,ho⟩:=ho;obtain⟨d,hd,hdN⟩:=M.dst i hi;have hdo:o.dst=some d:=(by unfold Jn at hd;rw[ho]at hd;exact hd);have hx:=PD rs (hE W hK) i hr o ho;have same:∀v,a1.put (some d) v=a1->v=Rs ops a1 i:=fun v e=>by
    have h1:=congrArg (fun x:Act=>x.tmps[d]?) e
    simp only[Mo,if_true,if_pos (show d<a1.tmps.size by omega)]at h1
    rw[lZ i hr d hd]at h1
    exact Option.some.inj h1
   have self:a1.put (some d) (Rs ops a1 i)=a1:=Lu (fun s=>by
    rw[Mo]
    by_cases e:s=d
    ·subst e;rw[if_pos rfl,if_pos (by omega),lZ i hr s hd]
    ·rw[if_neg e]) (put_defers _ _ _)
   have hw:wpOpIn F n P ops (fun _ _ _=>False) i (fun b W'=>∃v,b=a1.put (Jn ops i) v/\(v=Rs ops a1 i/\W'=W)) a1 W:=by
    unfold wpOpIn
    rw[ho,hd]
    simp only
    split
    ·rename_i hw;rw[if_pos hw]at hx;exact Oper.wpIn_mono (fun b W' ⟨e1,e2⟩=>⟨Rs ops a1 i,by rw[self];exact e1,rfl,e2⟩) hx
    ·rename_i hw;rw[if_neg hw]at hx;refine⟨hx.1,undef,by rw[hdo],?_⟩;rw[hdo]at hx;exact⟨same _ hx.2,trivial⟩
   refine Gu (fun b W'=>?_) (Nz M hF hi sK I6 hw (Q:=Q));rintro⟨v,rfl,rfl,rfl⟩;exact⟨_,Rm M hN u hi _,Ab.refl _ _,by simp only[if_pos hr]⟩
  ·have his:i∈ss:=by
    rcases M.one i hi with⟨h1,_⟩|⟨_,h2⟩
    ·exact absurd h1 hr
    ·exact h2
   have nr:∀j∈ss,j ∉ rs:=fun j hj hjr=>by
    rcases M.one j (M.sl j hj)with⟨_,h2⟩|⟨h1,_⟩
    ·exact h2 hj
    ·exact h1 hjr
   have hx:=hS i his u W hK fun j hj hja=>by
    have:=Q4 j hja
    rw[if_neg (nr j hj)]at this
    exact this
   have I6:∀s,(∀j,j<c->Jn ops j=some s->j∈QD ops i)->(C9 ops ss u a1).tmps[s]?=(EC ops c a u).tmps[s]?:=fun s hs=>by
    by_cases hx:∃j,j<c/\Jn ops j=some s
    ·obtain⟨j,hj,Jm⟩:=hx;obtain⟨d',Ih,Mh⟩:=M.dst j hj;have Zk:s<N:=(by rw[Jm]at Ih;cases Ih;exact Mh);rw[JK M hN _ hj Jm Zk];rcases M.one j hj with⟨h1,h2⟩|⟨h1,h2⟩
     ·have:=Q4 j (hs j hj Jm);rw[if_pos h1]at this;rw[Dt ss u a1 s,lZ j h1 s Jm,this];intro x hx he;exact M.ne x j (M.sl x hx) hj (fun e=>h2 (e ▸ hx)) (he.trans Jm.symm)
     ·exact Lr M ss u a1 (fun x hx=>M.sl x hx) sK j h2 s Jm
    ·rw[E9 _ _ fun j hj he=>hx ⟨j,hj,he⟩,Dt ss u a1 s fun j hj he=>hx ⟨j,M.sl j hj,he⟩,zk s fun j hj he=>hx ⟨j,M.rl j hj,he⟩]
   refine Gu (fun b W'=>?_) (Nz M hF hi (by rw[Lf];exact sK) I6 hx (Q:=Q));rintro⟨v,rfl,hK',hv⟩;exact⟨_,Rm M hN u hi _,hK',by simp only[if_neg hr];exact hv⟩
 ·intro u W hK hΦ;have nr:∀j∈ss,j ∉ rs:=fun j hj hjr=>by
   rcases M.one j (M.sl j hj)with⟨_,h2⟩|⟨h1,_⟩
   ·exact h2 hj
   ·exact h1 hjr
  have e:EC ops c a u=C9 ops ss u a1:=by
   refine Lu (fun s=>?_) (by rw[IE];exact a1D.symm)
   by_cases hx:∃j,j<c/\Jn ops j=some s
   ·obtain⟨j,hj,Jm⟩:=hx;obtain⟨d',Ih,Mh⟩:=M.dst j hj;have Zk:s<N:=(by rw[Jm]at Ih;cases Ih;exact Mh);rw[JK M hN _ hj Jm Zk];rcases M.one j hj with⟨h1,h2⟩|⟨h1,h2⟩
    ·have:=hΦ j hj;rw[if_pos h1]at this;rw[Dt ss u a1 s,lZ j h1 s Jm,this];intro x hx he;exact M.ne x j (M.sl x hx) hj (fun e=>h2 (e ▸ hx)) (he.trans Jm.symm)
    ·exact(Lr M ss u a1 (fun x hx=>M.sl x hx) sK j h2 s Jm).symm
   ·rw[E9 _ _ fun j hj he=>hx ⟨j,hj,he⟩,Dt ss u a1 s fun j hj he=>hx ⟨j,M.sl j hj,he⟩,zk s fun j hj he=>hx ⟨j,M.rl j hj,he⟩]
  rw[e];exact hR u W hK fun j hj=>by
   have:=hΦ j (M.sl j hj)
   rw[if_neg (nr j hj)]at this
   exact this
end
section
variable {P:Program} {α:Type} {w:World} {a:Addr} {u:Value}
theorem jM {v:Value} {c:Sem α} (hv:v.oneCell'=true) (h:w.cell? a=some u) (hf:w.frozen? a=false):(Sem.store .plain a v c).run P w=c.run P (w.setCell a v):=by
 cases v<;>first|(simp[Value.oneCell']at hv;done)|simp only[Sem.run,h,hf,Bool.false_eq_true,if_false]
end
section
variable {F:Fence} {n:Nat} {P:Program} {w w':World} {ops:Array Oper} {rest:List Oper} {o:Oper} {a:Act} {Q:Exit->Act->World->Prop}
theorem Js (hg:o.guard=none) (s y:Operand) (ts:Array TypeId) (AO:o.op=Op.call { callee:=Callee.builtin .copy,args:=#[s,y],argTypes:=ts }) {v v2 x:Value} (hs:a.eval s=v) (hy:a.eval y=v2)
  (Bg:(Builtin.copy_ ts o.type #[v,v2]).run P w=.ok x w') (hK:wpListIn F n P ops Q rest (a.put o.dst x) w'):wpListIn F n P ops Q (o::rest) a w:=by
 refine wpListIn_plain hg fun K hK'=>?_
 unfold Oper.wpIn;refine⟨?_,?_⟩
 ·simp[Oper.about,AO,resolve,Target.leads,Sem.run_pure]
 ·rw[Oper.semAt_plain F _ _ (by rw[AO];intro c hc';cases hc')];simp[execOp,AO,resolve,invoke,builtin,hs,hy,Bg,Result.andThen];exact hK' _ _ hK
theorem BL (hg:o.guard=none) (s y:Operand) (ts:Array TypeId) (AO:o.op=Op.call { callee:=Callee.builtin .append,args:=#[s,y],argTypes:=ts }) {v v2 x:Value} (hs:a.eval s=v) (hy:a.eval y=v2)
  (Bg:(Builtin.append_ ts o.type #[v,v2]).run P w=.ok x w') (hK:wpListIn F n P ops Q rest (a.put o.dst x) w'):wpListIn F n P ops Q (o::rest) a w:=by
 refine wpListIn_plain hg fun K hK'=>?_
 unfold Oper.wpIn;refine⟨?_,?_⟩
 ·simp[Oper.about,AO,resolve,Target.leads,Sem.run_pure]
 ·rw[Oper.semAt_plain F _ _ (by rw[AO];intro c hc';cases hc')];simp[execOp,AO,resolve,invoke,builtin,hs,hy,Bg,Result.andThen];exact hK' _ _ hK
end
theorem MG {ks:X_} {i:Nat} {v:Value} (h:ks[i]?=some v):ks.setIfInBounds i v=ks:=by
 apply Array.ext_getElem?;intro j;rw[Array.getElem?_setIfInBounds];by_cases e:i=j
 ·subst e;rw[if_pos rfl,h];split
  ·rfl
  ·rename_i BC;rw[Array.getElem?_eq_none (by omega)]at h;cases h
 ·rw[if_neg e]
theorem Bt {ks:X_} {i j:Nat} {v:Value} (h:i≠j):(ks.setIfInBounds i v)[j]?=ks[j]?:=by rw[Array.getElem?_setIfInBounds,if_neg h]
theorem Kb {ks:X_} {i:Nat} {v u:Value} (h:ks[i]?=some u):(ks.setIfInBounds i v)[i]?=some v:=by
 rw[Array.getElem?_setIfInBounds,if_pos rfl,if_pos (Array.getElem?_eq_some_iff.1 h).1]
theorem BG {w:World} {b c:Nat} {x y:X_} {T U:TypeId} {f g:Nat×Nat} (h:w.heap[b]?=some (.cells x T f)) (k:w.heap[c]?=some (.cells y U g)) (n:T≠U):b≠c:=fun e=>by
 subst e;rw[h]at k;cases k;exact n rfl
/-! ### readers and others of a region, one by one -/
section
variable {F:Fence} {n:Nat} {P:Program} {W:World} {ops:Array Oper} {o:Oper} {os:List Oper} {a:Act}
theorem Ta {C:Act->World->Prop} {K:Act->World->Prop} (h:o.wpIn F n P a W K (fun e a' w'=>e=.normal/\C a' w')):o.wpIn F n P a W K (fun _ _ _=>False):=by
 obtain⟨h1,h2⟩:=h;refine⟨h1,?_⟩
 revert h2
 generalize (o.semAt F.round a.eval).run P W=r;intro h2
 match r,h2 with
 | .ok (.value v) w',h2=>exact h2
 | .ok .skip w',h2=>exact h2
 | .ok (.defer dd) w',h2=>exact h2
 | .ok (.enter f args) w',h2=>
  refine⟨h2.1,h2.2.mono fun e Jl hh=>?_⟩
  match e,hh with
  | .returned v,hh=>exact hh
  | .panicked ch,hh=>cases hh.1
  | .outgrown,hh=>exact hh.elim fun _ hw=>hw.elim fun _ hf=>by cases hf.1
 | .ok (.row row args) w',h2=>exact⟨h2.1,h2.2⟩
 | .ok (.round l f tmps assign body) w',h2=>
  refine⟨h2.1,h2.2.mono fun e Jl hh=>?_⟩
  match e,hh with
  | .returned v,hh=>exact hh
  | .panicked ch,hh=>cases hh.1
  | .outgrown,hh=>exact hh.elim fun _ hw=>hw.elim fun _ hf=>by cases hf.1
 | .halt (.panic v) w',h2=>cases h2.1
theorem Ao (h:wpListIn F n P ops (fun e a' W'=>e=.normal/\a'=a/\W'=W) [o] a W) (hs:Qh F n P ops a W os):Qh F n P ops a W (o::os):=by
 refine⟨?_,hs⟩;unfold wpListIn at h;split at h
 ·rename_i hw;rw[if_pos hw];exact Oper.wpIn_mono (fun _ _ hx=>hx.2) (Ta h)
 ·rename_i hw;rw[if_neg hw];exact⟨h.1,h.2.2.1⟩
theorem uS {i:Nat} {K:Act->World->Prop} (hi:ops[i]?=some o) (h:wpListIn F n P ops (fun e a' W'=>e=.normal/\K a' W') [o] a W):wpOpIn F n P ops (fun _ _ _=>False) i K a W:=by
 unfold wpOpIn;rw[hi];simp only;unfold wpListIn at h;split at h
 ·rename_i hw;rw[if_pos hw];exact Oper.wpIn_mono (fun _ _ hx=>hx.2) (Ta h)
 ·rename_i hw;rw[if_neg hw];exact⟨h.1,h.2.2⟩
theorem Bh {i:Nat} {K:Act->World->Prop} (hi:ops[i]?=some o) (h:∀KK:Act->World->Prop,(∀a' W',K a' W'->KK a' W')->wpListIn F n P ops (fun e a' W'=>e=.normal/\KK a' W') [o] a W):wpOpIn F n P ops (fun _ _ _=>False) i K a W:=
 uS hi (h K fun _ _ h=>h)
end
def JE (L:Nat->Bool) (i:Nat):Nat->Bool:=fun j=>if j=i then true else L j
section
variable {F:Fence} {n:Nat} {P:Program} {ops:Array Oper} {Q:Exit->Act->World->Prop} {k:Nat}
theorem XY (F3:Kv ops k=true) (hkn:k<ops.size) (A:(Y_)->Act) (I:(Nat->Bool)->(Y_)->World->Prop)
  (AO:∀i,i<k->∀L u W,I L u W->L i=false->(∀j∈QD ops i,L j=true)->wpOpIn F n P ops Q i (fun a' W'=>∃v,a'=A (Ii u i v)/\I (JE L i) (Ii u i v) W') (A u) W)
  (hrest:∀L u W,I L u W->(∀i,i<k->L i=true)->wpListIn F n P ops Q (ops.toList.drop k) (A u) W):
  ∀(fuel:Nat) (l:Array Bool) (u:Y_) (W:World),l.size=ops.size->l.toList.count true+fuel=ops.size->Lower ops l->(∀j,k<=j->l.getD j false=false)->I (fun j=>l.getD j false) u W->
  wpAnyIn F n P .any ops Q fuel l (A u) W
 | 0,l,u,W,hs,hc,lo,hh,hI=>by
  exfalso
  have:∀x∈l.toList,true=x:=by
   apply List.count_eq_length.1
   rw[Array.length_toList]
   omega
  have h7:=hh k (Nat.le_refl _)
  rw[Array.getD_eq_getD_getElem?,Array.getElem?_eq_getElem (by omega)]at h7
  have:=this l[k] (by simp)
  simp only[Option.getD_some]at h7
  rw[h7]at this
  cases this
 | fuel+1,l,u,W,hs,hc,lo,hh,hI=>by
  have gt:∀i,i<ops.size->l.getD i true=l.getD i false:=fun i hi=>by
   rw[Array.getD_eq_getD_getElem?,Array.getD_eq_getD_getElem?,Array.getElem?_eq_getElem (by omega)];rfl
  by_cases hd:∀j,j<k->l.getD j false=true
  ·have hl:∀j,l.getD j false=decide (j<k):=fun j=>by
    by_cases e:j<k
    ·rw[hd j e];simp[e]
    ·rw[hh j (by omega)];simp[e]
   have hcnt:l.toList.count true=k:=by
    have e:l.toList=List.replicate k true++List.replicate (ops.size-k) false:=by
     refine List.ext_getElem? fun i=>?_
     by_cases hi:i<ops.size
     ·have:=hl i;rw[Array.getD_eq_getD_getElem?,Array.getElem?_eq_getElem (by omega)]at this;simp only[Option.getD_some]at this;rw[List.getElem?_append];simp only[List.length_replicate,List.getElem?_replicate];rw[show l.toList[i]?=some l[i] by simp[hs,hi],this];by_cases hik:i<k
      ·simp[hik]
      ·simp[hik];omega
     ·rw[List.getElem?_eq_none (by simp;omega),List.getElem?_eq_none (by simp;omega)]
    rw[e];simp[List.count_append,List.count_replicate]
   exact Qy F3 (fuel+1) k l (A u) W (Nat.le_refl _) (by omega) hs hl (hrest _ u W hI hd)
  ·refine⟨fun hn=>?_,fun i hi=>?_⟩
   ·exfalso;apply hd;intro j
    induction j using Nat.strongRecOn with
    | _ j ih=>
     intro hj
     cases hv:l.getD j false with
     | true=>rfl
     | false=>
      have:j∈Region.ready .any ops l:=mem_ready.2 ⟨by omega,by rw[gt j (by omega)];exact hv,fun x hx=>ih x (Jc F3 hx) (by have:=Jc F3 hx;omega)⟩
      rw[hn]at this
      cases this
   ·obtain⟨h1,h2,h3⟩:=mem_ready.1 hi;by_cases hik:i<k
    ·have hx:=AO i hik _ u W hI (by rw[gt i h1]at h2;exact h2) h3;refine Gu (fun a' W'=>?_) hx;rintro⟨v,rfl,G9⟩;refine XY F3 hkn A I AO hrest fuel _ _ W' (by simp[hs]) (by rw[count_set h2];omega) (U3 lo (by omega) h3) (fun j hj=>?_) ?_
     ·rw[KT (by omega),if_neg (by omega)];exact hh j hj
     ·have e:(fun j=>(l.setIfInBounds i true).getD j false)=JE (fun j=>l.getD j false) i:=funext fun j=>KT (by omega)
      rw[e];exact G9
    ·exfalso;exact hd fun j hj=>Si F3 lo h1 (by omega) h3 j (by omega)
structure pE (F:Fence) (n:Nat) (P:Program) (ops:Array Oper) (Q:Exit->Act->World->Prop) (a:Act) (w:World) (c:Nat) (rs ss:List Nat) (l l':List Oper) (I:(Nat->Bool)->(Y_)->World->Prop) (a1:Act):Prop where
 act:a1=C9 ops rs (Rs ops a1) a
 start:∀u,I (fun _=>false) u w.drew
 each:∀L u W,I L u W->Qh F n P ops a1 W l
 spec:∀i∈ss,∀L u W,I L u W->L i=false->(∀j∈ss,j∈QD ops i->L j=true)->wpOpIn F n P ops (fun _ _ _=>False) i (fun a' W'=>∃v,a'=(C9 ops ss u a1).put (Jn ops i) v/\I (JE L i) (Ii u i v) W') (C9 ops ss u a1) W
 rest:∀L u W,I L u W->(∀j∈ss,L j=true)->wpListIn F n P ops Q l' (C9 ops ss u a1) W
theorem BZ (id:Nat) (hF:F.round=none) (hF2:F.depth=none) (hm:P.follows .mixedOrders=true) {a:Act} {w:World} (c N:Nat) (rs ss:List Nat) (F3:RF ops c N rs ss=true) (hN:a.tmps.size=N) (I:(Nat->Bool)->(Y_)->World->Prop)
  (az5:∀L L' u u' W,(∀i∈ss,L i=L' i/\u i=u' i)->I L u W->I L' u' W) (l l':List Oper) (hl:rP ops rs=l) (hl':ops.toList.drop c=l')
  (h:wpListIn F n P ops (fun e a1 _=>e=.normal/\pE F n P ops Q a w c rs ss l l' I a1) l a w.drew):(Code.region id ops true).wpIn F n P Q a w:=by
 subst hl hl';have M:=RF.out F3;obtain⟨a1,hA,BH,hE,hS,hR⟩:=Ro hF2 (C:=pE F n P ops Q a w c rs ss (rP ops rs) (ops.toList.drop c) I) _ _ _ h;have sK:a1.tmps.size=N:=by rw[hA,Lf];exact hN
 have lZ:∀i∈rs,∀d,Jn ops i=some d->a1.tmps[d]?=some (Rs ops a1 i):=fun i hi d hd=>by
  have:=Lr M rs (Rs ops a1) a (fun x hx=>M.rl x hx) hN i hi d hd
  rw[<-hA]at this
  exact this
 have zk:∀s,(∀i∈rs,Jn ops i≠some s)->a1.tmps[s]?=a.tmps[s]?:=fun s hs=>by
  have:=Dt rs (Rs ops a1) a s hs
  rw[<-hA]at this
  exact this
 have a1D:a1.defers=a.defers:=by rw[hA,IE]
 have nr:∀j∈ss,j ∉ rs:=fun j hj hjr=>by
  rcases M.one j (M.sl j hj)with⟨_,h2⟩|⟨h1,_⟩
  ·exact h2 hj
  ·exact h1 hjr
 let I':(Nat->Bool)->(Y_)->World->Prop:=fun L u W=>(∀i∈rs,L i=true->u i=Rs ops a1 i)/\I L u W
 have e0:EC ops c a (fun i=>Rs ops a i)=a:=by
  refine Lu (fun s=>?_) rfl
  by_cases hs:∃j,j<c/\Jn ops j=some s
  ·obtain⟨j,hj,Jm⟩:=hs;obtain⟨d',Ih,Mh⟩:=M.dst j hj;have Zk:s<N:=(by rw[Jm]at Ih;cases Ih;exact Mh);rw[JK M hN _ hj Jm Zk];unfold Rs;rw[Jm];simp only[Option.getD_some];rw[Array.getElem?_eq_getElem (by omega)]
   rfl
  ·exact E9 _ _ fun j hj he=>hs ⟨j,hj,he⟩
 have AO:∀i,i<c->∀L u W,I' L u W->L i=false->(∀j∈QD ops i,L j=true)->wpOpIn F n P ops Q i (fun a' W'=>∃v,a'=EC ops c a (Ii u i v)/\I' (JE L i) (Ii u i v) W') (EC ops c a u) W:=by
  intro i hi L u W ⟨hIr,hI⟩ Nf Q4
  by_cases hr:i∈rs
  ·have I6:∀s,(∀j,j<c->Jn ops j=some s->j∈QD ops i)->a1.tmps[s]?=(EC ops c a u).tmps[s]?:=fun s hs=>by
    by_cases hx:∃j,j<c/\Jn ops j=some s
    ·obtain⟨j,hj,Jm⟩:=hx;obtain⟨d',Ih,Mh⟩:=M.dst j hj;have Zk:s<N:=(by rw[Jm]at Ih;cases Ih;exact Mh);have hja:=hs j hj Jm;have hjr:=M.rr i hr j hja;rw[JK M hN _ hj Jm Zk,lZ j hjr s Jm,hIr j hjr (Q4 j hja)]
    ·rw[E9 _ _ fun j hj he=>hx ⟨j,hj,he⟩,zk s fun j hj he=>hx ⟨j,M.rl j hj,he⟩]
   have ho:∃o,ops[i]?=some o:=⟨_,Array.getElem?_eq_getElem (by have:=M.cl;omega)⟩;obtain⟨o,ho⟩:=ho;obtain⟨d,hd,hdN⟩:=M.dst i hi;have hdo:o.dst=some d:=(by unfold Jn at hd;rw[ho]at hd;exact hd);have hx:=PD rs (hE L u W hI) i hr o ho;have same:∀v,a1.put (some d) v=a1->v=Rs ops a1 i:=fun v e=>by
    have h1:=congrArg (fun x:Act=>x.tmps[d]?) e
    simp only[Mo,if_true,if_pos (show d<a1.tmps.size by omega)]at h1
    rw[lZ i hr d hd]at h1
    exact Option.some.inj h1
   have self:a1.put (some d) (Rs ops a1 i)=a1:=Lu (fun s=>by
    rw[Mo]
    by_cases e:s=d
    ·subst e;rw[if_pos rfl,if_pos (by omega),lZ i hr s hd]
    ·rw[if_neg e]) (put_defers _ _ _)
   have hw:wpOpIn F n P ops (fun _ _ _=>False) i (fun b W'=>∃v,b=a1.put (Jn ops i) v/\(v=Rs ops a1 i/\W'=W)) a1 W:=by
    unfold wpOpIn
    rw[ho,hd]
    simp only
    split
    ·rename_i hw;rw[if_pos hw]at hx;exact Oper.wpIn_mono (fun b W' ⟨e1,e2⟩=>⟨Rs ops a1 i,by rw[self];exact e1,rfl,e2⟩) hx
    ·rename_i hw;rw[if_neg hw]at hx;refine⟨hx.1,undef,by rw[hdo],?_⟩;rw[hdo]at hx;exact⟨same _ hx.2,trivial⟩
   refine Gu (fun b W'=>?_) (Nz M hF hi sK I6 hw (Q:=Q));rintro⟨v,rfl,rfl,rfl⟩;refine⟨_,Rm M hN u hi _,fun j hj Uv=>?_,az5 _ _ _ _ _ (fun j hj=>?_) hI⟩
   ·unfold Ii;by_cases e:j=i
    ·rw[if_pos e,e]
    ·rw[if_neg e];unfold JE at Uv;rw[if_neg e]at Uv;exact hIr j hj Uv
   ·have e:j≠i:=fun e=>nr j hj (e ▸ hr)
    unfold Ii JE;rw[if_neg e,if_neg e];exact⟨rfl,rfl⟩
  ·have his:i∈ss:=by
    rcases M.one i hi with⟨h1,_⟩|⟨_,h2⟩
    ·exact absurd h1 hr
    ·exact h2
   have hx:=hS i his L u W hI Nf fun j _ hja=>Q4 j hja
   have I6:∀s,(∀j,j<c->Jn ops j=some s->j∈QD ops i)->(C9 ops ss u a1).tmps[s]?=(EC ops c a u).tmps[s]?:=fun s hs=>by
    by_cases hx:∃j,j<c/\Jn ops j=some s
    ·obtain⟨j,hj,Jm⟩:=hx;obtain⟨d',Ih,Mh⟩:=M.dst j hj;have Zk:s<N:=(by rw[Jm]at Ih;cases Ih;exact Mh);rw[JK M hN _ hj Jm Zk];rcases M.one j hj with⟨h1,h2⟩|⟨h1,h2⟩
     ·rw[Dt ss u a1 s,lZ j h1 s Jm,hIr j h1 (Q4 j (hs j hj Jm))];intro x hx he;exact M.ne x j (M.sl x hx) hj (fun e=>h2 (e ▸ hx)) (he.trans Jm.symm)
     ·exact Lr M ss u a1 (fun x hx=>M.sl x hx) sK j h2 s Jm
    ·rw[E9 _ _ fun j hj he=>hx ⟨j,hj,he⟩,Dt ss u a1 s fun j hj he=>hx ⟨j,M.sl j hj,he⟩,zk s fun j hj he=>hx ⟨j,M.rl j hj,he⟩]
   refine Gu (fun b W'=>?_) (Nz M hF hi (by rw[Lf];exact sK) I6 hx (Q:=Q));rintro⟨v,rfl,G9⟩;refine⟨_,Rm M hN u hi _,fun j hj Uv=>?_,G9⟩;have e:j≠i:=fun e=>hr (e ▸ hj)
   unfold Ii;rw[if_neg e];unfold JE at Uv;rw[if_neg e]at Uv;exact hIr j hj Uv
 have hrest:∀L u W,I' L u W->(∀i,i<c->L i=true)->wpListIn F n P ops Q (ops.toList.drop c) (EC ops c a u) W:=by
  intro L u W ⟨hIr,hI⟩ hL
  have e:EC ops c a u=C9 ops ss u a1:=by
   refine Lu (fun s=>?_) (by rw[IE];exact a1D.symm)
   by_cases hx:∃j,j<c/\Jn ops j=some s
   ·obtain⟨j,hj,Jm⟩:=hx;obtain⟨d',Ih,Mh⟩:=M.dst j hj;have Zk:s<N:=(by rw[Jm]at Ih;cases Ih;exact Mh);rw[JK M hN _ hj Jm Zk];rcases M.one j hj with⟨h1,h2⟩|⟨h1,h2⟩
    ·rw[Dt ss u a1 s,lZ j h1 s Jm,hIr j h1 (hL j hj)];intro x hx he;exact M.ne x j (M.sl x hx) hj (fun e=>h2 (e ▸ hx)) (he.trans Jm.symm)
    ·exact(Lr M ss u a1 (fun x hx=>M.sl x hx) sK j h2 s Jm).symm
   ·rw[E9 _ _ fun j hj he=>hx ⟨j,hj,he⟩,Dt ss u a1 s fun j hj he=>hx ⟨j,M.sl j hj,he⟩,zk s fun j hj he=>hx ⟨j,M.rl j hj,he⟩]
  rw[e];exact hR L u W hI fun j hj=>hL j (M.sl j hj)
 have go:=XY (F:=F) (n:=n) (P:=P) (Q:=Q) M.free M.cl (EC ops c a) I' AO hrest ops.size (Array.replicate ops.size false) (fun i=>Rs ops a i) w.drew (by simp) (by simp[List.count_replicate]) (fun i hi=>by simp[Array.getD]at hi) (fun j _=>by simp[Array.getD]) ⟨fun i _ hi=>by simp[Array.getD]at hi,by
  have:(fun j=>(Array.replicate ops.size false).getD j false)=fun _=>false:=funext fun j=>by simp[Array.getD]
  rw[this];exact BH _⟩;rw[e0]at go;exact wpIn_region_any hm go
end
theorem Dz {w:World} {rb:Nat} {x y f:Value} (h:w.heap[rb]?=some (.cells #[x,y,f] 206 (0,0))):w.cell? (S_ rb)=some x/\w.cell? (T_ rb 1)=some y/\w.cell? (T_ rb 2)=some f:=by
 refine⟨?_,?_,?_⟩<;>rw[Ag h]<;>rfl
theorem FU (w:World):Ab No w (w.alloc V_)/\(w.alloc V_).heap[w.heap.size]?=some (.cells #[.int .u16 0,.int .u16 0,.nilFunc] 206 (0,0))/\w.heap.size<(w.alloc V_).heap.size:=by
 have rb:(w.alloc V_).heap[w.heap.size]?=some (.cells #[.int .u16 0,.int .u16 0,.nilFunc] 206 (0,0)):=heap_alloc_new rfl;exact⟨(Ab.refl _ _).alloc _,rb,Co rb⟩
theorem FE {α:Type} {xs:Array α} {i j:Nat} {a:α} (h:i≠j):(xs.setIfInBounds i a)[j]?=xs[j]?:=Array.getElem?_setIfInBounds_ne h
theorem KH {α:Type} {l:List α} {i:Nat} {a:α}:l[i]?=some a↔∃h:i<l.length,l[i]=a:=List.getElem?_eq_some_iff
theorem HZ {α:Type} {l:List α} {i:Nat} (h:i<l.length):l[i]?=some l[i]:=List.getElem?_eq_getElem h
theorem bce {w:World} {k j:Nat} {cs:X_} {t:TypeId} {z:Nat×Nat} {v:Value} (h:w.heap[k]?=some (.cells cs t z)) (hv:cs[j]?=some v):w.cell? (T_ k j)=some v:=(Ag h j).trans hv
end Go.Fxa
theorem Go.TR {P:Go.Program} {fn:Go.Func} {R:Go.Ending->Go.World->Prop} {a:Go.Act} {w:Go.World} (x y:Int) (h:(Go.results fn a.tmps).run P w=.ok (.agg #[.int .u16 x,.int .u16 y,.nilFunc]) w) (d:a.defers=[]) (r:R (.returned (.agg #[.int .u16 x,.int .u16 y,.nilFunc])) w):Go.bodyPost P fn R .ret a w:=⟨d,_,h,r⟩
