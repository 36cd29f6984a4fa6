/- Rows of numbers -/
import Derived.Test.YtmhplpfpcnjekaaGreatA11
import Derived.Handy
import Derived.BigRegionIn
import Derived.Outline
import Derived.OwnWalkIn
import Derived.LoopNIn
namespace Go.Fxa
open Go.Conc Go.Proofs Go.RowKit
set_option maxRecDepth 1000000
set_option maxHeartbeats 0
variable {i j d c:Nat}{v x:n_}{K:Act->o_->Prop}{a:Act}{w:o_}{Φ:n_->o_->Prop}{ks:X_}{α:Type}
def Row (k:IntKind)(w:o_)(b n:Nat)(f:Nat->Int):Prop:=
 ∃cs T,w.heap[b]?=some (N_ cs T)/\cs.size=n/\∀i,i<n->cs[i]?=some (.int k (f i))
section
variable {k:IntKind}{w w':o_}{b n:Nat}{f g:Nat->Int}
theorem Row.cell (h:Row k w b n f)(hi:i<n):w.cell? (S_ b i)=some (.int k (f i)):=by
 obtain⟨d,T,a,_,c⟩:=h;rw[Ai a];exact c i hi
theorem Row.fz (h:Row k w b n f)(i:Nat):w.frozen? (S_ b i)=false:=by
 obtain⟨c,T,a,_,_⟩:=h;exact Cf a i
def upd (f:Nat->Int)(i:Nat)(x:Int):Nat->Int:=λj=>if j=i then x else f j
theorem SlI.keep (h:SlI w v n f)(l:Aa No w w'):SlI w' v n f:=by
 obtain⟨a,s,c,d,e⟩:=h;refine⟨a,s,c,d,λk=>?_⟩;obtain⟨b,o,g,j⟩:=e k;exact⟨b,o,g,λi hi=>l.has (j i hi)⟩
end
def WG (ops:Array Oper)(i:Nat):List Nat:=match ops[i]? with
 |none=>[]
 |some o=>(o.after.toList.filter (Region.binds .any)).map (·.on)
def reach (ops:Array Oper):Nat->List Nat->List Nat
 |0,R=>R
 |j+1,R=>reach ops j (if R.contains j then WG ops j++R else R)
def OY (ops:Array Oper)(k:Nat):Bool:=
 ((List.range ops.size).all λi=>(WG ops i).all λj=>decide (j<i)) && (List.range ops.size).all λi=>decide (i<k) || (List.range i).all λj=>(reach ops i (WG ops i)).contains j
section
variable {ops:Array Oper}{l:Array Bool}{k:Nat}
def Yz (ops:Array Oper)(l:Array Bool):Prop:=∀i,l.getD i false=true->∀j∈WG ops i,l.getD j false=true
theorem mem_ready:i∈Region.ready .any ops l ↔ i<ops.size/\l.getD i true=false/\∀j∈WG ops i,l.getD j false=true:=by
 unfold Region.ready;rw[List.mem_filter,List.mem_range];refine and_congr_right λhi=>?_
 rw[Bool.and_eq_true,Bool.not_eq_true'];refine and_congr_right λ_=>?_
 have e:ops[i]?=some ops[i]:=v_ hi;unfold WG;rw[e];simp only[Option.map_some,Option.getD_some,Array.all_eq_true',List.mem_map,List.mem_filter,Array.mem_toList_iff,Bool.or_eq_true,Bool.not_eq_true'];constructor
 .rintro h j ⟨a,⟨c,hb⟩,rfl⟩;obtain b | b:=h a c
  .rw[b]at hb;cases hb
  .exact b
 .intro h a c;cases hb:Region.binds .any a with
  |false=>exact .inl rfl
  |true=>exact .inr (h _ ⟨a,⟨c,hb⟩,rfl⟩)
theorem Qo (e:Yz ops l):∀(j:Nat)(R:List Nat),(∀x∈R,l.getD x false=true)->∀x∈reach ops j R,l.getD x false=true
 |0,R,h=>h
 |j+1,R,h=>by
  unfold reach
  split
  .rename_i b;refine Qo e j _ λx a=>?_
   obtain a|a:=eF.1 a
   .exact e j (h j (by simpa using b)) x a
   .exact h x a
  .exact Qo e j R h
theorem MI (h:OY ops k=true)(b:j∈WG ops i):j<i:=by
 unfold OY at h;rw[Bool.and_eq_true,List.all_eq_true]at h;have hi:i<ops.size:=by
  by_cases hi:i<ops.size
  .exact hi
  .unfold WG at b;rw[Array.getElem?_eq_none wB]at b;cases b
 have:=h.1 i (List.mem_range.2 hi);rw[List.all_eq_true]at this;simpa using this j b
theorem Zd (h:OY ops k=true)(e:Yz ops l)(hi:i<ops.size)(g:k<=i)(f:∀j∈WG ops i,l.getD j false=true):∀j,j<i->l.getD j false=true:=by
 unfold OY at h;rw[Bool.and_eq_true,List.all_eq_true,List.all_eq_true]at h;have:=h.2 i (List.mem_range.2 hi);rw[Bool.or_eq_true,List.all_eq_true]at this;obtain a | a:=this
 .have:=of_decide_eq_true a;omega
 .intro j b;exact Qo e i _ f j (by simpa using a j (List.mem_range.2 b))
theorem PD {b:Bool}(hi:i<l.size):(l.setIfInBounds i true).getD j b=if j=i then true else l.getD j b:=by
 simp only[ed,Array.getElem?_setIfInBounds];by_cases e:i=j
 .subst e;simp[hi]
 .simp[e,gJ e]
theorem fP (h:Yz ops l)(hi:i<l.size)(f:∀j∈WG ops i,l.getD j false=true):Yz ops (l.setIfInBounds i true):=by
 intro x a j b;rw[PD hi]at a ⊢;by_cases e:j=i
 .rw[rW e]
 .rw[ru e];by_cases e2:x=i
  .subst e2;exact f j b
  .rw[ru e2]at a;exact h x a j b
end
section
variable {F:Fence}{n:Nat}{P:l_}{ops:Array Oper}{Q:Exit->Act->o_->Prop}{k:Nat}{S:Nat->Prop}
theorem WA (z:OY ops k=true):∀(y m:Nat)(l:Array Bool)(a:Act)(w:o_),k<=m->m+y=ops.size->l.size=ops.size->(∀j,l.getD j false=decide (j<m))->
  wpListIn F n P ops Q (ops.toList.drop m) a w->wpAnyIn F n P .any ops Q y l a w
 |0,m,l,a,w,u,t,q,b,h=>by
  have d:ops.toList.drop m=[]:=List.drop_eq_nil_of_le (by simp;omega)
  rw[d]at h
  refine wpAnyIn_done ?_ h 0
  refine List.eq_nil_iff_forall_not_mem.2 λi hi=>?_
  obtain⟨f,c,_⟩:=mem_ready.1 hi
  have:=b i
  rw[ed,v_ wB]at this c
  simp only[Option.getD_some]at this c
  rw[c]at this
  have:=of_decide_eq_false this.symm
  omega
 |y+1,m,l,a,w,u,t,q,b,h=>by
  have d:m<ops.size:=wB
  have e:ops.toList.drop m=ops[m]::ops.toList.drop (m+1):=by
   rw[List.drop_eq_getElem_cons (by simpa using d)]
   simp
  have x:Yz ops l:=λi hi j o=>by
   rw[b]at hi ⊢
   have:=of_decide_eq_true hi
   have:=MI z o
   exact decide_eq_true wB
  have gt:∀i,i<ops.size->l.getD i true=l.getD i false:=λi hi=>by
   rw[ed,ed,v_ wB];rfl
  refine⟨λv=>?_,λi hi=>?_⟩
  .exfalso;have:m∈Region.ready .any ops l:=mem_ready.2 ⟨d,by rw[gt m d,b];exact decide_eq_false wB,λj o=>by rw[b];exact decide_eq_true (MI z o)⟩;rw[v]at this;cases this
  .obtain⟨f,c,s⟩:=mem_ready.1 hi;rw[gt i f,b]at c;have c:=of_decide_eq_false c;have r:=Zd z x f wB s;have g:i=m:=by
    by_cases e:i=m
    .exact e
    .have:=r m wB;rw[b]at this;have:=of_decide_eq_true this;omega
   subst g;rw[e]at h;unfold wpOpIn;rw[v_ d];simp only;have go:∀a w,wpListIn F n P ops Q (ops.toList.drop (i+1)) a w->wpAnyIn F n P .any ops Q y (l.setIfInBounds i true) a w:=λa w h=>
    WA z y (i+1) _ a w wB wB (by simp[q]) (λj=>by rw[PD wB,b];by_cases e:j=i<;>simp[e];omega) h
   unfold wpListIn at h;split at h
   .rename_i p;rw[rW p];exact Oper.wpIn_mono go h
   .rename_i p;rw[ru p];exact⟨h.1,go _ _ h.2⟩
def Kw (u:Y_)(i:Nat)(v:n_):Nat->n_:=λj=>if j=i then v else u j
theorem Ji {K':Act->o_->Prop}(h:∀a w,K a w->K' a w)(f:wpOpIn F n P ops Q i K a w):wpOpIn F n P ops Q i K' a w:=by
 unfold wpOpIn at f ⊢;split
 .rename_i e;rw[e]at f;exact h _ _ f
 .rename_i o e;rw[e]at f;simp only at f;split
  .rename_i b;rw[rW b]at f;exact Oper.wpIn_mono h f
  .rename_i b;rw[ru b]at f;exact⟨f.1,h _ _ f.2⟩
theorem ou (L:OY ops k=true)(M:k<ops.size)(A:(Y_)->Act)(Φ:Nat->n_->o_->Prop)(w:o_)(H:∀i,i<k->∀v W J,Φ i v W->Aa S W J->Φ i v J)
  (N:∀i,i<k->∀u W,Aa S w W->(∀j∈WG ops i,Φ j (u j) W)->wpOpIn F n P ops Q i (λO J=>∃v,O=A (Kw u i v)/\Aa S W J/\Φ i v J) (A u) W)
  (I:∀u W,Aa S w W->(∀i,i<k->Φ i (u i) W)->wpListIn F n P ops Q (ops.toList.drop k) (A u) W):
  ∀(G:Nat)(l:Array Bool)(u:Y_)(W:o_),l.size=ops.size->l.toList.count true+G=ops.size->Yz ops l->(∀j,k<=j->l.getD j false=false)->Aa S w W->(∀i,i<k->l.getD i false=true->Φ i (u i) W)->
  wpAnyIn F n P .any ops Q G l (A u) W
 |0,l,u,W,o,C,t,m,g,c=>by
  exfalso
  have:∀x∈l.toList,true=x:=by
   apply List.count_eq_length.1
   rw[Array.length_toList]
   omega
  have r:=m k w_
  rw[ed,v_ wB]at r
  have:=this l[k] sJ
  simp only[Option.getD_some]at r
  rw[r]at this
  cases this
 |G+1,l,u,W,o,C,t,m,g,c=>by
  have gt:∀i,i<ops.size->l.getD i true=l.getD i false:=λi hi=>by
   rw[ed,ed,v_ wB];rfl
  by_cases h:∀j,j<k->l.getD j false=true
  .have f:∀j,l.getD j false=decide (j<k):=λj=>by
    by_cases e:j<k
    .rw[h j e];simp[e]
    .rw[m j wB];simp[e]
   have y:l.toList.count true=k:=by
    have e:l.toList=List.replicate k true++List.replicate (ops.size-k) false:=by
     refine List.ext_getElem? λi=>?_
     by_cases hi:i<ops.size
     .have:=f i;rw[ed,v_ wB]at this;simp only[Option.getD_some]at this;rw[List.getElem?_append];simp only[List.length_replicate,List.getElem?_replicate];rw[show l.toList[i]?=some l[i] by simp[o,hi],this];by_cases a:i<k
      .simp[a]
      .simp[a];omega
     .rw[List.getElem?_eq_none (by simp;omega),List.getElem?_eq_none (by simp;omega)]
    rw[e];simp[List.count_append,List.count_replicate]
   exact WA L (G+1) k l (A u) W w_ wB o f (I u W g λi hi=>c i hi (h i hi))
  .refine⟨λD=>?_,λi hi=>?_⟩
   .exfalso;apply h;intro j
    induction j using Nat.strongRecOn with
    |_ j E=>
     intro b
     cases s:l.getD j false with
     |true=>rfl
     |false=>
      have:j∈Region.ready .any ops l:=mem_ready.2 ⟨wB,by rw[gt j wB];exact s,λx p=>E x (MI L p) (by have:=MI L p;omega)⟩
      rw[D]at this
      cases this
   .obtain⟨z,B,q⟩:=mem_ready.1 hi;by_cases a:i<k
    .have p:=N i a u W g λj b=>c j (by have:=MI L b;omega) (q j b)
     refine Ji (λO J=>?_) p;rintro⟨v,rfl,d,s⟩;refine ou L M A Φ w H N I G _ _ J (by simp[o]) (by rw[count_set B];omega) (fP t wB q) (λj b=>?_) (g.then d) λj b f=>?_
     .rw[PD wB,ru wB];exact m j b
     .unfold Kw;by_cases e:j=i
      .rw[rW e];subst e;exact s
      .rw[ru e];rw[PD wB,ru e]at f;exact H j b _ _ _ (c j b f) d
    .exfalso;exact h λj b=>Zd L t z wB q j wB
theorem pW (id:Nat)(o:P.follows .mixedOrders=true)(k:Nat)(l:OY ops k=true)(g:k<ops.size)(A:(Y_)->Act)(u0:Y_)(Φ:Nat->n_->o_->Prop)(w:o_)(b:∀i,i<k->∀v W f,Φ i v W->Aa S W f->Φ i v f)
  (h:∀i,i<k->∀u W,Aa S w.drew W->(∀j∈WG ops i,Φ j (u j) W)->wpOpIn F n P ops Q i (λm f=>∃v,m=A (Kw u i v)/\Aa S W f/\Φ i v f) (A u) W)
  (e:∀u W,Aa S w.drew W->(∀i,i<k->Φ i (u i) W)->wpListIn F n P ops Q (ops.toList.drop k) (A u) W):(Code.region id ops true).wpIn F n P Q (A u0) w:=
 wpIn_region_any o (ou l g A Φ w.drew b h e ops.size _ u0 _ sJ (by simp[List.count_replicate]) (λi hi=>by simp[Array.getD]at hi) (λj _=>by simp[Array.getD]) (Aa.refl _ _) λi _ hi=>by simp[Array.getD]at hi)
end
def Na (ops:Array Oper)(i:Nat):d_ Nat:=(ops[i]?).bind (·.dst)
def yM (ops:Array Oper):List Nat->List Oper
 |[]=>[]
 |i::is=>match ops[i]? with
  |some o=>o::yM ops is
  |none=>yM ops is
def ag9 (ops:Array Oper)(c:Nat)(i:Nat)(o:Oper):Bool:=
 (o.op.operands.toList.all λx=>match x with
  |.tmp s=>(List.range c).all λj=>!(Na ops j==some s) || (WG ops i).contains j
  |_=>true) && (match o.guard with
  |none=>true
  |some (j,_)=>(WG ops i).contains j)
def WL (ops:Array Oper)(c N:Nat)(rs ss:List Nat):Bool:=
 OY ops c && decide (c<ops.size) && ((List.range c).all λi=>rs.contains i !=ss.contains i) && rs.all (·<c) && ss.all (·<c) &&
 ((List.range c).all λi=>match ops[i]? with
  |none=>false
  |some o=>ag9 ops c i o && (match o.dst with|some d=>decide (d<N)|none=>false) && (match o.op with | .select _ _=>false | .defer _=>false|_=>true)) &&
 ((List.range c).all λi=>(List.range c).all λj=>i==j || !(Na ops i==Na ops j)) &&
 (rs.all λi=>(WG ops i).all λj=>rs.contains j)
def TU (F:Fence)(n:Nat)(P:l_)(ops:Array Oper)(a:Act)(W:o_):List Oper->Prop
 |[]=>True
 |o::os=>(if Region.wanted o (yielded ops a.tmps)then o.wpIn F n P a W (λa' W'=>a'=a/\W'=W) (λ_ _ _=>False)else(∀f,o.about P W a.eval=some f->F.fn f)/\a.put o.dst undef=a)/\TU F n P ops a W os
def LC (ops:Array Oper):List Nat->(Y_)->Act->Act
 |[],_,a=>a
 |i::is,u,a=>LC ops is u (a.put (Na ops i) (u i))
def Gh (ops:Array Oper)(c:Nat)(a:Act)(u:Y_):Act:=
 ⟨Array.ofFn (n:=a.tmps.size) λs=>match (List.range c).find? (λi=>Na ops i==some s.1)with|some i=>u i|none=>a.tmps[s.1],a.defers⟩
section
variable {ops:Array Oper}{c N:Nat}{rs ss:List Nat}
structure mZ (ops:Array Oper)(c N:Nat)(rs ss:List Nat):Prop where
 free:OY ops c=true
 cl:c<ops.size
 one:∀i,i<c->(i∈rs/\i ∉ ss)\/(i ∉ rs/\i∈ss)
 rl:∀i∈rs,i<c
 sl:∀i∈ss,i<c
 dep:∀i o,i<c->ops[i]?=some o->ag9 ops c i o=true
 dst:∀i,i<c->∃d,Na ops i=some d/\d<N
 yM:∀i o,i<c->ops[i]?=some o->(∀cs b,o.op≠.select cs b)/\∀cl,o.op≠.defer cl
 ne:∀i j,i<c->j<c->i≠j->Na ops i≠Na ops j
 rr:∀i∈rs,∀j∈WG ops i,j∈rs
theorem WL.out (h:WL ops c N rs ss=true):mZ ops c N rs ss:=by
 unfold WL at h;simp only[Bool.and_eq_true,List.all_eq_true,List.mem_range,decide_eq_true_eq]at h;obtain⟨⟨⟨⟨⟨⟨⟨l,m⟩,n⟩,p⟩,q⟩,a⟩,r⟩,s⟩:=h;refine⟨l,m,λi hi=>?_,λi hi=>by simpa using p i hi,λi hi=>by simpa using q i hi,λi o hi k=>?_,λi hi=>?_,λi o hi k=>?_,λi j hi g f=>?_,λi hi j g=>by simpa using s i hi j g⟩
 .have:=n i hi;by_cases u:i∈rs<;>by_cases v:i∈ss<;>simp[u,v]at this ⊢
 .have:=a i hi;rw[k]at this;simp only[Bool.and_eq_true]at this;exact this.1.1
 .have:=a i hi;have e:ops[i]?=some (ops[i]'wB):=v_ wB;rw[e]at this;simp only[Bool.and_eq_true]at this;have:=this.1.2;unfold Na;rw[e];simp only[Option.bind_some];split at this
  .rename_i d t;exact⟨d,t,by simpa using this⟩
  .cases this
 .have:=a i hi;rw[k]at this;simp only[Bool.and_eq_true]at this;have:=this.2;refine⟨λx b e=>?_,λw e=>?_⟩<;>(rw[e]at this;cases this)
 .have:=r i hi j g;simp[f]at this;exact this
theorem aq3 (a:Act)(u:Y_):(Gh ops c a u).tmps.size=a.tmps.size:=by simp[Gh]
theorem NJ (M:mZ ops c N rs ss)(hN:a.tmps.size=N)(u:Y_)(hi:i<c)(f:Na ops i=some d)(e:d<N):(Gh ops c a u).tmps[d]?=some (u i):=by
 unfold Gh;simp only[Array.getElem?_ofFn,hN,e];have:(List.range c).find? (λj=>Na ops j==some d)=some i:=by
  refine List.find?_eq_some_iff_getElem.2 ⟨by simp[f],i,by simpa using hi,sJ,λj b=>?_⟩
  have:=M.ne j i wB hi wB
  rw[f]at this
  simpa using this
 simp[this]
theorem GN (a:Act)(u:Y_){s:Nat}(h:∀i,i<c->Na ops i≠some s):(Gh ops c a u).tmps[s]?=a.tmps[s]?:=by
 unfold Gh;by_cases b:s<a.tmps.size
 .simp only[Array.getElem?_ofFn,b];have:(List.range c).find? (λj=>Na ops j==some s)=none:=by
   refine List.find?_eq_none.2 λj d=>?_
   simpa using h j (by simpa using d)
  simp[this]
 .rw[Array.getElem?_eq_none (by simpa using b),Array.getElem?_eq_none (by simpa using b)]
theorem Qb {b:Act}(h:∀s:Nat,a.tmps[s]?=b.tmps[s]?)(g:a.defers=b.defers):a=b:=by
 obtain⟨e,c⟩:=a;obtain⟨f,d⟩:=b;simp only at h g;rw[g,Array.ext_getElem? (λi=>h i)]
theorem QK (a:Act)(d:Nat)(v:n_)(s:Nat):(a.put (some d) v).tmps[s]?=if s=d then(if d<a.tmps.size then some v else none)else a.tmps[s]?:=by
 simp only[Act.put,Array.getElem?_setIfInBounds];by_cases e:d=s
 .subst e;simp
 .simp[e,gJ e]
theorem Ye (M:mZ ops c N rs ss)(hN:a.tmps.size=N)(u:Y_)(hi:i<c)(v:n_):(Gh ops c a u).put (Na ops i) v=Gh ops c a (Kw u i v):=by
 obtain⟨d,g,h⟩:=M.dst i hi;rw[g];refine Qb (λs=>?_) rfl;rw[QK];by_cases e:s=d
 .subst e;rw[rW rfl,aq3,rW wB,NJ M hN _ hi g h];simp[Kw]
 .rw[ru e];by_cases m:∃j,j<c/\Na ops j=some s
  .obtain⟨j,b,f⟩:=m;obtain⟨p,l,n⟩:=M.dst j b;have:s<N:=(by rw[f]at l;cases l;exact n);rw[NJ M hN _ b f this,NJ M hN _ b f this];have:j≠i:=λe2=>by subst e2;rw[f]at g;cases g;exact e rfl
   simp[Kw,this]
  .have k:∀j,j<c->Na ops j≠some s:=λj b o=>m ⟨j,b,o⟩
   rw[GN _ _ k,GN _ _ k]
end
section
variable {F:Fence}{n:Nat}{P:l_}{ops:Array Oper}{o:Oper}{a a':Act}{W:o_}
theorem zT {v':n_}(b:d<a.tmps.size)(h:a.put (some d) v=a.put (some d) v'):v=v':=by
 have:=congrArg (λx:Act=>x.tmps[d]?) h;simp only[QK,rW b,if_true]at this;exact x_ this
theorem bf5 (G:F.round=none)(H:(∀cs b,o.op≠.select cs b)/\∀E,o.op≠.defer E)(C:o.dst=some d)(B:d<a.tmps.size)(D:∀x∈o.op.operands,a.eval x=a'.eval x)
  (h:o.wpIn F n P a W (λb A=>∃v,b=a.put (some d) v/\Φ v A) (λ_ _ _=>False)) {Q:Exit->Act->o_->Prop}:o.wpIn F n P a' W (λb A=>∃v,b=a'.put (some d) v/\Φ v A) Q:=by
 obtain⟨w,g⟩:=h;refine⟨λf m=>w f (by rw[about_congr o W D];exact m),?_⟩;rw[G,Oper.semAt_none]at g ⊢;rw[<-execOp_congr o H.1 D]
 revert g
 generalize (execOp a.eval o).run P W=r;intro g;have key:∀v A,(∃j,a.put o.dst v=a.put (some d) j/\Φ j A)->∃j,a'.put o.dst v=a'.put (some d) j/\Φ j A:=by
  rintro v A ⟨j,e,s⟩
  rw[C]at e ⊢
  have:=zT B e
  subst this
  exact⟨_,rfl,s⟩
 match r,g with
 |.ok (.value v) k,g=>exact key _ _ g
 |.ok .skip k,g=>exact key _ _ g
 |.ok (.defer z) k,g=>
  exfalso
  obtain⟨v,e,_⟩:=g
  have:=congrArg Act.defers e
  rw[C]at this
  simp[Act.put]at this
 |.ok (.enter f args) k,g=>
  refine⟨g.1,g.2.mono λe p i=>?_⟩
  match e,i with
  |.returned v,i=>exact key _ _ i
  |.panicked u,i=>exact i.elim
  |.outgrown,i=>exact i.elim λ_ q=>q.elim λ_ m=>m.elim
 |.ok (.row row args) k,g=>exact⟨g.1,λc cs y=>let ⟨v,p,hR,hS⟩:=g.2 c cs y;⟨v,p,key _ _ hR,hS⟩⟩
 |.ok (.round l f tmps assign t) k,g=>
  refine⟨g.1,g.2.mono λe p i=>?_⟩
  match e,i with
  |.returned v,i=>exact key _ _ i
  |.panicked u,i=>exact i.elim
  |.outgrown,i=>exact i.elim λ_ q=>q.elim λ_ m=>m.elim
 |.halt (.panic v) k,g=>exact g.elim
theorem jO {f e:X_}(h:∀j b,o.guard=some (j,b)->yielded ops f j=yielded ops e j):Region.wanted o (yielded ops f)=Region.wanted o (yielded ops e):=by
 unfold Region.wanted;split
 .rfl
 .rename_i j b a;rw[h j b a]
theorem oD (a:Act)(s:Nat):a.eval (.tmp s)=(a.tmps[s]?).getD undef:=by
 show a.tmps.getD s undef=_;rw[ed]
theorem RZ {N:Nat}{R S:List Nat}(M:mZ ops c N R S)(O:F.round=none)(hi:i<c)(hN:a.tmps.size=N)
  (L:∀s,(∀j,j<c->Na ops j=some s->j∈WG ops i)->a.tmps[s]?=a'.tmps[s]?)
  (h:wpOpIn F n P ops (λ_ _ _=>False) i (λb J=>∃v,b=a.put (Na ops i) v/\Φ v J) a W) {Q:Exit->Act->o_->Prop}:wpOpIn F n P ops Q i (λb J=>∃v,b=a'.put (Na ops i) v/\Φ v J) a' W:=by
 obtain⟨d,t,D⟩:=M.dst i hi;have l:∃o,ops[i]?=some o:=⟨_,v_ (by have:=M.cl;omega)⟩;obtain⟨o,l⟩:=l;have m:o.dst=some d:=by unfold Na at t;rw[l]at t;exact t
 have r:=M.dep i o hi l;unfold ag9 at r;rw[Bool.and_eq_true,List.all_eq_true]at r;have p:∀x∈o.op.operands,a.eval x=a'.eval x:=λx I=>by
  have:=r.1 x (by simpa using I)
  cases x with
  |tmp s=>
   simp only[List.all_eq_true,List.mem_range,Bool.or_eq_true,Bool.not_eq_true',beq_eq_false_iff_ne]at this
   rw[oD,oD,L s λj q w=>by obtain h|h:=this j q;exact qx w h;simpa using h]
  |const v=>rfl
  |global g=>rfl
  |func g=>rfl
 have H:Region.wanted o (yielded ops a.tmps)=Region.wanted o (yielded ops a'.tmps):=jO λj b G=>by
  have A:=r.2
  rw[G]at A
  have q:j∈WG ops i:=by simpa using A
  unfold yielded
  show(match (Na ops j).bind (a.tmps[·]?)with|some (.bool b)=>some b|_=>none)=(match (Na ops j).bind (a'.tmps[·]?)with|some (.bool b)=>some b|_=>none)
  obtain⟨C,z,_⟩:=M.dst j (by have:=MI M.free q;omega)
  rw[z]
  simp only[Option.bind_some]
  rw[L C λB u w=>by
   by_cases e:B=j
   .exact e ▸ q
   .exact qx (w.trans z.symm) (M.ne B j u (by have:=MI M.free q;omega) e)]
 unfold wpOpIn at h ⊢;rw[l]at h ⊢;simp only at h ⊢;rw[t]at h ⊢;rw[<-H];split
 .rename_i k;rw[rW k]at h;exact bf5 O (M.yM i o hi l) m wB p h
 .rename_i k;rw[ru k]at h;refine⟨λf E=>h.1 f (by rw[about_congr o W p];exact E),?_⟩;obtain⟨v,e,y⟩:=h.2;rw[m]at e ⊢;have:=zT wB e;subst this;exact⟨_,rfl,y⟩
end
section
variable {F:Fence}{n:Nat}{P:l_}{ops:Array Oper}{c N:Nat}{rs ss:List Nat}
theorem Yf (z:F.depth=none){C:Act->Prop}:∀(l:List Oper)(a:Act)(W:o_),wpListIn F n P ops (λe y _=>e=.normal/\C y) l a W->∃a1,C a1
 |[],a,W,h=>⟨a,h.2⟩
 |o::l,a,W,h=>by
  have room:∀k,F.room k:=λk d i=>by rw[z]at i;cases i
  unfold wpListIn at h
  split at h
  .obtain⟨_,b⟩:=h
   revert b
   generalize (o.semAt F.round a.eval).run P W=r;intro b;have go:∀a W,wpListIn F n P ops (λe y _=>e=.normal/\C y) l a W->∃a1,C a1:=λa W h=>Yf z l a W h
   match r,b with
   |.ok (.value v) g,b=>exact go _ _ b
   |.ok .skip g,b=>exact go _ _ b
   |.ok (.defer u) g,b=>exact go _ _ b
   |.ok (.enter f args) g,b=>
    obtain⟨e,p,w,hR,_⟩:=b.2.2 [] (room _)
    match e,hR with
    |.returned v,c=>exact go _ _ c
    |.panicked t,c=>cases c.1
    |.outgrown,c=>exact c.elim λ_ m=>m.elim λ_ j=>by cases j.1
   |.ok (.row row args) g,b=>
    obtain⟨v,p,hR,_⟩:=b.2 default [] (room _)
    exact go _ _ hR
   |.ok (.round x f s assign q) g,b=>
    obtain⟨e,p,hR,_⟩:=b.2.2 default [] (room _)
    match e,hR with
    |.returned v,c=>exact go _ _ c
    |.panicked t,c=>cases c.1
    |.outgrown,c=>exact c.elim λ_ m=>m.elim λ_ j=>by cases j.1
   |.halt (.panic v) g,b=>cases b.1
  .exact Yf z l _ _ h.2
theorem Vk {a:Act}{W:o_}:∀(l:List Nat),TU F n P ops a W (yM ops l)->∀i∈l,∀o,ops[i]?=some o->(if Region.wanted o (yielded ops a.tmps)then o.wpIn F n P a W (λk g=>k=a/\g=W) (λ_ _ _=>False)else(∀f,o.about P W a.eval=some f->F.fn f)/\a.put o.dst undef=a)
 |[],_,i,hi,_,_=>by cases hi
 |j::l,h,i,hi,o,b=>by
  unfold yM at h
  obtain e|hi:=r_.1 hi
  .subst e;rw[b]at h;exact h.1
  .cases hj:ops[j]? with
   |none=>rw[hj]at h;exact Vk l h i hi o b
   |some c=>rw[hj]at h;exact Vk l h.2 i hi o b
theorem EL:∀(l:List Nat)(u:Y_)(a:Act)(s:Nat),(∀i∈l,Na ops i≠some s)->(LC ops l u a).tmps[s]?=a.tmps[s]?
 |[],_,_,_,_=>rfl
 |i::l,u,a,s,h=>by
  unfold LC
  rw[EL l u _ s λj b=>h j (List.mem_cons_of_mem _ b)]
  have:=h i (List.mem_cons_self ..)
  cases hd:Na ops i with
  |none=>rfl
  |some d=>rw[QK,ru];rintro rfl;exact this hd
theorem nO (a:Act)(d:d_ Nat)(v:n_):(a.put d v).tmps.size=a.tmps.size:=by cases d<;>simp[Act.put]
theorem put_defers (a:Act)(d:d_ Nat)(v:n_):(a.put d v).defers=a.defers:=by cases d<;>rfl
theorem PI:∀(l:List Nat)(u:Y_)(a:Act),(LC ops l u a).tmps.size=a.tmps.size
 |[],_,_=>rfl
 |i::l,u,a=>by unfold LC;rw[PI l,nO]
theorem Ll:∀(l:List Nat)(u:Y_)(a:Act),(LC ops l u a).defers=a.defers
 |[],_,_=>rfl
 |i::l,u,a=>by unfold LC;rw[Ll l,put_defers]
theorem P6 (M:mZ ops c N rs ss):∀(l:List Nat)(u:Y_)(a:Act),(∀i∈l,i<c)->a.tmps.size=N->∀i∈l,∀d,Na ops i=some d->(LC ops l u a).tmps[d]?=some (u i)
 |[],_,_,_,_,i,hi,_,_=>by cases hi
 |j::l,u,a,f,hN,i,hi,d,b=>by
  unfold LC
  by_cases h:i∈l
  .exact P6 M l u _ (λx g=>f x (List.mem_cons_of_mem _ g)) (by rw[nO];exact hN) i h d b
  .have e:i=j:=(by obtain e|e:=r_.1 hi;exact e;exact qx e h);subst e;obtain⟨o,k,m⟩:=M.dst i (f i hi);rw[b]at k;cases k;rw[EL l u _ d,b,QK,rW rfl,rW wB];intro x g n;by_cases e:x=i
   .exact h (e ▸ g)
   .exact M.ne x i (f x (List.mem_cons_of_mem _ g)) (f i hi) e (n.trans b.symm)
def XP (ops:Array Oper)(a1:Act)(i:Nat):n_:=(a1.tmps[(Na ops i).getD 0]?).getD undef
structure Yj (F:Fence)(n:Nat)(P:l_)(ops:Array Oper)(S:Nat->Prop)(Q:Exit->Act->o_->Prop)(a:Act)(w:o_)(c:Nat)(rs ss:List Nat)(l:List Oper)(l':List Oper)(Φ:Nat->n_->o_->Prop)(a1:Act):Prop where
 act:a1=LC ops rs (XP ops a1) a
 each:∀W,Aa S w.drew W->TU F n P ops a1 W l
 spec:∀i∈ss,∀u W,Aa S w.drew W->(∀j∈ss,j∈WG ops i->Φ j (u j) W)->wpOpIn F n P ops (λ_ _ _=>False) i (λa' W'=>∃v,a'=(LC ops ss u a1).put (Na ops i) v/\Aa S W W'/\Φ i v W') (LC ops ss u a1) W
 rest:∀u W,Aa S w.drew W->(∀j∈ss,Φ j (u j) W)->wpListIn F n P ops Q l' (LC ops ss u a1) W
theorem DI (S:Nat->Prop)(id:Nat)(hF:F.round=none)(hF2:F.depth=none)(hm:P.follows .mixedOrders=true){Q:Exit->Act->o_->Prop}(c N:Nat)(rs ss:List Nat)(F8:WL ops c N rs ss=true)(hN:a.tmps.size=N)(Φ:Nat->n_->o_->Prop)
  (hmono:∀i∈ss,∀v W W',Φ i v W->Aa S W W'->Φ i v W') (l l':List Oper) (hl:yM ops rs=l) (hl':ops.toList.drop c=l')
  (h:wpListIn F n P ops (λe a1 _=>e=.normal/\Yj F n P ops S Q a w c rs ss l l' Φ a1) l a w.drew):(Code.region id ops true).wpIn F n P Q a w:=by
 subst hl hl';have M:=WL.out F8;obtain⟨a1,hA,hE,hS,hR⟩:=Yf hF2 (C:=Yj F n P ops S Q a w c rs ss (yM ops rs) (ops.toList.drop c) Φ) _ _ _ h;have A:a1.tmps.size=N:=by rw[hA,PI];exact hN
 have y:∀i∈rs,∀d,Na ops i=some d->a1.tmps[d]?=some (XP ops a1 i):=λi hi d D=>by
  have:=P6 M rs (XP ops a1) a (λx g=>M.rl x g) hN i hi d D
  rw[<-hA]at this
  exact this
 have H:∀s,(∀i∈rs,Na ops i≠some s)->a1.tmps[s]?=a.tmps[s]?:=λs E=>by
  have:=EL rs (XP ops a1) a s E
  rw[<-hA]at this
  exact this
 have Z:a1.defers=a.defers:=by rw[hA,Ll]
 refine Eq.mp ?_ (pW (S:=S) (F:=F) (n:=n) (P:=P) (ops:=ops) (Q:=Q) id hm c M.free M.cl (Gh ops c a) (λi=>XP ops a i) (λi v W=>if i∈rs then v=XP ops a1 i else Φ i v W) w ?_ ?_ ?_)
 .congr 1
  refine Qb (λs=>?_) rfl;by_cases E:∃j,j<c/\Na ops j=some s
  .obtain⟨j,f,k⟩:=E;obtain⟨d',t,G⟩:=M.dst j f;have I:s<N:=(by rw[k]at t;cases t;exact G);rw[NJ M hN _ f k I];unfold XP;rw[k];simp only[Option.getD_some];rw[v_ wB]
   rfl
  .exact GN _ _ λj f m=>E ⟨j,f,m⟩
 .intro i hi v W W' K J;by_cases z:i∈rs
  .simp only[rW z]at K ⊢;exact K
  .simp only[ru z]at K ⊢;obtain⟨p,_⟩|⟨_,q⟩:=M.one i hi
   .exact qx p z
   .exact hmono i q v W W' K J
 .intro i hi u W J Y;by_cases z:i∈rs
  .have X:∀s,(∀j,j<c->Na ops j=some s->j∈WG ops i)->a1.tmps[s]?=(Gh ops c a u).tmps[s]?:=λs E=>by
    by_cases g:∃j,j<c/\Na ops j=some s
    .obtain⟨j,f,k⟩:=g;obtain⟨d',t,G⟩:=M.dst j f;have I:s<N:=(by rw[k]at t;cases t;exact G);have B:=E j f k;have r:=M.rr i z j B;have:=Y j B;rw[rW r]at this;rw[NJ M hN _ f k I,y j r s k,this]
    .rw[GN _ _ λj f m=>g ⟨j,f,m⟩,H s λj f m=>g ⟨j,M.rl j f,m⟩]
   have O:∃o,ops[i]?=some o:=⟨_,v_ (by have:=M.cl;omega)⟩;obtain⟨o,O⟩:=O;obtain⟨d,D,hdN⟩:=M.dst i hi;have L:o.dst=some d:=(by unfold Na at D;rw[O]at D;exact D);have g:=Vk rs (hE W J) i z o O;have U:∀v,a1.put (some d) v=a1->v=XP ops a1 i:=λv e=>by
    have p:=congrArg (λx:Act=>x.tmps[d]?) e
    simp only[QK,if_true,rW (show d<a1.tmps.size by omega)]at p
    rw[y i z d D]at p
    exact x_ p
   have V:a1.put (some d) (XP ops a1 i)=a1:=Qb (λs=>by
    rw[QK]
    by_cases e:s=d
    .subst e;rw[rW rfl,rW wB,y i z s D]
    .rw[ru e]) (put_defers _ _ _)
   have R:wpOpIn F n P ops (λ_ _ _=>False) i (λb W'=>∃v,b=a1.put (Na ops i) v/\(v=XP ops a1 i/\W'=W)) a1 W:=by
    unfold wpOpIn
    rw[O,D]
    simp only
    split
    .rename_i R;rw[rW R]at g;exact Oper.wpIn_mono (λb W' ⟨e1,e2⟩=>⟨XP ops a1 i,by rw[V];exact e1,rfl,e2⟩) g
    .rename_i R;rw[ru R]at g;refine⟨g.1,undef,by rw[L],?_⟩;rw[L]at g;exact⟨U _ g.2,dE⟩
   refine Ji (λb W'=>?_) (RZ M hF hi A X R (Q:=Q));rintro⟨v,rfl,rfl,rfl⟩;exact⟨_,Ye M hN u hi _,Aa.refl _ _,by simp only[rW z]⟩
  .have his:i∈ss:=by
    obtain⟨p,_⟩|⟨_,q⟩:=M.one i hi
    .exact qx p z
    .exact q
   have nr:∀j∈ss,j ∉ rs:=λj f r=>by
    obtain⟨_,q⟩|⟨p,_⟩:=M.one j (M.sl j f)
    .exact q f
    .exact p r
   have g:=hS i his u W J λj f B=>by
    have:=Y j B
    rw[ru (nr j f)]at this
    exact this
   have X:∀s,(∀j,j<c->Na ops j=some s->j∈WG ops i)->(LC ops ss u a1).tmps[s]?=(Gh ops c a u).tmps[s]?:=λs E=>by
    by_cases g:∃j,j<c/\Na ops j=some s
    .obtain⟨j,f,k⟩:=g;obtain⟨d',t,G⟩:=M.dst j f;have I:s<N:=(by rw[k]at t;cases t;exact G);rw[NJ M hN _ f k I];obtain⟨p,q⟩|⟨p,q⟩:=M.one j f
     .have:=Y j (E j f k);rw[rW p]at this;rw[EL ss u a1 s,y j p s k,this];intro x g m;exact M.ne x j (M.sl x g) f (λe=>q (e ▸ g)) (m.trans k.symm)
     .exact P6 M ss u a1 (λx g=>M.sl x g) A j q s k
    .rw[GN _ _ λj f m=>g ⟨j,f,m⟩,EL ss u a1 s λj f m=>g ⟨j,M.sl j f,m⟩,H s λj f m=>g ⟨j,M.rl j f,m⟩]
   refine Ji (λb W'=>?_) (RZ M hF hi (by rw[PI];exact A) X g (Q:=Q));rintro⟨v,rfl,hK',K⟩;exact⟨_,Ye M hN u hi _,hK',by simp only[ru z];exact K⟩
 .intro u W J T;have nr:∀j∈ss,j ∉ rs:=λj f r=>by
   obtain⟨_,q⟩|⟨p,_⟩:=M.one j (M.sl j f)
   .exact q f
   .exact p r
  have e:Gh ops c a u=LC ops ss u a1:=by
   refine Qb (λs=>?_) (by rw[Ll];exact Z.symm)
   by_cases g:∃j,j<c/\Na ops j=some s
   .obtain⟨j,f,k⟩:=g;obtain⟨d',t,G⟩:=M.dst j f;have I:s<N:=(by rw[k]at t;cases t;exact G);rw[NJ M hN _ f k I];obtain⟨p,q⟩|⟨p,q⟩:=M.one j f
    .have:=T j f;rw[rW p]at this;rw[EL ss u a1 s,y j p s k,this];intro x g m;exact M.ne x j (M.sl x g) f (λe=>q (e ▸ g)) (m.trans k.symm)
    .exact(P6 M ss u a1 (λx g=>M.sl x g) A j q s k).symm
   .rw[GN _ _ λj f m=>g ⟨j,f,m⟩,EL ss u a1 s λj f m=>g ⟨j,M.sl j f,m⟩,H s λj f m=>g ⟨j,M.rl j f,m⟩]
  rw[e];exact hR u W J λj f=>by
   have:=T j (M.sl j f)
   rw[ru (nr j f)]at this
   exact this
end
section
variable {P:l_}{α:Type}{w:o_}{a:f_}{u:n_}
theorem Ϩ {c:Sem α}(e:v.oneCell'=true)(h:w.cell? a=some u)(b:w.frozen? a=false):(Sem.store .plain a v c).run P w=c.run P (w.setCell a v):=by
 cases v<;>first|(simp[Value.oneCell']at e;done)|simp only[Sem.run,h,b,jb,if_false]
end
section
variable {F:Fence}{n:Nat}{P:l_}{w w':o_}{ops:Array Oper}{rest:List Oper}{o:Oper}{a:Act}{Q:Exit->Act->o_->Prop}
theorem PK (k:o.guard=none)(s y:Operand)(f:Array j_)(e:o.op=Op.call { callee:=Callee.builtin .copy,args:=#[s,y],argTypes:=f}){v2:n_}(l:a.eval s=v)(m:a.eval y=v2)
  (g:(Builtin.copy_ f o.type #[v,v2]).run P w=.ok x w') (h:wpListIn F n P ops Q rest (a.put o.dst x) w'):wpListIn F n P ops Q (o::rest) a w:=by
 refine wpListIn_plain k λK b=>?_
 unfold Oper.wpIn;refine⟨?_,?_⟩
 .simp[Oper.about,e,resolve,Target.leads,Sem.run_pure]
 .rw[Oper.semAt_plain F _ _ (by rw[e];intro c d;cases d)];simp[execOp,e,resolve,invoke,builtin,l,m,g,Result.andThen];exact b _ _ h
theorem Dl (k:o.guard=none)(s y:Operand)(f:Array j_)(e:o.op=Op.call { callee:=Callee.builtin .append,args:=#[s,y],argTypes:=f}){v2:n_}(l:a.eval s=v)(m:a.eval y=v2)
  (g:(Builtin.append_ f o.type #[v,v2]).run P w=.ok x w') (h:wpListIn F n P ops Q rest (a.put o.dst x) w'):wpListIn F n P ops Q (o::rest) a w:=by
 refine wpListIn_plain k λK b=>?_
 unfold Oper.wpIn;refine⟨?_,?_⟩
 .simp[Oper.about,e,resolve,Target.leads,Sem.run_pure]
 .rw[Oper.semAt_plain F _ _ (by rw[e];intro c d;cases d)];simp[execOp,e,resolve,invoke,builtin,l,m,g,Result.andThen];exact b _ _ h
end
theorem QW (h:ks[i]?=some v):ks.setIfInBounds i v=ks:=by
 apply Array.ext_getElem?;intro j;rw[Array.getElem?_setIfInBounds];by_cases e:i=j
 .subst e;rw[rW rfl,h];split
  .rfl
  .rename_i a;rw[Array.getElem?_eq_none wB]at h;cases h
 .rw[ru e]
theorem BN (h:i≠j):(ks.setIfInBounds i v)[j]?=ks[j]?:=by rw[Array.getElem?_setIfInBounds,ru h]
theorem Rz {u:n_}(h:ks[i]?=some u):(ks.setIfInBounds i v)[i]?=some v:=by
 rw[Array.getElem?_setIfInBounds,rW rfl,rW (y_.1 h).1]
theorem Cj {b:Nat}{x y:X_}{T U:j_}{f g:Nat×Nat}(h:w.heap[b]?=some (.cells x T f))(k:w.heap[c]?=some (.cells y U g))(n:T≠U):b≠c:=λe=>by
 subst e;rw[h]at k;cases k;exact n rfl
section
variable {F:Fence}{n:Nat}{P:l_}{W:o_}{ops:Array Oper}{o:Oper}{os:List Oper}{a:Act}
theorem ZK {C:Act->o_->Prop}(h:o.wpIn F n P a W K (λe s w'=>e=.normal/\C s w')):o.wpIn F n P a W K (λ_ _ _=>False):=by
 obtain⟨p,b⟩:=h;refine⟨p,?_⟩
 revert b
 generalize (o.semAt F.round a.eval).run P W=r;intro b
 match r,b with
 |.ok (.value v) w',b=>exact b
 |.ok .skip w',b=>exact b
 |.ok (.defer q) w',b=>exact b
 |.ok (.enter f args) w',b=>
  refine⟨b.1,b.2.mono λe k c=>?_⟩
  match e,c with
  |.returned v,c=>exact c
  |.panicked m,c=>cases c.1
  |.outgrown,c=>exact c.elim λ_ g=>g.elim λ_ d=>by cases d.1
 |.ok (.row row args) w',b=>exact⟨b.1,b.2⟩
 |.ok (.round l f j assign i) w',b=>
  refine⟨b.1,b.2.mono λe k c=>?_⟩
  match e,c with
  |.returned v,c=>exact c
  |.panicked m,c=>cases c.1
  |.outgrown,c=>exact c.elim λ_ g=>g.elim λ_ d=>by cases d.1
 |.halt (.panic v) w',b=>cases b.1
theorem AA (h:wpListIn F n P ops (λe g f=>e=.normal/\g=a/\f=W) [o] a W)(k:TU F n P ops a W os):TU F n P ops a W (o::os):=by
 refine⟨?_,k⟩;unfold wpListIn at h;split at h
 .rename_i b;rw[rW b];exact Oper.wpIn_mono (λ_ _ c=>c.2) (ZK h)
 .rename_i b;rw[ru b];exact⟨h.1,h.2.2.1⟩
theorem bf6 (hi:ops[i]?=some o)(h:wpListIn F n P ops (λe g f=>e=.normal/\K g f) [o] a W):wpOpIn F n P ops (λ_ _ _=>False) i K a W:=by
 unfold wpOpIn;rw[hi];simp only;unfold wpListIn at h;split at h
 .rename_i b;rw[rW b];exact Oper.wpIn_mono (λ_ _ c=>c.2) (ZK h)
 .rename_i b;rw[ru b];exact⟨h.1,h.2.2⟩
theorem BI (hi:ops[i]?=some o)(h:∀KK:Act->o_->Prop,(∀f b,K f b->KK f b)->wpListIn F n P ops (λe f b=>e=.normal/\KK f b) [o] a W):wpOpIn F n P ops (λ_ _ _=>False) i K a W:=
 bf6 hi (h K λ_ _ h=>h)
end
def Oh (L:Nat->Bool)(i:Nat):Nat->Bool:=λj=>if j=i then true else L j
section
variable {F:Fence}{n:Nat}{P:l_}{ops:Array Oper}{Q:Exit->Act->o_->Prop}{k:Nat}
theorem oq (D:OY ops k=true)(G:k<ops.size)(A:(Y_)->Act)(I:(Nat->Bool)->(Y_)->o_->Prop)
  (H:∀i,i<k->∀L u W,I L u W->L i=false->(∀j∈WG ops i,L j=true)->wpOpIn F n P ops Q i (λJ E=>∃v,J=A (Kw u i v)/\I (Oh L i) (Kw u i v) E) (A u) W)
  (C:∀L u W,I L u W->(∀i,i<k->L i=true)->wpListIn F n P ops Q (ops.toList.drop k) (A u) W):
  ∀(B:Nat)(l:Array Bool)(u:Y_)(W:o_),l.size=ops.size->l.toList.count true+B=ops.size->Yz ops l->(∀j,k<=j->l.getD j false=false)->I (λj=>l.getD j false) u W->
  wpAnyIn F n P .any ops Q B l (A u) W
 |0,l,u,W,d,w,p,c,hI=>by
  exfalso
  have:∀x∈l.toList,true=x:=by
   apply List.count_eq_length.1
   rw[Array.length_toList]
   omega
  have m:=c k w_
  rw[ed,v_ wB]at m
  have:=this l[k] sJ
  simp only[Option.getD_some]at m
  rw[m]at this
  cases this
 |B+1,l,u,W,d,w,p,c,hI=>by
  have gt:∀i,i<ops.size->l.getD i true=l.getD i false:=λi hi=>by
   rw[ed,ed,v_ wB];rfl
  by_cases b:∀j,j<k->l.getD j false=true
  .have s:∀j,l.getD j false=decide (j<k):=λj=>by
    by_cases e:j<k
    .rw[b j e];simp[e]
    .rw[c j wB];simp[e]
   have r:l.toList.count true=k:=by
    have e:l.toList=List.replicate k true++List.replicate (ops.size-k) false:=by
     refine List.ext_getElem? λi=>?_
     by_cases hi:i<ops.size
     .have:=s i;rw[ed,v_ wB]at this;simp only[Option.getD_some]at this;rw[List.getElem?_append];simp only[List.length_replicate,List.getElem?_replicate];rw[show l.toList[i]?=some l[i] by simp[d,hi],this];by_cases a:i<k
      .simp[a]
      .simp[a];omega
     .rw[List.getElem?_eq_none (by simp;omega),List.getElem?_eq_none (by simp;omega)]
    rw[e];simp[List.count_append,List.count_replicate]
   exact WA D (B+1) k l (A u) W w_ wB d s (C _ u W hI b)
  .refine⟨λy=>?_,λi hi=>?_⟩
   .exfalso;apply b;intro j
    induction j using Nat.strongRecOn with
    |_ j z=>
     intro o
     cases hv:l.getD j false with
     |true=>rfl
     |false=>
      have:j∈Region.ready .any ops l:=mem_ready.2 ⟨wB,by rw[gt j wB];exact hv,λx f=>z x (MI D f) (by have:=MI D f;omega)⟩
      rw[y]at this
      cases this
   .obtain⟨q,g,h⟩:=mem_ready.1 hi;by_cases a:i<k
    .have f:=H i a _ u W hI (by rw[gt i q]at g;exact g) h;refine Ji (λJ E=>?_) f;rintro⟨v,rfl,t⟩;refine oq D G A I H C B _ _ E (by simp[d]) (by rw[count_set g];omega) (fP p wB h) (λj o=>?_) ?_
     .rw[PD wB,ru wB];exact c j o
     .have e:(λj=>(l.setIfInBounds i true).getD j false)=Oh (λj=>l.getD j false) i:=funext λj=>PD wB
      rw[e];exact t
    .exfalso;exact b λj o=>Zd D p q wB h j wB
structure am1 (F:Fence)(n:Nat)(P:l_)(ops:Array Oper)(Q:Exit->Act->o_->Prop)(a:Act)(w:o_)(c:Nat)(rs ss:List Nat)(l l':List Oper)(I:(Nat->Bool)->(Y_)->o_->Prop)(a1:Act):Prop where
 act:a1=LC ops rs (XP ops a1) a
 start:∀u,I (λ_=>false) u w.drew
 each:∀L u W,I L u W->TU F n P ops a1 W l
 spec:∀i∈ss,∀L u W,I L u W->L i=false->(∀j∈ss,j∈WG ops i->L j=true)->wpOpIn F n P ops (λ_ _ _=>False) i (λa' W'=>∃v,a'=(LC ops ss u a1).put (Na ops i) v/\I (Oh L i) (Kw u i v) W') (LC ops ss u a1) W
 rest:∀L u W,I L u W->(∀j∈ss,L j=true)->wpListIn F n P ops Q l' (LC ops ss u a1) W
theorem Dx (id:Nat)(hF:F.round=none)(hF2:F.depth=none)(hm:P.follows .mixedOrders=true)(c N:Nat)(rs ss:List Nat)(F8:WL ops c N rs ss=true)(hN:a.tmps.size=N)(I:(Nat->Bool)->(Y_)->o_->Prop)
  (cy7:∀L L' u u' W,(∀i∈ss,L i=L' i/\u i=u' i)->I L u W->I L' u' W) (l l':List Oper) (hl:yM ops rs=l) (hl':ops.toList.drop c=l')
  (h:wpListIn F n P ops (λe a1 _=>e=.normal/\am1 F n P ops Q a w c rs ss l l' I a1) l a w.drew):(Code.region id ops true).wpIn F n P Q a w:=by
 subst hl hl';have M:=WL.out F8;obtain⟨a1,hA,BX,hE,hS,hR⟩:=Yf hF2 (C:=am1 F n P ops Q a w c rs ss (yM ops rs) (ops.toList.drop c) I) _ _ _ h;have z:a1.tmps.size=N:=by rw[hA,PI];exact hN
 have t:∀i∈rs,∀d,Na ops i=some d->a1.tmps[d]?=some (XP ops a1 i):=λi hi d D=>by
  have:=P6 M rs (XP ops a1) a (λx g=>M.rl x g) hN i hi d D
  rw[<-hA]at this
  exact this
 have H:∀s,(∀i∈rs,Na ops i≠some s)->a1.tmps[s]?=a.tmps[s]?:=λs E=>by
  have:=EL rs (XP ops a1) a s E
  rw[<-hA]at this
  exact this
 have a1D:a1.defers=a.defers:=by rw[hA,Ll]
 have nr:∀j∈ss,j ∉ rs:=λj f B=>by
  obtain⟨_,y⟩|⟨p,_⟩:=M.one j (M.sl j f)
  .exact y f
  .exact p B
 let Z:(Nat->Bool)->(Y_)->o_->Prop:=λL u W=>(∀i∈rs,L i=true->u i=XP ops a1 i)/\I L u W
 have e0:Gh ops c a (λi=>XP ops a i)=a:=by
  refine Qb (λs=>?_) rfl
  by_cases E:∃j,j<c/\Na ops j=some s
  .obtain⟨j,f,k⟩:=E;obtain⟨d',r,G⟩:=M.dst j f;have R:s<N:=(by rw[k]at r;cases r;exact G);rw[NJ M hN _ f k R];unfold XP;rw[k];simp only[Option.getD_some];rw[v_ wB]
   rfl
  .exact GN _ _ λj f m=>E ⟨j,f,m⟩
 have A8:∀i,i<c->∀L u W,Z L u W->L i=false->(∀j∈WG ops i,L j=true)->wpOpIn F n P ops Q i (λa' S=>∃v,a'=Gh ops c a (Kw u i v)/\Z (Oh L i) (Kw u i v) S) (Gh ops c a u) W:=by
  intro i hi L u W ⟨q,hI⟩ hLi XF
  by_cases J:i∈rs
  .have LX:∀s,(∀j,j<c->Na ops j=some s->j∈WG ops i)->a1.tmps[s]?=(Gh ops c a u).tmps[s]?:=λs E=>by
    by_cases g:∃j,j<c/\Na ops j=some s
    .obtain⟨j,f,k⟩:=g;obtain⟨d',r,G⟩:=M.dst j f;have R:s<N:=(by rw[k]at r;cases r;exact G);have A:=E j f k;have B:=M.rr i J j A;rw[NJ M hN _ f k R,t j B s k,q j B (XF j A)]
    .rw[GN _ _ λj f m=>g ⟨j,f,m⟩,H s λj f m=>g ⟨j,M.rl j f,m⟩]
   have U:∃o,ops[i]?=some o:=⟨_,v_ (by have:=M.cl;omega)⟩;obtain⟨o,U⟩:=U;obtain⟨d,D,hdN⟩:=M.dst i hi;have T:o.dst=some d:=(by unfold Na at D;rw[U]at D;exact D);have g:=Vk rs (hE L u W hI) i J o U;have X:∀v,a1.put (some d) v=a1->v=XP ops a1 i:=λv e=>by
    have p:=congrArg (λx:Act=>x.tmps[d]?) e
    simp only[QK,if_true,rW (show d<a1.tmps.size by omega)]at p
    rw[t i J d D]at p
    exact x_ p
   have Y:a1.put (some d) (XP ops a1 i)=a1:=Qb (λs=>by
    rw[QK]
    by_cases e:s=d
    .subst e;rw[rW rfl,rW wB,t i J s D]
    .rw[ru e]) (put_defers _ _ _)
   have V:wpOpIn F n P ops (λ_ _ _=>False) i (λb S=>∃v,b=a1.put (Na ops i) v/\(v=XP ops a1 i/\S=W)) a1 W:=by
    unfold wpOpIn
    rw[U,D]
    simp only
    split
    .rename_i V;rw[rW V]at g;exact Oper.wpIn_mono (λb S ⟨e1,e2⟩=>⟨XP ops a1 i,by rw[Y];exact e1,rfl,e2⟩) g
    .rename_i V;rw[ru V]at g;refine⟨g.1,undef,by rw[T],?_⟩;rw[T]at g;exact⟨X _ g.2,dE⟩
   refine Ji (λb S=>?_) (RZ M hF hi z LX V (Q:=Q));rintro⟨v,rfl,rfl,rfl⟩;refine⟨_,Ye M hN u hi _,λj f O=>?_,cy7 _ _ _ _ _ (λj f=>?_) hI⟩
   .unfold Kw;by_cases e:j=i
    .rw[rW e,e]
    .rw[ru e];unfold Oh at O;rw[ru e]at O;exact q j f O
   .have e:j≠i:=λe=>nr j f (e ▸ J)
    unfold Kw Oh;rw[ru e,ru e];exact⟨rfl,rfl⟩
  .have his:i∈ss:=by
    obtain⟨p,_⟩|⟨_,y⟩:=M.one i hi
    .exact qx p J
    .exact y
   have g:=hS i his L u W hI hLi λj _ A=>XF j A
   have LX:∀s,(∀j,j<c->Na ops j=some s->j∈WG ops i)->(LC ops ss u a1).tmps[s]?=(Gh ops c a u).tmps[s]?:=λs E=>by
    by_cases g:∃j,j<c/\Na ops j=some s
    .obtain⟨j,f,k⟩:=g;obtain⟨d',r,G⟩:=M.dst j f;have R:s<N:=(by rw[k]at r;cases r;exact G);rw[NJ M hN _ f k R];obtain⟨p,y⟩|⟨p,y⟩:=M.one j f
     .rw[EL ss u a1 s,t j p s k,q j p (XF j (E j f k))];intro x g m;exact M.ne x j (M.sl x g) f (λe=>y (e ▸ g)) (m.trans k.symm)
     .exact P6 M ss u a1 (λx g=>M.sl x g) z j y s k
    .rw[GN _ _ λj f m=>g ⟨j,f,m⟩,EL ss u a1 s λj f m=>g ⟨j,M.sl j f,m⟩,H s λj f m=>g ⟨j,M.rl j f,m⟩]
   refine Ji (λb S=>?_) (RZ M hF hi (by rw[PI];exact z) LX g (Q:=Q));rintro⟨v,rfl,JO⟩;refine⟨_,Ye M hN u hi _,λj f O=>?_,JO⟩;have e:j≠i:=λe=>J (e ▸ f)
   unfold Kw;rw[ru e];unfold Oh at O;rw[ru e]at O;exact q j f O
 have K:∀L u W,Z L u W->(∀i,i<c->L i=true)->wpListIn F n P ops Q (ops.toList.drop c) (Gh ops c a u) W:=by
  intro L u W ⟨q,hI⟩ hL
  have e:Gh ops c a u=LC ops ss u a1:=by
   refine Qb (λs=>?_) (by rw[Ll];exact a1D.symm)
   by_cases g:∃j,j<c/\Na ops j=some s
   .obtain⟨j,f,k⟩:=g;obtain⟨d',r,G⟩:=M.dst j f;have R:s<N:=(by rw[k]at r;cases r;exact G);rw[NJ M hN _ f k R];obtain⟨p,y⟩|⟨p,y⟩:=M.one j f
    .rw[EL ss u a1 s,t j p s k,q j p (hL j f)];intro x g m;exact M.ne x j (M.sl x g) f (λe=>y (e ▸ g)) (m.trans k.symm)
    .exact(P6 M ss u a1 (λx g=>M.sl x g) z j y s k).symm
   .rw[GN _ _ λj f m=>g ⟨j,f,m⟩,EL ss u a1 s λj f m=>g ⟨j,M.sl j f,m⟩,H s λj f m=>g ⟨j,M.rl j f,m⟩]
  rw[e];exact hR L u W hI λj f=>hL j (M.sl j f)
 have go:=oq (F:=F) (n:=n) (P:=P) (Q:=Q) M.free M.cl (Gh ops c a) Z A8 K ops.size (Array.replicate ops.size false) (λi=>XP ops a i) w.drew sJ (by simp[List.count_replicate]) (λi hi=>by simp[Array.getD]at hi) (λj _=>by simp[Array.getD]) ⟨λi _ hi=>by simp[Array.getD]at hi,by
  have:(λj=>(Array.replicate ops.size false).getD j false)=λ_=>false:=funext λj=>by simp[Array.getD]
  rw[this];exact BX _⟩;rw[e0]at go;exact wpIn_region_any hm go
end
theorem FU {rb:Nat}{y f:n_}(h:w.heap[rb]?=some (N_ #[x,y,f] 206)):w.cell? (R_ rb)=some x/\w.cell? (S_ rb 1)=some y/\w.cell? (S_ rb 2)=some f:=by
 refine⟨?_,?_,?_⟩<;>rw[Ai h]<;>rfl
theorem IE (w:o_):Aa No w (w.alloc V_)/\(w.alloc V_).heap[w.heap.size]?=some (N_ #[a_ 0,a_ 0,.nilFunc] 206)/\w.heap.size<(w.alloc V_).heap.size:=by
 have rb:(w.alloc V_).heap[w.heap.size]?=some (N_ #[a_ 0,a_ 0,.nilFunc] 206):=Yw rfl;exact⟨(Aa.refl _ _).alloc _,rb,Dt rb⟩
theorem HY {xs:Array α}{a:α}(h:i≠j):(xs.setIfInBounds i a)[j]?=xs[j]?:=z_ h
theorem Oc {l:List α}{a:α}:l[i]?=some a↔∃h:i<l.length,l[i]=a:=List.getElem?_eq_some_iff
theorem JM {l:List α}(h:i<l.length):l[i]?=some l[i]:=List.getElem?_eq_getElem h
theorem bce {k:Nat}{cs:X_}{t:j_}{z:Nat×Nat}(h:w.heap[k]?=some (.cells cs t z))(b:cs[j]?=some v):w.cell? (S_ k j)=some v:=(Ai h j).trans b
end Go.Fxa
theorem Go.T_ {P:Go.Program}{fn:Go.Func}{R:Go.Ending->Go.World->Prop}{a:Go.Act}{w:Go.World}(x y:Int)(h:(Go.results fn a.tmps).run P w=.ok (.agg #[a_ x,a_ y,.nilFunc]) w)(d:a.defers=[])(r:R (.returned (.agg #[a_ x,a_ y,.nilFunc])) w):Go.bodyPost P fn R .ret a w:=⟨d,_,h,r⟩
abbrev Go.O_ (m:Nat)(f:Go.FuncId)(a:Array Go.Value)(w:Go.World)(Q:Go.Ending->Go.World->Prop):Prop:=Go.CallsIn Go.Fxa.NF m Go.Proofs.Tryz.prog f a w Q
