/- Rows of numbers in memory; the -/
import Derived.Test.YtmhplpfpcnjekaaGreatA17
import Derived.Handy
import Derived.BigRegionIn
import Derived.Outline
import Derived.OwnWalkIn
import Derived.LoopNIn
namespace Go.Fxa
open Go.Conc Go.Proofs Go.RowKit
set_option maxRecDepth 1000000
set_option maxHeartbeats 0
variable {i j d c:Nat} {v x:n_} {K:Act->o_->Prop} {a:Act} {w:o_} {Φ:n_->o_->Prop} {ks:X_} {α:Type}
def Row (k:IntKind) (w:o_) (b n:Nat) (f:Nat->Int):Prop:=
 ∃cs T,w.heap[b]?=some (N_ cs T)/\cs.size=n/\∀i,i<n->cs[i]?=some (.int k (f i))
section
variable {k:IntKind} {w w':o_} {b n:Nat} {f g:Nat->Int}
theorem Row.cell (h:Row k w b n f) (e:i<n):w.cell? (S_ b i)=some (.int k (f i)):=by
 obtain⟨d,T,a,_,c⟩:=h;rw[Ah a];exact c i e
theorem Row.fz (h:Row k w b n f) (i:Nat):w.frozen? (S_ b i)=false:=by
 obtain⟨c,T,a,_,_⟩:=h;exact BQ a i
def upd (f:Nat->Int) (i:Nat) (x:Int):Nat->Int:=λj=>if j=i then x else f j
theorem ϭ.keep (h:ϭ w v n f) (m:Ac No w w'):ϭ w' v n f:=by
 obtain⟨a,s,c,d,e⟩:=h;refine⟨a,s,c,d,λl=>?_⟩;obtain⟨b,o,g,j⟩:=e l;exact⟨b,o,g,λi k=>m.has (j i k)⟩
end
def VP (ops:Array Oper) (i:Nat):List Nat:=match ops[i]? with
 |none=>[]
 |some o=>(o.after.toList.filter (Region.binds .any)).map (·.on)
def reach (ops:Array Oper):Nat->List Nat->List Nat
 |0,R=>R
 |j+1,R=>reach ops j (if R.contains j then VP ops j++R else R)
def OI (ops:Array Oper) (k:Nat):Bool:=
 ((List.range ops.size).all λi=>(VP ops i).all λj=>decide (j<i)) && (List.range ops.size).all λi=>decide (i<k) || (List.range i).all λj=>(reach ops i (VP ops i)).contains j
section
variable {ops:Array Oper} {l:Array Bool} {k:Nat}
def XN (ops:Array Oper) (l:Array Bool):Prop:=∀i,l.getD i false=true->∀j∈VP ops i,l.getD j false=true
theorem mem_ready:i∈Region.ready .any ops l ↔ i<ops.size/\l.getD i true=false/\∀j∈VP ops i,l.getD j false=true:=by
 unfold Region.ready;rw[List.mem_filter,List.mem_range];refine and_congr_right λf=>?_
 rw[Bool.and_eq_true,Bool.not_eq_true'];refine and_congr_right λ_=>?_
 have e:ops[i]?=some ops[i]:=v_ f;unfold VP;rw[e];simp only[Option.map_some,Option.getD_some,Array.all_eq_true',List.mem_map,List.mem_filter,Array.mem_toList_iff,Bool.or_eq_true,Bool.not_eq_true'];constructor
 .rintro h j ⟨a,⟨d,b⟩,rfl⟩;obtain c | c:=h a d
  .rw[c]at b;cases b
  .exact c
 .intro h a d;cases b:Region.binds .any a with
  |false=>exact .inl rfl
  |true=>exact .inr (h _ ⟨a,⟨d,b⟩,rfl⟩)
theorem PZ (e:XN ops l):∀(j:Nat) (R:List Nat),(∀x∈R,l.getD x false=true)->∀x∈reach ops j R,l.getD x false=true
 |0,R,h=>h
 |j+1,R,h=>by
  unfold reach
  split
  .rename_i b;refine PZ e j _ λx a=>?_
   obtain a|a:=gJ.1 a
   .exact e j (h j (by simpa using b)) x a
   .exact h x a
  .exact PZ e j R h
theorem LY (h:OI ops k=true) (b:j∈VP ops i):j<i:=by
 unfold OI at h;rw[Bool.and_eq_true,List.all_eq_true]at h;have a:i<ops.size:=by
  by_cases a:i<ops.size
  .exact a
  .unfold VP at b;rw[Array.getElem?_eq_none zD]at b;cases b
 have:=h.1 i (List.mem_range.2 a);rw[List.all_eq_true]at this;simpa using this j b
theorem Yv (h:OI ops k=true) (f:XN ops l) (e:i<ops.size) (m:k<=i) (g:∀j∈VP ops i,l.getD j false=true):∀j,j<i->l.getD j false=true:=by
 unfold OI at h;rw[Bool.and_eq_true,List.all_eq_true,List.all_eq_true]at h;have:=h.2 i (List.mem_range.2 e);rw[Bool.or_eq_true,List.all_eq_true]at this;obtain a | a:=this
 .have:=of_decide_eq_true a;omega
 .intro j b;exact PZ f i _ g j (by simpa using a j (List.mem_range.2 b))
theorem O8 {b:Bool} (f:i<l.size):(l.setIfInBounds i true).getD j b=if j=i then true else l.getD j b:=by
 simp only[g_,Array.getElem?_setIfInBounds];by_cases e:i=j
 .subst e;simp[f]
 .simp[e,ik e]
theorem bK (h:XN ops l) (f:i<l.size) (g:∀j∈VP ops i,l.getD j false=true):XN ops (l.setIfInBounds i true):=by
 intro x a j b;rw[O8 f]at a ⊢;by_cases e:j=i
 .rw[rC e]
 .rw[ru e];by_cases e2:x=i
  .subst e2;exact g j b
  .rw[ru e2]at a;exact h x a j b
end
section
variable {F:Fence} {n:Nat} {P:l_} {ops:Array Oper} {Q:Exit->Act->o_->Prop} {k:Nat} {S:Nat->Prop}
theorem VK (A:OI ops k=true):∀(z m:Nat) (l:Array Bool) (a:Act) (w:o_),k<=m->m+z=ops.size->l.size=ops.size->(∀j,l.getD j false=decide (j<m))->
  wpListIn F n P ops Q (ops.toList.drop m) a w->wpAnyIn F n P .any ops Q z l a w
 |0,m,l,a,w,v,u,r,b,h=>by
  have f:ops.toList.drop m=[]:=List.drop_eq_nil_of_le (by simp;omega)
  rw[f]at h
  refine wpAnyIn_done ?_ h 0
  refine List.eq_nil_iff_forall_not_mem.2 λi d=>?_
  obtain⟨g,c,_⟩:=mem_ready.1 d
  have:=b i
  rw[g_,v_ zD]at this c
  simp only[Option.getD_some]at this c
  rw[c]at this
  have:=of_decide_eq_false this.symm
  omega
 |z+1,m,l,a,w,v,u,r,b,h=>by
  have f:m<ops.size:=zD
  have e:ops.toList.drop m=ops[m]::ops.toList.drop (m+1):=by
   rw[List.drop_eq_getElem_cons (by simpa using f)]
   simp
  have y:XN ops l:=λi d j p=>by
   rw[b]at d ⊢
   have:=of_decide_eq_true d
   have:=LY A p
   exact decide_eq_true zD
  have gt:∀i,i<ops.size->l.getD i true=l.getD i false:=λi d=>by
   rw[g_,g_,v_ zD];rfl
  refine⟨λx=>?_,λi d=>?_⟩
  .exfalso;have:m∈Region.ready .any ops l:=mem_ready.2 ⟨f,by rw[gt m f,b];exact decide_eq_false zD,λj p=>by rw[b];exact decide_eq_true (LY A p)⟩;rw[x]at this;cases this
  .obtain⟨g,c,t⟩:=mem_ready.1 d;rw[gt i g,b]at c;have c:=of_decide_eq_false c;have s:=Yv A y g zD t;have o:i=m:=by
    by_cases e:i=m
    .exact e
    .have:=s m zD;rw[b]at this;have:=of_decide_eq_true this;omega
   subst o;rw[e]at h;unfold wpOpIn;rw[v_ f];simp only;have go:∀a w,wpListIn F n P ops Q (ops.toList.drop (i+1)) a w->wpAnyIn F n P .any ops Q z (l.setIfInBounds i true) a w:=λa w h=>
    VK A z (i+1) _ a w zD zD (by simp[r]) (λj=>by rw[O8 zD,b];by_cases e:j=i<;>simp[e];omega) h
   unfold wpListIn at h;split at h
   .rename_i q;rw[rC q];exact Oper.wpIn_mono go h
   .rename_i q;rw[ru q];exact⟨h.1,go _ _ h.2⟩
def J8 (u:Y_) (i:Nat) (v:n_):Nat->n_:=λj=>if j=i then v else u j
theorem Jd {K':Act->o_->Prop} (h:∀a w,K a w->K' a w) (f:wpOpIn F n P ops Q i K a w):wpOpIn F n P ops Q i K' a w:=by
 unfold wpOpIn at f ⊢;split
 .rename_i e;rw[e]at f;exact h _ _ f
 .rename_i o e;rw[e]at f;simp only at f;split
  .rename_i b;rw[rC b]at f;exact Oper.wpIn_mono h f
  .rename_i b;rw[ru b]at f;exact⟨f.1,h _ _ f.2⟩
theorem lQ (M:OI ops k=true) (N:k<ops.size) (A:(Y_)->Act) (Φ:Nat->n_->o_->Prop) (w:o_) (I:∀i,i<k->∀v W L,Φ i v W->Ac S W L->Φ i v L)
  (O:∀i,i<k->∀u W,Ac S w W->(∀j∈VP ops i,Φ j (u j) W)->wpOpIn F n P ops Q i (λR L=>∃v,R=A (J8 u i v)/\Ac S W L/\Φ i v L) (A u) W)
  (J:∀u W,Ac S w W->(∀i,i<k->Φ i (u i) W)->wpListIn F n P ops Q (ops.toList.drop k) (A u) W):
  ∀(H:Nat) (l:Array Bool) (u:Y_) (W:o_),l.size=ops.size->l.toList.count true+H=ops.size->XN ops l->(∀j,k<=j->l.getD j false=false)->Ac S w W->(∀i,i<k->l.getD i false=true->Φ i (u i) W)->
  wpAnyIn F n P .any ops Q H l (A u) W
 |0,l,u,W,p,D,y,o,h,c=>by
  exfalso
  have:∀x∈l.toList,true=x:=by
   apply List.count_eq_length.1
   rw[Array.length_toList]
   omega
  have s:=o k (w_ _)
  rw[g_,v_ zD]at s
  have:=this l[k] zF
  simp only[Option.getD_some]at s
  rw[s]at this
  cases this
 |H+1,l,u,W,p,D,y,o,h,c=>by
  have gt:∀i,i<ops.size->l.getD i true=l.getD i false:=λi d=>by
   rw[g_,g_,v_ zD];rfl
  by_cases m:∀j,j<k->l.getD j false=true
  .have g:∀j,l.getD j false=decide (j<k):=λj=>by
    by_cases e:j<k
    .rw[m j e];simp[e]
    .rw[o j zD];simp[e]
   have z:l.toList.count true=k:=by
    have e:l.toList=List.replicate k true++List.replicate (ops.size-k) false:=by
     refine List.ext_getElem? λi=>?_
     by_cases d:i<ops.size
     .have:=g i;rw[g_,v_ zD]at this;simp only[Option.getD_some]at this;rw[List.getElem?_append];simp only[List.length_replicate,List.getElem?_replicate];rw[show l.toList[i]?=some l[i] by simp[p,d],this];by_cases a:i<k
      .simp[a]
      .simp[a];omega
     .rw[List.getElem?_eq_none (by simp;omega),List.getElem?_eq_none (by simp;omega)]
    rw[e];simp[List.count_append,List.count_replicate]
   exact VK M (H+1) k l (A u) W (w_ _) zD p g (J u W h λi d=>c i d (m i d))
  .refine⟨λE=>?_,λi d=>?_⟩
   .exfalso;apply m;intro j
    induction j using Nat.strongRecOn with
    |_ j G=>
     intro b
     cases t:l.getD j false with
     |true=>rfl
     |false=>
      have:j∈Region.ready .any ops l:=mem_ready.2 ⟨zD,by rw[gt j zD];exact t,λx q=>G x (LY M q) (by have:=LY M q;omega)⟩
      rw[E]at this
      cases this
   .obtain⟨B,C,r⟩:=mem_ready.1 d;by_cases a:i<k
    .have q:=O i a u W h λj b=>c j (by have:=LY M b;omega) (r j b)
     refine Jd (λR L=>?_) q;rintro⟨v,rfl,f,t⟩;refine lQ M N A Φ w I O J H _ _ L (by simp[p]) (by rw[count_set C];omega) (bK y zD r) (λj b=>?_) (h.then f) λj b g=>?_
     .rw[O8 zD,ru zD];exact o j b
     .unfold J8;by_cases e:j=i
      .rw[rC e];subst e;exact t
      .rw[ru e];rw[O8 zD,ru e]at g;exact I j b _ _ _ (c j b g) f
    .exfalso;exact m λj b=>Yv M y B zD r j zD
theorem nI (id:Nat) (o:P.follows .mixedOrders=true) (k:Nat) (l:OI ops k=true) (g:k<ops.size) (A:(Y_)->Act) (u0:Y_) (Φ:Nat->n_->o_->Prop) (w:o_) (b:∀i,i<k->∀v W f,Φ i v W->Ac S W f->Φ i v f)
  (h:∀i,i<k->∀u W,Ac S w.drew W->(∀j∈VP ops i,Φ j (u j) W)->wpOpIn F n P ops Q i (λm f=>∃v,m=A (J8 u i v)/\Ac S W f/\Φ i v f) (A u) W)
  (e:∀u W,Ac S w.drew W->(∀i,i<k->Φ i (u i) W)->wpListIn F n P ops Q (ops.toList.drop k) (A u) W):(Code.region id ops true).wpIn F n P Q (A u0) w:=
 wpIn_region_any o (lQ l g A Φ w.drew b h e ops.size _ u0 _ zF (by simp[List.count_replicate]) (λi a=>by simp[Array.getD]at a) (λj _=>by simp[Array.getD]) (Ac.refl _ _) λi _ a=>by simp[Array.getD]at a)
end
def MP (ops:Array Oper) (i:Nat):d_ Nat:=(ops[i]?).bind (·.dst)
def xu (ops:Array Oper):List Nat->List Oper
 |[]=>[]
 |i::is=>match ops[i]? with
  |some o=>o::xu ops is
  |none=>xu ops is
def ad6 (ops:Array Oper) (c:Nat) (i:Nat) (o:Oper):Bool:=
 (o.op.operands.toList.all λx=>match x with
  |.tmp s=>(List.range c).all λj=>!(MP ops j==some s) || (VP ops i).contains j
  |_=>true) && (match o.guard with
  |none=>true
  |some (j,_)=>(VP ops i).contains j)
def VT (ops:Array Oper) (c N:Nat) (rs ss:List Nat):Bool:=
 OI ops c && decide (c<ops.size) && ((List.range c).all λi=>rs.contains i !=ss.contains i) && rs.all (·<c) && ss.all (·<c) &&
 ((List.range c).all λi=>match ops[i]? with
  |none=>false
  |some o=>ad6 ops c i o && (match o.dst with|some d=>decide (d<N)|none=>false) && (match o.op with | .select _ _=>false | .defer _=>false|_=>true)) &&
 ((List.range c).all λi=>(List.range c).all λj=>i==j || !(MP ops i==MP ops j)) &&
 (rs.all λi=>(VP ops i).all λj=>rs.contains j)
def SX (F:Fence) (n:Nat) (P:l_) (ops:Array Oper) (a:Act) (W:o_):List Oper->Prop
 |[]=>True
 |o::os=>(if Region.wanted o (yielded ops a.tmps)then o.wpIn F n P a W (λa' W'=>a'=a/\W'=W) (λ_ _ _=>False)else(∀f,o.about P W a.eval=some f->F.fn f)/\a.put o.dst undef=a)/\SX F n P ops a W os
def JF (ops:Array Oper):List Nat->(Y_)->Act->Act
 |[],_,a=>a
 |i::is,u,a=>JF ops is u (a.put (MP ops i) (u i))
def F5 (ops:Array Oper) (c:Nat) (a:Act) (u:Y_):Act:=
 ⟨Array.ofFn (n:=a.tmps.size) λs=>match (List.range c).find? (λi=>MP ops i==some s.1)with|some i=>u i|none=>a.tmps[s.1],a.defers⟩
section
variable {ops:Array Oper} {c N:Nat} {rs ss:List Nat}
structure kD (ops:Array Oper) (c N:Nat) (rs ss:List Nat):Prop where
 free:OI ops c=true
 cl:c<ops.size
 one:∀i,i<c->(i∈rs/\i ∉ ss)\/(i ∉ rs/\i∈ss)
 rl:∀i∈rs,i<c
 sl:∀i∈ss,i<c
 dep:∀i o,i<c->ops[i]?=some o->ad6 ops c i o=true
 dst:∀i,i<c->∃d,MP ops i=some d/\d<N
 xu:∀i o,i<c->ops[i]?=some o->(∀cs b,o.op≠.select cs b)/\∀cl,o.op≠.defer cl
 ne:∀i j,i<c->j<c->i≠j->MP ops i≠MP ops j
 rr:∀i∈rs,∀j∈VP ops i,j∈rs
theorem VT.out (h:VT ops c N rs ss=true):kD ops c N rs ss:=by
 unfold VT at h;simp only[Bool.and_eq_true,List.all_eq_true,List.mem_range,decide_eq_true_eq]at h;obtain⟨⟨⟨⟨⟨⟨⟨m,n⟩,p⟩,q⟩,r⟩,f⟩,s⟩,t⟩:=h;refine⟨m,n,λi a=>?_,λi a=>by simpa using q i a,λi a=>by simpa using r i a,λi o a l=>?_,λi a=>?_,λi o a l=>?_,λi j a k g=>?_,λi a j k=>by simpa using t i a j k⟩
 .have:=p i a;by_cases v:i∈rs<;>by_cases w:i∈ss<;>simp[v,w]at this ⊢
 .have:=f i a;rw[l]at this;simp only[Bool.and_eq_true]at this;exact this.1.1
 .have:=f i a;have e:ops[i]?=some (ops[i]'zD):=v_ zD;rw[e]at this;simp only[Bool.and_eq_true]at this;have:=this.1.2;unfold MP;rw[e];simp only[Option.bind_some];split at this
  .rename_i d u;exact⟨d,u,by simpa using this⟩
  .cases this
 .have:=f i a;rw[l]at this;simp only[Bool.and_eq_true]at this;have:=this.2;refine⟨λy b e=>?_,λx e=>?_⟩<;>(rw[e]at this;cases this)
 .have:=s i a j k;simp[g]at this;exact this
theorem am3 (a:Act) (u:Y_):(F5 ops c a u).tmps.size=a.tmps.size:=by simp[F5]
theorem Nz (M:kD ops c N rs ss) (h:a.tmps.size=N) (u:Y_) (g:i<c) (f:MP ops i=some d) (e:d<N):(F5 ops c a u).tmps[d]?=some (u i):=by
 unfold F5;simp only[Array.getElem?_ofFn,h,e];have:(List.range c).find? (λj=>MP ops j==some d)=some i:=by
  refine List.find?_eq_some_iff_getElem.2 ⟨by simp[f],i,by simpa using g,zF,λj b=>?_⟩
  have:=M.ne j i zD g zD
  rw[f]at this
  simpa using this
 simp[this]
theorem GG (a:Act) (u:Y_) {s:Nat} (h:∀i,i<c->MP ops i≠some s):(F5 ops c a u).tmps[s]?=a.tmps[s]?:=by
 unfold F5;by_cases b:s<a.tmps.size
 .simp only[Array.getElem?_ofFn,b];have:(List.range c).find? (λj=>MP ops j==some s)=none:=by
   refine List.find?_eq_none.2 λj d=>?_
   simpa using h j (by simpa using d)
  simp[this]
 .rw[Array.getElem?_eq_none (by simpa using b),Array.getElem?_eq_none (by simpa using b)]
theorem PL {b:Act} (h:∀s:Nat,a.tmps[s]?=b.tmps[s]?) (g:a.defers=b.defers):a=b:=by
 obtain⟨e,c⟩:=a;obtain⟨f,d⟩:=b;simp only at h g;rw[g,Array.ext_getElem? (λi=>h i)]
theorem Qp (a:Act) (d:Nat) (v:n_) (s:Nat):(a.put (some d) v).tmps[s]?=if s=d then(if d<a.tmps.size then some v else none)else a.tmps[s]?:=by
 simp only[Act.put,Array.getElem?_setIfInBounds];by_cases e:d=s
 .subst e;simp
 .simp[e,ik e]
theorem Xl (M:kD ops c N rs ss) (q:a.tmps.size=N) (u:Y_) (r:i<c) (v:n_):(F5 ops c a u).put (MP ops i) v=F5 ops c a (J8 u i v):=by
 obtain⟨d,g,h⟩:=M.dst i r;rw[g];refine PL (λs=>?_) rfl;rw[Qp];by_cases e:s=d
 .subst e;rw[rC rfl,am3,rC zD,Nz M q _ r g h];simp[J8]
 .rw[ru e];by_cases m:∃j,j<c/\MP ops j=some s
  .obtain⟨j,b,f⟩:=m;obtain⟨p,l,n⟩:=M.dst j b;have:s<N:=(by rw[f]at l;cases l;exact n);rw[Nz M q _ b f this,Nz M q _ b f this];have:j≠i:=λe2=>by subst e2;rw[f]at g;cases g;exact e rfl
   simp[J8,this]
  .have k:∀j,j<c->MP ops j≠some s:=λj b o=>m ⟨j,b,o⟩
   rw[GG _ _ k,GG _ _ k]
end
section
variable {F:Fence} {n:Nat} {P:l_} {ops:Array Oper} {o:Oper} {a a':Act} {W:o_}
theorem yJ {v':n_} (b:d<a.tmps.size) (h:a.put (some d) v=a.put (some d) v'):v=v':=by
 have:=congrArg (λx:Act=>x.tmps[d]?) h;simp only[Qp,rC b,if_true]at this;exact x_ this
theorem az8 (G:F.round=none) (H:(∀cs b,o.op≠.select cs b)/\∀E,o.op≠.defer E) (C:o.dst=some d) (B:d<a.tmps.size) (D:∀x∈o.op.operands,a.eval x=a'.eval x)
  (h:o.wpIn F n P a W (λb A=>∃v,b=a.put (some d) v/\Φ v A) (λ_ _ _=>False)) {Q:Exit->Act->o_->Prop}:o.wpIn F n P a' W (λb A=>∃v,b=a'.put (some d) v/\Φ v A) Q:=by
 obtain⟨w,g⟩:=h;refine⟨λf m=>w f (by rw[about_congr o W D];exact m),?_⟩;rw[G,Oper.semAt_none]at g ⊢;rw[<-execOp_congr o H.1 D]
 revert g
 generalize (execOp a.eval o).run P W=r;intro g;have key:∀v A,(∃j,a.put o.dst v=a.put (some d) j/\Φ j A)->∃j,a'.put o.dst v=a'.put (some d) j/\Φ j A:=by
  rintro v A ⟨j,e,s⟩
  rw[C]at e ⊢
  have:=yJ B e
  subst this
  exact⟨_,rfl,s⟩
 match r,g with
 |.ok (.value v) k,g=>exact key _ _ g
 |.ok .skip k,g=>exact key _ _ g
 |.ok (.defer z) k,g=>
  exfalso
  obtain⟨v,e,_⟩:=g
  have:=congrArg Act.defers e
  rw[C]at this
  simp[Act.put]at this
 |.ok (.enter f args) k,g=>
  refine⟨g.1,g.2.mono λe p i=>?_⟩
  match e,i with
  |.returned v,i=>exact key _ _ i
  |.panicked u,i=>exact i.elim
  |.outgrown,i=>exact i.elim λ_ q=>q.elim λ_ m=>m.elim
 |.ok (.row row args) k,g=>exact⟨g.1,λc cs y=>let ⟨v,p,hR,hS⟩:=g.2 c cs y;⟨v,p,key _ _ hR,hS⟩⟩
 |.ok (.round l f tmps assign t) k,g=>
  refine⟨g.1,g.2.mono λe p i=>?_⟩
  match e,i with
  |.returned v,i=>exact key _ _ i
  |.panicked u,i=>exact i.elim
  |.outgrown,i=>exact i.elim λ_ q=>q.elim λ_ m=>m.elim
 |.halt (.panic v) k,g=>exact g.elim
theorem iD {f e:X_} (h:∀j b,o.guard=some (j,b)->yielded ops f j=yielded ops e j):Region.wanted o (yielded ops f)=Region.wanted o (yielded ops e):=by
 unfold Region.wanted;split
 .rfl
 .rename_i j b a;rw[h j b a]
theorem lV (a:Act) (s:Nat):a.eval (.tmp s)=(a.tmps[s]?).getD undef:=by
 show a.tmps.getD s undef=_;rw[g_]
theorem Rn {N:Nat} {S T:List Nat} (M:kD ops c N S T) (R:F.round=none) (L:i<c) (U:a.tmps.size=N)
  (O:∀s,(∀j,j<c->MP ops j=some s->j∈VP ops i)->a.tmps[s]?=a'.tmps[s]?)
  (h:wpOpIn F n P ops (λ_ _ _=>False) i (λb J=>∃v,b=a.put (MP ops i) v/\Φ v J) a W) {Q:Exit->Act->o_->Prop}:wpOpIn F n P ops Q i (λb J=>∃v,b=a'.put (MP ops i) v/\Φ v J) a' W:=by
 obtain⟨d,t,D⟩:=M.dst i L;have l:∃o,ops[i]?=some o:=⟨_,v_ (by have:=M.cl;omega)⟩;obtain⟨o,l⟩:=l;have m:o.dst=some d:=by unfold MP at t;rw[l]at t;exact t
 have r:=M.dep i o L l;unfold ad6 at r;rw[Bool.and_eq_true,List.all_eq_true]at r;have p:∀x∈o.op.operands,a.eval x=a'.eval x:=λx I=>by
  have:=r.1 x (by simpa using I)
  cases x with
  |tmp s=>
   simp only[List.all_eq_true,List.mem_range,Bool.or_eq_true,Bool.not_eq_true',beq_eq_false_iff_ne]at this
   rw[lV,lV,O s λj q w=>by obtain h|h:=this j q;exact ql w h;simpa using h]
  |const v=>rfl
  |global g=>rfl
  |func g=>rfl
 have H:Region.wanted o (yielded ops a.tmps)=Region.wanted o (yielded ops a'.tmps):=iD λj b G=>by
  have A:=r.2
  rw[G]at A
  have q:j∈VP ops i:=by simpa using A
  unfold yielded
  show(match (MP ops j).bind (a.tmps[·]?)with|some (.bool b)=>some b|_=>none)=(match (MP ops j).bind (a'.tmps[·]?)with|some (.bool b)=>some b|_=>none)
  obtain⟨C,z,_⟩:=M.dst j (by have:=LY M.free q;omega)
  rw[z]
  simp only[Option.bind_some]
  rw[O C λB u w=>by
   by_cases e:B=j
   .exact e ▸ q
   .exact ql (w.trans z.symm) (M.ne B j u (by have:=LY M.free q;omega) e)]
 unfold wpOpIn at h ⊢;rw[l]at h ⊢;simp only at h ⊢;rw[t]at h ⊢;rw[<-H];split
 .rename_i k;rw[rC k]at h;exact az8 R (M.xu i o L l) m zD p h
 .rename_i k;rw[ru k]at h;refine⟨λf E=>h.1 f (by rw[about_congr o W p];exact E),?_⟩;obtain⟨v,e,y⟩:=h.2;rw[m]at e ⊢;have:=yJ zD e;subst this;exact⟨_,rfl,y⟩
end
section
variable {F:Fence} {n:Nat} {P:l_} {ops:Array Oper} {c N:Nat} {rs ss:List Nat}
theorem Xm (A:F.depth=none) {C:Act->Prop}:∀(l:List Oper) (a:Act) (W:o_),wpListIn F n P ops (λe z _=>e=.normal/\C z) l a W->∃a1,C a1
 |[],a,W,h=>⟨a,h.2⟩
 |o::l,a,W,h=>by
  have room:∀k,F.room k:=λk d j=>by rw[A]at j;cases j
  unfold wpListIn at h
  split at h
  .obtain⟨_,b⟩:=h
   revert b
   generalize (o.semAt F.round a.eval).run P W=r;intro b;have go:∀a W,wpListIn F n P ops (λe z _=>e=.normal/\C z) l a W->∃a1,C a1:=λa W h=>Xm A l a W h
   match r,b with
   |.ok (.value v) g,b=>exact go _ _ b
   |.ok .skip g,b=>exact go _ _ b
   |.ok (.defer w) g,b=>exact go _ _ b
   |.ok (.enter f args) g,b=>
    obtain⟨e,q,x,i,_⟩:=b.2.2 [] (room _)
    match e,i with
    |.returned v,c=>exact go _ _ c
    |.panicked u,c=>cases c.1
    |.outgrown,c=>exact c.elim λ_ p=>p.elim λ_ m=>by cases m.1
   |.ok (.row row args) g,b=>
    obtain⟨v,q,i,_⟩:=b.2 default [] (room _)
    exact go _ _ i
   |.ok (.round y f t assign s) g,b=>
    obtain⟨e,q,i,_⟩:=b.2.2 default [] (room _)
    match e,i with
    |.returned v,c=>exact go _ _ c
    |.panicked u,c=>cases c.1
    |.outgrown,c=>exact c.elim λ_ p=>p.elim λ_ m=>by cases m.1
   |.halt (.panic v) g,b=>cases b.1
  .exact Xm A l _ _ h.2
theorem UG {a:Act} {W:o_}:∀(l:List Nat),SX F n P ops a W (xu ops l)->∀i∈l,∀o,ops[i]?=some o->(if Region.wanted o (yielded ops a.tmps)then o.wpIn F n P a W (λk g=>k=a/\g=W) (λ_ _ _=>False)else(∀f,o.about P W a.eval=some f->F.fn f)/\a.put o.dst undef=a)
 |[],_,i,b,_,_=>by cases b
 |j::l,h,i,b,o,c=>by
  unfold xu at h
  obtain e|b:=r_.1 b
  .subst e;rw[c]at h;exact h.1
  .cases hj:ops[j]? with
   |none=>rw[hj]at h;exact UG l h i b o c
   |some d=>rw[hj]at h;exact UG l h.2 i b o c
theorem EG:∀(l:List Nat) (u:Y_) (a:Act) (s:Nat),(∀i∈l,MP ops i≠some s)->(JF ops l u a).tmps[s]?=a.tmps[s]?
 |[],_,_,_,_=>rfl
 |i::l,u,a,s,h=>by
  unfold JF
  rw[EG l u _ s λj b=>h j (List.mem_cons_of_mem _ b)]
  have:=h i (List.mem_cons_self ..)
  cases hd:MP ops i with
  |none=>rfl
  |some d=>rw[Qp,ru];rintro rfl;exact this hd
theorem kW (a:Act) (d:d_ Nat) (v:n_):(a.put d v).tmps.size=a.tmps.size:=by cases d<;>simp[Act.put]
theorem put_defers (a:Act) (d:d_ Nat) (v:n_):(a.put d v).defers=a.defers:=by cases d<;>rfl
theorem Pm:∀(l:List Nat) (u:Y_) (a:Act),(JF ops l u a).tmps.size=a.tmps.size
 |[],_,_=>rfl
 |i::l,u,a=>by unfold JF;rw[Pm l,kW]
theorem KO:∀(l:List Nat) (u:Y_) (a:Act),(JF ops l u a).defers=a.defers
 |[],_,_=>rfl
 |i::l,u,a=>by unfold JF;rw[KO l,put_defers]
theorem PG (M:kD ops c N rs ss):∀(l:List Nat) (u:Y_) (a:Act),(∀i∈l,i<c)->a.tmps.size=N->∀i∈l,∀d,MP ops i=some d->(JF ops l u a).tmps[d]?=some (u i)
 |[],_,_,_,_,i,b,_,_=>by cases b
 |j::l,u,a,g,n,i,b,d,f=>by
  unfold JF
  by_cases k:i∈l
  .exact PG M l u _ (λx h=>g x (List.mem_cons_of_mem _ h)) (by rw[kW];exact n) i k d f
  .have e:i=j:=(by obtain e|e:=r_.1 b;exact e;exact ql e k);subst e;obtain⟨q,m,o⟩:=M.dst i (g i b);rw[f]at m;cases m;rw[EG l u _ d,f,Qp,rC rfl,rC zD];intro x h p;by_cases e:x=i
   .exact k (e ▸ h)
   .exact M.ne x i (g x (List.mem_cons_of_mem _ h)) (g i b) e (p.trans f.symm)
def WT (ops:Array Oper) (a1:Act) (i:Nat):n_:=(a1.tmps[(MP ops i).getD 0]?).getD undef
structure Xq (F:Fence) (n:Nat) (P:l_) (ops:Array Oper) (S:Nat->Prop) (Q:Exit->Act->o_->Prop) (a:Act) (w:o_) (c:Nat) (rs ss:List Nat) (l:List Oper) (l':List Oper) (Φ:Nat->n_->o_->Prop) (a1:Act):Prop where
 act:a1=JF ops rs (WT ops a1) a
 each:∀W,Ac S w.drew W->SX F n P ops a1 W l
 spec:∀i∈ss,∀u W,Ac S w.drew W->(∀j∈ss,j∈VP ops i->Φ j (u j) W)->wpOpIn F n P ops (λ_ _ _=>False) i (λa' W'=>∃v,a'=(JF ops ss u a1).put (MP ops i) v/\Ac S W W'/\Φ i v W') (JF ops ss u a1) W
 rest:∀u W,Ac S w.drew W->(∀j∈ss,Φ j (u j) W)->wpListIn F n P ops Q l' (JF ops ss u a1) W
theorem CG (S:Nat->Prop) (id:Nat) (hF:F.round=none) (hF2:F.depth=none) (hm:P.follows .mixedOrders=true) {Q:Exit->Act->o_->Prop} (c N:Nat) (rs ss:List Nat) (FV:VT ops c N rs ss=true) (hN:a.tmps.size=N) (Φ:Nat->n_->o_->Prop)
  (hmono:∀i∈ss,∀v W W',Φ i v W->Ac S W W'->Φ i v W') (l l':List Oper) (hl:xu ops rs=l) (hl':ops.toList.drop c=l')
  (h:wpListIn F n P ops (λe a1 _=>e=.normal/\Xq F n P ops S Q a w c rs ss l l' Φ a1) l a w.drew):(Code.region id ops true).wpIn F n P Q a w:=by
 subst hl hl';have M:=VT.out FV;obtain⟨a1,Y,hE,hS,hR⟩:=Xm hF2 (C:=Xq F n P ops S Q a w c rs ss (xu ops rs) (ops.toList.drop c) Φ) _ _ _ h;have B:a1.tmps.size=N:=by rw[Y,Pm];exact hN
 have y:∀i∈rs,∀d,MP ops i=some d->a1.tmps[d]?=some (WT ops a1 i):=λi A d E=>by
  have:=PG M rs (WT ops a1) a (λx g=>M.rl x g) hN i A d E
  rw[<-Y]at this
  exact this
 have I:∀s,(∀i∈rs,MP ops i≠some s)->a1.tmps[s]?=a.tmps[s]?:=λs G=>by
  have:=EG rs (WT ops a1) a s G
  rw[<-Y]at this
  exact this
 have a1D:a1.defers=a.defers:=by rw[Y,KO]
 refine Eq.mp ?_ (nI (S:=S) (F:=F) (n:=n) (P:=P) (ops:=ops) (Q:=Q) id hm c M.free M.cl (F5 ops c a) (λi=>WT ops a i) (λi v W=>if i∈rs then v=WT ops a1 i else Φ i v W) w ?_ ?_ ?_)
 .congr 1
  refine PL (λs=>?_) rfl;by_cases G:∃j,j<c/\MP ops j=some s
  .obtain⟨j,f,k⟩:=G;obtain⟨d',t,H⟩:=M.dst j f;have J:s<N:=(by rw[k]at t;cases t;exact H);rw[Nz M hN _ f k J];unfold WT;rw[k];simp only[Option.getD_some];rw[v_ zD]
   rfl
  .exact GG _ _ λj f m=>G ⟨j,f,m⟩
 .intro i A v W W' L K;by_cases z:i∈rs
  .simp only[rC z]at L ⊢;exact L
  .simp only[ru z]at L ⊢;obtain⟨p,_⟩|⟨_,q⟩:=M.one i A
   .exact ql p z
   .exact hmono i q v W W' L K
 .intro i A u W K WL;by_cases z:i∈rs
  .have Z:∀s,(∀j,j<c->MP ops j=some s->j∈VP ops i)->a1.tmps[s]?=(F5 ops c a u).tmps[s]?:=λs G=>by
    by_cases g:∃j,j<c/\MP ops j=some s
    .obtain⟨j,f,k⟩:=g;obtain⟨d',t,H⟩:=M.dst j f;have J:s<N:=(by rw[k]at t;cases t;exact H);have D:=G j f k;have r:=M.rr i z j D;have:=WL j D;rw[rC r]at this;rw[Nz M hN _ f k J,y j r s k,this]
    .rw[GG _ _ λj f m=>g ⟨j,f,m⟩,I s λj f m=>g ⟨j,M.rl j f,m⟩]
   have R:∃o,ops[i]?=some o:=⟨_,v_ (by have:=M.cl;omega)⟩;obtain⟨o,R⟩:=R;obtain⟨d,E,hdN⟩:=M.dst i A;have O:o.dst=some d:=(by unfold MP at E;rw[R]at E;exact E);have g:=UG rs (hE W K) i z o R;have V:∀v,a1.put (some d) v=a1->v=WT ops a1 i:=λv e=>by
    have p:=congrArg (λx:Act=>x.tmps[d]?) e
    simp only[Qp,if_true,rC (show d<a1.tmps.size by omega)]at p
    rw[y i z d E]at p
    exact x_ p
   have X:a1.put (some d) (WT ops a1 i)=a1:=PL (λs=>by
    rw[Qp]
    by_cases e:s=d
    .subst e;rw[rC rfl,rC zD,y i z s E]
    .rw[ru e]) (put_defers _ _ _)
   have T:wpOpIn F n P ops (λ_ _ _=>False) i (λb W'=>∃v,b=a1.put (MP ops i) v/\(v=WT ops a1 i/\W'=W)) a1 W:=by
    unfold wpOpIn
    rw[R,E]
    simp only
    split
    .rename_i T;rw[rC T]at g;exact Oper.wpIn_mono (λb W' ⟨e1,e2⟩=>⟨WT ops a1 i,by rw[X];exact e1,rfl,e2⟩) g
    .rename_i T;rw[ru T]at g;refine⟨g.1,undef,by rw[O],?_⟩;rw[O]at g;exact⟨V _ g.2,eu⟩
   refine Jd (λb W'=>?_) (Rn M hF A B Z T (Q:=Q));rintro⟨v,rfl,rfl,rfl⟩;exact⟨_,Xl M hN u A _,Ac.refl _ _,by simp only[rC z]⟩
  .have his:i∈ss:=by
    obtain⟨p,_⟩|⟨_,q⟩:=M.one i A
    .exact ql p z
    .exact q
   have nr:∀j∈ss,j ∉ rs:=λj f r=>by
    obtain⟨_,q⟩|⟨p,_⟩:=M.one j (M.sl j f)
    .exact q f
    .exact p r
   have g:=hS i his u W K λj f D=>by
    have:=WL j D
    rw[ru (nr j f)]at this
    exact this
   have Z:∀s,(∀j,j<c->MP ops j=some s->j∈VP ops i)->(JF ops ss u a1).tmps[s]?=(F5 ops c a u).tmps[s]?:=λs G=>by
    by_cases g:∃j,j<c/\MP ops j=some s
    .obtain⟨j,f,k⟩:=g;obtain⟨d',t,H⟩:=M.dst j f;have J:s<N:=(by rw[k]at t;cases t;exact H);rw[Nz M hN _ f k J];obtain⟨p,q⟩|⟨p,q⟩:=M.one j f
     .have:=WL j (G j f k);rw[rC p]at this;rw[EG ss u a1 s,y j p s k,this];intro x g m;exact M.ne x j (M.sl x g) f (λe=>q (e ▸ g)) (m.trans k.symm)
     .exact PG M ss u a1 (λx g=>M.sl x g) B j q s k
    .rw[GG _ _ λj f m=>g ⟨j,f,m⟩,EG ss u a1 s λj f m=>g ⟨j,M.sl j f,m⟩,I s λj f m=>g ⟨j,M.rl j f,m⟩]
   refine Jd (λb W'=>?_) (Rn M hF A (by rw[Pm];exact B) Z g (Q:=Q));rintro⟨v,rfl,hK',L⟩;exact⟨_,Xl M hN u A _,hK',by simp only[ru z];exact L⟩
 .intro u W K U;have nr:∀j∈ss,j ∉ rs:=λj f r=>by
   obtain⟨_,q⟩|⟨p,_⟩:=M.one j (M.sl j f)
   .exact q f
   .exact p r
  have e:F5 ops c a u=JF ops ss u a1:=by
   refine PL (λs=>?_) (by rw[KO];exact a1D.symm)
   by_cases g:∃j,j<c/\MP ops j=some s
   .obtain⟨j,f,k⟩:=g;obtain⟨d',t,H⟩:=M.dst j f;have J:s<N:=(by rw[k]at t;cases t;exact H);rw[Nz M hN _ f k J];obtain⟨p,q⟩|⟨p,q⟩:=M.one j f
    .have:=U j f;rw[rC p]at this;rw[EG ss u a1 s,y j p s k,this];intro x g m;exact M.ne x j (M.sl x g) f (λe=>q (e ▸ g)) (m.trans k.symm)
    .exact(PG M ss u a1 (λx g=>M.sl x g) B j q s k).symm
   .rw[GG _ _ λj f m=>g ⟨j,f,m⟩,EG ss u a1 s λj f m=>g ⟨j,M.sl j f,m⟩,I s λj f m=>g ⟨j,M.rl j f,m⟩]
  rw[e];exact hR u W K λj f=>by
   have:=U j (M.sl j f)
   rw[ru (nr j f)]at this
   exact this
end
section
variable {P:l_} {α:Type} {w:o_} {a:f_} {u:n_}
theorem Ω {c:Sem α} (e:v.oneCell'=true) (h:w.cell? a=some u) (b:w.frozen? a=false):(Sem.store .plain a v c).run P w=c.run P (w.setCell a v):=by
 cases v<;>first|(simp[Value.oneCell']at e;done)|simp only[Sem.run,h,b,jH,if_false]
end
section
variable {F:Fence} {n:Nat} {P:l_} {w w':o_} {ops:Array Oper} {rest:List Oper} {o:Oper} {a:Act} {Q:Exit->Act->o_->Prop}
theorem MZ (k:o.guard=none) (s y:Operand) (f:Array j_) (e:o.op=Op.call { callee:=Callee.builtin .copy,args:=#[s,y],argTypes:=f }) {v2:n_} (l:a.eval s=v) (m:a.eval y=v2)
  (g:(Builtin.copy_ f o.type #[v,v2]).run P w=.ok x w') (h:wpListIn F n P ops Q rest (a.put o.dst x) w'):wpListIn F n P ops Q (o::rest) a w:=by
 refine wpListIn_plain k λK b=>?_
 unfold Oper.wpIn;refine⟨?_,?_⟩
 .simp[Oper.about,e,resolve,Target.leads,Sem.run_pure]
 .rw[Oper.semAt_plain F _ _ (by rw[e];intro c d;cases d)];simp[execOp,e,resolve,invoke,builtin,l,m,g,Result.andThen];exact b _ _ h
theorem Cj (k:o.guard=none) (s y:Operand) (f:Array j_) (e:o.op=Op.call { callee:=Callee.builtin .append,args:=#[s,y],argTypes:=f }) {v2:n_} (l:a.eval s=v) (m:a.eval y=v2)
  (g:(Builtin.append_ f o.type #[v,v2]).run P w=.ok x w') (h:wpListIn F n P ops Q rest (a.put o.dst x) w'):wpListIn F n P ops Q (o::rest) a w:=by
 refine wpListIn_plain k λK b=>?_
 unfold Oper.wpIn;refine⟨?_,?_⟩
 .simp[Oper.about,e,resolve,Target.leads,Sem.run_pure]
 .rw[Oper.semAt_plain F _ _ (by rw[e];intro c d;cases d)];simp[execOp,e,resolve,invoke,builtin,l,m,g,Result.andThen];exact b _ _ h
end
theorem QB (h:ks[i]?=some v):ks.setIfInBounds i v=ks:=by
 apply Array.ext_getElem?;intro j;rw[Array.getElem?_setIfInBounds];by_cases e:i=j
 .subst e;rw[rC rfl,h];split
  .rfl
  .rename_i a;rw[Array.getElem?_eq_none zD]at h;cases h
 .rw[ru e]
theorem BI (h:i≠j):(ks.setIfInBounds i v)[j]?=ks[j]?:=by rw[Array.getElem?_setIfInBounds,ru h]
theorem Oj {u:n_} (h:ks[i]?=some u):(ks.setIfInBounds i v)[i]?=some v:=by
 rw[Array.getElem?_setIfInBounds,rC rfl,rC (y_.1 h).1]
theorem BZ {b:Nat} {x y:X_} {T U:j_} {f g:Nat×Nat} (h:w.heap[b]?=some (.cells x T f)) (k:w.heap[c]?=some (.cells y U g)) (n:T≠U):b≠c:=λe=>by
 subst e;rw[h]at k;cases k;exact n rfl
/-! ### readers and others of a region, one by one -/
section
variable {F:Fence} {n:Nat} {P:l_} {W:o_} {ops:Array Oper} {o:Oper} {os:List Oper} {a:Act}
theorem YX {C:Act->o_->Prop} (h:o.wpIn F n P a W K (λe s w'=>e=.normal/\C s w')):o.wpIn F n P a W K (λ_ _ _=>False):=by
 obtain⟨p,b⟩:=h;refine⟨p,?_⟩
 revert b
 generalize (o.semAt F.round a.eval).run P W=r;intro b
 match r,b with
 |.ok (.value v) w',b=>exact b
 |.ok .skip w',b=>exact b
 |.ok (.defer q) w',b=>exact b
 |.ok (.enter f args) w',b=>
  refine⟨b.1,b.2.mono λe k c=>?_⟩
  match e,c with
  |.returned v,c=>exact c
  |.panicked m,c=>cases c.1
  |.outgrown,c=>exact c.elim λ_ g=>g.elim λ_ d=>by cases d.1
 |.ok (.row row args) w',b=>exact⟨b.1,b.2⟩
 |.ok (.round l f j assign i) w',b=>
  refine⟨b.1,b.2.mono λe k c=>?_⟩
  match e,c with
  |.returned v,c=>exact c
  |.panicked m,c=>cases c.1
  |.outgrown,c=>exact c.elim λ_ g=>g.elim λ_ d=>by cases d.1
 |.halt (.panic v) w',b=>cases b.1
theorem Au (h:wpListIn F n P ops (λe g f=>e=.normal/\g=a/\f=W) [o] a W) (k:SX F n P ops a W os):SX F n P ops a W (o::os):=by
 refine⟨?_,k⟩;unfold wpListIn at h;split at h
 .rename_i b;rw[rC b];exact Oper.wpIn_mono (λ_ _ c=>c.2) (YX h)
 .rename_i b;rw[ru b];exact⟨h.1,h.2.2.1⟩
theorem az9 (k:ops[i]?=some o) (h:wpListIn F n P ops (λe g f=>e=.normal/\K g f) [o] a W):wpOpIn F n P ops (λ_ _ _=>False) i K a W:=by
 unfold wpOpIn;rw[k];simp only;unfold wpListIn at h;split at h
 .rename_i b;rw[rC b];exact Oper.wpIn_mono (λ_ _ c=>c.2) (YX h)
 .rename_i b;rw[ru b];exact⟨h.1,h.2.2⟩
theorem BC (g:ops[i]?=some o) (h:∀KK:Act->o_->Prop,(∀f b,K f b->KK f b)->wpListIn F n P ops (λe f b=>e=.normal/\KK f b) [o] a W):wpOpIn F n P ops (λ_ _ _=>False) i K a W:=
 az9 g (h K λ_ _ h=>h)
end
def Nq (L:Nat->Bool) (i:Nat):Nat->Bool:=λj=>if j=i then true else L j
section
variable {F:Fence} {n:Nat} {P:l_} {ops:Array Oper} {Q:Exit->Act->o_->Prop} {k:Nat}
theorem lN (G:OI ops k=true) (J:k<ops.size) (A:(Y_)->Act) (I:(Nat->Bool)->(Y_)->o_->Prop)
  (M:∀i,i<k->∀L u W,I L u W->L i=false->(∀j∈VP ops i,L j=true)->wpOpIn F n P ops Q i (λN H=>∃v,N=A (J8 u i v)/\I (Nq L i) (J8 u i v) H) (A u) W)
  (E:∀L u W,I L u W->(∀i,i<k->L i=true)->wpListIn F n P ops Q (ops.toList.drop k) (A u) W):
  ∀(D:Nat) (l:Array Bool) (u:Y_) (W:o_),l.size=ops.size->l.toList.count true+D=ops.size->XN ops l->(∀j,k<=j->l.getD j false=false)->I (λj=>l.getD j false) u W->
  wpAnyIn F n P .any ops Q D l (A u) W
 |0,l,u,W,f,z,r,c,p=>by
  exfalso
  have:∀x∈l.toList,true=x:=by
   apply List.count_eq_length.1
   rw[Array.length_toList]
   omega
  have o:=c k (w_ _)
  rw[g_,v_ zD]at o
  have:=this l[k] zF
  simp only[Option.getD_some]at o
  rw[o]at this
  cases this
 |D+1,l,u,W,f,z,r,c,p=>by
  have gt:∀i,i<ops.size->l.getD i true=l.getD i false:=λi d=>by
   rw[g_,g_,v_ zD];rfl
  by_cases b:∀j,j<k->l.getD j false=true
  .have w:∀j,l.getD j false=decide (j<k):=λj=>by
    by_cases e:j<k
    .rw[b j e];simp[e]
    .rw[c j zD];simp[e]
   have t:l.toList.count true=k:=by
    have e:l.toList=List.replicate k true++List.replicate (ops.size-k) false:=by
     refine List.ext_getElem? λi=>?_
     by_cases d:i<ops.size
     .have:=w i;rw[g_,v_ zD]at this;simp only[Option.getD_some]at this;rw[List.getElem?_append];simp only[List.length_replicate,List.getElem?_replicate];rw[show l.toList[i]?=some l[i] by simp[f,d],this];by_cases a:i<k
      .simp[a]
      .simp[a];omega
     .rw[List.getElem?_eq_none (by simp;omega),List.getElem?_eq_none (by simp;omega)]
    rw[e];simp[List.count_append,List.count_replicate]
   exact VK G (D+1) k l (A u) W (w_ _) zD f w (E _ u W p b)
  .refine⟨λB=>?_,λi d=>?_⟩
   .exfalso;apply b;intro j
    induction j using Nat.strongRecOn with
    |_ j C=>
     intro q
     cases hv:l.getD j false with
     |true=>rfl
     |false=>
      have:j∈Region.ready .any ops l:=mem_ready.2 ⟨zD,by rw[gt j zD];exact hv,λx g=>C x (LY G g) (by have:=LY G g;omega)⟩
      rw[B]at this
      cases this
   .obtain⟨s,h,m⟩:=mem_ready.1 d;by_cases a:i<k
    .have g:=M i a _ u W p (by rw[gt i s]at h;exact h) m;refine Jd (λN H=>?_) g;rintro⟨v,rfl,y⟩;refine lN G J A I M E D _ _ H (by simp[f]) (by rw[count_set h];omega) (bK r zD m) (λj q=>?_) ?_
     .rw[O8 zD,ru zD];exact c j q
     .have e:(λj=>(l.setIfInBounds i true).getD j false)=Nq (λj=>l.getD j false) i:=funext λj=>O8 zD
      rw[e];exact y
    .exfalso;exact b λj q=>Yv G r s zD m j zD
structure ai4 (F:Fence) (n:Nat) (P:l_) (ops:Array Oper) (Q:Exit->Act->o_->Prop) (a:Act) (w:o_) (c:Nat) (rs ss:List Nat) (l l':List Oper) (I:(Nat->Bool)->(Y_)->o_->Prop) (a1:Act):Prop where
 act:a1=JF ops rs (WT ops a1) a
 start:∀u,I (λ_=>false) u w.drew
 each:∀L u W,I L u W->SX F n P ops a1 W l
 spec:∀i∈ss,∀L u W,I L u W->L i=false->(∀j∈ss,j∈VP ops i->L j=true)->wpOpIn F n P ops (λ_ _ _=>False) i (λa' W'=>∃v,a'=(JF ops ss u a1).put (MP ops i) v/\I (Nq L i) (J8 u i v) W') (JF ops ss u a1) W
 rest:∀L u W,I L u W->(∀j∈ss,L j=true)->wpListIn F n P ops Q l' (JF ops ss u a1) W
theorem Dl (id:Nat) (hF:F.round=none) (hF2:F.depth=none) (hm:P.follows .mixedOrders=true) (c N:Nat) (rs ss:List Nat) (FV:VT ops c N rs ss=true) (hN:a.tmps.size=N) (I:(Nat->Bool)->(Y_)->o_->Prop)
  (cl5:∀L L' u u' W,(∀i∈ss,L i=L' i/\u i=u' i)->I L u W->I L' u' W) (l l':List Oper) (hl:xu ops rs=l) (hl':ops.toList.drop c=l')
  (h:wpListIn F n P ops (λe a1 _=>e=.normal/\ai4 F n P ops Q a w c rs ss l l' I a1) l a w.drew):(Code.region id ops true).wpIn F n P Q a w:=by
 subst hl hl';have M:=VT.out FV;obtain⟨a1,hA,Cc,hE,hS,hR⟩:=Xm hF2 (C:=ai4 F n P ops Q a w c rs ss (xu ops rs) (ops.toList.drop c) I) _ _ _ h;have A:a1.tmps.size=N:=by rw[hA,Pm];exact hN
 have y:∀i∈rs,∀d,MP ops i=some d->a1.tmps[d]?=some (WT ops a1 i):=λi r d E=>by
  have:=PG M rs (WT ops a1) a (λx g=>M.rl x g) hN i r d E
  rw[<-hA]at this
  exact this
 have J:∀s,(∀i∈rs,MP ops i≠some s)->a1.tmps[s]?=a.tmps[s]?:=λs G=>by
  have:=EG rs (WT ops a1) a s G
  rw[<-hA]at this
  exact this
 have a1D:a1.defers=a.defers:=by rw[hA,KO]
 have nr:∀j∈ss,j ∉ rs:=λj f D=>by
  obtain⟨_,z⟩|⟨p,_⟩:=M.one j (M.sl j f)
  .exact z f
  .exact p D
 let I':(Nat->Bool)->(Y_)->o_->Prop:=λL u W=>(∀i∈rs,L i=true->u i=WT ops a1 i)/\I L u W
 have e0:F5 ops c a (λi=>WT ops a i)=a:=by
  refine PL (λs=>?_) rfl
  by_cases G:∃j,j<c/\MP ops j=some s
  .obtain⟨j,f,k⟩:=G;obtain⟨d',t,H⟩:=M.dst j f;have S:s<N:=(by rw[k]at t;cases t;exact H);rw[Nz M hN _ f k S];unfold WT;rw[k];simp only[Option.getD_some];rw[v_ zD]
   rfl
  .exact GG _ _ λj f m=>G ⟨j,f,m⟩
 have AZ:∀i,i<c->∀L u W,I' L u W->L i=false->(∀j∈VP ops i,L j=true)->wpOpIn F n P ops Q i (λa' T=>∃v,a'=F5 ops c a (J8 u i v)/\I' (Nq L i) (J8 u i v) T) (F5 ops c a u) W:=by
  intro i r L u W ⟨q,U⟩ hLi WL
  by_cases O:i∈rs
  .have LK:∀s,(∀j,j<c->MP ops j=some s->j∈VP ops i)->a1.tmps[s]?=(F5 ops c a u).tmps[s]?:=λs G=>by
    by_cases g:∃j,j<c/\MP ops j=some s
    .obtain⟨j,f,k⟩:=g;obtain⟨d',t,H⟩:=M.dst j f;have S:s<N:=(by rw[k]at t;cases t;exact H);have B:=G j f k;have D:=M.rr i O j B;rw[Nz M hN _ f k S,y j D s k,q j D (WL j B)]
    .rw[GG _ _ λj f m=>g ⟨j,f,m⟩,J s λj f m=>g ⟨j,M.rl j f,m⟩]
   have X:∃o,ops[i]?=some o:=⟨_,v_ (by have:=M.cl;omega)⟩;obtain⟨o,X⟩:=X;obtain⟨d,E,hdN⟩:=M.dst i r;have V:o.dst=some d:=(by unfold MP at E;rw[X]at E;exact E);have g:=UG rs (hE L u W U) i O o X;have Z:∀v,a1.put (some d) v=a1->v=WT ops a1 i:=λv e=>by
    have p:=congrArg (λx:Act=>x.tmps[d]?) e
    simp only[Qp,if_true,rC (show d<a1.tmps.size by omega)]at p
    rw[y i O d E]at p
    exact x_ p
   have self:a1.put (some d) (WT ops a1 i)=a1:=PL (λs=>by
    rw[Qp]
    by_cases e:s=d
    .subst e;rw[rC rfl,rC zD,y i O s E]
    .rw[ru e]) (put_defers _ _ _)
   have Y:wpOpIn F n P ops (λ_ _ _=>False) i (λb T=>∃v,b=a1.put (MP ops i) v/\(v=WT ops a1 i/\T=W)) a1 W:=by
    unfold wpOpIn
    rw[X,E]
    simp only
    split
    .rename_i Y;rw[rC Y]at g;exact Oper.wpIn_mono (λb T ⟨e1,e2⟩=>⟨WT ops a1 i,by rw[self];exact e1,rfl,e2⟩) g
    .rename_i Y;rw[ru Y]at g;refine⟨g.1,undef,by rw[V],?_⟩;rw[V]at g;exact⟨Z _ g.2,eu⟩
   refine Jd (λb T=>?_) (Rn M hF r A LK Y (Q:=Q));rintro⟨v,rfl,rfl,rfl⟩;refine⟨_,Xl M hN u r _,λj f K=>?_,cl5 _ _ _ _ _ (λj f=>?_) U⟩
   .unfold J8;by_cases e:j=i
    .rw[rC e,e]
    .rw[ru e];unfold Nq at K;rw[ru e]at K;exact q j f K
   .have e:j≠i:=λe=>nr j f (e ▸ O)
    unfold J8 Nq;rw[ru e,ru e];exact⟨rfl,rfl⟩
  .have his:i∈ss:=by
    obtain⟨p,_⟩|⟨_,z⟩:=M.one i r
    .exact ql p O
    .exact z
   have g:=hS i his L u W U hLi λj _ B=>WL j B
   have LK:∀s,(∀j,j<c->MP ops j=some s->j∈VP ops i)->(JF ops ss u a1).tmps[s]?=(F5 ops c a u).tmps[s]?:=λs G=>by
    by_cases g:∃j,j<c/\MP ops j=some s
    .obtain⟨j,f,k⟩:=g;obtain⟨d',t,H⟩:=M.dst j f;have S:s<N:=(by rw[k]at t;cases t;exact H);rw[Nz M hN _ f k S];obtain⟨p,z⟩|⟨p,z⟩:=M.one j f
     .rw[EG ss u a1 s,y j p s k,q j p (WL j (G j f k))];intro x g m;exact M.ne x j (M.sl x g) f (λe=>z (e ▸ g)) (m.trans k.symm)
     .exact PG M ss u a1 (λx g=>M.sl x g) A j z s k
    .rw[GG _ _ λj f m=>g ⟨j,f,m⟩,EG ss u a1 s λj f m=>g ⟨j,M.sl j f,m⟩,J s λj f m=>g ⟨j,M.rl j f,m⟩]
   refine Jd (λb T=>?_) (Rn M hF r (by rw[Pm];exact A) LK g (Q:=Q));rintro⟨v,rfl,JE⟩;refine⟨_,Xl M hN u r _,λj f K=>?_,JE⟩;have e:j≠i:=λe=>O (e ▸ f)
   unfold J8;rw[ru e];unfold Nq at K;rw[ru e]at K;exact q j f K
 have R:∀L u W,I' L u W->(∀i,i<c->L i=true)->wpListIn F n P ops Q (ops.toList.drop c) (F5 ops c a u) W:=by
  intro L u W ⟨q,U⟩ hL
  have e:F5 ops c a u=JF ops ss u a1:=by
   refine PL (λs=>?_) (by rw[KO];exact a1D.symm)
   by_cases g:∃j,j<c/\MP ops j=some s
   .obtain⟨j,f,k⟩:=g;obtain⟨d',t,H⟩:=M.dst j f;have S:s<N:=(by rw[k]at t;cases t;exact H);rw[Nz M hN _ f k S];obtain⟨p,z⟩|⟨p,z⟩:=M.one j f
    .rw[EG ss u a1 s,y j p s k,q j p (hL j f)];intro x g m;exact M.ne x j (M.sl x g) f (λe=>z (e ▸ g)) (m.trans k.symm)
    .exact(PG M ss u a1 (λx g=>M.sl x g) A j z s k).symm
   .rw[GG _ _ λj f m=>g ⟨j,f,m⟩,EG ss u a1 s λj f m=>g ⟨j,M.sl j f,m⟩,J s λj f m=>g ⟨j,M.rl j f,m⟩]
  rw[e];exact hR L u W U λj f=>hL j (M.sl j f)
 have go:=lN (F:=F) (n:=n) (P:=P) (Q:=Q) M.free M.cl (F5 ops c a) I' AZ R ops.size (Array.replicate ops.size false) (λi=>WT ops a i) w.drew zF (by simp[List.count_replicate]) (λi r=>by simp[Array.getD]at r) (λj _=>by simp[Array.getD]) ⟨λi _ r=>by simp[Array.getD]at r,by
  have:(λj=>(Array.replicate ops.size false).getD j false)=λ_=>false:=funext λj=>by simp[Array.getD]
  rw[this];exact Cc _⟩;rw[e0]at go;exact wpIn_region_any hm go
end
theorem FI {rb:Nat} {y f:n_} (h:w.heap[rb]?=some (N_ #[x,y,f] 206)):w.cell? (R_ rb)=some x/\w.cell? (S_ rb 1)=some y/\w.cell? (S_ rb 2)=some f:=by
 refine⟨?_,?_,?_⟩<;>rw[Ah h]<;>rfl
theorem Iw (w:o_):Ac No w (w.alloc V_)/\(w.alloc V_).heap[w.heap.size]?=some (N_ #[a_ 0,a_ 0,.nilFunc] 206)/\w.heap.size<(w.alloc V_).heap.size:=by
 have a:(w.alloc V_).heap[w.heap.size]?=some (N_ #[a_ 0,a_ 0,.nilFunc] 206):=Y7 rfl;exact⟨(Ac.refl _ _).alloc _,a,Dt a⟩
theorem Hr {xs:Array α} {a:α} (h:i≠j):(xs.setIfInBounds i a)[j]?=xs[j]?:=z_ h
theorem KT {l:List α} {a:α}:l[i]?=some a↔∃h:i<l.length,l[i]=a:=List.getElem?_eq_some_iff
theorem IG {l:List α} (h:i<l.length):l[i]?=some l[i]:=List.getElem?_eq_getElem h
theorem bce {k:Nat} {cs:X_} {t:j_} {z:Nat×Nat} (h:w.heap[k]?=some (.cells cs t z)) (b:cs[j]?=some v):w.cell? (S_ k j)=some v:=(Ah h j).trans b
end Go.Fxa
theorem Go.T_ {P:Go.Program} {fn:Go.Func} {R:Go.Ending->Go.World->Prop} {a:Go.Act} {w:Go.World} (x y:Int) (h:(Go.results fn a.tmps).run P w=.ok (.agg #[a_ x,a_ y,.nilFunc]) w) (d:a.defers=[]) (r:R (.returned (.agg #[a_ x,a_ y,.nilFunc])) w):Go.bodyPost P fn R .ret a w:=⟨d,_,h,r⟩
abbrev Go.O_ (m:Nat) (f:Go.FuncId) (a:Array Go.Value) (w:Go.World) (Q:Go.Ending->Go.World->Prop):Prop:=Go.CallsIn Go.Fxa.NF m Go.Proofs.Tryz.prog f a w Q
