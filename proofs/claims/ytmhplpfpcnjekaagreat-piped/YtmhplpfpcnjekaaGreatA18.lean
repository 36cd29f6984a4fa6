/- Rows of numbers in memory; the -/
import Derived.Test.YtmhplpfpcnjekaaGreatA17
import Derived.Handy
import Derived.BigRegionIn
import Derived.Outline
import Derived.OwnWalkIn
import Derived.LoopNIn
namespace Go.Fxa
open Go.Conc Go.Proofs Go.RowKit
set_option maxRecDepth 1000000
set_option maxHeartbeats 0
def Row (k:IntKind) (w:o_) (b n:Nat) (f:Nat->Int):Prop:=
 ∃cs T,w.heap[b]?=some (O_ cs T)/\cs.size=n/\∀i,i<n->cs[i]?=some (.int k (f i))
section
variable {k:IntKind} {w w':o_} {b n:Nat} {f g:Nat->Int}
theorem Row.cell (h:Row k w b n f) {i:Nat} (hi:i<n):w.cell? (T_ b i)=some (.int k (f i)):=by
 obtain⟨d,T,a,_,c⟩:=h;rw[Af a];exact c i hi
theorem Row.fz (h:Row k w b n f) (i:Nat):w.frozen? (T_ b i)=false:=by
 obtain⟨c,T,a,_,_⟩:=h;exact BN a i
def upd (f:Nat->Int) (i:Nat) (x:Int):Nat->Int:=λj=>if j=i then x else f j
theorem SlI.keep {v:n_} (h:SlI w v n f) (hk:Keep No w w'):SlI w' v n f:=by
 obtain⟨a,s,c,d,e⟩:=h;refine⟨a,s,c,d,λl=>?_⟩;obtain⟨b,o,g,j⟩:=e l;exact⟨b,o,g,λi k=>hk.has (j i k)⟩
end
section
variable (m:Nat) (w:o_)
end
section
variable (pb ib c L m:Nat) (w:o_)
end
def UH (ops:Array Oper) (i:Nat):List Nat:=match ops[i]? with
 |none=>[]
 |some o=>(o.after.toList.filter (Region.binds .any)).map (·.on)
def reach (ops:Array Oper):Nat->List Nat->List Nat
 |0,R=>R
 |j+1,R=>reach ops j (if R.contains j then UH ops j++R else R)
def NM (ops:Array Oper) (k:Nat):Bool:=
 ((List.range ops.size).all λi=>(UH ops i).all λj=>decide (j<i)) && (List.range ops.size).all λi=>decide (i<k) || (List.range i).all λj=>(reach ops i (UH ops i)).contains j
section
variable {ops:Array Oper} {l:Array Bool} {k:Nat}
def Lower (ops:Array Oper) (l:Array Bool):Prop:=∀i,l.getD i false=true->∀j∈UH ops i,l.getD j false=true
theorem mem_ready {i:Nat}:i∈Region.ready .any ops l ↔ i<ops.size/\l.getD i true=false/\∀j∈UH ops i,l.getD j false=true:=by
 unfold Region.ready;rw[List.mem_filter,List.mem_range];refine and_congr_right λf=>?_
 rw[Bool.and_eq_true,Bool.not_eq_true'];refine and_congr_right λ_=>?_
 have e:ops[i]?=some ops[i]:=v_ f;unfold UH;rw[e];simp only[Option.map_some,Option.getD_some,Array.all_eq_true',List.mem_map,List.mem_filter,Array.mem_toList_iff,Bool.or_eq_true,Bool.not_eq_true'];constructor
 .rintro h j ⟨a,⟨d,b⟩,rfl⟩;obtain c | c:=h a d
  .rw[c]at b;cases b
  .exact c
 .intro h a d;cases b:Region.binds .any a with
  |false=>exact .inl rfl
  |true=>exact .inr (h _ ⟨a,⟨d,b⟩,rfl⟩)
theorem OW (hl:Lower ops l):∀(j:Nat) (R:List Nat),(∀x∈R,l.getD x false=true)->∀x∈reach ops j R,l.getD x false=true
 |0,R,h=>h
 |j+1,R,h=>by
  unfold reach
  split
  .rename_i b;refine OW hl j _ λx a=>?_
   obtain a|a:=List.mem_append.1 a
   .exact hl j (h j (by simpa using b)) x a
   .exact h x a
  .exact OW hl j R h
theorem KI (h:NM ops k=true) {i j:Nat} (hj:j∈UH ops i):j<i:=by
 unfold NM at h;rw[Bool.and_eq_true,List.all_eq_true]at h;have a:i<ops.size:=by
  by_cases a:i<ops.size
  .exact a
  .unfold UH at hj;rw[Array.getElem?_eq_none (by omega)]at hj;cases hj
 have:=h.1 i (List.mem_range.2 a);rw[List.all_eq_true]at this;simpa using this j hj
theorem WC (h:NM ops k=true) (hl:Lower ops l) {i:Nat} (hi:i<ops.size) (hk:k<=i) (hr:∀j∈UH ops i,l.getD j false=true):∀j,j<i->l.getD j false=true:=by
 unfold NM at h;rw[Bool.and_eq_true,List.all_eq_true,List.all_eq_true]at h;have:=h.2 i (List.mem_range.2 hi);rw[Bool.or_eq_true,List.all_eq_true]at this;obtain a | a:=this
 .have:=of_decide_eq_true a;omega
 .intro j b;exact OW hl i _ hr j (by simpa using a j (List.mem_range.2 b))
theorem Oi {i j:Nat} {b:Bool} (hi:i<l.size):(l.setIfInBounds i true).getD j b=if j=i then true else l.getD j b:=by
 simp only[Array.getD_eq_getD_getElem?,Array.getElem?_setIfInBounds];by_cases e:i=j
 .subst e;simp[hi]
 .simp[e,Ne.symm e]
theorem YV (h:Lower ops l) {i:Nat} (hi:i<l.size) (hr:∀j∈UH ops i,l.getD j false=true):Lower ops (l.setIfInBounds i true):=by
 intro x a j b;rw[Oi hi]at a ⊢;by_cases e:j=i
 .rw[if_pos e]
 .rw[if_neg e];by_cases e2:x=i
  .subst e2;exact hr j b
  .rw[if_neg e2]at a;exact h x a j b
end
section
variable {F:Fence} {n:Nat} {P:l_} {ops:Array Oper} {Q:Exit->Act->o_->Prop} {k:Nat} {S:Nat->Prop}
theorem UB (Hy:NM ops k=true):∀(fuel m:Nat) (l:Array Bool) (a:Act) (w:o_),k<=m->m+fuel=ops.size->l.size=ops.size->(∀j,l.getD j false=decide (j<m))->
  wpListIn F n P ops Q (ops.toList.drop m) a w->wpAnyIn F n P .any ops Q fuel l a w
 |0,m,l,a,w,v,u,r,b,h=>by
  have f:ops.toList.drop m=[]:=List.drop_eq_nil_of_le (by simp;omega)
  rw[f]at h
  refine wpAnyIn_done ?_ h 0
  refine List.eq_nil_iff_forall_not_mem.2 λi d=>?_
  obtain⟨g,c,_⟩:=mem_ready.1 d
  have:=b i
  rw[Array.getD_eq_getD_getElem?,v_ (by omega)]at this c
  simp only[Option.getD_some]at this c
  rw[c]at this
  have:=of_decide_eq_false this.symm
  omega
 |fuel+1,m,l,a,w,v,u,r,b,h=>by
  have f:m<ops.size:=by omega
  have e:ops.toList.drop m=ops[m]::ops.toList.drop (m+1):=by
   rw[List.drop_eq_getElem_cons (by simpa using f)]
   simp
  have y:Lower ops l:=λi d j p=>by
   rw[b]at d ⊢
   have:=of_decide_eq_true d
   have:=KI Hy p
   exact decide_eq_true (by omega)
  have gt:∀i,i<ops.size->l.getD i true=l.getD i false:=λi d=>by
   rw[Array.getD_eq_getD_getElem?,Array.getD_eq_getD_getElem?,v_ (by omega)];rfl
  refine⟨λx=>?_,λi d=>?_⟩
  .exfalso;have:m∈Region.ready .any ops l:=mem_ready.2 ⟨f,by rw[gt m f,b];exact decide_eq_false (by omega),λj p=>by rw[b];exact decide_eq_true (KI Hy p)⟩;rw[x]at this;cases this
  .obtain⟨g,c,t⟩:=mem_ready.1 d;rw[gt i g,b]at c;have c:=of_decide_eq_false c;have s:=WC Hy y g (by omega) t;have o:i=m:=by
    by_cases e:i=m
    .exact e
    .have:=s m (by omega);rw[b]at this;have:=of_decide_eq_true this;omega
   subst o;rw[e]at h;unfold wpOpIn;rw[v_ f];simp only;have go:∀a w,wpListIn F n P ops Q (ops.toList.drop (i+1)) a w->wpAnyIn F n P .any ops Q fuel (l.setIfInBounds i true) a w:=λa w h=>
    UB Hy fuel (i+1) _ a w (by omega) (by omega) (by simp[r]) (λj=>by rw[Oi (by omega),b];by_cases e:j=i<;>simp[e];omega) h
   unfold wpListIn at h;split at h
   .rename_i q;rw[if_pos q];exact Oper.wpIn_mono go h
   .rename_i q;rw[if_neg q];exact⟨h.1,go _ _ h.2⟩
def MZ (u:Y_) (i:Nat) (v:n_):Nat->n_:=λj=>if j=i then v else u j
theorem IP {i:Nat} {K K':Act->o_->Prop} {a:Act} {w:o_} (h:∀a w,K a w->K' a w) (hx:wpOpIn F n P ops Q i K a w):wpOpIn F n P ops Q i K' a w:=by
 unfold wpOpIn at hx ⊢;split
 .rename_i e;rw[e]at hx;exact h _ _ hx
 .rename_i o e;rw[e]at hx;simp only at hx;split
  .rename_i b;rw[if_pos b]at hx;exact Oper.wpIn_mono h hx
  .rename_i b;rw[if_neg b]at hx;exact⟨hx.1,h _ _ hx.2⟩
theorem eY (Hy:NM ops k=true) (hkn:k<ops.size) (A:(Y_)->Act) (Φ:Nat->n_->o_->Prop) (w:o_) (hmono:∀i,i<k->∀v W W',Φ i v W->Keep S W W'->Φ i v W')
  (AO:∀i,i<k->∀u W,Keep S w W->(∀j∈UH ops i,Φ j (u j) W)->wpOpIn F n P ops Q i (λa' W'=>∃v,a'=A (MZ u i v)/\Keep S W W'/\Φ i v W') (A u) W)
  (hrest:∀u W,Keep S w W->(∀i,i<k->Φ i (u i) W)->wpListIn F n P ops Q (ops.toList.drop k) (A u) W):
  ∀(fuel:Nat) (l:Array Bool) (u:Y_) (W:o_),l.size=ops.size->l.toList.count true+fuel=ops.size->Lower ops l->(∀j,k<=j->l.getD j false=false)->Keep S w W->(∀i,i<k->l.getD i false=true->Φ i (u i) W)->
  wpAnyIn F n P .any ops Q fuel l (A u) W
 |0,l,u,W,p,D,y,o,h,c=>by
  exfalso
  have:∀x∈l.toList,true=x:=by
   apply List.count_eq_length.1
   rw[Array.length_toList]
   omega
  have s:=o k (w_ _)
  rw[Array.getD_eq_getD_getElem?,v_ (by omega)]at s
  have:=this l[k] (by simp)
  simp only[Option.getD_some]at s
  rw[s]at this
  cases this
 |fuel+1,l,u,W,p,D,y,o,h,c=>by
  have gt:∀i,i<ops.size->l.getD i true=l.getD i false:=λi d=>by
   rw[Array.getD_eq_getD_getElem?,Array.getD_eq_getD_getElem?,v_ (by omega)];rfl
  by_cases m:∀j,j<k->l.getD j false=true
  .have g:∀j,l.getD j false=decide (j<k):=λj=>by
    by_cases e:j<k
    .rw[m j e];simp[e]
    .rw[o j (by omega)];simp[e]
   have z:l.toList.count true=k:=by
    have e:l.toList=List.replicate k true++List.replicate (ops.size-k) false:=by
     refine List.ext_getElem? λi=>?_
     by_cases d:i<ops.size
     .have:=g i;rw[Array.getD_eq_getD_getElem?,v_ (by omega)]at this;simp only[Option.getD_some]at this;rw[List.getElem?_append];simp only[List.length_replicate,List.getElem?_replicate];rw[show l.toList[i]?=some l[i] by simp[p,d],this];by_cases a:i<k
      .simp[a]
      .simp[a];omega
     .rw[List.getElem?_eq_none (by simp;omega),List.getElem?_eq_none (by simp;omega)]
    rw[e];simp[List.count_append,List.count_replicate]
   exact UB Hy (fuel+1) k l (A u) W (w_ _) (by omega) p g (hrest u W h λi d=>c i d (m i d))
  .refine⟨λE=>?_,λi d=>?_⟩
   .exfalso;apply m;intro j
    induction j using Nat.strongRecOn with
    |_ j G=>
     intro b
     cases t:l.getD j false with
     |true=>rfl
     |false=>
      have:j∈Region.ready .any ops l:=mem_ready.2 ⟨by omega,by rw[gt j (by omega)];exact t,λx q=>G x (KI Hy q) (by have:=KI Hy q;omega)⟩
      rw[E]at this
      cases this
   .obtain⟨B,C,r⟩:=mem_ready.1 d;by_cases a:i<k
    .have q:=AO i a u W h λj b=>c j (by have:=KI Hy b;omega) (r j b)
     refine IP (λa' W'=>?_) q;rintro⟨v,rfl,f,t⟩;refine eY Hy hkn A Φ w hmono AO hrest fuel _ _ W' (by simp[p]) (by rw[count_set C];omega) (YV y (by omega) r) (λj b=>?_) (h.then f) λj b g=>?_
     .rw[Oi (by omega),if_neg (by omega)];exact o j b
     .unfold MZ;by_cases e:j=i
      .rw[if_pos e];subst e;exact t
      .rw[if_neg e];rw[Oi (by omega),if_neg e]at g;exact hmono j b _ _ _ (c j b g) f
    .exfalso;exact m λj b=>WC Hy y B (by omega) r j (by omega)
theorem gV (id:Nat) (hm:P.follows .mixedOrders=true) (k:Nat) (Hy:NM ops k=true) (hkn:k<ops.size) (A:(Y_)->Act) (u0:Y_) (Φ:Nat->n_->o_->Prop) (w:o_) (hmono:∀i,i<k->∀v W W',Φ i v W->Keep S W W'->Φ i v W')
  (AO:∀i,i<k->∀u W,Keep S w.drew W->(∀j∈UH ops i,Φ j (u j) W)->wpOpIn F n P ops Q i (λa' W'=>∃v,a'=A (MZ u i v)/\Keep S W W'/\Φ i v W') (A u) W)
  (hrest:∀u W,Keep S w.drew W->(∀i,i<k->Φ i (u i) W)->wpListIn F n P ops Q (ops.toList.drop k) (A u) W):(Code.region id ops true).wpIn F n P Q (A u0) w:=
 wpIn_region_any hm (eY Hy hkn A Φ w.drew hmono AO hrest ops.size _ u0 _ (by simp) (by simp[List.count_replicate]) (λi a=>by simp[Array.getD]at a) (λj _=>by simp[Array.getD]) (p_ _ _) λi _ a=>by simp[Array.getD]at a)
end
def Ll (ops:Array Oper) (i:Nat):d_ Nat:=(ops[i]?).bind (·.dst)
def qp (ops:Array Oper):List Nat->List Oper
 |[]=>[]
 |i::is=>match ops[i]? with
  |some o=>o::qp ops is
  |none=>qp ops is
def yH (ops:Array Oper) (c:Nat) (i:Nat) (o:Oper):Bool:=
 (o.op.operands.toList.all λx=>match x with
  |.tmp s=>(List.range c).all λj=>!(Ll ops j==some s) || (UH ops i).contains j
  |_=>true) && (match o.guard with
  |none=>true
  |some (j,_)=>(UH ops i).contains j)
def UN (ops:Array Oper) (c N:Nat) (rs ss:List Nat):Bool:=
 NM ops c && decide (c<ops.size) && ((List.range c).all λi=>rs.contains i !=ss.contains i) && rs.all (·<c) && ss.all (·<c) &&
 ((List.range c).all λi=>match ops[i]? with
  |none=>false
  |some o=>yH ops c i o && (match o.dst with|some d=>decide (d<N)|none=>false) && (match o.op with | .select _ _=>false | .defer _=>false|_=>true)) &&
 ((List.range c).all λi=>(List.range c).all λj=>i==j || !(Ll ops i==Ll ops j)) &&
 (rs.all λi=>(UH ops i).all λj=>rs.contains j)
def Q7 (F:Fence) (n:Nat) (P:l_) (ops:Array Oper) (a:Act) (W:o_):List Oper->Prop
 |[]=>True
 |o::os=>(if Region.wanted o (yielded ops a.tmps)then o.wpIn F n P a W (λa' W'=>a'=a/\W'=W) (λ_ _ _=>False)else(∀f,o.about P W a.eval=some f->F.fn f)/\a.put o.dst undef=a)/\Q7 F n P ops a W os
def Jk (ops:Array Oper):List Nat->(Y_)->Act->Act
 |[],_,a=>a
 |i::is,u,a=>Jk ops is u (a.put (Ll ops i) (u i))
def FD (ops:Array Oper) (c:Nat) (a:Act) (u:Y_):Act:=
 ⟨Array.ofFn (n:=a.tmps.size) λs=>match (List.range c).find? (λi=>Ll ops i==some s.1)with|some i=>u i|none=>a.tmps[s.1],a.defers⟩
section
variable {ops:Array Oper} {c N:Nat} {rs ss:List Nat}
structure bT (ops:Array Oper) (c N:Nat) (rs ss:List Nat):Prop where
 free:NM ops c=true
 cl:c<ops.size
 one:∀i,i<c->(i∈rs/\i ∉ ss)\/(i ∉ rs/\i∈ss)
 rl:∀i∈rs,i<c
 sl:∀i∈ss,i<c
 dep:∀i o,i<c->ops[i]?=some o->yH ops c i o=true
 dst:∀i,i<c->∃d,Ll ops i=some d/\d<N
 qp:∀i o,i<c->ops[i]?=some o->(∀cs b,o.op≠.select cs b)/\∀cl,o.op≠.defer cl
 ne:∀i j,i<c->j<c->i≠j->Ll ops i≠Ll ops j
 rr:∀i∈rs,∀j∈UH ops i,j∈rs
theorem UN.out (h:UN ops c N rs ss=true):bT ops c N rs ss:=by
 unfold UN at h;simp only[Bool.and_eq_true,List.all_eq_true,List.mem_range,decide_eq_true_eq]at h;obtain⟨⟨⟨⟨⟨⟨⟨m,n⟩,p⟩,q⟩,r⟩,f⟩,s⟩,t⟩:=h;refine⟨m,n,λi a=>?_,λi a=>by simpa using q i a,λi a=>by simpa using r i a,λi o a l=>?_,λi a=>?_,λi o a l=>?_,λi j a k g=>?_,λi a j k=>by simpa using t i a j k⟩
 .have:=p i a;by_cases v:i∈rs<;>by_cases w:i∈ss<;>simp[v,w]at this ⊢
 .have:=f i a;rw[l]at this;simp only[Bool.and_eq_true]at this;exact this.1.1
 .have:=f i a;have e:ops[i]?=some (ops[i]'(by omega)):=v_ (by omega);rw[e]at this;simp only[Bool.and_eq_true]at this;have:=this.1.2;unfold Ll;rw[e];simp only[Option.bind_some];split at this
  .rename_i d u;exact⟨d,u,by simpa using this⟩
  .cases this
 .have:=f i a;rw[l]at this;simp only[Bool.and_eq_true]at this;have:=this.2;refine⟨λy b e=>?_,λx e=>?_⟩<;>(rw[e]at this;cases this)
 .have:=s i a j k;simp[g]at this;exact this
theorem ς (a:Act) (u:Y_):(FD ops c a u).tmps.size=a.tmps.size:=by simp[FD]
theorem Md (M:bT ops c N rs ss) {a:Act} (hN:a.tmps.size=N) (u:Y_) {i d:Nat} (hi:i<c) (hd:Ll ops i=some d) (hdN:d<N):(FD ops c a u).tmps[d]?=some (u i):=by
 unfold FD;simp only[Array.getElem?_ofFn,hN,hdN];have:(List.range c).find? (λj=>Ll ops j==some d)=some i:=by
  refine List.find?_eq_some_iff_getElem.2 ⟨by simp[hd],i,by simpa using hi,by simp,λj b=>?_⟩
  have:=M.ne j i (by omega) hi (by omega)
  rw[hd]at this
  simpa using this
 simp[this]
theorem Gh (a:Act) (u:Y_) {s:Nat} (h:∀i,i<c->Ll ops i≠some s):(FD ops c a u).tmps[s]?=a.tmps[s]?:=by
 unfold FD;by_cases b:s<a.tmps.size
 .simp only[Array.getElem?_ofFn,b];have:(List.range c).find? (λj=>Ll ops j==some s)=none:=by
   refine List.find?_eq_none.2 λj d=>?_
   simpa using h j (by simpa using d)
  simp[this]
 .rw[Array.getElem?_eq_none (by simpa using b),Array.getElem?_eq_none (by simpa using b)]
theorem OG {a b:Act} (h:∀s:Nat,a.tmps[s]?=b.tmps[s]?) (hd:a.defers=b.defers):a=b:=by
 obtain⟨e,c⟩:=a;obtain⟨f,d⟩:=b;simp only at h hd;rw[hd,Array.ext_getElem? (λi=>h i)]
theorem PD (a:Act) (d:Nat) (v:n_) (s:Nat):(a.put (some d) v).tmps[s]?=if s=d then(if d<a.tmps.size then some v else none)else a.tmps[s]?:=by
 simp only[Act.put,Array.getElem?_setIfInBounds];by_cases e:d=s
 .subst e;simp
 .simp[e,Ne.symm e]
theorem VE (M:bT ops c N rs ss) {a:Act} (hN:a.tmps.size=N) (u:Y_) {i:Nat} (hi:i<c) (v:n_):(FD ops c a u).put (Ll ops i) v=FD ops c a (MZ u i v):=by
 obtain⟨d,g,h⟩:=M.dst i hi;rw[g];refine OG (λs=>?_) rfl;rw[PD];by_cases e:s=d
 .subst e;rw[if_pos rfl,ς,if_pos (by omega),Md M hN _ hi g h];simp[MZ]
 .rw[if_neg e];by_cases m:∃j,j<c/\Ll ops j=some s
  .obtain⟨j,b,f⟩:=m;obtain⟨p,l,n⟩:=M.dst j b;have:s<N:=(by rw[f]at l;cases l;exact n);rw[Md M hN _ b f this,Md M hN _ b f this];have:j≠i:=λe2=>by subst e2;rw[f]at g;cases g;exact e rfl
   simp[MZ,this]
  .have k:∀j,j<c->Ll ops j≠some s:=λj b o=>m ⟨j,b,o⟩
   rw[Gh _ _ k,Gh _ _ k]
end
section
variable {F:Fence} {n:Nat} {P:l_} {ops:Array Oper} {o:Oper} {a a':Act} {W:o_}
theorem rV {d:Nat} {v v':n_} (hd:d<a.tmps.size) (h:a.put (some d) v=a.put (some d) v'):v=v':=by
 have:=congrArg (λx:Act=>x.tmps[d]?) h;simp only[PD,if_pos hd,if_true]at this;exact x_ this
theorem ae9 (hF:F.round=none) {Φ:n_->o_->Prop} (hs:(∀cs b,o.op≠.select cs b)/\∀cl,o.op≠.defer cl) {d:Nat} (hd:o.dst=some d) (hda:d<a.tmps.size) (he:∀x∈o.op.operands,a.eval x=a'.eval x)
  (h:o.wpIn F n P a W (λb W'=>∃v,b=a.put (some d) v/\Φ v W') (λ_ _ _=>False)) {Q:Exit->Act->o_->Prop}:o.wpIn F n P a' W (λb W'=>∃v,b=a'.put (some d) v/\Φ v W') Q:=by
 obtain⟨w,g⟩:=h;refine⟨λf m=>w f (by rw[about_congr o W he];exact m),?_⟩;rw[hF,Oper.semAt_none]at g ⊢;rw[<-execOp_congr o hs.1 he]
 revert g
 generalize (execOp a.eval o).run P W=r;intro g;have key:∀v W',(∃j,a.put o.dst v=a.put (some d) j/\Φ j W')->∃j,a'.put o.dst v=a'.put (some d) j/\Φ j W':=by
  rintro v W' ⟨j,e,s⟩
  rw[hd]at e ⊢
  have:=rV hda e
  subst this
  exact⟨_,rfl,s⟩
 match r,g with
 |.ok (.value v) k,g=>exact key _ _ g
 |.ok .skip k,g=>exact key _ _ g
 |.ok (.defer z) k,g=>
  exfalso
  obtain⟨v,e,_⟩:=g
  have:=congrArg Act.defers e
  rw[hd]at this
  simp[Act.put]at this
 |.ok (.enter f args) k,g=>
  refine⟨g.1,g.2.mono λe p i=>?_⟩
  match e,i with
  |.returned v,i=>exact key _ _ i
  |.panicked u,i=>exact i.elim
  |.outgrown,i=>exact i.elim λ_ q=>q.elim λ_ m=>m.elim
 |.ok (.row row args) k,g=>exact⟨g.1,λc cs y=>let ⟨v,p,hR,hS⟩:=g.2 c cs y;⟨v,p,key _ _ hR,hS⟩⟩
 |.ok (.round l f tmps assign t) k,g=>
  refine⟨g.1,g.2.mono λe p i=>?_⟩
  match e,i with
  |.returned v,i=>exact key _ _ i
  |.panicked u,i=>exact i.elim
  |.outgrown,i=>exact i.elim λ_ q=>q.elim λ_ m=>m.elim
 |.halt (.panic v) k,g=>exact g.elim
theorem ZU {ts ts':X_} (h:∀j b,o.guard=some (j,b)->yielded ops ts j=yielded ops ts' j):Region.wanted o (yielded ops ts)=Region.wanted o (yielded ops ts'):=by
 unfold Region.wanted;split
 .rfl
 .rename_i j b a;rw[h j b a]
theorem fB (a:Act) (s:Nat):a.eval (.tmp s)=(a.tmps[s]?).getD undef:=by
 show a.tmps.getD s undef=_;rw[Array.getD_eq_getD_getElem?]
theorem Qy {c N:Nat} {rs ss:List Nat} (M:bT ops c N rs ss) (hF:F.round=none) {Φ:n_->o_->Prop} {i:Nat} (hi:i<c) (hN:a.tmps.size=N)
  (he:∀s,(∀j,j<c->Ll ops j=some s->j∈UH ops i)->a.tmps[s]?=a'.tmps[s]?)
  (h:wpOpIn F n P ops (λ_ _ _=>False) i (λb W'=>∃v,b=a.put (Ll ops i) v/\Φ v W') a W) {Q:Exit->Act->o_->Prop}:wpOpIn F n P ops Q i (λb W'=>∃v,b=a'.put (Ll ops i) v/\Φ v W') a' W:=by
 obtain⟨d,t,D⟩:=M.dst i hi;have l:∃o,ops[i]?=some o:=⟨_,v_ (by have:=M.cl;omega)⟩;obtain⟨o,l⟩:=l;have m:o.dst=some d:=by unfold Ll at t;rw[l]at t;exact t
 have r:=M.dep i o hi l;unfold yH at r;rw[Bool.and_eq_true,List.all_eq_true]at r;have p:∀x∈o.op.operands,a.eval x=a'.eval x:=λx I=>by
  have:=r.1 x (by simpa using I)
  cases x with
  |tmp s=>
   simp only[List.all_eq_true,List.mem_range,Bool.or_eq_true,Bool.not_eq_true',beq_eq_false_iff_ne]at this
   rw[fB,fB,he s λj q w=>by obtain h|h:=this j q;exact absurd w h;simpa using h]
  |const v=>rfl
  |global g=>rfl
  |func g=>rfl
 have H:Region.wanted o (yielded ops a.tmps)=Region.wanted o (yielded ops a'.tmps):=ZU λj b G=>by
  have A:=r.2
  rw[G]at A
  have q:j∈UH ops i:=by simpa using A
  unfold yielded
  show(match (Ll ops j).bind (a.tmps[·]?)with|some (.bool b)=>some b|_=>none)=(match (Ll ops j).bind (a'.tmps[·]?)with|some (.bool b)=>some b|_=>none)
  obtain⟨C,z,_⟩:=M.dst j (by have:=KI M.free q;omega)
  rw[z]
  simp only[Option.bind_some]
  rw[he C λB u w=>by
   by_cases e:B=j
   .exact e ▸ q
   .exact absurd (w.trans z.symm) (M.ne B j u (by have:=KI M.free q;omega) e)]
 unfold wpOpIn at h ⊢;rw[l]at h ⊢;simp only at h ⊢;rw[t]at h ⊢;rw[<-H];split
 .rename_i k;rw[if_pos k]at h;exact ae9 hF (M.qp i o hi l) m (by omega) p h
 .rename_i k;rw[if_neg k]at h;refine⟨λf E=>h.1 f (by rw[about_congr o W p];exact E),?_⟩;obtain⟨v,e,y⟩:=h.2;rw[m]at e ⊢;have:=rV (by omega) e;subst this;exact⟨_,rfl,y⟩
end
section
variable {F:Fence} {n:Nat} {P:l_} {ops:Array Oper} {c N:Nat} {rs ss:List Nat}
theorem VG (hd:F.depth=none) {C:Act->Prop}:∀(l:List Oper) (a:Act) (W:o_),wpListIn F n P ops (λe a' _=>e=.normal/\C a') l a W->∃a1,C a1
 |[],a,W,h=>⟨a,h.2⟩
 |o::l,a,W,h=>by
  have room:∀k,F.room k:=λk d j=>by rw[hd]at j;cases j
  unfold wpListIn at h
  split at h
  .obtain⟨_,b⟩:=h
   revert b
   generalize (o.semAt F.round a.eval).run P W=r;intro b;have go:∀a W,wpListIn F n P ops (λe a' _=>e=.normal/\C a') l a W->∃a1,C a1:=λa W h=>VG hd l a W h
   match r,b with
   |.ok (.value v) g,b=>exact go _ _ b
   |.ok .skip g,b=>exact go _ _ b
   |.ok (.defer w) g,b=>exact go _ _ b
   |.ok (.enter f args) g,b=>
    obtain⟨e,q,x,i,_⟩:=b.2.2 [] (room _)
    match e,i with
    |.returned v,c=>exact go _ _ c
    |.panicked u,c=>cases c.1
    |.outgrown,c=>exact c.elim λ_ p=>p.elim λ_ m=>by cases m.1
   |.ok (.row row args) g,b=>
    obtain⟨v,q,i,_⟩:=b.2 default [] (room _)
    exact go _ _ i
   |.ok (.round y f t assign s) g,b=>
    obtain⟨e,q,i,_⟩:=b.2.2 default [] (room _)
    match e,i with
    |.returned v,c=>exact go _ _ c
    |.panicked u,c=>cases c.1
    |.outgrown,c=>exact c.elim λ_ p=>p.elim λ_ m=>by cases m.1
   |.halt (.panic v) g,b=>cases b.1
  .exact VG hd l _ _ h.2
theorem Td {a:Act} {W:o_}:∀(l:List Nat),Q7 F n P ops a W (qp ops l)->∀i∈l,∀o,ops[i]?=some o->(if Region.wanted o (yielded ops a.tmps)then o.wpIn F n P a W (λa' W'=>a'=a/\W'=W) (λ_ _ _=>False)else(∀f,o.about P W a.eval=some f->F.fn f)/\a.put o.dst undef=a)
 |[],_,i,b,_,_=>by cases b
 |j::l,h,i,b,o,c=>by
  unfold qp at h
  obtain e|b:=r_.1 b
  .subst e;rw[c]at h;exact h.1
  .cases hj:ops[j]? with
   |none=>rw[hj]at h;exact Td l h i b o c
   |some d=>rw[hj]at h;exact Td l h.2 i b o c
theorem Em:∀(l:List Nat) (u:Y_) (a:Act) (s:Nat),(∀i∈l,Ll ops i≠some s)->(Jk ops l u a).tmps[s]?=a.tmps[s]?
 |[],_,_,_,_=>rfl
 |i::l,u,a,s,h=>by
  unfold Jk
  rw[Em l u _ s λj b=>h j (List.mem_cons_of_mem _ b)]
  have:=h i (List.mem_cons_self ..)
  cases hd:Ll ops i with
  |none=>rfl
  |some d=>rw[PD,if_neg];rintro rfl;exact this hd
theorem dm (a:Act) (d:d_ Nat) (v:n_):(a.put d v).tmps.size=a.tmps.size:=by cases d<;>simp[Act.put]
theorem put_defers (a:Act) (d:d_ Nat) (v:n_):(a.put d v).defers=a.defers:=by cases d<;>rfl
theorem Oo:∀(l:List Nat) (u:Y_) (a:Act),(Jk ops l u a).tmps.size=a.tmps.size
 |[],_,_=>rfl
 |i::l,u,a=>by unfold Jk;rw[Oo l,dm]
theorem JZ:∀(l:List Nat) (u:Y_) (a:Act),(Jk ops l u a).defers=a.defers
 |[],_,_=>rfl
 |i::l,u,a=>by unfold Jk;rw[JZ l,put_defers]
theorem Oz (M:bT ops c N rs ss):∀(l:List Nat) (u:Y_) (a:Act),(∀i∈l,i<c)->a.tmps.size=N->∀i∈l,∀d,Ll ops i=some d->(Jk ops l u a).tmps[d]?=some (u i)
 |[],_,_,_,_,i,b,_,_=>by cases b
 |j::l,u,a,g,n,i,b,d,f=>by
  unfold Jk
  by_cases k:i∈l
  .exact Oz M l u _ (λx h=>g x (List.mem_cons_of_mem _ h)) (by rw[dm];exact n) i k d f
  .have e:i=j:=(by obtain e|e:=r_.1 b;exact e;exact absurd e k);subst e;obtain⟨q,m,o⟩:=M.dst i (g i b);rw[f]at m;cases m;rw[Em l u _ d,f,PD,if_pos rfl,if_pos (by omega)];intro x h p;by_cases e:x=i
   .exact k (e ▸ h)
   .exact M.ne x i (g x (List.mem_cons_of_mem _ h)) (g i b) e (p.trans f.symm)
def Vs (ops:Array Oper) (a1:Act) (i:Nat):n_:=(a1.tmps[(Ll ops i).getD 0]?).getD undef
structure VO (F:Fence) (n:Nat) (P:l_) (ops:Array Oper) (S:Nat->Prop) (Q:Exit->Act->o_->Prop) (a:Act) (w:o_) (c:Nat) (rs ss:List Nat) (l:List Oper) (l':List Oper) (Φ:Nat->n_->o_->Prop) (a1:Act):Prop where
 act:a1=Jk ops rs (Vs ops a1) a
 each:∀W,Keep S w.drew W->Q7 F n P ops a1 W l
 spec:∀i∈ss,∀u W,Keep S w.drew W->(∀j∈ss,j∈UH ops i->Φ j (u j) W)->wpOpIn F n P ops (λ_ _ _=>False) i (λa' W'=>∃v,a'=(Jk ops ss u a1).put (Ll ops i) v/\Keep S W W'/\Φ i v W') (Jk ops ss u a1) W
 rest:∀u W,Keep S w.drew W->(∀j∈ss,Φ j (u j) W)->wpListIn F n P ops Q l' (Jk ops ss u a1) W
theorem CP (S:Nat->Prop) (id:Nat) (hF:F.round=none) (hF2:F.depth=none) (hm:P.follows .mixedOrders=true) {Q:Exit->Act->o_->Prop} {a:Act} {w:o_} (c N:Nat) (rs ss:List Nat) (Hy:UN ops c N rs ss=true) (hN:a.tmps.size=N) (Φ:Nat->n_->o_->Prop)
  (hmono:∀i∈ss,∀v W W',Φ i v W->Keep S W W'->Φ i v W') (l l':List Oper) (hl:qp ops rs=l) (hl':ops.toList.drop c=l')
  (h:wpListIn F n P ops (λe a1 _=>e=.normal/\VO F n P ops S Q a w c rs ss l l' Φ a1) l a w.drew):(Code.region id ops true).wpIn F n P Q a w:=by
 subst hl hl';have M:=UN.out Hy;obtain⟨a1,X,hE,hS,hR⟩:=VG hF2 (C:=VO F n P ops S Q a w c rs ss (qp ops rs) (ops.toList.drop c) Φ) _ _ _ h;have Ϲ:a1.tmps.size=N:=by rw[X,Oo];exact hN
 have V:∀i∈rs,∀d,Ll ops i=some d->a1.tmps[d]?=some (Vs ops a1 i):=λi z d B=>by
  have:=Oz M rs (Vs ops a1) a (λx g=>M.rl x g) hN i z d B
  rw[<-X]at this
  exact this
 have G:∀s,(∀i∈rs,Ll ops i≠some s)->a1.tmps[s]?=a.tmps[s]?:=λs D=>by
  have:=Em rs (Vs ops a1) a s D
  rw[<-X]at this
  exact this
 have a1D:a1.defers=a.defers:=by rw[X,JZ]
 refine Eq.mp ?_ (gV (S:=S) (F:=F) (n:=n) (P:=P) (ops:=ops) (Q:=Q) id hm c M.free M.cl (FD ops c a) (λi=>Vs ops a i) (λi v W=>if i∈rs then v=Vs ops a1 i else Φ i v W) w ?_ ?_ ?_)
 .congr 1
  refine OG (λs=>?_) rfl;by_cases D:∃j,j<c/\Ll ops j=some s
  .obtain⟨j,f,k⟩:=D;obtain⟨d',t,E⟩:=M.dst j f;have H:s<N:=(by rw[k]at t;cases t;exact E);rw[Md M hN _ f k H];unfold Vs;rw[k];simp only[Option.getD_some];rw[v_ (by omega)]
   rfl
  .exact Gh _ _ λj f m=>D ⟨j,f,m⟩
 .intro i z v W W' J I;by_cases y:i∈rs
  .simp only[if_pos y]at J ⊢;exact J
  .simp only[if_neg y]at J ⊢;obtain⟨p,_⟩|⟨_,q⟩:=M.one i z
   .exact absurd p y
   .exact hmono i q v W W' J I
 .intro i z u W I Z;by_cases y:i∈rs
  .have Y:∀s,(∀j,j<c->Ll ops j=some s->j∈UH ops i)->a1.tmps[s]?=(FD ops c a u).tmps[s]?:=λs D=>by
    by_cases g:∃j,j<c/\Ll ops j=some s
    .obtain⟨j,f,k⟩:=g;obtain⟨d',t,E⟩:=M.dst j f;have H:s<N:=(by rw[k]at t;cases t;exact E);have A:=D j f k;have r:=M.rr i y j A;have:=Z j A;rw[if_pos r]at this;rw[Md M hN _ f k H,V j r s k,this]
    .rw[Gh _ _ λj f m=>g ⟨j,f,m⟩,G s λj f m=>g ⟨j,M.rl j f,m⟩]
   have L:∃o,ops[i]?=some o:=⟨_,v_ (by have:=M.cl;omega)⟩;obtain⟨o,L⟩:=L;obtain⟨d,B,hdN⟩:=M.dst i z;have K:o.dst=some d:=(by unfold Ll at B;rw[L]at B;exact B);have g:=Td rs (hE W I) i y o L;have T:∀v,a1.put (some d) v=a1->v=Vs ops a1 i:=λv e=>by
    have p:=congrArg (λx:Act=>x.tmps[d]?) e
    simp only[PD,if_true,if_pos (show d<a1.tmps.size by omega)]at p
    rw[V i y d B]at p
    exact x_ p
   have U:a1.put (some d) (Vs ops a1 i)=a1:=OG (λs=>by
    rw[PD]
    by_cases e:s=d
    .subst e;rw[if_pos rfl,if_pos (by omega),V i y s B]
    .rw[if_neg e]) (put_defers _ _ _)
   have O:wpOpIn F n P ops (λ_ _ _=>False) i (λb W'=>∃v,b=a1.put (Ll ops i) v/\(v=Vs ops a1 i/\W'=W)) a1 W:=by
    unfold wpOpIn
    rw[L,B]
    simp only
    split
    .rename_i O;rw[if_pos O]at g;exact Oper.wpIn_mono (λb W' ⟨e1,e2⟩=>⟨Vs ops a1 i,by rw[U];exact e1,rfl,e2⟩) g
    .rename_i O;rw[if_neg O]at g;refine⟨g.1,undef,by rw[K],?_⟩;rw[K]at g;exact⟨T _ g.2,trivial⟩
   refine IP (λb W'=>?_) (Qy M hF z Ϲ Y O (Q:=Q));rintro⟨v,rfl,rfl,rfl⟩;exact⟨_,VE M hN u z _,p_ _ _,by simp only[if_pos y]⟩
  .have his:i∈ss:=by
    obtain⟨p,_⟩|⟨_,q⟩:=M.one i z
    .exact absurd p y
    .exact q
   have nr:∀j∈ss,j ∉ rs:=λj f r=>by
    obtain⟨_,q⟩|⟨p,_⟩:=M.one j (M.sl j f)
    .exact q f
    .exact p r
   have g:=hS i his u W I λj f A=>by
    have:=Z j A
    rw[if_neg (nr j f)]at this
    exact this
   have Y:∀s,(∀j,j<c->Ll ops j=some s->j∈UH ops i)->(Jk ops ss u a1).tmps[s]?=(FD ops c a u).tmps[s]?:=λs D=>by
    by_cases g:∃j,j<c/\Ll ops j=some s
    .obtain⟨j,f,k⟩:=g;obtain⟨d',t,E⟩:=M.dst j f;have H:s<N:=(by rw[k]at t;cases t;exact E);rw[Md M hN _ f k H];obtain⟨p,q⟩|⟨p,q⟩:=M.one j f
     .have:=Z j (D j f k);rw[if_pos p]at this;rw[Em ss u a1 s,V j p s k,this];intro x g m;exact M.ne x j (M.sl x g) f (λe=>q (e ▸ g)) (m.trans k.symm)
     .exact Oz M ss u a1 (λx g=>M.sl x g) Ϲ j q s k
    .rw[Gh _ _ λj f m=>g ⟨j,f,m⟩,Em ss u a1 s λj f m=>g ⟨j,M.sl j f,m⟩,G s λj f m=>g ⟨j,M.rl j f,m⟩]
   refine IP (λb W'=>?_) (Qy M hF z (by rw[Oo];exact Ϲ) Y g (Q:=Q));rintro⟨v,rfl,hK',J⟩;exact⟨_,VE M hN u z _,hK',by simp only[if_neg y];exact J⟩
 .intro u W I R;have nr:∀j∈ss,j ∉ rs:=λj f r=>by
   obtain⟨_,q⟩|⟨p,_⟩:=M.one j (M.sl j f)
   .exact q f
   .exact p r
  have e:FD ops c a u=Jk ops ss u a1:=by
   refine OG (λs=>?_) (by rw[JZ];exact a1D.symm)
   by_cases g:∃j,j<c/\Ll ops j=some s
   .obtain⟨j,f,k⟩:=g;obtain⟨d',t,E⟩:=M.dst j f;have H:s<N:=(by rw[k]at t;cases t;exact E);rw[Md M hN _ f k H];obtain⟨p,q⟩|⟨p,q⟩:=M.one j f
    .have:=R j f;rw[if_pos p]at this;rw[Em ss u a1 s,V j p s k,this];intro x g m;exact M.ne x j (M.sl x g) f (λe=>q (e ▸ g)) (m.trans k.symm)
    .exact(Oz M ss u a1 (λx g=>M.sl x g) Ϲ j q s k).symm
   .rw[Gh _ _ λj f m=>g ⟨j,f,m⟩,Em ss u a1 s λj f m=>g ⟨j,M.sl j f,m⟩,G s λj f m=>g ⟨j,M.rl j f,m⟩]
  rw[e];exact hR u W I λj f=>by
   have:=R j (M.sl j f)
   rw[if_neg (nr j f)]at this
   exact this
end
section
variable {P:l_} {α:Type} {w:o_} {a:f_} {u:n_}
theorem uO {v:n_} {c:Sem α} (hv:v.oneCell'=true) (h:w.cell? a=some u) (hf:w.frozen? a=false):(Sem.store .plain a v c).run P w=c.run P (w.setCell a v):=by
 cases v<;>first|(simp[Value.oneCell']at hv;done)|simp only[Sem.run,h,hf,Bool.false_eq_true,if_false]
end
section
variable {F:Fence} {n:Nat} {P:l_} {w w':o_} {ops:Array Oper} {rest:List Oper} {o:Oper} {a:Act} {Q:Exit->Act->o_->Prop}
theorem Ot (hg:o.guard=none) (s y:Operand) (ts:Array j_) (AO:o.op=Op.call { callee:=Callee.builtin .copy,args:=#[s,y],argTypes:=ts }) {v v2 x:n_} (hs:a.eval s=v) (hy:a.eval y=v2)
  (Bi:(Builtin.copy_ ts o.type #[v,v2]).run P w=.ok x w') (hK:wpListIn F n P ops Q rest (a.put o.dst x) w'):wpListIn F n P ops Q (o::rest) a w:=by
 refine wpListIn_plain hg λK b=>?_
 unfold Oper.wpIn;refine⟨?_,?_⟩
 .simp[Oper.about,AO,resolve,Target.leads,Sem.run_pure]
 .rw[Oper.semAt_plain F _ _ (by rw[AO];intro c d;cases d)];simp[execOp,AO,resolve,invoke,builtin,hs,hy,Bi,Result.andThen];exact b _ _ hK
theorem Cc (hg:o.guard=none) (s y:Operand) (ts:Array j_) (AO:o.op=Op.call { callee:=Callee.builtin .append,args:=#[s,y],argTypes:=ts }) {v v2 x:n_} (hs:a.eval s=v) (hy:a.eval y=v2)
  (Bi:(Builtin.append_ ts o.type #[v,v2]).run P w=.ok x w') (hK:wpListIn F n P ops Q rest (a.put o.dst x) w'):wpListIn F n P ops Q (o::rest) a w:=by
 refine wpListIn_plain hg λK b=>?_
 unfold Oper.wpIn;refine⟨?_,?_⟩
 .simp[Oper.about,AO,resolve,Target.leads,Sem.run_pure]
 .rw[Oper.semAt_plain F _ _ (by rw[AO];intro c d;cases d)];simp[execOp,AO,resolve,invoke,builtin,hs,hy,Bi,Result.andThen];exact b _ _ hK
end
theorem PQ {ks:X_} {i:Nat} {v:n_} (h:ks[i]?=some v):ks.setIfInBounds i v=ks:=by
 apply Array.ext_getElem?;intro j;rw[Array.getElem?_setIfInBounds];by_cases e:i=j
 .subst e;rw[if_pos rfl,h];split
  .rfl
  .rename_i a;rw[Array.getElem?_eq_none (by omega)]at h;cases h
 .rw[if_neg e]
theorem BC {ks:X_} {i j:Nat} {v:n_} (h:i≠j):(ks.setIfInBounds i v)[j]?=ks[j]?:=by rw[Array.getElem?_setIfInBounds,if_neg h]
theorem Nq {ks:X_} {i:Nat} {v u:n_} (h:ks[i]?=some u):(ks.setIfInBounds i v)[i]?=some v:=by
 rw[Array.getElem?_setIfInBounds,if_pos rfl,if_pos (y_.1 h).1]
theorem BL {w:o_} {b c:Nat} {x y:X_} {T U:j_} {f g:Nat×Nat} (h:w.heap[b]?=some (.cells x T f)) (k:w.heap[c]?=some (.cells y U g)) (n:T≠U):b≠c:=λe=>by
 subst e;rw[h]at k;cases k;exact n rfl
/-! ### readers and others of a region, one by one -/
section
variable {F:Fence} {n:Nat} {P:l_} {W:o_} {ops:Array Oper} {o:Oper} {os:List Oper} {a:Act}
theorem Xg {C:Act->o_->Prop} {K:Act->o_->Prop} (h:o.wpIn F n P a W K (λe a' w'=>e=.normal/\C a' w')):o.wpIn F n P a W K (λ_ _ _=>False):=by
 obtain⟨p,b⟩:=h;refine⟨p,?_⟩
 revert b
 generalize (o.semAt F.round a.eval).run P W=r;intro b
 match r,b with
 |.ok (.value v) w',b=>exact b
 |.ok .skip w',b=>exact b
 |.ok (.defer q) w',b=>exact b
 |.ok (.enter f args) w',b=>
  refine⟨b.1,b.2.mono λe k c=>?_⟩
  match e,c with
  |.returned v,c=>exact c
  |.panicked m,c=>cases c.1
  |.outgrown,c=>exact c.elim λ_ g=>g.elim λ_ d=>by cases d.1
 |.ok (.row row args) w',b=>exact⟨b.1,b.2⟩
 |.ok (.round l f j assign i) w',b=>
  refine⟨b.1,b.2.mono λe k c=>?_⟩
  match e,c with
  |.returned v,c=>exact c
  |.panicked m,c=>cases c.1
  |.outgrown,c=>exact c.elim λ_ g=>g.elim λ_ d=>by cases d.1
 |.halt (.panic v) w',b=>cases b.1
theorem Az (h:wpListIn F n P ops (λe a' W'=>e=.normal/\a'=a/\W'=W) [o] a W) (hs:Q7 F n P ops a W os):Q7 F n P ops a W (o::os):=by
 refine⟨?_,hs⟩;unfold wpListIn at h;split at h
 .rename_i b;rw[if_pos b];exact Oper.wpIn_mono (λ_ _ c=>c.2) (Xg h)
 .rename_i b;rw[if_neg b];exact⟨h.1,h.2.2.1⟩
theorem af0 {i:Nat} {K:Act->o_->Prop} (hi:ops[i]?=some o) (h:wpListIn F n P ops (λe a' W'=>e=.normal/\K a' W') [o] a W):wpOpIn F n P ops (λ_ _ _=>False) i K a W:=by
 unfold wpOpIn;rw[hi];simp only;unfold wpListIn at h;split at h
 .rename_i b;rw[if_pos b];exact Oper.wpIn_mono (λ_ _ c=>c.2) (Xg h)
 .rename_i b;rw[if_neg b];exact⟨h.1,h.2.2⟩
theorem BJ {i:Nat} {K:Act->o_->Prop} (hi:ops[i]?=some o) (h:∀KK:Act->o_->Prop,(∀a' W',K a' W'->KK a' W')->wpListIn F n P ops (λe a' W'=>e=.normal/\KK a' W') [o] a W):wpOpIn F n P ops (λ_ _ _=>False) i K a W:=
 af0 hi (h K λ_ _ h=>h)
end
def Pq (L:Nat->Bool) (i:Nat):Nat->Bool:=λj=>if j=i then true else L j
section
variable {F:Fence} {n:Nat} {P:l_} {ops:Array Oper} {Q:Exit->Act->o_->Prop} {k:Nat}
theorem eX (Hy:NM ops k=true) (hkn:k<ops.size) (A:(Y_)->Act) (I:(Nat->Bool)->(Y_)->o_->Prop)
  (AO:∀i,i<k->∀L u W,I L u W->L i=false->(∀j∈UH ops i,L j=true)->wpOpIn F n P ops Q i (λa' W'=>∃v,a'=A (MZ u i v)/\I (Pq L i) (MZ u i v) W') (A u) W)
  (hrest:∀L u W,I L u W->(∀i,i<k->L i=true)->wpListIn F n P ops Q (ops.toList.drop k) (A u) W):
  ∀(fuel:Nat) (l:Array Bool) (u:Y_) (W:o_),l.size=ops.size->l.toList.count true+fuel=ops.size->Lower ops l->(∀j,k<=j->l.getD j false=false)->I (λj=>l.getD j false) u W->
  wpAnyIn F n P .any ops Q fuel l (A u) W
 |0,l,u,W,f,z,r,c,p=>by
  exfalso
  have:∀x∈l.toList,true=x:=by
   apply List.count_eq_length.1
   rw[Array.length_toList]
   omega
  have o:=c k (w_ _)
  rw[Array.getD_eq_getD_getElem?,v_ (by omega)]at o
  have:=this l[k] (by simp)
  simp only[Option.getD_some]at o
  rw[o]at this
  cases this
 |fuel+1,l,u,W,f,z,r,c,p=>by
  have gt:∀i,i<ops.size->l.getD i true=l.getD i false:=λi d=>by
   rw[Array.getD_eq_getD_getElem?,Array.getD_eq_getD_getElem?,v_ (by omega)];rfl
  by_cases b:∀j,j<k->l.getD j false=true
  .have w:∀j,l.getD j false=decide (j<k):=λj=>by
    by_cases e:j<k
    .rw[b j e];simp[e]
    .rw[c j (by omega)];simp[e]
   have t:l.toList.count true=k:=by
    have e:l.toList=List.replicate k true++List.replicate (ops.size-k) false:=by
     refine List.ext_getElem? λi=>?_
     by_cases d:i<ops.size
     .have:=w i;rw[Array.getD_eq_getD_getElem?,v_ (by omega)]at this;simp only[Option.getD_some]at this;rw[List.getElem?_append];simp only[List.length_replicate,List.getElem?_replicate];rw[show l.toList[i]?=some l[i] by simp[f,d],this];by_cases a:i<k
      .simp[a]
      .simp[a];omega
     .rw[List.getElem?_eq_none (by simp;omega),List.getElem?_eq_none (by simp;omega)]
    rw[e];simp[List.count_append,List.count_replicate]
   exact UB Hy (fuel+1) k l (A u) W (w_ _) (by omega) f w (hrest _ u W p b)
  .refine⟨λB=>?_,λi d=>?_⟩
   .exfalso;apply b;intro j
    induction j using Nat.strongRecOn with
    |_ j C=>
     intro q
     cases hv:l.getD j false with
     |true=>rfl
     |false=>
      have:j∈Region.ready .any ops l:=mem_ready.2 ⟨by omega,by rw[gt j (by omega)];exact hv,λx g=>C x (KI Hy g) (by have:=KI Hy g;omega)⟩
      rw[B]at this
      cases this
   .obtain⟨s,h,m⟩:=mem_ready.1 d;by_cases a:i<k
    .have g:=AO i a _ u W p (by rw[gt i s]at h;exact h) m;refine IP (λa' W'=>?_) g;rintro⟨v,rfl,y⟩;refine eX Hy hkn A I AO hrest fuel _ _ W' (by simp[f]) (by rw[count_set h];omega) (YV r (by omega) m) (λj q=>?_) ?_
     .rw[Oi (by omega),if_neg (by omega)];exact c j q
     .have e:(λj=>(l.setIfInBounds i true).getD j false)=Pq (λj=>l.getD j false) i:=funext λj=>Oi (by omega)
      rw[e];exact y
    .exfalso;exact b λj q=>WC Hy r s (by omega) m j (by omega)
structure zT (F:Fence) (n:Nat) (P:l_) (ops:Array Oper) (Q:Exit->Act->o_->Prop) (a:Act) (w:o_) (c:Nat) (rs ss:List Nat) (l l':List Oper) (I:(Nat->Bool)->(Y_)->o_->Prop) (a1:Act):Prop where
 act:a1=Jk ops rs (Vs ops a1) a
 start:∀u,I (λ_=>false) u w.drew
 each:∀L u W,I L u W->Q7 F n P ops a1 W l
 spec:∀i∈ss,∀L u W,I L u W->L i=false->(∀j∈ss,j∈UH ops i->L j=true)->wpOpIn F n P ops (λ_ _ _=>False) i (λa' W'=>∃v,a'=(Jk ops ss u a1).put (Ll ops i) v/\I (Pq L i) (MZ u i v) W') (Jk ops ss u a1) W
 rest:∀L u W,I L u W->(∀j∈ss,L j=true)->wpListIn F n P ops Q l' (Jk ops ss u a1) W
theorem DT (id:Nat) (hF:F.round=none) (hF2:F.depth=none) (hm:P.follows .mixedOrders=true) {a:Act} {w:o_} (c N:Nat) (rs ss:List Nat) (Hy:UN ops c N rs ss=true) (hN:a.tmps.size=N) (I:(Nat->Bool)->(Y_)->o_->Prop)
  (bs9:∀L L' u u' W,(∀i∈ss,L i=L' i/\u i=u' i)->I L u W->I L' u' W) (l l':List Oper) (hl:qp ops rs=l) (hl':ops.toList.drop c=l')
  (h:wpListIn F n P ops (λe a1 _=>e=.normal/\zT F n P ops Q a w c rs ss l l' I a1) l a w.drew):(Code.region id ops true).wpIn F n P Q a w:=by
 subst hl hl';have M:=UN.out Hy;obtain⟨a1,hA,BI,hE,hS,hR⟩:=VG hF2 (C:=zT F n P ops Q a w c rs ss (qp ops rs) (ops.toList.drop c) I) _ _ _ h;have Ϲ:a1.tmps.size=N:=by rw[hA,Oo];exact hN
 have Z:∀i∈rs,∀d,Ll ops i=some d->a1.tmps[d]?=some (Vs ops a1 i):=λi r d B=>by
  have:=Oz M rs (Vs ops a1) a (λx g=>M.rl x g) hN i r d B
  rw[<-hA]at this
  exact this
 have G:∀s,(∀i∈rs,Ll ops i≠some s)->a1.tmps[s]?=a.tmps[s]?:=λs D=>by
  have:=Em rs (Vs ops a1) a s D
  rw[<-hA]at this
  exact this
 have a1D:a1.defers=a.defers:=by rw[hA,JZ]
 have nr:∀j∈ss,j ∉ rs:=λj f A=>by
  obtain⟨_,y⟩|⟨p,_⟩:=M.one j (M.sl j f)
  .exact y f
  .exact p A
 let I':(Nat->Bool)->(Y_)->o_->Prop:=λL u W=>(∀i∈rs,L i=true->u i=Vs ops a1 i)/\I L u W
 have e0:FD ops c a (λi=>Vs ops a i)=a:=by
  refine OG (λs=>?_) rfl
  by_cases D:∃j,j<c/\Ll ops j=some s
  .obtain⟨j,f,k⟩:=D;obtain⟨d',t,E⟩:=M.dst j f;have O:s<N:=(by rw[k]at t;cases t;exact E);rw[Md M hN _ f k O];unfold Vs;rw[k];simp only[Option.getD_some];rw[v_ (by omega)]
   rfl
  .exact Gh _ _ λj f m=>D ⟨j,f,m⟩
 have AO:∀i,i<c->∀L u W,I' L u W->L i=false->(∀j∈UH ops i,L j=true)->wpOpIn F n P ops Q i (λa' R=>∃v,a'=FD ops c a (MZ u i v)/\I' (Pq L i) (MZ u i v) R) (FD ops c a u) W:=by
  intro i r L u W ⟨q,S⟩ hLi Vl
  by_cases H:i∈rs
  .have Ky:∀s,(∀j,j<c->Ll ops j=some s->j∈UH ops i)->a1.tmps[s]?=(FD ops c a u).tmps[s]?:=λs D=>by
    by_cases g:∃j,j<c/\Ll ops j=some s
    .obtain⟨j,f,k⟩:=g;obtain⟨d',t,E⟩:=M.dst j f;have O:s<N:=(by rw[k]at t;cases t;exact E);have z:=D j f k;have A:=M.rr i H j z;rw[Md M hN _ f k O,Z j A s k,q j A (Vl j z)]
    .rw[Gh _ _ λj f m=>g ⟨j,f,m⟩,G s λj f m=>g ⟨j,M.rl j f,m⟩]
   have U:∃o,ops[i]?=some o:=⟨_,v_ (by have:=M.cl;omega)⟩;obtain⟨o,U⟩:=U;obtain⟨d,B,hdN⟩:=M.dst i r;have T:o.dst=some d:=(by unfold Ll at B;rw[U]at B;exact B);have g:=Td rs (hE L u W S) i H o U;have X:∀v,a1.put (some d) v=a1->v=Vs ops a1 i:=λv e=>by
    have p:=congrArg (λx:Act=>x.tmps[d]?) e
    simp only[PD,if_true,if_pos (show d<a1.tmps.size by omega)]at p
    rw[Z i H d B]at p
    exact x_ p
   have Y:a1.put (some d) (Vs ops a1 i)=a1:=OG (λs=>by
    rw[PD]
    by_cases e:s=d
    .subst e;rw[if_pos rfl,if_pos (by omega),Z i H s B]
    .rw[if_neg e]) (put_defers _ _ _)
   have V:wpOpIn F n P ops (λ_ _ _=>False) i (λb R=>∃v,b=a1.put (Ll ops i) v/\(v=Vs ops a1 i/\R=W)) a1 W:=by
    unfold wpOpIn
    rw[U,B]
    simp only
    split
    .rename_i V;rw[if_pos V]at g;exact Oper.wpIn_mono (λb R ⟨e1,e2⟩=>⟨Vs ops a1 i,by rw[Y];exact e1,rfl,e2⟩) g
    .rename_i V;rw[if_neg V]at g;refine⟨g.1,undef,by rw[T],?_⟩;rw[T]at g;exact⟨X _ g.2,trivial⟩
   refine IP (λb R=>?_) (Qy M hF r Ϲ Ky V (Q:=Q));rintro⟨v,rfl,rfl,rfl⟩;refine⟨_,VE M hN u r _,λj f K=>?_,bs9 _ _ _ _ _ (λj f=>?_) S⟩
   .unfold MZ;by_cases e:j=i
    .rw[if_pos e,e]
    .rw[if_neg e];unfold Pq at K;rw[if_neg e]at K;exact q j f K
   .have e:j≠i:=λe=>nr j f (e ▸ H)
    unfold MZ Pq;rw[if_neg e,if_neg e];exact⟨rfl,rfl⟩
  .have his:i∈ss:=by
    obtain⟨p,_⟩|⟨_,y⟩:=M.one i r
    .exact absurd p H
    .exact y
   have g:=hS i his L u W S hLi λj _ z=>Vl j z
   have Ky:∀s,(∀j,j<c->Ll ops j=some s->j∈UH ops i)->(Jk ops ss u a1).tmps[s]?=(FD ops c a u).tmps[s]?:=λs D=>by
    by_cases g:∃j,j<c/\Ll ops j=some s
    .obtain⟨j,f,k⟩:=g;obtain⟨d',t,E⟩:=M.dst j f;have O:s<N:=(by rw[k]at t;cases t;exact E);rw[Md M hN _ f k O];obtain⟨p,y⟩|⟨p,y⟩:=M.one j f
     .rw[Em ss u a1 s,Z j p s k,q j p (Vl j (D j f k))];intro x g m;exact M.ne x j (M.sl x g) f (λe=>y (e ▸ g)) (m.trans k.symm)
     .exact Oz M ss u a1 (λx g=>M.sl x g) Ϲ j y s k
    .rw[Gh _ _ λj f m=>g ⟨j,f,m⟩,Em ss u a1 s λj f m=>g ⟨j,M.sl j f,m⟩,G s λj f m=>g ⟨j,M.rl j f,m⟩]
   refine IP (λb R=>?_) (Qy M hF r (by rw[Oo];exact Ϲ) Ky g (Q:=Q));rintro⟨v,rfl,Ji⟩;refine⟨_,VE M hN u r _,λj f K=>?_,Ji⟩;have e:j≠i:=λe=>H (e ▸ f)
   unfold MZ;rw[if_neg e];unfold Pq at K;rw[if_neg e]at K;exact q j f K
 have J:∀L u W,I' L u W->(∀i,i<c->L i=true)->wpListIn F n P ops Q (ops.toList.drop c) (FD ops c a u) W:=by
  intro L u W ⟨q,S⟩ hL
  have e:FD ops c a u=Jk ops ss u a1:=by
   refine OG (λs=>?_) (by rw[JZ];exact a1D.symm)
   by_cases g:∃j,j<c/\Ll ops j=some s
   .obtain⟨j,f,k⟩:=g;obtain⟨d',t,E⟩:=M.dst j f;have O:s<N:=(by rw[k]at t;cases t;exact E);rw[Md M hN _ f k O];obtain⟨p,y⟩|⟨p,y⟩:=M.one j f
    .rw[Em ss u a1 s,Z j p s k,q j p (hL j f)];intro x g m;exact M.ne x j (M.sl x g) f (λe=>y (e ▸ g)) (m.trans k.symm)
    .exact(Oz M ss u a1 (λx g=>M.sl x g) Ϲ j y s k).symm
   .rw[Gh _ _ λj f m=>g ⟨j,f,m⟩,Em ss u a1 s λj f m=>g ⟨j,M.sl j f,m⟩,G s λj f m=>g ⟨j,M.rl j f,m⟩]
  rw[e];exact hR L u W S λj f=>hL j (M.sl j f)
 have go:=eX (F:=F) (n:=n) (P:=P) (Q:=Q) M.free M.cl (FD ops c a) I' AO J ops.size (Array.replicate ops.size false) (λi=>Vs ops a i) w.drew (by simp) (by simp[List.count_replicate]) (λi r=>by simp[Array.getD]at r) (λj _=>by simp[Array.getD]) ⟨λi _ r=>by simp[Array.getD]at r,by
  have:(λj=>(Array.replicate ops.size false).getD j false)=λ_=>false:=funext λj=>by simp[Array.getD]
  rw[this];exact BI _⟩;rw[e0]at go;exact wpIn_region_any hm go
end
theorem Jj {w:o_} {rb:Nat} {x y f:n_} (h:w.heap[rb]?=some (O_ #[x,y,f] 206)):w.cell? (S_ rb)=some x/\w.cell? (T_ rb 1)=some y/\w.cell? (T_ rb 2)=some f:=by
 refine⟨?_,?_,?_⟩<;>rw[Af h]<;>rfl
theorem Oa (w:o_):Keep No w (w.alloc V_)/\(w.alloc V_).heap[w.heap.size]?=some (O_ #[a_ 0,a_ 0,.nilFunc] 206)/\w.heap.size<(w.alloc V_).heap.size:=by
 have a:(w.alloc V_).heap[w.heap.size]?=some (O_ #[a_ 0,a_ 0,.nilFunc] 206):=heap_alloc_new rfl;exact⟨(p_ _ _).alloc _,a,DN a⟩
theorem IB {α:Type} {xs:Array α} {i j:Nat} {a:α} (h:i≠j):(xs.setIfInBounds i a)[j]?=xs[j]?:=z_ h
theorem O5 {α:Type} {l:List α} {i:Nat} {a:α}:l[i]?=some a↔∃h:i<l.length,l[i]=a:=List.getElem?_eq_some_iff
theorem Lh {α:Type} {l:List α} {i:Nat} (h:i<l.length):l[i]?=some l[i]:=List.getElem?_eq_getElem h
theorem bce {w:o_} {k j:Nat} {cs:X_} {t:j_} {z:Nat×Nat} {v:n_} (h:w.heap[k]?=some (.cells cs t z)) (hv:cs[j]?=some v):w.cell? (T_ k j)=some v:=(Af h j).trans hv
end Go.Fxa
theorem Go.TR {P:Go.Program} {fn:Go.Func} {R:Go.Ending->Go.World->Prop} {a:Go.Act} {w:Go.World} (x y:Int) (h:(Go.results fn a.tmps).run P w=.ok (.agg #[a_ x,a_ y,.nilFunc]) w) (d:a.defers=[]) (r:R (.returned (.agg #[a_ x,a_ y,.nilFunc])) w):Go.bodyPost P fn R .ret a w:=⟨d,_,h,r⟩
abbrev Go.P_ (m:Nat) (f:Go.FuncId) (a:Array Go.Value) (w:Go.World) (Q:Go.Ending->Go.World->Prop):Prop:=Go.CallsIn Go.Fxa.NF m Go.Proofs.Tryz.prog f a w Q
