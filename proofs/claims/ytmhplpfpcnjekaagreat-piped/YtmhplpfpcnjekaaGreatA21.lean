/- A region with one operation th -/
import Derived.Test.YtmhplpfpcnjekaaGreatA20
namespace Go.Fxa
open Conc Proofs RowKit Proofs.Tryz
set_option maxRecDepth 1000000
set_option maxHeartbeats 0
def NJ (S:Nat->Prop) (w1:o_) (e:Nat) (Post:n_->o_->Prop) (pure:List (Nat×n_)) (L:Nat->Bool) (u:Y_) (W:o_):Prop:=
 Keep S w1 W/\(L e=false->W=w1)/\(L e=true->Post (u e) W)/\∀p∈pure,L p.1=true->u p.1=p.2
section
variable {S:Nat->Prop} {w1:o_} {e:Nat} {Post:n_->o_->Prop} {pure:List (Nat×n_)} {ss:List Nat}
theorem F8 (he:e∈ss) (hp:∀p∈pure,p.1∈ss):∀L L' u u' W,(∀i∈ss,L i=L' i/\u i=u' i)->NJ S w1 e Post pure L u W->NJ S w1 e Post pure L' u' W:=by
 rintro L L' u u' W h ⟨g,j,k,l⟩;obtain⟨a,b⟩:=h e he;refine⟨g,λx=>j (a.trans x),λx=>b ▸ k (a.trans x),λp f x=>?_⟩;obtain⟨c,d⟩:=h p.1 (hp p f);exact d ▸ l p f (c.trans x)
theorem En (u:Y_):NJ S w1 e Post pure (λ_=>false) u w1:=⟨p_ _ _,λ_=>rfl,λh=>absurd h (by simp),λ_ _ h=>absurd h (by simp)⟩
theorem F9 {L:Nat->Bool} {u:Nat->n_} {W W':o_} {v:n_} (h:NJ S w1 e Post pure L u W) (hp:∀p∈pure,p.1≠e) (hK:Keep S w1 W') (hv:Post v W'):NJ S w1 e Post pure (Pq L e) (MZ u e v) W':=by
 obtain⟨_,_,_,b⟩:=h;refine⟨hK,λx=>absurd x (by simp[Pq]),λ_=>by simp only[MZ,if_true];exact hv,λp a x=>?_⟩;have ne:=hp p a;simp only[Pq,if_neg ne]at x;simp only[MZ,if_neg ne];exact b p a x
theorem GZ {L:Nat->Bool} {u:Nat->n_} {W:o_} {v:n_} {i:Nat} (h:NJ S w1 e Post pure L u W) (hi:i≠e) (hv:∀p∈pure,p.1=i->v=p.2):NJ S w1 e Post pure (Pq L i) (MZ u i v) W:=by
 obtain⟨d,f,g,j⟩:=h;have a:e≠i:=Ne.symm hi;refine⟨d,λx=>f (by simpa [Pq,a]using x),λx=>?_,λp b x=>?_⟩
 .simp only[MZ,if_neg a];exact g (by simpa [Pq,a]using x)
 .by_cases c:p.1=i
  .simp only[MZ,if_pos c];exact hv p b c
  .simp only[MZ,if_neg c];simp only[Pq,if_neg c]at x;exact j p b x
theorem Gu {L:Nat->Bool} {u:Nat->n_} {W:o_} {v y:n_} {i:Nat} (h:NJ S w1 e Post pure L u W) (hi:i≠e) (hv:v=y) (hy:∀p∈pure,p.1=i->p.2=y):NJ S w1 e Post pure (Pq L i) (MZ u i v) W:=
 GZ h hi λp a c=>hv.trans (hy p a c).symm
end
section
variable {n:Nat} {Q:Exit->Act->o_->Prop} {K:Act->o_->Prop} {a:Act} {W:o_} {ops:Array Oper} {i:Nat} {o:Oper} {x:Operand}
theorem qK (hi:ops[i]?=some o) (hg:o.guard=none) (ho:o.op=.move x) (h:K (a.put o.dst (a.eval x)) W):wpOpIn NF n prog ops Q i K a W:=
 NL hi hg (by unfold Oper.about;rw[ho]) (w':=W) (x:=a.eval x) (by unfold execOp;rw[ho];rfl) h
theorem qL (hi:ops[i]?=some o) (hg:o.guard=none) (ho:o.op=.assign x) (h:K (a.put o.dst (a.eval x)) W):wpOpIn NF n prog ops Q i K a W:=
 NL hi hg (by unfold Oper.about;rw[ho]) (w':=W) (x:=a.eval x) (by unfold execOp;rw[ho];rfl) h
theorem UL {vs:X_} {k:Nat} {v:n_} (hi:ops[i]?=some o) (hg:o.guard=none) (ho:o.op=.extract x k) (hx:a.eval x=.tuple vs) (hv:vs[k]?=some v) (h:K (a.put o.dst v) W):wpOpIn NF n prog ops Q i K a W:=
 NL hi hg (by unfold Oper.about;rw[ho]) (w':=W) (x:=v) (by unfold execOp;rw[ho];simp only[hx];simp[Instr.extract,hv]) h
end
def stores {α:Type} (b:Nat):Nat->U_->Sem α->Sem α
 |_,[],k=>k
 |i,v::vs,k=>.store .plain (T_ b i) v (stores b (i+1) vs k)
def UJ (cs:X_):Nat->U_->X_
 |_,[]=>cs
 |i,v::vs=>UJ (cs.setIfInBounds i v) (i+1) vs
theorem Iy {P:l_} {α:Type} {b:Nat} {T:j_} {k:Sem α}:∀(vs:U_) (i:Nat) (cs:X_) (w:o_),w.heap[b]?=some (O_ cs T)->i+vs.length<=cs.size->(∀v∈vs,v.oneCell'=true)->
  ∃w',(stores b i vs k).run P w=k.run P w'/\Keep (At b) w w'/\w'.heap[b]?=some (O_ (UJ cs i vs) T)
 |[],i,cs,w,h,_,_=>⟨w,rfl,p_ _ _,h⟩
 |v::vs,i,cs,w,h,g,a=>by
  simp only[List.length_cons]at g
  have f:w.cell? (T_ b i)=some cs[i]:=by rw[Af h];simp
  obtain⟨w',c,d,e⟩:=Iy (P:=P) (k:=k) vs (i+1) _ _ (Ak (i:=i) h v) (by simp;omega) (λx j=>a x (List.mem_cons_of_mem _ j))
  refine⟨w',?_,(Keep.Jo v).then d,e⟩
  unfold stores
  rw[uO (a v (List.mem_cons_self ..)) f (BN h i)]
  exact c
theorem DU {F:Fence} {n:Nat} {P:l_} {w w':o_} {ops:Array Oper} {rest:List Oper} {o:Oper} {a:Act} {Q:Exit->Act->o_->Prop} (hg:o.guard=none) (s y:Operand) (t:j_) (AO:o.op=Op.store t s y) {v x:n_} (hs:a.eval s=v) (hy:a.eval y=x)
  (Bi:(Instr.storeAt t v x).run P w=.ok () w') (hK:wpListIn F n P ops Q rest (a.put o.dst undef) w'):wpListIn F n P ops Q (o::rest) a w:=by
 refine wpListIn_plain hg λK b=>?_
 unfold Oper.wpIn;refine⟨?_,?_⟩
 .simp[Oper.about,AO]
 .rw[Oper.semAt_plain F _ _ (by rw[AO];intro c d;cases d)];simp[execOp,AO,hs,hy,Bi,Result.andThen];exact b _ _ hK
section
variable {F:Fence} {n:Nat} {P:l_} {w w':o_} {ops:Array Oper} {rest:List Oper} {o:Oper} {a:Act} {Q:Exit->Act->o_->Prop}
theorem Io {n:Nat} {w w':o_} {ops:Array Oper} {rest:List Oper} {o:Oper} {a:Act} {Q:Exit->Act->o_->Prop} {s y:Operand} {t:j_} {v x:n_} (Bi:(Instr.storeAt t v x).run prog w=.ok () w') (hK:wpListIn NF n prog ops Q rest (a.put o.dst undef) w') (hg:o.guard=none:=by rfl) (AO:o.op=Op.store t s y:=by rfl) (hs:a.eval s=v:=by rfl) (hy:a.eval y=x:=by rfl):wpListIn NF n prog ops Q (o::rest) a w:=DU hg s y t AO hs hy Bi hK
theorem YX (hg:o.guard=none) (s:Operand) (t:j_) (AO:o.op=Op.load t s) {v x:n_} (hs:a.eval s=v)
  (Bi:(Instr.loadAt t v).run P w=.ok x w') (hK:wpListIn F n P ops Q rest (a.put o.dst x) w'):wpListIn F n P ops Q (o::rest) a w:=by
 refine wpListIn_plain hg λK b=>?_
 unfold Oper.wpIn;refine⟨?_,?_⟩
 .simp[Oper.about,AO]
 .rw[Oper.semAt_plain F _ _ (by rw[AO];intro c d;cases d)];simp[execOp,AO,hs,Bi,Result.andThen];exact b _ _ hK
theorem VF (hg:o.guard=none) (s y:Operand) (t:j_) (AO:o.op=Op.index t s y) {v u x:n_} (hs:a.eval s=v) (hy:a.eval y=u)
  (Bi:(Instr.index t v u).run P w=.ok x w') (hK:wpListIn F n P ops Q rest (a.put o.dst x) w'):wpListIn F n P ops Q (o::rest) a w:=by
 refine wpListIn_plain hg λK b=>?_
 unfold Oper.wpIn;refine⟨?_,?_⟩
 .simp[Oper.about,AO]
 .rw[Oper.semAt_plain F _ _ (by rw[AO];intro c d;cases d)];simp[execOp,AO,hs,hy,Bi,Result.andThen];exact b _ _ hK
end
theorem uM {w:o_} {rb:Nat} {a b c:n_} {x y:Int} (h:w.heap[rb]?=some (O_ #[a,b,c] 206)):∃w',(Instr.storeAt 206 (R_ rb) (.agg #[a_ x,a_ y,.nilFunc])).run prog w=.ok () w'/\Keep (At rb) w w'/\w'.heap[rb]?=some (O_ #[a_ x,a_ y,.nilFunc] 206):=by
 have e:(Instr.storeAt 206 (R_ rb) (.agg #[a_ x,a_ y,.nilFunc])).run prog w=(stores rb 0 [a_ x,a_ y,.nilFunc] (.pure ())).run prog w:=by kernel_rfl
 obtain⟨w',d,f,g⟩:=Iy (P:=prog) (k:=Sem.pure ()) [a_ x,a_ y,.nilFunc] 0 _ w h (by simp) (by simp[Value.oneCell']);refine⟨w',?_,f,?_⟩
 .rw[e,d];rfl
 .rw[g];simp[UJ]
def Sound (N:Nat) (l:List (W_)):Prop:=∀r∈l,1<=r.2/\r.1+r.2<=N
def GL:List (W_)->Nat
 |[]=>0
 |r::l=>r.2+GL l
theorem PN:∀l k:List (W_),GL (l++k)=GL l+GL k
 |[],k=>by simp[GL]
 |r::l,k=>by simp only[List.cons_append,GL,PN l k];omega
theorem PH {α:Type} {l:List α} {i:Nat} {r:α} (h:l[i]?=some r):l=l.take i++r::l.drop (i+1):=by
 obtain⟨b,a⟩:=O5.1 h;rw[<-a,List.getElem_cons_drop,List.take_append_drop]
theorem Sound.len {N:Nat}:∀{l:List (W_)},Sound N l->l.length<=GL l
 |[],_=>Nat.zero_le _
 |r::l,h=>by
  have b:=(h r (by simp)).1
  have c:=Sound.len (l:=l) λx a=>h x (by simp[a])
  simp only[GL,List.length_cons];omega
theorem Sound.fit {N:Nat} {l:List (W_)} (h:Sound N l) (hs:GL l<=N):Fit N l:=⟨Nat.le_trans h.len hs,λ_ r a=>(h r (t_ a)).2⟩
theorem Qa {N i:Nat} {l:List (W_)} (h:Sound N l):Sound N (Ec l i)/\GL (Ec l i)=GL l:=by
 unfold Ec;split
 .rename_i a b f g;split
  .rename_i k;have j:=PH f;have c2:l.drop (i+1)=b::l.drop (i+2):=by
    have d:(l.drop (i+1))[0]?=some b:=by simpa using g
    have:=PH d
    simpa using this
   have o:=h b (t_ g);have n:=h a (t_ f);refine⟨λr m=>?_,?_⟩
   .obtain c|c:=List.mem_append.1 m
    .exact h r (List.mem_of_mem_take c)
    .obtain rfl|c:=r_.1 c
     .simp only;omega
     .exact h r (List.mem_of_mem_drop c)
   .have e:GL l=GL (l.take i++a::b::l.drop (i+2)):=(by rw[<-c2,<-j]);rw[e];simp only[PN,GL];omega
  .exact⟨h,rfl⟩
 .exact⟨h,rfl⟩
theorem nO {N a n:Nat} {l:List (W_)} (h:Sound N l) (hn:1<=n) (ha:a+n<=N):Sound N (KE l a n)/\GL (KE l a n)=GL l+n:=by
 unfold KE;refine⟨λr c=>?_,?_⟩
 .obtain b|b:=List.mem_append.1 c
  .exact h r (List.mem_of_mem_take b)
  .obtain rfl|b:=r_.1 b
   .exact⟨hn,ha⟩
   .exact h r (List.mem_of_mem_drop b)
 .have e:GL l=GL (l.take (BO l a)++l.drop (BO l a)):=by rw[List.take_append_drop]
  rw[e];simp only[PN,GL];omega
theorem Vd {N a n:Nat} {l:List (W_)} (h:Sound N l) (hn:1<=n) (ha:a+n<=N):Sound N (DF l a n)/\GL (DF l a n)=GL l+n:=by
 have b:=nO h hn ha;unfold DF;rw[if_neg (by omega)];split
 .have:=Qa (i:=0) b.1;exact⟨this.1,this.2.trans b.2⟩
 .have c:=Qa (i:=BO l a) b.1;have d:=Qa (i:=BO l a-1) c.1;exact⟨d.1,d.2.trans (c.2.trans b.2)⟩
theorem P9 {N n:Nat} {l:List (W_)} (h:Sound N l):Sound N (Aw l n).2/\((Aw l n).1=none->(Aw l n).2=l)/\∀a,(Aw l n).1=some a->GL (Aw l n).2+n=GL l/\a+n<=N/\1<=n:=by
 unfold Aw;by_cases k:n<1
 .rw[if_pos k];exact⟨h,λ_=>rfl,λa e=>by cases e⟩
 .rw[if_neg k];cases d:l.findIdx? (λr=>decide (n<=r.2))with
  |none=>exact⟨h,λ_=>rfl,λa e=>by cases e⟩
  |some i=>
   obtain⟨j,c,_⟩:=List.findIdx?_eq_some_iff_getElem.1 d
   have f:l[i]?=some l[i]:=Lh j
   generalize l[i]=r at f c
   have q:n<=r.2:=by simpa using c
   have s:=h r (t_ f)
   have o:=PH f
   have e:GL l=GL (l.take i++r::l.drop (i+1)):=by rw[<-o]
   simp only[f]
   by_cases m:r.2=n
   .simp only[m,if_true];refine⟨λx d=>?_,λe=>(by cases e),λa g=>?_⟩
    .obtain b|b:=List.mem_append.1 d
     .exact h x (List.mem_of_mem_take b)
     .exact h x (List.mem_of_mem_drop b)
    .cases g;rw[e];simp only[PN,GL];omega
   .simp only[m,if_false];have p:l.set i (r.1+n,r.2-n)=l.take i++(r.1+n,r.2-n)::l.drop (i+1):=List.set_eq_take_append_cons_drop.trans (if_pos j);refine⟨λx d=>?_,λe=>(by cases e),λa g=>?_⟩
    .obtain b|rfl:=List.mem_or_eq_of_mem_set d
     .exact h x b
     .simp only;omega
    .cases g;rw[p,e];simp only[PN,GL];omega
def NY (i a n:Nat):Nat:=if a<=i/\i<a+n then 1 else 0
def D5 (i:Nat):List (W_)->Nat
 |[]=>0
 |r::l=>NY i r.1 r.2+D5 i l
theorem tu (i a n m:Nat):NY i a (n+m)=NY i a n+NY i (a+n) m:=by
 unfold NY
 (repeat' split)<;>omega
theorem PY (i:Nat):∀l k:List (W_),D5 i (l++k)=D5 i l+D5 i k
 |[],k=>by simp[D5]
 |r::l,k=>by simp only[List.cons_append,D5,PY i l k];omega
theorem Uy (x i:Nat) (l:List (W_)):D5 x (Ec l i)=D5 x l:=by
 unfold Ec;split
 .rename_i a b g h;split
  .rename_i c;have f:=PH g;have c2:l.drop (i+1)=b::l.drop (i+2):=by
    have d:(l.drop (i+1))[0]?=some b:=by simpa using h
    have:=PH d
    simpa using this
   have e:D5 x l=D5 x (l.take i++a::b::l.drop (i+2)):=(by rw[<-c2,<-f]);rw[e];simp only[PY,D5,tu,c];omega
  .rfl
 .rfl
theorem dC (x a n:Nat) (l:List (W_)):D5 x (KE l a n)=D5 x l+NY x a n:=by
 unfold KE;have e:D5 x l=D5 x (l.take (BO l a)++l.drop (BO l a)):=by rw[List.take_append_drop]
 rw[e];simp only[PY,D5];omega
theorem Y0 {n:Nat} (hn:1<=n) (x a:Nat) (l:List (W_)):D5 x (DF l a n)=D5 x l+NY x a n:=by
 unfold DF;rw[if_neg (by omega)];split
 .rw[Uy,dC]
 .rw[Uy,Uy,dC]
theorem YL {n a:Nat} {l:List (W_)} (h:(Aw l n).1=some a) (x:Nat):D5 x (Aw l n).2+NY x a n=D5 x l:=by
 revert h
 unfold Aw;by_cases g:n<1
 .rw[if_pos g];intro e;cases e
 .rw[if_neg g];cases hx:l.findIdx? (λr=>decide (n<=r.2))with
  |none=>intro e;cases e
  |some i=>
   obtain⟨f,b,_⟩:=List.findIdx?_eq_some_iff_getElem.1 hx
   have c:l[i]?=some l[i]:=Lh f
   generalize l[i]=r at c b
   have o:n<=r.2:=by simpa using b
   have j:=PH c
   have e:D5 x l=D5 x (l.take i++r::l.drop (i+1)):=by rw[<-j]
   simp only[c]
   intro k
   cases k
   by_cases d:r.2=n
   .simp only[d,if_true];rw[e];simp only[PY,D5,d];omega
   .simp only[d,if_false];have m:l.set i (r.1+n,r.2-n)=l.take i++(r.1+n,r.2-n)::l.drop (i+1):=List.set_eq_take_append_cons_drop.trans (if_pos f);have e2:=tu x r.1 n (r.2-n);rw[show n+(r.2-n)=r.2 by omega]at e2;rw[m,e];simp only[PY,D5];omega
theorem UA {x:Nat}:∀{l:List (W_)},D5 x l=0->∀r∈l,¬(r.1<=x/\x<r.1+r.2)
 |[],_,r,a=>by cases a
 |s::l,h,r,a=>by
  simp only[D5]at h
  obtain rfl|a:=r_.1 a
  .intro b;have:NY x r.1 r.2=1:=if_pos b;omega
  .exact UA (by omega) r a
def XM (l:List (W_)):Prop:=l.Pairwise λr s=>r.1+r.2<s.1
def jo (x:W_):List (W_)->List (W_)
 |[]=>[x]
 |b::B=>if x.1+x.2=b.1 then(x.1,x.2+b.2)::B else x::b::B
theorem eH (A B:List (W_)) (x:W_):Ec (A++x::B) A.length=A++jo x B:=by
 have a:(A++x::B)[A.length]?=some x:=by simp
 have c:(A++x::B)[A.length+1]?=B[0]?:=by
  rw[List.getElem?_append_right (by omega)];simp
 unfold Ec;rw[a,c];cases B with
 |nil=>rfl
 |cons b B=>
  simp only[List.getElem?_cons_zero,jo]
  split
  .rw[List.take_left' rfl]
   congr 2
   rw[show A.length+2=A.length+2 from rfl,List.drop_append];simp
  .rfl
theorem an9 {x s:Nat×Nat}:∀{B:List (W_)},(∀t∈B,x.1+x.2<=t.1)->s∈jo x B->x.1<=s.1
 |[],_,a=>by simp only[jo,List.mem_singleton]at a;rw[a];exact w_ _
 |b::B,h,a=>by
  simp only[jo]at a
  split at a
  .obtain rfl|a:=r_.1 a
   .exact w_ _
   .have:=h s (by simp[a]);omega
  .obtain rfl|a:=r_.1 a
   .exact w_ _
   .have:=h s a;omega
theorem zB {x:Nat×Nat}:∀{B:List (W_)},(∀t∈B,x.1+x.2<=t.1)->XM B->XM (jo x B)
 |[],_,_=>by simp[jo,XM]
 |b::B,h,d=>by
  have a:=List.pairwise_cons.1 d
  simp only[jo]
  split
  .rename_i e;refine List.pairwise_cons.2 ⟨λs c=>?_,a.2⟩;have:=a.1 s c;simp only;omega
  .rename_i e;have f:=h b (by simp);refine List.pairwise_cons.2 ⟨λs c=>?_,d⟩;obtain rfl|c:=r_.1 c
   .omega
   .have:=a.1 s c;omega
theorem cu {n:Nat} {l:List (W_)} (h:XM l):XM (Aw l n).2:=by
 unfold Aw;by_cases f:n<1
 .rw[if_pos f];exact h
 .rw[if_neg f];cases hx:l.findIdx? (λr=>decide (n<=r.2))with
  |none=>exact h
  |some i=>
   obtain⟨e,b,_⟩:=List.findIdx?_eq_some_iff_getElem.1 hx
   have d:l[i]?=some l[i]:=Lh e
   generalize l[i]=r at d b
   have p:n<=r.2:=by simpa using b
   have m:=PH d
   have o:XM (l.take i++r::l.drop (i+1)):=by rw[<-m];exact h
   obtain⟨j,p2,p3⟩:=List.pairwise_append.1 o
   obtain⟨p4,k⟩:=List.pairwise_cons.1 p2
   simp only[d]
   by_cases g:r.2=n
   .simp only[g,if_true];exact List.pairwise_append.2 ⟨j,k,λs a t c=>p3 s a t (by simp[c])⟩
   .simp only[g,if_false];rw[List.set_eq_take_append_cons_drop.trans (if_pos e)];refine List.pairwise_append.2 ⟨j,List.pairwise_cons.2 ⟨λs a=>?_,k⟩,λs a t c=>?_⟩
    .have:=p4 s a;simp only;omega
    .obtain rfl|c:=r_.1 c
     .have:=p3 s a r (by simp);simp only;omega
     .exact p3 s a t (by simp[c])
theorem ac1 {N:Nat} {l:List (W_)} (hN:1<=N) (hs:Sound N l) (h:XM l) (hc:∀x,x<N->1<=D5 x l):l=[(0,N)]:=by
 have one:∀(l:List (W_)) (x:Nat),1<=D5 x l->∃r∈l,r.1<=x/\x<r.1+r.2:=by
  intro l
  induction l with
  |nil=>intro x h;simp[D5]at h
  |cons s l g=>
   intro x h
   by_cases b:s.1<=x/\x<s.1+s.2
   .exact⟨s,by simp,b⟩
   .simp only[D5,NY,if_neg b]at h;obtain⟨r,d,b⟩:=g x (by omega);exact⟨r,by simp[d],b⟩
 cases l with
 |nil=>have:=hc 0 (by omega);simp[D5]at this
 |cons r l=>
  obtain⟨c,p2⟩:=List.pairwise_cons.1 h
  have d:=hs r (by simp)
  have r0:r.1=0:=by
   obtain⟨s,a,f,_⟩:=one _ 0 (hc 0 (by omega))
   obtain rfl|a:=r_.1 a
   .omega
   .have:=c s a;omega
  have i:r.2=N:=by
   refine Nat.le_antisymm (by omega) (Nat.le_of_not_lt λe=>?_)
   obtain⟨s,a,f,j⟩:=one _ r.2 (hc r.2 e)
   obtain rfl|a:=r_.1 a
   .omega
   .have:=c s a;omega
  cases l with
  |nil=>rw[<-i,<-r0]
  |cons s l=>
   have:=c s (by simp)
   have:=hs s (by simp)
   omega
theorem gz {l:List (W_)} {a:Nat}:∀z∈l.take (BO l a),z.1<=a:=by
 intro z b;unfold BO at b;cases hx:l.findIdx? (λr=>decide (a<r.1))with
 |none=>
  have:=List.findIdx?_eq_none_iff.1 hx z (List.mem_of_mem_take b)
  simpa using this
 |some i=>
  obtain⟨d,_,c⟩:=List.findIdx?_eq_some_iff_getElem.1 hx
  rw[hx]at b
  simp only at b
  obtain⟨j,e,rfl⟩:=List.mem_take_iff_getElem.1 b
  have:=c j (by omega)
  simpa using this
theorem ng {l:List (W_)} {a:Nat} (h:XM l):∀t∈l.drop (BO l a),a<t.1:=by
 intro t b;unfold BO at b;cases hx:l.findIdx? (λr=>decide (a<r.1))with
 |none=>rw[hx]at b;simp at b
 |some i=>
  obtain⟨c,f,_⟩:=List.findIdx?_eq_some_iff_getElem.1 hx
  rw[hx]at b
  have e:a<l[i].1:=by simpa using f
  have d:XM (l.drop i):=List.Pairwise.sublist (List.drop_sublist i l) h
  rw[<-List.getElem_cons_drop c]at d
  simp only at b
  rw[<-List.getElem_cons_drop c]at b
  obtain rfl|b:=r_.1 b
  .exact e
  .have:=(List.pairwise_cons.1 d).1 t b;omega
theorem cO {N a n:Nat} {l:List (W_)} (hn:1<=n) (hs:Sound N l) (h:XM l) (hc:∀x,a<=x->x<a+n->D5 x l=0):XM (DF l a n):=by
 have m:∀z∈l.take (BO l a),z.1+z.2<=a:=λz f=>by
  have k:=gz z f
  have w:=UA (hc a (w_ _) (by omega)) z (List.mem_of_mem_take f)
  omega
 have o:∀t∈l.drop (BO l a),a+n<=t.1:=λt b=>by
  have k:=ng h t b
  have D:=hs t (List.mem_of_mem_drop b)
  refine Nat.le_of_not_lt λu=>?_
  exact UA (hc t.1 (by omega) u) t (List.mem_of_mem_drop b) ⟨w_ _,by omega⟩
 have p:XM (l.take (BO l a)):=List.Pairwise.sublist (List.take_sublist _ l) h;have C:XM (l.drop (BO l a)):=List.Pairwise.sublist (List.drop_sublist _ l) h;have i:(l.take (BO l a)).length=BO l a:=by rw[List.length_take];have:=SN l a;omega
 have q:XM (jo (a,n) (l.drop (BO l a))):=zB o C;have y:∀t∈jo (a,n) (l.drop (BO l a)),a<=t.1:=λt b=>an9 (x:=(a,n)) o b
 have e:=eH (l.take (BO l a)) (l.drop (BO l a)) (a,n);rw[i]at e;unfold DF;rw[if_neg (by omega)];split
 .rename_i g;have d:Ec (KE l a n) (BO l a)=_:=e;rw[g]at d;rw[d,List.take_zero,List.nil_append,<-g];exact q
 .rename_i g;have d:Ec (KE l a n) (BO l a)=_:=e;rw[d];generalize jo (a,n) (l.drop (BO l a))=J at*;generalize l.take (BO l a)=A at*;obtain rfl|⟨r,z,rfl⟩:=List.eq_nil_or_concat A
  .simp at i;omega
  .have j:BO l a-1=r.length:=(by simp at i;omega);rw[j,List.concat_eq_append,List.append_assoc,List.singleton_append,eH];rw[List.concat_eq_append]at p m;obtain⟨q1,_,B⟩:=List.pairwise_append.1 p;have f:z.1+z.2<=a:=m z (by simp);have c:∀t∈J,z.1+z.2<=t.1:=λt b=>Nat.le_trans f (y t b)
   refine List.pairwise_append.2 ⟨q1,zB c q,λs v t b=>?_⟩;have k:=B s v z (by simp);have w:=an9 c b;omega
def Hid (p:Prop):Prop:=p
theorem Hid.out {p:Prop} (h:Hid p):p:=h
def ptr (b:Nat):n_:=R_ b
def AB (l:List Nat):U_:=l.map λx:Nat=>a_ (x:Int)
def Fh (l:List Int):U_:=l.map λx=>b_ x
def BH (l:List Nat):U_:=l.map ptr
structure PR where
 (pid par st A B P sw:Nat)
 en:Bool
 co:Int
 (bl im fd:n_)
 Ae:List Nat
 fds:List Int
def PR.arr (r:PR):X_:=#[b_ r.pid,b_ r.par,.bool r.en,a_ r.st,r.bl,a_ r.A,a_ r.B,a_ r.P,r.im,r.fd,b_ r.sw,b_ r.co]
def PR.obj (r:PR):Obj:=.cells r.arr 128 (0,0)
def BF (f:Nat->Nat):List Nat->Nat
 |[]=>0
 |b::l=>f b+BF f l
theorem BQ {f g:Nat->Nat}:∀{l:List Nat},(∀b∈l,f b=g b)->BF f l=BF g l
 |[],_=>rfl
 |b::l,h=>by simp only[BF];rw[h b (by simp),BQ λx a=>h x (by simp[a])]
theorem Jb {f g:Nat->Nat} {b:Nat}:∀{l:List Nat},l.Nodup->b∈l->(∀k,k≠b->f k=g k)->BF f l+g b=BF g l+f b
 |[],_,h,_=>by simp at h
 |k::l,j,h,a=>by
  obtain⟨c,d⟩:=List.nodup_cons.1 j
  simp only[BF]
  by_cases e:k=b
  .subst e;rw[BQ (f:=f) (g:=g) λx m=>a x (by rintro rfl;exact c m)];omega
  .have i:b∈l:=(by simpa [Ne.symm e]using h);have:=Jb d i a;rw[a k e];omega
theorem Ox {f:Nat->Nat} {b:Nat}:∀{l:List Nat},b∈l->f b<=BF f l
 |[],h=>by simp at h
 |k::l,h=>by
  simp only[BF]
  obtain rfl|h:=r_.1 h
  .omega
  .have:=Ox (f:=f) h;omega
theorem SH {f:Nat->Nat}:∀{l k:List Nat},BF f (l++k)=BF f l+BF f k
 |[],k=>by simp[BF]
 |b::l,k=>by simp only[List.cons_append,BF,SH (l:=l)];omega
abbrev Tag:=Nat->Nat×Nat
def Nj (T:Tag) (w:o_) (kb b:Nat) (v:n_):Prop:=
 v=.nilFunc\/
 (∃x y,v=.func (.func 196) #[] #[ptr x,ptr y]/\w.heap[x]?=some (O_ #[ptr kb] 33)/\w.heap[y]?=some (O_ #[ptr b] 119)/\T x=(9,b)/\T y=(9,b))\/
 (∃p,(v=.func (.func 270) #[ptr p] #[]\/v=.func (.func 265) #[ptr p] #[])/\T p=(11,0))
structure xI (T:Tag) (w:o_) (kb b:Nat) (r:PR):Prop where
 t:T b=(6,b)
 o:w.heap[b]?=some r.obj
 im:r.en=false->∃g c,r.im=Q_ g r.Ae.length c/\Rw 123 1 w g r.Ae.length c (AB r.Ae)/\T g=(7,b)
 fd:r.en=false->∃g c,r.fd=Q_ g r.fds.length c/\Rw 3 1 w g r.fds.length c (Fh r.fds)/\T g=(8,b)
 bl:Nj T w kb b r.bl
 no:r.en=true->r.im=.slice none 0 0/\r.fd=.slice none 0 0/\r.Ae=[]/\r.fds=[]
structure Ct where
 ws:List Nat
 (x y:Bool)
 n:Nat
def RJ (T:Tag) (w:o_) (b M:Nat) (v:n_) (ws:List Nat):Prop:=(v=.slice none 0 0/\ws=[])\/∃g c,v=Q_ g ws.length c/\Rw 123 1 w g ws.length c (AB ws)/\ws.length<=M/\(∀x∈ws,x<65536)/\T g=(15,b)
def Px (T:Tag) (v:n_) (o:d_ Nat):Prop:=∃b,(v=.iface 337 (ptr b)/\∃f,T b=(12,f)/\o=some f)\/(v=.iface 330 (ptr b)/\T b=(13,0)/\o=none)\/(v=.iface 334 (ptr b)/\T b=(14,0)/\o=none)
structure Yq (T:Tag) (op:Nat->Nat) (ct:Nat->Ct) (w:o_) (kb:Nat):Prop where
 file:∀b,T b=(10,0)->∃v,w.heap[b]?=some (O_ #[v,b_ (op b)] 191)/\RJ T w b 64 v (ct b).ws
 pipe:∀b,T b=(11,0)->∃v,w.heap[b]?=some (O_ #[v,.bool (ct b).x,.bool (ct b).y] 329)/\RJ T w b 16 v (ct b).ws
 Iu:∀b f,T b=(12,f)->w.heap[b]?=some (O_ #[.pointer (some (T_ kb 4)),ptr f,b_ ((ct b).n:Nat)] 339)/\T f=(10,0)/\(ct b).n<=64
 rend:∀b,T b=(13,0)->w.heap[b]?=some (O_ #[ptr (ct b).n] 333)/\T (ct b).n=(11,0)
 TU:∀b,T b=(14,0)->w.heap[b]?=some (O_ #[ptr (ct b).n] 335)/\T (ct b).n=(11,0)
structure KS where
 (kb cg cc sg sc pg pc BK:Nat)
 (core swap:List (W_))
 (AV nl:List Nat)
 (desc op:Nat->Nat)
 (nm ef:Nat->d_ Nat)
 ps:Nat->d_ PR
 T:Tag
 ct:Nat->Ct
 tv:Nat->n_
def ϻ (T:Tag) (w:o_) (l:List Nat) (v:n_):Prop:=((v=.slice none 0 0/\l=[])\/∃g c,v=Q_ g l.length c/\Rw 101 1 w g l.length c (BH l)/\T g=(5,0))/\∀b∈l,T b=(10,0)
def ϯ:d_ Nat->n_
 |none=>.pointer none
 |some b=>ptr b
def LenAt (w:o_) (b n:Nat):Prop:=∃a c o,w.heap[b]?=some (O_ #[.slice a n c,o] 191)
theorem LenAt.eq {w:o_} {b n m:Nat} (h:LenAt w b n) (h':LenAt w b m):n=m:=by
 obtain⟨a,c,o,e⟩:=h;obtain⟨f,g,i,d⟩:=h';rw[e]at d;simp at d;exact d.1.2.1
def UE (ln:Nat->Nat) (nm:Nat->d_ Nat) (i:Nat):Nat:=match nm i with|some f=>Am (ln f)|none=>0
def VS (ln:Nat->Nat) (nm:Nat->d_ Nat) (nl:List Nat):Nat:=BF (UE ln nm) (List.range 16)+BF (λb=>Am (ln b)) nl
def VQ (T:Tag) (nm:Nat->d_ Nat) (nl:List Nat) (w:o_):Prop:=∃ln:Nat->Nat,(∀b,T b=(10,0)->LenAt w b (ln b))/\VS ln nm nl<=40
theorem VQ.to {T T':Tag} {nm:Nat->d_ Nat} {nl:List Nat} {w w':o_} (h:VQ T nm nl w) (hl:∀b n,T' b=(10,0)->T b=(10,0)/\(LenAt w b n->LenAt w' b n)):VQ T' nm nl w':=by
 obtain⟨d,a,c⟩:=h;exact⟨d,λb e=>(hl b _ e).2 (a b (hl b 0 e).1),c⟩
theorem VQ.sub {T:Tag} {nm nm':Nat->d_ Nat} {nl nl':List Nat} {w:o_} (h:VQ T nm nl w) (hs:∀ln:Nat->Nat,(∀b,T b=(10,0)->LenAt w b (ln b))->VS ln nm' nl'<=VS ln nm nl):VQ T nm' nl' w:=let ⟨ln,h1,h2⟩:=h;⟨ln,h1,Nat.le_trans (hs ln h1) h2⟩
theorem MN {f:Nat->Nat} {p:Nat->Bool}:∀{l:List Nat},BF f (l.filter p)<=BF f l
 |[]=>w_ _
 |b::l=>by
  have a:=MN (f:=f) (p:=p) (l:=l)
  cases hb:p b with
  |true=>rw[List.filter_cons_of_pos hb];simp only[BF];omega
  |false=>rw[List.filter_cons_of_neg (by simp[hb])];simp only[BF];omega
structure KC (K:KS) (w:o_) (ks:X_):Prop where
 c0:ks[0]?=some (Q_ K.cg K.core.length K.cc)
 c1:ks[1]?=some (Q_ K.sg K.swap.length K.sc)
 c2:ks[2]?=some (Q_ K.pg K.AV.length K.pc)
 c3:ks[3]?=some (b_ K.BK)
 nm:∀i,i<16->ks[4+i]?=some (ϯ (K.nm i))/\∀b,K.nm i=some b->K.T b=(10,0)
 nl:∃v,ks[20]?=some v/\ϻ K.T w K.nl v
 en:∀i,i<20->ks[21+i*2]?=some (K.tv i)/\ks[21+i*2+1]?=some (b_ (K.desc i))/\(K.tv i).oneCell'=true/\(0<K.desc i->Px K.T (K.tv i) (K.ef i))
structure A8 (K:KS) (w:o_):Prop where
 k:∃ks,w.heap[K.kb]?=some (O_ ks 114)/\KC K w ks
 mc:Mp 186 w K.cg K.cc K.core
 ms:Mp 188 w K.sg K.sc K.swap
 pr:Rw 119 1 w K.pg K.AV.length K.pc (BH K.AV)
 ps:∀b r,K.ps b=some r->xI K.T w K.kb b r
 fl:Yq K.T K.op K.ct w K.kb
 tk:K.T K.kb=(1,0)
 tc:K.T K.cg=(2,0)
 ts:K.T K.sg=(3,0)
 tp:K.T K.pg=(4,0)
 lt:∀b,w.heap.size<=b->K.T b=(0,0)
 dk:VQ K.T K.nm K.nl w
def On (T:Tag) (Q:Nat×Nat->Prop):Nat->Prop:=λk=>Q (T k)
section
variable {T:Tag} {w w':o_} {kb b:Nat} {r:PR} {v:n_} {Q:Nat×Nat->Prop} {K:KS}
theorem Nj.keep (h:Nj T w kb b v) (hK:Keep (On T Q) w w') (h9:¬Q (9,b)):Nj T w' kb b v:=by
 obtain h|⟨x,y,d,e,f,a,c⟩|h:=h
 .exact .inl h
 .exact .inr (.inl ⟨x,y,d,hK.old e (by unfold On;rw[a];exact h9),hK.old f (by unfold On;rw[c];exact h9),a,c⟩)
 .exact .inr (.inr h)
theorem xI.keep (h:xI T w kb b r) (hK:Keep (On T Q) w w') (h6:¬Q (6,b)) (h7:¬Q (7,b)) (h8:¬Q (8,b)) (h9:¬Q (9,b)):xI T w' kb b r:=by
 refine⟨h.t,hK.old h.o (by unfold On;rw[h.t];exact h6),λe=>?_,λe=>?_,h.bl.keep hK h9,h.no⟩
 .obtain⟨g,c,a1,a2,a⟩:=h.im e;exact⟨g,c,a1,a2.keep hK (by unfold On;rw[a];exact h7),a⟩
 .obtain⟨g,c,a1,a2,a⟩:=h.fd e;exact⟨g,c,a1,a2.keep hK (by unfold On;rw[a];exact h8),a⟩
theorem RJ.keep {M:Nat} {ws:List Nat} (h:RJ T w b M v ws) (hK:Keep (On T Q) w w') (hq:¬Q (15,b)):RJ T w' b M v ws:=by
 obtain h|⟨g,c,a1,a2,d,e,a⟩:=h
 .exact .inl h
 .exact .inr ⟨g,c,a1,a2.keep hK (by unfold On;rw[a];exact hq),d,e,a⟩
theorem Yq.keep {op:Nat->Nat} {ct:Nat->Ct} (h:Yq T op ct w kb) (hK:Keep (On T Q) w w') (hq:∀c,¬Q (15,c)) (h0:¬Q (10,0)) (h1:¬Q (11,0)) (h2:∀c,¬Q (12,c)) (h3:¬Q (13,0)) (h4:¬Q (14,0)):Yq T op ct w' kb:=by
 refine⟨λb e=>?_,λb e=>?_,λb c e=>?_,λb e=>?_,λb e=>?_⟩
 .obtain⟨x,a1,a2⟩:=h.file b e;exact⟨x,hK.old a1 (by unfold On;rw[e];exact h0),a2.keep hK (hq b)⟩
 .obtain⟨x,a1,a2⟩:=h.pipe b e;exact⟨x,hK.old a1 (by unfold On;rw[e];exact h1),a2.keep hK (hq b)⟩
 .obtain⟨a1,a2⟩:=h.Iu b c e;exact⟨hK.old a1 (by unfold On;rw[e];exact h2 c),a2⟩
 .obtain⟨a1,a2⟩:=h.rend b e;exact⟨hK.old a1 (by unfold On;rw[e];exact h3),a2⟩
 .obtain⟨a1,a2⟩:=h.TU b e;exact⟨hK.old a1 (by unfold On;rw[e];exact h4),a2⟩
theorem LenAt.keep {n:Nat} {S:Nat->Prop} (h:LenAt w b n) (hK:Keep S w w') (hb:¬S b):LenAt w' b n:=let ⟨a,c,o,e⟩:=h;⟨a,c,o,hK.old e hb⟩
theorem VQ.keep {nm:Nat->d_ Nat} {nl:List Nat} (h:VQ T nm nl w) (hK:Keep (On T Q) w w') (h0:¬Q (10,0)):VQ T nm nl w':=h.to λb n e=>⟨e,λa=>a.keep hK (by unfold On;rw[e];exact h0)⟩
theorem ϻ.keep {l:List Nat} (h:ϻ T w l v) (hK:Keep (On T Q) w w') (h5:¬Q (5,0)):ϻ T w' l v:=by
 obtain⟨h|⟨g,c,a1,a2,a⟩,b⟩:=h
 .exact⟨.inl h,b⟩
 .exact⟨.inr ⟨g,c,a1,a2.keep hK (by unfold On;rw[a];exact h5),a⟩,b⟩
theorem KC.keep {ks:X_} (h:KC K w ks) (hK:Keep (On K.T Q) w w') (h5:¬Q (5,0)):KC K w' ks:=⟨h.c0,h.c1,h.c2,h.c3,h.nm,let ⟨v,a,b⟩:=h.nl;⟨v,a,b.keep hK h5⟩,h.en⟩
theorem A8.keep (h:A8 K w) (hK:Keep (On K.T λt=>t=(0,0)) w w') (hl:∀b,w'.heap.size<=b->K.T b=(0,0)):A8 K w':=by
 obtain⟨⟨l,j,k⟩,m,n,pr,o,i,c,a,f,d,lt,g⟩:=h;refine⟨⟨l,hK.old j (by unfold On;rw[c];simp),k.keep hK (by simp)⟩,Rw.keep m hK (by unfold On;rw[a];simp),Rw.keep n hK (by unfold On;rw[f];simp),Rw.keep pr hK (by unfold On;rw[d];simp),λb r e=>(o b r e).keep hK (by simp) (by simp) (by simp) (by simp),i.keep hK (by simp) (by simp) (by simp) (by simp) (by simp) (by simp),c,a,f,d,hl,g.keep hK (by simp)⟩
theorem A8.no (h:A8 K w) (hK:Keep No w w'):A8 K w':=h.keep hK.no λb a=>h.lt b (Nat.le_trans hK.size a)
end
structure DY (T T':Tag) (Q N:Nat×Nat->Prop) (w w':o_):Prop where
 keep:Keep (On T Q) w w'
 old:∀b,T b≠(0,0)->T' b=T b
 new:∀b,T b=(0,0)->T' b≠(0,0)->N (T' b)
 lt:∀b,w'.heap.size<=b->T' b=(0,0)
 fresh:∀b,b<w.heap.size->T' b=T b
def DZ (T:Tag) (g:Nat) (t:W_):Tag:=λb=>if b=g then t else T b
def BX (f:Nat->d_ PR) (b:Nat) (r:PR):Nat->d_ PR:=λk=>if k=b then some r else f k
theorem CX {T:Tag} {g:Nat} {t:Nat×Nat}:DZ T g t g=t:=if_pos rfl
theorem Bj {T:Tag} {g b:Nat} {t:Nat×Nat} (h:b≠g):DZ T g t b=T b:=if_neg h
theorem Ah {f:Nat->d_ PR} {b:Nat} {r:PR}:BX f b r b=some r:=if_pos rfl
theorem Bg {f:Nat->d_ PR} {b k:Nat} {r:PR} (h:k≠b):BX f b r k=f k:=if_neg h
section
variable {T T' T'':Tag} {Q Q' N N' R:Nat×Nat->Prop} {w w' KY:o_} {kb b g:Nat} {r:PR} {v:n_} {K:KS}
theorem Keep.on {S:Nat->Prop} (h:Keep S w w') (hs:∀k,k<w.heap.size->S k->Q (T k)):Keep (On T Q) w w':=⟨h.os,h.output,h.size,λk a b=>h.block k a λe=>b (hs k a e)⟩
theorem DY.of (h:Keep (On T Q) w w') (hl:∀b,w.heap.size<=b->T b=(0,0)):DY T T Q N w w':=⟨h,λ_ _=>rfl,λ_ a c=>absurd a c,λb d=>hl b (Nat.le_trans h.size d),λ_ _=>rfl⟩
theorem DY.no (h:Keep No w w') (hl:∀b,w.heap.size<=b->T b=(0,0)):DY T T Q N w w':=DY.of h.no hl
theorem DY.row (h:Keep (On T Q) w w') (hl:∀b,w.heap.size<=b->T b=(0,0)) {t:Nat×Nat} (hg:T g=t\/w.heap.size<=g) (hg':g<w'.heap.size) (hN:N t):DY T (DZ T g t) Q N w w':=by
 have d:T g=t\/T g=(0,0):=hg.imp id (hl g);refine⟨h,λb a=>?_,λb f c=>?_,λb a=>?_,λb a=>?_⟩
 .by_cases e:b=g
  .subst e;rw[CX];exact((d.resolve_right a)).symm
  .exact Bj e
 .by_cases e:b=g
  .subst e;rw[CX];exact hN
  .rw[Bj e]at c;exact absurd f c
 .rw[Bj (by omega)];exact hl b (Nat.le_trans h.size a)
 .by_cases e:b=g
  .subst e;rw[CX];exact((hg.resolve_right (by omega))).symm
  .exact Bj e
theorem DY.weak (h:DY T T' Q N w w') (h1:∀t,Q t->Q' t) (h2:∀t,N t->N' t):DY T T' Q' N' w w':=⟨h.keep.on λ_ _ e=>h1 _ e,h.old,λb a c=>h2 _ (h.new b a c),h.lt,h.fresh⟩
theorem DY.trans (h:DY T T' Q N w w') (h':DY T' T'' Q N w' KY):DY T T'' Q N w KY:=by
 refine⟨h.keep.trans h'.keep λk f e=>?_,λb a=>?_,λb c d=>?_,h'.lt,λb a=>?_⟩
 .have:=h.fresh k f;unfold On at*;rw[<-this];exact e
 .have:=h.old b a;rw[h'.old b (by rw[this];exact a),this]
 .by_cases e:T' b=(0,0)
  .exact h'.new b e d
  .rw[h'.old b e];exact h.new b c e
 .rw[h'.fresh b (Nat.lt_of_lt_of_le a h.keep.size),h.fresh b a]
theorem DY.tag (h:DY T T' Q N w w') {t:Nat×Nat} (ht:T b=t) (h0:t≠(0,0)):T' b=t:=(h.old b (by rw[ht];exact h0)).trans ht
theorem DY.back (h:DY T T' Q N w w') {t:Nat×Nat} (ht:T' b=t) (h0:t≠(0,0)) (hN:¬N t):T b=t:=by
 by_cases e:T b=(0,0)
 .have:=h.new b e (by rw[ht];exact h0);rw[ht]at this;exact absurd this hN
 .rw[<-h.old b e];exact ht
theorem DY.blk (h:DY T T' Q N w w') {o:Obj} (ho:w.heap[b]?=some o) {t:Nat×Nat} (ht:T b=t) (hq:¬Q t):w'.heap[b]?=some o:=h.keep.old ho (by unfold On;rw[ht];exact hq)
theorem Nj.Jl (h:Nj T w kb b v) (M:DY T T' Q N w w') (h9:¬Q (9,b)):Nj T' w' kb b v:=by
 obtain h|⟨x,y,a,c,f,d,e⟩|⟨p,a,c⟩:=h
 .exact .inl h
 .exact .inr (.inl ⟨x,y,a,M.blk c d h9,M.blk f e h9,M.tag d (by simp),M.tag e (by simp)⟩)
 .exact .inr (.inr ⟨p,a,M.tag c (by simp)⟩)
theorem xI.Jl (h:xI T w kb b r) (M:DY T T' Q N w w') (h6:¬Q (6,b)) (h7:¬Q (7,b)) (h8:¬Q (8,b)) (h9:¬Q (9,b)):xI T' w' kb b r:=by
 refine⟨M.tag h.t (by simp),M.blk h.o h.t h6,λe=>?_,λe=>?_,h.bl.Jl M h9,h.no⟩
 .obtain⟨g,c,a1,a2,a⟩:=h.im e;exact⟨g,c,a1,a2.keep M.keep (by unfold On;rw[a];exact h7),M.tag a (by simp)⟩
 .obtain⟨g,c,a1,a2,a⟩:=h.fd e;exact⟨g,c,a1,a2.keep M.keep (by unfold On;rw[a];exact h8),M.tag a (by simp)⟩
theorem RJ.Jl {n:Nat} {ws:List Nat} (h:RJ T w b n v ws) (M:DY T T' Q N w w') (hq:¬Q (15,b)):RJ T' w' b n v ws:=by
 obtain h|⟨g,c,a1,a2,d,e,a⟩:=h
 .exact .inl h
 .exact .inr ⟨g,c,a1,a2.keep M.keep (by unfold On;rw[a];exact hq),d,e,M.tag a (by simp)⟩
theorem Px.Jl {o:d_ Nat} (h:Px T v o) (M:DY T T' Q N w w'):Px T' v o:=by
 obtain⟨b,h⟩:=h;exact⟨b,h.imp (λ⟨h,f,a,c⟩=>⟨h,f,M.tag a (by simp),c⟩) (Or.imp (λh=>⟨h.1,M.tag h.2.1 (by simp),h.2.2⟩) (λh=>⟨h.1,M.tag h.2.1 (by simp),h.2.2⟩))⟩
theorem Yq.Jl {op:Nat->Nat} {ct:Nat->Ct} (h:Yq T op ct w kb) (M:DY T T' Q N w w') (hQ:∀t,Q t->t.1<10) (hN:∀t,N t->t.1<10):Yq T' op ct w' kb:=by
 have q:∀k c,10<=k->¬Q (k,c):=λk c d e=>absurd (hQ _ e) (by simp;omega)
 have n:∀k c,10<=k->¬N (k,c):=λk c d e=>absurd (hN _ e) (by simp;omega)
 refine⟨λb e=>?_,λb e=>?_,λb c e=>?_,λb e=>?_,λb e=>?_⟩
 .have e:=M.back e (by simp) (n _ _ (by omega));obtain⟨x,a1,a2⟩:=h.file b e;exact⟨x,M.blk a1 e (q _ _ (by omega)),a2.Jl M (q _ _ (by omega))⟩
 .have e:=M.back e (by simp) (n _ _ (by omega));obtain⟨x,a1,a2⟩:=h.pipe b e;exact⟨x,M.blk a1 e (q _ _ (by omega)),a2.Jl M (q _ _ (by omega))⟩
 .have e:=M.back e (by simp) (n _ _ (by omega));obtain⟨a1,a2,a⟩:=h.Iu b c e;exact⟨M.blk a1 e (q _ _ (by omega)),M.tag a2 (by simp),a⟩
 .have e:=M.back e (by simp) (n _ _ (by omega));obtain⟨a1,a2⟩:=h.rend b e;exact⟨M.blk a1 e (q _ _ (by omega)),M.tag a2 (by simp)⟩
 .have e:=M.back e (by simp) (n _ _ (by omega));obtain⟨a1,a2⟩:=h.TU b e;exact⟨M.blk a1 e (q _ _ (by omega)),M.tag a2 (by simp)⟩
theorem ϻ.Jl {l:List Nat} (h:ϻ T w l v) (M:DY T T' Q N w w') (h5:¬Q (5,0)):ϻ T' w' l v:=by
 obtain⟨h|⟨g,c,a1,a2,d⟩,e⟩:=h
 .exact⟨.inl h,λb a=>M.tag (e b a) (by simp)⟩
 .exact⟨.inr ⟨g,c,a1,a2.keep M.keep (by unfold On;rw[d];exact h5),M.tag d (by simp)⟩,λb a=>M.tag (e b a) (by simp)⟩
theorem VQ.Jl {nm:Nat->d_ Nat} {nl:List Nat} (h:VQ T nm nl w) (M:DY T T' Q N w w') (hq:¬Q (10,0)) (hn:¬N (10,0)):VQ T' nm nl w':=h.to λb n e=>by
 have e:=M.back e (by simp) hn;exact⟨e,λa=>a.keep M.keep (by unfold On;rw[e];exact hq)⟩
theorem KC.Jl {ks:X_} (h:KC K w ks) (M:DY K.T T' Q N w w') (h5:¬Q (5,0)):KC { K with T:=T' } w' ks:=
 ⟨h.c0,h.c1,h.c2,h.c3,λi f=>⟨(h.nm i f).1,λb e=>M.tag ((h.nm i f).2 b e) (by simp)⟩,let ⟨v,a,b⟩:=h.nl;⟨v,a,b.Jl M h5⟩,λi f=>let ⟨a,b,c,d⟩:=h.en i f;⟨a,b,c,λe=>(d e).Jl M⟩⟩
theorem KC.ps {ks:X_} (h:KC K w ks) (f:Nat->d_ PR):KC { K with ps:=f } w ks:=⟨h.c0,h.c1,h.c2,h.c3,h.nm,h.nl,h.en⟩
theorem KC.set0 {ks:X_} (h:KC K w ks) {g c:Nat} {l:List (W_)}:KC { K with core:=l,cg:=g,cc:=c } w (ks.setIfInBounds 0 (Q_ g l.length c)):=by
 have b:0<ks.size:=(y_.1 h.c0).1;refine⟨by simp[b],?_,?_,?_,λi a=>?_,?_,λi a=>?_⟩
 .rw[IB (by omega)];exact h.c1
 .rw[IB (by omega)];exact h.c2
 .rw[IB (by omega)];exact h.c3
 .rw[IB (by omega)];exact h.nm i a
 .rw[IB (by omega)];exact h.nl
 .rw[IB (by omega),IB (by omega)];exact h.en i a
theorem KC.Jo {ks:X_} (h:KC K w ks) {g c:Nat} {l:List (W_)}:KC { K with swap:=l,sg:=g,sc:=c } w (ks.setIfInBounds 1 (Q_ g l.length c)):=by
 have b:1<ks.size:=(y_.1 h.c1).1;refine⟨?_,by simp[b],?_,?_,λi a=>?_,?_,λi a=>?_⟩
 .rw[IB (by omega)];exact h.c0
 .rw[IB (by omega)];exact h.c2
 .rw[IB (by omega)];exact h.c3
 .rw[IB (by omega)];exact h.nm i a
 .rw[IB (by omega)];exact h.nl
 .rw[IB (by omega),IB (by omega)];exact h.en i a
theorem KC.set2 {ks:X_} (h:KC K w ks) {g c:Nat} {l:List Nat}:KC { K with AV:=l,pg:=g,pc:=c } w (ks.setIfInBounds 2 (Q_ g l.length c)):=by
 have b:2<ks.size:=(y_.1 h.c2).1;refine⟨?_,?_,by simp[b],?_,λi a=>?_,?_,λi a=>?_⟩
 .rw[IB (by omega)];exact h.c0
 .rw[IB (by omega)];exact h.c1
 .rw[IB (by omega)];exact h.c3
 .rw[IB (by omega)];exact h.nm i a
 .rw[IB (by omega)];exact h.nl
 .rw[IB (by omega),IB (by omega)];exact h.en i a
theorem KC.bo9 {ks:X_} (h:KC K w ks) {n:Nat}:KC { K with BK:=n } w (ks.setIfInBounds 3 (b_ n)):=by
 have b:3<ks.size:=(y_.1 h.c3).1;refine⟨?_,?_,?_,by simp[b],λi a=>?_,?_,λi a=>?_⟩
 .rw[IB (by omega)];exact h.c0
 .rw[IB (by omega)];exact h.c1
 .rw[IB (by omega)];exact h.c2
 .rw[IB (by omega)];exact h.nm i a
 .rw[IB (by omega)];exact h.nl
 .rw[IB (by omega),IB (by omega)];exact h.en i a
def Aj {α:Type} (f:Nat->α) (i:Nat) (n:α):Nat->α:=λk=>if k=i then n else f k
theorem KC.jI {ks:X_} (h:KC K w ks) {i n:Nat} {v:n_} {o:d_ Nat} (hi:i<20) (h1:v.oneCell'=true) (hv:0<n->Px K.T v o):KC { K with desc:=Aj K.desc i n,ef:=Aj K.ef i o,tv:=Aj K.tv i v } w ((ks.setIfInBounds (21+i*2) v).setIfInBounds (21+i*2+1) (b_ n)):=by
 have b:21+i*2+1<ks.size:=by
  obtain⟨_,h,_⟩:=h.en i hi
  exact(y_.1 h).1
 refine⟨?_,?_,?_,?_,λj a=>?_,?_,λj a=>?_⟩
 .rw[IB (by omega),IB (by omega)];exact h.c0
 .rw[IB (by omega),IB (by omega)];exact h.c1
 .rw[IB (by omega),IB (by omega)];exact h.c2
 .rw[IB (by omega),IB (by omega)];exact h.c3
 .rw[IB (by omega),IB (by omega)];exact h.nm j a
 .rw[IB (by omega),IB (by omega)];exact h.nl
 .by_cases e:j=i
  .subst e;refine⟨?_,?_,by simpa [Aj]using h1,?_⟩
   .rw[IB (by omega),Array.getElem?_setIfInBounds_self_of_lt (by omega)];simp[Aj]
   .rw[Array.getElem?_setIfInBounds_self_of_lt (by simpa using b)];simp[Aj]
   .simpa [Aj]using hv
  .rw[IB (by omega),IB (by omega),IB (by omega),IB (by omega)];simpa [Aj,e]using h.en j a
theorem KC.bo8 {ks:X_} (h:KC K w ks) {l:List Nat} {v:n_} (hv:ϻ K.T w l v):KC { K with nl:=l } w (ks.setIfInBounds 20 v):=by
 obtain⟨_,a,_⟩:=h.nl;have c:20<ks.size:=(y_.1 a).1;refine⟨?_,?_,?_,?_,λi b=>?_,⟨v,by simp[c],hv⟩,λi b=>?_⟩
 .rw[IB (by omega)];exact h.c0
 .rw[IB (by omega)];exact h.c1
 .rw[IB (by omega)];exact h.c2
 .rw[IB (by omega)];exact h.c3
 .rw[IB (by omega)];exact h.nm i b
 .rw[IB (by omega),IB (by omega)];exact h.en i b
theorem A8.rE (h:A8 K w) {g c:Nat} {l:List (W_)} {ks:X_} (M:DY K.T T' (λt=>t=(1,0)\/t=(2,0)) (λt=>t=(2,0)) w w') (hc:KC K w ks) (hk:w'.heap[K.kb]?=some (.cells (ks.setIfInBounds 0 (Q_ g l.length c)) 114 (0,0))) (mp:Mp 186 w' g c l) (tg:T' g=(2,0)):A8 { K with core:=l,cg:=g,cc:=c,T:=T' } w':=
 ⟨⟨_,hk,(hc.Jl M (by simp)).set0⟩,mp,Rw.keep h.ms M.keep (by unfold On;rw[h.ts];simp),Rw.keep h.pr M.keep (by unfold On;rw[h.tp];simp),λb r e=>(h.ps b r e).Jl M (by simp) (by simp) (by simp) (by simp),h.fl.Jl M (by rintro t (rfl|rfl)<;>simp) (by rintro t rfl;simp),M.tag h.tk (by simp),tg,M.tag h.ts (by simp),M.tag h.tp (by simp),M.lt,h.dk.Jl M (by simp) (by simp)⟩
theorem A8.rD (h:A8 K w) {g c:Nat} {l:List (W_)} {ks:X_} (M:DY K.T T' (λt=>t=(1,0)\/t=(3,0)) (λt=>t=(3,0)) w w') (hc:KC K w ks) (hk:w'.heap[K.kb]?=some (.cells (ks.setIfInBounds 1 (Q_ g l.length c)) 114 (0,0))) (mp:Mp 188 w' g c l) (tg:T' g=(3,0)):A8 { K with swap:=l,sg:=g,sc:=c,T:=T' } w':=
 ⟨⟨_,hk,(hc.Jl M (by simp)).Jo⟩,Rw.keep h.mc M.keep (by unfold On;rw[h.tc];simp),mp,Rw.keep h.pr M.keep (by unfold On;rw[h.tp];simp),λb r e=>(h.ps b r e).Jl M (by simp) (by simp) (by simp) (by simp),h.fl.Jl M (by rintro t (rfl|rfl)<;>simp) (by rintro t rfl;simp),M.tag h.tk (by simp),M.tag h.tc (by simp),tg,M.tag h.tp (by simp),M.lt,h.dk.Jl M (by simp) (by simp)⟩
theorem A8.Wu (h:A8 K w) {g c BK:Nat} {l:List Nat} {ks ks':X_} (M:DY K.T T' (λt=>t=(1,0)\/t=(4,0)) (λt=>t=(4,0)) w w') (hc:KC K w ks) (hk:w'.heap[K.kb]?=some (O_ ks' 114)) (hks:ks'=(ks.setIfInBounds 3 (b_ BK)).setIfInBounds 2 (Q_ g l.length c)) (mp:Rw 119 1 w' g l.length c (BH l)) (tg:T' g=(4,0)):A8 { K with AV:=l,pg:=g,pc:=c,BK:=BK,T:=T' } w':=
 ⟨⟨_,hk,by subst hks;exact((hc.Jl M (by simp)).bo9).set2⟩,Rw.keep h.mc M.keep (by unfold On;rw[h.tc];simp),Rw.keep h.ms M.keep (by unfold On;rw[h.ts];simp),mp,λb r e=>(h.ps b r e).Jl M (by simp) (by simp) (by simp) (by simp),h.fl.Jl M (by rintro t (rfl|rfl)<;>simp) (by rintro t rfl;simp),M.tag h.tk (by simp),M.tag h.tc (by simp),M.tag h.ts (by simp),tg,M.lt,h.dk.Jl M (by simp) (by simp)⟩
theorem A8.um (h:A8 K w) {r':PR} (M:DY K.T T' (λt=>t=(6,b)\/t=(7,b)\/t=(8,b)\/t=(9,b)) (λt=>t=(6,b)\/t=(7,b)\/t=(8,b)\/t=(9,b)) w w') (hp:xI T' w' K.kb b r'):A8 { K with ps:=BX K.ps b r',T:=T' } w':=by
 obtain⟨f,d,c⟩:=h.k;refine⟨⟨_,M.blk d h.tk (by simp),(c.Jl M (by simp)).ps _⟩,Rw.keep h.mc M.keep (by unfold On;rw[h.tc];simp),Rw.keep h.ms M.keep (by unfold On;rw[h.ts];simp),Rw.keep h.pr M.keep (by unfold On;rw[h.tp];simp),λk r e=>?_,h.fl.Jl M (by rintro t (rfl|rfl|rfl|rfl)<;>simp) (by rintro t (rfl|rfl|rfl|rfl)<;>simp),M.tag h.tk (by simp),M.tag h.tc (by simp),M.tag h.ts (by simp),M.tag h.tp (by simp),M.lt,h.dk.Jl M (by simp) (by simp)⟩;by_cases a:k=b
 .subst a;have e:BX K.ps k r' k=some r:=e;rw[Ah]at e;cases e;exact hp
 .have e:BX K.ps b r' k=some r:=e;rw[Bg a]at e;exact(h.ps k r e).Jl M (by simpa using a) (by simpa using a) (by simpa using a) (by simpa using a)
theorem A8.aX (h:A8 K w) {ks':X_} {d o:Nat->Nat} {nl:List Nat} {nm ef:Nat->d_ Nat} {ct:Nat->Ct} {tv:Nat->n_} (M:DY K.T T' (λt=>t=(1,0)\/t=(5,0)\/10<=t.1) (λt=>t=(5,0)\/10<=t.1) w w') (hk:w'.heap[K.kb]?=some (O_ ks' 114)) (hc:KC { K with desc:=d,op:=o,nl:=nl,nm:=nm,ef:=ef,T:=T',ct:=ct,tv:=tv } w' ks') (hf:Yq T' o ct w' K.kb) (hd:VQ T' nm nl w'):A8 { K with desc:=d,op:=o,nl:=nl,nm:=nm,ef:=ef,T:=T',ct:=ct,tv:=tv } w':=
 ⟨⟨_,hk,hc⟩,Rw.keep h.mc M.keep (by unfold On;rw[h.tc];simp),Rw.keep h.ms M.keep (by unfold On;rw[h.ts];simp),Rw.keep h.pr M.keep (by unfold On;rw[h.tp];simp),λb r e=>(h.ps b r e).Jl M (by simp) (by simp) (by simp) (by simp),hf,M.tag h.tk (by simp),M.tag h.tc (by simp),M.tag h.ts (by simp),M.tag h.tp (by simp),M.lt,hd⟩
theorem KC.op {ks:X_} (h:KC K w ks) (f:Nat->Nat):KC { K with op:=f } w ks:=⟨h.c0,h.c1,h.c2,h.c3,h.nm,h.nl,h.en⟩
end
def KS.EZ (K:KS):Prop:=∀b∈K.AV,∃r,K.ps b=some r
section
variable {K:KS} {w w':o_} {b:Nat} {r:PR}
theorem A8.JK (h:A8 K w) (hb:K.ps b=some r) (i:Nat):w.cell? (T_ b i)=r.arr[i]?:=Af (h.ps b r hb).o i
theorem A8.tZ (h:A8 K w) (hb:K.ps b=some r) (i:Nat):w.frozen? (T_ b i)=false:=BN (h.ps b r hb).o i
theorem A8.plt (h:A8 K w) (hb:K.ps b=some r):b<w.heap.size:=DN (h.ps b r hb).o
theorem A8.klt (h:A8 K w):K.kb<w.heap.size:=let ⟨_,a,_⟩:=h.k;DN a
theorem A8.kc2 (h:A8 K w):w.cell? (T_ K.kb 2)=some (Q_ K.pg K.AV.length K.pc):=let ⟨_,a,c⟩:=h.k;(Af a 2).trans c.c2
theorem A8.qJ (h:A8 K w) {i:Nat} (hi:K.AV[i]?=some b):w.cell? (T_ K.pg i)=some (ptr b):=by
 have a:=(O5.1 hi).1;rw[Rw.cell h.pr (by omega)];simp[BH,hi]
theorem A8.mem (hT:K.EZ) {i:Nat} (hi:K.AV[i]?=some b):∃r,K.ps b=some r:=hT b (t_ hi)
end
def tV (K:KS) (pid:Int) (v:n_):Prop:=(∃b r,v=ptr b/\b∈K.AV/\K.ps b=some r/\(r.pid:Int)=pid)\/(v=.pointer none/\∀b∈K.AV,∀r,K.ps b=some r->(r.pid:Int)≠pid)
section
variable (m:Nat) (w:o_)
theorem Zr (K:KS) (pid:Int) (h:A8 K w) (hT:K.EZ) (hl:K.AV.length<=100):
  P_ m 54 #[R_ K.kb,b_ pid] w λe w'=>Keep No w w'/\∃v,e=.returned v/\tV K pid v:=by
 have z:=h.kc2;gi_enter func54,ntmps54;gi_wp2;gi_loopw [12] (λi wr=>∃k:Nat,k<=K.AV.length/\i=b_ k/\Keep No w wr/\∀(j:Nat) b r,j<k->K.AV[j]?=some b->K.ps b=some r->(r.pid:Int)≠pid) (λi _=>K.AV.length-(intOf i).toNat)
 case atStart=>exact⟨0,by omega,rfl,p_ _ _,λj b r h=>absurd h (by omega)⟩
 case round=>
  obtain⟨k,y,rfl,KK,p⟩:=hrel
  by_cases q:k<K.AV.length
  .have c:K.AV[k]?=some K.AV[k]:=Lh q;generalize K.AV[k]=b at c;obtain⟨r,d⟩:=A8.mem hT c;have n:=h.no KK;have t:=n.qJ c;have d1:=n.JK d 0;simp only[ptr]at t;simp[PR.arr]at d1;by_cases f:(r.pid:Int)=pid
   .have l:((r.pid:Int)==pid)=true:=(by simpa using f);gi_wp2;go_ret;exact⟨KK,ptr b,by simp[ptr],.inl ⟨b,r,rfl,t_ c,d,f⟩⟩
   .have l:((r.pid:Int)==pid)=false:=(by simpa using f);gi_wp2;go_roundw
    case rel=>
     refine⟨k+1,by omega,by go_num,KK,λj s u x a g=>?_⟩
     by_cases e:j=k
     .subst e;rw[c]at a;cases a;rw[d]at g;cases g;exact f
     .exact p j s u (by omega) a g
    case measure=>simp[intOf];omega
  .obtain rfl:k=K.AV.length:=(by omega);gi_wp2;go_ret;refine⟨KK,.pointer none,by simp,.inr ⟨rfl,λb a r d=>?_⟩⟩;obtain⟨i,o⟩:=List.getElem?_of_mem a;exact p i b r (O5.1 o).1 o d
theorem Gg (pb L c:Nat) (a:d_ f_) (h8:w.cell? (T_ pb 8)=some (.slice a L c)) (hL:L<1000000):
  P_ m 58 #[R_ pb] w λe w'=>e=.returned (b_ (Am L))/\w'=w:=by
 gi_enter func58,ntmps58;gi_wp2_with (gi_at_call 48;refine(Ig _ _ L hL).mono ?_;rintro e w1 ⟨rfl,rfl⟩);go_ret;exact⟨by simp,rfl⟩
end
end Go.Fxa
