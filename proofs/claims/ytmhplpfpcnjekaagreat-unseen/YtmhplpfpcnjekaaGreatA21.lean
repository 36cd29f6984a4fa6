/- A region with one operation th -/
import Derived.Test.YtmhplpfpcnjekaaGreatA20
namespace Go.Fxa
open Conc Proofs RowKit Proofs.Tryz
set_option maxRecDepth 1000000
set_option maxHeartbeats 0
variable {L:Nat->Bool} {u:Nat->n_} {W w w':o_} {v x:n_} {i k n N a b g c:Nat} {l:List (W_)} {nm:Nat->d_ Nat} {nl ws:List Nat} {S:Nat->Prop} {ks ks':X_} {t:Nat×Nat} {o:d_ Nat}
def Oa (S:Nat->Prop) (w1:o_) (e:Nat) (Post:n_->o_->Prop) (pure:List (Nat×n_)) (L:Nat->Bool) (u:Y_) (W:o_):Prop:=
 Ac S w1 W/\(L e=false->W=w1)/\(L e=true->Post (u e) W)/\∀p∈pure,L p.1=true->u p.1=p.2
section
variable {S:Nat->Prop} {w1:o_} {e:Nat} {Post:n_->o_->Prop} {pure:List (Nat×n_)} {ss:List Nat}
theorem F7 (r:e∈ss) (s:∀p∈pure,p.1∈ss):∀L m u q W,(∀i∈ss,L i=m i/\u i=q i)->Oa S w1 e Post pure L u W->Oa S w1 e Post pure m q W:=by
 rintro L m u q W h ⟨g,j,k,l⟩;obtain⟨a,b⟩:=h e r;refine⟨g,λx=>j (a.trans x),λx=>b ▸ k (a.trans x),λp f x=>?_⟩;obtain⟨c,d⟩:=h p.1 (s p f);exact d ▸ l p f (c.trans x)
theorem Em (u:Y_):Oa S w1 e Post pure (λ_=>false) u w1:=⟨Ac.refl _ _,λ_=>rfl,λh=>ql h zF,λ_ _ h=>ql h zF⟩
theorem F8 {d:o_} (h:Oa S w1 e Post pure L u W) (j:∀p∈pure,p.1≠e) (f:Ac S w1 d) (m:Post v d):Oa S w1 e Post pure (Nq L e) (J8 u e v) d:=by
 obtain⟨_,_,_,b⟩:=h;refine⟨f,λx=>ql x (by simp[Nq]),λ_=>by simp only[J8,if_true];exact m,λp a x=>?_⟩;have ne:=j p a;simp only[Nq,ru ne]at x;simp only[J8,ru ne];exact b p a x
theorem Gi (h:Oa S w1 e Post pure L u W) (m:i≠e) (q:∀p∈pure,p.1=i->v=p.2):Oa S w1 e Post pure (Nq L i) (J8 u i v) W:=by
 obtain⟨d,f,g,j⟩:=h;have a:e≠i:=ik m;refine⟨d,λx=>f (by simpa [Nq,a]using x),λx=>?_,λp b x=>?_⟩
 .simp only[J8,ru a];exact g (by simpa [Nq,a]using x)
 .by_cases c:p.1=i
  .simp only[J8,rC c];exact q p b c
  .simp only[J8,ru c];simp only[Nq,ru c]at x;exact j p b x
theorem FP {y:n_} (h:Oa S w1 e Post pure L u W) (d:i≠e) (f:v=y) (j:∀p∈pure,p.1=i->p.2=y):Oa S w1 e Post pure (Nq L i) (J8 u i v) W:=
 Gi h d λp a c=>f.trans (j p a c).symm
end
section
variable {n:Nat} {Q:Exit->Act->o_->Prop} {K:Act->o_->Prop} {a:Act} {W:o_} {ops:Array Oper} {i:Nat} {o:Oper} {x:Operand}
theorem jT (f:ops[i]?=some o) (e:o.guard=none) (d:o.op=.move x) (h:K (a.put o.dst (a.eval x)) W):wpOpIn NF n prog ops Q i K a W:=
 OH f e (by unfold Oper.about;rw[d]) (w':=W) (x:=a.eval x) (by unfold execOp;rw[d];rfl) h
theorem jU (f:ops[i]?=some o) (e:o.guard=none) (d:o.op=.assign x) (h:K (a.put o.dst (a.eval x)) W):wpOpIn NF n prog ops Q i K a W:=
 OH f e (by unfold Oper.about;rw[d]) (w':=W) (x:=a.eval x) (by unfold execOp;rw[d];rfl) h
theorem RX {e:X_} (j:ops[i]?=some o) (f:o.guard=none) (d:o.op=.extract x k) (p:a.eval x=.tuple e) (m:e[k]?=some v) (h:K (a.put o.dst v) W):wpOpIn NF n prog ops Q i K a W:=
 OH j f (by unfold Oper.about;rw[d]) (w':=W) (x:=v) (by unfold execOp;rw[d];simp only[p];simp[Instr.extract,m]) h
end
def OE {α:Type} (b:Nat):Nat->U_->Sem α->Sem α
 |_,[],k=>k
 |i,v::vs,k=>.store .plain (S_ b i) v (OE b (i+1) vs k)
def TY (cs:X_):Nat->U_->X_
 |_,[]=>cs
 |i,v::vs=>TY (cs.setIfInBounds i v) (i+1) vs
theorem G7 {P:l_} {α:Type} {b:Nat} {T:j_} {k:Sem α}:∀(m:U_) (i:Nat) (cs:X_) (w:o_),w.heap[b]?=some (N_ cs T)->i+m.length<=cs.size->(∀v∈m,v.oneCell'=true)->
  ∃w',(OE b i m k).run P w=k.run P w'/\Ac (At b) w w'/\w'.heap[b]?=some (N_ (TY cs i m) T)
 |[],i,cs,w,h,_,_=>⟨w,rfl,Ac.refl _ _,h⟩
 |v::m,i,cs,w,h,g,a=>by
  simp only[List.length_cons]at g
  have f:w.cell? (S_ b i)=some cs[i]:=by rw[Ah h];simp
  obtain⟨w',c,d,e⟩:=G7 (P:=P) (k:=k) m (i+1) _ _ (Ap (i:=i) h v) (by simp;omega) (λx j=>a x (List.mem_cons_of_mem _ j))
  refine⟨w',?_,(Ac.NZ v).then d,e⟩
  unfold OE
  rw[Ω (a v (List.mem_cons_self ..)) f (BQ h i)]
  exact c
theorem Dw {F:Fence} {P:l_} {ops:Array Oper} {rest:List Oper} {o:Oper} {a:Act} {Q:Exit->Act->o_->Prop} (j:o.guard=none) (s y:Operand) (t:j_) (e:o.op=Op.store t s y) (m:a.eval s=v) (p:a.eval y=x)
  (f:(Instr.storeAt t v x).run P w=.ok () w') (h:wpListIn F n P ops Q rest (a.put o.dst undef) w'):wpListIn F n P ops Q (o::rest) a w:=by
 refine wpListIn_plain j λK b=>?_
 unfold Oper.wpIn;refine⟨?_,?_⟩
 .simp[Oper.about,e]
 .rw[Oper.semAt_plain F _ _ (by rw[e];intro c d;cases d)];simp[execOp,e,m,p,f,Result.andThen];exact b _ _ h
section
variable {F:Fence} {n:Nat} {P:l_} {w w':o_} {ops:Array Oper} {rest:List Oper} {o:Oper} {a:Act} {Q:Exit->Act->o_->Prop}
theorem EX {n:Nat} {w w':o_} {ops:Array Oper} {rest:List Oper} {o:Oper} {a:Act} {Q:Exit->Act->o_->Prop} {s y:Operand} {t:j_} (e:(Instr.storeAt t v x).run prog w=.ok () w') (f:wpListIn NF n prog ops Q rest (a.put o.dst undef) w') (h:o.guard=none:=by rfl) (d:o.op=Op.store t s y:=by rfl) (j:a.eval s=v:=by rfl) (m:a.eval y=x:=by rfl):wpListIn NF n prog ops Q (o::rest) a w:=Dw h s y t d j m e f
theorem VF (j:o.guard=none) (s:Operand) (t:j_) (e:o.op=Op.load t s) (m:a.eval s=v)
  (f:(Instr.loadAt t v).run P w=.ok x w') (h:wpListIn F n P ops Q rest (a.put o.dst x) w'):wpListIn F n P ops Q (o::rest) a w:=by
 refine wpListIn_plain j λK b=>?_
 unfold Oper.wpIn;refine⟨?_,?_⟩
 .simp[Oper.about,e]
 .rw[Oper.semAt_plain F _ _ (by rw[e];intro c d;cases d)];simp[execOp,e,m,f,Result.andThen];exact b _ _ h
theorem QX (j:o.guard=none) (s y:Operand) (t:j_) (e:o.op=Op.index t s y) {u:n_} (m:a.eval s=v) (p:a.eval y=u)
  (f:(Instr.index t v u).run P w=.ok x w') (h:wpListIn F n P ops Q rest (a.put o.dst x) w'):wpListIn F n P ops Q (o::rest) a w:=by
 refine wpListIn_plain j λK b=>?_
 unfold Oper.wpIn;refine⟨?_,?_⟩
 .simp[Oper.about,e]
 .rw[Oper.semAt_plain F _ _ (by rw[e];intro c d;cases d)];simp[execOp,e,m,p,f,Result.andThen];exact b _ _ h
end
theorem Υ {rb:Nat} {a b c:n_} {x y:Int} (h:w.heap[rb]?=some (N_ #[a,b,c] 206)):∃w',(Instr.storeAt 206 (Q_ rb) (.agg #[a_ x,a_ y,.nilFunc])).run prog w=.ok () w'/\Ac (At rb) w w'/\w'.heap[rb]?=some (N_ #[a_ x,a_ y,.nilFunc] 206):=by
 have e:(Instr.storeAt 206 (Q_ rb) (.agg #[a_ x,a_ y,.nilFunc])).run prog w=(OE rb 0 [a_ x,a_ y,.nilFunc] (.pure ())).run prog w:=sJ
 obtain⟨w',d,f,g⟩:=G7 (P:=prog) (k:=Sem.pure ()) [a_ x,a_ y,.nilFunc] 0 _ w h zF (by simp[Value.oneCell']);refine⟨w',?_,f,?_⟩
 .rw[e,d];rfl
 .rw[g];simp[TY]
def Sound (N:Nat) (l:List (W_)):Prop:=∀r∈l,1<=r.2/\r.1+r.2<=N
def Ht:List (W_)->Nat
 |[]=>0
 |r::l=>r.2+Ht l
theorem Qx:∀l k:List (W_),Ht (l++k)=Ht l+Ht k
 |[],k=>by simp[Ht]
 |r::l,k=>by simp only[List.cons_append,Ht,Qx l k];omega
theorem Qs {α:Type} {l:List α} {r:α} (h:l[i]?=some r):l=l.take i++r::l.drop (i+1):=by
 obtain⟨b,a⟩:=KT.1 h;rw[<-a,List.getElem_cons_drop,List.take_append_drop]
theorem Sound.len {N:Nat}:∀{l:List (W_)},Sound N l->l.length<=Ht l
 |[],_=>Nat.zero_le _
 |r::l,h=>by
  have b:=(h r zF).1
  have c:=Sound.len (l:=l) λx a=>h x (by simp[a])
  simp only[Ht,List.length_cons];omega
theorem Sound.fit (h:Sound N l) (d:Ht l<=N):Fit N l:=⟨pV h.len d,λ_ r a=>(h r (t_ a)).2⟩
theorem QM (h:Sound N l):Sound N (Ep l i)/\Ht (Ep l i)=Ht l:=by
 unfold Ep;split
 .rename_i a b f g;split
  .rename_i k;have j:=Qs f;have c2:l.drop (i+1)=b::l.drop (i+2):=by
    have d:(l.drop (i+1))[0]?=some b:=by simpa using g
    have:=Qs d
    simpa using this
   have o:=h b (t_ g);have n:=h a (t_ f);refine⟨λr m=>?_,?_⟩
   .obtain c|c:=gJ.1 m
    .exact h r (List.mem_of_mem_take c)
    .obtain rfl|c:=r_.1 c
     .simp only;omega
     .exact h r (List.mem_of_mem_drop c)
   .have e:Ht l=Ht (l.take i++a::b::l.drop (i+2)):=(by rw[<-c2,<-j]);rw[e];simp only[Qx,Ht];omega
  .exact⟨h,rfl⟩
 .exact⟨h,rfl⟩
theorem uU (h:Sound N l) (f:1<=n) (d:a+n<=N):Sound N (LP l a n)/\Ht (LP l a n)=Ht l+n:=by
 unfold LP;refine⟨λr c=>?_,?_⟩
 .obtain b|b:=gJ.1 c
  .exact h r (List.mem_of_mem_take b)
  .obtain rfl|b:=r_.1 b
   .exact⟨f,d⟩
   .exact h r (List.mem_of_mem_drop b)
 .have e:Ht l=Ht (l.take (Ci l a)++l.drop (Ci l a)):=by rw[List.take_append_drop]
  rw[e];simp only[Qx,Ht];omega
theorem QO (h:Sound N l) (f:1<=n) (e:a+n<=N):Sound N (BX l a n)/\Ht (BX l a n)=Ht l+n:=by
 have b:=uU h f e;unfold BX;rw[ru zD];split
 .have:=QM (i:=0) b.1;exact⟨this.1,this.2.trans b.2⟩
 .have c:=QM (i:=Ci l a) b.1;have d:=QM (i:=Ci l a-1) c.1;exact⟨d.1,d.2.trans (c.2.trans b.2)⟩
theorem Jf (h:Sound N l):Sound N (Aq l n).2/\((Aq l n).1=none->(Aq l n).2=l)/\∀a,(Aq l n).1=some a->Ht (Aq l n).2+n=Ht l/\a+n<=N/\1<=n:=by
 unfold Aq;by_cases k:n<1
 .rw[rC k];exact⟨h,λ_=>rfl,λa e=>by cases e⟩
 .rw[ru k];cases d:l.findIdx? (λr=>decide (n<=r.2))with
  |none=>exact⟨h,λ_=>rfl,λa e=>by cases e⟩
  |some i=>
   obtain⟨j,c,_⟩:=List.findIdx?_eq_some_iff_getElem.1 d
   have f:l[i]?=some l[i]:=IG j
   generalize l[i]=r at f c
   have q:n<=r.2:=by simpa using c
   have s:=h r (t_ f)
   have o:=Qs f
   have e:Ht l=Ht (l.take i++r::l.drop (i+1)):=by rw[<-o]
   simp only[f]
   by_cases m:r.2=n
   .simp only[m,if_true];refine⟨λx d=>?_,λe=>(by cases e),λa g=>?_⟩
    .obtain b|b:=gJ.1 d
     .exact h x (List.mem_of_mem_take b)
     .exact h x (List.mem_of_mem_drop b)
    .cases g;rw[e];simp only[Qx,Ht];omega
   .simp only[m,if_false];have p:l.set i (r.1+n,r.2-n)=l.take i++(r.1+n,r.2-n)::l.drop (i+1):=List.set_eq_take_append_cons_drop.trans (rC j);refine⟨λx d=>?_,λe=>(by cases e),λa g=>?_⟩
    .obtain b|rfl:=List.mem_or_eq_of_mem_set d
     .exact h x b
     .simp only;omega
    .cases g;rw[p,e];simp only[Qx,Ht];omega
def OU (i a n:Nat):Nat:=if a<=i/\i<a+n then 1 else 0
def D5 (i:Nat):List (W_)->Nat
 |[]=>0
 |r::l=>OU i r.1 r.2+D5 i l
theorem zo (i a n m:Nat):OU i a (n+m)=OU i a n+OU i (a+n) m:=by
 unfold OU
 (repeat' split)<;>omega
theorem QG (i:Nat):∀l k:List (W_),D5 i (l++k)=D5 i l+D5 i k
 |[],k=>by simp[D5]
 |r::l,k=>by simp only[List.cons_append,D5,QG i l k];omega
theorem VG (x i:Nat) (l:List (W_)):D5 x (Ep l i)=D5 x l:=by
 unfold Ep;split
 .rename_i a b g h;split
  .rename_i c;have f:=Qs g;have c2:l.drop (i+1)=b::l.drop (i+2):=by
    have d:(l.drop (i+1))[0]?=some b:=by simpa using h
    have:=Qs d
    simpa using this
   have e:D5 x l=D5 x (l.take i++a::b::l.drop (i+2)):=(by rw[<-c2,<-f]);rw[e];simp only[QG,D5,zo,c];omega
  .rfl
 .rfl
theorem kZ (x a n:Nat) (l:List (W_)):D5 x (LP l a n)=D5 x l+OU x a n:=by
 unfold LP;have e:D5 x l=D5 x (l.take (Ci l a)++l.drop (Ci l a)):=by rw[List.take_append_drop]
 rw[e];simp only[QG,D5];omega
theorem VI (d:1<=n) (x a:Nat) (l:List (W_)):D5 x (BX l a n)=D5 x l+OU x a n:=by
 unfold BX;rw[ru zD];split
 .rw[VG,kZ]
 .rw[VG,VG,kZ]
theorem Q9 (h:(Aq l n).1=some a) (x:Nat):D5 x (Aq l n).2+OU x a n=D5 x l:=by
 revert h
 unfold Aq;by_cases g:n<1
 .rw[rC g];intro e;cases e
 .rw[ru g];cases hx:l.findIdx? (λr=>decide (n<=r.2))with
  |none=>intro e;cases e
  |some i=>
   obtain⟨f,b,_⟩:=List.findIdx?_eq_some_iff_getElem.1 hx
   have c:l[i]?=some l[i]:=IG f
   generalize l[i]=r at c b
   have o:n<=r.2:=by simpa using b
   have j:=Qs c
   have e:D5 x l=D5 x (l.take i++r::l.drop (i+1)):=by rw[<-j]
   simp only[c]
   intro k
   cases k
   by_cases d:r.2=n
   .simp only[d,if_true];rw[e];simp only[QG,D5,d];omega
   .simp only[d,if_false];have m:l.set i (r.1+n,r.2-n)=l.take i++(r.1+n,r.2-n)::l.drop (i+1):=List.set_eq_take_append_cons_drop.trans (rC f);have e2:=zo x r.1 n (r.2-n);rw[show n+(r.2-n)=r.2 by omega]at e2;rw[m,e];simp only[QG,D5];omega
theorem VJ {x:Nat}:∀{l:List (W_)},D5 x l=0->∀r∈l,¬(r.1<=x/\x<r.1+r.2)
 |[],_,r,a=>by cases a
 |s::l,h,r,a=>by
  simp only[D5]at h
  obtain rfl|a:=r_.1 a
  .intro b;have:OU x r.1 r.2=1:=rC b;omega
  .exact VJ zD r a
def Zu (l:List (W_)):Prop:=l.Pairwise λr s=>r.1+r.2<s.1
def jo (x:W_):List (W_)->List (W_)
 |[]=>[x]
 |b::B=>if x.1+x.2=b.1 then(x.1,x.2+b.2)::B else x::b::B
theorem lI (A B:List (W_)) (x:W_):Ep (A++x::B) A.length=A++jo x B:=by
 have a:(A++x::B)[A.length]?=some x:=zF
 have c:(A++x::B)[A.length+1]?=B[0]?:=by
  rw[List.getElem?_append_right zD];simp
 unfold Ep;rw[a,c];cases B with
 |nil=>rfl
 |cons b B=>
  simp only[List.getElem?_cons_zero,jo]
  split
  .rw[List.take_left' rfl]
   congr 2
   rw[show A.length+2=A.length+2 from rfl,List.drop_append];simp
  .rfl
theorem bi8 {x s:Nat×Nat}:∀{B:List (W_)},(∀t∈B,x.1+x.2<=t.1)->s∈jo x B->x.1<=s.1
 |[],_,a=>by simp only[jo,List.mem_singleton]at a;rw[a];exact w_ _
 |b::B,h,a=>by
  simp only[jo]at a
  split at a
  .obtain rfl|a:=r_.1 a
   .exact w_ _
   .have:=h s (by simp[a]);omega
  .obtain rfl|a:=r_.1 a
   .exact w_ _
   .have:=h s a;omega
theorem ag5 {x:Nat×Nat}:∀{B:List (W_)},(∀t∈B,x.1+x.2<=t.1)->Zu B->Zu (jo x B)
 |[],_,_=>by simp[jo,Zu]
 |b::B,h,d=>by
  have a:=List.pairwise_cons.1 d
  simp only[jo]
  split
  .rename_i e;refine List.pairwise_cons.2 ⟨λs c=>?_,a.2⟩;have:=a.1 s c;simp only;omega
  .rename_i e;have f:=h b zF;refine List.pairwise_cons.2 ⟨λs c=>?_,d⟩;obtain rfl|c:=r_.1 c
   .omega
   .have:=a.1 s c;omega
theorem Yh (h:Zu l):Zu (Aq l n).2:=by
 unfold Aq;by_cases f:n<1
 .rw[rC f];exact h
 .rw[ru f];cases hx:l.findIdx? (λr=>decide (n<=r.2))with
  |none=>exact h
  |some i=>
   obtain⟨e,b,_⟩:=List.findIdx?_eq_some_iff_getElem.1 hx
   have d:l[i]?=some l[i]:=IG e
   generalize l[i]=r at d b
   have p:n<=r.2:=by simpa using b
   have m:=Qs d
   have o:Zu (l.take i++r::l.drop (i+1)):=by rw[<-m];exact h
   obtain⟨j,p2,p3⟩:=List.pairwise_append.1 o
   obtain⟨p4,k⟩:=List.pairwise_cons.1 p2
   simp only[d]
   by_cases g:r.2=n
   .simp only[g,if_true];exact List.pairwise_append.2 ⟨j,k,λs a t c=>p3 s a t (by simp[c])⟩
   .simp only[g,if_false];rw[List.set_eq_take_append_cons_drop.trans (rC e)];refine List.pairwise_append.2 ⟨j,List.pairwise_cons.2 ⟨λs a=>?_,k⟩,λs a t c=>?_⟩
    .have:=p4 s a;simp only;omega
    .obtain rfl|c:=r_.1 c
     .have:=p3 s a r zF;simp only;omega
     .exact p3 s a t (by simp[c])
theorem ax1 (q:1<=N) (p:Sound N l) (h:Zu l) (m:∀x,x<N->1<=D5 x l):l=[(0,N)]:=by
 have one:∀(l:List (W_)) (x:Nat),1<=D5 x l->∃r∈l,r.1<=x/\x<r.1+r.2:=by
  intro l
  induction l with
  |nil=>intro x h;simp[D5]at h
  |cons s l g=>
   intro x h
   by_cases b:s.1<=x/\x<s.1+s.2
   .exact⟨s,zF,b⟩
   .simp only[D5,OU,ru b]at h;obtain⟨r,d,b⟩:=g x zD;exact⟨r,by simp[d],b⟩
 cases l with
 |nil=>have:=m 0 zD;simp[D5]at this
 |cons r l=>
  obtain⟨c,p2⟩:=List.pairwise_cons.1 h
  have d:=p r zF
  have r0:r.1=0:=by
   obtain⟨s,a,f,_⟩:=one _ 0 (m 0 zD)
   obtain rfl|a:=r_.1 a
   .omega
   .have:=c s a;omega
  have i:r.2=N:=by
   refine Nat.le_antisymm zD (Nat.le_of_not_lt λe=>?_)
   obtain⟨s,a,f,j⟩:=one _ r.2 (m r.2 e)
   obtain rfl|a:=r_.1 a
   .omega
   .have:=c s a;omega
  cases l with
  |nil=>rw[<-i,<-r0]
  |cons s l=>
   have:=c s zF
   have:=p s zF
   omega
theorem ny:∀z∈l.take (Ci l a),z.1<=a:=by
 intro z b;unfold Ci at b;cases hx:l.findIdx? (λr=>decide (a<r.1))with
 |none=>
  have:=List.findIdx?_eq_none_iff.1 hx z (List.mem_of_mem_take b)
  simpa using this
 |some i=>
  obtain⟨d,_,c⟩:=List.findIdx?_eq_some_iff_getElem.1 hx
  rw[hx]at b
  simp only at b
  obtain⟨j,e,rfl⟩:=List.mem_take_iff_getElem.1 b
  have:=c j zD
  simpa using this
theorem uG (h:Zu l):∀t∈l.drop (Ci l a),a<t.1:=by
 intro t b;unfold Ci at b;cases hx:l.findIdx? (λr=>decide (a<r.1))with
 |none=>rw[hx]at b;simp at b
 |some i=>
  obtain⟨c,f,_⟩:=List.findIdx?_eq_some_iff_getElem.1 hx
  rw[hx]at b
  have e:a<l[i].1:=by simpa using f
  have d:Zu (l.drop i):=List.Pairwise.sublist (List.drop_sublist i l) h
  rw[<-List.getElem_cons_drop c]at d
  simp only at b
  rw[<-List.getElem_cons_drop c]at b
  obtain rfl|b:=r_.1 b
  .exact e
  .have:=(List.pairwise_cons.1 d).1 t b;omega
theorem Yi (G:1<=n) (F:Sound N l) (h:Zu l) (E:∀x,a<=x->x<a+n->D5 x l=0):Zu (BX l a n):=by
 have m:∀z∈l.take (Ci l a),z.1+z.2<=a:=λz f=>by
  have k:=ny z f
  have w:=VJ (E a (w_ _) zD) z (List.mem_of_mem_take f)
  omega
 have o:∀t∈l.drop (Ci l a),a+n<=t.1:=λt b=>by
  have k:=uG h t b
  have D:=F t (List.mem_of_mem_drop b)
  refine Nat.le_of_not_lt λu=>?_
  exact VJ (E t.1 zD u) t (List.mem_of_mem_drop b) ⟨w_ _,zD⟩
 have p:Zu (l.take (Ci l a)):=List.Pairwise.sublist (List.take_sublist _ l) h;have C:Zu (l.drop (Ci l a)):=List.Pairwise.sublist (List.drop_sublist _ l) h;have i:(l.take (Ci l a)).length=Ci l a:=by rw[ed];have:=UA l a;omega
 have q:Zu (jo (a,n) (l.drop (Ci l a))):=ag5 o C;have y:∀t∈jo (a,n) (l.drop (Ci l a)),a<=t.1:=λt b=>bi8 (x:=(a,n)) o b
 have e:=lI (l.take (Ci l a)) (l.drop (Ci l a)) (a,n);rw[i]at e;unfold BX;rw[ru zD];split
 .rename_i g;have d:Ep (LP l a n) (Ci l a)=_:=e;rw[g]at d;rw[d,List.take_zero,List.nil_append,<-g];exact q
 .rename_i g;have d:Ep (LP l a n) (Ci l a)=_:=e;rw[d];generalize jo (a,n) (l.drop (Ci l a))=J at*;generalize l.take (Ci l a)=A at*;obtain rfl|⟨r,z,rfl⟩:=List.eq_nil_or_concat A
  .simp at i;omega
  .have j:Ci l a-1=r.length:=(by simp at i;omega);rw[j,List.concat_eq_append,List.append_assoc,List.singleton_append,lI];rw[List.concat_eq_append]at p m;obtain⟨q1,_,B⟩:=List.pairwise_append.1 p;have f:z.1+z.2<=a:=m z zF;have c:∀t∈J,z.1+z.2<=t.1:=λt b=>pV f (y t b)
   refine List.pairwise_append.2 ⟨q1,ag5 c q,λs v t b=>?_⟩;have k:=B s v z zF;have w:=bi8 c b;omega
def ag (p:Prop):Prop:=p
theorem ag.out {p:Prop} (h:ag p):p:=h
def ptr (b:Nat):n_:=Q_ b
def Az (l:List Nat):U_:=l.map λx:Nat=>a_ (x:Int)
def FM (l:List Int):U_:=l.map λx=>b_ x
def Bj (l:List Nat):U_:=l.map ptr
structure PR where
 (pid par st A B P sw:Nat)
 en:Bool
 co:Int
 (bl im fd:n_)
 Af:List Nat
 fds:List Int
def PR.arr (r:PR):X_:=#[b_ r.pid,b_ r.par,.bool r.en,a_ r.st,r.bl,a_ r.A,a_ r.B,a_ r.P,r.im,r.fd,b_ r.sw,b_ r.co]
def PR.obj (r:PR):Obj:=.cells r.arr 128 (0,0)
def BK (f:Nat->Nat):List Nat->Nat
 |[]=>0
 |b::l=>f b+BK f l
theorem BO {f g:Nat->Nat}:∀{l:List Nat},(∀b∈l,f b=g b)->BK f l=BK g l
 |[],_=>rfl
 |b::l,h=>by simp only[BK];rw[h b zF,BO λx a=>h x (by simp[a])]
theorem Jt {f g:Nat->Nat} {b:Nat}:∀{l:List Nat},l.Nodup->b∈l->(∀k,k≠b->f k=g k)->BK f l+g b=BK g l+f b
 |[],_,h,_=>by simp at h
 |k::l,j,h,a=>by
  obtain⟨c,d⟩:=List.nodup_cons.1 j
  simp only[BK]
  by_cases e:k=b
  .subst e;rw[BO (f:=f) (g:=g) λx m=>a x (by rintro rfl;exact c m)];omega
  .have i:b∈l:=(by simpa [ik e]using h);have:=Jt d i a;rw[a k e];omega
theorem Oe {f:Nat->Nat} {b:Nat}:∀{l:List Nat},b∈l->f b<=BK f l
 |[],h=>by simp at h
 |k::l,h=>by
  simp only[BK]
  obtain rfl|h:=r_.1 h
  .omega
  .have:=Oe (f:=f) h;omega
theorem QA {f:Nat->Nat}:∀{l k:List Nat},BK f (l++k)=BK f l+BK f k
 |[],k=>by simp[BK]
 |b::l,k=>by simp only[List.cons_append,BK,QA (l:=l)];omega
abbrev Tag:=Nat->Nat×Nat
def LW (T:Tag) (w:o_) (kb b:Nat) (v:n_):Prop:=
 v=.nilFunc\/
 (∃x y,v=.func (.func 196) #[] #[ptr x,ptr y]/\w.heap[x]?=some (N_ #[ptr kb] 33)/\w.heap[y]?=some (N_ #[ptr b] 119)/\T x=(9,b)/\T y=(9,b))\/
 (∃p,(v=.func (.func 270) #[ptr p] #[]\/v=.func (.func 265) #[ptr p] #[])/\T p=(11,0))
structure PAt (T:Tag) (w:o_) (kb b:Nat) (r:PR):Prop where
 t:T b=(6,b)
 o:w.heap[b]?=some r.obj
 im:r.en=false->∃g c,r.im=P_ g r.Af.length c/\Rw 123 1 w g r.Af.length c (Az r.Af)/\T g=(7,b)
 fd:r.en=false->∃g c,r.fd=P_ g r.fds.length c/\Rw 3 1 w g r.fds.length c (FM r.fds)/\T g=(8,b)
 bl:LW T w kb b r.bl
 no:r.en=true->r.im=.slice none 0 0/\r.fd=.slice none 0 0/\r.Af=[]/\r.fds=[]
structure Ct where
 ws:List Nat
 (x y:Bool)
 n:Nat
def RU (T:Tag) (w:o_) (b M:Nat) (v:n_) (ws:List Nat):Prop:=(v=.slice none 0 0/\ws=[])\/∃g c,v=P_ g ws.length c/\Rw 123 1 w g ws.length c (Az ws)/\ws.length<=M/\(∀x∈ws,x<65536)/\T g=(15,b)
def O3 (T:Tag) (v:n_) (o:d_ Nat):Prop:=∃b,(v=.iface 337 (ptr b)/\∃f,T b=(12,f)/\o=some f)\/(v=.iface 330 (ptr b)/\T b=(13,0)/\o=none)\/(v=.iface 334 (ptr b)/\T b=(14,0)/\o=none)
structure ae (T:Tag) (op:Nat->Nat) (ct:Nat->Ct) (w:o_) (kb:Nat):Prop where
 file:∀b,T b=(10,0)->∃v,w.heap[b]?=some (N_ #[v,b_ (op b)] 191)/\RU T w b 64 v (ct b).ws
 pipe:∀b,T b=(11,0)->∃v,w.heap[b]?=some (N_ #[v,.bool (ct b).x,.bool (ct b).y] 329)/\RU T w b 16 v (ct b).ws
 GI:∀b f,T b=(12,f)->w.heap[b]?=some (N_ #[.pointer (some (S_ kb 4)),ptr f,b_ ((ct b).n:Nat)] 339)/\T f=(10,0)/\(ct b).n<=64
 rend:∀b,T b=(13,0)->w.heap[b]?=some (N_ #[ptr (ct b).n] 333)/\T (ct b).n=(11,0)
 TM:∀b,T b=(14,0)->w.heap[b]?=some (N_ #[ptr (ct b).n] 335)/\T (ct b).n=(11,0)
structure KS where
 (kb cg cc sg sc pg pc BD:Nat)
 (core swap:List (W_))
 (Aw nl:List Nat)
 (desc op:Nat->Nat)
 (nm ef:Nat->d_ Nat)
 ps:Nat->d_ PR
 T:Tag
 ct:Nat->Ct
 tv:Nat->n_
def zM (T:Tag) (w:o_) (l:List Nat) (v:n_):Prop:=((v=.slice none 0 0/\l=[])\/∃g c,v=P_ g l.length c/\Rw 101 1 w g l.length c (Bj l)/\T g=(5,0))/\∀b∈l,T b=(10,0)
def U8:d_ Nat->n_
 |none=>.pointer none
 |some b=>ptr b
def JJ (w:o_) (b n:Nat):Prop:=∃a c o,w.heap[b]?=some (N_ #[.slice a n c,o] 191)
theorem JJ.eq {m:Nat} (h:JJ w b n) (j:JJ w b m):n=m:=by
 obtain⟨a,c,o,e⟩:=h;obtain⟨f,g,i,d⟩:=j;rw[e]at d;simp at d;exact d.1.2.1
def Pq (ln:Nat->Nat) (nm:Nat->d_ Nat) (i:Nat):Nat:=match nm i with|some f=>Ai (ln f)|none=>0
def Np (ln:Nat->Nat) (nm:Nat->d_ Nat) (nl:List Nat):Nat:=BK (Pq ln nm) (List.range 16)+BK (λb=>Ai (ln b)) nl
def Xd (T:Tag) (nm:Nat->d_ Nat) (nl:List Nat) (w:o_):Prop:=∃ln:Nat->Nat,(∀b,T b=(10,0)->JJ w b (ln b))/\Np ln nm nl<=40
theorem Xd.to {T T':Tag} (h:Xd T nm nl w) (f:∀b n,T' b=(10,0)->T b=(10,0)/\(JJ w b n->JJ w' b n)):Xd T' nm nl w':=by
 obtain⟨d,a,c⟩:=h;exact⟨d,λb e=>(f b _ e).2 (a b (f b 0 e).1),c⟩
theorem Xd.sub {T:Tag} {f:Nat->d_ Nat} {e:List Nat} (h:Xd T nm nl w) (j:∀d:Nat->Nat,(∀b,T b=(10,0)->JJ w b (d b))->Np d f e<=Np d nm nl):Xd T f e w:=let ⟨d,h1,h2⟩:=h;⟨d,h1,pV (j d h1) h2⟩
theorem NQ {f:Nat->Nat} {p:Nat->Bool}:∀{l:List Nat},BK f (l.filter p)<=BK f l
 |[]=>w_ _
 |b::l=>by
  have a:=NQ (f:=f) (p:=p) (l:=l)
  cases hb:p b with
  |true=>rw[List.filter_cons_of_pos hb];simp only[BK];omega
  |false=>rw[List.filter_cons_of_neg (by simp[hb])];simp only[BK];omega
structure KC (K:KS) (w:o_) (ks:X_):Prop where
 c0:ks[0]?=some (P_ K.cg K.core.length K.cc)
 c1:ks[1]?=some (P_ K.sg K.swap.length K.sc)
 c2:ks[2]?=some (P_ K.pg K.Aw.length K.pc)
 c3:ks[3]?=some (b_ K.BD)
 nm:∀i,i<16->ks[4+i]?=some (U8 (K.nm i))/\∀b,K.nm i=some b->K.T b=(10,0)
 nl:∃v,ks[20]?=some v/\zM K.T w K.nl v
 en:∀i,i<20->ks[21+i*2]?=some (K.tv i)/\ks[21+i*2+1]?=some (b_ (K.desc i))/\(K.tv i).oneCell'=true/\(0<K.desc i->O3 K.T (K.tv i) (K.ef i))
structure AV (K:KS) (w:o_):Prop where
 k:∃ks,w.heap[K.kb]?=some (N_ ks 114)/\KC K w ks
 mc:Mp 186 w K.cg K.cc K.core
 ms:Mp 188 w K.sg K.sc K.swap
 pr:Rw 119 1 w K.pg K.Aw.length K.pc (Bj K.Aw)
 ps:∀b r,K.ps b=some r->PAt K.T w K.kb b r
 fl:ae K.T K.op K.ct w K.kb
 tk:K.T K.kb=(1,0)
 tc:K.T K.cg=(2,0)
 ts:K.T K.sg=(3,0)
 tp:K.T K.pg=(4,0)
 lt:∀b,w.heap.size<=b->K.T b=(0,0)
 dk:Xd K.T K.nm K.nl w
def On (T:Tag) (Q:Nat×Nat->Prop):Nat->Prop:=λk=>Q (T k)
section
variable {T:Tag} {w w':o_} {kb b:Nat} {r:PR} {v:n_} {Q:Nat×Nat->Prop} {K:KS}
theorem LW.keep (h:LW T w kb b v) (m:Ac (On T Q) w w') (j:¬Q (9,b)):LW T w' kb b v:=by
 obtain h|⟨x,y,d,e,f,a,c⟩|h:=h
 .exact .inl h
 .exact .inr (.inl ⟨x,y,d,m.old e (by unfold On;rw[a];exact j),m.old f (by unfold On;rw[c];exact j),a,c⟩)
 .exact .inr (.inr h)
theorem PAt.keep (h:PAt T w kb b r) (d:Ac (On T Q) w w') (f:¬Q (6,b)) (j:¬Q (7,b)) (m:¬Q (8,b)) (p:¬Q (9,b)):PAt T w' kb b r:=by
 refine⟨h.t,d.old h.o (by unfold On;rw[h.t];exact f),λe=>?_,λe=>?_,h.bl.keep d p,h.no⟩
 .obtain⟨g,c,a1,a2,a⟩:=h.im e;exact⟨g,c,a1,a2.keep d (by unfold On;rw[a];exact j),a⟩
 .obtain⟨g,c,a1,a2,a⟩:=h.fd e;exact⟨g,c,a1,a2.keep d (by unfold On;rw[a];exact m),a⟩
theorem RU.keep {M:Nat} (h:RU T w b M v ws) (f:Ac (On T Q) w w') (j:¬Q (15,b)):RU T w' b M v ws:=by
 obtain h|⟨g,c,a1,a2,d,e,a⟩:=h
 .exact .inl h
 .exact .inr ⟨g,c,a1,a2.keep f (by unfold On;rw[a];exact j),d,e,a⟩
theorem ae.keep {op:Nat->Nat} {ct:Nat->Ct} (h:ae T op ct w kb) (d:Ac (On T Q) w w') (f:∀c,¬Q (15,c)) (j:¬Q (10,0)) (m:¬Q (11,0)) (p:∀c,¬Q (12,c)) (q:¬Q (13,0)) (s:¬Q (14,0)):ae T op ct w' kb:=by
 refine⟨λb e=>?_,λb e=>?_,λb c e=>?_,λb e=>?_,λb e=>?_⟩
 .obtain⟨x,a1,a2⟩:=h.file b e;exact⟨x,d.old a1 (by unfold On;rw[e];exact j),a2.keep d (f b)⟩
 .obtain⟨x,a1,a2⟩:=h.pipe b e;exact⟨x,d.old a1 (by unfold On;rw[e];exact m),a2.keep d (f b)⟩
 .obtain⟨a1,a2⟩:=h.GI b c e;exact⟨d.old a1 (by unfold On;rw[e];exact p c),a2⟩
 .obtain⟨a1,a2⟩:=h.rend b e;exact⟨d.old a1 (by unfold On;rw[e];exact q),a2⟩
 .obtain⟨a1,a2⟩:=h.TM b e;exact⟨d.old a1 (by unfold On;rw[e];exact s),a2⟩
theorem JJ.keep (h:JJ w b n) (d:Ac S w w') (f:¬S b):JJ w' b n:=let ⟨a,c,o,e⟩:=h;⟨a,c,o,d.old e f⟩
theorem Xd.keep (h:Xd T nm nl w) (f:Ac (On T Q) w w') (d:¬Q (10,0)):Xd T nm nl w':=h.to λb n e=>⟨e,λa=>a.keep f (by unfold On;rw[e];exact d)⟩
theorem zM.keep {l:List Nat} (h:zM T w l v) (e:Ac (On T Q) w w') (d:¬Q (5,0)):zM T w' l v:=by
 obtain⟨h|⟨g,c,a1,a2,a⟩,b⟩:=h
 .exact⟨.inl h,b⟩
 .exact⟨.inr ⟨g,c,a1,a2.keep e (by unfold On;rw[a];exact d),a⟩,b⟩
theorem KC.keep (h:KC K w ks) (e:Ac (On K.T Q) w w') (d:¬Q (5,0)):KC K w' ks:=⟨h.c0,h.c1,h.c2,h.c3,h.nm,let ⟨v,a,b⟩:=h.nl;⟨v,a,b.keep e d⟩,h.en⟩
theorem AV.keep (h:AV K w) (p:Ac (On K.T λt=>t=(0,0)) w w') (q:∀b,w'.heap.size<=b->K.T b=(0,0)):AV K w':=by
 obtain⟨⟨l,j,k⟩,m,n,pr,o,i,c,a,f,d,lt,g⟩:=h;refine⟨⟨l,p.old j (by unfold On;rw[c];simp),k.keep p zF⟩,Rw.keep m p (by unfold On;rw[a];simp),Rw.keep n p (by unfold On;rw[f];simp),Rw.keep pr p (by unfold On;rw[d];simp),λb r e=>(o b r e).keep p zF zF zF zF,i.keep p zF zF zF zF zF zF,c,a,f,d,q,g.keep p zF⟩
theorem AV.no (h:AV K w) (d:Ac No w w'):AV K w':=h.keep d.no λb a=>h.lt b (pV d.size a)
end
structure Dh (T T':Tag) (Q N:Nat×Nat->Prop) (w w':o_):Prop where
 keep:Ac (On T Q) w w'
 old:∀b,T b≠(0,0)->T' b=T b
 new:∀b,T b=(0,0)->T' b≠(0,0)->N (T' b)
 lt:∀b,w'.heap.size<=b->T' b=(0,0)
 fresh:∀b,b<w.heap.size->T' b=T b
def Bg (T:Tag) (g:Nat) (t:W_):Tag:=λb=>if b=g then t else T b
def C9 (f:Nat->d_ PR) (b:Nat) (r:PR):Nat->d_ PR:=λk=>if k=b then some r else f k
theorem AY {T:Tag}:Bg T g t g=t:=rC rfl
theorem AP {T:Tag} (h:b≠g):Bg T g t b=T b:=ru h
theorem Aj {f:Nat->d_ PR} {r:PR}:C9 f b r b=some r:=rC rfl
theorem BH {f:Nat->d_ PR} {r:PR} (h:k≠b):C9 f b r k=f k:=ru h
section
variable {T T' T'':Tag} {Q Q' N N' R:Nat×Nat->Prop} {w w' Po:o_} {kb b g:Nat} {r:PR} {v:n_} {K:KS}
theorem Ac.on (h:Ac S w w') (d:∀k,k<w.heap.size->S k->Q (T k)):Ac (On T Q) w w':=⟨h.os,h.output,h.size,λk a b=>h.block k a λe=>b (d k a e)⟩
theorem Dh.of (h:Ac (On T Q) w w') (e:∀b,w.heap.size<=b->T b=(0,0)):Dh T T Q N w w':=⟨h,λ_ _=>rfl,λ_ a c=>ql a c,λb d=>e b (pV h.size d),λ_ _=>rfl⟩
theorem Dh.no (h:Ac No w w') (d:∀b,w.heap.size<=b->T b=(0,0)):Dh T T Q N w w':=Dh.of h.no d
theorem Dh.row (h:Ac (On T Q) w w') (m:∀b,w.heap.size<=b->T b=(0,0)) (j:T g=t\/w.heap.size<=g) (q:g<w'.heap.size) (p:N t):Dh T (Bg T g t) Q N w w':=by
 have d:T g=t\/T g=(0,0):=j.imp id (m g);refine⟨h,λb a=>?_,λb f c=>?_,λb a=>?_,λb a=>?_⟩
 .by_cases e:b=g
  .subst e;rw[AY];exact((d.resolve_right a)).symm
  .exact AP e
 .by_cases e:b=g
  .subst e;rw[AY];exact p
  .rw[AP e]at c;exact ql f c
 .rw[AP zD];exact m b (pV h.size a)
 .by_cases e:b=g
  .subst e;rw[AY];exact((j.resolve_right zD)).symm
  .exact AP e
theorem Dh.Px (h:Dh T T' Q N w w') (d:∀t,Q t->Q' t) (f:∀t,N t->N' t):Dh T T' Q' N' w w':=⟨h.keep.on λ_ _ e=>d _ e,h.old,λb a c=>f _ (h.new b a c),h.lt,h.fresh⟩
theorem Dh.trans (h:Dh T T' Q N w w') (j:Dh T' T'' Q N w' Po):Dh T T'' Q N w Po:=by
 refine⟨h.keep.trans j.keep λk f e=>?_,λb a=>?_,λb c d=>?_,j.lt,λb a=>?_⟩
 .have:=h.fresh k f;unfold On at*;rw[<-this];exact e
 .have:=h.old b a;rw[j.old b (by rw[this];exact a),this]
 .by_cases e:T' b=(0,0)
  .exact j.new b e d
  .rw[j.old b e];exact h.new b c e
 .rw[j.fresh b (Nat.lt_of_lt_of_le a h.keep.size),h.fresh b a]
theorem Dh.tag (h:Dh T T' Q N w w') (d:T b=t) (e:t≠(0,0)):T' b=t:=(h.old b (by rw[d];exact e)).trans d
theorem Dh.back (h:Dh T T' Q N w w') (d:T' b=t) (f:t≠(0,0)) (j:¬N t):T b=t:=by
 by_cases e:T b=(0,0)
 .have:=h.new b e (by rw[d];exact f);rw[d]at this;exact ql this j
 .rw[<-h.old b e];exact d
theorem Dh.blk (h:Dh T T' Q N w w') {o:Obj} (d:w.heap[b]?=some o) (f:T b=t) (e:¬Q t):w'.heap[b]?=some o:=h.keep.old d (by unfold On;rw[f];exact e)
theorem LW.IX (h:LW T w kb b v) (M:Dh T T' Q N w w') (j:¬Q (9,b)):LW T' w' kb b v:=by
 obtain h|⟨x,y,a,c,f,d,e⟩|⟨p,a,c⟩:=h
 .exact .inl h
 .exact .inr (.inl ⟨x,y,a,M.blk c d j,M.blk f e j,M.tag d zF,M.tag e zF⟩)
 .exact .inr (.inr ⟨p,a,M.tag c zF⟩)
theorem PAt.IX (h:PAt T w kb b r) (M:Dh T T' Q N w w') (d:¬Q (6,b)) (f:¬Q (7,b)) (j:¬Q (8,b)) (m:¬Q (9,b)):PAt T' w' kb b r:=by
 refine⟨M.tag h.t zF,M.blk h.o h.t d,λe=>?_,λe=>?_,h.bl.IX M m,h.no⟩
 .obtain⟨g,c,a1,a2,a⟩:=h.im e;exact⟨g,c,a1,a2.keep M.keep (by unfold On;rw[a];exact f),M.tag a zF⟩
 .obtain⟨g,c,a1,a2,a⟩:=h.fd e;exact⟨g,c,a1,a2.keep M.keep (by unfold On;rw[a];exact j),M.tag a zF⟩
theorem RU.IX (h:RU T w b n v ws) (M:Dh T T' Q N w w') (f:¬Q (15,b)):RU T' w' b n v ws:=by
 obtain h|⟨g,c,a1,a2,d,e,a⟩:=h
 .exact .inl h
 .exact .inr ⟨g,c,a1,a2.keep M.keep (by unfold On;rw[a];exact f),d,e,M.tag a zF⟩
theorem O3.IX (h:O3 T v o) (M:Dh T T' Q N w w'):O3 T' v o:=by
 obtain⟨b,h⟩:=h;exact⟨b,h.imp (λ⟨h,f,a,c⟩=>⟨h,f,M.tag a zF,c⟩) (Or.imp (λh=>⟨h.1,M.tag h.2.1 zF,h.2.2⟩) (λh=>⟨h.1,M.tag h.2.1 zF,h.2.2⟩))⟩
theorem ae.IX {op:Nat->Nat} {ct:Nat->Ct} (h:ae T op ct w kb) (M:Dh T T' Q N w w') (j:∀t,Q t->t.1<10) (f:∀t,N t->t.1<10):ae T' op ct w' kb:=by
 have q:∀k c,10<=k->¬Q (k,c):=λk c d e=>ql (j _ e) (by simp;omega)
 have n:∀k c,10<=k->¬N (k,c):=λk c d e=>ql (f _ e) (by simp;omega)
 refine⟨λb e=>?_,λb e=>?_,λb c e=>?_,λb e=>?_,λb e=>?_⟩
 .have e:=M.back e zF (n _ _ zD);obtain⟨x,a1,a2⟩:=h.file b e;exact⟨x,M.blk a1 e (q _ _ zD),a2.IX M (q _ _ zD)⟩
 .have e:=M.back e zF (n _ _ zD);obtain⟨x,a1,a2⟩:=h.pipe b e;exact⟨x,M.blk a1 e (q _ _ zD),a2.IX M (q _ _ zD)⟩
 .have e:=M.back e zF (n _ _ zD);obtain⟨a1,a2,a⟩:=h.GI b c e;exact⟨M.blk a1 e (q _ _ zD),M.tag a2 zF,a⟩
 .have e:=M.back e zF (n _ _ zD);obtain⟨a1,a2⟩:=h.rend b e;exact⟨M.blk a1 e (q _ _ zD),M.tag a2 zF⟩
 .have e:=M.back e zF (n _ _ zD);obtain⟨a1,a2⟩:=h.TM b e;exact⟨M.blk a1 e (q _ _ zD),M.tag a2 zF⟩
theorem zM.IX {l:List Nat} (h:zM T w l v) (M:Dh T T' Q N w w') (f:¬Q (5,0)):zM T' w' l v:=by
 obtain⟨h|⟨g,c,a1,a2,d⟩,e⟩:=h
 .exact⟨.inl h,λb a=>M.tag (e b a) zF⟩
 .exact⟨.inr ⟨g,c,a1,a2.keep M.keep (by unfold On;rw[d];exact f),M.tag d zF⟩,λb a=>M.tag (e b a) zF⟩
theorem Xd.IX (h:Xd T nm nl w) (M:Dh T T' Q N w w') (f:¬Q (10,0)) (d:¬N (10,0)):Xd T' nm nl w':=h.to λb n e=>by
 have e:=M.back e zF d;exact⟨e,λa=>a.keep M.keep (by unfold On;rw[e];exact f)⟩
theorem KC.IX (h:KC K w ks) (M:Dh K.T T' Q N w w') (j:¬Q (5,0)):KC { K with T:=T' } w' ks:=
 ⟨h.c0,h.c1,h.c2,h.c3,λi f=>⟨(h.nm i f).1,λb e=>M.tag ((h.nm i f).2 b e) zF⟩,let ⟨v,a,b⟩:=h.nl;⟨v,a,b.IX M j⟩,λi f=>let ⟨a,b,c,d⟩:=h.en i f;⟨a,b,c,λe=>(d e).IX M⟩⟩
theorem KC.ps (h:KC K w ks) (f:Nat->d_ PR):KC { K with ps:=f } w ks:=⟨h.c0,h.c1,h.c2,h.c3,h.nm,h.nl,h.en⟩
theorem KC.set0 (h:KC K w ks) {g:Nat}:KC { K with core:=l,cg:=g,cc:=c } w (ks.setIfInBounds 0 (P_ g l.length c)):=by
 have b:0<ks.size:=(y_.1 h.c0).1;refine⟨by simp[b],?_,?_,?_,λi a=>?_,?_,λi a=>?_⟩
 .rw[Hr zD];exact h.c1
 .rw[Hr zD];exact h.c2
 .rw[Hr zD];exact h.c3
 .rw[Hr zD];exact h.nm i a
 .rw[Hr zD];exact h.nl
 .rw[Hr zD,Hr zD];exact h.en i a
theorem KC.NZ (h:KC K w ks) {g:Nat}:KC { K with swap:=l,sg:=g,sc:=c } w (ks.setIfInBounds 1 (P_ g l.length c)):=by
 have b:1<ks.size:=(y_.1 h.c1).1;refine⟨?_,by simp[b],?_,?_,λi a=>?_,?_,λi a=>?_⟩
 .rw[Hr zD];exact h.c0
 .rw[Hr zD];exact h.c2
 .rw[Hr zD];exact h.c3
 .rw[Hr zD];exact h.nm i a
 .rw[Hr zD];exact h.nl
 .rw[Hr zD,Hr zD];exact h.en i a
theorem KC.set2 (h:KC K w ks) {g:Nat} {l:List Nat}:KC { K with Aw:=l,pg:=g,pc:=c } w (ks.setIfInBounds 2 (P_ g l.length c)):=by
 have b:2<ks.size:=(y_.1 h.c2).1;refine⟨?_,?_,by simp[b],?_,λi a=>?_,?_,λi a=>?_⟩
 .rw[Hr zD];exact h.c0
 .rw[Hr zD];exact h.c1
 .rw[Hr zD];exact h.c3
 .rw[Hr zD];exact h.nm i a
 .rw[Hr zD];exact h.nl
 .rw[Hr zD,Hr zD];exact h.en i a
theorem KC.ch7 (h:KC K w ks):KC { K with BD:=n } w (ks.setIfInBounds 3 (b_ n)):=by
 have b:3<ks.size:=(y_.1 h.c3).1;refine⟨?_,?_,?_,by simp[b],λi a=>?_,?_,λi a=>?_⟩
 .rw[Hr zD];exact h.c0
 .rw[Hr zD];exact h.c1
 .rw[Hr zD];exact h.c2
 .rw[Hr zD];exact h.nm i a
 .rw[Hr zD];exact h.nl
 .rw[Hr zD,Hr zD];exact h.en i a
def Ag {α:Type} (f:Nat->α) (i:Nat) (n:α):Nat->α:=λk=>if k=i then n else f k
theorem KC.qm (h:KC K w ks) {v:n_} (f:i<20) (d:v.oneCell'=true) (m:0<n->O3 K.T v o):KC { K with desc:=Ag K.desc i n,ef:=Ag K.ef i o,tv:=Ag K.tv i v } w ((ks.setIfInBounds (21+i*2) v).setIfInBounds (21+i*2+1) (b_ n)):=by
 have b:21+i*2+1<ks.size:=by
  obtain⟨_,h,_⟩:=h.en i f
  exact(y_.1 h).1
 refine⟨?_,?_,?_,?_,λj a=>?_,?_,λj a=>?_⟩
 .rw[Hr zD,Hr zD];exact h.c0
 .rw[Hr zD,Hr zD];exact h.c1
 .rw[Hr zD,Hr zD];exact h.c2
 .rw[Hr zD,Hr zD];exact h.c3
 .rw[Hr zD,Hr zD];exact h.nm j a
 .rw[Hr zD,Hr zD];exact h.nl
 .by_cases e:j=i
  .subst e;refine⟨?_,?_,by simpa [Ag]using d,?_⟩
   .rw[Hr zD,pU zD];simp[Ag]
   .rw[pU (by simpa using b)];simp[Ag]
   .simpa [Ag]using m
  .rw[Hr zD,Hr zD,Hr zD,Hr zD];simpa [Ag,e]using h.en j a
theorem KC.bs8 (h:KC K w ks) (d:i<16) (f:∀b,o=some b->K.T b=(10,0)):KC { K with nm:=Ag K.nm i o } w (ks.setIfInBounds (4+i) (U8 o)):=by
 have c:4+i<ks.size:=(y_.1 (h.nm i d).1).1;refine⟨?_,?_,?_,?_,λj a=>?_,?_,λj a=>?_⟩
 .rw[Hr zD];exact h.c0
 .rw[Hr zD];exact h.c1
 .rw[Hr zD];exact h.c2
 .rw[Hr zD];exact h.c3
 .by_cases e:j=i
  .subst e;rw[pU c];simpa [Ag]using f
  .rw[Hr zD];simpa [Ag,e]using h.nm j a
 .rw[Hr zD];exact h.nl
 .rw[Hr zD,Hr zD];exact h.en j a
theorem KC.cg9 (h:KC K w ks) {l:List Nat} {v:n_} (d:zM K.T w l v):KC { K with nl:=l } w (ks.setIfInBounds 20 v):=by
 obtain⟨_,a,_⟩:=h.nl;have c:20<ks.size:=(y_.1 a).1;refine⟨?_,?_,?_,?_,λi b=>?_,⟨v,by simp[c],d⟩,λi b=>?_⟩
 .rw[Hr zD];exact h.c0
 .rw[Hr zD];exact h.c1
 .rw[Hr zD];exact h.c2
 .rw[Hr zD];exact h.c3
 .rw[Hr zD];exact h.nm i b
 .rw[Hr zD,Hr zD];exact h.en i b
theorem AV.yx (h:AV K w) {g:Nat} (M:Dh K.T T' (λt=>t=(1,0)\/t=(2,0)) (λt=>t=(2,0)) w w') (d:KC K w ks) (f:w'.heap[K.kb]?=some (.cells (ks.setIfInBounds 0 (P_ g l.length c)) 114 (0,0))) (mp:Mp 186 w' g c l) (j:T' g=(2,0)):AV { K with core:=l,cg:=g,cc:=c,T:=T' } w':=
 ⟨⟨_,f,(d.IX M zF).set0⟩,mp,Rw.keep h.ms M.keep (by unfold On;rw[h.ts];simp),Rw.keep h.pr M.keep (by unfold On;rw[h.tp];simp),λb r e=>(h.ps b r e).IX M zF zF zF zF,h.fl.IX M (by rintro t (rfl|rfl)<;>simp) (by rintro t rfl;simp),M.tag h.tk zF,j,M.tag h.ts zF,M.tag h.tp zF,M.lt,h.dk.IX M zF zF⟩
theorem AV.yw (h:AV K w) {g:Nat} (M:Dh K.T T' (λt=>t=(1,0)\/t=(3,0)) (λt=>t=(3,0)) w w') (d:KC K w ks) (f:w'.heap[K.kb]?=some (.cells (ks.setIfInBounds 1 (P_ g l.length c)) 114 (0,0))) (mp:Mp 188 w' g c l) (j:T' g=(3,0)):AV { K with swap:=l,sg:=g,sc:=c,T:=T' } w':=
 ⟨⟨_,f,(d.IX M zF).NZ⟩,Rw.keep h.mc M.keep (by unfold On;rw[h.tc];simp),mp,Rw.keep h.pr M.keep (by unfold On;rw[h.tp];simp),λb r e=>(h.ps b r e).IX M zF zF zF zF,h.fl.IX M (by rintro t (rfl|rfl)<;>simp) (by rintro t rfl;simp),M.tag h.tk zF,M.tag h.tc zF,j,M.tag h.tp zF,M.lt,h.dk.IX M zF zF⟩
theorem AV.Yk (h:AV K w) {g BD:Nat} {l:List Nat} (M:Dh K.T T' (λt=>t=(1,0)\/t=(4,0)) (λt=>t=(4,0)) w w') (f:KC K w ks) (j:w'.heap[K.kb]?=some (N_ ks' 114)) (d:ks'=(ks.setIfInBounds 3 (b_ BD)).setIfInBounds 2 (P_ g l.length c)) (mp:Rw 119 1 w' g l.length c (Bj l)) (m:T' g=(4,0)):AV { K with Aw:=l,pg:=g,pc:=c,BD:=BD,T:=T' } w':=
 ⟨⟨_,j,by subst d;exact((f.IX M zF).ch7).set2⟩,Rw.keep h.mc M.keep (by unfold On;rw[h.tc];simp),Rw.keep h.ms M.keep (by unfold On;rw[h.ts];simp),mp,λb r e=>(h.ps b r e).IX M zF zF zF zF,h.fl.IX M (by rintro t (rfl|rfl)<;>simp) (by rintro t rfl;simp),M.tag h.tk zF,M.tag h.tc zF,M.tag h.ts zF,m,M.lt,h.dk.IX M zF zF⟩
theorem AV.jF (h:AV K w) {r':PR} (M:Dh K.T T' (λt=>t=(6,b)\/t=(7,b)\/t=(8,b)\/t=(9,b)) (λt=>t=(6,b)\/t=(7,b)\/t=(8,b)\/t=(9,b)) w w') (j:PAt T' w' K.kb b r'):AV { K with ps:=C9 K.ps b r',T:=T' } w':=by
 obtain⟨f,d,c⟩:=h.k;refine⟨⟨_,M.blk d h.tk zF,(c.IX M zF).ps _⟩,Rw.keep h.mc M.keep (by unfold On;rw[h.tc];simp),Rw.keep h.ms M.keep (by unfold On;rw[h.ts];simp),Rw.keep h.pr M.keep (by unfold On;rw[h.tp];simp),λk r e=>?_,h.fl.IX M (by rintro t (rfl|rfl|rfl|rfl)<;>simp) (by rintro t (rfl|rfl|rfl|rfl)<;>simp),M.tag h.tk zF,M.tag h.tc zF,M.tag h.ts zF,M.tag h.tp zF,M.lt,h.dk.IX M zF zF⟩;by_cases a:k=b
 .subst a;have e:C9 K.ps k r' k=some r:=e;rw[Aj]at e;cases e;exact j
 .have e:C9 K.ps b r' k=some r:=e;rw[BH a]at e;exact(h.ps k r e).IX M (by simpa using a) (by simpa using a) (by simpa using a) (by simpa using a)
theorem AV.ZB (h:AV K w) {d o:Nat->Nat} {ef:Nat->d_ Nat} {ct:Nat->Ct} {tv:Nat->n_} (M:Dh K.T T' (λt=>t=(1,0)\/t=(5,0)\/10<=t.1) (λt=>t=(5,0)\/10<=t.1) w w') (p:w'.heap[K.kb]?=some (N_ ks' 114)) (f:KC { K with desc:=d,op:=o,nl:=nl,nm:=nm,ef:=ef,T:=T',ct:=ct,tv:=tv } w' ks') (m:ae T' o ct w' K.kb) (j:Xd T' nm nl w'):AV { K with desc:=d,op:=o,nl:=nl,nm:=nm,ef:=ef,T:=T',ct:=ct,tv:=tv } w':=
 ⟨⟨_,p,f⟩,Rw.keep h.mc M.keep (by unfold On;rw[h.tc];simp),Rw.keep h.ms M.keep (by unfold On;rw[h.ts];simp),Rw.keep h.pr M.keep (by unfold On;rw[h.tp];simp),λb r e=>(h.ps b r e).IX M zF zF zF zF,m,M.tag h.tk zF,M.tag h.tc zF,M.tag h.ts zF,M.tag h.tp zF,M.lt,j⟩
theorem KC.op (h:KC K w ks) (f:Nat->Nat):KC { K with op:=f } w ks:=⟨h.c0,h.c1,h.c2,h.c3,h.nm,h.nl,h.en⟩
end
def KS.EJ (K:KS):Prop:=∀b∈K.Aw,∃r,K.ps b=some r
section
variable {K:KS} {w w':o_} {b:Nat} {r:PR}
theorem AV.Il (h:AV K w) (d:K.ps b=some r) (i:Nat):w.cell? (S_ b i)=r.arr[i]?:=Ah (h.ps b r d).o i
theorem AV.jy (h:AV K w) (d:K.ps b=some r) (i:Nat):w.frozen? (S_ b i)=false:=BQ (h.ps b r d).o i
theorem AV.plt (h:AV K w) (d:K.ps b=some r):b<w.heap.size:=Dt (h.ps b r d).o
theorem AV.klt (h:AV K w):K.kb<w.heap.size:=let ⟨_,a,_⟩:=h.k;Dt a
theorem AV.kc2 (h:AV K w):w.cell? (S_ K.kb 2)=some (P_ K.pg K.Aw.length K.pc):=let ⟨_,a,c⟩:=h.k;(Ah a 2).trans c.c2
theorem AV.jS (h:AV K w) (d:K.Aw[i]?=some b):w.cell? (S_ K.pg i)=some (ptr b):=by
 have a:=(KT.1 d).1;rw[Rw.cell h.pr zD];simp[Bj,d]
theorem AV.mem (d:K.EJ) (e:K.Aw[i]?=some b):∃r,K.ps b=some r:=d b (t_ e)
end
def zB (K:KS) (pid:Int) (v:n_):Prop:=(∃b r,v=ptr b/\b∈K.Aw/\K.ps b=some r/\(r.pid:Int)=pid)\/(v=.pointer none/\∀b∈K.Aw,∀r,K.ps b=some r->(r.pid:Int)≠pid)
section
variable (m:Nat) (w:o_)
theorem fD (K:KS) (pid:Int) (h:AV K w) (A:K.EJ) (B:K.Aw.length<=100):
  O_ m 54 #[Q_ K.kb,b_ pid] w λe w'=>Ac No w w'/\∃v,e=.returned v/\zB K pid v:=by
 have z:=h.kc2;gi_enter func54,ntmps54;gi_wp2;gi_loopw [12] (λi wr=>∃k:Nat,k<=K.Aw.length/\i=b_ k/\Ac No w wr/\∀(j:Nat) b r,j<k->K.Aw[j]?=some b->K.ps b=some r->(r.pid:Int)≠pid) (λi _=>K.Aw.length-(intOf i).toNat)
 case atStart=>exact⟨0,zD,rfl,Ac.refl _ _,λj b r h=>ql h zD⟩
 case round=>
  obtain⟨k,y,rfl,KK,p⟩:=hrel
  by_cases q:k<K.Aw.length
  .have c:K.Aw[k]?=some K.Aw[k]:=IG q;generalize K.Aw[k]=b at c;obtain⟨r,d⟩:=AV.mem A c;have n:=h.no KK;have t:=n.jS c;have d1:=n.Il d 0;simp only[ptr]at t;simp[PR.arr]at d1;by_cases f:(r.pid:Int)=pid
   .have l:((r.pid:Int)==pid)=true:=(by simpa using f);gi_wp2;go_ret;exact⟨KK,ptr b,by simp[ptr],.inl ⟨b,r,rfl,t_ c,d,f⟩⟩
   .have l:((r.pid:Int)==pid)=false:=(by simpa using f);gi_wp2;go_roundw
    case rel=>
     refine⟨k+1,zD,by go_num,KK,λj s u x a g=>?_⟩
     by_cases e:j=k
     .subst e;rw[c]at a;cases a;rw[d]at g;cases g;exact f
     .exact p j s u zD a g
    case measure=>simp[intOf];omega
  .obtain rfl:k=K.Aw.length:=zD;gi_wp2;go_ret;refine⟨KK,.pointer none,zF,.inr ⟨rfl,λb a r d=>?_⟩⟩;obtain⟨i,o⟩:=List.getElem?_of_mem a;exact p i b r (KT.1 o).1 o d
theorem EZ (pb L c:Nat) (a:d_ f_) (f:w.cell? (S_ pb 8)=some (.slice a L c)) (d:L<1000000):
  O_ m 58 #[Q_ pb] w λe w'=>e=.returned (b_ (Ai L))/\w'=w:=by
 gi_enter func58,ntmps58;gi_wp2_with (gi_at_call 48;refine(F9 _ _ L d).mono ?_;rintro e w1 ⟨rfl,rfl⟩);go_ret;exact⟨zF,rfl⟩
end
end Go.Fxa
