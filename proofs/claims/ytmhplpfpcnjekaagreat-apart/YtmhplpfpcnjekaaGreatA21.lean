/- A region with one operation th -/
import Derived.Test.YtmhplpfpcnjekaaGreatA20
namespace Go.Fxa
open Conc Proofs RowKit Proofs.Tryz
set_option maxRecDepth 1000000
set_option maxHeartbeats 0
def J2 (S:Nat->Prop) (w1:World) (e:Nat) (Post:Value->World->Prop) (pure:List (Nat×Value)) (L:Nat->Bool) (u:Y_) (W:World):Prop:=
 Ab S w1 W/\(L e=false->W=w1)/\(L e=true->Post (u e) W)/\∀p∈pure,L p.1=true->u p.1=p.2
section
variable {S:Nat->Prop} {w1:World} {e:Nat} {Post:Value->World->Prop} {pure:List (Nat×Value)} {ss:List Nat}
theorem EF (he:e∈ss) (hp:∀p∈pure,p.1∈ss):∀L L' u u' W,(∀i∈ss,L i=L' i/\u i=u' i)->J2 S w1 e Post pure L u W->J2 S w1 e Post pure L' u' W:=by
 rintro L L' u u' W h ⟨h1,h2,h3,h4⟩;obtain⟨a,b⟩:=h e he;refine⟨h1,fun x=>h2 (a.trans x),fun x=>b ▸ h3 (a.trans x),fun p hp' x=>?_⟩;obtain⟨c,d⟩:=h p.1 (hp p hp');exact d ▸ h4 p hp' (c.trans x)
theorem Dg (u:Y_):J2 S w1 e Post pure (fun _=>false) u w1:=⟨Ab.refl _ _,fun _=>rfl,fun h=>absurd h (by simp),fun _ _ h=>absurd h (by simp)⟩
theorem EG {L:Nat->Bool} {u:Nat->Value} {W W':World} {v:Value} (h:J2 S w1 e Post pure L u W) (hp:∀p∈pure,p.1≠e) (hK:Ab S w1 W') (hv:Post v W'):J2 S w1 e Post pure (JE L e) (Ii u e v) W':=by
 obtain⟨_,_,_,h4⟩:=h;refine⟨hK,fun x=>absurd x (by simp[JE]),fun _=>by simp only[Ii,if_true];exact hv,fun p hp' x=>?_⟩;have ne:=hp p hp';simp only[JE,if_neg ne]at x;simp only[Ii,if_neg ne];exact h4 p hp' x
theorem EK {L:Nat->Bool} {u:Nat->Value} {W:World} {v:Value} {i:Nat} (h:J2 S w1 e Post pure L u W) (hi:i≠e) (hv:∀p∈pure,p.1=i->v=p.2):J2 S w1 e Post pure (JE L i) (Ii u i v) W:=by
 obtain⟨h1,h2,h3,h4⟩:=h;have Gz:e≠i:=Ne.symm hi;refine⟨h1,fun x=>h2 (by simpa [JE,Gz]using x),fun x=>?_,fun p hp x=>?_⟩
 ·simp only[Ii,if_neg Gz];exact h3 (by simpa [JE,Gz]using x)
 ·by_cases c:p.1=i
  ·simp only[Ii,if_pos c];exact hv p hp c
  ·simp only[Ii,if_neg c];simp only[JE,if_neg c]at x;exact h4 p hp x
theorem Es {L:Nat->Bool} {u:Nat->Value} {W:World} {v y:Value} {i:Nat} (h:J2 S w1 e Post pure L u W) (hi:i≠e) (hv:v=y) (hy:∀p∈pure,p.1=i->p.2=y):J2 S w1 e Post pure (JE L i) (Ii u i v) W:=
 EK h hi fun p hp c=>hv.trans (hy p hp c).symm
end
section
variable {n:Nat} {Q:Exit->Act->World->Prop} {K:Act->World->Prop} {a:Act} {W:World} {ops:Array Oper} {i:Nat} {o:Oper} {x:Operand}
theorem Xe (hi:ops[i]?=some o) (hg:o.guard=none) (ho:o.op=.move x) (h:K (a.put o.dst (a.eval x)) W):wpOpIn NF n prog ops Q i K a W:=
 Ku hi hg (by unfold Oper.about;rw[ho]) (w':=W) (x:=a.eval x) (by unfold execOp;rw[ho];rfl) h
theorem Xf (hi:ops[i]?=some o) (hg:o.guard=none) (ho:o.op=.assign x) (h:K (a.put o.dst (a.eval x)) W):wpOpIn NF n prog ops Q i K a W:=
 Ku hi hg (by unfold Oper.about;rw[ho]) (w':=W) (x:=a.eval x) (by unfold execOp;rw[ho];rfl) h
theorem NV {vs:X_} {k:Nat} {v:Value} (hi:ops[i]?=some o) (hg:o.guard=none) (ho:o.op=.extract x k) (hx:a.eval x=.tuple vs) (hv:vs[k]?=some v) (h:K (a.put o.dst v) W):wpOpIn NF n prog ops Q i K a W:=
 Ku hi hg (by unfold Oper.about;rw[ho]) (w':=W) (x:=v) (by unfold execOp;rw[ho];simp only[hx];simp[Instr.extract,hv]) h
end
def stores {α:Type} (b:Nat):Nat->U_->Sem α->Sem α
 | _,[],k=>k
 | i,v::vs,k=>.store .plain (T_ b i) v (stores b (i+1) vs k)
def RD (cs:X_):Nat->U_->X_
 | _,[]=>cs
 | i,v::vs=>RD (cs.setIfInBounds i v) (i+1) vs
theorem Hr {P:Program} {α:Type} {b:Nat} {T:TypeId} {k:Sem α}:∀(vs:U_) (i:Nat) (cs:X_) (w:World),w.heap[b]?=some (.cells cs T (0,0))->i+vs.length<=cs.size->(∀v∈vs,v.oneCell'=true)->
  ∃w',(stores b i vs k).run P w=k.run P w'/\Ab (At b) w w'/\w'.heap[b]?=some (.cells (RD cs i vs) T (0,0))
 | [],i,cs,w,h,_,_=>⟨w,rfl,Ab.refl _ _,h⟩
 | v::vs,i,cs,w,h,hl,ho=>by
  simp only[List.length_cons]at hl
  have hc:w.cell? (T_ b i)=some cs[i]:=by rw[Ag h];simp
  obtain⟨w',h1,h2,h3⟩:=Hr (P:=P) (k:=k) vs (i+1) _ _ (Aj (i:=i) h v) (by simp;omega) (fun x hx=>ho x (List.mem_cons_of_mem _ hx))
  refine⟨w',?_,(Ab.Kq v).then h2,h3⟩
  unfold stores
  rw[jM (ho v (List.mem_cons_self ..)) hc (BF h i)]
  exact h1
theorem Ae {F:Fence} {n:Nat} {P:Program} {w w':World} {ops:Array Oper} {rest:List Oper} {o:Oper} {a:Act} {Q:Exit->Act->World->Prop} (hg:o.guard=none) (s y:Operand) (t:TypeId) (AO:o.op=Op.store t s y) {v x:Value} (hs:a.eval s=v) (hy:a.eval y=x)
  (Bg:(Instr.storeAt t v x).run P w=.ok () w') (hK:wpListIn F n P ops Q rest (a.put o.dst undef) w'):wpListIn F n P ops Q (o::rest) a w:=by
 refine wpListIn_plain hg fun K hK'=>?_
 unfold Oper.wpIn;refine⟨?_,?_⟩
 ·simp[Oper.about,AO]
 ·rw[Oper.semAt_plain F _ _ (by rw[AO];intro c hc';cases hc')];simp[execOp,AO,hs,hy,Bg,Result.andThen];exact hK' _ _ hK
section
variable {F:Fence} {n:Nat} {P:Program} {w w':World} {ops:Array Oper} {rest:List Oper} {o:Oper} {a:Act} {Q:Exit->Act->World->Prop}
theorem U4 (hg:o.guard=none) (s:Operand) (t:TypeId) (AO:o.op=Op.load t s) {v x:Value} (hs:a.eval s=v)
  (Bg:(Instr.loadAt t v).run P w=.ok x w') (hK:wpListIn F n P ops Q rest (a.put o.dst x) w'):wpListIn F n P ops Q (o::rest) a w:=by
 refine wpListIn_plain hg fun K hK'=>?_
 unfold Oper.wpIn;refine⟨?_,?_⟩
 ·simp[Oper.about,AO]
 ·rw[Oper.semAt_plain F _ _ (by rw[AO];intro c hc';cases hc')];simp[execOp,AO,hs,Bg,Result.andThen];exact hK' _ _ hK
theorem Rn (hg:o.guard=none) (s y:Operand) (t:TypeId) (AO:o.op=Op.index t s y) {v u x:Value} (hs:a.eval s=v) (hy:a.eval y=u)
  (Bg:(Instr.index t v u).run P w=.ok x w') (hK:wpListIn F n P ops Q rest (a.put o.dst x) w'):wpListIn F n P ops Q (o::rest) a w:=by
 refine wpListIn_plain hg fun K hK'=>?_
 unfold Oper.wpIn;refine⟨?_,?_⟩
 ·simp[Oper.about,AO]
 ·rw[Oper.semAt_plain F _ _ (by rw[AO];intro c hc';cases hc')];simp[execOp,AO,hs,hy,Bg,Result.andThen];exact hK' _ _ hK
end
theorem UQ {w:World} {rb:Nat} {a b c:Value} {x y:Int} (h:w.heap[rb]?=some (.cells #[a,b,c] 206 (0,0))):∃w',(Instr.storeAt 206 (R_ rb) (.agg #[.int .u16 x,.int .u16 y,.nilFunc])).run prog w=.ok () w'/\Ab (At rb) w w'/\w'.heap[rb]?=some (.cells #[.int .u16 x,.int .u16 y,.nilFunc] 206 (0,0)):=by
 have e:(Instr.storeAt 206 (R_ rb) (.agg #[.int .u16 x,.int .u16 y,.nilFunc])).run prog w=(stores rb 0 [.int .u16 x,.int .u16 y,.nilFunc] (.pure ())).run prog w:=by kernel_rfl
 obtain⟨w',h1,h2,h3⟩:=Hr (P:=prog) (k:=Sem.pure ()) [.int .u16 x,.int .u16 y,.nilFunc] 0 _ w h (by simp) (by simp[Value.oneCell']);refine⟨w',?_,h2,?_⟩
 ·rw[e,h1];rfl
 ·rw[h3];simp[RD]
def Sound (N:Nat) (l:List (W_)):Prop:=∀r∈l,1<=r.2/\r.1+r.2<=N
def Dw:List (W_)->Nat
 | []=>0
 | r::l=>r.2+Dw l
theorem ME:∀l k:List (W_),Dw (l++k)=Dw l+Dw k
 | [],k=>by simp[Dw]
 | r::l,k=>by simp only[List.cons_append,Dw,ME l k];omega
theorem Vx {α:Type} {l:List α} {i:Nat} {r:α} (h:l[i]?=some r):l=l.take i++r::l.drop (i+1):=by
 obtain⟨h1,h2⟩:=KH.1 h;rw[<-h2,List.getElem_cons_drop,List.take_append_drop]
theorem Sound.len {N:Nat}:∀{l:List (W_)},Sound N l->l.length<=Dw l
 | [],_=>Nat.zero_le _
 | r::l,h=>by
  have h1:=(h r (by simp)).1
  have h2:=Sound.len (l:=l) fun x hx=>h x (by simp[hx])
  simp only[Dw,List.length_cons];omega
theorem Sound.fit {N:Nat} {l:List (W_)} (h:Sound N l) (hs:Dw l<=N):Fit N l:=⟨Nat.le_trans h.len hs,fun _ r hr=>(h r (List.mem_of_getElem? hr)).2⟩
theorem MR {N i:Nat} {l:List (W_)} (h:Sound N l):Sound N (Ea l i)/\Dw (Ea l i)=Dw l:=by
 unfold Ea;split
 ·rename_i a b ha hb;split
  ·rename_i hab;have c1:=Vx ha;have c2:l.drop (i+1)=b::l.drop (i+2):=by
    have hb':(l.drop (i+1))[0]?=some b:=by simpa using hb
    have:=Vx hb'
    simpa using this
   have sb:=h b (List.mem_of_getElem? hb);have sa:=h a (List.mem_of_getElem? ha);refine⟨fun r hr=>?_,?_⟩
   ·rcases List.mem_append.1 hr with h1|h1
    ·exact h r (List.mem_of_mem_take h1)
    ·rcases List.mem_cons.1 h1 with rfl|h1
     ·simp only;omega
     ·exact h r (List.mem_of_mem_drop h1)
   ·have e:Dw l=Dw (l.take i++a::b::l.drop (i+2)):=(by rw[<-c2,<-c1]);rw[e];simp only[ME,Dw];omega
  ·exact⟨h,rfl⟩
 ·exact⟨h,rfl⟩
theorem bW {N a n:Nat} {l:List (W_)} (h:Sound N l) (hn:1<=n) (ha:a+n<=N):Sound N (KI l a n)/\Dw (KI l a n)=Dw l+n:=by
 unfold KI;refine⟨fun r hr=>?_,?_⟩
 ·rcases List.mem_append.1 hr with h1|h1
  ·exact h r (List.mem_of_mem_take h1)
  ·rcases List.mem_cons.1 h1 with rfl|h1
   ·exact⟨hn,ha⟩
   ·exact h r (List.mem_of_mem_drop h1)
 ·have e:Dw l=Dw (l.take (CP l a)++l.drop (CP l a)):=by rw[List.take_append_drop]
  rw[e];simp only[ME,Dw];omega
theorem MU {N a n:Nat} {l:List (W_)} (h:Sound N l) (hn:1<=n) (ha:a+n<=N):Sound N (Cn l a n)/\Dw (Cn l a n)=Dw l+n:=by
 have hp:=bW h hn ha;unfold Cn;rw[if_neg (by omega)];split
 ·have:=MR (i:=0) hp.1;exact⟨this.1,this.2.trans hp.2⟩
 ·have h1:=MR (i:=CP l a) hp.1;have h2:=MR (i:=CP l a-1) h1.1;exact⟨h2.1,h2.2.trans (h1.2.trans hp.2)⟩
theorem IC {N n:Nat} {l:List (W_)} (h:Sound N l):Sound N (Aw l n).2/\((Aw l n).1=none->(Aw l n).2=l)/\∀a,(Aw l n).1=some a->Dw (Aw l n).2+n=Dw l/\a+n<=N/\1<=n:=by
 unfold Aw;by_cases hn:n<1
 ·rw[if_pos hn];exact⟨h,fun _=>rfl,fun a e=>by cases e⟩
 ·rw[if_neg hn];cases hx:l.findIdx? (fun r=>decide (n<=r.2))with
  | none=>exact⟨h,fun _=>rfl,fun a e=>by cases e⟩
  | some i=>
   obtain⟨Gl,hir,_⟩:=List.findIdx?_eq_some_iff_getElem.1 hx
   have hg:l[i]?=some l[i]:=HZ Gl
   generalize l[i]=r at hg hir
   have hle:n<=r.2:=by simpa using hir
   have hr:=h r (List.mem_of_getElem? hg)
   have c1:=Vx hg
   have e:Dw l=Dw (l.take i++r::l.drop (i+1)):=by rw[<-c1]
   simp only[hg]
   by_cases hw:r.2=n
   ·simp only[hw,if_true];refine⟨fun x hx=>?_,fun e=>(by cases e),fun a ea=>?_⟩
    ·rcases List.mem_append.1 hx with h1|h1
     ·exact h x (List.mem_of_mem_take h1)
     ·exact h x (List.mem_of_mem_drop h1)
    ·cases ea;rw[e];simp only[ME,Dw];omega
   ·simp only[hw,if_false];have es:l.set i (r.1+n,r.2-n)=l.take i++(r.1+n,r.2-n)::l.drop (i+1):=List.set_eq_take_append_cons_drop.trans (if_pos Gl);refine⟨fun x hx=>?_,fun e=>(by cases e),fun a ea=>?_⟩
    ·rcases List.mem_or_eq_of_mem_set hx with h1|rfl
     ·exact h x h1
     ·simp only;omega
    ·cases ea;rw[es,e];simp only[ME,Dw];omega
def ptr (b:Nat):Value:=R_ b
def Aq (l:List Nat):U_:=l.map fun x:Nat=>.int .u16 (x:Int)
def Ep (l:List Int):U_:=l.map fun x=>.int .i64 x
def Bf (l:List Nat):U_:=l.map ptr
structure PR where
 (pid par st A B P sw:Nat)
 en:Bool
 co:Int
 (bl im fd:Value)
 Ah:List Nat
 fds:List Int
def PR.arr (r:PR):X_:=#[.int .i64 r.pid,.int .i64 r.par,.bool r.en,.int .u16 r.st,r.bl,.int .u16 r.A,.int .u16 r.B,.int .u16 r.P,r.im,r.fd,.int .i64 r.sw,.int .i64 r.co]
def PR.obj (r:PR):Obj:=.cells r.arr 128 (0,0)
abbrev Tag:=Nat->Nat×Nat
def IU (T:Tag) (w:World) (kb b:Nat) (v:Value):Prop:=
 v=.nilFunc\/
 (∃x y,v=.func (.func 196) #[] #[ptr x,ptr y]/\w.heap[x]?=some (.cells #[ptr kb] 33 (0,0))/\w.heap[y]?=some (.cells #[ptr b] 119 (0,0))/\T x=(9,b)/\T y=(9,b))\/
 (∃p,(v=.func (.func 270) #[ptr p] #[]\/v=.func (.func 265) #[ptr p] #[])/\T p=(11,0))
structure l7 (T:Tag) (w:World) (kb b:Nat) (r:PR):Prop where
 t:T b=(6,b)
 o:w.heap[b]?=some r.obj
 im:r.en=false->∃g c,r.im=.slice (some (S_ g)) r.Ah.length c/\Rw 123 1 w g r.Ah.length c (Aq r.Ah)/\T g=(7,b)
 fd:r.en=false->∃g c,r.fd=.slice (some (S_ g)) r.fds.length c/\Rw 3 1 w g r.fds.length c (Ep r.fds)/\T g=(8,b)
 bl:IU T w kb b r.bl
 no:r.en=true->r.im=.slice none 0 0/\r.fd=.slice none 0 0/\r.Ah=[]/\r.fds=[]
def OP (T:Tag) (w:World) (b M:Nat) (v:Value):Prop:=v=.slice none 0 0\/∃g c ws,v=.slice (some (S_ g)) ws.length c/\Rw 123 1 w g ws.length c (Aq ws)/\ws.length<=M/\(∀x∈ws,x<65536)/\T g=(15,b)
def KP (T:Tag) (v:Value) (o:Option Nat):Prop:=∃b,(v=.iface 337 (ptr b)/\∃f,T b=(12,f)/\o=some f)\/(v=.iface 330 (ptr b)/\T b=(13,0)/\o=none)\/(v=.iface 334 (ptr b)/\T b=(14,0)/\o=none)
structure Uw (T:Tag) (op:Nat->Nat) (w:World) (kb:Nat):Prop where
 file:∀b,T b=(10,0)->∃v,w.heap[b]?=some (.cells #[v,.int .i64 (op b)] 191 (0,0))/\OP T w b 64 v
 pipe:∀b,T b=(11,0)->∃v x y,w.heap[b]?=some (.cells #[v,.bool x,.bool y] 329 (0,0))/\OP T w b 16 v
 Fs:∀b f,T b=(12,f)->∃n:Nat,w.heap[b]?=some (.cells #[.pointer (some (T_ kb 4)),ptr f,.int .i64 n] 339 (0,0))/\T f=(10,0)/\n<=64
 rend:∀b,T b=(13,0)->∃p,w.heap[b]?=some (.cells #[ptr p] 333 (0,0))/\T p=(11,0)
 Oo:∀b,T b=(14,0)->∃p,w.heap[b]?=some (.cells #[ptr p] 335 (0,0))/\T p=(11,0)
structure KS where
 (kb cg cc sg sc pg pc BM:Nat)
 (core swap:List (W_))
 (AJ nl:List Nat)
 (desc op:Nat->Nat)
 (nm ef:Nat->Option Nat)
 ps:Nat->Option PR
 T:Tag
def jf (T:Tag) (w:World) (l:List Nat) (v:Value):Prop:=((v=.slice none 0 0/\l=[])\/∃g c,v=.slice (some (S_ g)) l.length c/\Rw 101 1 w g l.length c (Bf l)/\T g=(5,0))/\∀b∈l,T b=(10,0)
def Ut:Option Nat->Value
 | none=>.pointer none
 | some b=>ptr b
structure KC (K:KS) (w:World) (ks:X_):Prop where
 c0:ks[0]?=some (.slice (some (S_ K.cg)) K.core.length K.cc)
 c1:ks[1]?=some (.slice (some (S_ K.sg)) K.swap.length K.sc)
 c2:ks[2]?=some (.slice (some (S_ K.pg)) K.AJ.length K.pc)
 c3:ks[3]?=some (.int .i64 K.BM)
 nm:∀i,i<16->ks[4+i]?=some (Ut (K.nm i))/\∀b,K.nm i=some b->K.T b=(10,0)
 nl:∃v,ks[20]?=some v/\jf K.T w K.nl v
 en:∀i,i<20->∃v,ks[21+i*2]?=some v/\ks[21+i*2+1]?=some (.int .i64 (K.desc i))/\v.oneCell'=true/\(0<K.desc i->KP K.T v (K.ef i))
structure AQ (K:KS) (w:World):Prop where
 k:∃ks,w.heap[K.kb]?=some (.cells ks 114 (0,0))/\KC K w ks
 mc:Mp 186 w K.cg K.cc K.core
 ms:Mp 188 w K.sg K.sc K.swap
 pr:Rw 119 1 w K.pg K.AJ.length K.pc (Bf K.AJ)
 ps:∀b r,K.ps b=some r->l7 K.T w K.kb b r
 fl:Uw K.T K.op w K.kb
 tk:K.T K.kb=(1,0)
 tc:K.T K.cg=(2,0)
 ts:K.T K.sg=(3,0)
 tp:K.T K.pg=(4,0)
 lt:∀b,w.heap.size<=b->K.T b=(0,0)
def On (T:Tag) (Q:Nat×Nat->Prop):Nat->Prop:=fun k=>Q (T k)
section
variable {T:Tag} {w w':World} {kb b:Nat} {r:PR} {v:Value} {Q:Nat×Nat->Prop} {K:KS}
theorem IU.keep (h:IU T w kb b v) (hK:Ab (On T Q) w w') (h9:¬Q (9,b)):IU T w' kb b v:=by
 rcases h with h|⟨x,y,h1,h2,h3,h4,h5⟩|h
 ·exact .inl h
 ·exact .inr (.inl ⟨x,y,h1,hK.old h2 (by unfold On;rw[h4];exact h9),hK.old h3 (by unfold On;rw[h5];exact h9),h4,h5⟩)
 ·exact .inr (.inr h)
theorem l7.keep (h:l7 T w kb b r) (hK:Ab (On T Q) w w') (h6:¬Q (6,b)) (h7:¬Q (7,b)) (h8:¬Q (8,b)) (h9:¬Q (9,b)):l7 T w' kb b r:=by
 refine⟨h.t,hK.old h.o (by unfold On;rw[h.t];exact h6),fun e=>?_,fun e=>?_,h.bl.keep hK h9,h.no⟩
 ·obtain⟨g,c,a1,a2,a3⟩:=h.im e;exact⟨g,c,a1,a2.keep hK (by unfold On;rw[a3];exact h7),a3⟩
 ·obtain⟨g,c,a1,a2,a3⟩:=h.fd e;exact⟨g,c,a1,a2.keep hK (by unfold On;rw[a3];exact h8),a3⟩
theorem OP.keep {M:Nat} (h:OP T w b M v) (hK:Ab (On T Q) w w') (hq:¬Q (15,b)):OP T w' b M v:=by
 rcases h with h|⟨g,c,ws,a1,a2,a3,a4,a5⟩
 ·exact .inl h
 ·exact .inr ⟨g,c,ws,a1,a2.keep hK (by unfold On;rw[a5];exact hq),a3,a4,a5⟩
theorem Uw.keep {op:Nat->Nat} (h:Uw T op w kb) (hK:Ab (On T Q) w w') (hq:∀c,¬Q (15,c)) (h0:¬Q (10,0)) (h1:¬Q (11,0)) (h2:∀c,¬Q (12,c)) (h3:¬Q (13,0)) (h4:¬Q (14,0)):Uw T op w' kb:=by
 refine⟨fun b e=>?_,fun b e=>?_,fun b c e=>?_,fun b e=>?_,fun b e=>?_⟩
 ·obtain⟨x,a1,a2⟩:=h.file b e;exact⟨x,hK.old a1 (by unfold On;rw[e];exact h0),a2.keep hK (hq b)⟩
 ·obtain⟨x,y,z,a1,a2⟩:=h.pipe b e;exact⟨x,y,z,hK.old a1 (by unfold On;rw[e];exact h1),a2.keep hK (hq b)⟩
 ·obtain⟨n,a1,a2⟩:=h.Fs b c e;exact⟨n,hK.old a1 (by unfold On;rw[e];exact h2 c),a2⟩
 ·obtain⟨x,a1,a2⟩:=h.rend b e;exact⟨x,hK.old a1 (by unfold On;rw[e];exact h3),a2⟩
 ·obtain⟨x,a1,a2⟩:=h.Oo b e;exact⟨x,hK.old a1 (by unfold On;rw[e];exact h4),a2⟩
theorem jf.keep {l:List Nat} (h:jf T w l v) (hK:Ab (On T Q) w w') (h5:¬Q (5,0)):jf T w' l v:=by
 rcases h with⟨h|⟨g,c,a1,a2,a3⟩,h'⟩
 ·exact⟨.inl h,h'⟩
 ·exact⟨.inr ⟨g,c,a1,a2.keep hK (by unfold On;rw[a3];exact h5),a3⟩,h'⟩
theorem KC.keep {ks:X_} (h:KC K w ks) (hK:Ab (On K.T Q) w w') (h5:¬Q (5,0)):KC K w' ks:=⟨h.c0,h.c1,h.c2,h.c3,h.nm,let ⟨v,a,b⟩:=h.nl;⟨v,a,b.keep hK h5⟩,h.en⟩
theorem AQ.keep (h:AQ K w) (hK:Ab (On K.T fun t=>t=(0,0)) w w') (hl:∀b,w'.heap.size<=b->K.T b=(0,0)):AQ K w':=by
 obtain⟨⟨ks,h1,h2⟩,mc,ms,pr,ps,fl,tk,tc,ts,tp,lt⟩:=h;refine⟨⟨ks,hK.old h1 (by unfold On;rw[tk];simp),h2.keep hK (by simp)⟩,Rw.keep mc hK (by unfold On;rw[tc];simp),Rw.keep ms hK (by unfold On;rw[ts];simp),Rw.keep pr hK (by unfold On;rw[tp];simp),fun b r e=>(ps b r e).keep hK (by simp) (by simp) (by simp) (by simp),fl.keep hK (by simp) (by simp) (by simp) (by simp) (by simp) (by simp),tk,tc,ts,tp,hl⟩
theorem AQ.no (h:AQ K w) (hK:Ab No w w'):AQ K w':=h.keep hK.no fun b hb=>h.lt b (Nat.le_trans hK.size hb)
end
structure Ct (T T':Tag) (Q N:Nat×Nat->Prop) (w w':World):Prop where
 keep:Ab (On T Q) w w'
 old:∀b,T b≠(0,0)->T' b=T b
 new:∀b,T b=(0,0)->T' b≠(0,0)->N (T' b)
 lt:∀b,w'.heap.size<=b->T' b=(0,0)
 fresh:∀b,b<w.heap.size->T' b=T b
def A8 (T:Tag) (g:Nat) (t:W_):Tag:=fun b=>if b=g then t else T b
def Cu (f:Nat->Option PR) (b:Nat) (r:PR):Nat->Option PR:=fun k=>if k=b then some r else f k
theorem BB {T:Tag} {g:Nat} {t:Nat×Nat}:A8 T g t g=t:=if_pos rfl
theorem AY {T:Tag} {g b:Nat} {t:Nat×Nat} (h:b≠g):A8 T g t b=T b:=if_neg h
theorem Al {f:Nat->Option PR} {b:Nat} {r:PR}:Cu f b r b=some r:=if_pos rfl
theorem BI {f:Nat->Option PR} {b k:Nat} {r:PR} (h:k≠b):Cu f b r k=f k:=if_neg h
section
variable {T T' T'':Tag} {Q Q' N N' R:Nat×Nat->Prop} {w w' Jl:World} {kb b g:Nat} {r:PR} {v:Value} {K:KS}
theorem Ab.on {S:Nat->Prop} (h:Ab S w w') (hs:∀k,k<w.heap.size->S k->Q (T k)):Ab (On T Q) w w':=⟨h.os,h.output,h.size,fun k hk hn=>h.block k hk fun e=>hn (hs k hk e)⟩
theorem Ct.of (h:Ab (On T Q) w w') (hl:∀b,w.heap.size<=b->T b=(0,0)):Ct T T Q N w w':=⟨h,fun _ _=>rfl,fun _ h1 h2=>absurd h1 h2,fun b hb=>hl b (Nat.le_trans h.size hb),fun _ _=>rfl⟩
theorem Ct.no (h:Ab No w w') (hl:∀b,w.heap.size<=b->T b=(0,0)):Ct T T Q N w w':=Ct.of h.no hl
theorem Ct.row (h:Ab (On T Q) w w') (hl:∀b,w.heap.size<=b->T b=(0,0)) {t:Nat×Nat} (hg:T g=t\/w.heap.size<=g) (hg':g<w'.heap.size) (hN:N t):Ct T (A8 T g t) Q N w w':=by
 have h0:T g=t\/T g=(0,0):=hg.imp id (hl g);refine⟨h,fun b hb=>?_,fun b h1 h2=>?_,fun b hb=>?_,fun b hb=>?_⟩
 ·by_cases e:b=g
  ·subst e;rw[BB];exact((h0.resolve_right hb)).symm
  ·exact AY e
 ·by_cases e:b=g
  ·subst e;rw[BB];exact hN
  ·rw[AY e]at h2;exact absurd h1 h2
 ·rw[AY (by omega)];exact hl b (Nat.le_trans h.size hb)
 ·by_cases e:b=g
  ·subst e;rw[BB];exact((hg.resolve_right (by omega))).symm
  ·exact AY e
theorem Ct.weak (h:Ct T T' Q N w w') (h1:∀t,Q t->Q' t) (h2:∀t,N t->N' t):Ct T T' Q' N' w w':=⟨h.keep.on fun _ _ e=>h1 _ e,h.old,fun b a c=>h2 _ (h.new b a c),h.lt,h.fresh⟩
theorem Ct.trans (h:Ct T T' Q N w w') (h':Ct T' T'' Q N w' Jl):Ct T T'' Q N w Jl:=by
 refine⟨h.keep.trans h'.keep fun k hk e=>?_,fun b hb=>?_,fun b h1 h2=>?_,h'.lt,fun b hb=>?_⟩
 ·have:=h.fresh k hk;unfold On at*;rw[<-this];exact e
 ·have:=h.old b hb;rw[h'.old b (by rw[this];exact hb),this]
 ·by_cases e:T' b=(0,0)
  ·exact h'.new b e h2
  ·rw[h'.old b e];exact h.new b h1 e
 ·rw[h'.fresh b (Nat.lt_of_lt_of_le hb h.keep.size),h.fresh b hb]
theorem Ct.tag (h:Ct T T' Q N w w') {t:Nat×Nat} (ht:T b=t) (h0:t≠(0,0)):T' b=t:=(h.old b (by rw[ht];exact h0)).trans ht
theorem Ct.back (h:Ct T T' Q N w w') {t:Nat×Nat} (ht:T' b=t) (h0:t≠(0,0)) (hN:¬N t):T b=t:=by
 by_cases e:T b=(0,0)
 ·have:=h.new b e (by rw[ht];exact h0);rw[ht]at this;exact absurd this hN
 ·rw[<-h.old b e];exact ht
theorem Ct.blk (h:Ct T T' Q N w w') {o:Obj} (ho:w.heap[b]?=some o) {t:Nat×Nat} (ht:T b=t) (hq:¬Q t):w'.heap[b]?=some o:=h.keep.old ho (by unfold On;rw[ht];exact hq)
theorem IU.IY (h:IU T w kb b v) (M:Ct T T' Q N w w') (h9:¬Q (9,b)):IU T' w' kb b v:=by
 rcases h with h|⟨x,y,h1,h2,h3,h4,h5⟩|⟨p,h1,h2⟩
 ·exact .inl h
 ·exact .inr (.inl ⟨x,y,h1,M.blk h2 h4 h9,M.blk h3 h5 h9,M.tag h4 (by simp),M.tag h5 (by simp)⟩)
 ·exact .inr (.inr ⟨p,h1,M.tag h2 (by simp)⟩)
theorem l7.IY (h:l7 T w kb b r) (M:Ct T T' Q N w w') (h6:¬Q (6,b)) (h7:¬Q (7,b)) (h8:¬Q (8,b)) (h9:¬Q (9,b)):l7 T' w' kb b r:=by
 refine⟨M.tag h.t (by simp),M.blk h.o h.t h6,fun e=>?_,fun e=>?_,h.bl.IY M h9,h.no⟩
 ·obtain⟨g,c,a1,a2,a3⟩:=h.im e;exact⟨g,c,a1,a2.keep M.keep (by unfold On;rw[a3];exact h7),M.tag a3 (by simp)⟩
 ·obtain⟨g,c,a1,a2,a3⟩:=h.fd e;exact⟨g,c,a1,a2.keep M.keep (by unfold On;rw[a3];exact h8),M.tag a3 (by simp)⟩
theorem OP.IY {n:Nat} (h:OP T w b n v) (M:Ct T T' Q N w w') (hq:¬Q (15,b)):OP T' w' b n v:=by
 rcases h with h|⟨g,c,ws,a1,a2,a3,a4,a5⟩
 ·exact .inl h
 ·exact .inr ⟨g,c,ws,a1,a2.keep M.keep (by unfold On;rw[a5];exact hq),a3,a4,M.tag a5 (by simp)⟩
theorem KP.IY {o:Option Nat} (h:KP T v o) (M:Ct T T' Q N w w'):KP T' v o:=by
 obtain⟨b,h⟩:=h;exact⟨b,h.imp (fun⟨h,f,h1,h2⟩=>⟨h,f,M.tag h1 (by simp),h2⟩) (Or.imp (fun h=>⟨h.1,M.tag h.2.1 (by simp),h.2.2⟩) (fun h=>⟨h.1,M.tag h.2.1 (by simp),h.2.2⟩))⟩
theorem Uw.IY {op:Nat->Nat} (h:Uw T op w kb) (M:Ct T T' Q N w w') (hQ:∀t,Q t->t.1<10) (hN:∀t,N t->t.1<10):Uw T' op w' kb:=by
 have q:∀k c,10<=k->¬Q (k,c):=fun k c hk e=>absurd (hQ _ e) (by simp;omega)
 have n:∀k c,10<=k->¬N (k,c):=fun k c hk e=>absurd (hN _ e) (by simp;omega)
 refine⟨fun b e=>?_,fun b e=>?_,fun b c e=>?_,fun b e=>?_,fun b e=>?_⟩
 ·have e:=M.back e (by simp) (n _ _ (by omega));obtain⟨x,a1,a2⟩:=h.file b e;exact⟨x,M.blk a1 e (q _ _ (by omega)),a2.IY M (q _ _ (by omega))⟩
 ·have e:=M.back e (by simp) (n _ _ (by omega));obtain⟨x,y,z,a1,a2⟩:=h.pipe b e;exact⟨x,y,z,M.blk a1 e (q _ _ (by omega)),a2.IY M (q _ _ (by omega))⟩
 ·have e:=M.back e (by simp) (n _ _ (by omega));obtain⟨n,a1,a2,a3⟩:=h.Fs b c e;exact⟨n,M.blk a1 e (q _ _ (by omega)),M.tag a2 (by simp),a3⟩
 ·have e:=M.back e (by simp) (n _ _ (by omega));obtain⟨x,a1,a2⟩:=h.rend b e;exact⟨x,M.blk a1 e (q _ _ (by omega)),M.tag a2 (by simp)⟩
 ·have e:=M.back e (by simp) (n _ _ (by omega));obtain⟨x,a1,a2⟩:=h.Oo b e;exact⟨x,M.blk a1 e (q _ _ (by omega)),M.tag a2 (by simp)⟩
theorem jf.IY {l:List Nat} (h:jf T w l v) (M:Ct T T' Q N w w') (h5:¬Q (5,0)):jf T' w' l v:=by
 rcases h with⟨h|⟨g,c,a1,a2,a3⟩,h'⟩
 ·exact⟨.inl h,fun b hb=>M.tag (h' b hb) (by simp)⟩
 ·exact⟨.inr ⟨g,c,a1,a2.keep M.keep (by unfold On;rw[a3];exact h5),M.tag a3 (by simp)⟩,fun b hb=>M.tag (h' b hb) (by simp)⟩
theorem KC.IY {ks:X_} (h:KC K w ks) (M:Ct K.T T' Q N w w') (h5:¬Q (5,0)):KC { K with T:=T' } w' ks:=
 ⟨h.c0,h.c1,h.c2,h.c3,fun i hi=>⟨(h.nm i hi).1,fun b e=>M.tag ((h.nm i hi).2 b e) (by simp)⟩,let ⟨v,a,b⟩:=h.nl;⟨v,a,b.IY M h5⟩,fun i hi=>let ⟨v,a,b,c,d⟩:=h.en i hi;⟨v,a,b,c,fun e=>(d e).IY M⟩⟩
theorem KC.ps {ks:X_} (h:KC K w ks) (f:Nat->Option PR):KC { K with ps:=f } w ks:=⟨h.c0,h.c1,h.c2,h.c3,h.nm,h.nl,h.en⟩
theorem KC.set0 {ks:X_} (h:KC K w ks) {g c:Nat} {l:List (W_)}:KC { K with core:=l,cg:=g,cc:=c } w (ks.setIfInBounds 0 (.slice (some (S_ g)) l.length c)):=by
 have hs:0<ks.size:=(Array.getElem?_eq_some_iff.1 h.c0).1;refine⟨by simp[hs],?_,?_,?_,fun i hi=>?_,?_,fun i hi=>?_⟩
 ·rw[FE (by omega)];exact h.c1
 ·rw[FE (by omega)];exact h.c2
 ·rw[FE (by omega)];exact h.c3
 ·rw[FE (by omega)];exact h.nm i hi
 ·rw[FE (by omega)];exact h.nl
 ·rw[FE (by omega),FE (by omega)];exact h.en i hi
theorem KC.Kq {ks:X_} (h:KC K w ks) {g c:Nat} {l:List (W_)}:KC { K with swap:=l,sg:=g,sc:=c } w (ks.setIfInBounds 1 (.slice (some (S_ g)) l.length c)):=by
 have hs:1<ks.size:=(Array.getElem?_eq_some_iff.1 h.c1).1;refine⟨?_,by simp[hs],?_,?_,fun i hi=>?_,?_,fun i hi=>?_⟩
 ·rw[FE (by omega)];exact h.c0
 ·rw[FE (by omega)];exact h.c2
 ·rw[FE (by omega)];exact h.c3
 ·rw[FE (by omega)];exact h.nm i hi
 ·rw[FE (by omega)];exact h.nl
 ·rw[FE (by omega),FE (by omega)];exact h.en i hi
theorem KC.set2 {ks:X_} (h:KC K w ks) {g c:Nat} {l:List Nat}:KC { K with AJ:=l,pg:=g,pc:=c } w (ks.setIfInBounds 2 (.slice (some (S_ g)) l.length c)):=by
 have hs:2<ks.size:=(Array.getElem?_eq_some_iff.1 h.c2).1;refine⟨?_,?_,by simp[hs],?_,fun i hi=>?_,?_,fun i hi=>?_⟩
 ·rw[FE (by omega)];exact h.c0
 ·rw[FE (by omega)];exact h.c1
 ·rw[FE (by omega)];exact h.c3
 ·rw[FE (by omega)];exact h.nm i hi
 ·rw[FE (by omega)];exact h.nl
 ·rw[FE (by omega),FE (by omega)];exact h.en i hi
theorem KC.aw2 {ks:X_} (h:KC K w ks) {n:Nat}:KC { K with BM:=n } w (ks.setIfInBounds 3 (.int .i64 n)):=by
 have hs:3<ks.size:=(Array.getElem?_eq_some_iff.1 h.c3).1;refine⟨?_,?_,?_,by simp[hs],fun i hi=>?_,?_,fun i hi=>?_⟩
 ·rw[FE (by omega)];exact h.c0
 ·rw[FE (by omega)];exact h.c1
 ·rw[FE (by omega)];exact h.c2
 ·rw[FE (by omega)];exact h.nm i hi
 ·rw[FE (by omega)];exact h.nl
 ·rw[FE (by omega),FE (by omega)];exact h.en i hi
def Az {α:Type} (f:Nat->α) (i:Nat) (n:α):Nat->α:=fun k=>if k=i then n else f k
theorem KC.Zt {ks:X_} (h:KC K w ks) {i n:Nat} {v:Value} {o:Option Nat} (hi:i<20) (h1:v.oneCell'=true) (hv:0<n->KP K.T v o):KC { K with desc:=Az K.desc i n,ef:=Az K.ef i o } w ((ks.setIfInBounds (21+i*2) v).setIfInBounds (21+i*2+1) (.int .i64 n)):=by
 have hs:21+i*2+1<ks.size:=by
  obtain⟨_,_,h,_⟩:=h.en i hi
  exact(Array.getElem?_eq_some_iff.1 h).1
 refine⟨?_,?_,?_,?_,fun j hj=>?_,?_,fun j hj=>?_⟩
 ·rw[FE (by omega),FE (by omega)];exact h.c0
 ·rw[FE (by omega),FE (by omega)];exact h.c1
 ·rw[FE (by omega),FE (by omega)];exact h.c2
 ·rw[FE (by omega),FE (by omega)];exact h.c3
 ·rw[FE (by omega),FE (by omega)];exact h.nm j hj
 ·rw[FE (by omega),FE (by omega)];exact h.nl
 ·by_cases e:j=i
  ·subst e;refine⟨v,?_,?_,h1,?_⟩
   ·rw[FE (by omega),Array.getElem?_setIfInBounds_self_of_lt (by omega)]
   ·rw[Array.getElem?_setIfInBounds_self_of_lt (by simpa using hs)];simp[Az]
   ·simpa [Az]using hv
  ·rw[FE (by omega),FE (by omega),FE (by omega),FE (by omega)];simpa [Az,e]using h.en j hj
theorem KC.af9 {ks:X_} (h:KC K w ks) {i:Nat} {o:Option Nat} (hi:i<16) (hv:∀b,o=some b->K.T b=(10,0)):KC { K with nm:=Az K.nm i o } w (ks.setIfInBounds (4+i) (Ut o)):=by
 have hs:4+i<ks.size:=(Array.getElem?_eq_some_iff.1 (h.nm i hi).1).1;refine⟨?_,?_,?_,?_,fun j hj=>?_,?_,fun j hj=>?_⟩
 ·rw[FE (by omega)];exact h.c0
 ·rw[FE (by omega)];exact h.c1
 ·rw[FE (by omega)];exact h.c2
 ·rw[FE (by omega)];exact h.c3
 ·by_cases e:j=i
  ·subst e;rw[Array.getElem?_setIfInBounds_self_of_lt hs];simpa [Az]using hv
  ·rw[FE (by omega)];simpa [Az,e]using h.nm j hj
 ·rw[FE (by omega)];exact h.nl
 ·rw[FE (by omega),FE (by omega)];exact h.en j hj
theorem KC.aw1 {ks:X_} (h:KC K w ks) {l:List Nat} {v:Value} (hv:jf K.T w l v):KC { K with nl:=l } w (ks.setIfInBounds 20 v):=by
 obtain⟨_,a,_⟩:=h.nl;have hs:20<ks.size:=(Array.getElem?_eq_some_iff.1 a).1;refine⟨?_,?_,?_,?_,fun i hi=>?_,⟨v,by simp[hs],hv⟩,fun i hi=>?_⟩
 ·rw[FE (by omega)];exact h.c0
 ·rw[FE (by omega)];exact h.c1
 ·rw[FE (by omega)];exact h.c2
 ·rw[FE (by omega)];exact h.c3
 ·rw[FE (by omega)];exact h.nm i hi
 ·rw[FE (by omega),FE (by omega)];exact h.en i hi
theorem AQ.gM (h:AQ K w) {g c:Nat} {l:List (W_)} {ks:X_} (M:Ct K.T T' (fun t=>t=(1,0)\/t=(2,0)) (fun t=>t=(2,0)) w w') (hc:KC K w ks) (hk:w'.heap[K.kb]?=some (.cells (ks.setIfInBounds 0 (.slice (some (S_ g)) l.length c)) 114 (0,0))) (mp:Mp 186 w' g c l) (tg:T' g=(2,0)):AQ { K with core:=l,cg:=g,cc:=c,T:=T' } w':=
 ⟨⟨_,hk,(hc.IY M (by simp)).set0⟩,mp,Rw.keep h.ms M.keep (by unfold On;rw[h.ts];simp),Rw.keep h.pr M.keep (by unfold On;rw[h.tp];simp),fun b r e=>(h.ps b r e).IY M (by simp) (by simp) (by simp) (by simp),h.fl.IY M (by rintro t (rfl|rfl)<;>simp) (by rintro t rfl;simp),M.tag h.tk (by simp),tg,M.tag h.ts (by simp),M.tag h.tp (by simp),M.lt⟩
theorem AQ.gJ (h:AQ K w) {g c:Nat} {l:List (W_)} {ks:X_} (M:Ct K.T T' (fun t=>t=(1,0)\/t=(3,0)) (fun t=>t=(3,0)) w w') (hc:KC K w ks) (hk:w'.heap[K.kb]?=some (.cells (ks.setIfInBounds 1 (.slice (some (S_ g)) l.length c)) 114 (0,0))) (mp:Mp 188 w' g c l) (tg:T' g=(3,0)):AQ { K with swap:=l,sg:=g,sc:=c,T:=T' } w':=
 ⟨⟨_,hk,(hc.IY M (by simp)).Kq⟩,Rw.keep h.mc M.keep (by unfold On;rw[h.tc];simp),mp,Rw.keep h.pr M.keep (by unfold On;rw[h.tp];simp),fun b r e=>(h.ps b r e).IY M (by simp) (by simp) (by simp) (by simp),h.fl.IY M (by rintro t (rfl|rfl)<;>simp) (by rintro t rfl;simp),M.tag h.tk (by simp),M.tag h.tc (by simp),tg,M.tag h.tp (by simp),M.lt⟩
theorem AQ.R8 (h:AQ K w) {g c BM:Nat} {l:List Nat} {ks ks':X_} (M:Ct K.T T' (fun t=>t=(1,0)\/t=(4,0)) (fun t=>t=(4,0)) w w') (hc:KC K w ks) (hk:w'.heap[K.kb]?=some (.cells ks' 114 (0,0))) (hks:ks'=(ks.setIfInBounds 3 (.int .i64 BM)).setIfInBounds 2 (.slice (some (S_ g)) l.length c)) (mp:Rw 119 1 w' g l.length c (Bf l)) (tg:T' g=(4,0)):AQ { K with AJ:=l,pg:=g,pc:=c,BM:=BM,T:=T' } w':=
 ⟨⟨_,hk,by subst hks;exact((hc.IY M (by simp)).aw2).set2⟩,Rw.keep h.mc M.keep (by unfold On;rw[h.tc];simp),Rw.keep h.ms M.keep (by unfold On;rw[h.ts];simp),mp,fun b r e=>(h.ps b r e).IY M (by simp) (by simp) (by simp) (by simp),h.fl.IY M (by rintro t (rfl|rfl)<;>simp) (by rintro t rfl;simp),M.tag h.tk (by simp),M.tag h.tc (by simp),M.tag h.ts (by simp),tg,M.lt⟩
theorem AQ.WJ (h:AQ K w) {r':PR} (M:Ct K.T T' (fun t=>t=(6,b)\/t=(7,b)\/t=(8,b)\/t=(9,b)) (fun t=>t=(6,b)\/t=(7,b)\/t=(8,b)\/t=(9,b)) w w') (hp:l7 T' w' K.kb b r'):AQ { K with ps:=Cu K.ps b r',T:=T' } w':=by
 obtain⟨ks,hk,hc⟩:=h.k;refine⟨⟨_,M.blk hk h.tk (by simp),(hc.IY M (by simp)).ps _⟩,Rw.keep h.mc M.keep (by unfold On;rw[h.tc];simp),Rw.keep h.ms M.keep (by unfold On;rw[h.ts];simp),Rw.keep h.pr M.keep (by unfold On;rw[h.tp];simp),fun k r e=>?_,h.fl.IY M (by rintro t (rfl|rfl|rfl|rfl)<;>simp) (by rintro t (rfl|rfl|rfl|rfl)<;>simp),M.tag h.tk (by simp),M.tag h.tc (by simp),M.tag h.ts (by simp),M.tag h.tp (by simp),M.lt⟩;by_cases e':k=b
 ·subst e';have e:Cu K.ps k r' k=some r:=e;rw[Al]at e;cases e;exact hp
 ·have e:Cu K.ps b r' k=some r:=e;rw[BI e']at e;exact(h.ps k r e).IY M (by simpa using e') (by simpa using e') (by simpa using e') (by simpa using e')
theorem AQ.TP (h:AQ K w) {ks':X_} {d o:Nat->Nat} {nl:List Nat} {nm ef:Nat->Option Nat} (M:Ct K.T T' (fun t=>t=(1,0)\/t=(5,0)\/10<=t.1) (fun t=>t=(5,0)\/10<=t.1) w w') (hk:w'.heap[K.kb]?=some (.cells ks' 114 (0,0))) (hc:KC { K with desc:=d,op:=o,nl:=nl,nm:=nm,ef:=ef,T:=T' } w' ks') (hf:Uw T' o w' K.kb):AQ { K with desc:=d,op:=o,nl:=nl,nm:=nm,ef:=ef,T:=T' } w':=
 ⟨⟨_,hk,hc⟩,Rw.keep h.mc M.keep (by unfold On;rw[h.tc];simp),Rw.keep h.ms M.keep (by unfold On;rw[h.ts];simp),Rw.keep h.pr M.keep (by unfold On;rw[h.tp];simp),fun b r e=>(h.ps b r e).IY M (by simp) (by simp) (by simp) (by simp),hf,M.tag h.tk (by simp),M.tag h.tc (by simp),M.tag h.ts (by simp),M.tag h.tp (by simp),M.lt⟩
theorem KC.op {ks:X_} (h:KC K w ks) (f:Nat->Nat):KC { K with op:=f } w ks:=⟨h.c0,h.c1,h.c2,h.c3,h.nm,h.nl,h.en⟩
end
def KS.DF (K:KS):Prop:=∀b∈K.AJ,∃r,K.ps b=some r
section
variable {K:KS} {w w':World} {b:Nat} {r:PR}
theorem AQ.FH (h:AQ K w) (hb:K.ps b=some r) (i:Nat):w.cell? (T_ b i)=r.arr[i]?:=Ag (h.ps b r hb).o i
theorem AQ.WA (h:AQ K w) (hb:K.ps b=some r) (i:Nat):w.frozen? (T_ b i)=false:=BF (h.ps b r hb).o i
theorem AQ.plt (h:AQ K w) (hb:K.ps b=some r):b<w.heap.size:=Co (h.ps b r hb).o
theorem AQ.klt (h:AQ K w):K.kb<w.heap.size:=let ⟨_,a,_⟩:=h.k;Co a
theorem AQ.xy (h:AQ K w):w.cell? (T_ K.kb 2)=some (.slice (some (S_ K.pg)) K.AJ.length K.pc):=let ⟨_,a,c⟩:=h.k;(Ag a 2).trans c.c2
theorem AQ.Xd (h:AQ K w) {i:Nat} (hi:K.AJ[i]?=some b):w.cell? (T_ K.pg i)=some (ptr b):=by
 have hl:=(KH.1 hi).1;rw[Rw.cell h.pr (by omega)];simp[Bf,hi]
theorem AQ.mem (hT:K.DF) {i:Nat} (hi:K.AJ[i]?=some b):∃r,K.ps b=some r:=hT b (List.mem_of_getElem? hi)
end
def iQ (K:KS) (pid:Int) (v:Value):Prop:=(∃b r,v=ptr b/\b∈K.AJ/\K.ps b=some r/\(r.pid:Int)=pid)\/(v=.pointer none/\∀b∈K.AJ,∀r,K.ps b=some r->(r.pid:Int)≠pid)
section
variable (m:Nat) (w:World)
theorem Vw (K:KS) (pid:Int) (h:AQ K w) (hT:K.DF) (hl:K.AJ.length<=100):
  CallsIn NF m prog 54 #[R_ K.kb,.int .i64 pid] w fun e w'=>Ab No w w'/\∃v,e=.returned v/\iQ K pid v:=by
 have q2:=h.xy;gi_enter func54,ntmps54;gi_wp2;gi_loopw [12] (fun i wr=>∃k:Nat,k<=K.AJ.length/\i=.int .i64 k/\Ab No w wr/\∀(j:Nat) b r,j<k->K.AJ[j]?=some b->K.ps b=some r->(r.pid:Int)≠pid) (fun i _=>K.AJ.length-(intOf i).toNat)
 case atStart=>exact⟨0,by omega,rfl,Ab.refl _ _,fun j b r h=>absurd h (by omega)⟩
 case round=>
  obtain⟨k,hk,rfl,KK,rr⟩:=hrel
  by_cases BC:k<K.AJ.length
  ·have hg:K.AJ[k]?=some K.AJ[k]:=HZ BC;generalize K.AJ[k]=b at hg;obtain⟨r,hr⟩:=AQ.mem hT hg;have h1:=h.no KK;have d0:=h1.Xd hg;have d1:=h1.FH hr 0;simp only[ptr]at d0;simp[PR.arr]at d1;by_cases hp:(r.pid:Int)=pid
   ·have hp':((r.pid:Int)==pid)=true:=(by simpa using hp);gi_wp2;go_ret;exact⟨KK,ptr b,by simp[ptr],.inl ⟨b,r,rfl,List.mem_of_getElem? hg,hr,hp⟩⟩
   ·have hp':((r.pid:Int)==pid)=false:=(by simpa using hp);gi_wp2;go_roundw
    case rel=>
     refine⟨k+1,by omega,by go_num,KK,fun j b' r' hj hb FW=>?_⟩
     by_cases e:j=k
     ·subst e;rw[hg]at hb;cases hb;rw[hr]at FW;cases FW;exact hp
     ·exact rr j b' r' (by omega) hb FW
    case measure=>simp[intOf];omega
  ·obtain rfl:k=K.AJ.length:=(by omega);gi_wp2;go_ret;refine⟨KK,.pointer none,by simp,.inr ⟨rfl,fun b hb r hr=>?_⟩⟩;obtain⟨i,hi⟩:=List.getElem?_of_mem hb;exact rr i b r (KH.1 hi).1 hi hr
theorem El (pb L c:Nat) (a:Option Addr) (h8:w.cell? (T_ pb 8)=some (.slice a L c)) (hL:L<1000000):
  CallsIn NF m prog 58 #[R_ pb] w fun e w'=>e=.returned (.int .i64 (Ap L))/\w'=w:=by
 gi_enter func58,ntmps58;gi_wp2_with (gi_at_call 48;refine(EH _ _ L hL).mono ?_;rintro e w1 ⟨rfl,rfl⟩);go_ret;exact⟨by simp,rfl⟩
end
section
variable (m:Nat) (w:World)
theorem Yb (K:KS) (pb:Nat) (p:PR) (h:AQ K w) (hT:K.DF) (hp:K.ps pb=some p) (hl:K.AJ.length<=100):
  CallsIn NF m prog 195 #[R_ K.kb,R_ pb] w fun e w'=>Ab No w w'/\∃v,e=.returned v/\(v=.pointer none\/∃b r,v=ptr b/\b∈K.AJ/\K.ps b=some r/\r.en=true):=by
 have q2:=h.xy;gi_enter func195,ntmps195;gi_wp2;gi_loopw [12] (fun i wr=>∃k:Nat,k<=K.AJ.length/\i=.int .i64 k/\Ab No w wr) (fun i _=>K.AJ.length-(intOf i).toNat)
 case atStart=>exact⟨0,by omega,rfl,Ab.refl _ _⟩
 case round=>
  obtain⟨k,hk,rfl,KK⟩:=hrel
  by_cases BC:k<K.AJ.length
  ·have hg:K.AJ[k]?=some K.AJ[k]:=HZ BC;generalize K.AJ[k]=b at hg;obtain⟨r,hr⟩:=AQ.mem hT hg;have h1:=h.no KK;have d0:=h1.Xd hg;have d1:=h1.FH hr 1;have d2:=h1.FH hr 2;have d3:=h1.FH hp 0;simp only[ptr]at d0;simp[PR.arr]at d1 d2 d3;gi_wp2;refine AA (P:=prog) No _ rfl rfl (by kernel_rfl) 8 33 [0,1,2,3,4,5,6,7] [] (by kernel_rfl) (by rfl) (fun _ _ _=>True) (fun _ _ _ _ _ h _=>h) _ _ rfl rfl ?_;gi_wp2;refine⟨rfl,by kernel_rfl,?_,(fun i hi=>absurd hi (by simp)),?_⟩
   ·intro W hK;have e1:=hK.has (w:=wr.drew) d1;have e3:=hK.has (w:=wr.drew) d3
    repeat' (refine Ao ?_ ?_)
    all_goals first|exact trivial|gi_wp2
   ·intro u W hK _;simp only[C9];have e1:=hK.has (w:=wr.drew) d1;have e2:=hK.has (w:=wr.drew) d2;have e3:=hK.has (w:=wr.drew) d3;have KW:Ab No w W:=KK.drew.then hK;by_cases hq:(r.par:Int)=p.pid
    ·have hq':((r.par:Int)==(p.pid:Int))=true:=(by simpa using hq);cases hn:r.en
     ·rw[hn]at e2;gi_wp2;go_roundw
      case rel=>exact⟨k+1,by omega,by go_num,KW⟩
      case measure=>simp[intOf];omega
     ·rw[hn]at e2;gi_wp2;go_ret;exact⟨KW,ptr b,by simp[ptr],.inr ⟨b,r,rfl,List.mem_of_getElem? hg,hr,hn⟩⟩
    ·have hq':((r.par:Int)==(p.pid:Int))=false:=(by simpa using hq);gi_wp2;go_roundw
     case rel=>exact⟨k+1,by omega,by go_num,KW⟩
     case measure=>simp[intOf];omega
  ·obtain rfl:k=K.AJ.length:=(by omega);gi_wp2;go_ret;exact⟨KK,.pointer none,by simp,.inl rfl⟩
theorem SV {T:Tag} {op:Nat->Nat} {kb b:Nat} {w:World} (h:Uw T op w kb) (hb:T b=(11,0)):∃a n c x y,w.cell? (S_ b)=some (.slice a n c)/\w.cell? (T_ b 1)=some (.bool x)/\w.cell? (T_ b 2)=some (.bool y)/\n<=16:=by
 obtain⟨v,x,y,h1,h2⟩:=h.pipe b hb;rcases h2 with rfl|⟨g,c,ws,rfl,_,h3,_⟩
 ·exact⟨_,_,_,x,y,(Ag h1 0).trans rfl,(Ag h1 1).trans rfl,(Ag h1 2).trans rfl,by omega⟩
 ·exact⟨_,_,_,x,y,(Ag h1 0).trans rfl,(Ag h1 1).trans rfl,(Ag h1 2).trans rfl,h3⟩
theorem SK (K:KS) (b:Nat) (h:AQ K w) (hb:K.T b=(11,0)):
  CallsIn NF m prog 270 #[R_ b] w fun e w'=>Ab No w w'/\∃x,e=.returned (.bool x):=by
 obtain⟨a,n,c,x,y,d0,d1,d2,hn⟩:=SV h.fl hb;gi_enter func270,ntmps270;by_cases hz:n=0
 ·have hz':((n:Int)==0)=true:=by simpa using hz
  gi_wp2;go_ret;exact⟨Ab.refl _ _,y,by simp⟩
 ·have hz':((n:Int)==0)=false:=by simpa using hz
  gi_wp2;go_ret;exact⟨Ab.refl _ _,false,by simp⟩
theorem Tt (K:KS) (b:Nat) (h:AQ K w) (hb:K.T b=(11,0)):
  CallsIn NF m prog 265 #[R_ b] w fun e w'=>Ab No w w'/\∃x,e=.returned (.bool x):=by
 obtain⟨a,n,c,x,y,d0,d1,d2,hn⟩:=SV h.fl hb;gi_enter func265,ntmps265;by_cases hz:n=16
 ·have hz':((n:Int)==16)=true:=by simpa using(by omega:(n:Int)=16)
  gi_wp2;go_ret;exact⟨Ab.refl _ _,x,by simp⟩
 ·have hz':((n:Int)==16)=false:=by simpa using(by omega:¬(n:Int)=16)
  gi_wp2;go_ret;exact⟨Ab.refl _ _,false,by simp⟩
theorem NB:(binOp .neq 32 .nilFunc .nilFunc).run prog w=.ok (.bool false) w:=by kernel_rfl
theorem uZ {x y:Nat}:(binOp .neq 32 (.func (.func 196) #[] #[R_ x,R_ y]) .nilFunc).run prog w=.ok (.bool true) w:=by kernel_rfl
theorem uX {x:Nat}:(binOp .neq 32 (.func (.func 270) #[R_ x] #[]) .nilFunc).run prog w=.ok (.bool true) w:=by kernel_rfl
theorem uY {x:Nat}:(binOp .neq 32 (.func (.func 265) #[R_ x] #[]) .nilFunc).run prog w=.ok (.bool true) w:=by kernel_rfl
theorem pI (K:KS) (pb x y:Nat) (p:PR) (h:AQ K w) (hT:K.DF) (hp:K.ps pb=some p) (hl:K.AJ.length<=100) (dx:w.cell? (S_ x)=some (R_ K.kb)) (dy:w.cell? (S_ y)=some (R_ pb)):
  CallsIn NF m prog 196 #[R_ x,R_ y] w fun e w'=>Ab No w w'/\∃x,e=.returned (.bool x):=by
 have c:=fun m=>Yb m w K pb p h hT hp hl
 gi_enter func196,ntmps196;gi_wp2_with (gi_at_call 195;refine(c _).mono ?_;rintro e w1 ⟨hK,v,rfl,hv⟩;rcases hv with rfl|⟨b,r,rfl,_⟩<;>try simp only[ptr])
 ·go_ret;exact⟨hK,true,by simp⟩
 ·go_ret;exact⟨hK,false,by simp⟩
def EX (en:Bool) (s:Int):Prop:=(en=true->s=2)/\(en=false->s=0\/s=1)
theorem gH (K:KS) (pb:Nat) (p:PR) (h:AQ K w) (hT:K.DF) (hp:K.ps pb=some p) (hl:K.AJ.length<=100):
  CallsIn NF m prog 55 #[R_ pb] w fun e w'=>Ab No w w'/\∃s,e=.returned (.int .i64 s)/\EX p.en s:=by
 have q2:=h.FH hp 2;have q4:=h.FH hp 4;simp[PR.arr]at q2 q4;cases hn:p.en with
 | true=>
  rw[hn]at q2
  gi_enter func55,ntmps55
  gi_wp2
  go_ret
  exact⟨Ab.refl _ _,2,by simp,by simp[EX]⟩
 | false=>
  rw[hn]at q2
  rcases(h.ps pb p hp).bl with hb|⟨x,y,hb,hx,hy,tx,ty⟩|⟨g,hb,hg⟩
  ·rw[hb]at q4;have hq:=NB w;gi_enter func55,ntmps55;gi_wp2;refine⟨(fun f h=>by cases h),?_⟩;gi_wp2;go_ret;exact⟨Ab.refl _ _,0,by simp,by simp[EX]⟩
  ·rw[hb]at q4;simp only[ptr]at q4;have hq:=uZ w (x:=x) (y:=y);have dx:w.cell? (S_ x)=some (R_ K.kb):=bce hx rfl;have dy:w.cell? (S_ y)=some (R_ pb):=bce hy rfl;have c:=fun m=>pI m w K pb x y p h hT hp hl dx dy
   gi_enter func55,ntmps55;gi_wp2_with (gi_at_call 196;refine(c _).mono ?_;rintro e w1 ⟨hK,x,rfl⟩)
   all_goals go_ret
   ·exact⟨hK,1,by simp,by simp[EX]⟩
   ·exact⟨hK,0,by simp,by simp[EX]⟩
  ·simp only[ptr]at hb;rcases hb with hb|hb
   ·rw[hb]at q4;have hq:=uX w (x:=g);have c:=fun m=>SK m w K g h hg
    gi_enter func55,ntmps55;gi_wp2_with (gi_at_call 270;refine(c _).mono ?_;rintro e w1 ⟨hK,x,rfl⟩)
    all_goals go_ret
    ·exact⟨hK,1,by simp,by simp[EX]⟩
    ·exact⟨hK,0,by simp,by simp[EX]⟩
   ·rw[hb]at q4;have hq:=uY w (x:=g);have c:=fun m=>Tt m w K g h hg
    gi_enter func55,ntmps55;gi_wp2_with (gi_at_call 265;refine(c _).mono ?_;rintro e w1 ⟨hK,x,rfl⟩)
    all_goals go_ret
    ·exact⟨hK,1,by simp,by simp[EX]⟩
    ·exact⟨hK,0,by simp,by simp[EX]⟩
end
def Bw (T T':Tag) (w w':World):Prop:=Ct T T' (fun t=>t≠(0,0)) (fun _=>True) w w'
section
variable {T T' T'':Tag} {Q N:Nat×Nat->Prop} {w w' Jl:World} {K:KS} {b:Nat} {r r':PR}
theorem Ct.Qb (h:Ct T T' Q N w w') (hq:∀t,Q t->t≠(0,0)):Bw T T' w w':=h.weak hq fun _ _=>trivial
theorem Bw.trans (h:Bw T T' w w') (h':Bw T' T'' w' Jl):Bw T T'' w Jl:=Ct.trans h h'
theorem Bw.no (h:Ab No w w') (hl:∀b,w.heap.size<=b->T b=(0,0)):Bw T T w w':=Ct.no h hl
theorem Bw.then (h:Bw T T' w w') (h':Ab No w' Jl):Bw T T' w Jl:=h.trans (Bw.no h' h.lt)
theorem Bw.old (h:Bw T T' w w') {o:Obj} {g:Nat} (hg:w.heap[g]?=some o) (hb:T g=(0,0)):w'.heap[g]?=some o:=h.keep.old hg (by unfold On;rw[hb];simp)
structure PR.aj8 (r r':PR):Prop where
 en:r'.en=r.en
 im:r'.im=r.im
 fd:r'.fd=r.fd
 Ah:r'.Ah=r.Ah
 fds:r'.fds=r.fds
theorem l7.like {T:Tag} {kb:Nat} (h:l7 T w kb b r) (hL:r.aj8 r') {i:Nat} {v:Value} (ha:r.arr.setIfInBounds i v=r'.arr) (IZ:IU T w kb b r'.bl):l7 T (w.setCell (T_ b i) v) kb b r':=by
 have K1:Ab (On T fun t=>t=(6,b)) w (w.setCell (T_ b i) v):=(Ab.refl _ _).setCell _ fun _=>h.t
 refine⟨h.t,?_,fun e=>?_,fun e=>?_,IZ.keep K1 (by simp),fun e=>?_⟩
 ·rw[Aj h.o v];unfold PR.obj;rw[ha]
 ·obtain⟨g,c,a1,a2,a3⟩:=h.im (hL.en ▸ e);rw[hL.im,hL.Ah];exact⟨g,c,a1,a2.keep K1 (by unfold On;rw[a3];simp),a3⟩
 ·obtain⟨g,c,a1,a2,a3⟩:=h.fd (hL.en ▸ e);rw[hL.fd,hL.fds];exact⟨g,c,a1,a2.keep K1 (by unfold On;rw[a3];simp),a3⟩
 ·rw[hL.im,hL.fd,hL.Ah,hL.fds];exact h.no (hL.en ▸ e)
theorem AQ.like (h:AQ K w) (hb:K.ps b=some r) (hL:r.aj8 r') {i:Nat} {v:Value} (ha:r.arr.setIfInBounds i v=r'.arr) (IZ:IU K.T w K.kb b r'.bl):AQ { K with ps:=Cu K.ps b r' } (w.setCell (T_ b i) v):=by
 have hp:=h.ps b r hb;exact h.WJ (Ct.of ((Ab.refl _ _).setCell _ fun _=>.inl hp.t) h.lt) (hp.like hL ha IZ)
theorem AQ.C8 (h:AQ K w) (hb:K.ps b=some r) {i:Nat} {v:Value}:Bw K.T K.T w (w.setCell (T_ b i) v):=Ct.of ((Ab.refl _ _).setCell _ fun _=>by unfold On;rw[(h.ps b r hb).t];simp) h.lt
theorem AQ.hd (h:AQ K w):∃ks,KC K w ks/\Hd 186 w K.kb 0 114 ks K.cg K.cc K.core:=let ⟨ks,a,c⟩:=h.k;⟨ks,c,a,c.c0,h.mc,by decide⟩
theorem AQ.hds (h:AQ K w):∃ks,KC K w ks/\Hd 188 w K.kb 1 114 ks K.sg K.sc K.swap:=let ⟨ks,a,c⟩:=h.k;⟨ks,c,a,c.c1,h.ms,by decide⟩
end
def KS.Xj (K:KS) (l:List (W_)) (g c:Nat):KS:={ K with core:=l,cg:=g,cc:=c,T:=A8 K.T g (2,0) }
def KS.swap' (K:KS) (l:List (W_)) (g c:Nat):KS:={ K with swap:=l,sg:=g,sc:=c,T:=A8 K.T g (3,0) }
def KS.Cg (K:KS) (b:Nat) (r:PR):KS:={ K with ps:=Cu K.ps b r }
section
variable (m:Nat) (w:World)
theorem ao4 (K:KS) (a n N:Nat) (h:AQ K w) (hF:Fit N K.core) (hN:N<=10000) (hn:a+n<=N) (hl:K.core.length+1<=N):
  CallsIn NF m prog 91 #[R_ K.kb,.int .i64 (a:Nat),.int .i64 (n:Nat)] w fun e w'=>e=.returned (.tuple #[])/\∃g c,AQ (K.Xj (Cn K.core a n) g c) w'/\Bw K.T (A8 K.T g (2,0)) w w':=by
 obtain⟨ks,hc,hd⟩:=h.hd;refine(ao5 m w K.kb K.cg K.cc a n N 114 ks K.core hd hF hN hn hl).mono ?_;rintro e w' ⟨rfl,hK,g,c,Ih,hg⟩;have M:Ct K.T (A8 K.T g (2,0)) (fun t=>t=(1,0)\/t=(2,0)) (fun t=>t=(2,0)) w w':=Ct.row (hK.on (by rintro k _ (rfl|rfl);exact .inl h.tk;exact .inr h.tc)) h.lt (hg.imp (fun e=>by rw[e];exact h.tc) id) (Rw.lt Ih.mp) rfl;exact⟨rfl,g,c,h.gM M hc Ih.k Ih.mp BB,M.Qb (by rintro t (rfl|rfl)<;>simp)⟩
theorem xP (K:KS) (n N:Nat) (h:AQ K w) (hF:Fit N K.core) (hN:N<=10000) (hn:n<=10000):
  CallsIn NF m prog 92 #[R_ K.kb,.int .i64 (n:Nat)] w fun e w'=>e=.returned (J6 (Aw K.core n).1)/\AQ { K with core:=(Aw K.core n).2 } w'/\Bw K.T K.T w w'/\Ab (TM K.kb K.cg) w w':=by
 obtain⟨ks,hc,hd⟩:=h.hd;refine(takeC m w K.kb K.cg K.cc n N 114 ks K.core hd hF hN hn).mono ?_;rintro e w' ⟨rfl,hK,hk,hm⟩;have M:Ct K.T K.T (fun t=>t=(1,0)\/t=(2,0)) (fun t=>t=(2,0)) w w':=Ct.of (hK.on (by rintro k _ (rfl|rfl);exact .inl h.tk;exact .inr h.tc)) h.lt;exact⟨rfl,h.gM M hc hk hm h.tc,M.Qb (by rintro t (rfl|rfl)<;>simp),hK⟩
theorem oL (K:KS) (a n N:Nat) (h:AQ K w) (hF:Fit N K.swap) (hN:N<=10000) (hn:a+n<=N) (hl:K.swap.length+1<=N):
  CallsIn NF m prog 156 #[.pointer (some (T_ K.kb 1)),.int .i64 (a:Nat),.int .i64 (n:Nat)] w fun e w'=>e=.returned (.tuple #[])/\∃g c,AQ (K.swap' (Cn K.swap a n) g c) w'/\Bw K.T (A8 K.T g (3,0)) w w':=by
 obtain⟨ks,hc,hd⟩:=h.hds;refine(ao3 m w K.kb K.sg K.sc a n N 114 ks K.swap hd hF hN hn hl).mono ?_;rintro e w' ⟨rfl,hK,g,c,Ih,hg⟩;have M:Ct K.T (A8 K.T g (3,0)) (fun t=>t=(1,0)\/t=(3,0)) (fun t=>t=(3,0)) w w':=Ct.row (hK.on (by rintro k _ (rfl|rfl);exact .inl h.tk;exact .inr h.ts)) h.lt (hg.imp (fun e=>by rw[e];exact h.ts) id) (Rw.lt Ih.mp) rfl;exact⟨rfl,g,c,h.gJ M hc Ih.k Ih.mp BB,M.Qb (by rintro t (rfl|rfl)<;>simp)⟩
theorem ow (K:KS) (n N:Nat) (h:AQ K w) (hF:Fit N K.swap) (hN:N<=10000) (hn:n<=10000):
  CallsIn NF m prog 89 #[.pointer (some (T_ K.kb 1)),.int .i64 (n:Nat)] w fun e w'=>e=.returned (J6 (Aw K.swap n).1)/\AQ { K with swap:=(Aw K.swap n).2 } w'/\Bw K.T K.T w w'/\Ab (TM K.kb K.sg) w w':=by
 obtain⟨ks,hc,hd⟩:=h.hds;refine(xO m w K.kb K.sg K.sc n N 114 ks K.swap hd hF hN hn).mono ?_;rintro e w' ⟨rfl,hK,hk,hm⟩;have M:Ct K.T K.T (fun t=>t=(1,0)\/t=(3,0)) (fun t=>t=(3,0)) w w':=Ct.of (hK.on (by rintro k _ (rfl|rfl);exact .inl h.tk;exact .inr h.ts)) h.lt;exact⟨rfl,h.gJ M hc hk hm h.ts,M.Qb (by rintro t (rfl|rfl)<;>simp),hK⟩
theorem AQ.im8 {K:KS} {w:World} {b:Nat} {r:PR} (h:AQ K w) (hb:K.ps b=some r):∃a c,w.cell? (T_ b 8)=some (.slice a r.Ah.length c):=by
 have q:=h.FH hb 8;cases hn:r.en with
 | true=>
  obtain⟨h1,_,h3,_⟩:=(h.ps b r hb).no hn
  exact⟨none,0,by rw[q,h3];simp[PR.arr,h1]⟩
 | false=>
  obtain⟨g,c,h1,_⟩:=(h.ps b r hb).im hn
  exact⟨some (S_ g),c,by rw[q];simp[PR.arr,h1]⟩
theorem bJ (K:KS) (b:Nat) (r:PR) (h:AQ K w) (hb:K.ps b=some r) (GA:r.co=-1):
  CallsIn NF m prog 52 #[R_ K.kb,R_ b] w fun e w'=>e=.returned (.tuple #[])/\Ab No w w':=by
 have q:=h.FH hb 11;simp[PR.arr,GA]at q;gi_enter func52,ntmps52;gi_wp2;refine bodyPost_ret (results_none rfl _ _ _) rfl ?_;exact⟨by simp,Ab.refl _ _⟩
theorem Yt (K:KS) (b a N:Nat) (r:PR) (h:AQ K w) (hb:K.ps b=some r) (GA:r.co=a) (hF:Fit N K.core) (hN:N<=10000) (hn:a+Ap r.Ah.length<=N) (hl:K.core.length+1<=N) (hL:r.Ah.length<1000):
  CallsIn NF m prog 52 #[R_ K.kb,R_ b] w fun e w'=>e=.returned (.tuple #[])/\∃g c,AQ ((K.Xj (Cn K.core a (Ap r.Ah.length)) g c).Cg b { r with co:=-1 }) w'/\Bw K.T (A8 K.T g (2,0)) w w':=by
 have q:=h.FH hb 11;simp[PR.arr,GA]at q;obtain⟨a8,c8,q8⟩:=h.im8 hb;have BN:((a:Int)==-1)=false:=by simp
 gi_enter func52,ntmps52;gi_wp2;refine AA (P:=prog) No _ rfl rfl (by kernel_rfl) 9 22 [0,1,2,3,4,5,6,7,8] [] (by kernel_rfl) (by rfl) (fun _ _ _=>True) (fun _ _ _ _ _ h _=>h) _ _ rfl rfl ?_;gi_wp2_with (gi_at_call 58;refine(El _ w.drew b _ _ _ q8 (by omega)).mono ?_;rintro e w1 ⟨rfl,rfl⟩);refine⟨rfl,by kernel_rfl,?_,(fun i hi=>absurd hi (by simp)),?_⟩
 ·intro W hK;have d11:=hK.has (w:=w.drew) q;have d8:=hK.has (w:=w.drew) q8
  repeat' (refine Ao ?_ ?_)
  all_goals first|exact trivial|gi_wp2_with (gi_at_call 58;refine(El _ W b _ _ _ d8 (by omega)).mono ?_;rintro e w1 ⟨rfl,rfl⟩)
 ·intro u W hK _;simp only[C9];have KW:Ab No w W:=(Ab.refl No w).drew.then hK;have hW:=h.no KW;gi_wp2_with fail;refine(ao4 _ W K a (Ap r.Ah.length) N hW hF hN hn hl).mono ?_;rintro e w2 ⟨rfl,g,c,h2,M2⟩;have c11:=h2.FH hb 11;simp[PR.arr,GA]at c11;have f11:=h2.WA hb 11;gi_wp2;go_end0;exact⟨by simp,g,c,h2.like (r':={ r with co:=-1 }) hb ⟨rfl,rfl,rfl,rfl,rfl⟩ rfl (h2.ps b r hb).bl,((Bw.no KW h.lt).trans M2).trans (h2.C8 hb)⟩
end
def CS (f:Nat->Nat):List Nat->Nat
 | []=>0
 | b::l=>f b+CS f l
theorem CV {f g:Nat->Nat}:∀{l:List Nat},(∀b∈l,f b=g b)->CS f l=CS g l
 | [],_=>rfl
 | b::l,h=>by simp only[CS];rw[h b (by simp),CV fun x hx=>h x (by simp[hx])]
theorem JN {f g:Nat->Nat} {b:Nat}:∀{l:List Nat},l.Nodup->b∈l->(∀k,k≠b->f k=g k)->CS f l+g b=CS g l+f b
 | [],_,h,_=>by simp at h
 | k::l,hN,h,he=>by
  obtain⟨h1,h2⟩:=List.nodup_cons.1 hN
  simp only[CS]
  by_cases e:k=b
  ·subst e;rw[CV (f:=f) (g:=g) fun x hx=>he x (by rintro rfl;exact h1 hx)];omega
  ·have h3:b∈l:=(by simpa [Ne.symm e]using h);have:=JN h2 h3 he;rw[he k e];omega
theorem Ng {f:Nat->Nat} {b:Nat}:∀{l:List Nat},b∈l->f b<=CS f l
 | [],h=>by simp at h
 | k::l,h=>by
  simp only[CS]
  rcases List.mem_cons.1 h with rfl|h
  ·omega
  ·have:=Ng (f:=f) h;omega
theorem Xr {f:Nat->Nat}:∀{l k:List Nat},CS f (l++k)=CS f l+CS f k
 | [],k=>by simp[CS]
 | b::l,k=>by simp only[List.cons_append,CS,Xr (l:=l)];omega
def Mf (ps:Nat->Option PR) (b:Nat):Nat:=match ps b with|some r=>if r.co=-1 then 0 else Ap r.Ah.length|none=>0
def Vk (ps:Nat->Option PR) (b:Nat):Nat:=match ps b with|some r=>Ap r.Ah.length|none=>0
theorem DV {ps:Nat->Option PR} {b:Nat} {r:PR} (h:ps b=some r):Mf ps b=if r.co=-1 then 0 else Ap r.Ah.length:=by unfold Mf;rw[h]
structure Cc (N x:Nat) (K:KS):Prop where
 le:N<=1000
 so:Sound N K.core
 sum:Dw K.core+CS (Mf K.ps) K.AJ+x=N
 pl:∀b r,K.ps b=some r->r.Ah.length<=128/\(r.co=-1\/∃a:Nat,r.co=a/\a+Ap r.Ah.length<=N/\1<=Ap r.Ah.length)
theorem Cc.fit {N x:Nat} {K:KS} (h:Cc N x K):Fit N K.core:=h.so.fit (by have:=h.sum;omega)
structure Ci (K K':KS):Prop where
 eq:K'={ K with core:=K'.core,cg:=K'.cg,cc:=K'.cc,T:=K'.T,ps:=K'.ps }
 ps:∃f:Nat->Int,∀b,K'.ps b=(K.ps b).map fun r=>{ r with co:=f b }
theorem Ci.refl (K:KS):Ci K K:=⟨rfl,fun b=>match K.ps b with|some r=>r.co|none=>0,fun b=>by cases h:K.ps b<;>simp[h]⟩
theorem Ci.trans {K K' K'':KS} (h:Ci K K') (h':Ci K' K''):Ci K K'':=by
 obtain⟨e1,f,p1⟩:=h;obtain⟨e2,g,p2⟩:=h';refine⟨?_,g,fun b=>?_⟩
 ·rw[e2,e1]
 ·rw[p2,p1];cases K.ps b<;>rfl
theorem Ci.take {K:KS} {l:List (W_)}:Ci K { K with core:=l }:=⟨rfl,(Ci.refl K).ps⟩
theorem Ci.AJ {K K':KS} (h:Ci K K'):K'.AJ=K.AJ:=by rw[h.eq]
theorem Ci.kb {K K':KS} (h:Ci K K'):K'.kb=K.kb:=by rw[h.eq]
theorem Ci.there {K K':KS} (h:Ci K K') (hT:K.DF):K'.DF:=by
 intro b hb;rw[h.AJ]at hb;obtain⟨r,hr⟩:=hT b hb;obtain⟨f,hf⟩:=h.ps;exact⟨_,by rw[hf,hr];rfl⟩
theorem Ci.set {K:KS} {b:Nat} {r:PR} (hb:K.ps b=some r) (c:Int):Ci K (K.Cg b { r with co:=c }):=by
 refine⟨rfl,fun k=>if k=b then c else match K.ps k with|some r=>r.co|none=>0,fun k=>?_⟩;show Cu K.ps b _ k=_;by_cases e:k=b
 ·subst e;rw[Al,hb];simp
 ·rw[BI e];cases h:K.ps k<;>simp[e,h]
theorem Cc.out {N x a b g c:Nat} {K:KS} {r:PR} (h:Cc N x K) (hb:K.ps b=some r) (hm:b∈K.AJ) (hN:K.AJ.Nodup) (GA:r.co=a):a+Ap r.Ah.length<=N/\K.core.length+1<=N/\Cc N x ((K.Xj (Cn K.core a (Ap r.Ah.length)) g c).Cg b { r with co:=-1 }):=by
 obtain⟨p1,p2⟩:=h.pl b r hb;obtain⟨a',e1,e2,e3⟩:=p2.resolve_left (by rw[GA];omega);obtain rfl:a=a':=by omega
 have hi:Mf K.ps b=Ap r.Ah.length:=by rw[DV hb,if_neg (by rw[GA];omega)]
 have hle:=Ng (f:=Mf K.ps) hm;have hs:=h.sum;have hl:=h.so.len;have gs:=MU h.so e3 e2;refine⟨e2,by omega,h.le,gs.1,?_,fun k q hk=>?_⟩
 ·show Dw (Cn K.core a (Ap r.Ah.length))+CS (Mf (Cu K.ps b _)) K.AJ+x=N;have:=JN (f:=Mf (Cu K.ps b { r with co:=-1 })) (g:=Mf K.ps) hN hm fun k hk=>by unfold Mf;rw[BI hk]
  have h0:Mf (Cu K.ps b { r with co:=-1 }) b=0:=by rw[DV Al];simp
  rw[gs.2];omega
 ·have hk:Cu K.ps b _ k=some q:=hk;by_cases e:k=b
  ·subst e;rw[Al]at hk;cases hk;exact⟨p1,.inl rfl⟩
  ·rw[BI e]at hk;exact h.pl k q hk
theorem Cc.in {N n a b:Nat} {K:KS} {r:PR} (h:Cc N n K) (hb:K.ps b=some r) (hm:b∈K.AJ) (hN:K.AJ.Nodup) (GA:r.co=-1) (hn:n=Ap r.Ah.length) (hn1:1<=n) (ha:a+n<=N):Cc N 0 (K.Cg b { r with co:=a }):=by
 have hi:Mf K.ps b=0:=by rw[DV hb,if_pos GA]
 have hs:=h.sum;refine⟨h.le,h.so,?_,fun k q hk=>?_⟩
 ·show Dw K.core+CS (Mf (Cu K.ps b _)) K.AJ+0=N;have:=JN (f:=Mf (Cu K.ps b { r with co:=a })) (g:=Mf K.ps) hN hm fun k hk=>by unfold Mf;rw[BI hk]
  have h0:Mf (Cu K.ps b { r with co:=a }) b=n:=by rw[DV Al,hn];exact if_neg (by simp)
  omega
 ·have hk:Cu K.ps b _ k=some q:=hk;by_cases e:k=b
  ·subst e;rw[Al]at hk;cases hk;exact⟨(h.pl _ _ hb).1,.inr ⟨a,rfl,by simp only;omega,by simp only;omega⟩⟩
  ·rw[BI e]at hk;exact h.pl k q hk
theorem Cc.take {N n:Nat} {K:KS} (h:Cc N 0 K):((Aw K.core n).1=none->Cc N 0 { K with core:=(Aw K.core n).2 })/\∀a,(Aw K.core n).1=some a->Cc N n { K with core:=(Aw K.core n).2 }/\a+n<=N/\1<=n:=by
 obtain⟨t1,t2,t3⟩:=IC (n:=n) h.so;have hs:=h.sum;refine⟨fun e=>?_,fun a e=>?_⟩
 ·rw[t2 e];exact h
 ·obtain⟨s1,s2,s3⟩:=t3 a e;exact⟨⟨h.le,t1,by show Dw (Aw K.core n).2+CS (Mf K.ps) K.AJ+n=N;omega,h.pl⟩,s2,s3⟩
section
variable (m:Nat) (w:World)
theorem Nr (K:KS) (b N x:Nat) (r:PR) (h:AQ K w) (hb:K.ps b=some r) (hm:b∈K.AJ) (hN:K.AJ.Nodup) (hC:Cc N x K):
  CallsIn NF m prog 52 #[R_ K.kb,R_ b] w fun e w'=>e=.returned (.tuple #[])/\∃K',AQ K' w'/\Ci K K'/\Cc N x K'/\Bw K.T K'.T w w'/\K'.ps b=some { r with co:=-1 }/\∀k q,K.ps k=some q->q.co=-1->K'.ps k=some q:=by
 obtain⟨p1,p2⟩:=hC.pl b r hb;by_cases GA:r.co=-1
 ·refine(bJ m w K b r h hb GA).mono ?_;rintro e w' ⟨rfl,hK⟩;exact⟨rfl,K,h.no hK,Ci.refl K,hC,Bw.no hK h.lt,by rw[hb,<-GA],fun _ _ h _=>h⟩
 ·obtain⟨a,e1,e2,e3⟩:=p2.resolve_left GA;have hle:=hC.le;have ho:=fun g c=>hC.out (g:=g) (c:=c) hb hm hN e1
  refine(Yt m w K b a N r h hb e1 hC.fit (by omega) (ho 0 0).1 (ho 0 0).2.1 (by omega)).mono ?_;rintro e w' ⟨rfl,g,c,h',M⟩;refine⟨rfl,_,h',?_,(ho g c).2.2,M,Al,fun k q hk hq=>?_⟩
  ·exact Ci.trans (K':=K.Xj (Cn K.core a (Ap r.Ah.length)) g c) ⟨rfl,(Ci.refl K).ps⟩ (Ci.set (K:=K.Xj (Cn K.core a (Ap r.Ah.length)) g c) hb (-1))
  ·have:k≠b:=(by rintro rfl;rw[hb]at hk;cases hk;exact GA hq);exact(BI this).trans hk
end
end Go.Fxa
