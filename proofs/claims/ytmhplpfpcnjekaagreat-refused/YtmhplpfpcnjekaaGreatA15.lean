/- A kernel of many -/
import Derived.Test.YtmhplpfpcnjekaaGreatA14
namespace Go.Fxa
open Conc Proofs RowKit Proofs.Tryz
set_option maxRecDepth 1000000
set_option maxHeartbeats 0
variable {w:o_}{b n g k c i kb x:Nat}{nm:Nat->d_ Nat}{nl ws l:List Nat}{S:Nat->Prop}{ks ks':X_}{t:Nat×Nat}{o:d_ Nat}{p:Nat->Bool}{v:n_}
def Yp (p:Prop):Prop:=p
theorem Yp.out {p:Prop}(h:Yp p):p:=h
def ptr (b:Nat):n_:=Q_ b
def Aw (l:List Nat):U_:=l.map λx:Nat=>a_ (x:Int)
def FW (l:List Int):U_:=l.map λx=>b_ x
def Ce (l:List Nat):U_:=l.map ptr
structure PR where
 (pid par st A B P sw:Nat)
 en:Bool
 co:Int
 (bl im fd:n_)
 Af:List Nat
 fds:List Int
def PR.arr (r:PR):X_:=#[b_ r.pid,b_ r.par,.bool r.en,a_ r.st,r.bl,a_ r.A,a_ r.B,a_ r.P,r.im,r.fd,b_ r.sw,b_ r.co]
def PR.obj (r:PR):Obj:=.cells r.arr 128 (0,0)
def BP (f:Nat->Nat):List Nat->Nat
 |[]=>0
 |b::l=>f b+BP f l
theorem BU {f g:Nat->Nat}:∀{l:List Nat},(∀b∈l,f b=g b)->BP f l=BP g l
 |[],_=>rfl
 |b::l,h=>by simp only[BP];rw[h b sJ,BU λx a=>h x (by simp[a])]
theorem JG {f g:Nat->Nat}{b:Nat}:∀{l:List Nat},l.Nodup->b∈l->(∀k,k≠b->f k=g k)->BP f l+g b=BP g l+f b
 |[],_,h,_=>by simp at h
 |k::l,hN,h,a=>by
  obtain⟨c,d⟩:=List.nodup_cons.1 hN
  simp only[BP]
  by_cases e:k=b
  .subst e;rw[BU (f:=f) (g:=g) λx j=>a x (by rintro rfl;exact c j)];omega
  .have i:b∈l:=(by simpa [gJ e]using h);have:=JG d i a;rw[a k e];omega
theorem Oo {f:Nat->Nat}{b:Nat}:∀{l:List Nat},b∈l->f b<=BP f l
 |[],h=>by simp at h
 |k::l,h=>by
  simp only[BP]
  obtain rfl|h:=r_.1 h
  .omega
  .have:=Oo (f:=f) h;omega
theorem QV {f:Nat->Nat}:∀{l k:List Nat},BP f (l++k)=BP f l+BP f k
 |[],k=>by simp[BP]
 |b::l,k=>by simp only[List.cons_append,BP,QV (l:=l)];omega
abbrev Tag:=Nat->Nat×Nat
def MC (T:Tag)(w:o_)(kb b:Nat)(v:n_):Prop:=
 v=.nilFunc\/
 (∃x y,v=.func (.func 196) #[] #[ptr x,ptr y]/\w.heap[x]?=some (N_ #[ptr kb] 33)/\w.heap[y]?=some (N_ #[ptr b] 119)/\T x=(9,b)/\T y=(9,b))\/
 (∃p,(v=.func (.func 270) #[ptr p] #[]\/v=.func (.func 265) #[ptr p] #[])/\T p=(11,0))
structure PAt (T:Tag)(w:o_)(kb b:Nat)(r:PR):Prop where
 t:T b=(6,b)
 o:w.heap[b]?=some r.obj
 im:r.en=false->∃g c,r.im=P_ g r.Af.length c/\Rw 123 1 w g r.Af.length c (Aw r.Af)/\T g=(7,b)
 fd:r.en=false->∃g c,r.fd=P_ g r.fds.length c/\Rw 3 1 w g r.fds.length c (FW r.fds)/\T g=(8,b)
 bl:MC T w kb b r.bl
 no:r.en=true->r.im=.slice none 0 0/\r.fd=.slice none 0 0/\r.Af=[]/\r.fds=[]
structure Ct where
 ws:List Nat
 (x y:Bool)
 n:Nat
def Tf (T:Tag)(w:o_)(b M:Nat)(v:n_)(ws:List Nat):Prop:=(v=.slice none 0 0/\ws=[])\/∃g c,v=P_ g ws.length c/\Rw 123 1 w g ws.length c (Aw ws)/\ws.length<=M/\(∀x∈ws,x<65536)/\T g=(15,b)
def Pq (T:Tag)(v:n_)(o:d_ Nat):Prop:=∃b,(v=.iface 337 (ptr b)/\∃f,T b=(12,f)/\o=some f)\/(v=.iface 330 (ptr b)/\T b=(13,0)/\o=none)\/(v=.iface 334 (ptr b)/\T b=(14,0)/\o=none)
structure cO (T:Tag)(op:Nat->Nat)(ct:Nat->Ct)(w:o_)(kb:Nat):Prop where
 file:∀b,T b=(10,0)->∃v,w.heap[b]?=some (N_ #[v,b_ (op b)] 191)/\Tf T w b 64 v (ct b).ws
 pipe:∀b,T b=(11,0)->∃v,w.heap[b]?=some (N_ #[v,.bool (ct b).x,.bool (ct b).y] 329)/\Tf T w b 16 v (ct b).ws
 GU:∀b f,T b=(12,f)->w.heap[b]?=some (N_ #[.pointer (some (S_ kb 4)),ptr f,b_ ((ct b).n:Nat)] 339)/\T f=(10,0)/\(ct b).n<=64
 rend:∀b,T b=(13,0)->w.heap[b]?=some (N_ #[ptr (ct b).n] 333)/\T (ct b).n=(11,0)
 UD:∀b,T b=(14,0)->w.heap[b]?=some (N_ #[ptr (ct b).n] 335)/\T (ct b).n=(11,0)
structure KS where
 (kb cg cc sg sc pg pc BG:Nat)
 (core swap:List (W_))
 (Ar nl:List Nat)
 (desc op:Nat->Nat)
 (nm ef:Nat->d_ Nat)
 ps:Nat->d_ PR
 T:Tag
 ct:Nat->Ct
 tv:Nat->n_
def ϊ (T:Tag)(w:o_)(l:List Nat)(v:n_):Prop:=((v=.slice none 0 0/\l=[])\/∃g c,v=P_ g l.length c/\Rw 101 1 w g l.length c (Ce l)/\T g=(5,0))/\∀b∈l,T b=(10,0)
def VJ:d_ Nat->n_
 |none=>.pointer none
 |some b=>ptr b
def JS (w:o_)(b n:Nat):Prop:=∃a c o,w.heap[b]?=some (N_ #[.slice a n c,o] 191)
theorem JS.eq {m:Nat}(h:JS w b n)(j:JS w b m):n=m:=by
 obtain⟨a,c,o,e⟩:=h;obtain⟨f,g,i,d⟩:=j;rw[e]at d;simp at d;exact d.1.2.1
def PO (ln:Nat->Nat)(nm:Nat->d_ Nat)(i:Nat):Nat:=match nm i with|some f=>Aj (ln f)|none=>0
def Nv (ln:Nat->Nat)(nm:Nat->d_ Nat)(nl:List Nat):Nat:=BP (PO ln nm) (List.range 16)+BP (λb=>Aj (ln b)) nl
def XW (T:Tag)(nm:Nat->d_ Nat)(nl:List Nat)(w:o_):Prop:=∃ln:Nat->Nat,(∀b,T b=(10,0)->JS w b (ln b))/\Nv ln nm nl<=40
theorem XW.to {T T':Tag}{w':o_}(h:XW T nm nl w)(f:∀b n,T' b=(10,0)->T b=(10,0)/\(JS w b n->JS w' b n)):XW T' nm nl w':=by
 obtain⟨d,a,c⟩:=h;exact⟨d,λb e=>(f b _ e).2 (a b (f b 0 e).1),c⟩
theorem XW.sub {T:Tag}{e:Nat->d_ Nat}{d:List Nat}(h:XW T nm nl w)(f:∀a:Nat->Nat,(∀b,T b=(10,0)->JS w b (a b))->Nv a e d<=Nv a nm nl):XW T e d w:=let ⟨a,h1,h2⟩:=h;⟨a,h1,lN (f a h1) h2⟩
theorem NW {f:Nat->Nat}{p:Nat->Bool}:∀{l:List Nat},BP f (l.filter p)<=BP f l
 |[]=>w_
 |b::l=>by
  have a:=NW (f:=f) (p:=p) (l:=l)
  cases hb:p b with
  |true=>rw[List.filter_cons_of_pos hb];simp only[BP];omega
  |false=>rw[List.filter_cons_of_neg (by simp[hb])];simp only[BP];omega
structure KC (K:KS)(w:o_)(ks:X_):Prop where
 c0:ks[0]?=some (P_ K.cg K.core.length K.cc)
 c1:ks[1]?=some (P_ K.sg K.swap.length K.sc)
 c2:ks[2]?=some (P_ K.pg K.Ar.length K.pc)
 c3:ks[3]?=some (b_ K.BG)
 nm:∀i,i<16->ks[4+i]?=some (VJ (K.nm i))/\∀b,K.nm i=some b->K.T b=(10,0)
 nl:∃v,ks[20]?=some v/\ϊ K.T w K.nl v
 en:∀i,i<20->ks[21+i*2]?=some (K.tv i)/\ks[21+i*2+1]?=some (b_ (K.desc i))/\(K.tv i).oneCell'=true/\(0<K.desc i->Pq K.T (K.tv i) (K.ef i))
structure AY (K:KS)(w:o_):Prop where
 k:∃ks,w.heap[K.kb]?=some (N_ ks 114)/\KC K w ks
 mc:Mp 186 w K.cg K.cc K.core
 ms:Mp 188 w K.sg K.sc K.swap
 pr:Rw 119 1 w K.pg K.Ar.length K.pc (Ce K.Ar)
 ps:∀b r,K.ps b=some r->PAt K.T w K.kb b r
 fl:cO K.T K.op K.ct w K.kb
 tk:K.T K.kb=(1,0)
 tc:K.T K.cg=(2,0)
 ts:K.T K.sg=(3,0)
 tp:K.T K.pg=(4,0)
 lt:∀b,w.heap.size<=b->K.T b=(0,0)
 dk:XW K.T K.nm K.nl w
def On (T:Tag)(Q:Nat×Nat->Prop):Nat->Prop:=λk=>Q (T k)
section
variable {T:Tag}{w w':o_}{kb b:Nat}{r:PR}{v:n_}{Q:Nat×Nat->Prop}{K:KS}
theorem MC.keep (h:MC T w kb b v)(m:Aa (On T Q) w w')(j:¬Q (9,b)):MC T w' kb b v:=by
 obtain h|⟨x,y,d,e,f,a,c⟩|h:=h
 .exact .inl h
 .exact .inr (.inl ⟨x,y,d,m.old e (by unfold On;rw[a];exact j),m.old f (by unfold On;rw[c];exact j),a,c⟩)
 .exact .inr (.inr h)
theorem PAt.keep (h:PAt T w kb b r)(d:Aa (On T Q) w w')(f:¬Q (6,b))(j:¬Q (7,b))(m:¬Q (8,b))(q:¬Q (9,b)):PAt T w' kb b r:=by
 refine⟨h.t,d.old h.o (by unfold On;rw[h.t];exact f),λe=>?_,λe=>?_,h.bl.keep d q,h.no⟩
 .obtain⟨g,c,a1,a2,a⟩:=h.im e;exact⟨g,c,a1,a2.keep d (by unfold On;rw[a];exact j),a⟩
 .obtain⟨g,c,a1,a2,a⟩:=h.fd e;exact⟨g,c,a1,a2.keep d (by unfold On;rw[a];exact m),a⟩
theorem Tf.keep {M:Nat}(h:Tf T w b M v ws)(f:Aa (On T Q) w w')(hq:¬Q (15,b)):Tf T w' b M v ws:=by
 obtain h|⟨g,c,a1,a2,d,e,a⟩:=h
 .exact .inl h
 .exact .inr ⟨g,c,a1,a2.keep f (by unfold On;rw[a];exact hq),d,e,a⟩
theorem cO.keep {op:Nat->Nat}{ct:Nat->Ct}(h:cO T op ct w kb)(a:Aa (On T Q) w w')(hq:∀c,¬Q (15,c))(d:¬Q (10,0))(f:¬Q (11,0))(j:∀c,¬Q (12,c))(m:¬Q (13,0))(q:¬Q (14,0)):cO T op ct w' kb:=by
 refine⟨λb e=>?_,λb e=>?_,λb c e=>?_,λb e=>?_,λb e=>?_⟩
 .obtain⟨x,a1,a2⟩:=h.file b e;exact⟨x,a.old a1 (by unfold On;rw[e];exact d),a2.keep a (hq b)⟩
 .obtain⟨x,a1,a2⟩:=h.pipe b e;exact⟨x,a.old a1 (by unfold On;rw[e];exact f),a2.keep a (hq b)⟩
 .obtain⟨a1,a2⟩:=h.GU b c e;exact⟨a.old a1 (by unfold On;rw[e];exact j c),a2⟩
 .obtain⟨a1,a2⟩:=h.rend b e;exact⟨a.old a1 (by unfold On;rw[e];exact m),a2⟩
 .obtain⟨a1,a2⟩:=h.UD b e;exact⟨a.old a1 (by unfold On;rw[e];exact q),a2⟩
theorem JS.keep (h:JS w b n)(d:Aa S w w')(hb:¬S b):JS w' b n:=let ⟨a,c,o,e⟩:=h;⟨a,c,o,d.old e hb⟩
theorem XW.keep (h:XW T nm nl w)(f:Aa (On T Q) w w')(d:¬Q (10,0)):XW T nm nl w':=h.to λb n e=>⟨e,λa=>a.keep f (by unfold On;rw[e];exact d)⟩
theorem ϊ.keep (h:ϊ T w l v)(e:Aa (On T Q) w w')(d:¬Q (5,0)):ϊ T w' l v:=by
 obtain⟨h|⟨g,c,a1,a2,a⟩,b⟩:=h
 .exact⟨.inl h,b⟩
 .exact⟨.inr ⟨g,c,a1,a2.keep e (by unfold On;rw[a];exact d),a⟩,b⟩
theorem KC.keep (h:KC K w ks)(e:Aa (On K.T Q) w w')(d:¬Q (5,0)):KC K w' ks:=⟨h.c0,h.c1,h.c2,h.c3,h.nm,let ⟨v,a,b⟩:=h.nl;⟨v,a,b.keep e d⟩,h.en⟩
theorem AY.keep (h:AY K w)(q:Aa (On K.T λt=>t=(0,0)) w w')(s:∀b,w'.heap.size<=b->K.T b=(0,0)):AY K w':=by
 obtain⟨⟨l,j,k⟩,m,n,pr,o,i,c,a,f,d,lt,g⟩:=h;refine⟨⟨l,q.old j (by unfold On;rw[c];simp),k.keep q sJ⟩,Rw.keep m q (by unfold On;rw[a];simp),Rw.keep n q (by unfold On;rw[f];simp),Rw.keep pr q (by unfold On;rw[d];simp),λb r e=>(o b r e).keep q sJ sJ sJ sJ,i.keep q sJ sJ sJ sJ sJ sJ,c,a,f,d,s,g.keep q sJ⟩
theorem AY.no (h:AY K w)(a:Aa No w w'):AY K w':=h.keep a.no λb hb=>h.lt b (lN a.size hb)
end
structure CG (T T':Tag)(Q N:Nat×Nat->Prop)(w w':o_):Prop where
 keep:Aa (On T Q) w w'
 old:∀b,T b≠(0,0)->T' b=T b
 new:∀b,T b=(0,0)->T' b≠(0,0)->N (T' b)
 lt:∀b,w'.heap.size<=b->T' b=(0,0)
 fresh:∀b,b<w.heap.size->T' b=T b
def Bi (T:Tag)(g:Nat)(t:W_):Tag:=λb=>if b=g then t else T b
def CY (f:Nat->d_ PR)(b:Nat)(r:PR):Nat->d_ PR:=λk=>if k=b then some r else f k
theorem A7 {T:Tag}:Bi T g t g=t:=rW rfl
theorem AV {T:Tag}(h:b≠g):Bi T g t b=T b:=ru h
theorem Ag {f:Nat->d_ PR}{r:PR}:CY f b r b=some r:=rW rfl
theorem BB {f:Nat->d_ PR}{r:PR}(h:k≠b):CY f b r k=f k:=ru h
section
variable {T T' T'':Tag}{Q Q' N N' R:Nat×Nat->Prop}{w w' PN:o_}{kb b g:Nat}{r:PR}{v:n_}{K:KS}
theorem Aa.on (h:Aa S w w')(d:∀k,k<w.heap.size->S k->Q (T k)):Aa (On T Q) w w':=⟨h.os,h.output,h.size,λk a b=>h.block k a λe=>b (d k a e)⟩
theorem CG.of (h:Aa (On T Q) w w')(d:∀b,w.heap.size<=b->T b=(0,0)):CG T T Q N w w':=⟨h,λ_ _=>rfl,λ_ a c=>qx a c,λb hb=>d b (lN h.size hb),λ_ _=>rfl⟩
theorem CG.no (h:Aa No w w')(a:∀b,w.heap.size<=b->T b=(0,0)):CG T T Q N w w':=CG.of h.no a
theorem CG.row (h:Aa (On T Q) w w')(j:∀b,w.heap.size<=b->T b=(0,0))(f:T g=t\/w.heap.size<=g)(m:g<w'.heap.size)(hN:N t):CG T (Bi T g t) Q N w w':=by
 have c:T g=t\/T g=(0,0):=f.imp id (j g);refine⟨h,λb hb=>?_,λb d a=>?_,λb hb=>?_,λb hb=>?_⟩
 .by_cases e:b=g
  .subst e;rw[A7];exact((c.resolve_right hb)).symm
  .exact AV e
 .by_cases e:b=g
  .subst e;rw[A7];exact hN
  .rw[AV e]at a;exact qx d a
 .rw[AV wB];exact j b (lN h.size hb)
 .by_cases e:b=g
  .subst e;rw[A7];exact((f.resolve_right wB)).symm
  .exact AV e
theorem CG.PT (h:CG T T' Q N w w')(d:∀t,Q t->Q' t)(f:∀t,N t->N' t):CG T T' Q' N' w w':=⟨h.keep.on λ_ _ e=>d _ e,h.old,λb a c=>f _ (h.new b a c),h.lt,h.fresh⟩
theorem CG.trans (h:CG T T' Q N w w')(f:CG T' T'' Q N w' PN):CG T T'' Q N w PN:=by
 refine⟨h.keep.trans f.keep λk d e=>?_,λb hb=>?_,λb a c=>?_,f.lt,λb hb=>?_⟩
 .have:=h.fresh k d;unfold On at*;rw[<-this];exact e
 .have:=h.old b hb;rw[f.old b (by rw[this];exact hb),this]
 .by_cases e:T' b=(0,0)
  .exact f.new b e c
  .rw[f.old b e];exact h.new b a e
 .rw[f.fresh b (Nat.lt_of_lt_of_le hb h.keep.size),h.fresh b hb]
theorem CG.tag (h:CG T T' Q N w w')(a:T b=t)(d:t≠(0,0)):T' b=t:=(h.old b (by rw[a];exact d)).trans a
theorem CG.back (h:CG T T' Q N w w')(a:T' b=t)(d:t≠(0,0))(hN:¬N t):T b=t:=by
 by_cases e:T b=(0,0)
 .have:=h.new b e (by rw[a];exact d);rw[a]at this;exact qx this hN
 .rw[<-h.old b e];exact a
theorem CG.blk (h:CG T T' Q N w w'){o:Obj}(a:w.heap[b]?=some o)(d:T b=t)(hq:¬Q t):w'.heap[b]?=some o:=h.keep.old a (by unfold On;rw[d];exact hq)
theorem MC.I7 (h:MC T w kb b v)(M:CG T T' Q N w w')(j:¬Q (9,b)):MC T' w' kb b v:=by
 obtain h|⟨x,y,a,c,f,d,e⟩|⟨p,a,c⟩:=h
 .exact .inl h
 .exact .inr (.inl ⟨x,y,a,M.blk c d j,M.blk f e j,M.tag d sJ,M.tag e sJ⟩)
 .exact .inr (.inr ⟨p,a,M.tag c sJ⟩)
theorem PAt.I7 (h:PAt T w kb b r)(M:CG T T' Q N w w')(d:¬Q (6,b))(f:¬Q (7,b))(j:¬Q (8,b))(m:¬Q (9,b)):PAt T' w' kb b r:=by
 refine⟨M.tag h.t sJ,M.blk h.o h.t d,λe=>?_,λe=>?_,h.bl.I7 M m,h.no⟩
 .obtain⟨g,c,a1,a2,a⟩:=h.im e;exact⟨g,c,a1,a2.keep M.keep (by unfold On;rw[a];exact f),M.tag a sJ⟩
 .obtain⟨g,c,a1,a2,a⟩:=h.fd e;exact⟨g,c,a1,a2.keep M.keep (by unfold On;rw[a];exact j),M.tag a sJ⟩
theorem Tf.I7 (h:Tf T w b n v ws)(M:CG T T' Q N w w')(hq:¬Q (15,b)):Tf T' w' b n v ws:=by
 obtain h|⟨g,c,a1,a2,d,e,a⟩:=h
 .exact .inl h
 .exact .inr ⟨g,c,a1,a2.keep M.keep (by unfold On;rw[a];exact hq),d,e,M.tag a sJ⟩
theorem Pq.I7 (h:Pq T v o)(M:CG T T' Q N w w'):Pq T' v o:=by
 obtain⟨b,h⟩:=h;exact⟨b,h.imp (λ⟨h,f,a,c⟩=>⟨h,f,M.tag a sJ,c⟩) (Or.imp (λh=>⟨h.1,M.tag h.2.1 sJ,h.2.2⟩) (λh=>⟨h.1,M.tag h.2.1 sJ,h.2.2⟩))⟩
theorem cO.I7 {op:Nat->Nat}{ct:Nat->Ct}(h:cO T op ct w kb)(M:CG T T' Q N w w')(f:∀t,Q t->t.1<10)(hN:∀t,N t->t.1<10):cO T' op ct w' kb:=by
 have q:∀k c,10<=k->¬Q (k,c):=λk c d e=>qx (f _ e) (by simp;omega)
 have n:∀k c,10<=k->¬N (k,c):=λk c d e=>qx (hN _ e) (by simp;omega)
 refine⟨λb e=>?_,λb e=>?_,λb c e=>?_,λb e=>?_,λb e=>?_⟩
 .have e:=M.back e sJ (n _ _ wB);obtain⟨x,a1,a2⟩:=h.file b e;exact⟨x,M.blk a1 e (q _ _ wB),a2.I7 M (q _ _ wB)⟩
 .have e:=M.back e sJ (n _ _ wB);obtain⟨x,a1,a2⟩:=h.pipe b e;exact⟨x,M.blk a1 e (q _ _ wB),a2.I7 M (q _ _ wB)⟩
 .have e:=M.back e sJ (n _ _ wB);obtain⟨a1,a2,a⟩:=h.GU b c e;exact⟨M.blk a1 e (q _ _ wB),M.tag a2 sJ,a⟩
 .have e:=M.back e sJ (n _ _ wB);obtain⟨a1,a2⟩:=h.rend b e;exact⟨M.blk a1 e (q _ _ wB),M.tag a2 sJ⟩
 .have e:=M.back e sJ (n _ _ wB);obtain⟨a1,a2⟩:=h.UD b e;exact⟨M.blk a1 e (q _ _ wB),M.tag a2 sJ⟩
theorem ϊ.I7 (h:ϊ T w l v)(M:CG T T' Q N w w')(e:¬Q (5,0)):ϊ T' w' l v:=by
 obtain⟨h|⟨g,c,a1,a2,a⟩,d⟩:=h
 .exact⟨.inl h,λb hb=>M.tag (d b hb) sJ⟩
 .exact⟨.inr ⟨g,c,a1,a2.keep M.keep (by unfold On;rw[a];exact e),M.tag a sJ⟩,λb hb=>M.tag (d b hb) sJ⟩
theorem XW.I7 (h:XW T nm nl w)(M:CG T T' Q N w w')(hq:¬Q (10,0))(d:¬N (10,0)):XW T' nm nl w':=h.to λb n e=>by
 have e:=M.back e sJ d;exact⟨e,λa=>a.keep M.keep (by unfold On;rw[e];exact hq)⟩
theorem KC.I7 (h:KC K w ks)(M:CG K.T T' Q N w w')(f:¬Q (5,0)):KC {K with T:=T' } w' ks:=
 ⟨h.c0,h.c1,h.c2,h.c3,λi hi=>⟨(h.nm i hi).1,λb e=>M.tag ((h.nm i hi).2 b e) sJ⟩,let ⟨v,a,b⟩:=h.nl;⟨v,a,b.I7 M f⟩,λi hi=>let ⟨a,b,c,d⟩:=h.en i hi;⟨a,b,c,λe=>(d e).I7 M⟩⟩
theorem KC.ps (h:KC K w ks)(f:Nat->d_ PR):KC {K with ps:=f} w ks:=⟨h.c0,h.c1,h.c2,h.c3,h.nm,h.nl,h.en⟩
theorem KC.set0 (h:KC K w ks){g:Nat}{l:List (W_)}:KC {K with core:=l,cg:=g,cc:=c} w (ks.setIfInBounds 0 (P_ g l.length c)):=by
 have a:0<ks.size:=(y_.1 h.c0).1;refine⟨by simp[a],?_,?_,?_,λi hi=>?_,?_,λi hi=>?_⟩
 .rw[HY wB];exact h.c1
 .rw[HY wB];exact h.c2
 .rw[HY wB];exact h.c3
 .rw[HY wB];exact h.nm i hi
 .rw[HY wB];exact h.nl
 .rw[HY wB,HY wB];exact h.en i hi
theorem KC.O8 (h:KC K w ks){g:Nat}{l:List (W_)}:KC {K with swap:=l,sg:=g,sc:=c} w (ks.setIfInBounds 1 (P_ g l.length c)):=by
 have a:1<ks.size:=(y_.1 h.c1).1;refine⟨?_,by simp[a],?_,?_,λi hi=>?_,?_,λi hi=>?_⟩
 .rw[HY wB];exact h.c0
 .rw[HY wB];exact h.c2
 .rw[HY wB];exact h.c3
 .rw[HY wB];exact h.nm i hi
 .rw[HY wB];exact h.nl
 .rw[HY wB,HY wB];exact h.en i hi
theorem KC.set2 (h:KC K w ks){g:Nat}:KC {K with Ar:=l,pg:=g,pc:=c} w (ks.setIfInBounds 2 (P_ g l.length c)):=by
 have a:2<ks.size:=(y_.1 h.c2).1;refine⟨?_,?_,by simp[a],?_,λi hi=>?_,?_,λi hi=>?_⟩
 .rw[HY wB];exact h.c0
 .rw[HY wB];exact h.c1
 .rw[HY wB];exact h.c3
 .rw[HY wB];exact h.nm i hi
 .rw[HY wB];exact h.nl
 .rw[HY wB,HY wB];exact h.en i hi
theorem KC.ct6 (h:KC K w ks):KC {K with BG:=n} w (ks.setIfInBounds 3 (b_ n)):=by
 have a:3<ks.size:=(y_.1 h.c3).1;refine⟨?_,?_,?_,by simp[a],λi hi=>?_,?_,λi hi=>?_⟩
 .rw[HY wB];exact h.c0
 .rw[HY wB];exact h.c1
 .rw[HY wB];exact h.c2
 .rw[HY wB];exact h.nm i hi
 .rw[HY wB];exact h.nl
 .rw[HY wB,HY wB];exact h.en i hi
def Ah {α:Type}(f:Nat->α)(i:Nat)(n:α):Nat->α:=λk=>if k=i then n else f k
theorem KC.sO (h:KC K w ks){v:n_}(hi:i<20)(d:v.oneCell'=true)(f:0<n->Pq K.T v o):KC {K with desc:=Ah K.desc i n,ef:=Ah K.ef i o,tv:=Ah K.tv i v} w ((ks.setIfInBounds (21+i*2) v).setIfInBounds (21+i*2+1) (b_ n)):=by
 have b:21+i*2+1<ks.size:=by
  obtain⟨_,h,_⟩:=h.en i hi
  exact(y_.1 h).1
 refine⟨?_,?_,?_,?_,λj a=>?_,?_,λj a=>?_⟩
 .rw[HY wB,HY wB];exact h.c0
 .rw[HY wB,HY wB];exact h.c1
 .rw[HY wB,HY wB];exact h.c2
 .rw[HY wB,HY wB];exact h.c3
 .rw[HY wB,HY wB];exact h.nm j a
 .rw[HY wB,HY wB];exact h.nl
 .by_cases e:j=i
  .subst e;refine⟨?_,?_,by simpa [Ah]using d,?_⟩
   .rw[HY wB,lJ wB];simp[Ah]
   .rw[lJ (by simpa using b)];simp[Ah]
   .simpa [Ah]using f
  .rw[HY wB,HY wB,HY wB,HY wB];simpa [Ah,e]using h.en j a
theorem KC.ca6 (h:KC K w ks)(hi:i<16)(d:∀b,o=some b->K.T b=(10,0)):KC {K with nm:=Ah K.nm i o} w (ks.setIfInBounds (4+i) (VJ o)):=by
 have c:4+i<ks.size:=(y_.1 (h.nm i hi).1).1;refine⟨?_,?_,?_,?_,λj a=>?_,?_,λj a=>?_⟩
 .rw[HY wB];exact h.c0
 .rw[HY wB];exact h.c1
 .rw[HY wB];exact h.c2
 .rw[HY wB];exact h.c3
 .by_cases e:j=i
  .subst e;rw[lJ c];simpa [Ah]using d
  .rw[HY wB];simpa [Ah,e]using h.nm j a
 .rw[HY wB];exact h.nl
 .rw[HY wB,HY wB];exact h.en j a
theorem KC.ct5 (h:KC K w ks){v:n_}(d:ϊ K.T w l v):KC {K with nl:=l} w (ks.setIfInBounds 20 v):=by
 obtain⟨_,a,_⟩:=h.nl;have b:20<ks.size:=(y_.1 a).1;refine⟨?_,?_,?_,?_,λi hi=>?_,⟨v,by simp[b],d⟩,λi hi=>?_⟩
 .rw[HY wB];exact h.c0
 .rw[HY wB];exact h.c1
 .rw[HY wB];exact h.c2
 .rw[HY wB];exact h.c3
 .rw[HY wB];exact h.nm i hi
 .rw[HY wB,HY wB];exact h.en i hi
theorem AY.zH (h:AY K w){g:Nat}{l:List (W_)}(M:CG K.T T' (λt=>t=(1,0)\/t=(2,0)) (λt=>t=(2,0)) w w')(a:KC K w ks)(d:w'.heap[K.kb]?=some (.cells (ks.setIfInBounds 0 (P_ g l.length c)) 114 (0,0)))(mp:Mp 186 w' g c l)(f:T' g=(2,0)):AY {K with core:=l,cg:=g,cc:=c,T:=T' } w':=
 ⟨⟨_,d,(a.I7 M sJ).set0⟩,mp,Rw.keep h.ms M.keep (by unfold On;rw[h.ts];simp),Rw.keep h.pr M.keep (by unfold On;rw[h.tp];simp),λb r e=>(h.ps b r e).I7 M sJ sJ sJ sJ,h.fl.I7 M (by rintro t (rfl|rfl)<;>simp) (by rintro t rfl;simp),M.tag h.tk sJ,f,M.tag h.ts sJ,M.tag h.tp sJ,M.lt,h.dk.I7 M sJ sJ⟩
theorem AY.zG (h:AY K w){g:Nat}{l:List (W_)}(M:CG K.T T' (λt=>t=(1,0)\/t=(3,0)) (λt=>t=(3,0)) w w')(a:KC K w ks)(d:w'.heap[K.kb]?=some (.cells (ks.setIfInBounds 1 (P_ g l.length c)) 114 (0,0)))(mp:Mp 188 w' g c l)(f:T' g=(3,0)):AY {K with swap:=l,sg:=g,sc:=c,T:=T' } w':=
 ⟨⟨_,d,(a.I7 M sJ).O8⟩,Rw.keep h.mc M.keep (by unfold On;rw[h.tc];simp),mp,Rw.keep h.pr M.keep (by unfold On;rw[h.tp];simp),λb r e=>(h.ps b r e).I7 M sJ sJ sJ sJ,h.fl.I7 M (by rintro t (rfl|rfl)<;>simp) (by rintro t rfl;simp),M.tag h.tk sJ,M.tag h.tc sJ,f,M.tag h.tp sJ,M.lt,h.dk.I7 M sJ sJ⟩
theorem AY.Y0 (h:AY K w){g BG:Nat}(M:CG K.T T' (λt=>t=(1,0)\/t=(4,0)) (λt=>t=(4,0)) w w')(d:KC K w ks)(f:w'.heap[K.kb]?=some (N_ ks' 114))(a:ks'=(ks.setIfInBounds 3 (b_ BG)).setIfInBounds 2 (P_ g l.length c))(mp:Rw 119 1 w' g l.length c (Ce l))(j:T' g=(4,0)):AY {K with Ar:=l,pg:=g,pc:=c,BG:=BG,T:=T' } w':=
 ⟨⟨_,f,by subst a;exact((d.I7 M sJ).ct6).set2⟩,Rw.keep h.mc M.keep (by unfold On;rw[h.tc];simp),Rw.keep h.ms M.keep (by unfold On;rw[h.ts];simp),mp,λb r e=>(h.ps b r e).I7 M sJ sJ sJ sJ,h.fl.I7 M (by rintro t (rfl|rfl)<;>simp) (by rintro t rfl;simp),M.tag h.tk sJ,M.tag h.tc sJ,M.tag h.ts sJ,j,M.lt,h.dk.I7 M sJ sJ⟩
theorem AY.lL (h:AY K w){r':PR}(M:CG K.T T' (λt=>t=(6,b)\/t=(7,b)\/t=(8,b)\/t=(9,b)) (λt=>t=(6,b)\/t=(7,b)\/t=(8,b)\/t=(9,b)) w w')(j:PAt T' w' K.kb b r'):AY {K with ps:=CY K.ps b r',T:=T' } w':=by
 obtain⟨f,d,c⟩:=h.k;refine⟨⟨_,M.blk d h.tk sJ,(c.I7 M sJ).ps _⟩,Rw.keep h.mc M.keep (by unfold On;rw[h.tc];simp),Rw.keep h.ms M.keep (by unfold On;rw[h.ts];simp),Rw.keep h.pr M.keep (by unfold On;rw[h.tp];simp),λk r e=>?_,h.fl.I7 M (by rintro t (rfl|rfl|rfl|rfl)<;>simp) (by rintro t (rfl|rfl|rfl|rfl)<;>simp),M.tag h.tk sJ,M.tag h.tc sJ,M.tag h.ts sJ,M.tag h.tp sJ,M.lt,h.dk.I7 M sJ sJ⟩;by_cases a:k=b
 .subst a;have e:CY K.ps k r' k=some r:=e;rw[Ag]at e;cases e;exact j
 .have e:CY K.ps b r' k=some r:=e;rw[BB a]at e;exact(h.ps k r e).I7 M (by simpa using a) (by simpa using a) (by simpa using a) (by simpa using a)
theorem AY.aO (h:AY K w){d o:Nat->Nat}{ef:Nat->d_ Nat}{ct:Nat->Ct}{tv:Nat->n_}(M:CG K.T T' (λt=>t=(1,0)\/t=(5,0)\/10<=t.1) (λt=>t=(5,0)\/10<=t.1) w w')(m:w'.heap[K.kb]?=some (N_ ks' 114))(a:KC {K with desc:=d,op:=o,nl:=nl,nm:=nm,ef:=ef,T:=T',ct:=ct,tv:=tv} w' ks')(j:cO T' o ct w' K.kb)(f:XW T' nm nl w'):AY {K with desc:=d,op:=o,nl:=nl,nm:=nm,ef:=ef,T:=T',ct:=ct,tv:=tv} w':=
 ⟨⟨_,m,a⟩,Rw.keep h.mc M.keep (by unfold On;rw[h.tc];simp),Rw.keep h.ms M.keep (by unfold On;rw[h.ts];simp),Rw.keep h.pr M.keep (by unfold On;rw[h.tp];simp),λb r e=>(h.ps b r e).I7 M sJ sJ sJ sJ,j,M.tag h.tk sJ,M.tag h.tc sJ,M.tag h.ts sJ,M.tag h.tp sJ,M.lt,f⟩
theorem KC.op (h:KC K w ks)(f:Nat->Nat):KC {K with op:=f} w ks:=⟨h.c0,h.c1,h.c2,h.c3,h.nm,h.nl,h.en⟩
end
def KS.ED (K:KS):Prop:=∀b∈K.Ar,∃r,K.ps b=some r
section
variable {K:KS}{w w':o_}{b:Nat}{r:PR}
theorem AY.Iu (h:AY K w)(hb:K.ps b=some r)(i:Nat):w.cell? (S_ b i)=r.arr[i]?:=Ai (h.ps b r hb).o i
theorem AY.lF (h:AY K w)(hb:K.ps b=some r)(i:Nat):w.frozen? (S_ b i)=false:=Cf (h.ps b r hb).o i
theorem AY.plt (h:AY K w)(hb:K.ps b=some r):b<w.heap.size:=Dt (h.ps b r hb).o
theorem AY.klt (h:AY K w):K.kb<w.heap.size:=let ⟨_,a,_⟩:=h.k;Dt a
theorem AY.kc2 (h:AY K w):w.cell? (S_ K.kb 2)=some (P_ K.pg K.Ar.length K.pc):=let ⟨_,a,c⟩:=h.k;(Ai a 2).trans c.c2
theorem AY.mf (h:AY K w)(hi:K.Ar[i]?=some b):w.cell? (S_ K.pg i)=some (ptr b):=by
 have a:=(Oc.1 hi).1;rw[Rw.cell h.pr wB];simp[Ce,hi]
theorem AY.mem (hT:K.ED)(hi:K.Ar[i]?=some b):∃r,K.ps b=some r:=hT b (t_ hi)
end
def μ (K:KS)(pid:Int)(v:n_):Prop:=(∃b r,v=ptr b/\b∈K.Ar/\K.ps b=some r/\(r.pid:Int)=pid)\/(v=.pointer none/\∀b∈K.Ar,∀r,K.ps b=some r->(r.pid:Int)≠pid)
section
variable (m:Nat)(w:o_)
theorem TQ (K:KS)(pid:Int)(h:AY K w)(hT:K.ED)(y:K.Ar.length<=100):
  O_ m 54 #[Q_ K.kb,b_ pid] w λe w'=>Aa No w w'/\∃v,e=.returned v/\μ K pid v:=by
 have x:=h.kc2;gi_enter func54,ntmps54;gi_wp2;gi_loopw [12] (λi wr=>∃k:Nat,k<=K.Ar.length/\i=b_ k/\Aa No w wr/\∀(j:Nat) b r,j<k->K.Ar[j]?=some b->K.ps b=some r->(r.pid:Int)≠pid) (λi _=>K.Ar.length-(intOf i).toNat)
 case atStart=>exact⟨0,wB,rfl,Aa.refl _ _,λj b r h=>qx h wB⟩
 case round=>
  obtain⟨k,u,rfl,KK,n⟩:=hrel
  by_cases o:k<K.Ar.length
  .have a:K.Ar[k]?=some K.Ar[k]:=JM o;generalize K.Ar[k]=b at a;obtain⟨r,c⟩:=AY.mem hT a;have l:=h.no KK;have q:=l.mf a;have d1:=l.Iu c 0;simp only[ptr]at q;simp[PR.arr]at d1;by_cases d:(r.pid:Int)=pid
   .have g:((r.pid:Int)==pid)=true:=(by simpa using d);gi_wp2;go_ret;exact⟨KK,ptr b,by simp[ptr],.inl ⟨b,r,rfl,t_ a,c,d⟩⟩
   .have g:((r.pid:Int)==pid)=false:=(by simpa using d);gi_wp2;go_roundw
    case rel=>
     refine⟨k+1,wB,by go_num,KK,λj p s t hb f=>?_⟩
     by_cases e:j=k
     .subst e;rw[a]at hb;cases hb;rw[c]at f;cases f;exact d
     .exact n j p s wB hb f
    case measure=>simp[intOf];omega
  .obtain rfl:k=K.Ar.length:=wB;gi_wp2;go_ret;refine⟨KK,.pointer none,sJ,.inr ⟨rfl,λb hb r c=>?_⟩⟩;obtain⟨i,hi⟩:=List.getElem?_of_mem hb;exact n i b r (Oc.1 hi).1 hi c
theorem Fe (pb L c:Nat)(a:d_ f_)(d:w.cell? (S_ pb 8)=some (.slice a L c))(hL:L<1000000):
  O_ m 58 #[Q_ pb] w λe w'=>e=.returned (b_ (Aj L))/\w'=w:=by
 gi_enter func58,ntmps58;gi_wp2_with (gi_at_call 48;refine(Gm _ _ L hL).mono ?_;rintro e w1 ⟨rfl,rfl⟩);go_ret;exact⟨sJ,rfl⟩
end
def isZ (ps:Nat->d_ PR)(pid b:Nat):Bool:=match ps b with|some r=>r.en && (r.par==pid)|none=>false
theorem Pz {ps:Nat->d_ PR}{pid:Nat}{r:PR}(h:ps b=some r):isZ ps pid b=(r.en && (r.par==pid)):=by unfold isZ;rw[h]
def KS.PS (K:KS)(pid:Nat):d_ Nat:=K.Ar.find? (isZ K.ps pid)
theorem bk5 (h:l[k]?=some b)(m:p b=true)(f:∀(j c:Nat),j<k->l[j]?=some c->p c=false):l.find? p=some b:=by
 obtain⟨d,e⟩:=Oc.1 h;refine List.find?_eq_some_iff_getElem.2 ⟨m,k,d,e,λj a=>?_⟩;rw[f j _ a (JM wB)];rfl
theorem bk3 (d:∀(j c:Nat),j<l.length->l[j]?=some c->p c=false):l.find? p=none:=by
 refine List.find?_eq_none.2 λx a=>?_
 obtain⟨i,hi⟩:=List.getElem?_of_mem a;rw[d i x (Oc.1 hi).1 hi];simp
section
variable (m:Nat)(w:o_)
theorem oG (K:KS)(pb:Nat)(p:PR)(h:AY K w)(hT:K.ED)(D:K.ps pb=some p)(E:K.Ar.length<=100):
  O_ m 195 #[Q_ K.kb,Q_ pb] w λe w'=>Aa No w w'/\∃v,e=.returned v/\(v=.pointer none\/∃b r,v=ptr b/\b∈K.Ar/\K.ps b=some r/\r.en=true)/\v=VJ (K.PS p.pid):=by
 have C:=h.kc2;gi_enter func195,ntmps195;gi_wp2;gi_loopw [12] (λi wr=>∃k:Nat,k<=K.Ar.length/\i=b_ k/\Aa No w wr/\∀(j c:Nat),j<k->K.Ar[j]?=some c->isZ K.ps p.pid c=false) (λi _=>K.Ar.length-(intOf i).toNat)
 case atStart=>exact⟨0,wB,rfl,Aa.refl _ _,λj c h=>qx h wB⟩
 case round=>
  obtain⟨k,B,rfl,KK,u⟩:=hrel
  by_cases x:k<K.Ar.length
  .have l:K.Ar[k]?=some K.Ar[k]:=JM x;generalize K.Ar[k]=b at l;obtain⟨r,o⟩:=AY.mem hT l;have d:=Pz (pid:=p.pid) o;have g:isZ K.ps p.pid b=false->∀(j c:Nat),j<k+1->K.Ar[j]?=some c->isZ K.ps p.pid c=false:=λz j c A s=>by
    by_cases e:j=k
    .subst e;rw[l]at s;cases s;exact z
    .exact u j c wB s
   have n:=h.no KK;have y:=n.mf l;have d1:=n.Iu o 1;have d2:=n.Iu o 2;have d3:=n.Iu D 0;simp only[ptr]at y;simp[PR.arr]at d1 d2 d3;gi_wp2;refine Cc 8 33 ?_;gi_wp2;refine Ee ?_ ?_
   .intro W f;have e1:=f.has (w:=wr.drew) d1;have e3:=f.has (w:=wr.drew) d3
    repeat' (refine AA ?_ ?_)
    all_goals first|exact dE|gi_wp2
   .intro W f;have e1:=f.has (w:=wr.drew) d1;have e2:=f.has (w:=wr.drew) d2;have e3:=f.has (w:=wr.drew) d3;have KW:Aa No w W:=KK.drew.then f;by_cases hq:(r.par:Int)=p.pid
    .have a:(r.par==p.pid)=true:=(by simp;omega);rw[a]at d;have t:((r.par:Int)==(p.pid:Int))=true:=(by simpa using hq);cases hn:r.en
     .rw[hn]at e2 d;have g:=g d;clear d a;gi_wp2;go_roundw
      case rel=>exact⟨k+1,wB,by go_num,KW,g⟩
      case measure=>simp[intOf];omega
     .rw[hn]at e2 d;have q:K.PS p.pid=some b:=bk5 l d u;clear d a g;gi_wp2;go_ret;exact⟨KW,ptr b,by simp[ptr],.inr ⟨b,r,rfl,t_ l,o,hn⟩,by rw[q];rfl⟩
    .have a:(r.par==p.pid)=false:=(by simp;omega);rw[a]at d;have g:=g (by rw[d];simp);clear d a;have t:((r.par:Int)==(p.pid:Int))=false:=(by simpa using hq);gi_wp2;go_roundw
     case rel=>exact⟨k+1,wB,by go_num,KW,g⟩
     case measure=>simp[intOf];omega
  .obtain rfl:k=K.Ar.length:=wB;have q:K.PS p.pid=none:=bk3 u;gi_wp2;go_ret;exact⟨KK,.pointer none,sJ,.inl rfl,by rw[q];rfl⟩
theorem ZG {T:Tag}{op:Nat->Nat}{ct:Nat->Ct}{w:o_}(h:cO T op ct w kb)(hb:T b=(11,0)):∃a n c x y,w.cell? (R_ b)=some (.slice a n c)/\w.cell? (S_ b 1)=some (.bool x)/\w.cell? (S_ b 2)=some (.bool y)/\n<=16/\n=(ct b).ws.length/\x=(ct b).x/\y=(ct b).y:=by
 obtain⟨v,d,e⟩:=h.pipe b hb;obtain⟨rfl,e⟩|⟨g,c,rfl,_,f,_⟩:=e
 .exact⟨_,_,_,_,_,(Ai d 0).trans rfl,(Ai d 1).trans rfl,(Ai d 2).trans rfl,wB,by rw[e];rfl,rfl,rfl⟩
 .exact⟨_,_,_,_,_,(Ai d 0).trans rfl,(Ai d 1).trans rfl,(Ai d 2).trans rfl,f,rfl,rfl,rfl⟩
def Ct.starved (c:Ct):Bool:=c.ws.length==0 && c.y
def Ct.JE (c:Ct):Bool:=c.ws.length==16 && c.x
theorem ZA (K:KS)(b:Nat)(h:AY K w)(hb:K.T b=(11,0)):
  O_ m 270 #[Q_ b] w λe w'=>Aa No w w'/\∃x,e=.returned (.bool x)/\Yp (x=(K.ct b).starved):=by
 obtain⟨a,n,c,x,y,i,d1,d2,j,e1,e2,e3⟩:=ZG h.fl hb;have g:(K.ct b).starved=(n==0 && y):=by rw[e1,e3];rfl
 clear e1 e2 e3;gi_enter func270,ntmps270;by_cases d:n=0
 .have f:((n:Int)==0)=true:=by simpa using d
  gi_wp2;go_ret;exact⟨Aa.refl _ _,y,sJ,by unfold Yp;rw[g,d];simp⟩
 .have f:((n:Int)==0)=false:=by simpa using d
  gi_wp2;go_ret;exact⟨Aa.refl _ _,false,sJ,by unfold Yp;rw[g];simp[d]⟩
theorem ZW (K:KS)(b:Nat)(h:AY K w)(hb:K.T b=(11,0)):
  O_ m 265 #[Q_ b] w λe w'=>Aa No w w'/\∃x,e=.returned (.bool x)/\Yp (x=(K.ct b).JE):=by
 obtain⟨a,n,c,x,y,i,d1,d2,j,e1,e2,e3⟩:=ZG h.fl hb;have f:(K.ct b).JE=(n==16 && x):=by rw[e1,e2];rfl
 clear e1 e2 e3;gi_enter func265,ntmps265;by_cases g:n=16
 .have d:((n:Int)==16)=true:=by simpa using(by omega:(n:Int)=16)
  gi_wp2;go_ret;exact⟨Aa.refl _ _,x,sJ,by unfold Yp;rw[f,g];simp⟩
 .have d:((n:Int)==16)=false:=by simpa using(by omega:¬(n:Int)=16)
  gi_wp2;go_ret;exact⟨Aa.refl _ _,false,sJ,by unfold Yp;rw[f];simp[g]⟩
theorem Wp:(binOp .neq 32 .nilFunc .nilFunc).run prog w=.ok (.bool false) w:=sU
theorem bg4 {y:Nat}:(binOp .neq 32 (.func (.func 196) #[] #[Q_ x,Q_ y]) .nilFunc).run prog w=.ok (.bool true) w:=sU
theorem bg2:(binOp .neq 32 (.func (.func 270) #[Q_ x] #[]) .nilFunc).run prog w=.ok (.bool true) w:=sU
theorem bg3:(binOp .neq 32 (.func (.func 265) #[Q_ x] #[]) .nilFunc).run prog w=.ok (.bool true) w:=sU
theorem am5 (K:KS)(pb x y:Nat)(p:PR)(h:AY K w)(hT:K.ED)(f:K.ps pb=some p)(d:K.Ar.length<=100)(j:w.cell? (R_ x)=some (Q_ K.kb))(q:w.cell? (R_ y)=some (Q_ pb)):
  O_ m 196 #[Q_ x,Q_ y] w λe w'=>Aa No w w'/\∃x,e=.returned (.bool x)/\x=(K.PS p.pid).isNone:=by
 have c:=λm=>oG m w K pb p h hT f d
 gi_enter func196,ntmps196;gi_wp2_with (gi_at_call 195;refine(c _).mono ?_;rintro e w1 ⟨a,v,rfl,b⟩;obtain⟨_,rfl⟩:=b;cases hz:K.PS p.pid<;>simp only[VJ,ptr])
 .go_ret;exact⟨a,true,sJ,by rw[hz];rfl⟩
 .go_ret;exact⟨a,false,sJ,by rw[hz];rfl⟩
def iD:n_->Nat×Nat
 |.func (.func n) ar _=>(n,match (ar[0]?:d_ n_)with|some (Value.pointer (some a))=>a.block|_=>0)
 |_=>(0,0)
def KS.blk (K:KS)(r:PR):Bool:=if(iD r.bl).1=196 then(K.PS r.pid).isNone else if(iD r.bl).1=270 then(K.ct (iD r.bl).2).starved else if(iD r.bl).1=265 then(K.ct (iD r.bl).2).JE else false
def KS.BV (K:KS)(r:PR):Int:=if r.en then 2 else if K.blk r then 1 else 0
theorem η {K:KS}{r:PR}{a b:X_}(h:r.bl=.func (.func 196) a b):K.blk r=(K.PS r.pid).isNone:=by unfold KS.blk;rw[h];rfl
theorem ε {K:KS}{r:PR}{p:Nat}(h:r.bl=.func (.func 270) #[Q_ p] #[]):K.blk r=(K.ct p).starved:=by unfold KS.blk;rw[h];rfl
theorem ζ {K:KS}{r:PR}{p:Nat}(h:r.bl=.func (.func 265) #[Q_ p] #[]):K.blk r=(K.ct p).JE:=by unfold KS.blk;rw[h];rfl
theorem γ {K:KS}{r:PR}(h:r.bl=.nilFunc):K.blk r=false:=by unfold KS.blk;rw[h];rfl
theorem Vd {K:KS}{r:PR}{x:Bool}(a:r.en=false)(h:x=K.blk r):(if x then(1:Int)else 0)=K.BV r:=by unfold KS.BV;rw[a,h];rfl
def Ko (en:Bool)(s:Int):Prop:=(en=true->s=2)/\(en=false->s=0\/s=1)
theorem jq (K:KS)(pb:Nat)(p:PR)(h:AY K w)(hT:K.ED)(u:K.ps pb=some p)(z:K.Ar.length<=100):
  O_ m 55 #[Q_ pb] w λe w'=>Aa No w w'/\∃s,e=.returned (b_ s)/\Ko p.en s/\Yp (s=K.BV p):=by
 have j:=h.Iu u 2;have i:=h.Iu u 4;simp[PR.arr]at j i;cases hn:p.en with
 |true=>
  rw[hn]at j
  gi_enter func55,ntmps55
  gi_wp2
  go_ret
  exact⟨Aa.refl _ _,2,sJ,by simp[Ko],by unfold Yp KS.BV;rw[hn];rfl⟩
 |false=>
  rw[hn]at j
  obtain hb|⟨x,y,hb,b,o,q,r⟩|⟨g,hb,k⟩:=(h.ps pb p u).bl
  .have a:=Vd hn (γ (K:=K) hb).symm;rw[hb]at i;have hq:=Wp w;gi_enter func55,ntmps55;gi_wp2;refine⟨(λf h=>by cases h),?_⟩;gi_wp2;go_ret;exact⟨Aa.refl _ _,0,sJ,by simp[Ko],a⟩
  .have a:=λx (e:x=_)=>Vd hn (Eq.trans e (η (K:=K) hb).symm)
   rw[hb]at i;simp only[ptr]at i;have hq:=bg4 w (x:=x) (y:=y);have l:w.cell? (R_ x)=some (Q_ K.kb):=bce b rfl;have n:w.cell? (R_ y)=some (Q_ pb):=bce o rfl;have c:=λm=>am5 m w K pb x y p h hT u z l n
   gi_enter func55,ntmps55;gi_wp2_with (gi_at_call 196;refine(c _).mono ?_;rintro e w1 ⟨d,x,rfl,b⟩;have a:=a _ b;clear b;cases x)
   all_goals go_ret
   .exact⟨d,0,sJ,by simp[Ko],a⟩
   .exact⟨d,1,sJ,by simp[Ko],a⟩
  .simp only[ptr]at hb;obtain hb|hb:=hb
   .have a:=λx (e:x=_)=>Vd hn (Eq.trans e (ε (K:=K) hb).symm)
    rw[hb]at i;have hq:=bg2 w (x:=g);have c:=λm=>ZA m w K g h k
    gi_enter func55,ntmps55;gi_wp2_with (gi_at_call 270;refine(c _).mono ?_;rintro e w1 ⟨d,x,rfl,b⟩;have a:=a _ b.out;clear b;cases x)
    all_goals go_ret
    .exact⟨d,0,sJ,by simp[Ko],a⟩
    .exact⟨d,1,sJ,by simp[Ko],a⟩
   .have a:=λx (e:x=_)=>Vd hn (Eq.trans e (ζ (K:=K) hb).symm)
    rw[hb]at i;have hq:=bg3 w (x:=g);have c:=λm=>ZW m w K g h k
    gi_enter func55,ntmps55;gi_wp2_with (gi_at_call 265;refine(c _).mono ?_;rintro e w1 ⟨d,x,rfl,b⟩;have a:=a _ b.out;clear b;cases x)
    all_goals go_ret
    .exact⟨d,0,sJ,by simp[Ko],a⟩
    .exact⟨d,1,sJ,by simp[Ko],a⟩
end
def BQ (T T':Tag)(w w':o_):Prop:=CG T T' (λt=>t≠(0,0)) (λ_=>True) w w'
section
variable {T T' T'':Tag}{Q N:Nat×Nat->Prop}{w w' PN:o_}{K:KS}{b:Nat}{r r':PR}
theorem CG.Xu (h:CG T T' Q N w w')(hq:∀t,Q t->t≠(0,0)):BQ T T' w w':=h.PT hq λ_ _=>trivial
theorem BQ.trans (h:BQ T T' w w')(a:BQ T' T'' w' PN):BQ T T'' w PN:=CG.trans h a
theorem BQ.no (h:Aa No w w')(a:∀b,w.heap.size<=b->T b=(0,0)):BQ T T w w':=CG.no h a
theorem BQ.then (h:BQ T T' w w')(a:Aa No w' PN):BQ T T' w PN:=h.trans (BQ.no a h.lt)
theorem BQ.old (h:BQ T T' w w'){o:Obj}(a:w.heap[g]?=some o)(hb:T g=(0,0)):w'.heap[g]?=some o:=h.keep.old a (by unfold On;rw[hb];simp)
structure PR.Like (r r':PR):Prop where
 en:r'.en=r.en
 im:r'.im=r.im
 fd:r'.fd=r.fd
 Af:r'.Af=r.Af
 fds:r'.fds=r.fds
theorem PAt.GR {T:Tag}(h:PAt T w kb b r)(hL:r.Like r')(j:r.arr.setIfInBounds i v=r'.arr)(f:MC T w kb b r'.bl):PAt T (w.setCell (S_ b i) v) kb b r':=by
 have d:Aa (On T λt=>t=(6,b)) w (w.setCell (S_ b i) v):=(Aa.refl _ _).setCell _ λ_=>h.t
 refine⟨h.t,?_,λe=>?_,λe=>?_,f.keep d sJ,λe=>?_⟩
 .rw[Ap h.o v];unfold PR.obj;rw[j]
 .obtain⟨g,c,a1,a2,a⟩:=h.im (hL.en ▸ e);rw[hL.im,hL.Af];exact⟨g,c,a1,a2.keep d (by unfold On;rw[a];simp),a⟩
 .obtain⟨g,c,a1,a2,a⟩:=h.fd (hL.en ▸ e);rw[hL.fd,hL.fds];exact⟨g,c,a1,a2.keep d (by unfold On;rw[a];simp),a⟩
 .rw[hL.im,hL.fd,hL.Af,hL.fds];exact h.no (hL.en ▸ e)
theorem AY.GR (h:AY K w)(hb:K.ps b=some r)(hL:r.Like r')(e:r.arr.setIfInBounds i v=r'.arr)(d:MC K.T w K.kb b r'.bl):AY {K with ps:=CY K.ps b r' } (w.setCell (S_ b i) v):=by
 have a:=h.ps b r hb;exact h.lL (CG.of ((Aa.refl _ _).setCell _ λ_=>.inl a.t) h.lt) (a.GR hL e d)
theorem AY.EG (h:AY K w)(hb:K.ps b=some r):BQ K.T K.T w (w.setCell (S_ b i) v):=CG.of ((Aa.refl _ _).setCell _ λ_=>by unfold On;rw[(h.ps b r hb).t];simp) h.lt
theorem AY.hd (h:AY K w):∃ks,KC K w ks/\Hd 186 w K.kb 0 114 ks K.cg K.cc K.core:=let ⟨ks,a,c⟩:=h.k;⟨ks,c,a,c.c0,h.mc,sN⟩
theorem AY.hds (h:AY K w):∃ks,KC K w ks/\Hd 188 w K.kb 1 114 ks K.sg K.sc K.swap:=let ⟨ks,a,c⟩:=h.k;⟨ks,c,a,c.c1,h.ms,sN⟩
end
def KS.Hm (K:KS)(l:List (W_))(g c:Nat):KS:={K with core:=l,cg:=g,cc:=c,T:=Bi K.T g (2,0)}
def KS.swap' (K:KS)(l:List (W_))(g c:Nat):KS:={K with swap:=l,sg:=g,sc:=c,T:=Bi K.T g (3,0)}
def KS.Bj (K:KS)(b:Nat)(r:PR):KS:={K with ps:=CY K.ps b r}
section
variable (m:Nat)(w:o_)
theorem cn6 (K:KS)(a n N:Nat)(h:AY K w)(q:Fit N K.core)(hN:N<=10000)(s:a+n<=N)(r:K.core.length+1<=N):
  O_ m 91 #[Q_ K.kb,b_ (a:Nat),b_ (n:Nat)] w λe w'=>e=.returned (.tuple #[])/\∃g c,AY (K.Hm (CE K.core a n) g c) w'/\BQ K.T (Bi K.T g (2,0)) w w':=by
 obtain⟨l,f,i⟩:=h.hd;refine(bo9 m w false 0 K.kb K.cg K.cc a n N 114 l K.core i q hN s r).mono ?_;rintro e w' ⟨rfl,d,g,c,b,j⟩;have M:CG K.T (Bi K.T g (2,0)) (λt=>t=(1,0)\/t=(2,0)) (λt=>t=(2,0)) w w':=CG.row (d.on (by rintro k _ (rfl|rfl);exact .inl h.tk;exact .inr h.tc)) h.lt (j.imp (λe=>by rw[e];exact h.tc) id) (Rw.lt b.mp) rfl;exact⟨rfl,g,c,h.zH M f b.k b.mp A7,M.Xu (by rintro t (rfl|rfl)<;>simp)⟩
theorem bn5 (K:KS)(n N:Nat)(h:AY K w)(j:Fit N K.core)(hN:N<=10000)(q:n<=10000):
  O_ m 92 #[Q_ K.kb,b_ (n:Nat)] w λe w'=>e=.returned (UH (Aq K.core n).1)/\AY {K with core:=(Aq K.core n).2} w'/\BQ K.T K.T w w'/\Aa (yQ K.kb K.cg) w w':=by
 obtain⟨g,b,c⟩:=h.hd;refine(takeC m w false 0 K.kb K.cg K.cc n N 114 g K.core c j hN q).mono ?_;rintro e w' ⟨rfl,a,d,f⟩;have M:CG K.T K.T (λt=>t=(1,0)\/t=(2,0)) (λt=>t=(2,0)) w w':=CG.of (a.on (by rintro k _ (rfl|rfl);exact .inl h.tk;exact .inr h.tc)) h.lt;exact⟨rfl,h.zH M b d f h.tc,M.Xu (by rintro t (rfl|rfl)<;>simp),a⟩
theorem ak8 (K:KS)(a n N:Nat)(h:AY K w)(q:Fit N K.swap)(hN:N<=10000)(s:a+n<=N)(r:K.swap.length+1<=N):
  O_ m 156 #[.pointer (some (S_ K.kb 1)),b_ (a:Nat),b_ (n:Nat)] w λe w'=>e=.returned (.tuple #[])/\∃g c,AY (K.swap' (CE K.swap a n) g c) w'/\BQ K.T (Bi K.T g (3,0)) w w':=by
 obtain⟨l,f,i⟩:=h.hds;refine(bo9 m w true 1 K.kb K.sg K.sc a n N 114 l K.swap i q hN s r).mono ?_;rintro e w' ⟨rfl,d,g,c,b,j⟩;have M:CG K.T (Bi K.T g (3,0)) (λt=>t=(1,0)\/t=(3,0)) (λt=>t=(3,0)) w w':=CG.row (d.on (by rintro k _ (rfl|rfl);exact .inl h.tk;exact .inr h.ts)) h.lt (j.imp (λe=>by rw[e];exact h.ts) id) (Rw.lt b.mp) rfl;exact⟨rfl,g,c,h.zG M f b.k b.mp A7,M.Xu (by rintro t (rfl|rfl)<;>simp)⟩
theorem aj1 (K:KS)(n N:Nat)(h:AY K w)(j:Fit N K.swap)(hN:N<=10000)(q:n<=10000):
  O_ m 89 #[.pointer (some (S_ K.kb 1)),b_ (n:Nat)] w λe w'=>e=.returned (UH (Aq K.swap n).1)/\AY {K with swap:=(Aq K.swap n).2} w'/\BQ K.T K.T w w'/\Aa (yQ K.kb K.sg) w w':=by
 obtain⟨g,b,c⟩:=h.hds;refine(takeC m w true 1 K.kb K.sg K.sc n N 114 g K.swap c j hN q).mono ?_;rintro e w' ⟨rfl,a,d,f⟩;have M:CG K.T K.T (λt=>t=(1,0)\/t=(3,0)) (λt=>t=(3,0)) w w':=CG.of (a.on (by rintro k _ (rfl|rfl);exact .inl h.tk;exact .inr h.ts)) h.lt;exact⟨rfl,h.zG M b d f h.ts,M.Xu (by rintro t (rfl|rfl)<;>simp),a⟩
theorem AY.im8 {K:KS}{w:o_}{r:PR}(h:AY K w)(hb:K.ps b=some r):∃a c,w.cell? (S_ b 8)=some (.slice a r.Af.length c):=by
 have q:=h.Iu hb 8;cases hn:r.en with
 |true=>
  obtain⟨d,_,e,_⟩:=(h.ps b r hb).no hn
  exact⟨none,0,by rw[q,e];simp[PR.arr,d]⟩
 |false=>
  obtain⟨g,c,d,_⟩:=(h.ps b r hb).im hn
  exact⟨some (R_ g),c,by rw[q];simp[PR.arr,d]⟩
theorem wI (K:KS)(b:Nat)(r:PR)(h:AY K w)(hb:K.ps b=some r)(a:r.co=-1):
  O_ m 52 #[Q_ K.kb,Q_ b] w λe w'=>e=.returned (.tuple #[])/\Aa No w w':=by
 have q:=h.Iu hb 11;simp[PR.arr,a]at q;gi_enter func52,ntmps52;gi_wp2;refine bodyPost_ret (results_none rfl _ _ _) rfl ?_;exact⟨sJ,Aa.refl _ _⟩
theorem pI (K:KS)(b a N:Nat)(r:PR)(h:AY K w)(hb:K.ps b=some r)(y:r.co=a)(z:Fit N K.core)(hN:N<=10000)(B:a+Aj r.Af.length<=N)(A:K.core.length+1<=N)(hL:r.Af.length<1000):
  O_ m 52 #[Q_ K.kb,Q_ b] w λe w'=>e=.returned (.tuple #[])/\∃g c,AY ((K.Hm (CE K.core a (Aj r.Af.length)) g c).Bj b {r with co:=-1}) w'/\BQ K.T (Bi K.T g (2,0)) w w':=by
 have q:=h.Iu hb 11;simp[PR.arr,y]at q;obtain⟨t,u,j⟩:=h.im8 hb;have s:((a:Int)==-1)=false:=sJ
 gi_enter func52,ntmps52;gi_wp2;refine Cc 9 22 ?_;gi_wp2_with (gi_at_call 58;refine(Fe _ w.drew b _ _ _ j wB).mono ?_;rintro e w1 ⟨rfl,rfl⟩);refine Ee ?_ ?_
 .intro W f;have l:=f.has (w:=w.drew) q;have n:=f.has (w:=w.drew) j
  repeat' (refine AA ?_ ?_)
  all_goals first|exact dE|gi_wp2_with (gi_at_call 58;refine(Fe _ W b _ _ _ n wB).mono ?_;rintro e w1 ⟨rfl,rfl⟩)
 .intro W f;have KW:Aa No w W:=(Aa.refl No w).drew.then f;have p:=h.no KW;gi_wp2_with fail;refine(cn6 _ W K a (Aj r.Af.length) N p z hN B A).mono ?_;rintro e w2 ⟨rfl,g,c,d,k⟩;have i:=d.Iu hb 11;simp[PR.arr,y]at i;have o:=d.lF hb 11;gi_wp2;go_end0;exact⟨sJ,g,c,d.GR (r':={r with co:=-1}) hb ⟨rfl,rfl,rfl,rfl,rfl⟩ rfl (d.ps b r hb).bl,((BQ.no KW h.lt).trans k).trans (d.EG hb)⟩
end
end Go.Fxa
