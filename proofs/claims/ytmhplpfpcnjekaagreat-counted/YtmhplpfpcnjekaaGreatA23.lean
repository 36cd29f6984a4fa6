/- A kernel of many processes: th -/
import Derived.Test.YtmhplpfpcnjekaaGreatA22
namespace Go.Fxa
open Conc Proofs RowKit Proofs.Tryz
set_option maxRecDepth 1000000
set_option maxHeartbeats 0
theorem ap2:NI prog 100 119 (.pointer none) 1 8:=⟨underlying100,by kernel_rfl,by rfl,by decide,by intro x a;simp[Value.cells]at a;subst a;rfl⟩
def YP (gn:Nat->Bool) (g:Nat) (w:o_) (b:Nat):Prop:=b≠g/\∃(p:Nat) (e:Bool),w.cell? (T_ b 1)=some (b_ p)/\w.cell? (T_ b 2)=some (.bool e)/\gn b=(e && p==0)
theorem YP.keep {gn:Nat->Bool} {g b:Nat} {w w':o_} (h:YP gn g w b) (hK:Keep (At g) w w'):YP gn g w' b:=by
 obtain⟨a,h⟩:=h;refine⟨a,?_⟩;obtain⟨p,e,c,d,f⟩:=h;exact⟨p,e,(hK.cell (World.block_lt_of_cell? _ _ c) a).trans c,(hK.cell (World.block_lt_of_cell? _ _ d) a).trans d,f⟩
section
variable (m:Nat) (w:o_)
theorem ϸ (g cap:Nat) (l:List Nat) (gn:Nat->Bool) (hR:Rw 119 1 w g l.length cap (Bj l)) (hc:∀b∈l,YP gn g w b) (hl:l.length<=100000):
  P_ m 238 #[Q_ g l.length cap,.func (.func 213) #[] #[]] w λe w'=>Keep No w w'/\((e=.returned (b_ (-1))/\∀b∈l,gn b=false)\/∃k b,e=.returned (b_ (k:Nat))/\l[k]?=some b/\gn b=true/\∀(j:Nat) b,j<k->l[j]?=some b->gn b=false):=by
 gi_enter func238,ntmps238;gi_wp2;gi_loopw [8] (λi wr=>∃k:Nat,k<=l.length/\i=b_ k/\Keep No w wr/\∀(j:Nat) b,j<k->l[j]?=some b->gn b=false) (λi _=>l.length-(intOf i).toNat)
 case atStart=>exact⟨0,by omega,rfl,p_ _ _,λj b h=>absurd h (by omega)⟩
 case round=>
  obtain⟨k,z,rfl,KK,n⟩:=hrel
  by_cases s:k<l.length
  .have c:l[k]?=some l[k]:=Ii s;generalize l[k]=b at c;have x:wr.cell? (T_ g k)=some (R_ b):=(by rw[Rw.cell (hR.keep KK id) (by omega)];simp[Bj,c,ptr]);obtain⟨_,u⟩:=(hc b (t_ c)).keep KK.no;obtain⟨p,e,d1,d2,a⟩:=u;obtain⟨d,r⟩|⟨d,r⟩|d:(e=true/\((p:Int)==0)=true)\/(e=true/\((p:Int)==0)=false)\/e=false:=by cases e<;>simp[Decidable.em]
   all_goals
    subst d
    simp only[Bool.true_and,Bool.false_and]at a
    try (have v:(p==0)=((p:Int)==0):=by(rw[Bool.eq_iff_iff];simp))
    try rw[v,r]at a
   .gi_wp2_with gi_in;go_ret;exact⟨KK,.inr ⟨k,b,by simp,c,a,n⟩⟩
   all_goals
    gi_wp2_with gi_in
    go_roundw
    case rel=>
     refine⟨k+1,by omega,by go_num,KK,λj q y f=>?_⟩
     by_cases e:j=k
     .subst e;rw[c]at f;cases f;exact a
     .exact n j q (by omega) f
    case measure=>simp[intOf];omega
  .obtain rfl:k=l.length:=(by omega);gi_wp2;go_ret;refine⟨KK,.inl ⟨by simp,λb t=>?_⟩⟩;obtain⟨i,o⟩:=List.getElem?_of_mem t;exact n i b (LQ.1 o).1 o
theorem xQ (g cap:Nat) (l:List Nat) (gn:Nat->Bool) (hR:Rw 119 1 w g l.length cap (Bj l)) (hc:∀b∈l,YP gn g w b) (hl:l.length<=100000):
  P_ m 212 #[Q_ g l.length cap,.func (.func 213) #[] #[]] w λe w'=>e=.returned (Q_ g (l.filter λb=>!gn b).length cap)/\Keep (At g) w w'/\Rw 119 1 w' g (l.filter λb=>!gn b).length cap (Bj (l.filter λb=>!gn b)):=by
 have c:=λm=>ϸ m w g cap l gn hR hc hl
 gi_enter func212,ntmps212;gi_wp2_with (gi_at_call 238;refine(c _).mono ?_;rintro e w1 ⟨u,⟨rfl,X⟩|⟨t,b0,rfl,o,E,r⟩⟩<;>try (have f0:((t:Int)==-1)=false:=(by simp);have V:=(LQ.1 o).1))
 .go_ret;have e:l.filter (λb=>!gn b)=l:=List.filter_eq_self.2 λb D=>by simp[X b D]
  rw[e];exact⟨by simp,u.no,hR.keep u id⟩
 .gi_loopw [5,6] (λQ B wr=>∃(i j:Nat) (h:U_),Q=b_ i/\B=b_ j/\i<j/\j<=l.length/\Keep (At g) w wr/\Rw 119 1 wr g l.length cap h/\i=((l.take j).filter λb=>!gn b).length/\h.take i=Bj ((l.take j).filter λb=>!gn b)/\h.drop j=Bj (l.drop j)) (λ_ B _=>l.length-(intOf B).toNat)
  case atStart=>
   have e:(l.take (t+1)).filter (λb=>!gn b)=l.take t:=by
    rw[List.take_add_one,o,List.filter_append]
    simp only[Option.toList_some,List.filter_cons,E,Bool.not_true,List.filter_nil]
    simp only[Bool.false_eq_true,if_false,List.append_nil]
    refine List.filter_eq_self.2 λb D=>?_
    obtain⟨j,z⟩:=List.getElem?_of_mem D
    rw[List.getElem?_take]at z
    split at z
    .rename_i H;simp[r j b H z]
    .cases z
   refine⟨t,t+1,Bj l,rfl,by go_num,by omega,by omega,u.no,hR.keep u id,?_,?_,?_⟩
   .rw[e,List.length_take];omega
   .rw[e];simp[Bj]
   .simp[Bj]
  case round=>
   obtain⟨i,j,h,rfl,rfl,T,U,KK,f,d,s,K⟩:=hrel
   have k:Nonempty (PLift (i=((l.take j).filter λb=>!gn b).length)):=⟨⟨d⟩⟩
   clear d
   have W:=f.le
   have Z:=f.len
   by_cases N:j<l.length
   .have y:l[j]?=some l[j]:=Ii N;generalize l[j]=b at y;have I:h[j]?=some (ptr b):=by
     have:(h.drop j)[0]?=some (ptr b):=by rw[K];simp[Bj,y]
     simpa using this
    have d0:wr.cell? (T_ g j)=some (R_ b):=(by rw[f.cell (by omega),I];rfl);have A:l.take (j+1)=l.take j++[b]:=(by rw[List.take_add_one,y];rfl);have J:h.drop (j+1)=Bj (l.drop (j+1)):=by
     have:=congrArg (List.drop 1) K
     simpa [Bj,List.drop_drop]using this
    have fz:=f.fz i;have R:(i:Int)<(l.length:Int):=(by omega);have ci:∃v,wr.cell? (T_ g i)=some v:=by
     rw[f.cell (by omega)]
     exact⟨_,Ii (by omega)⟩
    obtain⟨vi,ci⟩:=ci;obtain⟨_,Y⟩:=(hc b (t_ y)).keep KK;obtain⟨p,e,d1,d2,a⟩:=Y;obtain⟨G,L⟩|⟨G,L⟩|G:(e=true/\((p:Int)==0)=true)\/(e=true/\((p:Int)==0)=false)\/e=false:=by cases e<;>simp[Decidable.em]
    all_goals
     subst G
     simp only[Bool.true_and,Bool.false_and]at a
     try (have hz:(p==0)=((p:Int)==0):=by(rw[Bool.eq_iff_iff];simp))
     try rw[hz,L]at a
    .gi_wp2_with gi_in;go_roundw
     case rel=>
      refine⟨i,j+1,h,rfl,by go_num,by omega,by omega,KK,f,?_,?_,J⟩
      .obtain⟨⟨d⟩⟩:=k;rw[A,List.filter_append];simp[a,<-d]
      .rw[A,List.filter_append];simp[a,s]
     case measure=>simp[intOf];omega
    all_goals
     gi_wp2_with gi_in
     go_roundw
     case rel=>
      refine⟨i+1,j+1,h.set i (ptr b),by go_num,by go_num,by omega,by omega,KK.setCell _ λ_=>rfl,f.set _ rfl,?_,?_,?_⟩
      .obtain⟨⟨d⟩⟩:=k;rw[A,List.filter_append];simp[a,<-d]
      .rw[A,List.filter_append,List.take_add_one,List.take_set_of_le (w_ i),s,List.getElem?_set_self (by omega)];simp[a,Bj]
      .rw[List.drop_set_of_lt (by omega)];exact J
     case measure=>simp[intOf];omega
   .obtain rfl:j=l.length:=(by omega);rw[List.take_length]at k s;obtain⟨⟨d⟩⟩:=k;have n:Rw 119 1 wr g i cap (Bj (l.filter λb=>!gn b)):=by
     obtain⟨C,a1,a2,P⟩:=f.blk
     refine⟨⟨C,a1,a2,?_⟩,by omega,f.max,by simp[Bj,<-d],?_⟩
     .rw[<-s,<-P,List.take_take];congr 1;omega
     .intro x M;rw[<-s]at M;exact f.one x (List.mem_of_mem_take M)
    have k:Nonempty (PLift (i=(l.filter λb=>!gn b).length)):=⟨⟨d⟩⟩;clear d;have f5:¬cap=i:=(by omega);obtain⟨w2,F,O,S⟩:=Qd (c:=cap-i) (q:=l.length-i) (ty:=0) ap2 n (by omega);simp only[Nat.mul_one]at F;have R:¬(l.length:Int)<(i:Int):=(by omega);gi_wp2;go_ret;obtain⟨⟨d⟩⟩:=k;rw[<-d];exact⟨by simp,KK.then O,S⟩
end
def YN (ps:Nat->d_ PR) (b:Nat):Bool:=match ps b with|some r=>r.en && r.par==0|none=>false
def KS.VX (K:KS):KS:={ K with AP:=K.AP.filter λb=>!YN K.ps b }
section
variable (m:Nat) (w:o_)
theorem uD (K:KS) (h:AV K w) (hT:K.EC) (hl:K.AP.length<=100):
  P_ m 158 #[R_ K.kb] w λe w'=>e=.returned (.tuple #[])/\AV K.VX w'/\BM K.T K.T w w':=by
 obtain⟨p,n,d⟩:=h.k;have q:=h.kc2;have l:∀b∈K.AP,YP (YN K.ps) K.pg w b:=by
  intro b j
  obtain⟨r,a⟩:=hT b j
  refine⟨λe=>?_,r.par,r.en,?_,?_,?_⟩
  .have:=(h.ps b r a).t;rw[e,h.tp]at this;simp at this
  .rw[h.GG a];simp[PR.arr]
  .rw[h.GG a];simp[PR.arr]
  .unfold YN;rw[a]
 have c:=λm=>xQ m w K.pg K.pc K.AP (YN K.ps) h.pr l (by omega)
 have f:K.kb≠K.pg:=λe=>by have:=h.tk;rw[e,h.tp]at this;simp at this
 gi_enter func158,ntmps158;gi_wp2_with (gi_at_call 212;refine(c _).mono ?_;rintro e w1 ⟨rfl,g,i⟩;have k1:=g.old n f;have o:=BO k1 2;have c2:=(Af k1 2).trans d.c2);go_end0;have M:Dv K.T K.T (λt=>t=(1,0)\/t=(4,0)) (λt=>t=(4,0)) w (w1.setCell (T_ K.kb 2) (Q_ K.pg (K.AP.filter λb=>!YN K.ps b).length K.pc)):=Dv.of ((g.on (by rintro k _ rfl;exact .inr h.tp)).setCell _ λ_=>.inl h.tk) h.lt;refine⟨by simp,h.WJ (Cj:=K.Cj) M d (Ah k1 _) ?_ (i.keep ((p_ (At K.kb) _).setCell _ λ_=>rfl) f.symm) h.tp,M.Vt (by rintro t (rfl|rfl)<;>simp)⟩;rw[Qa d.c3]
end
structure FOne (T:Tag) (op:Nat->Nat) (w:o_) (kb b:Nat):Prop where
 file:T b=(10,0)->∃v,w.heap[b]?=some (O_ #[v,b_ (op b)] 191)/\Sj T w b 64 v
 pipe:T b=(11,0)->∃v x y,w.heap[b]?=some (O_ #[v,.bool x,.bool y] 329)/\Sj T w b 16 v
 GL:∀f,T b=(12,f)->∃n:Nat,w.heap[b]?=some (O_ #[.pointer (some (T_ kb 4)),ptr f,b_ n] 339)/\T f=(10,0)/\n<=64
 rend:T b=(13,0)->∃p,w.heap[b]?=some (O_ #[ptr p] 333)/\T p=(11,0)
 Ru:T b=(14,0)->∃p,w.heap[b]?=some (O_ #[ptr p] 335)/\T p=(11,0)
theorem YI.one {T:Tag} {op:Nat->Nat} {w:o_} {kb:Nat} (h:YI T op w kb) (b:Nat):FOne T op w kb b:=⟨h.file b,h.pipe b,h.GL b,h.rend b,h.Ru b⟩
theorem YI.of {T:Tag} {op:Nat->Nat} {w:o_} {kb:Nat} (h:∀b,FOne T op w kb b):YI T op w kb:=⟨λb=>(h b).file,λb=>(h b).pipe,λb=>(h b).GL,λb=>(h b).rend,λb=>(h b).Ru⟩
section
variable {T T':Tag} {op:Nat->Nat} {w w':o_} {kb p:Nat}
theorem FOne.file' (ht:T p=(10,0)) {v:n_} (h1:w.heap[p]?=some (O_ #[v,b_ (op p)] 191)) (h2:Sj T w p 64 v):FOne T op w kb p:=by
 refine⟨λ_=>⟨v,h1,h2⟩,λe=>?_,λd e=>?_,λe=>?_,λe=>?_⟩
 all_goals rw[ht]at e;simp at e
theorem FOne.U3 (ht:T p=(11,0)) {v:n_} {x y:Bool} (h1:w.heap[p]?=some (O_ #[v,.bool x,.bool y] 329)) (h2:Sj T w p 16 v):FOne T op w kb p:=by
 refine⟨λe=>?_,λ_=>⟨v,x,y,h1,h2⟩,λd e=>?_,λe=>?_,λe=>?_⟩
 all_goals rw[ht]at e;simp at e
theorem FOne.Jd {f n:Nat} (ht:T p=(12,f)) (h1:w.heap[p]?=some (O_ #[.pointer (some (T_ kb 4)),ptr f,b_ n] 339)) (h2:T f=(10,0)) (h3:n<=64):FOne T op w kb p:=by
 refine⟨λe=>?_,λe=>?_,λd e=>?_,λe=>?_,λe=>?_⟩
 rotate_left 2
 .rw[ht]at e;obtain rfl:f=d:=by simpa using e
  exact⟨n,h1,h2,h3⟩
 all_goals rw[ht]at e;simp at e
theorem FOne.rend' (ht:T p=(13,0)) {q:Nat} (h1:w.heap[p]?=some (O_ #[ptr q] 333)) (h2:T q=(11,0)):FOne T op w kb p:=by
 refine⟨λe=>?_,λe=>?_,λd e=>?_,λ_=>⟨q,h1,h2⟩,λe=>?_⟩
 all_goals rw[ht]at e;simp at e
theorem FOne.bg8 (ht:T p=(14,0)) {q:Nat} (h1:w.heap[p]?=some (O_ #[ptr q] 335)) (h2:T q=(11,0)):FOne T op w kb p:=by
 refine⟨λe=>?_,λe=>?_,λd e=>?_,λe=>?_,λ_=>⟨q,h1,h2⟩⟩
 all_goals rw[ht]at e;simp at e
theorem FOne.no (ht:(T p).1<10):FOne T op w kb p:=by
 refine⟨λe=>?_,λe=>?_,λd e=>?_,λe=>?_,λe=>?_⟩
 all_goals rw[e]at ht;simp at ht
theorem FOne.keep {b:Nat} (h:FOne T op w kb b) {S:Nat->Prop} (hK:Keep S w w') (hb:¬S b) (hw:∀g,T g=(15,b)->¬S g):FOne T op w' kb b:=by
 have a:∀{M v},Sj T w b M v->Sj T w' b M v:=λh=>by
  obtain h|⟨g,c,a,a1,a2,f,i,d⟩:=h
  .exact .inl h
  .exact .inr ⟨g,c,a,a1,a2.keep hK (hw g d),f,i,d⟩
 refine⟨λe=>?_,λe=>?_,λc e=>?_,λe=>?_,λe=>?_⟩
 .obtain⟨x,a1,a2⟩:=h.file e;exact⟨x,hK.old a1 hb,a a2⟩
 .obtain⟨x,y,z,a1,a2⟩:=h.pipe e;exact⟨x,y,z,hK.old a1 hb,a a2⟩
 .obtain⟨n,a1,a2⟩:=h.GL c e;exact⟨n,hK.old a1 hb,a2⟩
 .obtain⟨x,a1,a2⟩:=h.rend e;exact⟨x,hK.old a1 hb,a2⟩
 .obtain⟨x,a1,a2⟩:=h.Ru e;exact⟨x,hK.old a1 hb,a2⟩
theorem YI.set {b0:Nat} (h:YI T op w kb) {S:Nat->Prop} (hK:Keep S w w') (hS:∀k,S k->(k=b0/\(T k).1≠15)\/T k=(15,b0)) (h0:10<=(T b0).1) (h0':(T b0).1<15) (hp:FOne T op w' kb b0):YI T op w' kb:=YI.of λb=>by
 by_cases e:b=b0
 .subst e;exact hp
 .by_cases d:(T b).1<10\/(T b).1=15
  .obtain d|d:=d
   .exact FOne.no d
   .refine⟨λe=>?_,λe=>?_,λc e=>?_,λe=>?_,λe=>?_⟩<;>rw[e]at d<;>simp at d
  .refine(h.one b).keep hK (λf=>?_) (λg i f=>?_)
   .obtain⟨a,_⟩|a:=hS b f
    .exact e a
    .exact d (.inr (by rw[a]))
   .obtain⟨a,j⟩|a:=hS g f
    .exact j (by rw[i])
    .rw[i]at a;exact e (by simpa using a)
theorem AV.dK {K:KS} {b0:Nat} (h:AV K w) {S:Nat->Prop} (hK:Keep S w w') (hS:∀k,S k->(k=b0/\(K.T k).1≠15)\/K.T k=(15,b0)) (h0:10<=(K.T b0).1) (h0':(K.T b0).1<15) (hp:FOne K.T K.op w' K.kb b0) (hln:K.T b0=(10,0)->¬S b0):AV K w'/\BM K.T K.T w w':=by
 obtain⟨m,d,j⟩:=h.k;have a:∀k,S k->10<=(K.T k).1:=λk d=>by
  obtain⟨rfl,_⟩|c:=hS k d
  .exact h0
  .rw[c];simp
 have M:Dv K.T K.T (λt=>t=(1,0)\/t=(5,0)\/10<=t.1) (λt=>t=(5,0)\/10<=t.1) w w':=Dv.of (hK.on λk _ e=>.inr (.inr (a k e))) h.lt;have i:Dv K.T K.T (λt=>10<=t.1) (λt=>10<=t.1) w w':=Dv.of (hK.on λk _ e=>a k e) h.lt;have f:¬S K.kb:=λe=>by have:=a _ e;rw[h.tk]at this;simp at this
 refine⟨h.Yd (ks':=m) M (hK.old d f) (j.IE i (by simp)) (h.fl.set hK hS h0 h0' hp) (h.dk.to λb n e=>⟨e,λl=>l.keep hK λg=>?_⟩),M.Vt ?_⟩
 .obtain⟨rfl,_⟩|c:=hS b g
  .exact hln e g
  .rw[e]at c;simp at c
 rintro t (rfl|rfl|h)<;>try simp
 rintro rfl;simp at h
theorem AV.PG {K:KS} (h:AV K w) (hK:Keep (At p) w w') (ht:10<=(K.T p).1) (ht':(K.T p).1<15) (h10:(K.T p).1≠10) (hp:FOne K.T K.op w' K.kb p):AV K w'/\BM K.T K.T w w':=
 h.dK hK (λk e=>by subst e;exact .inl ⟨rfl,by omega⟩) ht ht' hp λe=>absurd (by rw[e]) h10
theorem Sj.set {b M:Nat} {v:n_} (h:Sj T w b M v) {S:Nat->Prop} (hK:Keep S w w') (hw:∀g,T g=(15,b)->¬S g):Sj T w' b M v:=by
 obtain h|⟨g,c,f,a1,a2,d,e,a⟩:=h
 .exact .inl h
 .exact .inr ⟨g,c,f,a1,a2.keep hK (hw g a),d,e,a⟩
end
theorem KC.bc8 {K:KS} {w w':o_} {T':Tag} {Q N:Nat×Nat->Prop} {ks:X_} (h:KC K w ks) (M:Dv K.T T' Q N w w') {l:List Nat} {v:n_} (hv:ve T' w' l v):KC { K with nl:=l,T:=T' } w' (ks.setIfInBounds 20 v):=by
 obtain⟨_,a,_⟩:=h.nl;have g:20<ks.size:=(y_.1 a).1;refine⟨?_,?_,?_,?_,λi f=>?_,⟨v,by simp[g],hv⟩,λi f=>?_⟩
 .rw[G6 (by omega)];exact h.c0
 .rw[G6 (by omega)];exact h.c1
 .rw[G6 (by omega)];exact h.c2
 .rw[G6 (by omega)];exact h.c3
 .rw[G6 (by omega)];exact⟨(h.nm i f).1,λb e=>M.tag ((h.nm i f).2 b e) (by simp)⟩
 .rw[G6 (by omega),G6 (by omega)];exact let ⟨v,a,b,c,d⟩:=h.en i f;⟨v,a,b,c,λe=>(d e).IE M⟩
section
variable (m:Nat) (w:o_)
theorem wI (K:KS) (b:Nat) (h:AV K w) (hb:K.T b=(13,0)):P_ m 269 #[R_ b] w λe w'=>e=.returned (.tuple #[])/\AV K w'/\BM K.T K.T w w':=by
 obtain⟨p,f,a⟩:=h.fl.rend b hb;obtain⟨v,x,y,c,i⟩:=h.fl.pipe p a;have j:w.cell? (S_ b)=some (R_ p):=(Af f 0).trans rfl;have d1:w.cell? (T_ p 1)=some (.bool x):=(Af c 1).trans rfl;have k:=BO c 1;gi_enter func269,ntmps269;gi_wp2;go_end0;have:=h.PG (p:=p) (w':=w.setCell (T_ p 1) (.bool false)) ((p_ _ _).setCell _ λ_=>rfl) (by rw[a];simp) (by rw[a];simp) (by rw[a];simp) (FOne.U3 (v:=v) (x:=false) (y:=y) a (Ah c _) (i.set (Keep.Oa (b:=p) (o:=1) (.bool false)) (λg d e=>by rw[show g=p from e,a]at d;simp at d)));exact⟨by simp,this.1,this.2⟩
theorem vN (K:KS) (b:Nat) (h:AV K w) (hb:K.T b=(14,0)):P_ m 276 #[R_ b] w λe w'=>e=.returned (.tuple #[])/\AV K w'/\BM K.T K.T w w':=by
 obtain⟨p,f,a⟩:=h.fl.Ru b hb;obtain⟨v,x,y,c,i⟩:=h.fl.pipe p a;have j:w.cell? (S_ b)=some (R_ p):=(Af f 0).trans rfl;have d1:w.cell? (T_ p 2)=some (.bool y):=(Af c 2).trans rfl;have k:=BO c 2;gi_enter func276,ntmps276;gi_wp2;go_end0;have:=h.PG (p:=p) (w':=w.setCell (T_ p 2) (.bool false)) ((p_ _ _).setCell _ λ_=>rfl) (by rw[a];simp) (by rw[a];simp) (by rw[a];simp) (FOne.U3 (v:=v) (x:=x) (y:=false) a (Ah c _) (i.set (Keep.Oa (b:=p) (o:=2) (.bool false)) (λg d e=>by rw[show g=p from e,a]at d;simp at d)));exact⟨by simp,this.1,this.2⟩
end
theorem dZ:NI prog 103 101 (.pointer none) 1 8:=⟨underlying103,by kernel_rfl,by rfl,by decide,by intro x a;simp[Value.cells]at a;subst a;rfl⟩
def YQ (gn:Nat->Bool) (g:Nat) (w:o_) (b:Nat):Prop:=b≠g/\∃n:Int,w.cell? (T_ b 1)=some (b_ n)/\gn b=(n==0)
theorem YQ.keep {gn:Nat->Bool} {g b:Nat} {w w':o_} (h:YQ gn g w b) (hK:Keep (At g) w w'):YQ gn g w' b:=by
 obtain⟨a,h⟩:=h;refine⟨a,?_⟩;obtain⟨n,c,d⟩:=h;exact⟨n,(hK.cell (World.block_lt_of_cell? _ _ c) a).trans c,d⟩
section
variable (m:Nat) (w:o_)
theorem Ϸ (g cap:Nat) (l:List Nat) (gn:Nat->Bool) (hR:Rw 101 1 w g l.length cap (Bj l)) (hc:∀b∈l,YQ gn g w b) (hl:l.length<=100000):
  P_ m 248 #[Q_ g l.length cap,.func (.func 246) #[] #[]] w λe w'=>Keep No w w'/\((e=.returned (b_ (-1))/\∀b∈l,gn b=false)\/∃k b,e=.returned (b_ (k:Nat))/\l[k]?=some b/\gn b=true/\∀(j:Nat) b,j<k->l[j]?=some b->gn b=false):=by
 gi_enter func248,ntmps248;gi_wp2;gi_loopw [8] (λi wr=>∃k:Nat,k<=l.length/\i=b_ k/\Keep No w wr/\∀(j:Nat) b,j<k->l[j]?=some b->gn b=false) (λi _=>l.length-(intOf i).toNat)
 case atStart=>exact⟨0,by omega,rfl,p_ _ _,λj b h=>absurd h (by omega)⟩
 case round=>
  obtain⟨k,x,rfl,KK,f⟩:=hrel
  by_cases r:k<l.length
  .have c:l[k]?=some l[k]:=Ii r;generalize l[k]=b at c;have u:wr.cell? (T_ g k)=some (R_ b):=(by rw[Rw.cell (hR.keep KK id) (by omega)];simp[Bj,c,ptr]);obtain⟨_,t⟩:=(hc b (t_ c)).keep KK.no;obtain⟨n,d1,a⟩:=t;obtain p|p:(n==0)=true\/(n==0)=false:=by cases n==0<;>simp
   all_goals rw[p]at a
   .gi_wp2_with gi_in;go_ret;exact⟨KK,.inr ⟨k,b,by simp,c,a,f⟩⟩
   all_goals
    gi_wp2_with gi_in
    go_roundw
    case rel=>
     refine⟨k+1,by omega,by go_num,KK,λj q v d=>?_⟩
     by_cases e:j=k
     .subst e;rw[c]at d;cases d;exact a
     .exact f j q (by omega) d
    case measure=>simp[intOf];omega
  .obtain rfl:k=l.length:=(by omega);gi_wp2;go_ret;refine⟨KK,.inl ⟨by simp,λb s=>?_⟩⟩;obtain⟨i,o⟩:=List.getElem?_of_mem s;exact f i b (LQ.1 o).1 o
theorem xP (g cap:Nat) (l:List Nat) (gn:Nat->Bool) (hR:Rw 101 1 w g l.length cap (Bj l)) (hc:∀b∈l,YQ gn g w b) (hl:l.length<=100000):
  P_ m 245 #[Q_ g l.length cap,.func (.func 246) #[] #[]] w λe w'=>e=.returned (Q_ g (l.filter λb=>!gn b).length cap)/\Keep (At g) w w'/\Rw 101 1 w' g (l.filter λb=>!gn b).length cap (Bj (l.filter λb=>!gn b)):=by
 have c:=λm=>Ϸ m w g cap l gn hR hc hl
 gi_enter func245,ntmps245;gi_wp2_with (gi_at_call 248;refine(c _).mono ?_;rintro e w1 ⟨u,⟨rfl,W⟩|⟨t,Z,rfl,p,E,r⟩⟩<;>try (have f0:((t:Int)==-1)=false:=(by simp);have U:=(LQ.1 p).1))
 .go_ret;have e:l.filter (λb=>!gn b)=l:=List.filter_eq_self.2 λb D=>by simp[W b D]
  rw[e];exact⟨by simp,u.no,hR.keep u id⟩
 .gi_loopw [5,6] (λP B wr=>∃(i j:Nat) (h:U_),P=b_ i/\B=b_ j/\i<j/\j<=l.length/\Keep (At g) w wr/\Rw 101 1 wr g l.length cap h/\i=((l.take j).filter λb=>!gn b).length/\h.take i=Bj ((l.take j).filter λb=>!gn b)/\h.drop j=Bj (l.drop j)) (λ_ B _=>l.length-(intOf B).toNat)
  case atStart=>
   have e:(l.take (t+1)).filter (λb=>!gn b)=l.take t:=by
    rw[List.take_add_one,p,List.filter_append]
    simp only[Option.toList_some,List.filter_cons,E,Bool.not_true,List.filter_nil]
    simp only[Bool.false_eq_true,if_false,List.append_nil]
    refine List.filter_eq_self.2 λb D=>?_
    obtain⟨j,z⟩:=List.getElem?_of_mem D
    rw[List.getElem?_take]at z
    split at z
    .rename_i G;simp[r j b G z]
    .cases z
   refine⟨t,t+1,Bj l,rfl,by go_num,by omega,by omega,u.no,hR.keep u id,?_,?_,?_⟩
   .rw[e,List.length_take];omega
   .rw[e];simp[Bj]
   .simp[Bj]
  case round=>
   obtain⟨i,j,h,rfl,rfl,S,T,KK,f,a,s,J⟩:=hrel
   have k:Nonempty (PLift (i=((l.take j).filter λb=>!gn b).length)):=⟨⟨a⟩⟩
   clear a
   have V:=f.le
   have Y:=f.len
   by_cases M:j<l.length
   .have y:l[j]?=some l[j]:=Ii M;generalize l[j]=b at y;have H:h[j]?=some (ptr b):=by
     have:(h.drop j)[0]?=some (ptr b):=by rw[J];simp[Bj,y]
     simpa using this
    have d0:wr.cell? (T_ g j)=some (R_ b):=(by rw[f.cell (by omega),H];rfl);have A:l.take (j+1)=l.take j++[b]:=(by rw[List.take_add_one,y];rfl);have I:h.drop (j+1)=Bj (l.drop (j+1)):=by
     have:=congrArg (List.drop 1) J
     simpa [Bj,List.drop_drop]using this
    have fz:=f.fz i;have Q:(i:Int)<(l.length:Int):=(by omega);have ci:∃v,wr.cell? (T_ g i)=some v:=by
     rw[f.cell (by omega)]
     exact⟨_,Ii (by omega)⟩
    obtain⟨vi,ci⟩:=ci;obtain⟨_,X⟩:=(hc b (t_ y)).keep KK;obtain⟨n,d1,d⟩:=X;obtain K|K:(n==0)=true\/(n==0)=false:=by cases n==0<;>simp
    all_goals rw[K]at d
    .gi_wp2_with gi_in;go_roundw
     case rel=>
      refine⟨i,j+1,h,rfl,by go_num,by omega,by omega,KK,f,?_,?_,I⟩
      .obtain⟨⟨a⟩⟩:=k;rw[A,List.filter_append];simp[d,<-a]
      .rw[A,List.filter_append];simp[d,s]
     case measure=>simp[intOf];omega
    all_goals
     gi_wp2_with gi_in
     go_roundw
     case rel=>
      refine⟨i+1,j+1,h.set i (ptr b),by go_num,by go_num,by omega,by omega,KK.setCell _ λ_=>rfl,f.set _ rfl,?_,?_,?_⟩
      .obtain⟨⟨a⟩⟩:=k;rw[A,List.filter_append];simp[d,<-a]
      .rw[A,List.filter_append,List.take_add_one,List.take_set_of_le (w_ i),s,List.getElem?_set_self (by omega)];simp[d,Bj]
      .rw[List.drop_set_of_lt (by omega)];exact I
     case measure=>simp[intOf];omega
   .obtain rfl:j=l.length:=(by omega);rw[List.take_length]at k s;obtain⟨⟨a⟩⟩:=k;have o:Rw 101 1 wr g i cap (Bj (l.filter λb=>!gn b)):=by
     obtain⟨C,a1,a2,O⟩:=f.blk
     refine⟨⟨C,a1,a2,?_⟩,by omega,f.max,by simp[Bj,<-a],?_⟩
     .rw[<-s,<-O,List.take_take];congr 1;omega
     .intro x L;rw[<-s]at L;exact f.one x (List.mem_of_mem_take L)
    have k:Nonempty (PLift (i=(l.filter λb=>!gn b).length)):=⟨⟨a⟩⟩;clear a;have f5:¬cap=i:=(by omega);obtain⟨w2,F,N,R⟩:=Qd (c:=cap-i) (q:=l.length-i) (ty:=0) dZ o (by omega);simp only[Nat.mul_one]at F;have Q:¬(l.length:Int)<(i:Int):=(by omega);gi_wp2;go_ret;obtain⟨⟨a⟩⟩:=k;rw[<-a];exact⟨by simp,KK.then N,R⟩
end
section
variable (m:Nat) (w:o_)
theorem bG:P_ m 248 #[.slice none 0 0,.func (.func 246) #[] #[]] w λe w'=>e=.returned (b_ (-1))/\w'=w:=by
 gi_enter func248,ntmps248;gi_wp2;refine wpIn_loop_once ?_;gi_wp2;go_ret;exact⟨by simp,rfl⟩
theorem YC:P_ m 245 #[.slice none 0 0,.func (.func 246) #[] #[]] w λe w'=>e=.returned (.slice none 0 0)/\w'=w:=by
 have c:=λm=>bG m w
 gi_enter func245,ntmps245;gi_wp2_with (gi_at_call 248;refine(c _).mono ?_;rintro e w1 ⟨rfl,rfl⟩);go_ret;exact⟨by simp,rfl⟩
theorem Zo (K:KS) (h:AV K w) (hu:K.nl.length<=100000):P_ m 234 #[.pointer (some (T_ K.kb 4))] w λe w'=>e=.returned (.tuple #[])/\AV { K with nl:=K.nl.filter λb=>!(K.op b==0) } w'/\BM K.T K.T w w':=by
 obtain⟨N,o,s⟩:=h.k;obtain⟨v,C,F,A⟩:=s.nl;have q:=(Af o 20).trans C;have L:=BO o 20;obtain⟨rfl,B⟩|⟨g,j,rfl,G,n⟩:=F
 .have c:=λm=>YC m w
  gi_enter func234,ntmps234;gi_wp2_with (gi_at_call 245;refine(c _).mono ?_;rintro e w1 ⟨rfl,rfl⟩);go_end0;have M:Dv K.T K.T (λt=>t=(1,0)\/t=(5,0)\/10<=t.1) (λt=>t=(5,0)\/10<=t.1) w1 (w1.setCell (T_ K.kb 20) (.slice none 0 0)):=Dv.of ((p_ _ _).setCell _ λ_=>.inl h.tk) h.lt;have a:Dv K.T K.T (λt=>t=(1,0)) (λt=>t=(5,0)) w1 (w1.setCell (T_ K.kb 20) (.slice none 0 0)):=Dv.of ((p_ _ _).setCell _ λ_=>h.tk) h.lt;exact⟨by simp,h.Yd M (Ah o _) ((s.IE a (by simp)).br1 ⟨.inl ⟨rfl,by rw[B];rfl⟩,by rw[B];simp⟩) (h.fl.IE a (by rintro t rfl;simp) (by rintro t rfl;simp)) ((h.dk.IE a (by simp) (by simp)).sub λI _=>Nat.add_le_add_left Nr _),a.Vt (by rintro t rfl;simp)⟩
 .have H:∀b∈K.nl,YQ (λb=>K.op b==0) g w b:=by
   intro b i
   have y:=A b i
   obtain⟨x,E,_⟩:=h.fl.file b y
   refine⟨λe=>(by rw[e,n]at y;simp at y),K.op b,(Af E 1).trans rfl,?_⟩
   rw[Bool.eq_iff_iff];simp
  have c:=λm=>xP m w g j K.nl (λb=>K.op b==0) G H (by omega)
  have z:K.kb≠g:=λe=>by have:=h.tk;rw[e,n]at this;simp at this
  have d:∀b∈K.nl.filter (λb=>!(K.op b==0)),K.T b=(10,0):=λb i=>A b (List.mem_filter.1 i).1
  have l:∀f,BD f (K.nl.filter (λb=>!(K.op b==0)))<=BD f K.nl:=λf=>Nr
  generalize K.nl.filter (λb=>!(K.op b==0))=u at c d l;gi_enter func234,ntmps234;gi_wp2_with (gi_at_call 245;refine(c _).mono ?_;rintro e w1 ⟨rfl,r,D⟩;have k1:=r.old o z;have J:=BO k1 20;have c2:=(Af k1 20).trans C);go_end0;have M:Dv K.T K.T (λt=>t=(1,0)\/t=(5,0)\/10<=t.1) (λt=>t=(5,0)\/10<=t.1) w (w1.setCell (T_ K.kb 20) (Q_ g u.length j)):=Dv.of ((r.on (by rintro k _ rfl;exact .inr (.inl n))).setCell _ λ_=>.inl h.tk) h.lt;have a:Dv K.T K.T (λt=>t=(1,0)\/t=(5,0)) (λt=>t=(5,0)) w (w1.setCell (T_ K.kb 20) (Q_ g u.length j)):=Dv.of ((r.on (by rintro k _ rfl;exact .inr n)).setCell _ λ_=>.inl h.tk) h.lt;have R2:=D.keep ((p_ (At K.kb) w1).setCell (p:=(T_ K.kb 20)) (Q_ g u.length j) λ_=>rfl) z.symm;exact⟨by simp,h.Yd M (Ah k1 _) (KC.bc8 s a ⟨.inr ⟨g,j,rfl,R2,n⟩,d⟩) (h.fl.IE a (by rintro t (rfl|rfl)<;>simp) (by rintro t rfl;simp)) ((h.dk.IE a (by simp) (by simp)).sub λI _=>Nat.add_le_add_left (l _) _),a.Vt (by rintro t (rfl|rfl)<;>simp)⟩
theorem AV.an8 {K:KS} {w:o_} {f n:Nat} (h:AV K w) (hf:K.T f=(10,0)):AV { K with op:=Ar K.op f n } (w.setCell (T_ f 1) (b_ n))/\BM K.T K.T w (w.setCell (T_ f 1) (b_ n)):=by
 obtain⟨C,B,A⟩:=h.k;have i:Keep (At f) w (w.setCell (T_ f 1) (b_ n)):=(p_ _ _).setCell _ λ_=>rfl
 have M:Dv K.T K.T (λt=>t=(1,0)\/t=(5,0)\/10<=t.1) (λt=>t=(5,0)\/10<=t.1) w (w.setCell (T_ f 1) (b_ n)):=Dv.of (i.on λk _ e=>by subst e;exact .inr (.inr (by rw[hf];simp))) h.lt;have p:Dv K.T K.T (λt=>t=(10,0)) (λt=>t=(10,0)) w (w.setCell (T_ f 1) (b_ n)):=Dv.of (i.on λk _ e=>by subst e;exact hf) h.lt;have l:K.kb≠f:=λe=>by rw[<-e,h.tk]at hf;simp at hf
 refine⟨h.Yd (ks':=C) M (i.old B l) ((A.IE p (by simp)).op _) (YI.of λb=>?_) (h.dk.to λb m e=>⟨e,λu=>?_⟩),p.Vt (by rintro t rfl;simp)⟩
 rotate_left
 .by_cases r:b=f
  .subst r;obtain⟨a,c,o,d⟩:=u;exact⟨a,c,b_ n,by rw[Ah d];simp⟩
  .exact u.keep i r
 have x:=h.fl.one b;have j:∀q g,K.T g=(15,q)->¬At f g:=λq g s e=>by rw[show g=f from e,hf]at s;simp at s
 by_cases e:b=f
 .subst e;obtain⟨v,y,z⟩:=x.file hf;exact FOne.file' hf (by rw[Ah y];simp[Ar]) (z.set i (j b))
 .have d:=x.keep i e (j b);refine⟨λt=>?_,d.pipe,d.GL,d.rend,d.Ru⟩;simpa [Ar,e]using d.file t
theorem wY (K:KS) (b f:Nat) (h:AV K w) (hb:K.T b=(12,f)) (hu:K.nl.length<=100000) (ho:1<=K.op f) (ho':K.op f<=100000):P_ m 280 #[R_ b] w λe w'=>e=.returned (.tuple #[])/\AV { K with op:=Ar K.op f (K.op f-1),nl:=K.nl.filter λk=>!(Ar K.op f (K.op f-1) k==0) } w'/\BM K.T K.T w w':=by
 obtain⟨n,g,d,_⟩:=h.fl.GL b f hb;obtain⟨v,i,s⟩:=h.fl.file f d;have q:w.cell? (S_ b)=some (.pointer (some (T_ K.kb 4))):=(Af g 0).trans rfl;have d1:w.cell? (T_ b 1)=some (R_ f):=(Af g 1).trans rfl;have d2:w.cell? (T_ f 1)=some (b_ (K.op f)):=(Af i 1).trans rfl;have r:=BO i 1;have p:b≠f:=λe=>by rw[e,d]at hb;simp at hb
 have a:=h.an8 (n:=K.op f-1) d;have l:((K.op f-1:Nat):Int)=(K.op f:Int)-1:=by omega
 have c:=λm=>Zo m _ _ a.1 hu
 rw[l]at c a;simp only at c;gi_enter func280,ntmps280;gi_wp2_with (gi_at_call 234;refine(c _).mono ?_;rintro e w1 ⟨rfl,o,j⟩);go_end0;exact⟨by simp,o,a.2.trans j⟩
end
section
variable {K:KS} {w:o_} {i n:Nat} {v:n_} {o:d_ Nat} {ks:X_}
theorem KC.yO (h:KC K w ks) (hi:i<20) (hd:0<K.desc i):KC { K with desc:=Ar K.desc i n } w (ks.setIfInBounds (21+i*2+1) (b_ n)):=by
 obtain⟨v,a,d,b,c⟩:=h.en i hi;have:=h.lu (n:=n) (v:=v) (o:=K.ef i) hi b λ_=>c hd
 rw[Qa a]at this;have e:Ar K.ef i (K.ef i)=K.ef:=by funext k;unfold Ar;split;subst_vars;rfl;rfl
 rw[e]at this;exact this
theorem AV.yO (h:AV K w) (hi:i<20) (hd:0<K.desc i):AV { K with desc:=Ar K.desc i n } (w.setCell (T_ K.kb (21+i*2+1)) (b_ n))/\BM K.T K.T w (w.setCell (T_ K.kb (21+i*2+1)) (b_ n)):=by
 obtain⟨f,d,c⟩:=h.k;have b:Keep (At K.kb) w (w.setCell (T_ K.kb (21+i*2+1)) (b_ n)):=(p_ _ _).setCell _ λ_=>rfl
 have M:Dv K.T K.T (λt=>t=(1,0)\/t=(5,0)\/10<=t.1) (λt=>t=(5,0)\/10<=t.1) w (w.setCell (T_ K.kb (21+i*2+1)) (b_ n)):=Dv.of (b.on λk _ e=>by subst e;exact .inl h.tk) h.lt;have a:Dv K.T K.T (λt=>t=(1,0)) (λt=>t=(1,0)) w (w.setCell (T_ K.kb (21+i*2+1)) (b_ n)):=Dv.of (b.on λk _ e=>by subst e;exact h.tk) h.lt;exact⟨h.Yd M (Ah d _) ((c.IE a (by simp)).yO hi hd) (h.fl.IE a (by rintro t rfl;simp) (by rintro t rfl;simp)) (h.dk.IE a (by simp) (by simp)),a.Vt (by rintro t rfl;simp)⟩
theorem AV.lu (h:AV K w) (hi:i<20) (h1:v.oneCell'=true) (hv:0<n->Oz K.T v o) {w':o_} (hK:Keep (At K.kb) w w') (hk':∀ks,w.heap[K.kb]?=some (O_ ks 114)->w'.heap[K.kb]?=some (.cells ((ks.setIfInBounds (21+i*2) v).setIfInBounds (21+i*2+1) (b_ n)) 114 (0,0))):AV { K with desc:=Ar K.desc i n,ef:=Ar K.ef i o } w'/\BM K.T K.T w w':=by
 obtain⟨ks,c,b⟩:=h.k;have M:Dv K.T K.T (λt=>t=(1,0)\/t=(5,0)\/10<=t.1) (λt=>t=(5,0)\/10<=t.1) w w':=Dv.of (hK.on λk _ e=>by subst e;exact .inl h.tk) h.lt;have a:Dv K.T K.T (λt=>t=(1,0)) (λt=>t=(1,0)) w w':=Dv.of (hK.on λk _ e=>by subst e;exact h.tk) h.lt;exact⟨h.Yd M (hk' ks c) ((b.IE a (by simp)).lu hi h1 hv) (h.fl.IE a (by rintro t rfl;simp) (by rintro t rfl;simp)) (h.dk.IE a (by simp) (by simp)),a.Vt (by rintro t rfl;simp)⟩
theorem AV.uU (h:AV K w) (hi:i<20):∃v,w.cell? (T_ K.kb (21+i*2))=some v/\w.cell? (T_ K.kb (21+i*2+1))=some (b_ (K.desc i))/\v.oneCell'=true/\(0<K.desc i->Oz K.T v (K.ef i)):=by
 obtain⟨g,a,f⟩:=h.k;obtain⟨v,b,c,d,e⟩:=f.en i hi;exact⟨v,(Af a _).trans b,(Af a _).trans c,d,e⟩
theorem AV.yx (h:AV K w) (j:Nat):w.frozen? (T_ K.kb j)=false:=let ⟨_,hk,_⟩:=h.k;BO hk j
end
theorem Oz.shape {T:Tag} {v:n_} {o:d_ Nat} (h:Oz T v o):∃t b,v=.iface t (R_ b):=by
 obtain⟨b,⟨h,_⟩|⟨h,_⟩|⟨h,_⟩⟩:=h
 all_goals exact⟨_,b,h⟩
section
variable (m:Nat) (w:o_)
theorem ca4 (K:KS) (i:Nat) (h:AV K w) (hi:i<20) (hd:0<K.desc i):
  P_ m 203 #[.pointer (some (T_ K.kb 21)),b_ (i:Nat)] w λe w'=>Keep No w w'/\∃v,e=.returned v/\Oz K.T v (K.ef i):=by
 obtain⟨v,c,d,f,a⟩:=h.uU hi;have b:(i:Int)<20:=by omega
 gi_enter func203,ntmps203;gi_wp2;go_ret;exact⟨p_ _ _,v,by simp,a hd⟩
theorem fO (K:KS) (i:Nat) (h:AV K w) (hi:i<20) (hd:0<K.desc i) (JM:K.desc i<=1000):
  P_ m 193 #[.pointer (some (T_ K.kb 21)),b_ (i:Nat)] w λe w'=>e=.returned (.tuple #[])/\AV { K with desc:=Ar K.desc i (K.desc i+1) } w'/\BM K.T K.T w w':=by
 obtain⟨v,g,b,j,k⟩:=h.uU hi;have d:(i:Int)<20:=by omega
 gi_enter func193,ntmps193;gi_wp2;refine Bi 10 16 ?_;gi_wp2;refine CZ ?_ ?_
 .intro W a;have d2:=a.has (w:=w.drew) b
  repeat' (refine Ae ?_ ?_)
  all_goals first|exact trivial|gi_wp2
 .intro W a;have KW:Keep No w W:=(p_ No w).drew.then a;have c:=h.no KW;have d2:=KW.has b;have f:=c.yx (21+i*2+1);gi_wp2;go_end0;have:=c.yO (n:=K.desc i+1) hi hd;push_cast at this;exact⟨by simp,this.1,(BM.no KW h.lt).trans this.2⟩
theorem Wx (K:KS) (v:n_) (o:d_ Nat) (h:AV K w) (hv:Oz K.T v o) (hr:∃i,i<20/\K.desc i=0):
  P_ m 201 #[.pointer (some (T_ K.kb 21)),v] w λe w'=>∃i,i<20/\K.desc i=0/\e=.returned (b_ (i:Nat))/\AV { K with desc:=Ar K.desc i 1,ef:=Ar K.ef i o } w'/\BM K.T K.T w w':=by
 obtain⟨z,s,a⟩:=hr;obtain⟨t,b,rfl⟩:=hv.shape;gi_enter func201,ntmps201;gi_wp2;gi_loopw [5] (λi wr=>∃k:Nat,k<=z/\i=b_ k/\Keep No w wr) (λi _=>z-(intOf i).toNat)
 case atStart=>exact⟨0,by omega,rfl,p_ _ _⟩
 case round=>
  obtain⟨k,j,rfl,KK⟩:=hrel
  have hr:=h.no KK
  obtain⟨u,d1,d2,d3,d4⟩:=hr.uU (i:=k) (by omega)
  have r:(k:Int)<20:=by omega
  by_cases c:K.desc k=0
  .have d:¬(0:Int)<(K.desc k:Int):=(by omega);have f:=hr.yx (21+k*2);have g:=hr.yx (21+k*2+1);gi_wp2;go_ret;have:=hr.lu (i:=k) (n:=1) (v:=.iface t (R_ b)) (o:=o) (by omega) rfl (λ_=>hv) (w':=(wr.setCell (T_ K.kb (21+k*2)) (.iface t (R_ b))).setCell (T_ K.kb (21+k*2+1)) (b_ 1)) (Keep.setCell (Keep.setCell (p_ (At K.kb) wr) _ (p:=(T_ K.kb (21+k*2))) λ_=>rfl) _ (p:=(T_ K.kb (21+k*2+1))) λ_=>rfl) (λl q=>Ah (Ah q _) _);exact⟨k,by omega,c,by simp,this.1,(BM.no KK h.lt).trans this.2⟩
  .have d:(0:Int)<(K.desc k:Int):=(by omega);have:k≠z:=(by rintro rfl;exact c a);gi_wp2;go_roundw
   case rel=>exact⟨k+1,by omega,by go_num,KK⟩
   case measure=>simp[intOf];omega
end
def dm (n:Int):Bool:=n==-1
def FK (l:List Int):Nat:=(l.filter dm).length
def I5 (d:Nat->Nat) (k:Nat):Nat:=((List.range k).filter λi=>d i==0).length
theorem jq {l:List Int} {k:Nat} {n:Int} (h:l[k]?=some n):FK (l.take (k+1))=FK (l.take k)+(if dm n then 1 else 0):=by
 unfold FK;rw[List.take_add_one,h,List.filter_append,List.length_append];cases h':dm n<;>simp[h']
theorem wu (l:List Int):FK l<=l.length:=List.length_filter_le _ _
theorem Xo {l:List Int} (h:1<=FK l):∃i:Nat,l[i]?=some (-1):=by
 unfold FK at h;obtain⟨x,d⟩:=List.exists_mem_of_length_pos (l:=l.filter dm) (by omega);obtain⟨b,a⟩:=List.mem_filter.1 d;obtain⟨i,c⟩:=List.getElem?_of_mem b;exact⟨i,by rw[c];simp[dm]at a;rw[a]⟩
theorem o6 {d:Nat->Nat} {k:Nat}:I5 d (k+1)=I5 d k+(if d k==0 then 1 else 0):=by
 unfold I5;rw[List.range_succ,List.filter_append,List.length_append];cases h:d k==0<;>simp[h]
theorem QH {d:Nat->Nat} (h:1<=I5 d 20):∃i,i<20/\d i=0:=by
 unfold I5 at h;obtain⟨x,c⟩:=List.exists_mem_of_length_pos (l:=(List.range 20).filter λi=>d i==0) (by omega);obtain⟨a,b⟩:=List.mem_filter.1 c;exact⟨x,List.mem_range.1 a,by simpa using b⟩
theorem ϝ (d:Nat->Nat) (k:Nat):I5 d k<=k:=by
 unfold I5;have:=List.length_filter_le (λi=>d i==0) (List.range k);simpa using this
theorem AV.bY {K:KS} {w:o_} {b:Nat} {r:PR} (h:AV K w) (hb:K.ps b=some r) (hn:r.en=false):∃g c,w.cell? (T_ b 9)=some (Q_ g r.fds.length c)/\Rw 3 1 w g r.fds.length c (Fp r.fds)/\K.T g=(8,b)/\r.fd=Q_ g r.fds.length c:=by
 obtain⟨g,c,a,d,e⟩:=(h.ps b r hb).fd hn;exact⟨g,c,by rw[h.GG hb];simp[PR.arr,a],d,e,a⟩
theorem Rw.MR {w:o_} {g n c:Nat} {l:List Int} (h:Rw 3 1 w g n c (Fp l)) (hn:n=l.length) {i:Nat} {x:Int} (hi:l[i]?=some x):w.cell? (T_ g i)=some (b_ x):=by
 have:=(LQ.1 hi).1;rw[h.cell (by omega)];simp[Fp,hi]
theorem AV.an9 {K:KS} {w:o_} {b g c i:Nat} {r:PR} {x:Int} (h:AV K w) (hb:K.ps b=some r) (hn:r.en=false) (h1:r.fd=Q_ g r.fds.length c) (h2:Rw 3 1 w g r.fds.length c (Fp r.fds)) (h3:K.T g=(8,b)):AV (K.Di b { r with fds:=r.fds.set i x }) (w.setCell (T_ g i) (b_ x))/\BM K.T K.T w (w.setCell (T_ g i) (b_ x)):=by
 have d:Keep (At g) w (w.setCell (T_ g i) (b_ x)):=(p_ _ _).setCell _ λ_=>rfl
 have M:Dv K.T K.T (λt=>t=(6,b)\/t=(7,b)\/t=(8,b)\/t=(9,b)) (λt=>t=(6,b)\/t=(7,b)\/t=(8,b)\/t=(9,b)) w (w.setCell (T_ g i) (b_ x)):=Dv.of (d.on λk _ e=>by subst e;exact .inr (.inr (.inl h3))) h.lt;have a:=h.ps b r hb;have f:Keep (On K.T λt=>t=(8,b)) w (w.setCell (T_ g i) (b_ x)):=d.on λk _ e=>by subst e;exact h3
 refine⟨h.cO M ⟨a.t,d.old a.o (λe=>?_),λe=>?_,λ_=>?_,a.bl.keep f (by simp),λe=>absurd e (by simp[hn])⟩,M.Vt (by rintro t (rfl|rfl|rfl|rfl)<;>simp)⟩
 .have:=a.t;rw[show b=g from e,h3]at this;simp at this
 .obtain⟨m,l,a1,a2,j⟩:=a.im e;exact⟨m,l,a1,a2.keep f (by unfold On;rw[j];simp),j⟩
 .have:=h2.set (i:=i) (b_ x) rfl;refine⟨g,c,by rw[h1];simp,?_,h3⟩;simpa [Fp,List.map_set]using this
section
variable (m:Nat) (w:o_)
theorem Wu (K:KS) (b fd:Nat) (r:PR) (h:AV K w) (hb:K.ps b=some r) (hn:r.en=false) (hf:fd<65536):
  P_ m 202 #[R_ b,a_ (fd:Nat)] w λe w'=>Keep No w w'/\∃x:Bool,e=.returned (.bool x)/\(x=true->∃n:Int,r.fds[fd]?=some n/\n≠-1):=by
 obtain⟨g,c,l,k,_,_⟩:=h.bY hb hn;by_cases i:fd<r.fds.length
 .have j:(fd:Int)<(r.fds.length:Int):=by omega
  have a:r.fds[fd]?=some r.fds[fd]:=Ii i;generalize r.fds[fd]=n at a;have d:=k.MR rfl a;obtain f|f:(n !=-1)=true\/(n !=-1)=false:=by cases n !=-1<;>simp
  .gi_enter func202,ntmps202;gi_wp2;go_ret;exact⟨p_ _ _,true,by simp,λ_=>⟨n,a,by simpa using f⟩⟩
  .obtain rfl:n=-1:=(by simpa using f);gi_enter func202,ntmps202;gi_wp2;go_ret;exact⟨p_ _ _,false,by simp,λe=>by cases e⟩
 .have j:¬(fd:Int)<(r.fds.length:Int):=by omega
  gi_enter func202,ntmps202;gi_wp2;go_ret;exact⟨p_ _ _,by simp⟩
theorem fM (K:KS) (b:Nat) (r:PR) (h:AV K w) (hb:K.ps b=some r) (hn:r.en=false) (hl:r.fds.length<=1000):
  P_ m 204 #[R_ b] w λe w'=>Keep No w w'/\e=.returned (b_ (FK r.fds)):=by
 obtain⟨g,c,x,u,_,_⟩:=h.bY hb hn;gi_enter func204,ntmps204;gi_wp2;gi_loopw [3,11] (λa i wr=>∃k:Nat,k<=r.fds.length/\a=b_ (FK (r.fds.take k))/\i=b_ k/\Keep No w wr) (λ_ i _=>r.fds.length-(intOf i).toNat)
 case atStart=>exact⟨0,by omega,rfl,rfl,p_ _ _⟩
 case round=>
  obtain⟨k,v,rfl,rfl,KK⟩:=hrel
  have l:=wu (r.fds.take k)
  have q:(r.fds.take k).length<=k:=List.length_take_le _ _
  by_cases t:k<r.fds.length
  .have j:r.fds[k]?=some r.fds[k]:=Ii t;generalize r.fds[k]=n at j;have d:=(u.keep KK id).MR rfl j;have f:=jq j;generalize FK (r.fds.take k)=s at f l;generalize p:FK (r.fds.take (k+1))=y at f;obtain o|o:(n==-1)=true\/(n==-1)=false:=by cases n==-1<;>simp
   .simp only[dm,o,if_true]at f;gi_wp2;go_roundw
    case rel=>exact⟨k+1,by omega,by rw[p,f];go_num,by go_num,KK⟩
    case measure=>simp[intOf];omega
   .simp only[dm,o]at f;gi_wp2;go_roundw
    case rel=>exact⟨k+1,by omega,by rw[p,f];go_num,by go_num,KK⟩
    case measure=>simp[intOf];omega
  .obtain rfl:k=r.fds.length:=(by omega);gi_wp2;go_ret;exact⟨KK,by simp⟩
theorem Ϲ (g c:Nat) (l:List Int) (hR:Rw 3 1 w g l.length c (Fp l)) (hs:∃i:Nat,l[i]?=some (-1)) (hl:l.length<=1000):
  P_ m 232 #[Q_ g l.length c,b_ (-1)] w λe w'=>Keep No w w'/\∃i:Nat,e=.returned (b_ i)/\l[i]?=some (-1):=by
 obtain⟨z,f⟩:=hs;have o:=(LQ.1 f).1;gi_enter func232,ntmps232;gi_wp2;gi_loopw [8] (λi wr=>∃k:Nat,k<=z/\i=b_ k/\Keep No w wr) (λi _=>z-(intOf i).toNat)
 case atStart=>exact⟨0,by omega,rfl,p_ _ _⟩
 case round=>
  obtain⟨k,p,rfl,KK⟩:=hrel
  have h:k<l.length:=by omega
  have a:l[k]?=some l[k]:=Ii h
  generalize l[k]=n at a
  have d:=(hR.keep KK id).MR rfl a
  by_cases b:n=-1
  .subst b;gi_wp2;go_ret;exact⟨KK,k,by simp,a⟩
  .have j:(-1==n)=false:=(by simpa using(λe=>b e.symm:¬-1=n));have:k≠z:=(by rintro rfl;rw[a]at f;exact b (by simpa using f));gi_wp2;go_roundw
   case rel=>exact⟨k+1,by omega,by go_num,KK⟩
   case measure=>simp[intOf];omega
theorem Qy (K:KS) (b:Nat) (x:Int) (r:PR) (h:AV K w) (hb:K.ps b=some r) (hn:r.en=false) (hl:r.fds.length<=1000) (hs:1<=FK r.fds):
  P_ m 200 #[R_ b,b_ x] w λe w'=>∃i:Nat,r.fds[i]?=some (-1)/\e=.returned (b_ i)/\AV (K.Di b { r with fds:=r.fds.set i x }) w'/\BM K.T K.T w w':=by
 obtain⟨g,c,l,f,n,j⟩:=h.bY hb hn;have ci:=λm=>Ϲ m w g c r.fds f (Xo hs) hl
 gi_enter func200,ntmps200;gi_wp2_with (gi_at_call 232;refine(ci _).mono ?_;rintro e w1 ⟨a,i,rfl,k⟩;have l:=a.has l;have o:=(LQ.1 k).1;have p:(i:Int)<(r.fds.length:Int):=(by omega);have d:=(f.keep a id).MR rfl k;have q:=(f.keep a id).fz i);go_ret;have:=(h.no a).an9 (i:=i) (x:=x) hb hn j (f.keep a id) n;exact⟨i,k,by simp,this.1,(BM.no a h.lt).trans this.2⟩
theorem ai3 {K:KS} {w:o_} (h:AV K w):∃es:X_,(Instr.loadAt 110 (.pointer (some (T_ K.kb 21)))).run prog w=.ok (.agg es) w/\∀i,i<20->∃v,v.oneCell'=true/\∀w,(Instr.index 110 (.agg es) (b_ (i:Nat))).run prog w=.ok (.agg #[v,b_ (K.desc i)]) w:=by
 obtain⟨a,t,d⟩:=h.k;have y:60<a.size:=by
  obtain⟨_,_,h,_⟩:=d.en 19 (by omega)
  exact(y_.1 h).1
 have b:((a.toList.drop 21).take 40).length=40:=by simp;omega
 have f:=run_loadCells_list (P:=prog) w (T_ K.kb 21) ((a.toList.drop 21).take 40) (λj v c=>by
  have l:((T_ K.kb 21):f_).add j=(T_ K.kb (21+j)):=by unfold Addr.add;split<;>simp_all
  rw[l,Af t]
  rw[List.getElem?_take]at c
  split at c
  .simpa using c
  .cases c)
 rw[b]at f;have a1:∀w,(isAgg 110).run prog w=.ok true w:=λw=>by kernel_rfl
 have a2:∀w,(sizeOf 110).run prog w=.ok 40 w:=λw=>by kernel_rfl
 have m:∀w,(isAgg 109).run prog w=.ok true w:=λw=>by kernel_rfl
 have n:∀w,(sizeOf 109).run prog w=.ok 2 w:=λw=>by kernel_rfl
 refine⟨((a.toList.drop 21).take 40).toArray,by simp[Instr.loadAt,loadVar,Instr.sureAddr,a1,a2,f],λi s=>?_⟩;obtain⟨v,p,q,r,_⟩:=d.en i s;refine⟨v,r,λw=>?_⟩;have e:((a.toList.drop 21).take 40).toArray.extract (i*2) (i*2+2)=#[v,b_ (K.desc i)]:=by
  apply Array.ext_getElem?
  intro j
  rw[Array.getElem?_extract]
  simp only[List.size_toArray,b,List.getElem?_toArray,List.getElem?_take,List.getElem?_drop,Array.getElem?_toList]
  have u:min (i*2+2) 40-i*2=2:=by omega
  rw[u]
  match j with
  |0=>simp;exact⟨by omega,p⟩
  |1=>simp;exact⟨by omega,q⟩
  |j+2=>rw[if_neg (by omega)];simp
 have o:∀w:o_,(asIntOf (b_ (i:Nat))).run prog w=.ok (.i64,(i:Int)) w:=λ_=>rfl
 have x:∀w,(underlying 110).run prog w=.ok (.array 20 109) w:=run_underlying underlying110;generalize ((a.toList.drop 21).take 40).toArray=es at e;have g:(i:Int)<20:=by omega
 simp[Instr.index,o,x,part,m,n,e,g]
theorem vZ {w:o_} {rb:Nat} {a b v u:n_} (h:w.heap[rb]?=some (O_ #[a,b] 109)) (hv:v.oneCell'=true) (hu:u.oneCell'=true):∃w',(Instr.storeAt 109 (R_ rb) (.agg #[v,u])).run prog w=.ok () w'/\Keep (At rb) w w'/\w'.heap[rb]?=some (O_ #[v,u] 109):=by
 have e:(Instr.storeAt 109 (R_ rb) (.agg #[v,u])).run prog w=(stores rb 0 [v,u] (.pure ())).run prog w:=by kernel_rfl
 obtain⟨w',c,d,f⟩:=GR (P:=prog) (k:=Sem.pure ()) [v,u] 0 _ w h (by simp) (by simp[hv,hu]);refine⟨w',?_,d,?_⟩
 .rw[e,c];rfl
 .rw[f];simp[Sz]
theorem af7 (K:KS) (h:AV K w):
  P_ m 231 #[.pointer (some (T_ K.kb 21))] w λe w'=>Keep No w w'/\e=.returned (b_ (I5 K.desc 20)):=by
 obtain⟨E,j,g⟩:=ai3 h;gi_enter func231,ntmps231;gi_wp2_with (refine UN rfl (.tmp 8) 110 rfl rfl j ?_);gi_loopw [3,10] (λa i wr=>∃k:Nat,k<=20/\a=b_ (I5 K.desc k)/\i=b_ k/\Keep No w wr) (λ_ i _=>20-(intOf i).toNat)
 case atStart=>exact⟨0,by omega,rfl,rfl,p_ _ _⟩
 case round=>
  obtain⟨k,F,rfl,rfl,KK⟩:=hrel
  have l:=ϝ K.desc k
  by_cases z:k<20
  .have t:(k:Int)<20:=(by omega);obtain⟨v,o,c⟩:=g k z;have c:=c wr;have f:(wr.alloc (.cells #[.nilIface,b_ 0] 109)).heap[wr.heap.size]?=some (O_ #[.nilIface,b_ 0] 109):=heap_alloc_new rfl;obtain⟨w4,p,A,B⟩:=vZ (v:=v) (u:=b_ (K.desc k)) f o rfl;have r:Keep No w w4:=(KK.alloc _).trans A λx C e=>absurd C (by rw[show x=wr.heap.size from e];have:=KK.size;omega)
   have D:w4.cell? (T_ wr.heap.size 1)=some (b_ (K.desc k)):=(Af B 1).trans rfl;have b:=o6 (d:=K.desc) (k:=k);generalize I5 K.desc k=s at b l;generalize q:I5 K.desc (k+1)=y at b;obtain n|n:((K.desc k:Int)==0)=true\/((K.desc k:Int)==0)=false:=by cases (K.desc k:Int)==0<;>simp
   .have b:y=s+1:=(by simpa [show K.desc k=0 by simpa using n]using b);gi_wp2_with (first|refine Qx rfl (.tmp 9) (.tmp 10) 110 rfl rfl rfl c ?_|refine Dk rfl (.tmp 5) (.tmp 12) 109 rfl rfl rfl p ?_);go_roundw
    case rel=>exact⟨k+1,by omega,by rw[q,b];go_num,by go_num,r⟩
    case measure=>simp[intOf];omega
   .have b:y=s:=(by simpa [show ¬K.desc k=0 by simpa using n]using b);gi_wp2_with (first|refine Qx rfl (.tmp 9) (.tmp 10) 110 rfl rfl rfl c ?_|refine Dk rfl (.tmp 5) (.tmp 12) 109 rfl rfl rfl p ?_);go_roundw
    case rel=>exact⟨k+1,by omega,by rw[q,b],by go_num,r⟩
    case measure=>simp[intOf];omega
  .obtain rfl:k=20:=(by omega);gi_wp2;go_ret;exact⟨KK,by simp⟩
end
end Go.Fxa
