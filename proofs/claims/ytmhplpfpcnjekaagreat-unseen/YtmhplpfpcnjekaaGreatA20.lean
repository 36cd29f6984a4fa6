/- Maps of free blocks: Take. -/
import Derived.Test.YtmhplpfpcnjekaaGreatA19
namespace Go.Fxa
open Conc Proofs RowKit Proofs.Tryz
set_option maxRecDepth 1000000
set_option maxHeartbeats 0
variable {N a n i:Nat} {l:List (W_)} {ops:Array Oper} {Q:Exit->Act->o_->Prop} {w:o_}
def Aq (l:List (W_)) (n:Nat):d_ Nat×List (W_):=
 if n<1 then(none,l)else match l.findIdx? (λr=>decide (n<=r.2))with
 |none=>(none,l)
 |some i=>match l[i]? with
  |none=>(none,l)
  |some r=>(some r.1,if r.2=n then l.take i++l.drop (i+1)else l.set i (r.1+n,r.2-n))
def Oc:d_ Nat->n_
 |none=>.tuple #[.int .i64 0,.bool false]
 |some a=>.tuple #[.int .i64 a,.bool true]
def Fit (N:Nat) (l:List (W_)):Prop:=l.length<=N/\∀(i:Nat) r,l[i]?=some r->r.1+r.2<=N
section
variable (m:Nat) (w:o_)
theorem takeC (kb g cap n N:Nat) (U:j_) (Y:X_) (l:List (W_)) (h:Hd 186 w kb 0 U Y g cap l) (Z:Fit N l) (hN:N<=10000) (hn:n<=10000):
  O_ m 92 #[Q_ kb,b_ (n:Nat)] w λe w'=>e=.returned (Oc (Aq l n).1)/\Ac (ZA kb g) w w'/\w'.heap[kb]?=some (.cells (Y.setIfInBounds 0 (P_ g (Aq l n).2.length cap)) U (0,0))/\Mp 186 w' g cap (Aq l n).2:=by
 have s:=h.apart;obtain⟨L,y⟩:=Z;have A:(w.alloc (.cells #[b_ n] 3)).heap[w.heap.size]?=some (.cells #[b_ n] 3):=Y7 rfl;have c:Ac No w (w.alloc (.cells #[b_ n] 3)):=(Ac.refl _ _).alloc _;have q:=h.keep c id id;have d3:(w.alloc (.cells #[b_ n] 3)).cell? (R_ w.heap.size)=some (b_ n):=bce A rfl;have d4:(w.alloc (.cells #[b_ n] 3)).cell? (R_ kb)=some (P_ g l.length cap):=(Ah q.k _).trans h.v;have p:=λm=>ap0 m (w.alloc (.cells #[b_ n] 3)) g cap w.heap.size n l q.mp d3 zD
 by_cases d:n<1
 .have J:(n:Int)<1:=zD
  have f:Aq l n=(none,l):=by unfold Aq;rw[rC d]
  rw[f];generalize VO l (λr=>decide (n<=r.2))=j at p;gi_enter func92,ntmps92;gi_wp2_with (gi_at_call 127;refine(p _).mono ?_;rintro e w1 ⟨rfl,a⟩;have e3:=a.has d3;have e4:=a.has d4);go_ret2;have b:=q.keep a id id;exact⟨by simp[Oc],(c.then a).no,by rw[h.self];exact b.k,b.mp⟩
 .have J:¬(n:Int)<1:=zD
  cases hx:l.findIdx? (λr=>decide (n<=r.2))with
  |none=>
   have x:VO l (λr=>decide (n<=r.2))=-1:=by unfold VO;rw[hx]
   have f:Aq l n=(none,l):=by unfold Aq;rw[ru d,hx]
   rw[f]
   simp only[x]at p
   gi_enter func92,ntmps92
   gi_wp2_with (gi_at_call 127;refine(p _).mono ?_;rintro e w1 ⟨rfl,a⟩;have e3:=a.has d3;have e4:=a.has d4)
   go_ret2
   have b:=q.keep a id id
   exact⟨by simp[Oc],(c.then a).no,by rw[h.self];exact b.k,b.mp⟩
  |some i=>
   have x:VO l (λr=>decide (n<=r.2))=(i:Int):=by unfold VO;rw[hx]
   simp only[x]at p
   obtain⟨D,t,_⟩:=List.findIdx?_eq_some_iff_getElem.1 hx
   have o:l[i]?=some l[i]:=IG D
   generalize l[i]=r at o t
   have O:n<=r.2:=by simpa using t
   have Q:=y i r o
   have V:(i:Int)<(l.length:Int):=zD
   have W:¬(i:Int)<0:=zD
   by_cases F:r.2=n
   .have f:Aq l n=(some r.1,l.take i++l.drop (i+1)):=(by unfold Aq;rw[ru d,hx];simp only[o,F,if_true]);rw[f];have K:((r.2:Int)==(n:Int))=true:=(by simp;omega);gi_enter func92,ntmps92;gi_wp2_with (gi_at_call 127;refine(p _).mono ?_;rintro e w1 ⟨rfl,a⟩;have e3:=a.has d3;have e4:=a.has d4;have b:=q.keep a id id;obtain⟨H,I⟩:=b.mp.cells o);have dl:=λm=>zh m w1.drew g l.length cap i (i+1) _ (Rw.keep b.mp (Ac.refl No _).drew id) zD zD
    push_cast at dl;have z:w1.drew.heap[kb]?=some (N_ Y U):=b.k;gi_region
    all_goals gi_wp2_with (gi_at_call 132;refine(dl _).mono ?_;rintro e w2 ⟨rfl,B,C⟩;have u:=B.old z s;have S:=BQ u 0;have T:=(Ah u 0).trans h.v)
    all_goals go_ret2
    all_goals
     have E:(l.take i++l.drop (i+1)).length=i+(l.length-(i+1)):=by simp only[jR,ed,List.length_drop];omega
     rw[QU,QV,<-Qo,<-E]at C
     exact⟨by simp[Oc],((c.then a).drew.no.trans B (λ_ _ h=>.inr h)).setCell _ (λ_=>.inl rfl),by rw[E];exact Ap u _,Rw.keep C ((Ac.refl (At kb) _).setCell _ λ_=>rfl) s.symm⟩
   .have f:Aq l n=(some r.1,l.set i (r.1+n,r.2-n)):=(by unfold Aq;rw[ru d,hx];simp only[o,F,if_false]);rw[f];have K:((r.2:Int)==(n:Int))=false:=(by simp;omega);gi_enter func92,ntmps92;gi_wp2_with (gi_at_call 127;refine(p _).mono ?_;rintro e w1 ⟨rfl,a⟩;have e3:=a.has d3;have e4:=a.has d4;have b:=q.keep a id id;obtain⟨H,I⟩:=b.mp.cells o);have X:=λj=>Rw.fz b.mp j
    have P:=Rw.lt h.mp;have M:¬kb=g:=s;have v1:((r.1+n:Nat):Int)=(r.1:Int)+n:=zD;have v2:((r.2-n:Nat):Int)=(r.2:Int)-n:=zD;gi_region
    all_goals gi_wp2
    all_goals gi_region
    all_goals gi_wp2
    all_goals gi_region
    all_goals gi_wp2
    all_goals go_ret2
    all_goals
     have m2:=b.mp.set0 o (r.1+n)
     have G:=m2.NZ (i:=i) (r:=(r.1+n,r.2)) (by rw[List.getElem?_set_self D]) (r.2-n)
     rw[v1,v2]at G
     have R:Mp 186 _ g cap _:=Rw.keep G (Ac.refl No _).drew.drew.drew id
     refine⟨by simp[Oc],by repeat (first|exact(c.then a).no|refine Ac.drew ?_|refine Ac.setCell ?_ _ (λ_=>.inr rfl)),?_,by simpa using R⟩
     rw[List.length_set,h.self]
     exact(Hl _ s).trans ((Hl _ s).trans b.k)
end
def Ci (l:List (W_)) (a:Nat):Nat:=match l.findIdx? (λr=>decide (a<r.1))with|some i=>i|none=>l.length
def LP (l:List (W_)) (a n:Nat):List (W_):=l.take (Ci l a)++(a,n)::l.drop (Ci l a)
def BX (l:List (W_)) (a n:Nat):List (W_):=
 if n<1 then l else if Ci l a=0 then Ep (LP l a n) 0 else Ep (Ep (LP l a n) (Ci l a)) (Ci l a-1)
theorem UA (l:List (W_)) (a:Nat):Ci l a<=l.length:=by
 unfold Ci;cases h:l.findIdx? (λr=>decide (a<r.1))with
 |none=>exact w_ _
 |some i=>exact Nat.le_of_lt (List.findIdx?_eq_some_iff_getElem.1 h).1
theorem QC (l:List (W_)) (a n:Nat):(LP l a n).length=l.length+1:=by
 have:=UA l a;simp only[LP,jR,ed,List.length_cons,List.length_drop];omega
theorem az0 (l:List (W_)) (a n:Nat):LD (rc l) [b_ a,b_ n] (Ci l a*2)=rc (LP l a n):=by
 unfold LD LP;rw[QU,QV,Qo];simp only[rc];simp
theorem kY (h:Fit N l) (e:a+n<=N) (f:l.length+1<=N):Fit N (LP l a n):=by
 refine⟨by rw[QC];exact f,λi r d=>?_⟩;have:r∈LP l a n:=t_ d;unfold LP at this;obtain b|b:=gJ.1 this
 .obtain⟨j,c⟩:=List.getElem?_of_mem (List.mem_of_mem_take b);exact h.2 j r c
 .obtain rfl|b:=r_.1 b
  .exact e
  .obtain⟨j,c⟩:=List.getElem?_of_mem (List.mem_of_mem_drop b);exact h.2 j r c
theorem bQ (h:Fit N l):Fit N (Ep l i):=by
 unfold Ep;split
 .rename_i a b k e;split
  .rename_i f;have m:=(KT.1 e).1;refine⟨?_,λj r g=>?_⟩
   .simp only[jR,ed,List.length_cons,List.length_drop];have:=h.1;omega
   .have:r∈_:=t_ g;obtain c|c:=gJ.1 this
    .obtain⟨j,d⟩:=List.getElem?_of_mem (List.mem_of_mem_take c);exact h.2 j r d
    .obtain rfl|c:=r_.1 c
     .have:=h.2 _ _ e;simp only;omega
     .obtain⟨j,d⟩:=List.getElem?_of_mem (List.mem_of_mem_drop c);exact h.2 j r d
  .exact h
 .exact h
section
variable (m:Nat) (w:o_)
theorem bi7 (kb g cap i N:Nat) (U:j_) (o:X_) (l:List (W_)) (h:Hd 186 w kb 0 U o g cap l) (p:Fit N l) (q:N<=10000) (r:i<=10000):
  O_ m 130 #[Q_ kb,b_ (i:Nat)] w λe w'=>e=.returned (.tuple #[])/\Ac (ZA kb g) w w'/\Hd 186 w' kb 0 U (o.setIfInBounds 0 (P_ g (Ep l i).length cap)) g cap (Ep l i):=by
 by_cases f:i+1<l.length
 .have b:l[i]?=some l[i]:=IG zD;have c:l[i+1]?=some l[i+1]:=IG f;have k:=p.2 _ _ b;have n:=p.2 _ _ c;refine(vN m w kb g cap i U o l h _ _ b c zD zD zD).mono ?_;rintro e w' ⟨rfl,a,d,j⟩;exact⟨rfl,a,⟨d,Oj h.v,j,h.ne⟩⟩
 .rw[Y1 zD,h.self];refine(vP m w kb g cap i U o l h zD zD).mono ?_;rintro e w' ⟨rfl,a⟩;exact⟨rfl,a.no,h.keep a id id⟩
theorem ao7 (g n cap d i:Nat) (xs ys:U_) (f:Rw 186 2 w g n cap xs) (h:Rw 186 2 w d 1 1 ys) (k:d≠g) (o:i<=n) (c:n<=100000):
  O_ m 129 #[P_ g n cap,b_ (i:Nat),P_ d 1 1] w λe w'=>∃g' j,e=.returned (P_ g' (n+1) j)/\Ac (At g) w w'/\Rw 186 2 w' g' (n+1) j (LD xs ys (i*2))/\(g'=g\/w.heap.size<=g'):=by
 by_cases b:i=n
 .subst b;have e:LD xs ys (i*2)=xs++ys:=by
   unfold LD
   rw[List.take_of_length_le (by rw[f.len];exact w_ _),List.drop_of_length_le (by rw[f.len];exact w_ _),List.append_nil]
  rw[e];exact oG m w g i cap d xs ys f h c
 .by_cases a:n+1<=cap
  .exact ZY m w g n cap d i xs ys f h k zD c a
  .exact je m w g n cap d i xs ys f h zD c zD
end
def au9 (T:j_) (w w1:o_) (kb g cap a n:Nat) (l:List (W_)) (L:Nat->Bool) (u:Y_) (W:o_):Prop:=
 Ac (At g) w1 W/\(L 10=false->Mp T W g cap l)/\(L 9=true->∃vb,u 9=P_ vb 1 1/\vb≠g/\Rw T 2 W vb 1 1 [b_ a,b_ n])/\
 (L 10=true->∃g' Cf,u 10=P_ g' (l.length+1) Cf/\Rw T 2 W g' (l.length+1) Cf (rc (LP l a n))/\(g'=g\/w.heap.size<=g')/\kb≠g')
def dZ (l:List (W_)) (a x:Nat):Prop:=Ci l a=x
theorem kX {x:Nat} (h:dZ l a x):LD (rc l) [b_ a,b_ n] (x*2)=rc (LP l a n):=by
 have h:Ci l a=x:=h;subst h;exact az0 l a n
theorem Ri {b:X_} {u v:n_}:(b.setIfInBounds i u).setIfInBounds i v=b.setIfInBounds i v:=zF
section
variable (m:Nat) (w:o_)
theorem cc1 (kb g cap a n N:Nat) (U:j_) (ks:X_) (l:List (W_)) (h:Hd 186 w kb 0 U ks g cap l) (hF:Fit N l) (hN:N<=10000) (hn:a+n<=N) (hl:l.length+1<=N):
  O_ m 91 #[Q_ kb,b_ (a:Nat),b_ (n:Nat)] w λe w'=>e=.returned (.tuple #[])/\Ac (ZA kb g) w w'/\∃g' Cf,Hd 186 w' kb 0 U (ks.setIfInBounds 0 (P_ g' (BX l a n).length Cf)) g' Cf (BX l a n)/\(g'=g\/w.heap.size<=g'):=by
 have X:=h.apart;have lg:=Rw.lt h.mp;have lk:=Dt h.k;have hnb:(w.alloc (.cells #[b_ a] 94)).heap[w.heap.size]?=some (.cells #[b_ a] 94):=Y7 rfl;have D:Ac No w (w.alloc (.cells #[b_ a] 94)):=(Ac.refl _ _).alloc _;have V:=h.keep D id id;have d3:(w.alloc (.cells #[b_ a] 94)).cell? (R_ w.heap.size)=some (b_ a):=bce hnb rfl;have d4:(w.alloc (.cells #[b_ a] 94)).cell? (R_ kb)=some (P_ g l.length cap):=(Ah V.k _).trans h.v;by_cases F:n<1
 .have f1:(n:Int)<1:=zD
  have J:BX l a n=l:=by unfold BX;rw[rC F]
  rw[J];gi_enter func91,ntmps91;gi_wp2;refine bodyPost_ret (results_none rfl _ _ _) rfl ?_;exact⟨zF,D.no,g,cap,by rw[h.self];exact V,.inl rfl⟩
 have f1:¬(n:Int)<1:=zD
 have ix:=λm=>ap1 m (w.alloc (.cells #[b_ a] 94)) g cap w.heap.size a l V.mp d3 zD
 have ck8:=UA l a;obtain⟨x,G⟩:∃x,l.findIdx? (λr=>decide (a<r.1))=x:=⟨_,rfl⟩;have h2:(∃c:dZ l a (Ci l a),VO l (λr=>decide (a<r.1))=(Ci l a:Int))\/(∃c:dZ l a l.length,VO l (λr=>decide (a<r.1))=-1):=by
  cases x with
  |none=>exact .inr ⟨by unfold dZ Ci;rw[G],by unfold VO;rw[G]⟩
  |some i=>exact .inl ⟨rfl,by unfold VO Ci;rw[G]⟩
 clear G x;obtain⟨c,ea⟩|⟨c,ea⟩:=h2
 all_goals
  simp only[ea]at ix
  gi_enter func91,ntmps91
  gi_wp2_with (gi_at_call 127;refine(ix _).mono ?_;rintro e w1 ⟨rfl,y⟩;have e3:=y.has d3;have e4:=y.has d4;have h1:=V.keep y id id)
  have ek:=h1.k
  refine Dl (P:=prog) _ rfl rfl sJ 11 42 [0,1,2,3,4,5,6,7,8] [9,10] sJ (by rfl)
   (au9 186 w w1.drew kb g cap a n l) (λL L' u j W h t=>by
    have h9:=h 9 zF
    have K:=h 10 zF
    unfold au9 at t ⊢
    rw[<-h9.1,<-h9.2,<-K.1,<-K.2]
    exact t) _ _ rfl rfl ?_
  have sz:w.heap.size≠g:=zD
  gi_wp2
  refine⟨rfl,sJ,?_,?_,?_,?_⟩
  .intro j;exact⟨Ac.refl _ _,λ_=>Rw.keep h1.mp (Ac.refl No _).drew id,λh=>ql h wB,λh=>ql h wB⟩
  .intro L j W t;have y:=t.1;have l3:=qy _ _ e3;have l4:=qy _ _ e4;have d0:=(y.cell (w:=w1.drew) (p:=(R_ w.heap.size)) l3 sz).trans e3;have d1:=(y.cell (w:=w1.drew) (p:=(R_ kb)) l4 X).trans e4
   repeat' (refine Au ?_ ?_)
   all_goals first|exact eu|gi_wp2
  .intro i hi L j W t hLi hu;obtain⟨I,A,B,C⟩:=t;have l1:=I.size;have l2:=y.size;have l3:(w.alloc (.cells #[b_ a] 94)).heap.size=w.heap.size+1:=zF;have l4:w1.drew.heap.size=w1.heap.size:=rfl;obtain rfl|rfl:=(by simpa using hi:i=9\/i=10)
   .refine BC rfl λKK Nc=>?_
    show wpListIn NF m prog _ _ _ (Act.put (Act.put _ (some 31) (j 9)) (some 32) (j 10)) _;have sz2:W.heap.size≠g:=zD;gi_wp2;refine⟨_,rfl,I.alloc _,λh=>Rw.keep (A h) ((Ac.refl No W).alloc _) id,λ_=>⟨_,rfl,sz2,⟨⟨_,Y7 rfl,rfl,rfl⟩,w_ _,wB,rfl,λx G=>?_⟩⟩,λh=>?_⟩
    .simp only[r_,p_,or_false]at G;obtain rfl|rfl:=G<;>rfl
    .obtain⟨g',Cf,b1,b2,b3,b4⟩:=C h;exact⟨g',Cf,b1,b2.keep ((Ac.refl No W).alloc _) id,b3,b4⟩
   .obtain⟨vb,q,s,T⟩:=B (hu 9 zF wB);show wpOpIn NF m prog _ _ _ (λa' W'=>∃v,a'=Act.put (Act.put (Act.put _ (some 31) (j 9)) (some 32) (j 10)) (some 32) v/\_) (Act.put (Act.put _ (some 31) (j 9)) (some 32) (j 10)) _;rw[q];refine BC rfl λKK Nc=>?_
    have e6:=A hLi;gi_wp2_with fail;refine(ao7 _ W g l.length cap vb _ _ _ e6 T s zD zD).mono ?_;rintro e w3 ⟨g',Cf,rfl,M,WW,Q⟩;gi_wp2;rw[kX c]at WW;have R:(g'=g\/w.heap.size<=g')/\kb≠g':=by
     obtain rfl|Q:=Q
     .exact⟨.inl rfl,X⟩
     .exact⟨.inr zD,zD⟩
    exact⟨_,rfl,I.then M,λh=>ql h (by simp[Nq]),λh=>⟨vb,q,s,T.keep M s⟩,λ_=>⟨g',Cf,rfl,WW,R.1,R.2⟩⟩
  .intro L j W t hL;obtain⟨I,A,B,C⟩:=t;obtain⟨vb,q,_,s⟩:=B (hL 9 zF);obtain⟨g',Cf,hz1,hz2,b,hz4⟩:=C (hL 10 zF);show wpListIn NF m prog _ _ _ (Act.put (Act.put _ (some 31) (j 9)) (some 32) (j 10)) _;rw[q,hz1];have z:=I.old (heap_drew.trans ek) X;have ek3:=BQ z 0;have ek4:=(Ah z 0).trans h.v;have Y:=Ap (i:=0) z (P_ g' (l.length+1) Cf);have hd:Hd 186 (W.setCell (R_ kb) (P_ g' (l.length+1) Cf)) kb 0 U (ks.setIfInBounds 0 (P_ g' (l.length+1) Cf)) g' Cf (LP l a n):=⟨Y,by rw[QC];exact Oj h.v,by unfold Mp;rw[QC];exact hz2.keep ((Ac.refl (At kb) W).setCell _ λ_=>rfl) hz4.symm,h.ne⟩;have JA:Ac (ZA kb g) w (W.setCell (R_ kb) (P_ g' (l.length+1) Cf)):=((D.then y).no.drew.trans I (λ_ _ h=>.inr h)).setCell _ (λ_=>.inl rfl);have Dq:=kY hF hn hl;gi_wp2_with fail;refine(bi7 _ _ kb g' Cf _ N U _ _ hd Dq hN zD).mono ?_;rintro e w4 ⟨rfl,Z,E⟩;have O:Ac (ZA kb g) w w4:=JA.trans Z (λk hk f=>by
    obtain f|f:=f
    .exact .inl f
    .obtain b|b:=b
     .exact .inr (Eq.trans f b)
     .exfalso;have:k=g':=f;omega)
   rw[Ri]at E;have S:=c;unfold dZ at S;by_cases H:Ci l a=0
   .have J:BX l a n=Ep (LP l a n) (Ci l a):=(by unfold BX;rw[ru F,rC H,H]);gi_wp2_with fail
    first|rw[show((Ci l a:Nat):Int)-1=-1 by omega]|rw[show((l.length:Nat):Int)-1=-1 by omega]|skip
    refine(vO _ _ kb).mono ?_;rintro e w5 ⟨rfl,o⟩;gi_wp2;go_end0;rw[J];refine⟨zF,O.then o.no,g',Cf,?_,b⟩;have d:=E.keep o id id
    first|exact d|(rw[show Ci l a=l.length from c];exact d)
   .have J:BX l a n=Ep (Ep (LP l a n) (Ci l a)) (Ci l a-1):=(by unfold BX;rw[ru F,ru H]);gi_wp2_with fail
    first|rw[show((Ci l a:Nat):Int)-1=((Ci l a-1:Nat):Int) by omega]|rw[show((l.length:Nat):Int)-1=((l.length-1:Nat):Int) by omega]
    refine(bi7 _ _ kb g' Cf _ N U _ _ E (bQ Dq) hN zD).mono ?_;rintro e w5 ⟨rfl,o,d⟩;rw[Ri]at d;gi_wp2;go_end0;rw[J];refine⟨zF,O.trans o (λk hk f=>?_),g',Cf,?_,b⟩
    .obtain f|f:=f
     .exact .inl f
     .obtain b|b:=b
      .exact .inr (Eq.trans f b)
      .exfalso;have:k=g':=f;omega
    .first|exact d|(rw[show Ci l a=l.length from c];exact d)
end
theorem XG:Ob prog 95 188 (.agg #[b_ 0,b_ 0]) 2 16:=⟨underlying95,sJ,by rfl,wB,by intro x a;simp[Value.cells]at a;subst a;rfl⟩
theorem cn5:∃fn b,prog.funcs[235]?=some fn/\(fn.name== "runtime.NumGoroutine")=false/\fn.body.isNone=true/\Extern.findNext fn=none/\Extern.find fn=some (Extern.SlicesOverlaps.overlaps #[95,95] b):=⟨(prog.funcs[235]?).getD default,#[4],by kernel_rfl,by kernel_rfl,by kernel_rfl,by kernel_rfl,by kernel_rfl⟩
section
variable (m:Nat) (w:o_)
theorem zg (g n cap i j:Nat) (xs:U_) (A:Rw 188 2 w g n cap xs) (y:i<j) (z:j<=n):
  O_ m 124 #[P_ g n cap,b_ (i:Nat),b_ (j:Nat)] w λe w'=>e=.returned (P_ g (i+(n-j)) cap)/\Ac (At g) w w'/\Rw 188 2 w' g (i+(n-j)) cap (xs.take (i*2)++xs.drop (j*2)):=by
 have s:=A.le;have t:¬((j:Int)<(i:Int)):=zD
 have v:¬((n:Int)<(j:Int)):=zD
 have x:¬((cap:Int)<(n:Int)):=zD
 by_cases a:cap=j
 all_goals
  gi_enter func124,ntmps124
  gi_wp2
  refine CG (P:=prog) No _ rfl rfl sJ 6 33 [0,1,2,3,4,5] [] sJ (by rfl) (λ_ _ _=>True) (λ_ _ _ _ _ h _=>h) _ _ rfl rfl ?_
  gi_wp2
  refine⟨rfl,sJ,?_,(λi r=>ql r zF),?_⟩
  .intro W d
   repeat' (refine Au ?_ ?_)
   all_goals first|exact eu|gi_wp2
  .intro u W d _;simp only[JF];obtain⟨w1,b,f,o⟩:=rE (w:=W) (ty:=95) XG (A.keep ((Ac.refl No w).drew.then d) id) y z;obtain⟨w2,k,l,p⟩:=QF (c:=cap-(i+(n-j))) (q:=n-(i+(n-j))) (ty:=0) XG o zD
   first|(rw[rC a]at b;simp only[a,Nat.sub_self]at b k)|rw[ru a]at b
   refine Cj rfl (.tmp 22) (.tmp 25) _ rfl rfl rfl b ?_;gi_wp2;go_ret;exact⟨by simp[a],(((Ac.refl _ _).drew.then d.no).then f).then l,p⟩
theorem oD (g n cap p:Nat) (xs ys:U_) (o:Rw 188 2 w g n cap xs) (k:Rw 188 2 w p 1 1 ys) (q:n<=100000):
  O_ m 210 #[P_ g n cap,b_ (n:Nat),P_ p 1 1] w λe w'=>∃g' j,e=.returned (P_ g' (n+1) j)/\Ac (At g) w w'/\Rw 188 2 w' g' (n+1) j (xs++ys)/\(g'=g\/w.heap.size<=g'):=by
 obtain⟨g',j,w',b,d,c⟩:=jP (ty:=95) (sCap:=1) XG o k.len k.cells k.one zD zD;have f:=o.le;by_cases a:cap=n
 all_goals
  first|simp only[a]at b ⊢ | skip
  gi_enter func210,ntmps210
  gi_wp2_with (refine Cj rfl (.tmp 23) (.tmp 24) _ rfl rfl rfl b ?_)
  go_ret
  refine⟨g',j,zF,?_,d,?_⟩
  .obtain⟨_,h⟩|⟨_,h⟩:=c
   .exact h
   .exact h.no
  .obtain⟨h,_⟩|⟨h,_⟩:=c
   .exact .inl h
   .exact .inr zD
theorem jd (g n cap I i:Nat) (xs ys:U_) (G:Rw 188 2 w g n cap xs) (H:Rw 188 2 w I 1 1 ys) (K:i<n) (L:n<=100000) (J:cap<n+1):
  O_ m 210 #[P_ g n cap,b_ (i:Nat),P_ I 1 1] w λe w'=>∃g' F,e=.returned (P_ g' (n+1) F)/\Ac (At g) w w'/\Rw 188 2 w' g' (n+1) F (LD xs ys (i*2))/\(g'=g\/w.heap.size<=g'):=by
 have x:=G.le;obtain⟨F,w1,q,b,f⟩:=qX (i:=i) (m:=n+1-i) (ty:=95) (ti:=3) XG G zD zD zD zD zD underlying3;have u:i+(n+1-i)=n+1:=zD
 rw[u]at q b;have r:=b.le;obtain⟨w2,p,s,c⟩:=yD (i:=i) (n:=n) (xs:=xs) (ys:=ys) (g:=g) (cap:=cap) (Hu:=F - i) (sCap:=1) (ty:=3) (a:=(R_ I)) XG b K G.len H.len (H.keep f id).cells H.one;have d:Ac No w w2:=f.trans (S':=At w.heap.size) s (λk v h=>by have:k=w.heap.size:=h;omega);obtain⟨w3,y,o,t⟩:=c w2.drew (F - (i+1)) (cap-i) (Ac.refl No w2).drew ((G.keep d id).keep (Ac.refl No w2).drew id);have l:n+1-(i+1)=n-i:=zD
 rw[l]at y;have j:Ac No w w3:=d.drew.trans (S':=At w.heap.size) o (λk v h=>by have:k=w.heap.size:=h;omega);have A:¬((n:Int)<(i:Int)):=zD
 have B:¬((n:Int)+1<=(cap:Int)):=zD
 have C:¬(F=i):=zD
 have D:¬(F=i+1):=zD
 have E:¬(cap=i):=zD
 have z:((n:Int)+1-(i:Int))=((n+1-i:Nat):Int):=zD
 gi_enter func210,ntmps210;gi_wp2_with (first|(gi_at_builtin;refine Cj rfl (.tmp 34) (.tmp 39) _ rfl rfl rfl q ?_)|(refine MZ rfl (.tmp 43) (.tmp 44) _ rfl rfl rfl p ?_));gi_region
 all_goals gi_wp2
 all_goals go_ret
 all_goals exact⟨_,_,zF,j.no,t,.inr (w_ _)⟩
theorem ZX (g n cap v i:Nat) (xs ys:U_) (A:Rw 188 2 w g n cap xs) (u:Rw 188 2 w v 1 1 ys) (z:v≠g) (B:i<n) (C:n<=100000) (x:n+1<=cap):
  O_ m 210 #[P_ g n cap,b_ (i:Nat),P_ v 1 1] w λe w'=>∃g' y,e=.returned (P_ g' (n+1) y)/\Ac (At g) w w'/\Rw 188 2 w' g' (n+1) y (LD xs ys (i*2))/\(g'=g\/w.heap.size<=g'):=by
 obtain⟨p,f,_⟩:=A.blk;obtain⟨q,j,_⟩:=u.blk;have r:¬(cap=i):=zD
 have s:¬(cap=i+1):=zD
 have l:=lC (la:=1) (ca:=1) (lb:=n-i) (cb:=cap-(i+1)) (o:=(i+1)*2) XG cn5 z j f;obtain⟨w1,h,b,a⟩:=yC (ys:=ys) (i:=i) (ty:=3) (Hu:=cap-(i+1)) (sCap:=cap-i) XG (A.keep (Ac.refl No w).drew id) B x;have c:n+1-(i+1)=n-i:=zD
 rw[c]at h;obtain⟨w3,t,d,k⟩:=a w1 (R_ v) (cap-i) 1 (Ac.refl No w1) u.len (u.keep ((Ac.refl (At g) w).drew.then b) z).cells u.one;gi_enter func210,ntmps210;gi_wp2;gi_region
 all_goals gi_wp2
 all_goals go_ret
 all_goals exact⟨g,cap,zF,((Ac.refl (At g) w).drew.then b).then d,k,.inl rfl⟩
theorem ao8 (g cap u n:Nat) (l:List (W_)) (h:Mp 188 w g cap l) (v:w.cell? (R_ u)=some (b_ n)) (x:l.length<=100000):
  O_ m 122 #[P_ g l.length cap,.func (.func 123) #[] #[Q_ u]] w λe w'=>e=.returned (b_ (VO l λr=>decide (n<=r.2)))/\Ac No w w':=by
 gi_enter func122,ntmps122;gi_wp2;gi_loopw [8] (λi wr=>∃k:Nat,k<=l.length/\i=b_ k/\Ac No w wr/\∀j r,j<k->l[j]?=some r->¬n<=r.2) (λi _=>l.length-(intOf i).toNat)
 case atStart=>exact⟨0,zD,rfl,Ac.refl _ _,λj r h=>ql h zD⟩
 case round=>
  obtain⟨k,t,rfl,KK,d⟩:=hrel
  by_cases o:k<l.length
  .have b:l[k]?=some l[k]:=IG o;generalize l[k]=r at b;obtain⟨p,d1⟩:=Mp.cells (Rw.keep h KK id) b;have d2:=KK.has v;have d3:(wr.alloc (.cells #[b_ r.1,b_ r.2] 188)).cell? (R_ u)=some (b_ n):=((Ac.refl No wr).alloc _).has d2;by_cases f:n<=r.2
   .gi_wp2_with gi_in;go_ret;exact⟨by rw[UJ (k:=k) (r:=r) (λi q c a=>by have:=d i q c a;simpa using this) b (by simpa using f)];simp,KK.alloc _⟩
   .gi_wp2_with gi_in;go_roundw
    case rel=>
     refine⟨k+1,zD,by go_num,KK.alloc _,λj q s a=>?_⟩
     by_cases e:j=k
     .subst e;rw[b]at a;cases a;exact f
     .exact d j q zD a
    case measure=>simp[intOf];omega
  .obtain rfl:k=l.length:=zD;gi_wp2;go_ret;exact⟨by rw[UK (λi r c=>by have:=d i r (KT.1 c).1 c;simpa using this)];simp,KK⟩
theorem ao9 (g cap u n:Nat) (l:List (W_)) (h:Mp 188 w g cap l) (v:w.cell? (R_ u)=some (b_ n)) (x:l.length<=100000):
  O_ m 122 #[P_ g l.length cap,.func (.func 209) #[] #[Q_ u]] w λe w'=>e=.returned (b_ (VO l λr=>decide (n<r.1)))/\Ac No w w':=by
 gi_enter func122,ntmps122;gi_wp2;gi_loopw [8] (λi wr=>∃k:Nat,k<=l.length/\i=b_ k/\Ac No w wr/\∀j r,j<k->l[j]?=some r->¬n<r.1) (λi _=>l.length-(intOf i).toNat)
 case atStart=>exact⟨0,zD,rfl,Ac.refl _ _,λj r h=>ql h zD⟩
 case round=>
  obtain⟨k,t,rfl,KK,d⟩:=hrel
  by_cases o:k<l.length
  .have b:l[k]?=some l[k]:=IG o;generalize l[k]=r at b;obtain⟨p,d1⟩:=Mp.cells (Rw.keep h KK id) b;have d2:=KK.has v;have d3:(wr.alloc (.cells #[b_ r.1,b_ r.2] 188)).cell? (R_ u)=some (b_ n):=((Ac.refl No wr).alloc _).has d2;by_cases f:n<r.1
   .gi_wp2_with gi_in;go_ret;exact⟨by rw[UJ (k:=k) (r:=r) (λi q c a=>by have:=d i q c a;simpa using this) b (by simpa using f)];simp,KK.alloc _⟩
   .gi_wp2_with gi_in;go_roundw
    case rel=>
     refine⟨k+1,zD,by go_num,KK.alloc _,λj q s a=>?_⟩
     by_cases e:j=k
     .subst e;rw[b]at a;cases a;exact f
     .exact d j q zD a
    case measure=>simp[intOf];omega
  .obtain rfl:k=l.length:=zD;gi_wp2;go_ret;exact⟨by rw[UK (λi r c=>by have:=d i r (KT.1 c).1 c;simpa using this)];simp,KK⟩
theorem cn9 (f s:Nat) (b:f+s<=1000000):O_ m 237 #[.agg #[b_ f,b_ s]] w λe w'=>e=.returned (b_ (f+s:Nat))/\Ac No w w':=by
 gi_enter func237,ntmps237;gi_wp2;go_ret;exact⟨zF,by repeat (first|exact Ac.refl _ _|refine Ac.drew ?_|refine Ac.alloc ?_ _)⟩
theorem vK (kb:Nat):
  O_ m 211 #[.pointer (some (S_ kb 1)),b_ (-1)] w λe w'=>e=.returned (.tuple #[])/\Ac No w w':=by
 gi_enter func211,ntmps211;gi_wp2;refine CG (P:=prog) No _ rfl rfl sJ 31 68 [0,1,2,3,4,5,6,7,8,9,10,11,12,13,14,15,16,17,18,19,20,21,22,23,24,25,26,27,28,29,30] [] sJ (by rfl) (λ_ _ _=>True) (λ_ _ _ _ _ h _=>h) _ _ rfl rfl ?_;gi_wp2;refine⟨rfl,sJ,?_,(λi b=>ql b zF),?_⟩
 .intro W a
  repeat' (refine Au ?_ ?_)
  all_goals first|exact eu|gi_wp2
 .intro u W a _;simp only[JF];gi_wp2;refine bodyPost_ret (results_none rfl _ _ _) rfl ?_;exact⟨zF,(Ac.refl No w).drew.then a⟩
theorem vM (kb g cap i:Nat) (U:j_) (p:X_) (l:List (W_)) (h:Hd 188 w kb 1 U p g cap l) (j:l.length<=i+1) (o:i<=100000):
  O_ m 211 #[.pointer (some (S_ kb 1)),b_ (i:Nat)] w λe w'=>e=.returned (.tuple #[])/\Ac No w w':=by
 have b:w.cell? (S_ kb 1)=some (P_ g l.length cap):=(Ah h.k _).trans h.v;have d:¬((i:Int)<0):=zD
 have f:((l.length:Int)<=(i:Int)+1):=zD
 gi_enter func211,ntmps211;gi_wp2;refine CG (P:=prog) No _ rfl rfl sJ 31 68 [0,1,2,3,4,5,6,7,8,9,10,11,12,13,14,15,16,17,18,19,20,21,22,23,24,25,26,27,28,29,30] [] sJ (by rfl) (λ_ _ _=>True) (λ_ _ _ _ _ h _=>h) _ _ rfl rfl ?_;gi_wp2;refine⟨rfl,sJ,?_,(λi j=>ql j zF),?_⟩
 .intro W a;have c:=a.has (w:=w.drew) b
  repeat' (refine Au ?_ ?_)
  all_goals first|exact eu|gi_wp2
 .intro u W a _;simp only[JF];gi_wp2;refine bodyPost_ret (results_none rfl _ _ _) rfl ?_;exact⟨zF,(Ac.refl No w).drew.then a⟩
theorem vJ (kb g cap i:Nat) (U:j_) (T:X_) (l:List (W_)) (h:Hd 188 w kb 1 U T g cap l) (a b:W_) (R:l[i]?=some a) (S:l[i+1]?=some b) (Y:i<=100000) (V:a.1+a.2<=100000) (X:a.2+b.2<=100000):
  O_ m 211 #[.pointer (some (S_ kb 1)),b_ (i:Nat)] w λe w'=>e=.returned (.tuple #[])/\Ac (ZA kb g) w w'/\w'.heap[kb]?=some (.cells (T.setIfInBounds 1 (P_ g (Ep l i).length cap)) U (0,0))/\Mp 188 w' g cap (Ep l i):=by
 have H:w.cell? (S_ kb 1)=some (P_ g l.length cap):=(Ah h.k _).trans h.v;have n:=h.apart;obtain⟨D,E⟩:=h.mp.cells R;obtain⟨c2,c3⟩:=h.mp.cells S;have Q:=(KT.1 S).1;have L:¬((i:Int)<0):=zD
 have M:¬((l.length:Int)<=(i:Int)+1):=zD
 have N:(i:Int)<(l.length:Int):=zD
 gi_enter func211,ntmps211;gi_wp2;refine CG (P:=prog) No _ rfl rfl sJ 30 68 [0,1,2,3,4,5,6,7,8,9,10,11,12,13,14,15,16,17,18,19,21,22,23,24,25,26,27,28,29] [20] sJ (by rfl) (λ_ v W=>v=b_ (a.1+a.2:Nat)) (λ_ _ _ _ _ h _=>h) _ _ rfl rfl ?_;gi_wp2;refine⟨rfl,?_,?_,?_,?_⟩
 .kernel_rfl
 .intro W d;have F:=d.has (w:=w.drew) H;have d1:=d.has (w:=w.drew) D;have d2:=d.has (w:=w.drew) E;have d3:=d.has (w:=w.drew) c2
  repeat' (refine Au ?_ ?_)
  all_goals first|exact eu|gi_wp2
 .intro i G u W d _;obtain rfl:i=20:=by simpa using G
  refine BC rfl λKK I=>?_
  show wpListIn NF m prog _ _ _ (Act.put _ (some 24) (u 20)) _;gi_wp2_with (gi_at_call 237;refine(cn9 _ _ a.1 a.2 zD).mono ?_;rintro e w1 ⟨rfl,q⟩);exact⟨_,rfl,q,zF⟩
 .intro u W d x;have x:=x 20 zF;show wpListIn NF m prog _ _ _ (Act.put _ (some 24) (u 20)) _;rw[x];have c:Ac No w W:=(Ac.refl No w).drew.then d;have o:=c.old h.k id;have q1:W.cell? (S_ kb 1)=some (P_ g l.length cap):=(Ah o _).trans h.v;have m1:Mp 188 W g cap l:=Rw.keep h.mp c id;obtain⟨F,d1⟩:=m1.cells R;obtain⟨d2,d3⟩:=m1.cells S;have O:=Rw.fz m1 (i*2+1);by_cases C:a.1+a.2=b.1
  .have s:(a.1:Int)+(a.2:Int)=(b.1:Int):=zD;have m2:=m1.NZ R (a.2+b.2);have j:(l.set i (a.1,a.2+b.2)).length=l.length:=List.length_set ..;have m3:Rw 188 2 (W.setCell (S_ g (i*2+1)) (b_ ((a.2:Int)+b.2))).drew g l.length cap (rc (l.set i (a.1,a.2+b.2))):=by
    have f:=Rw.keep m2 (Ac.refl No _).drew id
    rw[j]at f
    push_cast at f
    exact f
   have dl:=λm=>zg m _ g l.length cap (i+1) (i+2) _ m3 zD zD
   push_cast at dl;have t:((W.setCell (S_ g (i*2+1)) (b_ ((a.2:Int)+b.2))).drew).heap[kb]?=some (N_ T U):=(Hl _ n).trans o;have r:Ac (ZA kb g) w (W.setCell (S_ g (i*2+1)) (b_ ((a.2:Int)+b.2))).drew:=(c.no.setCell _ λ_=>.inr rfl).drew;gi_wp2;gi_region
   all_goals gi_wp2_with (gi_at_call 124;refine(dl _).mono ?_;rintro e w2 ⟨rfl,y,z⟩;have p:=y.old t n;have J:=BQ p 1;have K:=(Ah p 1).trans h.v)
   all_goals go_end0
   all_goals
    have A:=bP R S C
    have B:(Ep l i).length=i+1+(l.length-(i+2)):=by rw[A];simp only[jR,ed,List.length_drop,j];omega
    rw[QU,QV,<-Qo,<-A,<-B]at z
    exact⟨zF,(r.trans y (λ_ _ h=>.inr h)).setCell _ (λ_=>.inl rfl),by rw[B];exact Ap p _,Rw.keep z ((Ac.refl (At kb) _).setCell _ λ_=>rfl) n.symm⟩
  .have s:((a.1:Int)+(a.2:Int) !=(b.1:Int))=true:=(by simp;omega);gi_wp2;refine bodyPost_ret (results_none rfl _ _ _) rfl ?_;rw[lH R S C];exact⟨zF,c.no,by rw[h.self];exact o,m1⟩
theorem bh5 (kb g cap n N:Nat) (U:j_) (X:X_) (l:List (W_)) (h:Hd 188 w kb 1 U X g cap l) (Y:Fit N l) (Z:N<=10000) (hn:n<=10000):
  O_ m 89 #[.pointer (some (S_ kb 1)),b_ (n:Nat)] w λe w'=>e=.returned (Oc (Aq l n).1)/\Ac (ZA kb g) w w'/\w'.heap[kb]?=some (.cells (X.setIfInBounds 1 (P_ g (Aq l n).2.length cap)) U (0,0))/\Mp 188 w' g cap (Aq l n).2:=by
 have t:=h.apart;obtain⟨L,y⟩:=Y;have A:(w.alloc (.cells #[b_ n] 3)).heap[w.heap.size]?=some (.cells #[b_ n] 3):=Y7 rfl;have c:Ac No w (w.alloc (.cells #[b_ n] 3)):=(Ac.refl _ _).alloc _;have q:=h.keep c id id;have d3:(w.alloc (.cells #[b_ n] 3)).cell? (R_ w.heap.size)=some (b_ n):=bce A rfl;have d4:(w.alloc (.cells #[b_ n] 3)).cell? (S_ kb 1)=some (P_ g l.length cap):=(Ah q.k _).trans h.v;have p:=λm=>ao8 m (w.alloc (.cells #[b_ n] 3)) g cap w.heap.size n l q.mp d3 zD
 by_cases d:n<1
 .have J:(n:Int)<1:=zD
  have f:Aq l n=(none,l):=by unfold Aq;rw[rC d]
  rw[f];generalize VO l (λr=>decide (n<=r.2))=j at p;gi_enter func89,ntmps89;gi_wp2_with (gi_at_call 122;refine(p _).mono ?_;rintro e w1 ⟨rfl,a⟩;have e3:=a.has d3;have e4:=a.has d4);go_ret2;have b:=q.keep a id id;exact⟨by simp[Oc],(c.then a).no,by rw[h.self];exact b.k,b.mp⟩
 .have J:¬(n:Int)<1:=zD
  cases hx:l.findIdx? (λr=>decide (n<=r.2))with
  |none=>
   have x:VO l (λr=>decide (n<=r.2))=-1:=by unfold VO;rw[hx]
   have f:Aq l n=(none,l):=by unfold Aq;rw[ru d,hx]
   rw[f]
   simp only[x]at p
   gi_enter func89,ntmps89
   gi_wp2_with (gi_at_call 122;refine(p _).mono ?_;rintro e w1 ⟨rfl,a⟩;have e3:=a.has d3;have e4:=a.has d4)
   go_ret2
   have b:=q.keep a id id
   exact⟨by simp[Oc],(c.then a).no,by rw[h.self];exact b.k,b.mp⟩
  |some i=>
   have x:VO l (λr=>decide (n<=r.2))=(i:Int):=by unfold VO;rw[hx]
   simp only[x]at p
   obtain⟨D,s,_⟩:=List.findIdx?_eq_some_iff_getElem.1 hx
   have o:l[i]?=some l[i]:=IG D
   generalize l[i]=r at o s
   have M:n<=r.2:=by simpa using s
   have P:=y i r o
   have T:(i:Int)<(l.length:Int):=zD
   have V:¬(i:Int)<0:=zD
   by_cases F:r.2=n
   .have f:Aq l n=(some r.1,l.take i++l.drop (i+1)):=(by unfold Aq;rw[ru d,hx];simp only[o,F,if_true]);rw[f];have K:((r.2:Int)==(n:Int))=true:=(by simp;omega);gi_enter func89,ntmps89;gi_wp2_with (gi_at_call 122;refine(p _).mono ?_;rintro e w1 ⟨rfl,a⟩;have e3:=a.has d3;have e4:=a.has d4;have b:=q.keep a id id;obtain⟨H,I⟩:=b.mp.cells o);have dl:=λm=>zg m w1.drew g l.length cap i (i+1) _ (Rw.keep b.mp (Ac.refl No _).drew id) zD zD
    push_cast at dl;have z:w1.drew.heap[kb]?=some (N_ X U):=b.k;gi_region
    all_goals gi_wp2_with (gi_at_call 124;refine(dl _).mono ?_;rintro e w2 ⟨rfl,B,C⟩;have u:=B.old z t;have R:=BQ u 1;have S:=(Ah u 1).trans h.v)
    all_goals go_ret2
    all_goals
     have E:(l.take i++l.drop (i+1)).length=i+(l.length-(i+1)):=by simp only[jR,ed,List.length_drop];omega
     rw[QU,QV,<-Qo,<-E]at C
     exact⟨by simp[Oc],((c.then a).drew.no.trans B (λ_ _ h=>.inr h)).setCell _ (λ_=>.inl rfl),by rw[E];exact Ap u _,Rw.keep C ((Ac.refl (At kb) _).setCell _ λ_=>rfl) t.symm⟩
   .have f:Aq l n=(some r.1,l.set i (r.1+n,r.2-n)):=(by unfold Aq;rw[ru d,hx];simp only[o,F,if_false]);rw[f];have K:((r.2:Int)==(n:Int))=false:=(by simp;omega);gi_enter func89,ntmps89;gi_wp2_with (gi_at_call 122;refine(p _).mono ?_;rintro e w1 ⟨rfl,a⟩;have e3:=a.has d3;have e4:=a.has d4;have b:=q.keep a id id;obtain⟨H,I⟩:=b.mp.cells o);have W:=λj=>Rw.fz b.mp j
    have O:=Rw.lt h.mp;have v1:((r.1+n:Nat):Int)=(r.1:Int)+n:=zD;have v2:((r.2-n:Nat):Int)=(r.2:Int)-n:=zD;gi_region
    all_goals gi_wp2
    all_goals gi_region
    all_goals gi_wp2
    all_goals gi_region
    all_goals gi_wp2
    all_goals go_ret2
    all_goals
     have m2:=b.mp.set0 o (r.1+n)
     have G:=m2.NZ (i:=i) (r:=(r.1+n,r.2)) (by rw[List.getElem?_set_self D]) (r.2-n)
     rw[v1,v2]at G
     have Q:Mp 188 _ g cap _:=Rw.keep G (Ac.refl No _).drew.drew.drew id
     refine⟨by simp[Oc],by repeat (first|exact(c.then a).no|refine Ac.drew ?_|refine Ac.setCell ?_ _ (λ_=>.inr rfl)),?_,by simpa using Q⟩
     rw[List.length_set,h.self]
     exact(Hl _ t).trans ((Hl _ t).trans b.k)
theorem bi6 (kb g cap i N:Nat) (U:j_) (o:X_) (l:List (W_)) (h:Hd 188 w kb 1 U o g cap l) (p:Fit N l) (q:N<=10000) (r:i<=10000):
  O_ m 211 #[.pointer (some (S_ kb 1)),b_ (i:Nat)] w λe w'=>e=.returned (.tuple #[])/\Ac (ZA kb g) w w'/\Hd 188 w' kb 1 U (o.setIfInBounds 1 (P_ g (Ep l i).length cap)) g cap (Ep l i):=by
 by_cases f:i+1<l.length
 .have b:l[i]?=some l[i]:=IG zD;have c:l[i+1]?=some l[i+1]:=IG f;have k:=p.2 _ _ b;have n:=p.2 _ _ c;refine(vJ m w kb g cap i U o l h _ _ b c zD zD zD).mono ?_;rintro e w' ⟨rfl,a,d,j⟩;exact⟨rfl,a,⟨d,Oj h.v,j,h.ne⟩⟩
 .rw[Y1 zD,h.self];refine(vM m w kb g cap i U o l h zD zD).mono ?_;rintro e w' ⟨rfl,a⟩;exact⟨rfl,a.no,h.keep a id id⟩
theorem ao6 (g n cap d i:Nat) (xs ys:U_) (f:Rw 188 2 w g n cap xs) (h:Rw 188 2 w d 1 1 ys) (k:d≠g) (o:i<=n) (c:n<=100000):
  O_ m 210 #[P_ g n cap,b_ (i:Nat),P_ d 1 1] w λe w'=>∃g' j,e=.returned (P_ g' (n+1) j)/\Ac (At g) w w'/\Rw 188 2 w' g' (n+1) j (LD xs ys (i*2))/\(g'=g\/w.heap.size<=g'):=by
 by_cases b:i=n
 .subst b;have e:LD xs ys (i*2)=xs++ys:=by
   unfold LD
   rw[List.take_of_length_le (by rw[f.len];exact w_ _),List.drop_of_length_le (by rw[f.len];exact w_ _),List.append_nil]
  rw[e];exact oD m w g i cap d xs ys f h c
 .by_cases a:n+1<=cap
  .exact ZX m w g n cap d i xs ys f h k zD c a
  .exact jd m w g n cap d i xs ys f h zD c zD
theorem cb9 (kb g cap a n N:Nat) (U:j_) (ks:X_) (l:List (W_)) (h:Hd 188 w kb 1 U ks g cap l) (hF:Fit N l) (hN:N<=10000) (hn:a+n<=N) (hl:l.length+1<=N):
  O_ m 156 #[.pointer (some (S_ kb 1)),b_ (a:Nat),b_ (n:Nat)] w λe w'=>e=.returned (.tuple #[])/\Ac (ZA kb g) w w'/\∃g' Cf,Hd 188 w' kb 1 U (ks.setIfInBounds 1 (P_ g' (BX l a n).length Cf)) g' Cf (BX l a n)/\(g'=g\/w.heap.size<=g'):=by
 have X:=h.apart;have lg:=Rw.lt h.mp;have lk:=Dt h.k;have hnb:(w.alloc (.cells #[b_ a] 99)).heap[w.heap.size]?=some (.cells #[b_ a] 99):=Y7 rfl;have D:Ac No w (w.alloc (.cells #[b_ a] 99)):=(Ac.refl _ _).alloc _;have V:=h.keep D id id;have d3:(w.alloc (.cells #[b_ a] 99)).cell? (R_ w.heap.size)=some (b_ a):=bce hnb rfl;have d4:(w.alloc (.cells #[b_ a] 99)).cell? (S_ kb 1)=some (P_ g l.length cap):=(Ah V.k _).trans h.v;by_cases F:n<1
 .have f1:(n:Int)<1:=zD
  have J:BX l a n=l:=by unfold BX;rw[rC F]
  rw[J];gi_enter func156,ntmps156;gi_wp2;refine bodyPost_ret (results_none rfl _ _ _) rfl ?_;exact⟨zF,D.no,g,cap,by rw[h.self];exact V,.inl rfl⟩
 have f1:¬(n:Int)<1:=zD
 have ix:=λm=>ao9 m (w.alloc (.cells #[b_ a] 99)) g cap w.heap.size a l V.mp d3 zD
 have ck8:=UA l a;obtain⟨x,G⟩:∃x,l.findIdx? (λr=>decide (a<r.1))=x:=⟨_,rfl⟩;have h2:(∃c:dZ l a (Ci l a),VO l (λr=>decide (a<r.1))=(Ci l a:Int))\/(∃c:dZ l a l.length,VO l (λr=>decide (a<r.1))=-1):=by
  cases x with
  |none=>exact .inr ⟨by unfold dZ Ci;rw[G],by unfold VO;rw[G]⟩
  |some i=>exact .inl ⟨rfl,by unfold VO Ci;rw[G]⟩
 clear G x;obtain⟨c,ea⟩|⟨c,ea⟩:=h2
 all_goals
  simp only[ea]at ix
  gi_enter func156,ntmps156
  gi_wp2_with (gi_at_call 122;refine(ix _).mono ?_;rintro e w1 ⟨rfl,y⟩;have e3:=y.has d3;have e4:=y.has d4;have h1:=V.keep y id id)
  have ek:=h1.k
  refine Dl (P:=prog) _ rfl rfl sJ 11 42 [0,1,2,3,4,5,6,7,8] [9,10] sJ (by rfl)
   (au9 188 w w1.drew kb g cap a n l) (λL L' u j W h t=>by
    have h9:=h 9 zF
    have K:=h 10 zF
    unfold au9 at t ⊢
    rw[<-h9.1,<-h9.2,<-K.1,<-K.2]
    exact t) _ _ rfl rfl ?_
  have sz:w.heap.size≠g:=zD
  gi_wp2
  refine⟨rfl,sJ,?_,?_,?_,?_⟩
  .intro j;exact⟨Ac.refl _ _,λ_=>Rw.keep h1.mp (Ac.refl No _).drew id,λh=>ql h wB,λh=>ql h wB⟩
  .intro L j W t;have y:=t.1;have l3:=qy _ _ e3;have l4:=qy _ _ e4;have d0:=(y.cell (w:=w1.drew) (p:=(R_ w.heap.size)) l3 sz).trans e3;have d1:=(y.cell (w:=w1.drew) (p:=(S_ kb 1)) l4 X).trans e4
   repeat' (refine Au ?_ ?_)
   all_goals first|exact eu|gi_wp2
  .intro i hi L j W t hLi hu;obtain⟨I,A,B,C⟩:=t;have l1:=I.size;have l2:=y.size;have l3:(w.alloc (.cells #[b_ a] 99)).heap.size=w.heap.size+1:=zF;have l4:w1.drew.heap.size=w1.heap.size:=rfl;obtain rfl|rfl:=(by simpa using hi:i=9\/i=10)
   .refine BC rfl λKK Nc=>?_
    show wpListIn NF m prog _ _ _ (Act.put (Act.put _ (some 31) (j 9)) (some 32) (j 10)) _;have sz2:W.heap.size≠g:=zD;gi_wp2;refine⟨_,rfl,I.alloc _,λh=>Rw.keep (A h) ((Ac.refl No W).alloc _) id,λ_=>⟨_,rfl,sz2,⟨⟨_,Y7 rfl,rfl,rfl⟩,w_ _,wB,rfl,λx G=>?_⟩⟩,λh=>?_⟩
    .simp only[r_,p_,or_false]at G;obtain rfl|rfl:=G<;>rfl
    .obtain⟨g',Cf,b1,b2,b3,b4⟩:=C h;exact⟨g',Cf,b1,b2.keep ((Ac.refl No W).alloc _) id,b3,b4⟩
   .obtain⟨vb,q,s,T⟩:=B (hu 9 zF wB);show wpOpIn NF m prog _ _ _ (λa' W'=>∃v,a'=Act.put (Act.put (Act.put _ (some 31) (j 9)) (some 32) (j 10)) (some 32) v/\_) (Act.put (Act.put _ (some 31) (j 9)) (some 32) (j 10)) _;rw[q];refine BC rfl λKK Nc=>?_
    have e6:=A hLi;gi_wp2_with fail;refine(ao6 _ W g l.length cap vb _ _ _ e6 T s zD zD).mono ?_;rintro e w3 ⟨g',Cf,rfl,M,WW,Q⟩;gi_wp2;rw[kX c]at WW;have R:(g'=g\/w.heap.size<=g')/\kb≠g':=by
     obtain rfl|Q:=Q
     .exact⟨.inl rfl,X⟩
     .exact⟨.inr zD,zD⟩
    exact⟨_,rfl,I.then M,λh=>ql h (by simp[Nq]),λh=>⟨vb,q,s,T.keep M s⟩,λ_=>⟨g',Cf,rfl,WW,R.1,R.2⟩⟩
  .intro L j W t hL;obtain⟨I,A,B,C⟩:=t;obtain⟨vb,q,_,s⟩:=B (hL 9 zF);obtain⟨g',Cf,hz1,hz2,b,hz4⟩:=C (hL 10 zF);show wpListIn NF m prog _ _ _ (Act.put (Act.put _ (some 31) (j 9)) (some 32) (j 10)) _;rw[q,hz1];have z:=I.old (heap_drew.trans ek) X;have ek3:=BQ z 1;have ek4:=(Ah z 1).trans h.v;have Y:=Ap (i:=1) z (P_ g' (l.length+1) Cf);have hd:Hd 188 (W.setCell (S_ kb 1) (P_ g' (l.length+1) Cf)) kb 1 U (ks.setIfInBounds 1 (P_ g' (l.length+1) Cf)) g' Cf (LP l a n):=⟨Y,by rw[QC];exact Oj h.v,by unfold Mp;rw[QC];exact hz2.keep ((Ac.refl (At kb) W).setCell _ λ_=>rfl) hz4.symm,h.ne⟩;have JA:Ac (ZA kb g) w (W.setCell (S_ kb 1) (P_ g' (l.length+1) Cf)):=((D.then y).no.drew.trans I (λ_ _ h=>.inr h)).setCell _ (λ_=>.inl rfl);have Dq:=kY hF hn hl;gi_wp2_with fail;refine(bi6 _ _ kb g' Cf _ N U _ _ hd Dq hN zD).mono ?_;rintro e w4 ⟨rfl,Z,E⟩;have O:Ac (ZA kb g) w w4:=JA.trans Z (λk hk f=>by
    obtain f|f:=f
    .exact .inl f
    .obtain b|b:=b
     .exact .inr (Eq.trans f b)
     .exfalso;have:k=g':=f;omega)
   rw[Ri]at E;have S:=c;unfold dZ at S;by_cases H:Ci l a=0
   .have J:BX l a n=Ep (LP l a n) (Ci l a):=(by unfold BX;rw[ru F,rC H,H]);gi_wp2_with fail
    first|rw[show((Ci l a:Nat):Int)-1=-1 by omega]|rw[show((l.length:Nat):Int)-1=-1 by omega]|skip
    refine(vK _ _ kb).mono ?_;rintro e w5 ⟨rfl,o⟩;gi_wp2;go_end0;rw[J];refine⟨zF,O.then o.no,g',Cf,?_,b⟩;have d:=E.keep o id id
    first|exact d|(rw[show Ci l a=l.length from c];exact d)
   .have J:BX l a n=Ep (Ep (LP l a n) (Ci l a)) (Ci l a-1):=(by unfold BX;rw[ru F,ru H]);gi_wp2_with fail
    first|rw[show((Ci l a:Nat):Int)-1=((Ci l a-1:Nat):Int) by omega]|rw[show((l.length:Nat):Int)-1=((l.length-1:Nat):Int) by omega]
    refine(bi6 _ _ kb g' Cf _ N U _ _ E (bQ Dq) hN zD).mono ?_;rintro e w5 ⟨rfl,o,d⟩;rw[Ri]at d;gi_wp2;go_end0;rw[J];refine⟨zF,O.trans o (λk hk f=>?_),g',Cf,?_,b⟩
    .obtain f|f:=f
     .exact .inl f
     .obtain b|b:=b
      .exact .inr (Eq.trans f b)
      .exfalso;have:k=g':=f;omega
    .first|exact d|(rw[show Ci l a=l.length from c];exact d)
end
@[simp] theorem lf16:(16:h_)∈LF:=wB
@[simp] theorem lf21:(21:h_)∈LF:=wB
@[simp] theorem cu2:(146:h_)∈LF:=wB
@[simp] theorem cu1:(147:h_)∈LF:=wB
@[simp] theorem cu0:(154:h_)∈LF:=wB
@[simp] theorem ct9:(155:h_)∈LF:=wB
@[simp] theorem ct7:(197:h_)∈LF:=wB
@[simp] theorem ct5:(265:h_)∈LF:=wB
@[simp] theorem ct4:(266:h_)∈LF:=wB
@[simp] theorem ct3:(267:h_)∈LF:=wB
@[simp] theorem cs9:(268:h_)∈LF:=wB
@[simp] theorem cs8:(269:h_)∈LF:=wB
@[simp] theorem cs7:(270:h_)∈LF:=wB
@[simp] theorem cs6:(271:h_)∈LF:=wB
@[simp] theorem cs5:(272:h_)∈LF:=wB
@[simp] theorem cs4:(273:h_)∈LF:=wB
@[simp] theorem cs3:(274:h_)∈LF:=wB
@[simp] theorem cr9:(275:h_)∈LF:=wB
@[simp] theorem cr8:(276:h_)∈LF:=wB
@[simp] theorem cr7:(277:h_)∈LF:=wB
@[simp] theorem cr6:(278:h_)∈LF:=wB
@[simp] theorem cr5:(279:h_)∈LF:=wB
@[simp] theorem cr4:(280:h_)∈LF:=wB
@[simp] theorem cr2:(281:h_)∈LF:=wB
theorem BP {id:Nat} {a:Act} (c N:Nat) (h:wpListIn NF n prog ops (λe a1 _=>e=.normal/\Xq NF n prog ops No Q a w c (List.range c) [] (xu ops (List.range c)) (ops.toList.drop c) (λ_ _ _=>True) a1) (xu ops (List.range c)) a w.drew) (b:VT ops c N (List.range c) []=true:=by kernel_rfl) (d:a.tmps.size=N:=by rfl):(Code.region id ops true).wpIn NF n prog Q a w:=
 CG (P:=prog) No _ rfl rfl sJ c N (List.range c) [] b d (λ_ _ _=>True) (λ_ _ _ _ _ h _=>h) _ _ rfl rfl h
theorem Eb {c:Nat} {a a1:Act} (f:∀W,Ac No w.drew W->SX NF n prog ops a1 W (xu ops (List.range c))) (g:∀W,Ac No w.drew W->wpListIn NF n prog ops Q (ops.toList.drop c) a1 W) (e:a1=JF ops (List.range c) (WT ops a1) a:=by kernel_rfl):Exit.normal=.normal/\Xq NF n prog ops No Q a w c (List.range c) [] (xu ops (List.range c)) (ops.toList.drop c) (λ_ _ _=>True) a1:=
 ⟨rfl,e,f,(λi d=>ql d zF),λ_ W b _=>g W b⟩
end Go.Fxa
