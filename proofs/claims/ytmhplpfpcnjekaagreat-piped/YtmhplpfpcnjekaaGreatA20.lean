/- Maps of free blocks: Take. -/
import Derived.Test.YtmhplpfpcnjekaaGreatA19
namespace Go.Fxa
open Conc Proofs RowKit Proofs.Tryz
set_option maxRecDepth 1000000
set_option maxHeartbeats 0
def Aw (l:List (W_)) (n:Nat):d_ Nat×List (W_):=
 if n<1 then(none,l)else match l.findIdx? (λr=>decide (n<=r.2))with
 |none=>(none,l)
 |some i=>match l[i]? with
  |none=>(none,l)
  |some r=>(some r.1,if r.2=n then l.take i++l.drop (i+1)else l.set i (r.1+n,r.2-n))
def Nk:d_ Nat->n_
 |none=>.tuple #[.int .i64 0,.bool false]
 |some a=>.tuple #[.int .i64 a,.bool true]
def Fit (N:Nat) (l:List (W_)):Prop:=l.length<=N/\∀(i:Nat) r,l[i]?=some r->r.1+r.2<=N
section
variable (m:Nat) (w:o_)
theorem takeC (kb g cap n N:Nat) (U:j_) (ks:X_) (l:List (W_)) (h:Hd 186 w kb 0 U ks g cap l) (hF:Fit N l) (hN:N<=10000) (hn:n<=10000):
  P_ m 92 #[R_ kb,b_ (n:Nat)] w λe w'=>e=.returned (Nk (Aw l n).1)/\Keep (At2 kb g) w w'/\w'.heap[kb]?=some (.cells (ks.setIfInBounds 0 (Q_ g (Aw l n).2.length cap)) U (0,0))/\Mp 186 w' g cap (Aw l n).2:=by
 have s:=h.apart;obtain⟨L,y⟩:=hF;have A:(w.alloc (.cells #[b_ n] 3)).heap[w.heap.size]?=some (.cells #[b_ n] 3):=heap_alloc_new rfl;have c:Keep No w (w.alloc (.cells #[b_ n] 3)):=(p_ _ _).alloc _;have q:=h.keep c id id;have d3:(w.alloc (.cells #[b_ n] 3)).cell? (S_ w.heap.size)=some (b_ n):=bce A rfl;have d4:(w.alloc (.cells #[b_ n] 3)).cell? (S_ kb)=some (Q_ g l.length cap):=(Af q.k _).trans h.v;have p:=λm=>ω m (w.alloc (.cells #[b_ n] 3)) g cap w.heap.size n l q.mp d3 (by omega)
 by_cases d:n<1
 .have J:(n:Int)<1:=by omega
  have f:Aw l n=(none,l):=by unfold Aw;rw[if_pos d]
  rw[f];generalize UG l (λr=>decide (n<=r.2))=j at p;gi_enter func92,ntmps92;gi_wp2_with (gi_at_call 127;refine(p _).mono ?_;rintro e w1 ⟨rfl,a⟩;have e3:=a.has d3;have e4:=a.has d4);go_ret2;have b:=q.keep a id id;exact⟨by simp[Nk],(c.then a).no,by rw[h.self];exact b.k,b.mp⟩
 .have J:¬(n:Int)<1:=by omega
  cases hx:l.findIdx? (λr=>decide (n<=r.2))with
  |none=>
   have x:UG l (λr=>decide (n<=r.2))=-1:=by unfold UG;rw[hx]
   have f:Aw l n=(none,l):=by unfold Aw;rw[if_neg d,hx]
   rw[f]
   simp only[x]at p
   gi_enter func92,ntmps92
   gi_wp2_with (gi_at_call 127;refine(p _).mono ?_;rintro e w1 ⟨rfl,a⟩;have e3:=a.has d3;have e4:=a.has d4)
   go_ret2
   have b:=q.keep a id id
   exact⟨by simp[Nk],(c.then a).no,by rw[h.self];exact b.k,b.mp⟩
  |some i=>
   have x:UG l (λr=>decide (n<=r.2))=(i:Int):=by unfold UG;rw[hx]
   simp only[x]at p
   obtain⟨B,t,_⟩:=List.findIdx?_eq_some_iff_getElem.1 hx
   have o:l[i]?=some l[i]:=Lh B
   generalize l[i]=r at o t
   have O:n<=r.2:=by simpa using t
   have Q:=y i r o
   have V:(i:Int)<(l.length:Int):=by omega
   have W:¬(i:Int)<0:=by omega
   by_cases F:r.2=n
   .have f:Aw l n=(some r.1,l.take i++l.drop (i+1)):=(by unfold Aw;rw[if_neg d,hx];simp only[o,F,if_true]);rw[f];have K:((r.2:Int)==(n:Int))=true:=(by simp;omega);gi_enter func92,ntmps92;gi_wp2_with (gi_at_call 127;refine(p _).mono ?_;rintro e w1 ⟨rfl,a⟩;have e3:=a.has d3;have e4:=a.has d4;have b:=q.keep a id id;obtain⟨H,I⟩:=b.mp.cells o);have dl:=λm=>sW m w1.drew g l.length cap i (i+1) _ (Rw.keep b.mp (p_ No _).drew id) (by omega) (by omega)
    push_cast at dl;have z:w1.drew.heap[kb]?=some (O_ ks U):=b.k;gi_region
    all_goals gi_wp2_with (gi_at_call 132;refine(dl _).mono ?_;rintro e w2 ⟨rfl,C,D⟩;have u:=C.old z s;have S:=BN u 0;have T:=(Af u 0).trans h.v)
    all_goals go_ret2
    all_goals
     have E:(l.take i++l.drop (i+1)).length=i+(l.length-(i+1)):=by simp only[List.length_append,List.length_take,List.length_drop];omega
     rw[Qk,Ql,<-Ub,<-E]at D
     exact⟨by simp[Nk],((c.then a).drew.no.trans C (λ_ _ h=>.inr h)).setCell _ (λ_=>.inl rfl),by rw[E];exact Ak u _,Rw.keep D ((p_ (At kb) _).setCell _ λ_=>rfl) s.symm⟩
   .have f:Aw l n=(some r.1,l.set i (r.1+n,r.2-n)):=(by unfold Aw;rw[if_neg d,hx];simp only[o,F,if_false]);rw[f];have K:((r.2:Int)==(n:Int))=false:=(by simp;omega);gi_enter func92,ntmps92;gi_wp2_with (gi_at_call 127;refine(p _).mono ?_;rintro e w1 ⟨rfl,a⟩;have e3:=a.has d3;have e4:=a.has d4;have b:=q.keep a id id;obtain⟨H,I⟩:=b.mp.cells o);have X:=λj=>Rw.fz b.mp j
    have P:=Rw.lt h.mp;have M:¬kb=g:=s;have v1:((r.1+n:Nat):Int)=(r.1:Int)+n:=(by omega);have v2:((r.2-n:Nat):Int)=(r.2:Int)-n:=(by omega);gi_region
    all_goals gi_wp2
    all_goals gi_region
    all_goals gi_wp2
    all_goals gi_region
    all_goals gi_wp2
    all_goals go_ret2
    all_goals
     have m2:=b.mp.set0 o (r.1+n)
     have G:=m2.Jo (i:=i) (r:=(r.1+n,r.2)) (by rw[List.getElem?_set_self B]) (r.2-n)
     rw[v1,v2]at G
     have R:Mp 186 _ g cap _:=Rw.keep G (p_ No _).drew.drew.drew id
     refine⟨by simp[Nk],by repeat (first|exact(c.then a).no|refine Keep.drew ?_|refine Keep.setCell ?_ _ (λ_=>.inr rfl)),?_,by simpa using R⟩
     rw[List.length_set,h.self]
     exact(Gz _ s).trans ((Gz _ s).trans b.k)
end
def BO (l:List (W_)) (a:Nat):Nat:=match l.findIdx? (λr=>decide (a<r.1))with|some i=>i|none=>l.length
def KE (l:List (W_)) (a n:Nat):List (W_):=l.take (BO l a)++(a,n)::l.drop (BO l a)
def DF (l:List (W_)) (a n:Nat):List (W_):=
 if n<1 then l else if BO l a=0 then Ec (KE l a n) 0 else Ec (Ec (KE l a n) (BO l a)) (BO l a-1)
theorem SN (l:List (W_)) (a:Nat):BO l a<=l.length:=by
 unfold BO;cases h:l.findIdx? (λr=>decide (a<r.1))with
 |none=>exact w_ _
 |some i=>exact Nat.le_of_lt (List.findIdx?_eq_some_iff_getElem.1 h).1
theorem PT (l:List (W_)) (a n:Nat):(KE l a n).length=l.length+1:=by
 have:=SN l a;simp only[KE,List.length_append,List.length_take,List.length_cons,List.length_drop];omega
theorem ad5 (l:List (W_)) (a n:Nat):Kv (rc l) [b_ a,b_ n] (BO l a*2)=rc (KE l a n):=by
 unfold Kv KE;rw[Qk,Ql,Ub];simp only[rc];simp
theorem dw {N a n:Nat} {l:List (W_)} (h:Fit N l) (ha:a+n<=N) (hl:l.length+1<=N):Fit N (KE l a n):=by
 refine⟨by rw[PT];exact hl,λi r d=>?_⟩;have:r∈KE l a n:=t_ d;unfold KE at this;obtain b|b:=List.mem_append.1 this
 .obtain⟨j,c⟩:=List.getElem?_of_mem (List.mem_of_mem_take b);exact h.2 j r c
 .obtain rfl|b:=r_.1 b
  .exact ha
  .obtain⟨j,c⟩:=List.getElem?_of_mem (List.mem_of_mem_drop b);exact h.2 j r c
theorem YZ {N i:Nat} {l:List (W_)} (h:Fit N l):Fit N (Ec l i):=by
 unfold Ec;split
 .rename_i a b k e;split
  .rename_i f;have m:=(O5.1 e).1;refine⟨?_,λj r g=>?_⟩
   .simp only[List.length_append,List.length_take,List.length_cons,List.length_drop];have:=h.1;omega
   .have:r∈_:=t_ g;obtain c|c:=List.mem_append.1 this
    .obtain⟨j,d⟩:=List.getElem?_of_mem (List.mem_of_mem_take c);exact h.2 j r d
    .obtain rfl|c:=r_.1 c
     .have:=h.2 _ _ e;simp only;omega
     .obtain⟨j,d⟩:=List.getElem?_of_mem (List.mem_of_mem_drop c);exact h.2 j r d
  .exact h
 .exact h
section
variable (m:Nat) (w:o_)
theorem an8 (kb g cap i N:Nat) (U:j_) (ks:X_) (l:List (W_)) (h:Hd 186 w kb 0 U ks g cap l) (hF:Fit N l) (hN:N<=10000) (hi:i<=10000):
  P_ m 130 #[R_ kb,b_ (i:Nat)] w λe w'=>e=.returned (.tuple #[])/\Keep (At2 kb g) w w'/\Hd 186 w' kb 0 U (ks.setIfInBounds 0 (Q_ g (Ec l i).length cap)) g cap (Ec l i):=by
 by_cases f:i+1<l.length
 .have b:l[i]?=some l[i]:=Lh (by omega);have c:l[i+1]?=some l[i+1]:=Lh f;have k:=hF.2 _ _ b;have n:=hF.2 _ _ c;refine(oL m w kb g cap i U ks l h _ _ b c (by omega) (by omega) (by omega)).mono ?_;rintro e w' ⟨rfl,a,d,j⟩;exact⟨rfl,a,⟨d,Nq h.v,j,h.ne⟩⟩
 .rw[Xk (by omega),h.self];refine(oN m w kb g cap i U ks l h (by omega) (by omega)).mono ?_;rintro e w' ⟨rfl,a⟩;exact⟨rfl,a.no,h.keep a id id⟩
theorem φ (g n cap vb i:Nat) (xs ys:U_) (hR:Rw 186 2 w g n cap xs) (hV:Rw 186 2 w vb 1 1 ys) (Cf:vb≠g) (hi:i<=n) (hsm:n<=100000):
  P_ m 129 #[Q_ g n cap,b_ (i:Nat),Q_ vb 1 1] w λe w'=>∃g' BR,e=.returned (Q_ g' (n+1) BR)/\Keep (At g) w w'/\Rw 186 2 w' g' (n+1) BR (Kv xs ys (i*2))/\(g'=g\/w.heap.size<=g'):=by
 by_cases b:i=n
 .subst b;have e:Kv xs ys (i*2)=xs++ys:=by
   unfold Kv
   rw[List.take_of_length_le (by rw[hR.len];exact w_ _),List.drop_of_length_le (by rw[hR.len];exact w_ _),List.append_nil]
  rw[e];exact iO m w g i cap vb xs ys hR hV hsm
 .by_cases a:n+1<=cap
  .exact Yh m w g n cap vb i xs ys hR hV Cf (by omega) hsm a
  .exact aH m w g n cap vb i xs ys hR hV (by omega) hsm (by omega)
end
def ab4 (T:j_) (w w1:o_) (kb g cap a n:Nat) (l:List (W_)) (L:Nat->Bool) (u:Y_) (W:o_):Prop:=
 Keep (At g) w1 W/\(L 10=false->Mp T W g cap l)/\(L 9=true->∃vb,u 9=Q_ vb 1 1/\vb≠g/\Rw T 2 W vb 1 1 [b_ a,b_ n])/\
 (L 10=true->∃g' BR,u 10=Q_ g' (l.length+1) BR/\Rw T 2 W g' (l.length+1) BR (rc (KE l a n))/\(g'=g\/w.heap.size<=g')/\kb≠g')
def Zk (l:List (W_)) (a x:Nat):Prop:=BO l a=x
theorem dn {l:List (W_)} {a n x:Nat} (h:Zk l a x):Kv (rc l) [b_ a,b_ n] (x*2)=rc (KE l a n):=by
 have h:BO l a=x:=h;subst h;exact ad5 l a n
theorem Qr {ks:X_} {i:Nat} {u v:n_}:(ks.setIfInBounds i u).setIfInBounds i v=ks.setIfInBounds i v:=by simp
section
variable (m:Nat) (w:o_)
theorem bk9 (kb g cap a n N:Nat) (U:j_) (ks:X_) (l:List (W_)) (h:Hd 186 w kb 0 U ks g cap l) (hF:Fit N l) (hN:N<=10000) (hn:a+n<=N) (hl:l.length+1<=N):
  P_ m 91 #[R_ kb,b_ (a:Nat),b_ (n:Nat)] w λe w'=>e=.returned (.tuple #[])/\Keep (At2 kb g) w w'/\∃g' BR,Hd 186 w' kb 0 U (ks.setIfInBounds 0 (Q_ g' (DF l a n).length BR)) g' BR (DF l a n)/\(g'=g\/w.heap.size<=g'):=by
 have X:=h.apart;have lg:=Rw.lt h.mp;have lk:=DN h.k;have hnb:(w.alloc (.cells #[b_ a] 94)).heap[w.heap.size]?=some (.cells #[b_ a] 94):=heap_alloc_new rfl;have D:Keep No w (w.alloc (.cells #[b_ a] 94)):=(p_ _ _).alloc _;have V:=h.keep D id id;have d3:(w.alloc (.cells #[b_ a] 94)).cell? (S_ w.heap.size)=some (b_ a):=bce hnb rfl;have d4:(w.alloc (.cells #[b_ a] 94)).cell? (S_ kb)=some (Q_ g l.length cap):=(Af V.k _).trans h.v;by_cases F:n<1
 .have f1:(n:Int)<1:=by omega
  have J:DF l a n=l:=by unfold DF;rw[if_pos F]
  rw[J];gi_enter func91,ntmps91;gi_wp2;refine bodyPost_ret (results_none rfl _ _ _) rfl ?_;exact⟨by simp,D.no,g,cap,by rw[h.self];exact V,.inl rfl⟩
 have f1:¬(n:Int)<1:=by omega
 have ix:=λm=>ϊ m (w.alloc (.cells #[b_ a] 94)) g cap w.heap.size a l V.mp d3 (by omega)
 have bs2:=SN l a;obtain⟨x,G⟩:∃x,l.findIdx? (λr=>decide (a<r.1))=x:=⟨_,rfl⟩;have h2:(∃c:Zk l a (BO l a),UG l (λr=>decide (a<r.1))=(BO l a:Int))\/(∃c:Zk l a l.length,UG l (λr=>decide (a<r.1))=-1):=by
  cases x with
  |none=>exact .inr ⟨by unfold Zk BO;rw[G],by unfold UG;rw[G]⟩
  |some i=>exact .inl ⟨rfl,by unfold UG BO;rw[G]⟩
 clear G x;obtain⟨c,ea⟩|⟨c,ea⟩:=h2
 all_goals
  simp only[ea]at ix
  gi_enter func91,ntmps91
  gi_wp2_with (gi_at_call 127;refine(ix _).mono ?_;rintro e w1 ⟨rfl,y⟩;have e3:=y.has d3;have e4:=y.has d4;have h1:=V.keep y id id)
  have ek:=h1.k
  refine DT (P:=prog) _ rfl rfl (by kernel_rfl) 11 42 [0,1,2,3,4,5,6,7,8] [9,10] (by kernel_rfl) (by rfl)
   (ab4 186 w w1.drew kb g cap a n l) (λL L' u j W h t=>by
    have h9:=h 9 (by simp)
    have K:=h 10 (by simp)
    unfold ab4 at t ⊢
    rw[<-h9.1,<-h9.2,<-K.1,<-K.2]
    exact t) _ _ rfl rfl ?_
  have sz:w.heap.size≠g:=by omega
  gi_wp2
  refine⟨rfl,by kernel_rfl,?_,?_,?_,?_⟩
  .intro j;exact⟨p_ _ _,λ_=>Rw.keep h1.mp (p_ No _).drew id,λh=>absurd h (by decide),λh=>absurd h (by decide)⟩
  .intro L j W t;have y:=t.1;have l3:=World.block_lt_of_cell? _ _ e3;have l4:=World.block_lt_of_cell? _ _ e4;have d0:=(y.cell (w:=w1.drew) (p:=(S_ w.heap.size)) l3 sz).trans e3;have d1:=(y.cell (w:=w1.drew) (p:=(S_ kb)) l4 X).trans e4
   repeat' (refine Az ?_ ?_)
   all_goals first|exact trivial|gi_wp2
  .intro i hi L j W t hLi hu;obtain⟨I,A,B,C⟩:=t;have l1:=I.size;have l2:=y.size;have l3:(w.alloc (.cells #[b_ a] 94)).heap.size=w.heap.size+1:=(by simp);have l4:w1.drew.heap.size=w1.heap.size:=rfl;obtain rfl|rfl:=(by simpa using hi:i=9\/i=10)
   .refine BJ rfl λKK Qj=>?_
    show wpListIn NF m prog _ _ _ (Act.put (Act.put _ (some 31) (j 9)) (some 32) (j 10)) _;have sz2:W.heap.size≠g:=(by omega);gi_wp2;refine⟨_,rfl,I.alloc _,λh=>Rw.keep (A h) ((p_ No W).alloc _) id,λ_=>⟨_,rfl,sz2,⟨⟨_,heap_alloc_new rfl,rfl,rfl⟩,w_ _,by decide,rfl,λx G=>?_⟩⟩,λh=>?_⟩
    .simp only[r_,List.not_mem_nil,or_false]at G;obtain rfl|rfl:=G<;>rfl
    .obtain⟨g',BR,b1,b2,b3,b4⟩:=C h;exact⟨g',BR,b1,b2.keep ((p_ No W).alloc _) id,b3,b4⟩
   .obtain⟨vb,q,s,T⟩:=B (hu 9 (by simp) (by decide));show wpOpIn NF m prog _ _ _ (λa' W'=>∃v,a'=Act.put (Act.put (Act.put _ (some 31) (j 9)) (some 32) (j 10)) (some 32) v/\_) (Act.put (Act.put _ (some 31) (j 9)) (some 32) (j 10)) _;rw[q];refine BJ rfl λKK Qj=>?_
    have e6:=A hLi;gi_wp2_with fail;refine(φ _ W g l.length cap vb _ _ _ e6 T s (by omega) (by omega)).mono ?_;rintro e w3 ⟨g',BR,rfl,M,aQ,Q⟩;gi_wp2;rw[dn c]at aQ;have R:(g'=g\/w.heap.size<=g')/\kb≠g':=by
     obtain rfl|Q:=Q
     .exact⟨.inl rfl,X⟩
     .exact⟨.inr (by omega),by omega⟩
    exact⟨_,rfl,I.then M,λh=>absurd h (by simp[Pq]),λh=>⟨vb,q,s,T.keep M s⟩,λ_=>⟨g',BR,rfl,aQ,R.1,R.2⟩⟩
  .intro L j W t hL;obtain⟨I,A,B,C⟩:=t;obtain⟨vb,q,_,s⟩:=B (hL 9 (by simp));obtain⟨g',BR,hz1,hz2,b,hz4⟩:=C (hL 10 (by simp));show wpListIn NF m prog _ _ _ (Act.put (Act.put _ (some 31) (j 9)) (some 32) (j 10)) _;rw[q,hz1];have z:=I.old (heap_drew.trans ek) X;have ek3:=BN z 0;have ek4:=(Af z 0).trans h.v;have Y:=Ak (i:=0) z (Q_ g' (l.length+1) BR);have hd:Hd 186 (W.setCell (S_ kb) (Q_ g' (l.length+1) BR)) kb 0 U (ks.setIfInBounds 0 (Q_ g' (l.length+1) BR)) g' BR (KE l a n):=⟨Y,by rw[PT];exact Nq h.v,by unfold Mp;rw[PT];exact hz2.keep ((p_ (At kb) W).setCell _ λ_=>rfl) hz4.symm,h.ne⟩;have J6:Keep (At2 kb g) w (W.setCell (S_ kb) (Q_ g' (l.length+1) BR)):=((D.then y).no.drew.trans I (λ_ _ h=>.inr h)).setCell _ (λ_=>.inl rfl);have Dk:=dw hF hn hl;gi_wp2_with fail;refine(an8 _ _ kb g' BR _ N U _ _ hd Dk hN (by omega)).mono ?_;rintro e w4 ⟨rfl,Z,E⟩;have O:Keep (At2 kb g) w w4:=J6.trans Z (λk hk f=>by
    obtain f|f:=f
    .exact .inl f
    .obtain b|b:=b
     .exact .inr (Eq.trans f b)
     .exfalso;have:k=g':=f;omega)
   rw[Qr]at E;have S:=c;unfold Zk at S;by_cases H:BO l a=0
   .have J:DF l a n=Ec (KE l a n) (BO l a):=(by unfold DF;rw[if_neg F,if_pos H,H]);gi_wp2_with fail
    first|rw[show((BO l a:Nat):Int)-1=-1 by omega]|rw[show((l.length:Nat):Int)-1=-1 by omega]|skip
    refine(oM _ _ kb).mono ?_;rintro e w5 ⟨rfl,o⟩;gi_wp2;go_end0;rw[J];refine⟨by simp,O.then o.no,g',BR,?_,b⟩;have d:=E.keep o id id
    first|exact d|(rw[show BO l a=l.length from c];exact d)
   .have J:DF l a n=Ec (Ec (KE l a n) (BO l a)) (BO l a-1):=(by unfold DF;rw[if_neg F,if_neg H]);gi_wp2_with fail
    first|rw[show((BO l a:Nat):Int)-1=((BO l a-1:Nat):Int) by omega]|rw[show((l.length:Nat):Int)-1=((l.length-1:Nat):Int) by omega]
    refine(an8 _ _ kb g' BR _ N U _ _ E (YZ Dk) hN (by omega)).mono ?_;rintro e w5 ⟨rfl,o,d⟩;rw[Qr]at d;gi_wp2;go_end0;rw[J];refine⟨by simp,O.trans o (λk hk f=>?_),g',BR,?_,b⟩
    .obtain f|f:=f
     .exact .inl f
     .obtain b|b:=b
      .exact .inr (Eq.trans f b)
      .exfalso;have:k=g':=f;omega
    .first|exact d|(rw[show BO l a=l.length from c];exact d)
end
theorem VY:Nh prog 95 188 (.agg #[b_ 0,b_ 0]) 2 16:=⟨underlying95,by kernel_rfl,by rfl,by decide,by intro x a;simp[Value.cells]at a;subst a;rfl⟩
theorem bu5:∃fn rs,prog.funcs[235]?=some fn/\(fn.name== "runtime.NumGoroutine")=false/\fn.body.isNone=true/\Extern.findNext fn=none/\Extern.find fn=some (Extern.SlicesOverlaps.overlaps #[95,95] rs):=⟨(prog.funcs[235]?).getD default,#[4],by kernel_rfl,by kernel_rfl,by kernel_rfl,by kernel_rfl,by kernel_rfl⟩
section
variable (m:Nat) (w:o_)
theorem sV (g n cap i j:Nat) (xs:U_) (hR:Rw 188 2 w g n cap xs) (hij:i<j) (hjn:j<=n):
  P_ m 124 #[Q_ g n cap,b_ (i:Nat),b_ (j:Nat)] w λe w'=>e=.returned (Q_ g (i+(n-j)) cap)/\Keep (At g) w w'/\Rw 188 2 w' g (i+(n-j)) cap (xs.take (i*2)++xs.drop (j*2)):=by
 have s:=hR.le;have t:¬((j:Int)<(i:Int)):=by omega
 have v:¬((n:Int)<(j:Int)):=by omega
 have x:¬((cap:Int)<(n:Int)):=by omega
 by_cases a:cap=j
 all_goals
  gi_enter func124,ntmps124
  gi_wp2
  refine CP (P:=prog) No _ rfl rfl (by kernel_rfl) 6 33 [0,1,2,3,4,5] [] (by kernel_rfl) (by rfl) (λ_ _ _=>True) (λ_ _ _ _ _ h _=>h) _ _ rfl rfl ?_
  gi_wp2
  refine⟨rfl,by kernel_rfl,?_,(λi r=>absurd r (by simp)),?_⟩
  .intro W d
   repeat' (refine Az ?_ ?_)
   all_goals first|exact trivial|gi_wp2
  .intro u W d _;simp only[Jk];obtain⟨w1,b,f,o⟩:=kJ (w:=W) (ty:=95) VY (hR.keep ((p_ No w).drew.then d) id) hij hjn;obtain⟨w2,k,l,p⟩:=PV (c:=cap-(i+(n-j))) (q:=n-(i+(n-j))) (ty:=0) VY o (by omega)
   first|(rw[if_pos a]at b;simp only[a,Nat.sub_self]at b k)|rw[if_neg a]at b
   refine Cc rfl (.tmp 22) (.tmp 25) _ rfl rfl rfl b ?_;gi_wp2;go_ret;exact⟨by simp[a],(((p_ _ _).drew.then d.no).then f).then l,p⟩
theorem iM (g n cap vb:Nat) (xs ys:U_) (hR:Rw 188 2 w g n cap xs) (hV:Rw 188 2 w vb 1 1 ys) (hsm:n<=100000):
  P_ m 210 #[Q_ g n cap,b_ (n:Nat),Q_ vb 1 1] w λe w'=>∃g' BR,e=.returned (Q_ g' (n+1) BR)/\Keep (At g) w w'/\Rw 188 2 w' g' (n+1) BR (xs++ys)/\(g'=g\/w.heap.size<=g'):=by
 obtain⟨g',BR,w',b,d,c⟩:=qH (ty:=95) (sCap:=1) VY hR hV.len hV.cells hV.one (by omega) (by omega);have f:=hR.le;by_cases a:cap=n
 all_goals
  first|simp only[a]at b ⊢ | skip
  gi_enter func210,ntmps210
  gi_wp2_with (refine Cc rfl (.tmp 23) (.tmp 24) _ rfl rfl rfl b ?_)
  go_ret
  refine⟨g',BR,by simp,?_,d,?_⟩
  .obtain⟨_,h⟩|⟨_,h⟩:=c
   .exact h
   .exact h.no
  .obtain⟨h,_⟩|⟨h,_⟩:=c
   .exact .inl h
   .exact .inr (by omega)
theorem aG (g n cap vb i:Nat) (xs ys:U_) (hR:Rw 188 2 w g n cap xs) (hV:Rw 188 2 w vb 1 1 ys) (hi:i<n) (hsm:n<=100000) (hgr:cap<n+1):
  P_ m 210 #[Q_ g n cap,b_ (i:Nat),Q_ vb 1 1] w λe w'=>∃g' BR,e=.returned (Q_ g' (n+1) BR)/\Keep (At g) w w'/\Rw 188 2 w' g' (n+1) BR (Kv xs ys (i*2))/\(g'=g\/w.heap.size<=g'):=by
 have v:=hR.le;obtain⟨BR,w1,o,b,d⟩:=kE (i:=i) (m:=n+1-i) (ty:=95) (ti:=3) VY hR (by omega) (by omega) (by omega) (by omega) (by omega) underlying3;have t:i+(n+1-i)=n+1:=by omega
 rw[t]at o b;have p:=b.le;obtain⟨w2,l,r,c⟩:=rM (i:=i) (n:=n) (xs:=xs) (ys:=ys) (g:=g) (cap:=cap) (Hq:=BR - i) (sCap:=1) (ty:=3) (a:=(S_ vb)) VY b hi hR.len hV.len (hV.keep d id).cells hV.one;have q:Keep No w w2:=d.trans (S':=At w.heap.size) r (λk u h=>by have:k=w.heap.size:=h;omega);obtain⟨w3,x,j,s⟩:=c w2.drew (BR - (i+1)) (cap-i) (p_ No w2).drew ((hR.keep q id).keep (p_ No w2).drew id);have f:n+1-(i+1)=n-i:=by omega
 rw[f]at x;have y:Keep No w w3:=q.drew.trans (S':=At w.heap.size) j (λk u h=>by have:k=w.heap.size:=h;omega);have A:¬((n:Int)<(i:Int)):=by omega
 have B:¬((n:Int)+1<=(cap:Int)):=by omega
 have C:¬(BR=i):=by omega
 have D:¬(BR=i+1):=by omega
 have E:¬(cap=i):=by omega
 have z:((n:Int)+1-(i:Int))=((n+1-i:Nat):Int):=by omega
 gi_enter func210,ntmps210;gi_wp2_with (first|(gi_at_builtin;refine Cc rfl (.tmp 34) (.tmp 39) _ rfl rfl rfl o ?_)|(refine Ot rfl (.tmp 43) (.tmp 44) _ rfl rfl rfl l ?_));gi_region
 all_goals gi_wp2
 all_goals go_ret
 all_goals exact⟨_,_,by simp,y.no,s,.inr (w_ _)⟩
theorem Yg (g n cap vb i:Nat) (xs ys:U_) (hR:Rw 188 2 w g n cap xs) (hV:Rw 188 2 w vb 1 1 ys) (Cf:vb≠g) (hi:i<n) (hsm:n<=100000) (hgr:n+1<=cap):
  P_ m 210 #[Q_ g n cap,b_ (i:Nat),Q_ vb 1 1] w λe w'=>∃g' BR,e=.returned (Q_ g' (n+1) BR)/\Keep (At g) w w'/\Rw 188 2 w' g' (n+1) BR (Kv xs ys (i*2))/\(g'=g\/w.heap.size<=g'):=by
 obtain⟨p,f,_⟩:=hR.blk;obtain⟨q,j,_⟩:=hV.blk;have r:¬(cap=i):=by omega
 have s:¬(cap=i+1):=by omega
 have l:=dJ (la:=1) (ca:=1) (lb:=n-i) (cb:=cap-(i+1)) (o:=(i+1)*2) VY bu5 Cf j f;obtain⟨w1,h,b,a⟩:=rJ (ys:=ys) (i:=i) (ty:=3) (Hq:=cap-(i+1)) (sCap:=cap-i) VY (hR.keep (p_ No w).drew id) hi hgr;have c:n+1-(i+1)=n-i:=by omega
 rw[c]at h;obtain⟨w3,t,d,k⟩:=a w1 (S_ vb) (cap-i) 1 (p_ No w1) hV.len (hV.keep ((p_ (At g) w).drew.then b) Cf).cells hV.one;gi_enter func210,ntmps210;gi_wp2;gi_region
 all_goals gi_wp2
 all_goals go_ret
 all_goals exact⟨g,cap,by simp,((p_ (At g) w).drew.then b).then d,k,.inl rfl⟩
theorem χ (g cap jr n:Nat) (l:List (W_)) (h:Mp 188 w g cap l) (hn:w.cell? (S_ jr)=some (b_ n)) (hl:l.length<=100000):
  P_ m 122 #[Q_ g l.length cap,.func (.func 123) #[] #[R_ jr]] w λe w'=>e=.returned (b_ (UG l λr=>decide (n<=r.2)))/\Keep No w w':=by
 gi_enter func122,ntmps122;gi_wp2;gi_loopw [8] (λi wr=>∃k:Nat,k<=l.length/\i=b_ k/\Keep No w wr/\∀j r,j<k->l[j]?=some r->¬n<=r.2) (λi _=>l.length-(intOf i).toNat)
 case atStart=>exact⟨0,by omega,rfl,p_ _ _,λj r h=>absurd h (by omega)⟩
 case round=>
  obtain⟨k,t,rfl,KK,d⟩:=hrel
  by_cases o:k<l.length
  .have b:l[k]?=some l[k]:=Lh o;generalize l[k]=r at b;obtain⟨p,d1⟩:=Mp.cells (Rw.keep h KK id) b;have d2:=KK.has hn;have d3:(wr.alloc (.cells #[b_ r.1,b_ r.2] 188)).cell? (S_ jr)=some (b_ n):=((p_ No wr).alloc _).has d2;by_cases f:n<=r.2
   .gi_wp2_with gi_in;go_ret;exact⟨by rw[Ti (k:=k) (r:=r) (λi q c a=>by have:=d i q c a;simpa using this) b (by simpa using f)];simp,KK.alloc _⟩
   .gi_wp2_with gi_in;go_roundw
    case rel=>
     refine⟨k+1,by omega,by go_num,KK.alloc _,λj q s a=>?_⟩
     by_cases e:j=k
     .subst e;rw[b]at a;cases a;exact f
     .exact d j q (by omega) a
    case measure=>simp[intOf];omega
  .obtain rfl:k=l.length:=(by omega);gi_wp2;go_ret;exact⟨by rw[Tj (λi r c=>by have:=d i r (O5.1 c).1 c;simpa using this)];simp,KK⟩
theorem ψ (g cap jr n:Nat) (l:List (W_)) (h:Mp 188 w g cap l) (hn:w.cell? (S_ jr)=some (b_ n)) (hl:l.length<=100000):
  P_ m 122 #[Q_ g l.length cap,.func (.func 209) #[] #[R_ jr]] w λe w'=>e=.returned (b_ (UG l λr=>decide (n<r.1)))/\Keep No w w':=by
 gi_enter func122,ntmps122;gi_wp2;gi_loopw [8] (λi wr=>∃k:Nat,k<=l.length/\i=b_ k/\Keep No w wr/\∀j r,j<k->l[j]?=some r->¬n<r.1) (λi _=>l.length-(intOf i).toNat)
 case atStart=>exact⟨0,by omega,rfl,p_ _ _,λj r h=>absurd h (by omega)⟩
 case round=>
  obtain⟨k,t,rfl,KK,d⟩:=hrel
  by_cases o:k<l.length
  .have b:l[k]?=some l[k]:=Lh o;generalize l[k]=r at b;obtain⟨p,d1⟩:=Mp.cells (Rw.keep h KK id) b;have d2:=KK.has hn;have d3:(wr.alloc (.cells #[b_ r.1,b_ r.2] 188)).cell? (S_ jr)=some (b_ n):=((p_ No wr).alloc _).has d2;by_cases f:n<r.1
   .gi_wp2_with gi_in;go_ret;exact⟨by rw[Ti (k:=k) (r:=r) (λi q c a=>by have:=d i q c a;simpa using this) b (by simpa using f)];simp,KK.alloc _⟩
   .gi_wp2_with gi_in;go_roundw
    case rel=>
     refine⟨k+1,by omega,by go_num,KK.alloc _,λj q s a=>?_⟩
     by_cases e:j=k
     .subst e;rw[b]at a;cases a;exact f
     .exact d j q (by omega) a
    case measure=>simp[intOf];omega
  .obtain rfl:k=l.length:=(by omega);gi_wp2;go_ret;exact⟨by rw[Tj (λi r c=>by have:=d i r (O5.1 c).1 c;simpa using this)];simp,KK⟩
theorem bu7 (f s:Nat) (hsm:f+s<=1000000):P_ m 237 #[.agg #[b_ f,b_ s]] w λe w'=>e=.returned (b_ (f+s:Nat))/\Keep No w w':=by
 gi_enter func237,ntmps237;gi_wp2;go_ret;exact⟨by simp,by repeat (first|exact p_ _ _|refine Keep.drew ?_|refine Keep.alloc ?_ _)⟩
theorem oJ (kb:Nat):
  P_ m 211 #[.pointer (some (T_ kb 1)),b_ (-1)] w λe w'=>e=.returned (.tuple #[])/\Keep No w w':=by
 gi_enter func211,ntmps211;gi_wp2;refine CP (P:=prog) No _ rfl rfl (by kernel_rfl) 31 68 [0,1,2,3,4,5,6,7,8,9,10,11,12,13,14,15,16,17,18,19,20,21,22,23,24,25,26,27,28,29,30] [] (by kernel_rfl) (by rfl) (λ_ _ _=>True) (λ_ _ _ _ _ h _=>h) _ _ rfl rfl ?_;gi_wp2;refine⟨rfl,by kernel_rfl,?_,(λi b=>absurd b (by simp)),?_⟩
 .intro W a
  repeat' (refine Az ?_ ?_)
  all_goals first|exact trivial|gi_wp2
 .intro u W a _;simp only[Jk];gi_wp2;refine bodyPost_ret (results_none rfl _ _ _) rfl ?_;exact⟨by simp,(p_ No w).drew.then a⟩
theorem oK (kb g cap i:Nat) (U:j_) (ks:X_) (l:List (W_)) (h:Hd 188 w kb 1 U ks g cap l) (hi:l.length<=i+1) (hsm:i<=100000):
  P_ m 211 #[.pointer (some (T_ kb 1)),b_ (i:Nat)] w λe w'=>e=.returned (.tuple #[])/\Keep No w w':=by
 have b:w.cell? (T_ kb 1)=some (Q_ g l.length cap):=(Af h.k _).trans h.v;have d:¬((i:Int)<0):=by omega
 have f:((l.length:Int)<=(i:Int)+1):=by omega
 gi_enter func211,ntmps211;gi_wp2;refine CP (P:=prog) No _ rfl rfl (by kernel_rfl) 31 68 [0,1,2,3,4,5,6,7,8,9,10,11,12,13,14,15,16,17,18,19,20,21,22,23,24,25,26,27,28,29,30] [] (by kernel_rfl) (by rfl) (λ_ _ _=>True) (λ_ _ _ _ _ h _=>h) _ _ rfl rfl ?_;gi_wp2;refine⟨rfl,by kernel_rfl,?_,(λi hi=>absurd hi (by simp)),?_⟩
 .intro W a;have c:=a.has (w:=w.drew) b
  repeat' (refine Az ?_ ?_)
  all_goals first|exact trivial|gi_wp2
 .intro u W a _;simp only[Jk];gi_wp2;refine bodyPost_ret (results_none rfl _ _ _) rfl ?_;exact⟨by simp,(p_ No w).drew.then a⟩
theorem oI (kb g cap i:Nat) (U:j_) (ks:X_) (l:List (W_)) (h:Hd 188 w kb 1 U ks g cap l) (a b:W_) (ha:l[i]?=some a) (hb:l[i+1]?=some b) (hsm:i<=100000) (hsa:a.1+a.2<=100000) (hsb:a.2+b.2<=100000):
  P_ m 211 #[.pointer (some (T_ kb 1)),b_ (i:Nat)] w λe w'=>e=.returned (.tuple #[])/\Keep (At2 kb g) w w'/\w'.heap[kb]?=some (.cells (ks.setIfInBounds 1 (Q_ g (Ec l i).length cap)) U (0,0))/\Mp 188 w' g cap (Ec l i):=by
 have H:w.cell? (T_ kb 1)=some (Q_ g l.length cap):=(Af h.k _).trans h.v;have n:=h.apart;obtain⟨D,E⟩:=h.mp.cells ha;obtain⟨c2,c3⟩:=h.mp.cells hb;have Q:=(O5.1 hb).1;have L:¬((i:Int)<0):=by omega
 have M:¬((l.length:Int)<=(i:Int)+1):=by omega
 have N:(i:Int)<(l.length:Int):=by omega
 gi_enter func211,ntmps211;gi_wp2;refine CP (P:=prog) No _ rfl rfl (by kernel_rfl) 30 68 [0,1,2,3,4,5,6,7,8,9,10,11,12,13,14,15,16,17,18,19,21,22,23,24,25,26,27,28,29] [20] (by kernel_rfl) (by rfl) (λ_ v W=>v=b_ (a.1+a.2:Nat)) (λ_ _ _ _ _ h _=>h) _ _ rfl rfl ?_;gi_wp2;refine⟨rfl,?_,?_,?_,?_⟩
 .kernel_rfl
 .intro W d;have F:=d.has (w:=w.drew) H;have d1:=d.has (w:=w.drew) D;have d2:=d.has (w:=w.drew) E;have d3:=d.has (w:=w.drew) c2
  repeat' (refine Az ?_ ?_)
  all_goals first|exact trivial|gi_wp2
 .intro i G u W d _;obtain rfl:i=20:=by simpa using G
  refine BJ rfl λKK I=>?_
  show wpListIn NF m prog _ _ _ (Act.put _ (some 24) (u 20)) _;gi_wp2_with (gi_at_call 237;refine(bu7 _ _ a.1 a.2 (by omega)).mono ?_;rintro e w1 ⟨rfl,q⟩);exact⟨_,rfl,q,by simp⟩
 .intro u W d x;have x:=x 20 (by simp);show wpListIn NF m prog _ _ _ (Act.put _ (some 24) (u 20)) _;rw[x];have c:Keep No w W:=(p_ No w).drew.then d;have o:=c.old h.k id;have q1:W.cell? (T_ kb 1)=some (Q_ g l.length cap):=(Af o _).trans h.v;have m1:Mp 188 W g cap l:=Rw.keep h.mp c id;obtain⟨F,d1⟩:=m1.cells ha;obtain⟨d2,d3⟩:=m1.cells hb;have O:=Rw.fz m1 (i*2+1);by_cases C:a.1+a.2=b.1
  .have s:(a.1:Int)+(a.2:Int)=(b.1:Int):=(by omega);have m2:=m1.Jo ha (a.2+b.2);have j:(l.set i (a.1,a.2+b.2)).length=l.length:=List.length_set ..;have m3:Rw 188 2 (W.setCell (T_ g (i*2+1)) (b_ ((a.2:Int)+b.2))).drew g l.length cap (rc (l.set i (a.1,a.2+b.2))):=by
    have f:=Rw.keep m2 (p_ No _).drew id
    rw[j]at f
    push_cast at f
    exact f
   have dl:=λm=>sV m _ g l.length cap (i+1) (i+2) _ m3 (by omega) (by omega)
   push_cast at dl;have t:((W.setCell (T_ g (i*2+1)) (b_ ((a.2:Int)+b.2))).drew).heap[kb]?=some (O_ ks U):=(Gz _ n).trans o;have r:Keep (At2 kb g) w (W.setCell (T_ g (i*2+1)) (b_ ((a.2:Int)+b.2))).drew:=(c.no.setCell _ λ_=>.inr rfl).drew;gi_wp2;gi_region
   all_goals gi_wp2_with (gi_at_call 124;refine(dl _).mono ?_;rintro e w2 ⟨rfl,y,z⟩;have p:=y.old t n;have J:=BN p 1;have K:=(Af p 1).trans h.v)
   all_goals go_end0
   all_goals
    have A:=YY ha hb C
    have B:(Ec l i).length=i+1+(l.length-(i+2)):=by rw[A];simp only[List.length_append,List.length_take,List.length_drop,j];omega
    rw[Qk,Ql,<-Ub,<-A,<-B]at z
    exact⟨by simp,(r.trans y (λ_ _ h=>.inr h)).setCell _ (λ_=>.inl rfl),by rw[B];exact Ak p _,Rw.keep z ((p_ (At kb) _).setCell _ λ_=>rfl) n.symm⟩
  .have s:((a.1:Int)+(a.2:Int) !=(b.1:Int))=true:=(by simp;omega);gi_wp2;refine bodyPost_ret (results_none rfl _ _ _) rfl ?_;rw[eG ha hb C];exact⟨by simp,c.no,by rw[h.self];exact o,m1⟩
theorem am3 (kb g cap n N:Nat) (U:j_) (ks:X_) (l:List (W_)) (h:Hd 188 w kb 1 U ks g cap l) (hF:Fit N l) (hN:N<=10000) (hn:n<=10000):
  P_ m 89 #[.pointer (some (T_ kb 1)),b_ (n:Nat)] w λe w'=>e=.returned (Nk (Aw l n).1)/\Keep (At2 kb g) w w'/\w'.heap[kb]?=some (.cells (ks.setIfInBounds 1 (Q_ g (Aw l n).2.length cap)) U (0,0))/\Mp 188 w' g cap (Aw l n).2:=by
 have t:=h.apart;obtain⟨L,y⟩:=hF;have A:(w.alloc (.cells #[b_ n] 3)).heap[w.heap.size]?=some (.cells #[b_ n] 3):=heap_alloc_new rfl;have c:Keep No w (w.alloc (.cells #[b_ n] 3)):=(p_ _ _).alloc _;have q:=h.keep c id id;have d3:(w.alloc (.cells #[b_ n] 3)).cell? (S_ w.heap.size)=some (b_ n):=bce A rfl;have d4:(w.alloc (.cells #[b_ n] 3)).cell? (T_ kb 1)=some (Q_ g l.length cap):=(Af q.k _).trans h.v;have p:=λm=>χ m (w.alloc (.cells #[b_ n] 3)) g cap w.heap.size n l q.mp d3 (by omega)
 by_cases d:n<1
 .have J:(n:Int)<1:=by omega
  have f:Aw l n=(none,l):=by unfold Aw;rw[if_pos d]
  rw[f];generalize UG l (λr=>decide (n<=r.2))=j at p;gi_enter func89,ntmps89;gi_wp2_with (gi_at_call 122;refine(p _).mono ?_;rintro e w1 ⟨rfl,a⟩;have e3:=a.has d3;have e4:=a.has d4);go_ret2;have b:=q.keep a id id;exact⟨by simp[Nk],(c.then a).no,by rw[h.self];exact b.k,b.mp⟩
 .have J:¬(n:Int)<1:=by omega
  cases hx:l.findIdx? (λr=>decide (n<=r.2))with
  |none=>
   have x:UG l (λr=>decide (n<=r.2))=-1:=by unfold UG;rw[hx]
   have f:Aw l n=(none,l):=by unfold Aw;rw[if_neg d,hx]
   rw[f]
   simp only[x]at p
   gi_enter func89,ntmps89
   gi_wp2_with (gi_at_call 122;refine(p _).mono ?_;rintro e w1 ⟨rfl,a⟩;have e3:=a.has d3;have e4:=a.has d4)
   go_ret2
   have b:=q.keep a id id
   exact⟨by simp[Nk],(c.then a).no,by rw[h.self];exact b.k,b.mp⟩
  |some i=>
   have x:UG l (λr=>decide (n<=r.2))=(i:Int):=by unfold UG;rw[hx]
   simp only[x]at p
   obtain⟨B,s,_⟩:=List.findIdx?_eq_some_iff_getElem.1 hx
   have o:l[i]?=some l[i]:=Lh B
   generalize l[i]=r at o s
   have M:n<=r.2:=by simpa using s
   have P:=y i r o
   have T:(i:Int)<(l.length:Int):=by omega
   have V:¬(i:Int)<0:=by omega
   by_cases F:r.2=n
   .have f:Aw l n=(some r.1,l.take i++l.drop (i+1)):=(by unfold Aw;rw[if_neg d,hx];simp only[o,F,if_true]);rw[f];have K:((r.2:Int)==(n:Int))=true:=(by simp;omega);gi_enter func89,ntmps89;gi_wp2_with (gi_at_call 122;refine(p _).mono ?_;rintro e w1 ⟨rfl,a⟩;have e3:=a.has d3;have e4:=a.has d4;have b:=q.keep a id id;obtain⟨H,I⟩:=b.mp.cells o);have dl:=λm=>sV m w1.drew g l.length cap i (i+1) _ (Rw.keep b.mp (p_ No _).drew id) (by omega) (by omega)
    push_cast at dl;have z:w1.drew.heap[kb]?=some (O_ ks U):=b.k;gi_region
    all_goals gi_wp2_with (gi_at_call 124;refine(dl _).mono ?_;rintro e w2 ⟨rfl,C,D⟩;have u:=C.old z t;have R:=BN u 1;have S:=(Af u 1).trans h.v)
    all_goals go_ret2
    all_goals
     have E:(l.take i++l.drop (i+1)).length=i+(l.length-(i+1)):=by simp only[List.length_append,List.length_take,List.length_drop];omega
     rw[Qk,Ql,<-Ub,<-E]at D
     exact⟨by simp[Nk],((c.then a).drew.no.trans C (λ_ _ h=>.inr h)).setCell _ (λ_=>.inl rfl),by rw[E];exact Ak u _,Rw.keep D ((p_ (At kb) _).setCell _ λ_=>rfl) t.symm⟩
   .have f:Aw l n=(some r.1,l.set i (r.1+n,r.2-n)):=(by unfold Aw;rw[if_neg d,hx];simp only[o,F,if_false]);rw[f];have K:((r.2:Int)==(n:Int))=false:=(by simp;omega);gi_enter func89,ntmps89;gi_wp2_with (gi_at_call 122;refine(p _).mono ?_;rintro e w1 ⟨rfl,a⟩;have e3:=a.has d3;have e4:=a.has d4;have b:=q.keep a id id;obtain⟨H,I⟩:=b.mp.cells o);have W:=λj=>Rw.fz b.mp j
    have O:=Rw.lt h.mp;have v1:((r.1+n:Nat):Int)=(r.1:Int)+n:=(by omega);have v2:((r.2-n:Nat):Int)=(r.2:Int)-n:=(by omega);gi_region
    all_goals gi_wp2
    all_goals gi_region
    all_goals gi_wp2
    all_goals gi_region
    all_goals gi_wp2
    all_goals go_ret2
    all_goals
     have m2:=b.mp.set0 o (r.1+n)
     have G:=m2.Jo (i:=i) (r:=(r.1+n,r.2)) (by rw[List.getElem?_set_self B]) (r.2-n)
     rw[v1,v2]at G
     have Q:Mp 188 _ g cap _:=Rw.keep G (p_ No _).drew.drew.drew id
     refine⟨by simp[Nk],by repeat (first|exact(c.then a).no|refine Keep.drew ?_|refine Keep.setCell ?_ _ (λ_=>.inr rfl)),?_,by simpa using Q⟩
     rw[List.length_set,h.self]
     exact(Gz _ t).trans ((Gz _ t).trans b.k)
theorem an7 (kb g cap i N:Nat) (U:j_) (ks:X_) (l:List (W_)) (h:Hd 188 w kb 1 U ks g cap l) (hF:Fit N l) (hN:N<=10000) (hi:i<=10000):
  P_ m 211 #[.pointer (some (T_ kb 1)),b_ (i:Nat)] w λe w'=>e=.returned (.tuple #[])/\Keep (At2 kb g) w w'/\Hd 188 w' kb 1 U (ks.setIfInBounds 1 (Q_ g (Ec l i).length cap)) g cap (Ec l i):=by
 by_cases f:i+1<l.length
 .have b:l[i]?=some l[i]:=Lh (by omega);have c:l[i+1]?=some l[i+1]:=Lh f;have k:=hF.2 _ _ b;have n:=hF.2 _ _ c;refine(oI m w kb g cap i U ks l h _ _ b c (by omega) (by omega) (by omega)).mono ?_;rintro e w' ⟨rfl,a,d,j⟩;exact⟨rfl,a,⟨d,Nq h.v,j,h.ne⟩⟩
 .rw[Xk (by omega),h.self];refine(oK m w kb g cap i U ks l h (by omega) (by omega)).mono ?_;rintro e w' ⟨rfl,a⟩;exact⟨rfl,a.no,h.keep a id id⟩
theorem υ (g n cap vb i:Nat) (xs ys:U_) (hR:Rw 188 2 w g n cap xs) (hV:Rw 188 2 w vb 1 1 ys) (Cf:vb≠g) (hi:i<=n) (hsm:n<=100000):
  P_ m 210 #[Q_ g n cap,b_ (i:Nat),Q_ vb 1 1] w λe w'=>∃g' BR,e=.returned (Q_ g' (n+1) BR)/\Keep (At g) w w'/\Rw 188 2 w' g' (n+1) BR (Kv xs ys (i*2))/\(g'=g\/w.heap.size<=g'):=by
 by_cases b:i=n
 .subst b;have e:Kv xs ys (i*2)=xs++ys:=by
   unfold Kv
   rw[List.take_of_length_le (by rw[hR.len];exact w_ _),List.drop_of_length_le (by rw[hR.len];exact w_ _),List.append_nil]
  rw[e];exact iM m w g i cap vb xs ys hR hV hsm
 .by_cases a:n+1<=cap
  .exact Yg m w g n cap vb i xs ys hR hV Cf (by omega) hsm a
  .exact aG m w g n cap vb i xs ys hR hV (by omega) hsm (by omega)
theorem bk7 (kb g cap a n N:Nat) (U:j_) (ks:X_) (l:List (W_)) (h:Hd 188 w kb 1 U ks g cap l) (hF:Fit N l) (hN:N<=10000) (hn:a+n<=N) (hl:l.length+1<=N):
  P_ m 156 #[.pointer (some (T_ kb 1)),b_ (a:Nat),b_ (n:Nat)] w λe w'=>e=.returned (.tuple #[])/\Keep (At2 kb g) w w'/\∃g' BR,Hd 188 w' kb 1 U (ks.setIfInBounds 1 (Q_ g' (DF l a n).length BR)) g' BR (DF l a n)/\(g'=g\/w.heap.size<=g'):=by
 have X:=h.apart;have lg:=Rw.lt h.mp;have lk:=DN h.k;have hnb:(w.alloc (.cells #[b_ a] 99)).heap[w.heap.size]?=some (.cells #[b_ a] 99):=heap_alloc_new rfl;have D:Keep No w (w.alloc (.cells #[b_ a] 99)):=(p_ _ _).alloc _;have V:=h.keep D id id;have d3:(w.alloc (.cells #[b_ a] 99)).cell? (S_ w.heap.size)=some (b_ a):=bce hnb rfl;have d4:(w.alloc (.cells #[b_ a] 99)).cell? (T_ kb 1)=some (Q_ g l.length cap):=(Af V.k _).trans h.v;by_cases F:n<1
 .have f1:(n:Int)<1:=by omega
  have J:DF l a n=l:=by unfold DF;rw[if_pos F]
  rw[J];gi_enter func156,ntmps156;gi_wp2;refine bodyPost_ret (results_none rfl _ _ _) rfl ?_;exact⟨by simp,D.no,g,cap,by rw[h.self];exact V,.inl rfl⟩
 have f1:¬(n:Int)<1:=by omega
 have ix:=λm=>ψ m (w.alloc (.cells #[b_ a] 99)) g cap w.heap.size a l V.mp d3 (by omega)
 have bs2:=SN l a;obtain⟨x,G⟩:∃x,l.findIdx? (λr=>decide (a<r.1))=x:=⟨_,rfl⟩;have h2:(∃c:Zk l a (BO l a),UG l (λr=>decide (a<r.1))=(BO l a:Int))\/(∃c:Zk l a l.length,UG l (λr=>decide (a<r.1))=-1):=by
  cases x with
  |none=>exact .inr ⟨by unfold Zk BO;rw[G],by unfold UG;rw[G]⟩
  |some i=>exact .inl ⟨rfl,by unfold UG BO;rw[G]⟩
 clear G x;obtain⟨c,ea⟩|⟨c,ea⟩:=h2
 all_goals
  simp only[ea]at ix
  gi_enter func156,ntmps156
  gi_wp2_with (gi_at_call 122;refine(ix _).mono ?_;rintro e w1 ⟨rfl,y⟩;have e3:=y.has d3;have e4:=y.has d4;have h1:=V.keep y id id)
  have ek:=h1.k
  refine DT (P:=prog) _ rfl rfl (by kernel_rfl) 11 42 [0,1,2,3,4,5,6,7,8] [9,10] (by kernel_rfl) (by rfl)
   (ab4 188 w w1.drew kb g cap a n l) (λL L' u j W h t=>by
    have h9:=h 9 (by simp)
    have K:=h 10 (by simp)
    unfold ab4 at t ⊢
    rw[<-h9.1,<-h9.2,<-K.1,<-K.2]
    exact t) _ _ rfl rfl ?_
  have sz:w.heap.size≠g:=by omega
  gi_wp2
  refine⟨rfl,by kernel_rfl,?_,?_,?_,?_⟩
  .intro j;exact⟨p_ _ _,λ_=>Rw.keep h1.mp (p_ No _).drew id,λh=>absurd h (by decide),λh=>absurd h (by decide)⟩
  .intro L j W t;have y:=t.1;have l3:=World.block_lt_of_cell? _ _ e3;have l4:=World.block_lt_of_cell? _ _ e4;have d0:=(y.cell (w:=w1.drew) (p:=(S_ w.heap.size)) l3 sz).trans e3;have d1:=(y.cell (w:=w1.drew) (p:=(T_ kb 1)) l4 X).trans e4
   repeat' (refine Az ?_ ?_)
   all_goals first|exact trivial|gi_wp2
  .intro i hi L j W t hLi hu;obtain⟨I,A,B,C⟩:=t;have l1:=I.size;have l2:=y.size;have l3:(w.alloc (.cells #[b_ a] 99)).heap.size=w.heap.size+1:=(by simp);have l4:w1.drew.heap.size=w1.heap.size:=rfl;obtain rfl|rfl:=(by simpa using hi:i=9\/i=10)
   .refine BJ rfl λKK Qj=>?_
    show wpListIn NF m prog _ _ _ (Act.put (Act.put _ (some 31) (j 9)) (some 32) (j 10)) _;have sz2:W.heap.size≠g:=(by omega);gi_wp2;refine⟨_,rfl,I.alloc _,λh=>Rw.keep (A h) ((p_ No W).alloc _) id,λ_=>⟨_,rfl,sz2,⟨⟨_,heap_alloc_new rfl,rfl,rfl⟩,w_ _,by decide,rfl,λx G=>?_⟩⟩,λh=>?_⟩
    .simp only[r_,List.not_mem_nil,or_false]at G;obtain rfl|rfl:=G<;>rfl
    .obtain⟨g',BR,b1,b2,b3,b4⟩:=C h;exact⟨g',BR,b1,b2.keep ((p_ No W).alloc _) id,b3,b4⟩
   .obtain⟨vb,q,s,T⟩:=B (hu 9 (by simp) (by decide));show wpOpIn NF m prog _ _ _ (λa' W'=>∃v,a'=Act.put (Act.put (Act.put _ (some 31) (j 9)) (some 32) (j 10)) (some 32) v/\_) (Act.put (Act.put _ (some 31) (j 9)) (some 32) (j 10)) _;rw[q];refine BJ rfl λKK Qj=>?_
    have e6:=A hLi;gi_wp2_with fail;refine(υ _ W g l.length cap vb _ _ _ e6 T s (by omega) (by omega)).mono ?_;rintro e w3 ⟨g',BR,rfl,M,aQ,Q⟩;gi_wp2;rw[dn c]at aQ;have R:(g'=g\/w.heap.size<=g')/\kb≠g':=by
     obtain rfl|Q:=Q
     .exact⟨.inl rfl,X⟩
     .exact⟨.inr (by omega),by omega⟩
    exact⟨_,rfl,I.then M,λh=>absurd h (by simp[Pq]),λh=>⟨vb,q,s,T.keep M s⟩,λ_=>⟨g',BR,rfl,aQ,R.1,R.2⟩⟩
  .intro L j W t hL;obtain⟨I,A,B,C⟩:=t;obtain⟨vb,q,_,s⟩:=B (hL 9 (by simp));obtain⟨g',BR,hz1,hz2,b,hz4⟩:=C (hL 10 (by simp));show wpListIn NF m prog _ _ _ (Act.put (Act.put _ (some 31) (j 9)) (some 32) (j 10)) _;rw[q,hz1];have z:=I.old (heap_drew.trans ek) X;have ek3:=BN z 1;have ek4:=(Af z 1).trans h.v;have Y:=Ak (i:=1) z (Q_ g' (l.length+1) BR);have hd:Hd 188 (W.setCell (T_ kb 1) (Q_ g' (l.length+1) BR)) kb 1 U (ks.setIfInBounds 1 (Q_ g' (l.length+1) BR)) g' BR (KE l a n):=⟨Y,by rw[PT];exact Nq h.v,by unfold Mp;rw[PT];exact hz2.keep ((p_ (At kb) W).setCell _ λ_=>rfl) hz4.symm,h.ne⟩;have J6:Keep (At2 kb g) w (W.setCell (T_ kb 1) (Q_ g' (l.length+1) BR)):=((D.then y).no.drew.trans I (λ_ _ h=>.inr h)).setCell _ (λ_=>.inl rfl);have Dk:=dw hF hn hl;gi_wp2_with fail;refine(an7 _ _ kb g' BR _ N U _ _ hd Dk hN (by omega)).mono ?_;rintro e w4 ⟨rfl,Z,E⟩;have O:Keep (At2 kb g) w w4:=J6.trans Z (λk hk f=>by
    obtain f|f:=f
    .exact .inl f
    .obtain b|b:=b
     .exact .inr (Eq.trans f b)
     .exfalso;have:k=g':=f;omega)
   rw[Qr]at E;have S:=c;unfold Zk at S;by_cases H:BO l a=0
   .have J:DF l a n=Ec (KE l a n) (BO l a):=(by unfold DF;rw[if_neg F,if_pos H,H]);gi_wp2_with fail
    first|rw[show((BO l a:Nat):Int)-1=-1 by omega]|rw[show((l.length:Nat):Int)-1=-1 by omega]|skip
    refine(oJ _ _ kb).mono ?_;rintro e w5 ⟨rfl,o⟩;gi_wp2;go_end0;rw[J];refine⟨by simp,O.then o.no,g',BR,?_,b⟩;have d:=E.keep o id id
    first|exact d|(rw[show BO l a=l.length from c];exact d)
   .have J:DF l a n=Ec (Ec (KE l a n) (BO l a)) (BO l a-1):=(by unfold DF;rw[if_neg F,if_neg H]);gi_wp2_with fail
    first|rw[show((BO l a:Nat):Int)-1=((BO l a-1:Nat):Int) by omega]|rw[show((l.length:Nat):Int)-1=((l.length-1:Nat):Int) by omega]
    refine(an7 _ _ kb g' BR _ N U _ _ E (YZ Dk) hN (by omega)).mono ?_;rintro e w5 ⟨rfl,o,d⟩;rw[Qr]at d;gi_wp2;go_end0;rw[J];refine⟨by simp,O.trans o (λk hk f=>?_),g',BR,?_,b⟩
    .obtain f|f:=f
     .exact .inl f
     .obtain b|b:=b
      .exact .inr (Eq.trans f b)
      .exfalso;have:k=g':=f;omega
    .first|exact d|(rw[show BO l a=l.length from c];exact d)
end
@[simp] theorem lf16:(16:h_)∈LF:=by decide
@[simp] theorem bz7:(146:h_)∈LF:=by decide
@[simp] theorem bz6:(147:h_)∈LF:=by decide
@[simp] theorem bz5:(155:h_)∈LF:=by decide
@[simp] theorem bz2:(265:h_)∈LF:=by decide
@[simp] theorem bz1:(266:h_)∈LF:=by decide
@[simp] theorem bz0:(268:h_)∈LF:=by decide
@[simp] theorem by9:(269:h_)∈LF:=by decide
@[simp] theorem by7:(270:h_)∈LF:=by decide
@[simp] theorem by6:(271:h_)∈LF:=by decide
@[simp] theorem by5:(272:h_)∈LF:=by decide
@[simp] theorem by4:(273:h_)∈LF:=by decide
@[simp] theorem by3:(274:h_)∈LF:=by decide
@[simp] theorem by2:(275:h_)∈LF:=by decide
@[simp] theorem by1:(276:h_)∈LF:=by decide
@[simp] theorem by0:(277:h_)∈LF:=by decide
@[simp] theorem bx9:(279:h_)∈LF:=by decide
@[simp] theorem bx8:(280:h_)∈LF:=by decide
@[simp] theorem bx7:(281:h_)∈LF:=by decide
theorem CV {n id:Nat} {ops:Array Oper} {Q:Exit->Act->o_->Prop} {a:Act} {w:o_} (c N:Nat) (h:wpListIn NF n prog ops (λe a1 _=>e=.normal/\VO NF n prog ops No Q a w c (List.range c) [] (qp ops (List.range c)) (ops.toList.drop c) (λ_ _ _=>True) a1) (qp ops (List.range c)) a w.drew) (Hy:UN ops c N (List.range c) []=true:=by kernel_rfl) (hN:a.tmps.size=N:=by rfl):(Code.region id ops true).wpIn NF n prog Q a w:=
 CP (P:=prog) No _ rfl rfl (by kernel_rfl) c N (List.range c) [] Hy hN (λ_ _ _=>True) (λ_ _ _ _ _ h _=>h) _ _ rfl rfl h
theorem Fg {n c:Nat} {ops:Array Oper} {Q:Exit->Act->o_->Prop} {a a1:Act} {w:o_} (h2:∀W,Keep No w.drew W->Q7 NF n prog ops a1 W (qp ops (List.range c))) (h3:∀W,Keep No w.drew W->wpListIn NF n prog ops Q (ops.toList.drop c) a1 W) (h1:a1=Jk ops (List.range c) (Vs ops a1) a:=by kernel_rfl):Exit.normal=.normal/\VO NF n prog ops No Q a w c (List.range c) [] (qp ops (List.range c)) (ops.toList.drop c) (λ_ _ _=>True) a1:=
 ⟨rfl,h1,h2,(λi d=>absurd d (by simp)),λ_ W b _=>h3 W b⟩
end Go.Fxa
