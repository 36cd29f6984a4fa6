/- Maps of free blo -/
import Derived.Test.YtmhplpfpcnjekaaGreatA13
namespace Go.Fxa
open Conc Proofs RowKit Proofs.Tryz
set_option maxRecDepth 1000000
set_option maxHeartbeats 0
variable {N a n i:Nat}{l:List (W_)}{u:Nat->n_}{v x:n_}{ops:Array Oper}{Q:Exit->Act->o_->Prop}{w W:o_}{L:Nat->Bool}
def Aq (l:List (W_))(n:Nat):d_ Nat×List (W_):=
 if n<1 then(none,l)else match l.findIdx? (λr=>decide (n<=r.2))with
 |none=>(none,l)
 |some i=>match l[i]? with
  |none=>(none,l)
  |some r=>(some r.1,if r.2=n then l.take i++l.drop (i+1)else l.set i (r.1+n,r.2-n))
def UH:d_ Nat->n_
 |none=>.tuple #[.int .i64 0,.bool false]
 |some a=>.tuple #[.int .i64 a,.bool true]
def Fit (N:Nat)(l:List (W_)):Prop:=l.length<=N/\∀(i:Nat) r,l[i]?=some r->r.1+r.2<=N
section
variable (m:Nat)(w:o_)
theorem takeC (x:Bool)(c:Nat)(kb g cap n N:Nat)(U:j_)(ks:X_)(l:List (W_))(h:Hd (sx x 186 188) w kb c U ks g cap l)(hF:Fit N l)(hN:N<=10000)(hn:n<=10000):
  O_ m (sx x 92 89) #[.pointer (some (S_ kb c)),b_ (n:Nat)] w λe w'=>e=.returned (UH (Aq l n).1)/\Aa (yQ kb g) w w'/\w'.heap[kb]?=some (.cells (ks.setIfInBounds c (P_ g (Aq l n).2.length cap)) U (0,0))/\Mp (sx x 186 188) w' g cap (Aq l n).2:=by
 have t:=h.apart;have J:=λm w=>Ο m w x g l.length cap
 obtain⟨P,A⟩:=hF;have C:(w.alloc (.cells #[b_ n] 3)).heap[w.heap.size]?=some (.cells #[b_ n] 3):=Yw rfl;have d:Aa No w (w.alloc (.cells #[b_ n] 3)):=(Aa.refl _ _).alloc _;have s:=h.keep d id id;have d3:(w.alloc (.cells #[b_ n] 3)).cell? (R_ w.heap.size)=some (b_ n):=bce C rfl;have d4:(w.alloc (.cells #[b_ n] 3)).cell? (S_ kb c)=some (P_ g l.length cap):=(Ai s.k _).trans h.v;have q:=λm=>as9 m (w.alloc (.cells #[b_ n] 3)) x g cap w.heap.size n l s.mp d3 wB
 by_cases f:n<1
 .have M:(n:Int)<1:=wB
  have o:Aq l n=(none,l):=by unfold Aq;rw[rW f]
  rw[o];generalize sF l (λr=>decide (n<=r.2))=j at q;cases x<;>dsimp only[aF,aC]at*;gi_enter func92,ntmps92
  rotate_left
  gi_enter func89,ntmps89
  all_goals
   gi_wp2_with ((first|gi_at_call 127|gi_at_call 122);refine(q _).mono ?_;rintro e w1 ⟨rfl,a⟩;have e3:=a.has d3;have e4:=a.has d4)
   go_ret2
   have b:=s.keep a id id
   exact⟨by simp[UH],(d.then a).no,by rw[h.self];exact b.k,b.mp⟩
 .have M:¬(n:Int)<1:=wB
  cases hx:l.findIdx? (λr=>decide (n<=r.2))with
  |none=>
   have z:sF l (λr=>decide (n<=r.2))=-1:=by unfold sF;rw[hx]
   have o:Aq l n=(none,l):=by unfold Aq;rw[ru f,hx]
   rw[o]
   simp only[z]at q
   cases x<;>dsimp only[aF,aC]at*
   gi_enter func92,ntmps92
   rotate_left
   gi_enter func89,ntmps89
   all_goals
    gi_wp2_with ((first|gi_at_call 127|gi_at_call 122);refine(q _).mono ?_;rintro e w1 ⟨rfl,a⟩;have e3:=a.has d3;have e4:=a.has d4)
    go_ret2
    have b:=s.keep a id id
    exact⟨by simp[UH],(d.then a).no,by rw[h.self];exact b.k,b.mp⟩
  |some i=>
   have z:sF l (λr=>decide (n<=r.2))=(i:Int):=by unfold sF;rw[hx]
   simp only[z]at q
   obtain⟨F,u,_⟩:=List.findIdx?_eq_some_iff_getElem.1 hx
   have p:l[i]?=some l[i]:=JM F
   generalize l[i]=r at p u
   have R:n<=r.2:=by simpa using u
   have T:=A i r p
   have Y:(i:Int)<(l.length:Int):=wB
   have Z:¬(i:Int)<0:=wB
   by_cases H:r.2=n
   .have o:Aq l n=(some r.1,l.take i++l.drop (i+1)):=(by unfold Aq;rw[ru f,hx];simp only[p,H,if_true]);rw[o];have O:((r.2:Int)==(n:Int))=true:=(by simp;omega);cases x<;>dsimp only[aF,aC]at*;gi_enter func92,ntmps92
    rotate_left
    gi_enter func89,ntmps89
    all_goals
     gi_wp2_with ((first|gi_at_call 127|gi_at_call 122);refine(q _).mono ?_;rintro e w1 ⟨rfl,a⟩;have e3:=a.has d3;have e4:=a.has d4;have b:=s.keep a id id;obtain⟨K,L⟩:=b.mp.cells p)
     have dl:=λm=>J m w1.drew i (i+1) _ (Rw.keep b.mp (Aa.refl No _).drew id) wB wB
     push_cast at dl
     have B:w1.drew.heap[kb]?=some (N_ ks U):=b.k
     gi_region
     all_goals gi_wp2_with ((first|gi_at_call 132|gi_at_call 124);refine(dl _).mono ?_;rintro e w2 ⟨rfl,E,D⟩;have y:=E.old B t;have W:=Cf y c;have X:=(Ai y c).trans h.v)
     all_goals go_ret2
     all_goals
      have G:(l.take i++l.drop (i+1)).length=i+(l.length-(i+1)):=by simp only[g_,eP,List.length_drop];omega
      rw[Yb,Yc,<-YF,<-G]at D
      exact⟨by simp[UH],((d.then a).drew.no.trans E (λ_ _ h=>.inr h)).setCell _ (λ_=>.inl rfl),by rw[G];exact Ap y _,Rw.keep D ((Aa.refl (At kb) _).setCell _ λ_=>rfl) t.symm⟩
   .have o:Aq l n=(some r.1,l.set i (r.1+n,r.2-n)):=(by unfold Aq;rw[ru f,hx];simp only[p,H,if_false]);rw[o];have O:((r.2:Int)==(n:Int))=false:=(by simp;omega);cases x<;>dsimp only[aF,aC]at*;gi_enter func92,ntmps92
    rotate_left
    gi_enter func89,ntmps89
    all_goals
     gi_wp2_with ((first|gi_at_call 127|gi_at_call 122);refine(q _).mono ?_;rintro e w1 ⟨rfl,a⟩;have e3:=a.has d3;have e4:=a.has d4;have b:=s.keep a id id;obtain⟨K,L⟩:=b.mp.cells p)
     have fz:=λj=>Rw.fz b.mp j
     have S:=Rw.lt h.mp
     have Q:¬kb=g:=t
     have v1:((r.1+n:Nat):Int)=(r.1:Int)+n:=wB
     have v2:((r.2-n:Nat):Int)=(r.2:Int)-n:=wB
     gi_region
     all_goals gi_wp2
     all_goals gi_region
     all_goals gi_wp2
     all_goals gi_region
     all_goals gi_wp2
     all_goals go_ret2
     all_goals
      have m2:=b.mp.set0 p (r.1+n)
      have I:=m2.O8 (i:=i) (r:=(r.1+n,r.2)) (by rw[List.getElem?_set_self F]) (r.2-n)
      rw[v1,v2]at I
      have V:=Rw.keep I (Aa.refl No _).drew.drew.drew id
      refine⟨by simp[UH],by repeat (first|exact(d.then a).no|refine Aa.drew ?_|refine Aa.setCell ?_ _ (λ_=>.inr rfl)),?_,by unfold Mp;simpa using V⟩
      rw[List.length_set,h.self]
      exact(OI _ t).trans ((OI _ t).trans b.k)
end
def Dv (l:List (W_))(a:Nat):Nat:=match l.findIdx? (λr=>decide (a<r.1))with|some i=>i|none=>l.length
def OO (l:List (W_))(a n:Nat):List (W_):=l.take (Dv l a)++(a,n)::l.drop (Dv l a)
def CE (l:List (W_))(a n:Nat):List (W_):=
 if n<1 then l else if Dv l a=0 then F6 (OO l a n) 0 else F6 (F6 (OO l a n) (Dv l a)) (Dv l a-1)
theorem YY (l:List (W_))(a:Nat):Dv l a<=l.length:=by
 unfold Dv;cases h:l.findIdx? (λr=>decide (a<r.1))with
 |none=>exact w_
 |some i=>exact Nat.le_of_lt (List.findIdx?_eq_some_iff_getElem.1 h).1
theorem Y3 (l:List (W_))(a n:Nat):(OO l a n).length=l.length+1:=by
 have:=YY l a;simp only[OO,g_,eP,List.length_cons,List.length_drop];omega
theorem be7 (l:List (W_))(a n:Nat):QF (rc l) [b_ a,b_ n] (Dv l a*2)=rc (OO l a n):=by
 unfold QF OO;rw[Yb,Yc,YF];simp only[rc];simp
theorem ao8 (h:Fit N l)(e:a+n<=N)(f:l.length+1<=N):Fit N (OO l a n):=by
 refine⟨by rw[Y3];exact f,λi r d=>?_⟩;have:r∈OO l a n:=t_ d;unfold OO at this;obtain b|b:=eF.1 this
 .obtain⟨j,c⟩:=List.getElem?_of_mem (List.mem_of_mem_take b);exact h.2 j r c
 .obtain rfl|b:=r_.1 b
  .exact e
  .obtain⟨j,c⟩:=List.getElem?_of_mem (List.mem_of_mem_drop b);exact h.2 j r c
theorem aa2 (h:Fit N l):Fit N (F6 l i):=by
 unfold F6;split
 .rename_i a b g hb;split
  .rename_i e;have k:=(Oc.1 hb).1;refine⟨?_,λj r f=>?_⟩
   .simp only[g_,eP,List.length_cons,List.length_drop];have:=h.1;omega
   .have:r∈_:=t_ f;obtain c|c:=eF.1 this
    .obtain⟨j,d⟩:=List.getElem?_of_mem (List.mem_of_mem_take c);exact h.2 j r d
    .obtain rfl|c:=r_.1 c
     .have:=h.2 _ _ hb;simp only;omega
     .obtain⟨j,d⟩:=List.getElem?_of_mem (List.mem_of_mem_drop c);exact h.2 j r d
  .exact h
 .exact h
section
variable (m:Nat)(w:o_)
theorem cl6 (x:Bool)(c:Nat)(kb g cap i N:Nat)(U:j_)(o:X_)(l:List (W_))(h:Hd (sx x 186 188) w kb c U o g cap l)(p:Fit N l)(hN:N<=10000)(hi:i<=10000):
  O_ m (sx x 130 211) #[.pointer (some (S_ kb c)),b_ (i:Nat)] w λe w'=>e=.returned (.tuple #[])/\Aa (yQ kb g) w w'/\Hd (sx x 186 188) w' kb c U (o.setIfInBounds c (P_ g (F6 l i).length cap)) g cap (F6 l i):=by
 by_cases f:i+1<l.length
 .have b:l[i]?=some l[i]:=JM wB;have hb:l[i+1]?=some l[i+1]:=JM f;have k:=p.2 _ _ b;have n:=p.2 _ _ hb;refine(xM m w x c kb g cap i U o l h _ _ b hb wB wB wB).mono ?_;rintro e w' ⟨rfl,a,d,j⟩;exact⟨rfl,a,⟨d,Rz h.v,j,h.ne⟩⟩
 .rw[xK wB,h.self];refine(xO m w x c kb g cap i U o l h wB wB).mono ?_;rintro e w' ⟨rfl,a⟩;exact⟨rfl,a.no,h.keep a id id⟩
theorem as8 (x:Bool)(g n cap d i:Nat)(xs ys:U_)(hR:Rw (sx x 186 188) 2 w g n cap xs)(f:Rw (sx x 186 188) 2 w d 1 1 ys)(j:d≠g)(hi:i<=n)(c:n<=100000):
  O_ m (sx x 129 210) #[P_ g n cap,b_ (i:Nat),P_ d 1 1] w λe w'=>∃g' h,e=.returned (P_ g' (n+1) h)/\Aa (At g) w w'/\Rw (sx x 186 188) 2 w' g' (n+1) h (QF xs ys (i*2))/\(g'=g\/w.heap.size<=g'):=by
 by_cases b:i=n
 .subst b;have e:QF xs ys (i*2)=xs++ys:=by
   unfold QF
   rw[List.take_of_length_le (by rw[hR.len];exact w_),List.drop_of_length_le (by rw[hR.len];exact w_),List.append_nil]
  rw[e];exact qI m w x g i cap d xs ys hR f c
 .by_cases a:n+1<=cap
  .exact bQ m w x g n cap d i xs ys hR f j wB c a
  .exact kQ m w x g n cap d i xs ys hR f wB c wB
end
def cg0 (T:j_)(w w1:o_)(kb g cap a n:Nat)(l:List (W_))(L:Nat->Bool)(u:Y_)(W:o_):Prop:=
 Aa (At g) w1 W/\(L 10=false->Mp T W g cap l)/\(L 9=true->∃vb,u 9=P_ vb 1 1/\vb≠g/\Rw T 2 W vb 1 1 [b_ a,b_ n])/\
 (L 10=true->∃g' Eo,u 10=P_ g' (l.length+1) Eo/\Rw T 2 W g' (l.length+1) Eo (rc (OO l a n))/\(g'=g\/w.heap.size<=g')/\kb≠g')
abbrev Hd.ty {T:j_}{w:o_}{kb c:Nat}{U:j_}{ks:X_}{g cap:Nat}{l:List (W_)}(_:Hd T w kb c U ks g cap l):j_:=T
def ae9 (l:List (W_))(a x:Nat):Prop:=Dv l a=x
theorem ao7 {x:Nat}(h:ae9 l a x):QF (rc l) [b_ a,b_ n] (x*2)=rc (OO l a n):=by
 have h:Dv l a=x:=h;subst h;exact be7 l a n
theorem fC {b:X_}{u:n_}:(b.setIfInBounds i u).setIfInBounds i v=b.setIfInBounds i v:=sJ
section
variable (m:Nat)(w:o_)
theorem bo9 (x:Bool)(c:Nat)(kb g cap a n N:Nat)(U:j_)(ks:X_)(l:List (W_))(h:Hd (sx x 186 188) w kb c U ks g cap l)(hF:Fit N l)(hN:N<=10000)(hn:a+n<=N)(hl:l.length+1<=N):
  O_ m (sx x 91 156) #[.pointer (some (S_ kb c)),b_ (a:Nat),b_ (n:Nat)] w λe w'=>e=.returned (.tuple #[])/\Aa (yQ kb g) w w'/\∃g' Eo,Hd (sx x 186 188) w' kb c U (ks.setIfInBounds c (P_ g' (CE l a n).length Eo)) g' Eo (CE l a n)/\(g'=g\/w.heap.size<=g'):=by
 have X:=h.apart;have IC:=λm w=>as8 m w x g l.length cap
 have JC:=λm w=>cl6 m w x c kb
 have l0:Nonempty (PLift ((w.alloc (.cells #[b_ a] (sx x 94 99))).heap.size=w.heap.size+1)):=⟨⟨sJ⟩⟩;have JN:=λm w=>xN m w x c kb
 have lg:=Rw.lt h.mp;have lk:=Dt h.k;have hnb:(w.alloc (.cells #[b_ a] (sx x 94 99))).heap[w.heap.size]?=some (.cells #[b_ a] (sx x 94 99)):=Yw rfl;have D:Aa No w (w.alloc (.cells #[b_ a] (sx x 94 99))):=(Aa.refl _ _).alloc _;have V:=h.keep D id id;have d3:(w.alloc (.cells #[b_ a] (sx x 94 99))).cell? (R_ w.heap.size)=some (b_ a):=bce hnb rfl;have d4:(w.alloc (.cells #[b_ a] (sx x 94 99))).cell? (S_ kb c)=some (P_ g l.length cap):=(Ai V.k _).trans h.v;by_cases F:n<1
 .have f1:(n:Int)<1:=wB
  have J:CE l a n=l:=by unfold CE;rw[rW F]
  rw[J];cases x<;>dsimp only[aF,aC]at*;gi_enter func91,ntmps91
  rotate_left
  gi_enter func156,ntmps156
  all_goals
   gi_wp2
   refine bodyPost_ret (results_none rfl _ _ _) rfl ?_
   exact⟨sJ,D.no,g,cap,by rw[h.self];exact V,.inl rfl⟩
 have f1:¬(n:Int)<1:=wB
 have ix:=λm=>at6 m (w.alloc (.cells #[b_ a] (sx x 94 99))) x g cap w.heap.size a l V.mp d3 wB
 have dg4:=YY l a;obtain⟨x,G⟩:∃x,l.findIdx? (λr=>decide (a<r.1))=x:=⟨_,rfl⟩;have h2:(∃d:ae9 l a (Dv l a),sF l (λr=>decide (a<r.1))=(Dv l a:Int))\/(∃d:ae9 l a l.length,sF l (λr=>decide (a<r.1))=-1):=by
  cases x with
  |none=>exact .inr ⟨by unfold ae9 Dv;rw[G],by unfold sF;rw[G]⟩
  |some i=>exact .inl ⟨rfl,by unfold sF Dv;rw[G]⟩
 clear G x;obtain⟨d,ea⟩|⟨d,ea⟩:=h2
 all_goals
  simp only[ea]at ix
  cases x<;>dsimp only[aF,aC]at*
  gi_enter func91,ntmps91
  rotate_left
  gi_enter func156,ntmps156
  all_goals
   gi_wp2_with ((first|gi_at_call 127|gi_at_call 122);refine(ix _).mono ?_;rintro e w1 ⟨rfl,y⟩;have e3:=y.has d3;have e4:=y.has d4;have h1:=V.keep y id id)
   have ek:=h1.k
   refine Dx (P:=prog) _ rfl rfl sU 11 42 [0,1,2,3,4,5,6,7,8] [9,10] sU (by rfl)
    (cg0 h.ty w w1.drew kb g cap a n l) (λL L' u o W h hI=>by
     have h9:=h 9 sJ
     have K:=h 10 sJ
     unfold cg0 at hI ⊢
     rw[<-h9.1,<-h9.2,<-K.1,<-K.2]
     exact hI) _ _ rfl rfl ?_
   have sz:w.heap.size≠g:=wB
   gi_wp2
   refine⟨rfl,sU,?_,?_,?_,?_⟩
   .intro o;exact⟨Aa.refl _ _,λ_=>Rw.keep h1.mp (Aa.refl No _).drew id,λh=>qx h sN,λh=>qx h sN⟩
   .intro L o W hI;have y:=hI.1;have l3:=l9 _ _ e3;have l4:=l9 _ _ e4;have d0:=(y.cell (w:=w1.drew) (p:=(R_ w.heap.size)) l3 sz).trans e3;have d1:=(y.cell (w:=w1.drew) (p:=(S_ kb c)) l4 X).trans e4
    repeat' (refine AA ?_ ?_)
    all_goals first|exact dE|gi_wp2
   .intro i hi L o W hI hLi hu;obtain⟨I,A,B,C⟩:=hI;have l1:=I.size;have l2:=y.size;obtain⟨⟨l3⟩⟩:=l0;have l4:w1.drew.heap.size=w1.heap.size:=rfl;obtain rfl|rfl:=(by simpa using hi:i=9\/i=10)
    .refine BI rfl λKK Ol=>?_
     show wpListIn NF m prog _ _ _ (Act.put (Act.put _ (some 31) (o 9)) (some 32) (o 10)) _;have sz2:W.heap.size≠g:=wB;gi_wp2;refine⟨_,rfl,I.alloc _,λh=>Rw.keep (A h) ((Aa.refl No W).alloc _) id,λ_=>⟨_,rfl,sz2,⟨⟨_,Yw rfl,rfl,rfl⟩,w_,sN,rfl,λx G=>?_⟩⟩,λh=>?_⟩
     .simp only[r_,lG,or_false]at G;obtain rfl|rfl:=G<;>rfl
     .obtain⟨g',Eo,b1,b2,b3,b4⟩:=C h;exact⟨g',Eo,b1,b2.keep ((Aa.refl No W).alloc _) id,b3,b4⟩
    .obtain⟨vb,s,t,T⟩:=B (hu 9 sJ sN);show wpOpIn NF m prog _ _ _ (λa' W'=>∃v,a'=Act.put (Act.put (Act.put _ (some 31) (o 9)) (some 32) (o 10)) (some 32) v/\_) (Act.put (Act.put _ (some 31) (o 9)) (some 32) (o 10)) _;rw[s];refine BI rfl λKK Ol=>?_
     have e6:=A hLi;gi_wp2_with fail;refine(IC _ W vb _ _ _ e6 T t wB wB).mono ?_;rintro e w3 ⟨g',Eo,rfl,M,iw,Q⟩;gi_wp2;rw[ao7 d]at iw;have R:(g'=g\/w.heap.size<=g')/\kb≠g':=by
      obtain rfl|Q:=Q
      .exact⟨.inl rfl,X⟩
      .exact⟨.inr wB,wB⟩
     exact⟨_,rfl,I.then M,λh=>qx h (by simp[Oh]),λh=>⟨vb,s,t,T.keep M t⟩,λ_=>⟨g',Eo,rfl,iw,R.1,R.2⟩⟩
   .intro L o W hI hL;obtain⟨I,A,B,C⟩:=hI;obtain⟨vb,s,_,t⟩:=B (hL 9 sJ);obtain⟨g',Eo,hz1,hz2,b,hz4⟩:=C (hL 10 sJ);show wpListIn NF m prog _ _ _ (Act.put (Act.put _ (some 31) (o 9)) (some 32) (o 10)) _;rw[s,hz1];have z:=I.old (heap_drew.trans ek) X;have ek3:=Cf z c;have ek4:=(Ai z c).trans h.v;have Y:=Ap (i:=c) z (P_ g' (l.length+1) Eo);have hd:Hd h.ty (W.setCell (S_ kb c) (P_ g' (l.length+1) Eo)) kb c U (ks.setIfInBounds c (P_ g' (l.length+1) Eo)) g' Eo (OO l a n):=⟨Y,by rw[Y3];exact Rz h.v,by unfold Mp;rw[Y3];exact hz2.keep ((Aa.refl (At kb) W).setCell _ λ_=>rfl) hz4.symm,h.ne⟩;have JU:Aa (yQ kb g) w (W.setCell (S_ kb c) (P_ g' (l.length+1) Eo)):=((D.then y).no.drew.trans I (λ_ _ h=>.inr h)).setCell _ (λ_=>.inl rfl);have Dy:=ao8 hF hn hl;gi_wp2_with fail;refine(JC _ _ g' Eo _ N U _ _ hd Dy hN wB).mono ?_;rintro e w4 ⟨rfl,Z,E⟩;have O:Aa (yQ kb g) w w4:=JU.trans Z (λk hk j=>by
     obtain j|j:=j
     .exact .inl j
     .obtain b|b:=b
      .exact .inr (Eq.trans j b)
      .exfalso;have:k=g':=j;omega)
    rw[fC]at E;have S:=d;unfold ae9 at S;by_cases H:Dv l a=0
    .have J:CE l a n=F6 (OO l a n) (Dv l a):=(by unfold CE;rw[ru F,rW H,H]);gi_wp2_with fail
     first|rw[show((Dv l a:Nat):Int)-1=-1 by omega]|rw[show((l.length:Nat):Int)-1=-1 by omega]|skip
     refine(JN _ _).mono ?_;rintro e w5 ⟨rfl,q⟩;gi_wp2;go_end0;rw[J];refine⟨sJ,O.then q.no,g',Eo,?_,b⟩;have f:=E.keep q id id
     first|exact f|(rw[show Dv l a=l.length from d];exact f)
    .have J:CE l a n=F6 (F6 (OO l a n) (Dv l a)) (Dv l a-1):=(by unfold CE;rw[ru F,ru H]);gi_wp2_with fail
     first|rw[show((Dv l a:Nat):Int)-1=((Dv l a-1:Nat):Int) by omega]|rw[show((l.length:Nat):Int)-1=((l.length-1:Nat):Int) by omega]
     refine(JC _ _ g' Eo _ N U _ _ E (aa2 Dy) hN wB).mono ?_;rintro e w5 ⟨rfl,q,f⟩;rw[fC]at f;gi_wp2;go_end0;rw[J];refine⟨sJ,O.trans q (λk hk j=>?_),g',Eo,?_,b⟩
     .obtain j|j:=j
      .exact .inl j
      .obtain b|b:=b
       .exact .inr (Eq.trans j b)
       .exfalso;have:k=g':=j;omega
     .first|exact f|(rw[show Dv l a=l.length from d];exact f)
end
@[simp] theorem lf16:(16:h_)∈LF:=sN
@[simp] theorem lf21:(21:h_)∈LF:=sN
@[simp] theorem df9:(146:h_)∈LF:=sN
@[simp] theorem df8:(147:h_)∈LF:=sN
@[simp] theorem df7:(154:h_)∈LF:=sN
@[simp] theorem df6:(155:h_)∈LF:=sN
@[simp] theorem df4:(197:h_)∈LF:=sN
@[simp] theorem df1:(265:h_)∈LF:=sN
@[simp] theorem df0:(266:h_)∈LF:=sN
@[simp] theorem de9:(267:h_)∈LF:=sN
@[simp] theorem de8:(268:h_)∈LF:=sN
@[simp] theorem de7:(269:h_)∈LF:=sN
@[simp] theorem de6:(270:h_)∈LF:=sN
@[simp] theorem de5:(271:h_)∈LF:=sN
@[simp] theorem de4:(272:h_)∈LF:=sN
@[simp] theorem de3:(273:h_)∈LF:=sN
@[simp] theorem de2:(274:h_)∈LF:=sN
@[simp] theorem de1:(275:h_)∈LF:=sN
@[simp] theorem de0:(276:h_)∈LF:=sN
@[simp] theorem dd9:(277:h_)∈LF:=sN
@[simp] theorem dd8:(278:h_)∈LF:=sN
@[simp] theorem dd7:(279:h_)∈LF:=sN
@[simp] theorem dd6:(280:h_)∈LF:=sN
@[simp] theorem dd5:(281:h_)∈LF:=sN
theorem Cc {id:Nat}{a:Act}(c N:Nat)(h:wpListIn NF n prog ops (λe a1 _=>e=.normal/\Yj NF n prog ops No Q a w c (List.range c) [] (yM ops (List.range c)) (ops.toList.drop c) (λ_ _ _=>True) a1) (yM ops (List.range c)) a w.drew)(b:WL ops c N (List.range c) []=true:=by kernel_rfl)(hN:a.tmps.size=N:=by rfl):(Code.region id ops true).wpIn NF n prog Q a w:=
 DI (P:=prog) No _ rfl rfl sU c N (List.range c) [] b hN (λ_ _ _=>True) (λ_ _ _ _ _ h _=>h) _ _ rfl rfl h
theorem Ee {c:Nat}{a a1:Act}(e:∀W,Aa No w.drew W->TU NF n prog ops a1 W (yM ops (List.range c)))(f:∀W,Aa No w.drew W->wpListIn NF n prog ops Q (ops.toList.drop c) a1 W)(d:a1=LC ops (List.range c) (XP ops a1) a:=by kernel_rfl):Exit.normal=.normal/\Yj NF n prog ops No Q a w c (List.range c) [] (yM ops (List.range c)) (ops.toList.drop c) (λ_ _ _=>True) a1:=
 ⟨rfl,d,e,(λi hi=>qx hi sJ),λ_ W b _=>f W b⟩
def Oi (S:Nat->Prop)(w1:o_)(e:Nat)(Post:n_->o_->Prop)(pure:List (Nat×n_))(L:Nat->Bool)(u:Y_)(W:o_):Prop:=
 Aa S w1 W/\(L e=false->W=w1)/\(L e=true->Post (u e) W)/\∀p∈pure,L p.1=true->u p.1=p.2
section
variable {S:Nat->Prop}{w1:o_}{e:Nat}{Post:n_->o_->Prop}{pure:List (Nat×n_)}{ss:List Nat}
theorem Gj (q:e∈ss)(r:∀p∈pure,p.1∈ss):∀L m u o W,(∀i∈ss,L i=m i/\u i=o i)->Oi S w1 e Post pure L u W->Oi S w1 e Post pure m o W:=by
 rintro L m u o W h ⟨g,j,k,l⟩;obtain⟨a,b⟩:=h e q;refine⟨g,λx=>j (a.trans x),λx=>b ▸ k (a.trans x),λp f x=>?_⟩;obtain⟨c,d⟩:=h p.1 (r p f);exact d ▸ l p f (c.trans x)
theorem Et (u:Y_):Oi S w1 e Post pure (λ_=>false) u w1:=⟨Aa.refl _ _,λ_=>rfl,λh=>qx h sJ,λ_ _ h=>qx h sJ⟩
theorem Gl {c:o_}(h:Oi S w1 e Post pure L u W)(f:∀p∈pure,p.1≠e)(d:Aa S w1 c)(g:Post v c):Oi S w1 e Post pure (Oh L e) (Kw u e v) c:=by
 obtain⟨_,_,_,b⟩:=h;refine⟨d,λx=>qx x (by simp[Oh]),λ_=>by simp only[Kw,if_true];exact g,λp a x=>?_⟩;have ne:=f p a;simp only[Oh,ru ne]at x;simp only[Kw,ru ne];exact b p a x
theorem Gs (h:Oi S w1 e Post pure L u W)(hi:i≠e)(k:∀p∈pure,p.1=i->v=p.2):Oi S w1 e Post pure (Oh L i) (Kw u i v) W:=by
 obtain⟨d,f,g,j⟩:=h;have a:e≠i:=gJ hi;refine⟨d,λx=>f (by simpa [Oh,a]using x),λx=>?_,λp b x=>?_⟩
 .simp only[Kw,ru a];exact g (by simpa [Oh,a]using x)
 .by_cases c:p.1=i
  .simp only[Kw,rW c];exact k p b c
  .simp only[Kw,ru c];simp only[Oh,ru c]at x;exact j p b x
theorem FY {y:n_}(h:Oi S w1 e Post pure L u W)(hi:i≠e)(b:v=y)(d:∀p∈pure,p.1=i->p.2=y):Oi S w1 e Post pure (Oh L i) (Kw u i v) W:=
 Gs h hi λp a c=>b.trans (d p a c).symm
end
section
variable {n:Nat}{Q:Exit->Act->o_->Prop}{K:Act->o_->Prop}{a:Act}{W:o_}{ops:Array Oper}{i:Nat}{o:Oper}{x:Operand}
theorem mg (hi:ops[i]?=some o)(c:o.guard=none)(b:o.op=.move x)(h:K (a.put o.dst (a.eval x)) W):wpOpIn NF n prog ops Q i K a W:=
 OX hi c (by unfold Oper.about;rw[b]) (w':=W) (x:=a.eval x) (by unfold execOp;rw[b];rfl) h
theorem mi (hi:ops[i]?=some o)(c:o.guard=none)(b:o.op=.assign x)(h:K (a.put o.dst (a.eval x)) W):wpOpIn NF n prog ops Q i K a W:=
 OX hi c (by unfold Oper.about;rw[b]) (w':=W) (x:=a.eval x) (by unfold execOp;rw[b];rfl) h
theorem Tj {c:X_}{k:Nat}(hi:ops[i]?=some o)(d:o.guard=none)(b:o.op=.extract x k)(f:a.eval x=.tuple c)(e:c[k]?=some v)(h:K (a.put o.dst v) W):wpOpIn NF n prog ops Q i K a W:=
 OX hi d (by unfold Oper.about;rw[b]) (w':=W) (x:=v) (by unfold execOp;rw[b];simp only[f];simp[Instr.extract,e]) h
end
def OV {α:Type}(b:Nat):Nat->U_->Sem α->Sem α
 |_,[],k=>k
 |i,v::vs,k=>.store .plain (S_ b i) v (OV b (i+1) vs k)
def UI (cs:X_):Nat->U_->X_
 |_,[]=>cs
 |i,v::vs=>UI (cs.setIfInBounds i v) (i+1) vs
theorem Hr {P:l_}{α:Type}{b:Nat}{T:j_}{k:Sem α}:∀(m:U_)(i:Nat)(cs:X_)(w:o_),w.heap[b]?=some (N_ cs T)->i+m.length<=cs.size->(∀v∈m,v.oneCell'=true)->
  ∃w',(OV b i m k).run P w=k.run P w'/\Aa (At b) w w'/\w'.heap[b]?=some (N_ (UI cs i m) T)
 |[],i,cs,w,h,_,_=>⟨w,rfl,Aa.refl _ _,h⟩
 |v::m,i,cs,w,h,g,a=>by
  simp only[List.length_cons]at g
  have f:w.cell? (S_ b i)=some cs[i]:=by rw[Ai h];simp
  obtain⟨w',c,d,e⟩:=Hr (P:=P) (k:=k) m (i+1) _ _ (Ap (i:=i) h v) (by simp;omega) (λx j=>a x (List.mem_cons_of_mem _ j))
  refine⟨w',?_,(Aa.O8 v).then d,e⟩
  unfold OV
  rw[Ϩ (a v (List.mem_cons_self ..)) f (Cf h i)]
  exact c
theorem BM {F:Fence}{P:l_}{w':o_}{rest:List Oper}{o:Oper}{a:Act}(h:o.guard=none)(s y:Operand)(t:j_)(e:o.op=Op.store t s y)(j:a.eval s=v)(k:a.eval y=x)
  (f:(Instr.storeAt t v x).run P w=.ok () w') (g:wpListIn F n P ops Q rest (a.put o.dst undef) w'):wpListIn F n P ops Q (o::rest) a w:=by
 refine wpListIn_plain h λK b=>?_
 unfold Oper.wpIn;refine⟨?_,?_⟩
 .simp[Oper.about,e]
 .rw[Oper.semAt_plain F _ _ (by rw[e];intro c d;cases d)];simp[execOp,e,j,k,f,Result.andThen];exact b _ _ g
section
variable {F:Fence}{n:Nat}{P:l_}{w w':o_}{ops:Array Oper}{rest:List Oper}{o:Oper}{a:Act}{Q:Exit->Act->o_->Prop}
theorem Fa {n:Nat}{w w':o_}{ops:Array Oper}{rest:List Oper}{o:Oper}{a:Act}{Q:Exit->Act->o_->Prop}{s y:Operand}{t:j_}(c:(Instr.storeAt t v x).run prog w=.ok () w')(d:wpListIn NF n prog ops Q rest (a.put o.dst undef) w')(e:o.guard=none:=by rfl)(b:o.op=Op.store t s y:=by rfl)(f:a.eval s=v:=by rfl)(g:a.eval y=x:=by rfl):wpListIn NF n prog ops Q (o::rest) a w:=BM e s y t b f g c d
theorem Ws (h:o.guard=none)(s:Operand)(t:j_)(e:o.op=Op.load t s)(j:a.eval s=v)
  (f:(Instr.loadAt t v).run P w=.ok x w') (g:wpListIn F n P ops Q rest (a.put o.dst x) w'):wpListIn F n P ops Q (o::rest) a w:=by
 refine wpListIn_plain h λK b=>?_
 unfold Oper.wpIn;refine⟨?_,?_⟩
 .simp[Oper.about,e]
 .rw[Oper.semAt_plain F _ _ (by rw[e];intro c d;cases d)];simp[execOp,e,j,f,Result.andThen];exact b _ _ g
theorem Ry (h:o.guard=none)(s y:Operand)(t:j_)(e:o.op=Op.index t s y){u:n_}(j:a.eval s=v)(k:a.eval y=u)
  (f:(Instr.index t v u).run P w=.ok x w') (g:wpListIn F n P ops Q rest (a.put o.dst x) w'):wpListIn F n P ops Q (o::rest) a w:=by
 refine wpListIn_plain h λK b=>?_
 unfold Oper.wpIn;refine⟨?_,?_⟩
 .simp[Oper.about,e]
 .rw[Oper.semAt_plain F _ _ (by rw[e];intro c d;cases d)];simp[execOp,e,j,k,f,Result.andThen];exact b _ _ g
end
theorem ϥ {rb:Nat}{a b c:n_}{x y:Int}(h:w.heap[rb]?=some (N_ #[a,b,c] 206)):∃w',(Instr.storeAt 206 (Q_ rb) (.agg #[a_ x,a_ y,.nilFunc])).run prog w=.ok () w'/\Aa (At rb) w w'/\w'.heap[rb]?=some (N_ #[a_ x,a_ y,.nilFunc] 206):=by
 have e:(Instr.storeAt 206 (Q_ rb) (.agg #[a_ x,a_ y,.nilFunc])).run prog w=(OV rb 0 [a_ x,a_ y,.nilFunc] (.pure ())).run prog w:=sU
 obtain⟨w',d,f,g⟩:=Hr (P:=prog) (k:=Sem.pure ()) [a_ x,a_ y,.nilFunc] 0 _ w h sJ (by simp[Value.oneCell']);refine⟨w',?_,f,?_⟩
 .rw[e,d];rfl
 .rw[g];simp[UI]
def Sound (N:Nat)(l:List (W_)):Prop:=∀r∈l,1<=r.2/\r.1+r.2<=N
def Ic:List (W_)->Nat
 |[]=>0
 |r::l=>r.2+Ic l
theorem QS:∀l k:List (W_),Ic (l++k)=Ic l+Ic k
 |[],k=>by simp[Ic]
 |r::l,k=>by simp only[List.cons_append,Ic,QS l k];omega
theorem QO {α:Type}{l:List α}{r:α}(h:l[i]?=some r):l=l.take i++r::l.drop (i+1):=by
 obtain⟨b,a⟩:=Oc.1 h;rw[<-a,List.getElem_cons_drop,List.take_append_drop]
theorem Sound.len {N:Nat}:∀{l:List (W_)},Sound N l->l.length<=Ic l
 |[],_=>Nat.zero_le _
 |r::l,h=>by
  have b:=(h r sJ).1
  have c:=Sound.len (l:=l) λx a=>h x (by simp[a])
  simp only[Ic,List.length_cons];omega
theorem Sound.fit (h:Sound N l)(b:Ic l<=N):Fit N l:=⟨lN h.len b,λ_ r a=>(h r (t_ a)).2⟩
theorem Rh (h:Sound N l):Sound N (F6 l i)/\Ic (F6 l i)=Ic l:=by
 unfold F6;split
 .rename_i a b f hb;split
  .rename_i j;have g:=QO f;have c2:l.drop (i+1)=b::l.drop (i+2):=by
    have d:(l.drop (i+1))[0]?=some b:=by simpa using hb
    have:=QO d
    simpa using this
   have n:=h b (t_ hb);have m:=h a (t_ f);refine⟨λr k=>?_,?_⟩
   .obtain c|c:=eF.1 k
    .exact h r (List.mem_of_mem_take c)
    .obtain rfl|c:=r_.1 c
     .simp only;omega
     .exact h r (List.mem_of_mem_drop c)
   .have e:Ic l=Ic (l.take i++a::b::l.drop (i+2)):=(by rw[<-c2,<-g]);rw[e];simp only[QS,Ic];omega
  .exact⟨h,rfl⟩
 .exact⟨h,rfl⟩
theorem xu (h:Sound N l)(f:1<=n)(d:a+n<=N):Sound N (OO l a n)/\Ic (OO l a n)=Ic l+n:=by
 unfold OO;refine⟨λr c=>?_,?_⟩
 .obtain b|b:=eF.1 c
  .exact h r (List.mem_of_mem_take b)
  .obtain rfl|b:=r_.1 b
   .exact⟨f,d⟩
   .exact h r (List.mem_of_mem_drop b)
 .have e:Ic l=Ic (l.take (Dv l a)++l.drop (Dv l a)):=by rw[List.take_append_drop]
  rw[e];simp only[QS,Ic];omega
theorem Rj (h:Sound N l)(f:1<=n)(e:a+n<=N):Sound N (CE l a n)/\Ic (CE l a n)=Ic l+n:=by
 have b:=xu h f e;unfold CE;rw[ru wB];split
 .have:=Rh (i:=0) b.1;exact⟨this.1,this.2.trans b.2⟩
 .have c:=Rh (i:=Dv l a) b.1;have d:=Rh (i:=Dv l a-1) c.1;exact⟨d.1,d.2.trans (c.2.trans b.2)⟩
theorem Jk (h:Sound N l):Sound N (Aq l n).2/\((Aq l n).1=none->(Aq l n).2=l)/\∀a,(Aq l n).1=some a->Ic (Aq l n).2+n=Ic l/\a+n<=N/\1<=n:=by
 unfold Aq;by_cases k:n<1
 .rw[rW k];exact⟨h,λ_=>rfl,λa e=>by cases e⟩
 .rw[ru k];cases d:l.findIdx? (λr=>decide (n<=r.2))with
  |none=>exact⟨h,λ_=>rfl,λa e=>by cases e⟩
  |some i=>
   obtain⟨j,c,_⟩:=List.findIdx?_eq_some_iff_getElem.1 d
   have f:l[i]?=some l[i]:=JM j
   generalize l[i]=r at f c
   have q:n<=r.2:=by simpa using c
   have s:=h r (t_ f)
   have o:=QO f
   have e:Ic l=Ic (l.take i++r::l.drop (i+1)):=by rw[<-o]
   simp only[f]
   by_cases m:r.2=n
   .simp only[m,if_true];refine⟨λx d=>?_,λe=>(by cases e),λa g=>?_⟩
    .obtain b|b:=eF.1 d
     .exact h x (List.mem_of_mem_take b)
     .exact h x (List.mem_of_mem_drop b)
    .cases g;rw[e];simp only[QS,Ic];omega
   .simp only[m,if_false];have p:l.set i (r.1+n,r.2-n)=l.take i++(r.1+n,r.2-n)::l.drop (i+1):=List.set_eq_take_append_cons_drop.trans (rW j);refine⟨λx d=>?_,λe=>(by cases e),λa g=>?_⟩
    .obtain b|rfl:=List.mem_or_eq_of_mem_set d
     .exact h x b
     .simp only;omega
    .cases g;rw[p,e];simp only[QS,Ic];omega
def O6 (i a n:Nat):Nat:=if a<=i/\i<a+n then 1 else 0
def Ed (i:Nat):List (W_)->Nat
 |[]=>0
 |r::l=>O6 i r.1 r.2+Ed i l
theorem Υ (i a n m:Nat):O6 i a (n+m)=O6 i a n+O6 i (a+n) m:=by
 unfold O6
 (repeat' split)<;>omega
theorem QZ (i:Nat):∀l k:List (W_),Ed i (l++k)=Ed i l+Ed i k
 |[],k=>by simp[Ed]
 |r::l,k=>by simp only[List.cons_append,Ed,QZ i l k];omega
theorem Wu (x i:Nat)(l:List (W_)):Ed x (F6 l i)=Ed x l:=by
 unfold F6;split
 .rename_i a b g hb;split
  .rename_i c;have f:=QO g;have c2:l.drop (i+1)=b::l.drop (i+2):=by
    have d:(l.drop (i+1))[0]?=some b:=by simpa using hb
    have:=QO d
    simpa using this
   have e:Ed x l=Ed x (l.take i++a::b::l.drop (i+2)):=(by rw[<-c2,<-f]);rw[e];simp only[QZ,Ed,Υ,c];omega
  .rfl
 .rfl
theorem nR (x a n:Nat)(l:List (W_)):Ed x (OO l a n)=Ed x l+O6 x a n:=by
 unfold OO;have e:Ed x l=Ed x (l.take (Dv l a)++l.drop (Dv l a)):=by rw[List.take_append_drop]
 rw[e];simp only[QZ,Ed];omega
theorem Wx (b:1<=n)(x a:Nat)(l:List (W_)):Ed x (CE l a n)=Ed x l+O6 x a n:=by
 unfold CE;rw[ru wB];split
 .rw[Wu,nR]
 .rw[Wu,Wu,nR]
theorem RQ (h:(Aq l n).1=some a)(x:Nat):Ed x (Aq l n).2+O6 x a n=Ed x l:=by
 revert h
 unfold Aq;by_cases g:n<1
 .rw[rW g];intro e;cases e
 .rw[ru g];cases hx:l.findIdx? (λr=>decide (n<=r.2))with
  |none=>intro e;cases e
  |some i=>
   obtain⟨f,b,_⟩:=List.findIdx?_eq_some_iff_getElem.1 hx
   have c:l[i]?=some l[i]:=JM f
   generalize l[i]=r at c b
   have o:n<=r.2:=by simpa using b
   have j:=QO c
   have e:Ed x l=Ed x (l.take i++r::l.drop (i+1)):=by rw[<-j]
   simp only[c]
   intro k
   cases k
   by_cases d:r.2=n
   .simp only[d,if_true];rw[e];simp only[QZ,Ed,d];omega
   .simp only[d,if_false];have m:l.set i (r.1+n,r.2-n)=l.take i++(r.1+n,r.2-n)::l.drop (i+1):=List.set_eq_take_append_cons_drop.trans (rW f);have e2:=Υ x r.1 n (r.2-n);rw[show n+(r.2-n)=r.2 by omega]at e2;rw[m,e];simp only[QZ,Ed];omega
theorem Wy {x:Nat}:∀{l:List (W_)},Ed x l=0->∀r∈l,¬(r.1<=x/\x<r.1+r.2)
 |[],_,r,a=>by cases a
 |s::l,h,r,a=>by
  simp only[Ed]at h
  obtain rfl|a:=r_.1 a
  .intro b;have:O6 x r.1 r.2=1:=rW b;omega
  .exact Wy wB r a
def ay (l:List (W_)):Prop:=l.Pairwise λr s=>r.1+r.2<s.1
def jo (x:W_):List (W_)->List (W_)
 |[]=>[x]
 |b::B=>if x.1+x.2=b.1 then(x.1,x.2+b.2)::B else x::b::B
theorem nY (A B:List (W_))(x:W_):F6 (A++x::B) A.length=A++jo x B:=by
 have a:(A++x::B)[A.length]?=some x:=sJ
 have c:(A++x::B)[A.length+1]?=B[0]?:=by
  rw[List.getElem?_append_right wB];simp
 unfold F6;rw[a,c];cases B with
 |nil=>rfl
 |cons b B=>
  simp only[List.getElem?_cons_zero,jo]
  split
  .rw[List.take_left' rfl]
   congr 2
   rw[show A.length+2=A.length+2 from rfl,List.drop_append];simp
  .rfl
theorem bo6 {x s:Nat×Nat}:∀{B:List (W_)},(∀t∈B,x.1+x.2<=t.1)->s∈jo x B->x.1<=s.1
 |[],_,a=>by simp only[jo,List.mem_singleton]at a;rw[a];exact w_
 |b::B,h,a=>by
  simp only[jo]at a
  split at a
  .obtain rfl|a:=r_.1 a
   .exact w_
   .have:=h s (by simp[a]);omega
  .obtain rfl|a:=r_.1 a
   .exact w_
   .have:=h s a;omega
theorem ak1 {x:Nat×Nat}:∀{B:List (W_)},(∀t∈B,x.1+x.2<=t.1)->ay B->ay (jo x B)
 |[],_,_=>by simp[jo,ay]
 |b::B,h,hB=>by
  have a:=List.pairwise_cons.1 hB
  simp only[jo]
  split
  .rename_i e;refine List.pairwise_cons.2 ⟨λs c=>?_,a.2⟩;have:=a.1 s c;simp only;omega
  .rename_i e;have hb:=h b sJ;refine List.pairwise_cons.2 ⟨λs c=>?_,hB⟩;obtain rfl|c:=r_.1 c
   .omega
   .have:=a.1 s c;omega
theorem YW (h:ay l):ay (Aq l n).2:=by
 unfold Aq;by_cases f:n<1
 .rw[rW f];exact h
 .rw[ru f];cases hx:l.findIdx? (λr=>decide (n<=r.2))with
  |none=>exact h
  |some i=>
   obtain⟨e,b,_⟩:=List.findIdx?_eq_some_iff_getElem.1 hx
   have d:l[i]?=some l[i]:=JM e
   generalize l[i]=r at d b
   have p:n<=r.2:=by simpa using b
   have m:=QO d
   have o:ay (l.take i++r::l.drop (i+1)):=by rw[<-m];exact h
   obtain⟨j,p2,p3⟩:=List.pairwise_append.1 o
   obtain⟨p4,k⟩:=List.pairwise_cons.1 p2
   simp only[d]
   by_cases g:r.2=n
   .simp only[g,if_true];exact List.pairwise_append.2 ⟨j,k,λs a t c=>p3 s a t (by simp[c])⟩
   .simp only[g,if_false];rw[List.set_eq_take_append_cons_drop.trans (rW e)];refine List.pairwise_append.2 ⟨j,List.pairwise_cons.2 ⟨λs a=>?_,k⟩,λs a t c=>?_⟩
    .have:=p4 s a;simp only;omega
    .obtain rfl|c:=r_.1 c
     .have:=p3 s a r sJ;simp only;omega
     .exact p3 s a t (by simp[c])
theorem ba8 (hN:1<=N)(k:Sound N l)(h:ay l)(j:∀x,x<N->1<=Ed x l):l=[(0,N)]:=by
 have one:∀(l:List (W_))(x:Nat),1<=Ed x l->∃r∈l,r.1<=x/\x<r.1+r.2:=by
  intro l
  induction l with
  |nil=>intro x h;simp[Ed]at h
  |cons s l g=>
   intro x h
   by_cases b:s.1<=x/\x<s.1+s.2
   .exact⟨s,sJ,b⟩
   .simp only[Ed,O6,ru b]at h;obtain⟨r,d,b⟩:=g x wB;exact⟨r,by simp[d],b⟩
 cases l with
 |nil=>have:=j 0 wB;simp[Ed]at this
 |cons r l=>
  obtain⟨c,p2⟩:=List.pairwise_cons.1 h
  have d:=k r sJ
  have r0:r.1=0:=by
   obtain⟨s,a,f,_⟩:=one _ 0 (j 0 wB)
   obtain rfl|a:=r_.1 a
   .omega
   .have:=c s a;omega
  have rN:r.2=N:=by
   refine Nat.le_antisymm wB (Nat.le_of_not_lt λe=>?_)
   obtain⟨s,a,f,i⟩:=one _ r.2 (j r.2 e)
   obtain rfl|a:=r_.1 a
   .omega
   .have:=c s a;omega
  cases l with
  |nil=>rw[<-rN,<-r0]
  |cons s l=>
   have:=c s sJ
   have:=k s sJ
   omega
theorem pM:∀z∈l.take (Dv l a),z.1<=a:=by
 intro z b;unfold Dv at b;cases hx:l.findIdx? (λr=>decide (a<r.1))with
 |none=>
  have:=List.findIdx?_eq_none_iff.1 hx z (List.mem_of_mem_take b)
  simpa using this
 |some i=>
  obtain⟨c,_,hb⟩:=List.findIdx?_eq_some_iff_getElem.1 hx
  rw[hx]at b
  simp only at b
  obtain⟨j,d,rfl⟩:=List.mem_take_iff_getElem.1 b
  have:=hb j wB
  simpa using this
theorem wU (h:ay l):∀t∈l.drop (Dv l a),a<t.1:=by
 intro t b;unfold Dv at b;cases hx:l.findIdx? (λr=>decide (a<r.1))with
 |none=>rw[hx]at b;simp at b
 |some i=>
  obtain⟨c,hi,_⟩:=List.findIdx?_eq_some_iff_getElem.1 hx
  rw[hx]at b
  have e:a<l[i].1:=by simpa using hi
  have d:ay (l.drop i):=List.Pairwise.sublist (List.drop_sublist i l) h
  rw[<-List.getElem_cons_drop c]at d
  simp only at b
  rw[<-List.getElem_cons_drop c]at b
  obtain rfl|b:=r_.1 b
  .exact e
  .have:=(List.pairwise_cons.1 d).1 t b;omega
theorem YX (E:1<=n)(D:Sound N l)(h:ay l)(C:∀x,a<=x->x<a+n->Ed x l=0):ay (CE l a n):=by
 have hA:∀z∈l.take (Dv l a),z.1+z.2<=a:=λz f=>by
  have k:=pM z f
  have u:=Wy (C a w_ wB) z (List.mem_of_mem_take f)
  omega
 have hB:∀t∈l.drop (Dv l a),a+n<=t.1:=λt b=>by
  have k:=wU h t b
  have B:=D t (List.mem_of_mem_drop b)
  refine Nat.le_of_not_lt λq=>?_
  exact Wy (C t.1 wB q) t (List.mem_of_mem_drop b) ⟨w_,wB⟩
 have m:ay (l.take (Dv l a)):=List.Pairwise.sublist (List.take_sublist _ l) h;have y:ay (l.drop (Dv l a)):=List.Pairwise.sublist (List.drop_sublist _ l) h;have i:(l.take (Dv l a)).length=Dv l a:=by rw[eP];have:=YY l a;omega
 have o:ay (jo (a,n) (l.drop (Dv l a))):=ak1 hB y;have v:∀t∈jo (a,n) (l.drop (Dv l a)),a<=t.1:=λt b=>bo6 (x:=(a,n)) hB b
 have e:=nY (l.take (Dv l a)) (l.drop (Dv l a)) (a,n);rw[i]at e;unfold CE;rw[ru wB];split
 .rename_i g;have d:F6 (OO l a n) (Dv l a)=_:=e;rw[g]at d;rw[d,List.take_zero,List.nil_append,<-g];exact o
 .rename_i g;have d:F6 (OO l a n) (Dv l a)=_:=e;rw[d];generalize jo (a,n) (l.drop (Dv l a))=J at*;generalize l.take (Dv l a)=A at*;obtain rfl|⟨p,z,rfl⟩:=List.eq_nil_or_concat A
  .simp at i;omega
  .have j:Dv l a-1=p.length:=(by simp at i;omega);rw[j,List.concat_eq_append,List.append_assoc,List.singleton_append,nY];rw[List.concat_eq_append]at m hA;obtain⟨q1,_,w⟩:=List.pairwise_append.1 m;have f:z.1+z.2<=a:=hA z sJ;have c:∀t∈J,z.1+z.2<=t.1:=λt b=>lN f (v t b)
   refine List.pairwise_append.2 ⟨q1,ak1 c o,λs r t b=>?_⟩;have k:=w s r z sJ;have u:=bo6 c b;omega
end Go.Fxa
