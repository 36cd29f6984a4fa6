/- Maps of free blocks: Take. -/
import Derived.Test.YtmhplpfpcnjekaaGreatA19
namespace Go.Fxa
open Conc Proofs RowKit Proofs.Tryz
set_option maxRecDepth 1000000
set_option maxHeartbeats 0
def Aw (l:List (W_)) (n:Nat):Option Nat×List (W_):=
 if n<1 then(none,l)else match l.findIdx? (fun r=>decide (n<=r.2))with
 | none=>(none,l)
 | some i=>match l[i]? with
  | none=>(none,l)
  | some r=>(some r.1,if r.2=n then l.take i++l.drop (i+1)else l.set i (r.1+n,r.2-n))
def J6:Option Nat->Value
 | none=>.tuple #[.int .i64 0,.bool false]
 | some a=>.tuple #[.int .i64 a,.bool true]
def Fit (N:Nat) (l:List (W_)):Prop:=l.length<=N/\∀(i:Nat) r,l[i]?=some r->r.1+r.2<=N
section
variable (m:Nat) (w:World)
theorem takeC (kb g cap n N:Nat) (U:TypeId) (ks:X_) (l:List (W_)) (h:Hd 186 w kb 0 U ks g cap l) (hF:Fit N l) (hN:N<=10000) (hn:n<=10000):
  CallsIn NF m prog 92 #[R_ kb,.int .i64 (n:Nat)] w fun e w'=>e=.returned (J6 (Aw l n).1)/\Ab (TM kb g) w w'/\w'.heap[kb]?=some (.cells (ks.setIfInBounds 0 (.slice (some (S_ g)) (Aw l n).2.length cap)) U (0,0))/\Mp 186 w' g cap (Aw l n).2:=by
 have BN:=h.apart;obtain⟨hF1,hF2⟩:=hF;have hnb:(w.alloc (.cells #[.int .i64 n] 3)).heap[w.heap.size]?=some (.cells #[.int .i64 n] 3):=heap_alloc_new rfl;have Li:Ab No w (w.alloc (.cells #[.int .i64 n] 3)):=(Ab.refl _ _).alloc _;have h0:=h.keep Li id id;have d3:(w.alloc (.cells #[.int .i64 n] 3)).cell? (S_ w.heap.size)=some (.int .i64 n):=bce hnb rfl;have d4:(w.alloc (.cells #[.int .i64 n] 3)).cell? (S_ kb)=some (.slice (some (S_ g)) l.length cap):=(Ag h0.k _).trans h.v;have ix:=fun m=>qM m (w.alloc (.cells #[.int .i64 n] 3)) g cap w.heap.size n l h0.mp d3 (by omega)
 by_cases hn0:n<1
 ·have f1:(n:Int)<1:=by omega
  have et:Aw l n=(none,l):=by unfold Aw;rw[if_pos hn0]
  rw[et];generalize QC l (fun r=>decide (n<=r.2))=j at ix;gi_enter func92,ntmps92;gi_wp2_with (gi_at_call 127;refine(ix _).mono ?_;rintro e w1 ⟨rfl,hK⟩;have e3:=hK.has d3;have e4:=hK.has d4);go_ret2;have h1:=h0.keep hK id id;exact⟨by simp[J6],(Li.then hK).no,by rw[h.self];exact h1.k,h1.mp⟩
 ·have f1:¬(n:Int)<1:=by omega
  cases hx:l.findIdx? (fun r=>decide (n<=r.2))with
  | none=>
   have ea:QC l (fun r=>decide (n<=r.2))=-1:=by unfold QC;rw[hx]
   have et:Aw l n=(none,l):=by unfold Aw;rw[if_neg hn0,hx]
   rw[et]
   simp only[ea]at ix
   gi_enter func92,ntmps92
   gi_wp2_with (gi_at_call 127;refine(ix _).mono ?_;rintro e w1 ⟨rfl,hK⟩;have e3:=hK.has d3;have e4:=hK.has d4)
   go_ret2
   have h1:=h0.keep hK id id
   exact⟨by simp[J6],(Li.then hK).no,by rw[h.self];exact h1.k,h1.mp⟩
  | some i=>
   have ea:QC l (fun r=>decide (n<=r.2))=(i:Int):=by unfold QC;rw[hx]
   simp only[ea]at ix
   obtain⟨Gl,hir,_⟩:=List.findIdx?_eq_some_iff_getElem.1 hx
   have hg:l[i]?=some l[i]:=HZ Gl
   generalize l[i]=r at hg hir
   have hle:n<=r.2:=by simpa using hir
   have hsr:=hF2 i r hg
   have f2:(i:Int)<(l.length:Int):=by omega
   have f3:¬(i:Int)<0:=by omega
   by_cases hw:r.2=n
   ·have et:Aw l n=(some r.1,l.take i++l.drop (i+1)):=(by unfold Aw;rw[if_neg hn0,hx];simp only[hg,hw,if_true]);rw[et];have f4:((r.2:Int)==(n:Int))=true:=(by simp;omega);gi_enter func92,ntmps92;gi_wp2_with (gi_at_call 127;refine(ix _).mono ?_;rintro e w1 ⟨rfl,hK⟩;have e3:=hK.has d3;have e4:=hK.has d4;have h1:=h0.keep hK id id;obtain⟨c0,c1⟩:=h1.mp.cells hg);have dl:=fun m=>iH m w1.drew g l.length cap i (i+1) _ (Rw.keep h1.mp (Ab.refl No _).drew id) (by omega) (by omega)
    push_cast at dl;have hk3:w1.drew.heap[kb]?=some (.cells ks U (0,0)):=h1.k;gi_region
    all_goals gi_wp2_with (gi_at_call 132;refine(dl _).mono ?_;rintro e w2 ⟨rfl,Fe,I7⟩;have e7:=Fe.old hk3 BN;have e8:=BF e7 0;have e9:=(Ag e7 0).trans h.v)
    all_goals go_ret2
    all_goals
     have el:(l.take i++l.drop (i+1)).length=i+(l.length-(i+1)):=by simp only[List.length_append,List.length_take,List.length_drop];omega
     rw[Nh,Ni,<-Qe,<-el]at I7
     exact⟨by simp[J6],((Li.then hK).drew.no.trans Fe (fun _ _ h=>.inr h)).setCell _ (fun _=>.inl rfl),by rw[el];exact Aj e7 _,Rw.keep I7 ((Ab.refl (At kb) _).setCell _ fun _=>rfl) BN.symm⟩
   ·have et:Aw l n=(some r.1,l.set i (r.1+n,r.2-n)):=(by unfold Aw;rw[if_neg hn0,hx];simp only[hg,hw,if_false]);rw[et];have f4:((r.2:Int)==(n:Int))=false:=(by simp;omega);gi_enter func92,ntmps92;gi_wp2_with (gi_at_call 127;refine(ix _).mono ?_;rintro e w1 ⟨rfl,hK⟩;have e3:=hK.has d3;have e4:=hK.has d4;have h1:=h0.keep hK id id;obtain⟨c0,c1⟩:=h1.mp.cells hg);have fz:=fun j=>Rw.fz h1.mp j
    have hlg:=Rw.lt h.mp;have hkg:¬kb=g:=BN;have v1:((r.1+n:Nat):Int)=(r.1:Int)+n:=(by omega);have v2:((r.2-n:Nat):Int)=(r.2:Int)-n:=(by omega);gi_region
    all_goals gi_wp2
    all_goals gi_region
    all_goals gi_wp2
    all_goals gi_region
    all_goals gi_wp2
    all_goals go_ret2
    all_goals
     have m2:=h1.mp.set0 hg (r.1+n)
     have m4:=m2.Kq (i:=i) (r:=(r.1+n,r.2)) (by rw[List.getElem?_set_self Gl]) (r.2-n)
     rw[v1,v2]at m4
     have m5:Mp 186 _ g cap _:=Rw.keep m4 (Ab.refl No _).drew.drew.drew id
     refine⟨by simp[J6],by repeat (first|exact(Li.then hK).no|refine Ab.drew ?_|refine Ab.setCell ?_ _ (fun _=>.inr rfl)),?_,by simpa using m5⟩
     rw[List.length_set,h.self]
     exact(Fz _ BN).trans ((Fz _ BN).trans h1.k)
end
def CP (l:List (W_)) (a:Nat):Nat:=match l.findIdx? (fun r=>decide (a<r.1))with|some i=>i|none=>l.length
def KI (l:List (W_)) (a n:Nat):List (W_):=l.take (CP l a)++(a,n)::l.drop (CP l a)
def Cn (l:List (W_)) (a n:Nat):List (W_):=
 if n<1 then l else if CP l a=0 then Ea (KI l a n) 0 else Ea (Ea (KI l a n) (CP l a)) (CP l a-1)
theorem R5 (l:List (W_)) (a:Nat):CP l a<=l.length:=by
 unfold CP;cases h:l.findIdx? (fun r=>decide (a<r.1))with
 | none=>exact Nat.le_refl _
 | some i=>exact Nat.le_of_lt (List.findIdx?_eq_some_iff_getElem.1 h).1
theorem MH (l:List (W_)) (a n:Nat):(KI l a n).length=l.length+1:=by
 have:=R5 l a;simp only[KI,List.length_append,List.length_take,List.length_cons,List.length_drop];omega
theorem uJ (l:List (W_)) (a n:Nat):I4 (rc l) [.int .i64 a,.int .i64 n] (CP l a*2)=rc (KI l a n):=by
 unfold I4 KI;rw[Nh,Ni,Qe];simp only[rc];simp
theorem XG {N a n:Nat} {l:List (W_)} (h:Fit N l) (ha:a+n<=N) (hl:l.length+1<=N):Fit N (KI l a n):=by
 refine⟨by rw[MH];exact hl,fun i r hr=>?_⟩;have:r∈KI l a n:=List.mem_of_getElem? hr;unfold KI at this;rcases List.mem_append.1 this with h1|h1
 ·obtain⟨j,hj⟩:=List.getElem?_of_mem (List.mem_of_mem_take h1);exact h.2 j r hj
 ·rcases List.mem_cons.1 h1 with rfl|h1
  ·exact ha
  ·obtain⟨j,hj⟩:=List.getElem?_of_mem (List.mem_of_mem_drop h1);exact h.2 j r hj
theorem U6 {N i:Nat} {l:List (W_)} (h:Fit N l):Fit N (Ea l i):=by
 unfold Ea;split
 ·rename_i a b ha hb;split
  ·rename_i hab;have li:=(KH.1 hb).1;refine⟨?_,fun j r hr=>?_⟩
   ·simp only[List.length_append,List.length_take,List.length_cons,List.length_drop];have:=h.1;omega
   ·have:r∈_:=List.mem_of_getElem? hr;rcases List.mem_append.1 this with h1|h1
    ·obtain⟨j,hj⟩:=List.getElem?_of_mem (List.mem_of_mem_take h1);exact h.2 j r hj
    ·rcases List.mem_cons.1 h1 with rfl|h1
     ·have:=h.2 _ _ hb;simp only;omega
     ·obtain⟨j,hj⟩:=List.getElem?_of_mem (List.mem_of_mem_drop h1);exact h.2 j r hj
  ·exact h
 ·exact h
section
variable (m:Nat) (w:World)
theorem yf (kb g cap i N:Nat) (U:TypeId) (ks:X_) (l:List (W_)) (h:Hd 186 w kb 0 U ks g cap l) (hF:Fit N l) (hN:N<=10000) (hi:i<=10000):
  CallsIn NF m prog 130 #[R_ kb,.int .i64 (i:Nat)] w fun e w'=>e=.returned (.tuple #[])/\Ab (TM kb g) w w'/\Hd 186 w' kb 0 U (ks.setIfInBounds 0 (.slice (some (S_ g)) (Ea l i).length cap)) g cap (Ea l i):=by
 by_cases hl:i+1<l.length
 ·have ha:l[i]?=some l[i]:=HZ (by omega);have hb:l[i+1]?=some l[i+1]:=HZ hl;have s1:=hF.2 _ _ ha;have s2:=hF.2 _ _ hb;refine(dI m w kb g cap i U ks l h _ _ ha hb (by omega) (by omega) (by omega)).mono ?_;rintro e w' ⟨rfl,hK,hk,hm⟩;exact⟨rfl,hK,⟨hk,Kb h.v,hm,h.ne⟩⟩
 ·rw[Ti (by omega),h.self];refine(dK m w kb g cap i U ks l h (by omega) (by omega)).mono ?_;rintro e w' ⟨rfl,hK⟩;exact⟨rfl,hK.no,h.keep hK id id⟩
theorem qJ (g n cap vb i:Nat) (xs ys:U_) (hR:Rw 186 2 w g n cap xs) (hV:Rw 186 2 w vb 1 1 ys) (BN:vb≠g) (hi:i<=n) (hsm:n<=100000):
  CallsIn NF m prog 129 #[.slice (some (S_ g)) n cap,.int .i64 (i:Nat),.slice (some (S_ vb)) 1 1] w fun e w'=>∃g' BK,e=.returned (.slice (some (S_ g')) (n+1) BK)/\Ab (At g) w w'/\Rw 186 2 w' g' (n+1) BK (I4 xs ys (i*2))/\(g'=g\/w.heap.size<=g'):=by
 by_cases he:i=n
 ·subst he;have e:I4 xs ys (i*2)=xs++ys:=by
   unfold I4
   rw[List.take_of_length_le (by rw[hR.len];exact Nat.le_refl _),List.drop_of_length_le (by rw[hR.len];exact Nat.le_refl _),List.append_nil]
  rw[e];exact YT m w g i cap vb xs ys hR hV hsm
 ·by_cases hc:n+1<=cap
  ·exact Um m w g n cap vb i xs ys hR hV BN (by omega) hsm hc
  ·exact Ws m w g n cap vb i xs ys hR hV (by omega) hsm (by omega)
end
def tY (T:TypeId) (w w1:World) (kb g cap a n:Nat) (l:List (W_)) (L:Nat->Bool) (u:Y_) (W:World):Prop:=
 Ab (At g) w1 W/\(L 10=false->Mp T W g cap l)/\(L 9=true->∃vb,u 9=.slice (some (S_ vb)) 1 1/\vb≠g/\Rw T 2 W vb 1 1 [.int .i64 a,.int .i64 n])/\
 (L 10=true->∃g' BK,u 10=.slice (some (S_ g')) (l.length+1) BK/\Rw T 2 W g' (l.length+1) BK (rc (KI l a n))/\(g'=g\/w.heap.size<=g')/\kb≠g')
def Vp (l:List (W_)) (a x:Nat):Prop:=CP l a=x
theorem XB {l:List (W_)} {a n x:Nat} (h:Vp l a x):I4 (rc l) [.int .i64 a,.int .i64 n] (x*2)=rc (KI l a n):=by
 have h:CP l a=x:=h;subst h;exact uJ l a n
theorem Nt {ks:X_} {i:Nat} {u v:Value}:(ks.setIfInBounds i u).setIfInBounds i v=ks.setIfInBounds i v:=by simp
section
variable (m:Nat) (w:World)
theorem ao5 (kb g cap a n N:Nat) (U:TypeId) (ks:X_) (l:List (W_)) (h:Hd 186 w kb 0 U ks g cap l) (hF:Fit N l) (hN:N<=10000) (hn:a+n<=N) (hl:l.length+1<=N):
  CallsIn NF m prog 91 #[R_ kb,.int .i64 (a:Nat),.int .i64 (n:Nat)] w fun e w'=>e=.returned (.tuple #[])/\Ab (TM kb g) w w'/\∃g' BK,Hd 186 w' kb 0 U (ks.setIfInBounds 0 (.slice (some (S_ g')) (Cn l a n).length BK)) g' BK (Cn l a n)/\(g'=g\/w.heap.size<=g'):=by
 have BN:=h.apart;have lg:=Rw.lt h.mp;have lk:=Co h.k;have hnb:(w.alloc (.cells #[.int .i64 a] 94)).heap[w.heap.size]?=some (.cells #[.int .i64 a] 94):=heap_alloc_new rfl;have Li:Ab No w (w.alloc (.cells #[.int .i64 a] 94)):=(Ab.refl _ _).alloc _;have h0:=h.keep Li id id;have d3:(w.alloc (.cells #[.int .i64 a] 94)).cell? (S_ w.heap.size)=some (.int .i64 a):=bce hnb rfl;have d4:(w.alloc (.cells #[.int .i64 a] 94)).cell? (S_ kb)=some (.slice (some (S_ g)) l.length cap):=(Ag h0.k _).trans h.v;by_cases hn0:n<1
 ·have f1:(n:Int)<1:=by omega
  have et:Cn l a n=l:=by unfold Cn;rw[if_pos hn0]
  rw[et];gi_enter func91,ntmps91;gi_wp2;refine bodyPost_ret (results_none rfl _ _ _) rfl ?_;exact⟨by simp,Li.no,g,cap,by rw[h.self];exact h0,.inl rfl⟩
 have f1:¬(n:Int)<1:=by omega
 have ix:=fun m=>qN m (w.alloc (.cells #[.int .i64 a] 94)) g cap w.heap.size a l h0.mp d3 (by omega)
 have ay8:=R5 l a;obtain⟨x,hx⟩:∃x,l.findIdx? (fun r=>decide (a<r.1))=x:=⟨_,rfl⟩;have h2:(∃hsp:Vp l a (CP l a),QC l (fun r=>decide (a<r.1))=(CP l a:Int))\/(∃hsp:Vp l a l.length,QC l (fun r=>decide (a<r.1))=-1):=by
  cases x with
  | none=>exact .inr ⟨by unfold Vp CP;rw[hx],by unfold QC;rw[hx]⟩
  | some i=>exact .inl ⟨rfl,by unfold QC CP;rw[hx]⟩
 clear hx x;rcases h2 with⟨hsp,ea⟩|⟨hsp,ea⟩
 all_goals
  simp only[ea]at ix
  gi_enter func91,ntmps91
  gi_wp2_with (gi_at_call 127;refine(ix _).mono ?_;rintro e w1 ⟨rfl,hK⟩;have e3:=hK.has d3;have e4:=hK.has d4;have h1:=h0.keep hK id id)
  have ek:=h1.k
  refine BZ (P:=prog) _ rfl rfl (by kernel_rfl) 11 42 [0,1,2,3,4,5,6,7,8] [9,10] (by kernel_rfl) (by rfl)
   (tY 186 w w1.drew kb g cap a n l) (fun L L' u u' W h hI=>by
    have h9:=h 9 (by simp)
    have h10:=h 10 (by simp)
    unfold tY at hI ⊢
    rw[<-h9.1,<-h9.2,<-h10.1,<-h10.2]
    exact hI) _ _ rfl rfl ?_
  have sz:w.heap.size≠g:=by omega
  gi_wp2
  refine⟨rfl,by kernel_rfl,?_,?_,?_,?_⟩
  ·intro u';exact⟨Ab.refl _ _,fun _=>Rw.keep h1.mp (Ab.refl No _).drew id,fun h=>absurd h (by decide),fun h=>absurd h (by decide)⟩
  ·intro L u' W hI;have hK:=hI.1;have l3:=World.block_lt_of_cell? _ _ e3;have l4:=World.block_lt_of_cell? _ _ e4;have d0:=(hK.cell (w:=w1.drew) (p:=(S_ w.heap.size)) l3 sz).trans e3;have d1:=(hK.cell (w:=w1.drew) (p:=(S_ kb)) l4 BN).trans e4
   repeat' (refine Ao ?_ ?_)
   all_goals first|exact trivial|gi_wp2
  ·intro i hi L u' W hI Nf hu;obtain⟨Fe,hI1,hI2,yX⟩:=hI;have l1:=Fe.size;have l2:=hK.size;have l3:(w.alloc (.cells #[.int .i64 a] 94)).heap.size=w.heap.size+1:=(by simp);have l4:w1.drew.heap.size=w1.heap.size:=rfl;rcases(by simpa using hi:i=9\/i=10)with rfl|rfl
   ·refine Bh rfl fun KK Ko=>?_
    show wpListIn NF m prog _ _ _ (Act.put (Act.put _ (some 31) (u' 9)) (some 32) (u' 10)) _;have sz2:W.heap.size≠g:=(by omega);gi_wp2;refine⟨_,rfl,Fe.alloc _,fun h=>Rw.keep (hI1 h) ((Ab.refl No W).alloc _) id,fun _=>⟨_,rfl,sz2,⟨⟨_,heap_alloc_new rfl,rfl,rfl⟩,Nat.le_refl _,by decide,rfl,fun x hx=>?_⟩⟩,fun h=>?_⟩
    ·simp only[List.mem_cons,List.not_mem_nil,or_false]at hx;rcases hx with rfl|rfl<;>rfl
    ·obtain⟨g',BK,b1,b2,b3,b4⟩:=yX h;exact⟨g',BK,b1,b2.keep ((Ab.refl No W).alloc _) id,b3,b4⟩
   ·obtain⟨vb,hv1,hv2,hv3⟩:=hI2 (hu 9 (by simp) (by decide));show wpOpIn NF m prog _ _ _ (fun a' W'=>∃v,a'=Act.put (Act.put (Act.put _ (some 31) (u' 9)) (some 32) (u' 10)) (some 32) v/\_) (Act.put (Act.put _ (some 31) (u' 9)) (some 32) (u' 10)) _;rw[hv1];refine Bh rfl fun KK Ko=>?_
    have e6:=hI1 Nf;gi_wp2_with fail;refine(qJ _ W g l.length cap vb _ _ _ e6 hv3 hv2 (by omega) (by omega)).mono ?_;rintro e w3 ⟨g',BK,rfl,hK3,Rf,hg'⟩;gi_wp2;rw[XB hsp]at Rf;have hg2:(g'=g\/w.heap.size<=g')/\kb≠g':=by
     rcases hg' with rfl|hg'
     ·exact⟨.inl rfl,BN⟩
     ·exact⟨.inr (by omega),by omega⟩
    exact⟨_,rfl,Fe.then hK3,fun h=>absurd h (by simp[JE]),fun h=>⟨vb,hv1,hv2,hv3.keep hK3 hv2⟩,fun _=>⟨g',BK,rfl,Rf,hg2.1,hg2.2⟩⟩
  ·intro L u' W hI hL;obtain⟨Fe,hI1,hI2,yX⟩:=hI;obtain⟨vb,hv1,_,hv2⟩:=hI2 (hL 9 (by simp));obtain⟨g',BK,hz1,hz2,hz3,hz4⟩:=yX (hL 10 (by simp));show wpListIn NF m prog _ _ _ (Act.put (Act.put _ (some 31) (u' 9)) (some 32) (u' 10)) _;rw[hv1,hz1];have ze:=Fe.old (heap_drew.trans ek) BN;have ek3:=BF ze 0;have ek4:=(Ag ze 0).trans h.v;have ek5:=Aj (i:=0) ze (.slice (some (S_ g')) (l.length+1) BK);have hd:Hd 186 (W.setCell (S_ kb) (.slice (some (S_ g')) (l.length+1) BK)) kb 0 U (ks.setIfInBounds 0 (.slice (some (S_ g')) (l.length+1) BK)) g' BK (KI l a n):=⟨ek5,by rw[MH];exact Kb h.v,by unfold Mp;rw[MH];exact hz2.keep ((Ab.refl (At kb) W).setCell _ fun _=>rfl) hz4.symm,h.ne⟩;have Jv:Ab (TM kb g) w (W.setCell (S_ kb) (.slice (some (S_ g')) (l.length+1) BK)):=((Li.then hK).no.drew.trans Fe (fun _ _ h=>.inr h)).setCell _ (fun _=>.inl rfl);have Dp:=XG hF hn hl;gi_wp2_with fail;refine(yf _ _ kb g' BK _ N U _ _ hd Dp hN (by omega)).mono ?_;rintro e w4 ⟨rfl,hK4,hd4⟩;have hb4:Ab (TM kb g) w w4:=Jv.trans hK4 (fun k hk hh=>by
    rcases hh with hh|hh
    ·exact .inl hh
    ·rcases hz3 with hz3|hz3
     ·exact .inr (Eq.trans hh hz3)
     ·exfalso;have:k=g':=hh;omega)
   rw[Nt]at hd4;have zK:=hsp;unfold Vp at zK;by_cases hx0:CP l a=0
   ·have et:Cn l a n=Ea (KI l a n) (CP l a):=(by unfold Cn;rw[if_neg hn0,if_pos hx0,hx0]);gi_wp2_with fail
    first|rw[show((CP l a:Nat):Int)-1=-1 by omega]|rw[show((l.length:Nat):Int)-1=-1 by omega]|skip
    refine(dJ _ _ kb).mono ?_;rintro e w5 ⟨rfl,sG⟩;gi_wp2;go_end0;rw[et];refine⟨by simp,hb4.then sG.no,g',BK,?_,hz3⟩;have hd5:=hd4.keep sG id id
    first|exact hd5|(rw[show CP l a=l.length from hsp];exact hd5)
   ·have et:Cn l a n=Ea (Ea (KI l a n) (CP l a)) (CP l a-1):=(by unfold Cn;rw[if_neg hn0,if_neg hx0]);gi_wp2_with fail
    first|rw[show((CP l a:Nat):Int)-1=((CP l a-1:Nat):Int) by omega]|rw[show((l.length:Nat):Int)-1=((l.length-1:Nat):Int) by omega]
    refine(yf _ _ kb g' BK _ N U _ _ hd4 (U6 Dp) hN (by omega)).mono ?_;rintro e w5 ⟨rfl,sG,hd5⟩;rw[Nt]at hd5;gi_wp2;go_end0;rw[et];refine⟨by simp,hb4.trans sG (fun k hk hh=>?_),g',BK,?_,hz3⟩
    ·rcases hh with hh|hh
     ·exact .inl hh
     ·rcases hz3 with hz3|hz3
      ·exact .inr (Eq.trans hh hz3)
      ·exfalso;have:k=g':=hh;omega
    ·first|exact hd5|(rw[show CP l a=l.length from hsp];exact hd5)
end
theorem RG:J4 prog 95 188 (.agg #[.int .i64 0,.int .i64 0]) 2 16:=⟨underlying95,by kernel_rfl,by rfl,by decide,by intro x hx;simp[Value.cells]at hx;subst hx;rfl⟩
theorem bb6:∃fn rs,prog.funcs[235]?=some fn/\(fn.name== "runtime.NumGoroutine")=false/\fn.body.isNone=true/\Extern.findNext fn=none/\Extern.find fn=some (Extern.SlicesOverlaps.overlaps #[95,95] rs):=⟨(prog.funcs[235]?).getD default,#[4],by kernel_rfl,by kernel_rfl,by kernel_rfl,by kernel_rfl,by kernel_rfl⟩
section
variable (m:Nat) (w:World)
theorem iG (g n cap i j:Nat) (xs:U_) (hR:Rw 188 2 w g n cap xs) (hij:i<j) (hjn:j<=n):
  CallsIn NF m prog 124 #[.slice (some (S_ g)) n cap,.int .i64 (i:Nat),.int .i64 (j:Nat)] w fun e w'=>e=.returned (.slice (some (S_ g)) (i+(n-j)) cap)/\Ab (At g) w w'/\Rw 188 2 w' g (i+(n-j)) cap (xs.take (i*2)++xs.drop (j*2)):=by
 have hle:=hR.le;have f1:¬((j:Int)<(i:Int)):=by omega
 have f2:¬((n:Int)<(j:Int)):=by omega
 have f3:¬((cap:Int)<(n:Int)):=by omega
 by_cases hcj:cap=j
 all_goals
  gi_enter func124,ntmps124
  gi_wp2
  refine AA (P:=prog) No _ rfl rfl (by kernel_rfl) 6 33 [0,1,2,3,4,5] [] (by kernel_rfl) (by rfl) (fun _ _ _=>True) (fun _ _ _ _ _ h _=>h) _ _ rfl rfl ?_
  gi_wp2
  refine⟨rfl,by kernel_rfl,?_,(fun i hi=>absurd hi (by simp)),?_⟩
  ·intro W hK
   repeat' (refine Ao ?_ ?_)
   all_goals first|exact trivial|gi_wp2
  ·intro u W hK _;simp only[C9];obtain⟨w1,Fq,hK1,h1⟩:=ZW (w:=W) (ty:=95) RG (hR.keep ((Ab.refl No w).drew.then hK) id) hij hjn;obtain⟨w2,hcl,Fe,h2⟩:=MJ (c:=cap-(i+(n-j))) (q:=n-(i+(n-j))) (ty:=0) RG h1 (by omega)
   first|(rw[if_pos hcj]at Fq;simp only[hcj,Nat.sub_self]at Fq hcl)|rw[if_neg hcj]at Fq
   refine BL rfl (.tmp 22) (.tmp 25) _ rfl rfl rfl Fq ?_;gi_wp2;go_ret;exact⟨by simp[hcj],(((Ab.refl _ _).drew.then hK.no).then hK1).then Fe,h2⟩
theorem YS (g n cap vb:Nat) (xs ys:U_) (hR:Rw 188 2 w g n cap xs) (hV:Rw 188 2 w vb 1 1 ys) (hsm:n<=100000):
  CallsIn NF m prog 210 #[.slice (some (S_ g)) n cap,.int .i64 (n:Nat),.slice (some (S_ vb)) 1 1] w fun e w'=>∃g' BK,e=.returned (.slice (some (S_ g')) (n+1) BK)/\Ab (At g) w w'/\Rw 188 2 w' g' (n+1) BK (xs++ys)/\(g'=g\/w.heap.size<=g'):=by
 obtain⟨g',BK,w',Fq,Fb,hK⟩:=WV (ty:=95) (sCap:=1) RG hR hV.len hV.cells hV.one (by omega) (by omega);have hle:=hR.le;by_cases hcn:cap=n
 all_goals
  first|simp only[hcn]at Fq ⊢ | skip
  gi_enter func210,ntmps210
  gi_wp2_with (refine BL rfl (.tmp 23) (.tmp 24) _ rfl rfl rfl Fq ?_)
  go_ret
  refine⟨g',BK,by simp,?_,Fb,?_⟩
  ·rcases hK with⟨_,h⟩|⟨_,h⟩
   ·exact h
   ·exact h.no
  ·rcases hK with⟨h,_⟩|⟨h,_⟩
   ·exact .inl h
   ·exact .inr (by omega)
theorem Wq (g n cap vb i:Nat) (xs ys:U_) (hR:Rw 188 2 w g n cap xs) (hV:Rw 188 2 w vb 1 1 ys) (hi:i<n) (hsm:n<=100000) (hgr:cap<n+1):
  CallsIn NF m prog 210 #[.slice (some (S_ g)) n cap,.int .i64 (i:Nat),.slice (some (S_ vb)) 1 1] w fun e w'=>∃g' BK,e=.returned (.slice (some (S_ g')) (n+1) BK)/\Ab (At g) w w'/\Rw 188 2 w' g' (n+1) BK (I4 xs ys (i*2))/\(g'=g\/w.heap.size<=g'):=by
 have hle:=hR.le;obtain⟨BK,w1,Fq,fG,hK1⟩:=ZR (i:=i) (m:=n+1-i) (ty:=95) (ti:=3) RG hR (by omega) (by omega) (by omega) (by omega) (by omega) underlying3;have en:i+(n+1-i)=n+1:=by omega
 rw[en]at Fq fG;have hle1:=fG.le;obtain⟨w2,hcp,Fe,hnext⟩:=gX (i:=i) (n:=n) (xs:=xs) (ys:=ys) (g:=g) (cap:=cap) (FI:=BK - i) (sCap:=1) (ty:=3) (a:=(S_ vb)) RG fG hi hR.len hV.len (hV.keep hK1 id).cells hV.one;have mM:Ab No w w2:=hK1.trans (S':=At w.heap.size) Fe (fun k hk h=>by have:k=w.heap.size:=h;omega);obtain⟨w3,Zw,hK3,Rf⟩:=hnext w2.drew (BK - (i+1)) (cap-i) (Ab.refl No w2).drew ((hR.keep mM id).keep (Ab.refl No w2).drew id);have zb:n+1-(i+1)=n-i:=by omega
 rw[zb]at Zw;have nJ:Ab No w w3:=mM.drew.trans (S':=At w.heap.size) hK3 (fun k hk h=>by have:k=w.heap.size:=h;omega);have f1:¬((n:Int)<(i:Int)):=by omega
 have f4:¬((n:Int)+1<=(cap:Int)):=by omega
 have f6:¬(BK=i):=by omega
 have f7:¬(BK=i+1):=by omega
 have f8:¬(cap=i):=by omega
 have ez:((n:Int)+1-(i:Int))=((n+1-i:Nat):Int):=by omega
 gi_enter func210,ntmps210;gi_wp2_with (first|(gi_at_builtin;refine BL rfl (.tmp 34) (.tmp 39) _ rfl rfl rfl Fq ?_)|(refine Js rfl (.tmp 43) (.tmp 44) _ rfl rfl rfl hcp ?_));gi_region
 all_goals gi_wp2
 all_goals go_ret
 all_goals exact⟨_,_,by simp,nJ.no,Rf,.inr (Nat.le_refl _)⟩
theorem Ul (g n cap vb i:Nat) (xs ys:U_) (hR:Rw 188 2 w g n cap xs) (hV:Rw 188 2 w vb 1 1 ys) (BN:vb≠g) (hi:i<n) (hsm:n<=100000) (hgr:n+1<=cap):
  CallsIn NF m prog 210 #[.slice (some (S_ g)) n cap,.int .i64 (i:Nat),.slice (some (S_ vb)) 1 1] w fun e w'=>∃g' BK,e=.returned (.slice (some (S_ g')) (n+1) BK)/\Ab (At g) w w'/\Rw 188 2 w' g' (n+1) BK (I4 xs ys (i*2))/\(g'=g\/w.heap.size<=g'):=by
 obtain⟨cg,hcg,_⟩:=hR.blk;obtain⟨cv,hcv,_⟩:=hV.blk;have f8:¬(cap=i):=by omega
 have f9:¬(cap=i+1):=by omega
 have hov:=XL (la:=1) (ca:=1) (lb:=n-i) (cb:=cap-(i+1)) (o:=(i+1)*2) RG bb6 BN hcv hcg;obtain⟨w1,hcp,hK1,hnext⟩:=gV (ys:=ys) (i:=i) (ty:=3) (FI:=cap-(i+1)) (sCap:=cap-i) RG (hR.keep (Ab.refl No w).drew id) hi hgr;have zb:n+1-(i+1)=n-i:=by omega
 rw[zb]at hcp;obtain⟨w3,Zw,hK3,Rf⟩:=hnext w1 (S_ vb) (cap-i) 1 (Ab.refl No w1) hV.len (hV.keep ((Ab.refl (At g) w).drew.then hK1) BN).cells hV.one;gi_enter func210,ntmps210;gi_wp2;gi_region
 all_goals gi_wp2
 all_goals go_ret
 all_goals exact⟨g,cap,by simp,((Ab.refl (At g) w).drew.then hK1).then hK3,Rf,.inl rfl⟩
theorem qK (g cap Zj n:Nat) (l:List (W_)) (h:Mp 188 w g cap l) (hn:w.cell? (S_ Zj)=some (.int .i64 n)) (hl:l.length<=100000):
  CallsIn NF m prog 122 #[.slice (some (S_ g)) l.length cap,.func (.func 123) #[] #[R_ Zj]] w fun e w'=>e=.returned (.int .i64 (QC l fun r=>decide (n<=r.2)))/\Ab No w w':=by
 gi_enter func122,ntmps122;gi_wp2;gi_loopw [8] (fun i wr=>∃k:Nat,k<=l.length/\i=.int .i64 k/\Ab No w wr/\∀j r,j<k->l[j]?=some r->¬n<=r.2) (fun i _=>l.length-(intOf i).toNat)
 case atStart=>exact⟨0,by omega,rfl,Ab.refl _ _,fun j r h=>absurd h (by omega)⟩
 case round=>
  obtain⟨k,hk,rfl,KK,rr⟩:=hrel
  by_cases BC:k<l.length
  ·have hg:l[k]?=some l[k]:=HZ BC;generalize l[k]=r at hg;obtain⟨d0,d1⟩:=Mp.cells (Rw.keep h KK id) hg;have d2:=KK.has hn;have d3:(wr.alloc (.cells #[.int .i64 r.1,.int .i64 r.2] 188)).cell? (S_ Zj)=some (.int .i64 n):=((Ab.refl No wr).alloc _).has d2;by_cases hp:n<=r.2
   ·gi_wp2_with gi_in;go_ret;exact⟨by rw[PH (k:=k) (r:=r) (fun i q hi hq=>by have:=rr i q hi hq;simpa using this) hg (by simpa using hp)];simp,KK.alloc _⟩
   ·gi_wp2_with gi_in;go_roundw
    case rel=>
     refine⟨k+1,by omega,by go_num,KK.alloc _,fun j q hj hq=>?_⟩
     by_cases e:j=k
     ·subst e;rw[hg]at hq;cases hq;exact hp
     ·exact rr j q (by omega) hq
    case measure=>simp[intOf];omega
  ·obtain rfl:k=l.length:=(by omega);gi_wp2;go_ret;exact⟨by rw[PI (fun i r hi=>by have:=rr i r (KH.1 hi).1 hi;simpa using this)];simp,KK⟩
theorem qL (g cap Zj n:Nat) (l:List (W_)) (h:Mp 188 w g cap l) (hn:w.cell? (S_ Zj)=some (.int .i64 n)) (hl:l.length<=100000):
  CallsIn NF m prog 122 #[.slice (some (S_ g)) l.length cap,.func (.func 209) #[] #[R_ Zj]] w fun e w'=>e=.returned (.int .i64 (QC l fun r=>decide (n<r.1)))/\Ab No w w':=by
 gi_enter func122,ntmps122;gi_wp2;gi_loopw [8] (fun i wr=>∃k:Nat,k<=l.length/\i=.int .i64 k/\Ab No w wr/\∀j r,j<k->l[j]?=some r->¬n<r.1) (fun i _=>l.length-(intOf i).toNat)
 case atStart=>exact⟨0,by omega,rfl,Ab.refl _ _,fun j r h=>absurd h (by omega)⟩
 case round=>
  obtain⟨k,hk,rfl,KK,rr⟩:=hrel
  by_cases BC:k<l.length
  ·have hg:l[k]?=some l[k]:=HZ BC;generalize l[k]=r at hg;obtain⟨d0,d1⟩:=Mp.cells (Rw.keep h KK id) hg;have d2:=KK.has hn;have d3:(wr.alloc (.cells #[.int .i64 r.1,.int .i64 r.2] 188)).cell? (S_ Zj)=some (.int .i64 n):=((Ab.refl No wr).alloc _).has d2;by_cases hp:n<r.1
   ·gi_wp2_with gi_in;go_ret;exact⟨by rw[PH (k:=k) (r:=r) (fun i q hi hq=>by have:=rr i q hi hq;simpa using this) hg (by simpa using hp)];simp,KK.alloc _⟩
   ·gi_wp2_with gi_in;go_roundw
    case rel=>
     refine⟨k+1,by omega,by go_num,KK.alloc _,fun j q hj hq=>?_⟩
     by_cases e:j=k
     ·subst e;rw[hg]at hq;cases hq;exact hp
     ·exact rr j q (by omega) hq
    case measure=>simp[intOf];omega
  ·obtain rfl:k=l.length:=(by omega);gi_wp2;go_ret;exact⟨by rw[PI (fun i r hi=>by have:=rr i r (KH.1 hi).1 hi;simpa using this)];simp,KK⟩
theorem bb9 (f s:Nat) (hsm:f+s<=1000000):CallsIn NF m prog 237 #[.agg #[.int .i64 f,.int .i64 s]] w fun e w'=>e=.returned (.int .i64 (f+s:Nat))/\Ab No w w':=by
 gi_enter func237,ntmps237;gi_wp2;go_ret;exact⟨by simp,by repeat (first|exact Ab.refl _ _|refine Ab.drew ?_|refine Ab.alloc ?_ _)⟩
theorem dE (kb:Nat):
  CallsIn NF m prog 211 #[.pointer (some (T_ kb 1)),.int .i64 (-1)] w fun e w'=>e=.returned (.tuple #[])/\Ab No w w':=by
 gi_enter func211,ntmps211;gi_wp2;refine AA (P:=prog) No _ rfl rfl (by kernel_rfl) 31 68 [0,1,2,3,4,5,6,7,8,9,10,11,12,13,14,15,16,17,18,19,20,21,22,23,24,25,26,27,28,29,30] [] (by kernel_rfl) (by rfl) (fun _ _ _=>True) (fun _ _ _ _ _ h _=>h) _ _ rfl rfl ?_;gi_wp2;refine⟨rfl,by kernel_rfl,?_,(fun i hi=>absurd hi (by simp)),?_⟩
 ·intro W hK
  repeat' (refine Ao ?_ ?_)
  all_goals first|exact trivial|gi_wp2
 ·intro u W hK _;simp only[C9];gi_wp2;refine bodyPost_ret (results_none rfl _ _ _) rfl ?_;exact⟨by simp,(Ab.refl No w).drew.then hK⟩
theorem dH (kb g cap i:Nat) (U:TypeId) (ks:X_) (l:List (W_)) (h:Hd 188 w kb 1 U ks g cap l) (hi:l.length<=i+1) (hsm:i<=100000):
  CallsIn NF m prog 211 #[.pointer (some (T_ kb 1)),.int .i64 (i:Nat)] w fun e w'=>e=.returned (.tuple #[])/\Ab No w w':=by
 have q0:w.cell? (T_ kb 1)=some (.slice (some (S_ g)) l.length cap):=(Ag h.k _).trans h.v;have f1:¬((i:Int)<0):=by omega
 have f2:((l.length:Int)<=(i:Int)+1):=by omega
 gi_enter func211,ntmps211;gi_wp2;refine AA (P:=prog) No _ rfl rfl (by kernel_rfl) 31 68 [0,1,2,3,4,5,6,7,8,9,10,11,12,13,14,15,16,17,18,19,20,21,22,23,24,25,26,27,28,29,30] [] (by kernel_rfl) (by rfl) (fun _ _ _=>True) (fun _ _ _ _ _ h _=>h) _ _ rfl rfl ?_;gi_wp2;refine⟨rfl,by kernel_rfl,?_,(fun i hi=>absurd hi (by simp)),?_⟩
 ·intro W hK;have d0:=hK.has (w:=w.drew) q0
  repeat' (refine Ao ?_ ?_)
  all_goals first|exact trivial|gi_wp2
 ·intro u W hK _;simp only[C9];gi_wp2;refine bodyPost_ret (results_none rfl _ _ _) rfl ?_;exact⟨by simp,(Ab.refl No w).drew.then hK⟩
theorem dC (kb g cap i:Nat) (U:TypeId) (ks:X_) (l:List (W_)) (h:Hd 188 w kb 1 U ks g cap l) (a b:W_) (ha:l[i]?=some a) (hb:l[i+1]?=some b) (hsm:i<=100000) (hsa:a.1+a.2<=100000) (hsb:a.2+b.2<=100000):
  CallsIn NF m prog 211 #[.pointer (some (T_ kb 1)),.int .i64 (i:Nat)] w fun e w'=>e=.returned (.tuple #[])/\Ab (TM kb g) w w'/\w'.heap[kb]?=some (.cells (ks.setIfInBounds 1 (.slice (some (S_ g)) (Ea l i).length cap)) U (0,0))/\Mp 188 w' g cap (Ea l i):=by
 have q0:w.cell? (T_ kb 1)=some (.slice (some (S_ g)) l.length cap):=(Ag h.k _).trans h.v;have BN:=h.apart;obtain⟨c0,c1⟩:=h.mp.cells ha;obtain⟨c2,c3⟩:=h.mp.cells hb;have li:=(KH.1 hb).1;have f1:¬((i:Int)<0):=by omega
 have f2:¬((l.length:Int)<=(i:Int)+1):=by omega
 have f3:(i:Int)<(l.length:Int):=by omega
 gi_enter func211,ntmps211;gi_wp2;refine AA (P:=prog) No _ rfl rfl (by kernel_rfl) 30 68 [0,1,2,3,4,5,6,7,8,9,10,11,12,13,14,15,16,17,18,19,21,22,23,24,25,26,27,28,29] [20] (by kernel_rfl) (by rfl) (fun _ v W=>v=.int .i64 (a.1+a.2:Nat)) (fun _ _ _ _ _ h _=>h) _ _ rfl rfl ?_;gi_wp2;refine⟨rfl,?_,?_,?_,?_⟩
 ·kernel_rfl
 ·intro W hK;have d0:=hK.has (w:=w.drew) q0;have d1:=hK.has (w:=w.drew) c0;have d2:=hK.has (w:=w.drew) c1;have d3:=hK.has (w:=w.drew) c2
  repeat' (refine Ao ?_ ?_)
  all_goals first|exact trivial|gi_wp2
 ·intro i hi u W hK _;obtain rfl:i=20:=by simpa using hi
  refine Bh rfl fun KK Ko=>?_
  show wpListIn NF m prog _ _ _ (Act.put _ (some 24) (u 20)) _;gi_wp2_with (gi_at_call 237;refine(bb9 _ _ a.1 a.2 (by omega)).mono ?_;rintro e w1 ⟨rfl,hK1⟩);exact⟨_,rfl,hK1,by simp⟩
 ·intro u W hK hu;have hu:=hu 20 (by simp);show wpListIn NF m prog _ _ _ (Act.put _ (some 24) (u 20)) _;rw[hu];have Li:Ab No w W:=(Ab.refl No w).drew.then hK;have G8:=Li.old h.k id;have q1:W.cell? (T_ kb 1)=some (.slice (some (S_ g)) l.length cap):=(Ag G8 _).trans h.v;have m1:Mp 188 W g cap l:=Rw.keep h.mp Li id;obtain⟨d0,d1⟩:=m1.cells ha;obtain⟨d2,d3⟩:=m1.cells hb;have fz:=Rw.fz m1 (i*2+1);by_cases hj:a.1+a.2=b.1
  ·have hj':(a.1:Int)+(a.2:Int)=(b.1:Int):=(by omega);have m2:=m1.Kq ha (a.2+b.2);have hl2:(l.set i (a.1,a.2+b.2)).length=l.length:=List.length_set ..;have m3:Rw 188 2 (W.setCell (T_ g (i*2+1)) (.int .i64 ((a.2:Int)+b.2))).drew g l.length cap (rc (l.set i (a.1,a.2+b.2))):=by
    have yM:=Rw.keep m2 (Ab.refl No _).drew id
    rw[hl2]at yM
    push_cast at yM
    exact yM
   have dl:=fun m=>iG m _ g l.length cap (i+1) (i+2) _ m3 (by omega) (by omega)
   push_cast at dl;have hk3:((W.setCell (T_ g (i*2+1)) (.int .i64 ((a.2:Int)+b.2))).drew).heap[kb]?=some (.cells ks U (0,0)):=(Fz _ BN).trans G8;have hK3:Ab (TM kb g) w (W.setCell (T_ g (i*2+1)) (.int .i64 ((a.2:Int)+b.2))).drew:=(Li.no.setCell _ fun _=>.inr rfl).drew;gi_wp2;gi_region
   all_goals gi_wp2_with (gi_at_call 124;refine(dl _).mono ?_;rintro e w2 ⟨rfl,Fe,I7⟩;have e7:=Fe.old hk3 BN;have e8:=BF e7 1;have e9:=(Ag e7 1).trans h.v)
   all_goals go_end0
   all_goals
    have ej:=U5 ha hb hj
    have el:(Ea l i).length=i+1+(l.length-(i+2)):=by rw[ej];simp only[List.length_append,List.length_take,List.length_drop,hl2];omega
    rw[Nh,Ni,<-Qe,<-ej,<-el]at I7
    exact⟨by simp,(hK3.trans Fe (fun _ _ h=>.inr h)).setCell _ (fun _=>.inl rfl),by rw[el];exact Aj e7 _,Rw.keep I7 ((Ab.refl (At kb) _).setCell _ fun _=>rfl) BN.symm⟩
  ·have hj':((a.1:Int)+(a.2:Int) !=(b.1:Int))=true:=(by simp;omega);gi_wp2;refine bodyPost_ret (results_none rfl _ _ _) rfl ?_;rw[XV ha hb hj];exact⟨by simp,Li.no,by rw[h.self];exact G8,m1⟩
theorem xO (kb g cap n N:Nat) (U:TypeId) (ks:X_) (l:List (W_)) (h:Hd 188 w kb 1 U ks g cap l) (hF:Fit N l) (hN:N<=10000) (hn:n<=10000):
  CallsIn NF m prog 89 #[.pointer (some (T_ kb 1)),.int .i64 (n:Nat)] w fun e w'=>e=.returned (J6 (Aw l n).1)/\Ab (TM kb g) w w'/\w'.heap[kb]?=some (.cells (ks.setIfInBounds 1 (.slice (some (S_ g)) (Aw l n).2.length cap)) U (0,0))/\Mp 188 w' g cap (Aw l n).2:=by
 have BN:=h.apart;obtain⟨hF1,hF2⟩:=hF;have hnb:(w.alloc (.cells #[.int .i64 n] 3)).heap[w.heap.size]?=some (.cells #[.int .i64 n] 3):=heap_alloc_new rfl;have Li:Ab No w (w.alloc (.cells #[.int .i64 n] 3)):=(Ab.refl _ _).alloc _;have h0:=h.keep Li id id;have d3:(w.alloc (.cells #[.int .i64 n] 3)).cell? (S_ w.heap.size)=some (.int .i64 n):=bce hnb rfl;have d4:(w.alloc (.cells #[.int .i64 n] 3)).cell? (T_ kb 1)=some (.slice (some (S_ g)) l.length cap):=(Ag h0.k _).trans h.v;have ix:=fun m=>qK m (w.alloc (.cells #[.int .i64 n] 3)) g cap w.heap.size n l h0.mp d3 (by omega)
 by_cases hn0:n<1
 ·have f1:(n:Int)<1:=by omega
  have et:Aw l n=(none,l):=by unfold Aw;rw[if_pos hn0]
  rw[et];generalize QC l (fun r=>decide (n<=r.2))=j at ix;gi_enter func89,ntmps89;gi_wp2_with (gi_at_call 122;refine(ix _).mono ?_;rintro e w1 ⟨rfl,hK⟩;have e3:=hK.has d3;have e4:=hK.has d4);go_ret2;have h1:=h0.keep hK id id;exact⟨by simp[J6],(Li.then hK).no,by rw[h.self];exact h1.k,h1.mp⟩
 ·have f1:¬(n:Int)<1:=by omega
  cases hx:l.findIdx? (fun r=>decide (n<=r.2))with
  | none=>
   have ea:QC l (fun r=>decide (n<=r.2))=-1:=by unfold QC;rw[hx]
   have et:Aw l n=(none,l):=by unfold Aw;rw[if_neg hn0,hx]
   rw[et]
   simp only[ea]at ix
   gi_enter func89,ntmps89
   gi_wp2_with (gi_at_call 122;refine(ix _).mono ?_;rintro e w1 ⟨rfl,hK⟩;have e3:=hK.has d3;have e4:=hK.has d4)
   go_ret2
   have h1:=h0.keep hK id id
   exact⟨by simp[J6],(Li.then hK).no,by rw[h.self];exact h1.k,h1.mp⟩
  | some i=>
   have ea:QC l (fun r=>decide (n<=r.2))=(i:Int):=by unfold QC;rw[hx]
   simp only[ea]at ix
   obtain⟨Gl,hir,_⟩:=List.findIdx?_eq_some_iff_getElem.1 hx
   have hg:l[i]?=some l[i]:=HZ Gl
   generalize l[i]=r at hg hir
   have hle:n<=r.2:=by simpa using hir
   have hsr:=hF2 i r hg
   have f2:(i:Int)<(l.length:Int):=by omega
   have f3:¬(i:Int)<0:=by omega
   by_cases hw:r.2=n
   ·have et:Aw l n=(some r.1,l.take i++l.drop (i+1)):=(by unfold Aw;rw[if_neg hn0,hx];simp only[hg,hw,if_true]);rw[et];have f4:((r.2:Int)==(n:Int))=true:=(by simp;omega);gi_enter func89,ntmps89;gi_wp2_with (gi_at_call 122;refine(ix _).mono ?_;rintro e w1 ⟨rfl,hK⟩;have e3:=hK.has d3;have e4:=hK.has d4;have h1:=h0.keep hK id id;obtain⟨c0,c1⟩:=h1.mp.cells hg);have dl:=fun m=>iG m w1.drew g l.length cap i (i+1) _ (Rw.keep h1.mp (Ab.refl No _).drew id) (by omega) (by omega)
    push_cast at dl;have hk3:w1.drew.heap[kb]?=some (.cells ks U (0,0)):=h1.k;gi_region
    all_goals gi_wp2_with (gi_at_call 124;refine(dl _).mono ?_;rintro e w2 ⟨rfl,Fe,I7⟩;have e7:=Fe.old hk3 BN;have e8:=BF e7 1;have e9:=(Ag e7 1).trans h.v)
    all_goals go_ret2
    all_goals
     have el:(l.take i++l.drop (i+1)).length=i+(l.length-(i+1)):=by simp only[List.length_append,List.length_take,List.length_drop];omega
     rw[Nh,Ni,<-Qe,<-el]at I7
     exact⟨by simp[J6],((Li.then hK).drew.no.trans Fe (fun _ _ h=>.inr h)).setCell _ (fun _=>.inl rfl),by rw[el];exact Aj e7 _,Rw.keep I7 ((Ab.refl (At kb) _).setCell _ fun _=>rfl) BN.symm⟩
   ·have et:Aw l n=(some r.1,l.set i (r.1+n,r.2-n)):=(by unfold Aw;rw[if_neg hn0,hx];simp only[hg,hw,if_false]);rw[et];have f4:((r.2:Int)==(n:Int))=false:=(by simp;omega);gi_enter func89,ntmps89;gi_wp2_with (gi_at_call 122;refine(ix _).mono ?_;rintro e w1 ⟨rfl,hK⟩;have e3:=hK.has d3;have e4:=hK.has d4;have h1:=h0.keep hK id id;obtain⟨c0,c1⟩:=h1.mp.cells hg);have fz:=fun j=>Rw.fz h1.mp j
    have hlg:=Rw.lt h.mp;have v1:((r.1+n:Nat):Int)=(r.1:Int)+n:=(by omega);have v2:((r.2-n:Nat):Int)=(r.2:Int)-n:=(by omega);gi_region
    all_goals gi_wp2
    all_goals gi_region
    all_goals gi_wp2
    all_goals gi_region
    all_goals gi_wp2
    all_goals go_ret2
    all_goals
     have m2:=h1.mp.set0 hg (r.1+n)
     have m4:=m2.Kq (i:=i) (r:=(r.1+n,r.2)) (by rw[List.getElem?_set_self Gl]) (r.2-n)
     rw[v1,v2]at m4
     have m5:Mp 188 _ g cap _:=Rw.keep m4 (Ab.refl No _).drew.drew.drew id
     refine⟨by simp[J6],by repeat (first|exact(Li.then hK).no|refine Ab.drew ?_|refine Ab.setCell ?_ _ (fun _=>.inr rfl)),?_,by simpa using m5⟩
     rw[List.length_set,h.self]
     exact(Fz _ BN).trans ((Fz _ BN).trans h1.k)
theorem yc (kb g cap i N:Nat) (U:TypeId) (ks:X_) (l:List (W_)) (h:Hd 188 w kb 1 U ks g cap l) (hF:Fit N l) (hN:N<=10000) (hi:i<=10000):
  CallsIn NF m prog 211 #[.pointer (some (T_ kb 1)),.int .i64 (i:Nat)] w fun e w'=>e=.returned (.tuple #[])/\Ab (TM kb g) w w'/\Hd 188 w' kb 1 U (ks.setIfInBounds 1 (.slice (some (S_ g)) (Ea l i).length cap)) g cap (Ea l i):=by
 by_cases hl:i+1<l.length
 ·have ha:l[i]?=some l[i]:=HZ (by omega);have hb:l[i+1]?=some l[i+1]:=HZ hl;have s1:=hF.2 _ _ ha;have s2:=hF.2 _ _ hb;refine(dC m w kb g cap i U ks l h _ _ ha hb (by omega) (by omega) (by omega)).mono ?_;rintro e w' ⟨rfl,hK,hk,hm⟩;exact⟨rfl,hK,⟨hk,Kb h.v,hm,h.ne⟩⟩
 ·rw[Ti (by omega),h.self];refine(dH m w kb g cap i U ks l h (by omega) (by omega)).mono ?_;rintro e w' ⟨rfl,hK⟩;exact⟨rfl,hK.no,h.keep hK id id⟩
theorem qI (g n cap vb i:Nat) (xs ys:U_) (hR:Rw 188 2 w g n cap xs) (hV:Rw 188 2 w vb 1 1 ys) (BN:vb≠g) (hi:i<=n) (hsm:n<=100000):
  CallsIn NF m prog 210 #[.slice (some (S_ g)) n cap,.int .i64 (i:Nat),.slice (some (S_ vb)) 1 1] w fun e w'=>∃g' BK,e=.returned (.slice (some (S_ g')) (n+1) BK)/\Ab (At g) w w'/\Rw 188 2 w' g' (n+1) BK (I4 xs ys (i*2))/\(g'=g\/w.heap.size<=g'):=by
 by_cases he:i=n
 ·subst he;have e:I4 xs ys (i*2)=xs++ys:=by
   unfold I4
   rw[List.take_of_length_le (by rw[hR.len];exact Nat.le_refl _),List.drop_of_length_le (by rw[hR.len];exact Nat.le_refl _),List.append_nil]
  rw[e];exact YS m w g i cap vb xs ys hR hV hsm
 ·by_cases hc:n+1<=cap
  ·exact Ul m w g n cap vb i xs ys hR hV BN (by omega) hsm hc
  ·exact Wq m w g n cap vb i xs ys hR hV (by omega) hsm (by omega)
theorem ao3 (kb g cap a n N:Nat) (U:TypeId) (ks:X_) (l:List (W_)) (h:Hd 188 w kb 1 U ks g cap l) (hF:Fit N l) (hN:N<=10000) (hn:a+n<=N) (hl:l.length+1<=N):
  CallsIn NF m prog 156 #[.pointer (some (T_ kb 1)),.int .i64 (a:Nat),.int .i64 (n:Nat)] w fun e w'=>e=.returned (.tuple #[])/\Ab (TM kb g) w w'/\∃g' BK,Hd 188 w' kb 1 U (ks.setIfInBounds 1 (.slice (some (S_ g')) (Cn l a n).length BK)) g' BK (Cn l a n)/\(g'=g\/w.heap.size<=g'):=by
 have BN:=h.apart;have lg:=Rw.lt h.mp;have lk:=Co h.k;have hnb:(w.alloc (.cells #[.int .i64 a] 99)).heap[w.heap.size]?=some (.cells #[.int .i64 a] 99):=heap_alloc_new rfl;have Li:Ab No w (w.alloc (.cells #[.int .i64 a] 99)):=(Ab.refl _ _).alloc _;have h0:=h.keep Li id id;have d3:(w.alloc (.cells #[.int .i64 a] 99)).cell? (S_ w.heap.size)=some (.int .i64 a):=bce hnb rfl;have d4:(w.alloc (.cells #[.int .i64 a] 99)).cell? (T_ kb 1)=some (.slice (some (S_ g)) l.length cap):=(Ag h0.k _).trans h.v;by_cases hn0:n<1
 ·have f1:(n:Int)<1:=by omega
  have et:Cn l a n=l:=by unfold Cn;rw[if_pos hn0]
  rw[et];gi_enter func156,ntmps156;gi_wp2;refine bodyPost_ret (results_none rfl _ _ _) rfl ?_;exact⟨by simp,Li.no,g,cap,by rw[h.self];exact h0,.inl rfl⟩
 have f1:¬(n:Int)<1:=by omega
 have ix:=fun m=>qL m (w.alloc (.cells #[.int .i64 a] 99)) g cap w.heap.size a l h0.mp d3 (by omega)
 have ay8:=R5 l a;obtain⟨x,hx⟩:∃x,l.findIdx? (fun r=>decide (a<r.1))=x:=⟨_,rfl⟩;have h2:(∃hsp:Vp l a (CP l a),QC l (fun r=>decide (a<r.1))=(CP l a:Int))\/(∃hsp:Vp l a l.length,QC l (fun r=>decide (a<r.1))=-1):=by
  cases x with
  | none=>exact .inr ⟨by unfold Vp CP;rw[hx],by unfold QC;rw[hx]⟩
  | some i=>exact .inl ⟨rfl,by unfold QC CP;rw[hx]⟩
 clear hx x;rcases h2 with⟨hsp,ea⟩|⟨hsp,ea⟩
 all_goals
  simp only[ea]at ix
  gi_enter func156,ntmps156
  gi_wp2_with (gi_at_call 122;refine(ix _).mono ?_;rintro e w1 ⟨rfl,hK⟩;have e3:=hK.has d3;have e4:=hK.has d4;have h1:=h0.keep hK id id)
  have ek:=h1.k
  refine BZ (P:=prog) _ rfl rfl (by kernel_rfl) 11 42 [0,1,2,3,4,5,6,7,8] [9,10] (by kernel_rfl) (by rfl)
   (tY 188 w w1.drew kb g cap a n l) (fun L L' u u' W h hI=>by
    have h9:=h 9 (by simp)
    have h10:=h 10 (by simp)
    unfold tY at hI ⊢
    rw[<-h9.1,<-h9.2,<-h10.1,<-h10.2]
    exact hI) _ _ rfl rfl ?_
  have sz:w.heap.size≠g:=by omega
  gi_wp2
  refine⟨rfl,by kernel_rfl,?_,?_,?_,?_⟩
  ·intro u';exact⟨Ab.refl _ _,fun _=>Rw.keep h1.mp (Ab.refl No _).drew id,fun h=>absurd h (by decide),fun h=>absurd h (by decide)⟩
  ·intro L u' W hI;have hK:=hI.1;have l3:=World.block_lt_of_cell? _ _ e3;have l4:=World.block_lt_of_cell? _ _ e4;have d0:=(hK.cell (w:=w1.drew) (p:=(S_ w.heap.size)) l3 sz).trans e3;have d1:=(hK.cell (w:=w1.drew) (p:=(T_ kb 1)) l4 BN).trans e4
   repeat' (refine Ao ?_ ?_)
   all_goals first|exact trivial|gi_wp2
  ·intro i hi L u' W hI Nf hu;obtain⟨Fe,hI1,hI2,yX⟩:=hI;have l1:=Fe.size;have l2:=hK.size;have l3:(w.alloc (.cells #[.int .i64 a] 99)).heap.size=w.heap.size+1:=(by simp);have l4:w1.drew.heap.size=w1.heap.size:=rfl;rcases(by simpa using hi:i=9\/i=10)with rfl|rfl
   ·refine Bh rfl fun KK Ko=>?_
    show wpListIn NF m prog _ _ _ (Act.put (Act.put _ (some 31) (u' 9)) (some 32) (u' 10)) _;have sz2:W.heap.size≠g:=(by omega);gi_wp2;refine⟨_,rfl,Fe.alloc _,fun h=>Rw.keep (hI1 h) ((Ab.refl No W).alloc _) id,fun _=>⟨_,rfl,sz2,⟨⟨_,heap_alloc_new rfl,rfl,rfl⟩,Nat.le_refl _,by decide,rfl,fun x hx=>?_⟩⟩,fun h=>?_⟩
    ·simp only[List.mem_cons,List.not_mem_nil,or_false]at hx;rcases hx with rfl|rfl<;>rfl
    ·obtain⟨g',BK,b1,b2,b3,b4⟩:=yX h;exact⟨g',BK,b1,b2.keep ((Ab.refl No W).alloc _) id,b3,b4⟩
   ·obtain⟨vb,hv1,hv2,hv3⟩:=hI2 (hu 9 (by simp) (by decide));show wpOpIn NF m prog _ _ _ (fun a' W'=>∃v,a'=Act.put (Act.put (Act.put _ (some 31) (u' 9)) (some 32) (u' 10)) (some 32) v/\_) (Act.put (Act.put _ (some 31) (u' 9)) (some 32) (u' 10)) _;rw[hv1];refine Bh rfl fun KK Ko=>?_
    have e6:=hI1 Nf;gi_wp2_with fail;refine(qI _ W g l.length cap vb _ _ _ e6 hv3 hv2 (by omega) (by omega)).mono ?_;rintro e w3 ⟨g',BK,rfl,hK3,Rf,hg'⟩;gi_wp2;rw[XB hsp]at Rf;have hg2:(g'=g\/w.heap.size<=g')/\kb≠g':=by
     rcases hg' with rfl|hg'
     ·exact⟨.inl rfl,BN⟩
     ·exact⟨.inr (by omega),by omega⟩
    exact⟨_,rfl,Fe.then hK3,fun h=>absurd h (by simp[JE]),fun h=>⟨vb,hv1,hv2,hv3.keep hK3 hv2⟩,fun _=>⟨g',BK,rfl,Rf,hg2.1,hg2.2⟩⟩
  ·intro L u' W hI hL;obtain⟨Fe,hI1,hI2,yX⟩:=hI;obtain⟨vb,hv1,_,hv2⟩:=hI2 (hL 9 (by simp));obtain⟨g',BK,hz1,hz2,hz3,hz4⟩:=yX (hL 10 (by simp));show wpListIn NF m prog _ _ _ (Act.put (Act.put _ (some 31) (u' 9)) (some 32) (u' 10)) _;rw[hv1,hz1];have ze:=Fe.old (heap_drew.trans ek) BN;have ek3:=BF ze 1;have ek4:=(Ag ze 1).trans h.v;have ek5:=Aj (i:=1) ze (.slice (some (S_ g')) (l.length+1) BK);have hd:Hd 188 (W.setCell (T_ kb 1) (.slice (some (S_ g')) (l.length+1) BK)) kb 1 U (ks.setIfInBounds 1 (.slice (some (S_ g')) (l.length+1) BK)) g' BK (KI l a n):=⟨ek5,by rw[MH];exact Kb h.v,by unfold Mp;rw[MH];exact hz2.keep ((Ab.refl (At kb) W).setCell _ fun _=>rfl) hz4.symm,h.ne⟩;have Jv:Ab (TM kb g) w (W.setCell (T_ kb 1) (.slice (some (S_ g')) (l.length+1) BK)):=((Li.then hK).no.drew.trans Fe (fun _ _ h=>.inr h)).setCell _ (fun _=>.inl rfl);have Dp:=XG hF hn hl;gi_wp2_with fail;refine(yc _ _ kb g' BK _ N U _ _ hd Dp hN (by omega)).mono ?_;rintro e w4 ⟨rfl,hK4,hd4⟩;have hb4:Ab (TM kb g) w w4:=Jv.trans hK4 (fun k hk hh=>by
    rcases hh with hh|hh
    ·exact .inl hh
    ·rcases hz3 with hz3|hz3
     ·exact .inr (Eq.trans hh hz3)
     ·exfalso;have:k=g':=hh;omega)
   rw[Nt]at hd4;have zK:=hsp;unfold Vp at zK;by_cases hx0:CP l a=0
   ·have et:Cn l a n=Ea (KI l a n) (CP l a):=(by unfold Cn;rw[if_neg hn0,if_pos hx0,hx0]);gi_wp2_with fail
    first|rw[show((CP l a:Nat):Int)-1=-1 by omega]|rw[show((l.length:Nat):Int)-1=-1 by omega]|skip
    refine(dE _ _ kb).mono ?_;rintro e w5 ⟨rfl,sG⟩;gi_wp2;go_end0;rw[et];refine⟨by simp,hb4.then sG.no,g',BK,?_,hz3⟩;have hd5:=hd4.keep sG id id
    first|exact hd5|(rw[show CP l a=l.length from hsp];exact hd5)
   ·have et:Cn l a n=Ea (Ea (KI l a n) (CP l a)) (CP l a-1):=(by unfold Cn;rw[if_neg hn0,if_neg hx0]);gi_wp2_with fail
    first|rw[show((CP l a:Nat):Int)-1=((CP l a-1:Nat):Int) by omega]|rw[show((l.length:Nat):Int)-1=((l.length-1:Nat):Int) by omega]
    refine(yc _ _ kb g' BK _ N U _ _ hd4 (U6 Dp) hN (by omega)).mono ?_;rintro e w5 ⟨rfl,sG,hd5⟩;rw[Nt]at hd5;gi_wp2;go_end0;rw[et];refine⟨by simp,hb4.trans sG (fun k hk hh=>?_),g',BK,?_,hz3⟩
    ·rcases hh with hh|hh
     ·exact .inl hh
     ·rcases hz3 with hz3|hz3
      ·exact .inr (Eq.trans hh hz3)
      ·exfalso;have:k=g':=hh;omega
    ·first|exact hd5|(rw[show CP l a=l.length from hsp];exact hd5)
end
@[simp] theorem lf15:(15:FuncId)∈LF:=by decide
@[simp] theorem lf16:(16:FuncId)∈LF:=by decide
@[simp] theorem lf21:(21:FuncId)∈LF:=by decide
@[simp] theorem bh9:(146:FuncId)∈LF:=by decide
@[simp] theorem bh8:(147:FuncId)∈LF:=by decide
@[simp] theorem bh7:(154:FuncId)∈LF:=by decide
@[simp] theorem bh6:(155:FuncId)∈LF:=by decide
@[simp] theorem bh4:(197:FuncId)∈LF:=by decide
@[simp] theorem bh2:(265:FuncId)∈LF:=by decide
@[simp] theorem bh0:(266:FuncId)∈LF:=by decide
@[simp] theorem bg9:(267:FuncId)∈LF:=by decide
@[simp] theorem bg8:(268:FuncId)∈LF:=by decide
@[simp] theorem bg7:(269:FuncId)∈LF:=by decide
@[simp] theorem bg6:(270:FuncId)∈LF:=by decide
@[simp] theorem bg5:(271:FuncId)∈LF:=by decide
@[simp] theorem bg4:(272:FuncId)∈LF:=by decide
@[simp] theorem bg3:(273:FuncId)∈LF:=by decide
@[simp] theorem bg2:(274:FuncId)∈LF:=by decide
@[simp] theorem bg1:(275:FuncId)∈LF:=by decide
@[simp] theorem bg0:(276:FuncId)∈LF:=by decide
@[simp] theorem bf9:(277:FuncId)∈LF:=by decide
@[simp] theorem bf8:(278:FuncId)∈LF:=by decide
@[simp] theorem bf7:(279:FuncId)∈LF:=by decide
@[simp] theorem bf6:(280:FuncId)∈LF:=by decide
@[simp] theorem bf5:(281:FuncId)∈LF:=by decide
end Go.Fxa
