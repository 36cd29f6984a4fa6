/- A new kernel is made. -/
import Derived.Test.YtmhplpfpcnjekaaGreatA27
namespace Go.Fxa
open Conc Proofs RowKit Proofs.Tryz
set_option maxRecDepth 1000000
set_option maxHeartbeats 0
def valOf:Result Value->Value
 | .ok x _=>x
 | _=>undef
def OX (cb sb:Nat):X_:=#[.slice (some (S_ cb)) 1 1,.slice (some (S_ sb)) 1 1,.slice none 0 0,.int .i64 0,.pointer none,.pointer none,.pointer none,.pointer none,.pointer none,.pointer none,.pointer none,.pointer none,.pointer none,.pointer none,.pointer none,.pointer none,.pointer none,.pointer none,.pointer none,.pointer none,.slice none 0 0,.nilIface,.int .i64 0,.nilIface,.int .i64 0,.nilIface,.int .i64 0,.nilIface,.int .i64 0,.nilIface,.int .i64 0,.nilIface,.int .i64 0,.nilIface,.int .i64 0,.nilIface,.int .i64 0,.nilIface,.int .i64 0,.nilIface,.int .i64 0,.nilIface,.int .i64 0,.nilIface,.int .i64 0,.nilIface,.int .i64 0,.nilIface,.int .i64 0,.nilIface,.int .i64 0,.nilIface,.int .i64 0,.nilIface,.int .i64 0,.nilIface,.int .i64 0,.nilIface,.int .i64 0,.nilIface,.int .i64 0]
section
variable (m:Nat) (w:World)
theorem yI {a:Option Addr} {n c:Nat}:(Instr.build 125 #[(3,.slice a n c)]).run prog w=.ok (.agg #[.int .u16 0,.int .u16 0,.int .u16 0,.slice a n c]) w:=by kernel_rfl
theorem eU {ib fb L:Nat}:∃x,(Instr.build 128 #[(5,.agg #[.int .u16 0,.int .u16 0,.int .u16 0,.slice (some (S_ ib)) L L]),(6,.slice (some (S_ fb)) 6 6)]).run prog w=.ok x w/\x.cells=WW ib L fb:=
 ⟨valOf ((Instr.build 128 #[(5,.agg #[.int .u16 0,.int .u16 0,.int .u16 0,.slice (some (S_ ib)) L L]),(6,.slice (some (S_ fb)) 6 6)]).run prog w),by kernel_rfl,by kernel_rfl⟩
end
def be9 (base C:Nat) (_i:Nat) (v:Value) (W:World):Prop:=∃cb,base<=cb/\v=.agg #[.slice (some (S_ cb)) 1 1]/\W.heap[cb]?=some (.cells #[.int .i64 0,.int .i64 C] 186 (0,0))
def mY (base n N8:Nat) (Ah:Nat->Nat):Nat->Value->World->Prop
 | 3,v,W=>∃ab,v=.slice (some (S_ ab)) n n/\Eo 123 .u16 W ab n (fun j=>Ah j)
 | 7,v,_=>v=.int .i64 (Ap n)
 | 8,v,W=>∃ib,base<=ib/\v=.slice (some (S_ ib)) N8 N8/\Eo 123 .u16 W ib N8 (fun j=>padded n Ah j)
 | 9,v,W=>∃ib,base<=ib/\v=.agg #[.int .u16 0,.int .u16 0,.int .u16 0,.slice (some (S_ ib)) N8 N8]/\Eo 123 .u16 W ib N8 (fun j=>padded n Ah j)
 | 10,v,W=>∃vb,v=.slice (some (S_ vb)) 1 1/\W.heap[vb]?=some (.cells #[.int .i64 (-1)] 3 (0,0))
 | 11,v,W=>∃fb,base<=fb/\v=.slice (some (S_ fb)) 6 6/\Eo 3 .i64 W fb 6 (fun _=>-1)
 | 12,v,W=>∃ib fb,base<=ib/\base<=fb/\v=.agg (WW ib N8 fb)/\Eo 123 .u16 W ib N8 (fun j=>padded n Ah j)/\Eo 3 .i64 W fb 6 (fun _=>-1)
 | 13,v,W=>∃pb ib fb,base<=pb/\base<=ib/\base<=fb/\v=R_ pb/\W.heap[pb]?=some (.cells (WW ib N8 fb) 128 (0,0))/\Eo 123 .u16 W ib N8 (fun j=>padded n Ah j)/\Eo 3 .i64 W fb 6 (fun _=>-1)
 | _,_,_=>True
theorem mY.keep {base n N8:Nat} {Ah:Nat->Nat} (i:Nat) (hi:i∈[3,7,8,9,10,11,12,13]) (v:Value) (W W':World) (h:mY base n N8 Ah i v W) (hK:Ab No W W'):mY base n N8 Ah i v W':=by
 rcases(by simpa using hi:i=3\/i=7\/i=8\/i=9\/i=10\/i=11\/i=12\/i=13)with rfl|rfl|rfl|rfl|rfl|rfl|rfl|rfl
 ·obtain⟨ab,h1,h2⟩:=h;exact⟨ab,h1,h2.keep hK id⟩
 ·exact h
 ·obtain⟨ab,h1,h2,h3⟩:=h;exact⟨ab,h1,h2,h3.keep hK id⟩
 ·obtain⟨ab,h1,h2,h3⟩:=h;exact⟨ab,h1,h2,h3.keep hK id⟩
 ·obtain⟨ab,h1,h2⟩:=h;exact⟨ab,h1,hK.old h2 id⟩
 ·obtain⟨ab,h1,h2,h3⟩:=h;exact⟨ab,h1,h2,h3.keep hK id⟩
 ·obtain⟨a,b,h1,h2,h3,h4,h5⟩:=h;exact⟨a,b,h1,h2,h3,h4.keep hK id,h5.keep hK id⟩
 ·obtain⟨p,a,b,h0,h1,h2,h3,h4,h5,h6⟩:=h;exact⟨p,a,b,h0,h1,h2,h3,hK.old h4 id,h5.keep hK id,h6.keep hK id⟩
def yF (kb base k:Nat) (lJ:X_) (w wr:World):Prop:=∃T nm ks,GU kb base k lJ ks T nm wr/\Ab (At kb) w wr
def be8 (base n:Nat) (Ah:Nat->Nat) (_i:Nat) (v:Value) (W:World):Prop:=∃g,base<=g/\v=.slice (some (S_ g)) n n/\Eo 123 .u16 W g n (fun j=>Ah j)
theorem vF {cb sb:Nat} (i:Nat) (hi:i<20):(OX cb sb)[21+i*2]?=some .nilIface/\(OX cb sb)[21+i*2+1]?=some (.int .i64 0):=by
 have:i=0\/i=1\/i=2\/i=3\/i=4\/i=5\/i=6\/i=7\/i=8\/i=9\/i=10\/i=11\/i=12\/i=13\/i=14\/i=15\/i=16\/i=17\/i=18\/i=19:=by omega
 rcases this with rfl|rfl|rfl|rfl|rfl|rfl|rfl|rfl|rfl|rfl|rfl|rfl|rfl|rfl|rfl|rfl|rfl|rfl|rfl|rfl<;>exact⟨rfl,rfl⟩
def wY (core swap:Int) (n nf:Nat) (f:Nat->Int) (w:World) (e:Ending) (w':World):Prop:=
 Ab No w w'/\((e=.returned (.tuple #[.pointer none,.int .i64 1])/\(nf=0->¬UF core swap n f))\/∃K b ib fb C M,e=.returned (.tuple #[ptr K.kb,.int .i64 0])/\AQ K w'/\DZ C M K/\K.AJ=[b]/\K.ps b=some (Er ib fb (WL n (8*Ap n) fun i=>(f i).toNat))/\∀k,K.T k≠(0,0)->w.heap.size<=k)
section
variable (m:Nat) (w:World)
theorem Xp (v:Value) (n:Nat) (f:Nat->Int) (h:sN w v n f) (hW:Words n f) (hn:n<=128):CallsIn NF m prog 45 #[v] w fun e w'=>Ab No w w'/\e=.returned (.slice (some (S_ w.heap.size)) n n)/\Eo 123 .u16 w' w.heap.size n (fun i=>((f i).toNat:Nat)):=by
 obtain⟨_,s,c,rfl,hs⟩:=h;by_cases h0:n=0
 ·subst h0;refine(Ym m w s c).mono ?_;rintro e w' ⟨h1,h2,h3⟩;exact⟨h1,h2,h3.ext fun i hi=>absurd hi (by omega)⟩
 ·obtain⟨b,o,rfl,hc⟩:=hs (by omega);refine TZ m w b o n c (fun i=>(f i).toNat) (fun i hi=>?_) (fun i hi=>?_) (by omega) hn
  ·rw[hc i hi];have:=hW i hi;rw[show((f i).toNat:Int)=f i by omega]
  ·have:=hW i hi;omega
theorem xY (core swap:Int) (v fv:Value) (n nf:Nat) (f:Nat->Int) (ff:Nat->Value×Nat×(Nat->Int)) (h:Zp w v n f) (hF:Qc w fv nf ff):CallsIn NF m prog 14 #[.agg #[.int .i64 core,.int .i64 swap,v,fv]] w (wY core swap n nf f w):=by
 obtain⟨⟨s,c,rfl⟩,hS⟩:=id h;obtain⟨fa,fc,rfl,hFs⟩:=id hF;have K1:Ab No w (w.alloc (.cells #[.int .i64 core,.int .i64 swap,.slice s n c,.slice fa nf fc] 25)):=(Ab.refl _ _).alloc _;have Jv:(w.alloc (.cells #[.int .i64 core,.int .i64 swap,.slice s n c,.slice fa nf fc] 25)).heap[w.heap.size]?=some (.cells #[.int .i64 core,.int .i64 swap,.slice s n c,.slice fa nf fc] 25 (0,0)):=heap_alloc_new rfl;gi_enter func14,ntmps14;gi_wp2_with fail;refine(vo _ (w.alloc (.cells #[.int .i64 core,.int .i64 swap,.slice s n c,.slice fa nf fc] 25)) core swap _ _ n nf f ff (h.kp K1) (hF.kp K1)).mono ?_;rintro e w1 ⟨K2,r,rfl,Gy,hr2⟩;have b2:=K2.old Jv id;have Kw1:Ab No w w1:=K1.then K2;clear Jv h hF K1 K2;cases r
 case false=>
  have hno:nf=0->¬UF core swap n f:=fun h1 h2=>by have:=hr2 h1 h2;cases this
  clear Gy hr2
  gi_wp2
  go_ret2
  exact⟨Kw1,.inl ⟨by simp,hno⟩⟩
 obtain⟨hm,hnf,hgood⟩:=Gy rfl;clear Gy hr2;obtain⟨⟨m1,m2,m3,m4⟩,⟨m5,m6,m7⟩,m8⟩:=id hm;obtain⟨C,rfl⟩:∃C:Nat,core=C:=⟨core.toNat,by omega⟩;obtain⟨M,rfl⟩:∃M:Nat,swap=M:=⟨swap.toNat,by omega⟩;have hSl:=hS m6;clear hS;generalize h8:8*Ap n=N8;have c0:w1.cell? (S_ w.heap.size)=some (.int .i64 C):=bce b2 rfl;have c1:w1.cell? (T_ w.heap.size 1)=some (.int .i64 M):=bce b2 rfl;gi_wp2;refine AA (P:=prog) No _ rfl rfl (by kernel_rfl) 5 50 [0,1,3,4] [2] (by kernel_rfl) (by rfl) (be9 w.heap.size C)
  (fun _ _ _ _ _ h hK=>let ⟨cb,q1,q2,q3⟩:=h;⟨cb,q1,q2,hK.old q3 id⟩) _ _ rfl rfl ?_;gi_wp2;refine⟨rfl,by kernel_rfl,?_,?_,?_⟩
 ·intro W hK;have d0:=hK.has (w:=w1.drew) c0;have d1:=hK.has (w:=w1.drew) c1
  repeat' (refine Ao ?_ ?_)
  all_goals first|exact trivial|gi_wp2
 ·intro i hi u W hK hu;obtain rfl:i=2:=by simpa using hi
  refine Bh rfl fun KK Ko=>?_
  show wpListIn NF m prog _ _ _ (Act.put _ (some 12) (u 2)) _;gi_wp2_with fail;refine(dh _ W C (by omega)).mono ?_;rintro e w2 ⟨k2,cb,q1,rfl,q3⟩;gi_wp2;exact⟨_,rfl,k2,cb,Nat.le_trans (Nat.le_trans Kw1.size hK.size) q1,rfl,q3⟩
 intro u W hK hu;obtain⟨cb,q1,q2,q3⟩:=hu 2 (by simp);show wpListIn NF m prog _ _ _ (Act.put _ (some 12) (u 2)) _;rw[q2];have KW:Ab No w W:=Kw1.drew.then hK;have b3:=hK.old (heap_drew.trans b2) id;clear hK hu q2 c0 c1;gi_wp2_with fail;refine(cO _ W M (by omega)).mono ?_;rintro e w2 ⟨k2,sb,q4,rfl,q5⟩;have Zq:=KW.then k2;have q3:=k2.old q3 id;have b4:=k2.old b3 id;have q4:w.heap.size<=sb:=Nat.le_trans KW.size q4;have hal:w2.alloc (.cells #[.slice (some (S_ cb)) 1 1,.slice (some (S_ sb)) 1 1,.slice none 0 0,.int .i64 0,.pointer none,.pointer none,.pointer none,.pointer none,.pointer none,.pointer none,.pointer none,.pointer none,.pointer none,.pointer none,.pointer none,.pointer none,.pointer none,.pointer none,.pointer none,.pointer none,.slice none 0 0,.nilIface,.int .i64 0,.nilIface,.int .i64 0,.nilIface,.int .i64 0,.nilIface,.int .i64 0,.nilIface,.int .i64 0,.nilIface,.int .i64 0,.nilIface,.int .i64 0,.nilIface,.int .i64 0,.nilIface,.int .i64 0,.nilIface,.int .i64 0,.nilIface,.int .i64 0,.nilIface,.int .i64 0,.nilIface,.int .i64 0,.nilIface,.int .i64 0,.nilIface,.int .i64 0,.nilIface,.int .i64 0,.nilIface,.int .i64 0,.nilIface,.int .i64 0,.nilIface,.int .i64 0,.nilIface,.int .i64 0] 114)=w2.alloc (.cells (OX cb sb) 114):=rfl;clear b3 k2 KW;gi_upto_region 4 with fail;generalize Value.agg #[.slice (some (S_ cb)) 1 1,.slice (some (S_ sb)) 1 1,.slice none 0 0,.int .i64 0,.pointer none,.pointer none,.pointer none,.pointer none,.pointer none,.pointer none,.pointer none,.pointer none,.pointer none,.pointer none,.pointer none,.pointer none,.pointer none,.pointer none,.pointer none,.pointer none,.slice none 0 0,.nilIface,.int .i64 0,.nilIface,.int .i64 0,.nilIface,.int .i64 0,.nilIface,.int .i64 0,.nilIface,.int .i64 0,.nilIface,.int .i64 0,.nilIface,.int .i64 0,.nilIface,.int .i64 0,.nilIface,.int .i64 0,.nilIface,.int .i64 0,.nilIface,.int .i64 0,.nilIface,.int .i64 0,.nilIface,.int .i64 0,.nilIface,.int .i64 0,.nilIface,.int .i64 0,.nilIface,.int .i64 0,.nilIface,.int .i64 0,.nilIface,.int .i64 0,.nilIface,.int .i64 0,.nilIface,.int .i64 0]=big;have K3:Ab No w2 (w2.alloc (.cells (OX cb sb) 114)):=(Ab.refl _ _).alloc _;have hk3:(w2.alloc (.cells (OX cb sb) 114)).heap[w2.heap.size]?=some (.cells (OX cb sb) 114 (0,0)):=heap_alloc_new rfl;have KW3:=Zq.then K3;have b5:=K3.old b4 id;have q3:=K3.old q3 id;have q5:=K3.old q5 id;have hkb:w.heap.size<=w2.heap.size:=Zq.size;clear hal b4 K3 Zq;generalize w2.alloc (.cells (OX cb sb) 114)=w3 at*;generalize w2.heap.size=kb at*;have c3:w3.cell? (T_ w.heap.size 3)=some (.slice fa nf fc):=bce b5 rfl;have lk:kb<w3.heap.size:=Co hk3;have lc:cb<w3.heap.size:=Co q3;have lS:sb<w3.heap.size:=Co q5;have hF0:yF kb w3.heap.size 0 (OX cb sb) w3 w3:=⟨_,_,_,GU.start hk3 (fun i hi=>by
  have:i=0\/i=1\/i=2\/i=3\/i=4\/i=5\/i=6\/i=7\/i=8\/i=9\/i=10\/i=11\/i=12\/i=13\/i=14\/i=15:=by omega
  rcases this with rfl|rfl|rfl|rfl|rfl|rfl|rfl|rfl|rfl|rfl|rfl|rfl|rfl|rfl|rfl|rfl<;>rfl),Ab.refl _ _⟩;gi_wp2;gi_loopw [21] (fun i wr=>∃k:Nat,k<=nf/\i=.int .i64 k/\yF kb w3.heap.size k (OX cb sb) w3 wr) (fun i _=>nf-(intOf i).toNat)
 case atStart=>exact⟨0,by omega,rfl,hF0⟩
 case round=>
  obtain⟨k,hk,rfl,T,nm,ks,lD,KF⟩:=hrel
  have Kwr:Ab No w wr:=KW3.trans KF (fun x hx e=>absurd hx (by have e:x=kb:=e;omega))
  have BA:w3.heap.size<=wr.heap.size:=KF.size
  by_cases BC:k<nf
  ·obtain⟨fb',fo,rfl,hcf⟩:=hFs (by omega);obtain⟨d0,⟨s',c',hv⟩,hI⟩:=hcf k BC;obtain⟨g64,gW⟩:=hgood k BC;generalize hq:ff k=q at*;obtain⟨v',n',f'⟩:=q;simp only at d0 hv hI g64 gW;subst hv;have d1:=Kwr.has d0;have hS':=(hI (by omega)).keep Kwr;clear hF0 hcf hFs d0 hI;gi_wp2;refine AA (P:=prog) No _ rfl rfl (by kernel_rfl) 6 50 [0,1,2,3,4] [5] (by kernel_rfl) (by rfl) (be8 wr.heap.size n' fun i=>(f' i).toNat) (fun _ _ _ _ _ h hK=>let ⟨g,q1,q2,q3⟩:=h;⟨g,q1,q2,q3.keep hK id⟩) _ _ rfl rfl ?_;gi_wp2;refine⟨rfl,by kernel_rfl,?_,?_,?_⟩
   ·intro W hK
    repeat' (refine Ao ?_ ?_)
    all_goals first|exact trivial|gi_wp2
   ·intro i hi u W hK hu;obtain rfl:i=5:=(by simpa using hi);refine Bh rfl fun KK Ko=>?_
    show wpListIn NF m prog _ _ _ (Act.put _ (some 31) (u 5)) _;gi_wp2_with fail;refine(Xp _ W _ n' f' (hS'.keep ((Ab.refl No wr).drew.then hK)) gW (by omega)).mono ?_;rintro e w4 ⟨k4,rfl,r4⟩;gi_wp2;exact⟨_,rfl,k4,_,hK.size,rfl,r4⟩
   intro u W hK hu;obtain⟨g,g1,g2,g3⟩:=hu 5 (by simp);show wpListIn NF m prog _ _ _ (Act.put _ (some 31) (u 5)) _;rw[g2];have KW:Ab No wr W:=(Ab.refl No wr).drew.then hK;have sH:=lD.kp KW;have hnk:ks[4+k]?=some (.pointer none):=(by rw[lD.nmv k (by omega),lD.out k (by omega)];rfl);clear hK hu g2 hS' d1;gi_wp2_with fail;refine(an6 _ W kb k ks (some (S_ g)) n' n' sH.kh (by omega) hnk).mono ?_;rintro e w4 ⟨rfl,K4,hk4,hf4⟩;have hgT:T g=(0,0):=by
    cases Decidable.em (T g=(0,0))with
    | inl e=>exact e
    | inr e=>have:=(lD.tg _ e).2.1;omega
   have hF4:=sH.make (by omega) lk (by have:=KW.size;omega) (by omega) hgT g3 g64 (fun i hi=>by have:=gW i hi;omega) K4 hk4 hf4;gi_wp2;go_roundw
   case rel=>exact⟨k+1,by omega,by go_num,_,_,_,hF4,(KF.trans KW (fun _ _ e=>e.elim)).trans K4 (fun _ _ e=>e)⟩
   case measure=>simp[intOf];omega
  obtain rfl:k=nf:=by omega
  have b6:=KF.old b5 (fun e=>by have e:w.heap.size=kb:=e;exact BG b5 hk3 (by decide) e);have c2:wr.cell? (T_ w.heap.size 2)=some (.slice s n c):=bce b6 rfl;have q3:=KF.old q3 (fun e=>BG q3 hk3 (by decide) e);have q5:=KF.old q5 (fun e=>BG q5 hk3 (by decide) e);clear hF0 hFs b5 c3 hgood;gi_wp2;refine AA (P:=prog) No _ rfl rfl (by kernel_rfl) 14 50 [0,1,2,4,5,6] [3,7,8,9,10,11,12,13] (by kernel_rfl) (by rfl) (mY wr.heap.size n N8 (fun i=>(f i).toNat)) mY.keep _ _ rfl rfl ?_;gi_wp2;refine⟨rfl,by kernel_rfl,?_,?_,?_⟩
  ·intro W hK;have d2:=hK.has (w:=wr.drew) c2
   repeat' (refine Ao ?_ ?_)
   all_goals first|exact trivial|gi_wp2
  ·intro i hi u W hK hu;have KW:Ab No wr W:=(Ab.refl No wr).drew.then hK;rcases(by simpa using hi:i=3\/i=7\/i=8\/i=9\/i=10\/i=11\/i=12\/i=13)with rfl|rfl|rfl|rfl|rfl|rfl|rfl|rfl
   ·refine Bh rfl fun KK Ko=>?_
    show wpListIn NF m prog _ _ _ (Act.put (Act.put (Act.put (Act.put (Act.put (Act.put (Act.put (Act.put _ (some 37) (u 3)) (some 41) (u 7)) (some 42) (u 8)) (some 43) (u 9)) (some 44) (u 10)) (some 45) (u 11)) (some 46) (u 12)) (some 47) (u 13)) _;gi_wp2_with fail;refine(Xp _ W _ n f (hSl.keep (Kwr.then KW)) m7 (by omega)).mono ?_;rintro e w4 ⟨k4,rfl,r4⟩;gi_wp2;exact⟨.slice (some (S_ W.heap.size)) n n,by kernel_rfl,k4,_,rfl,r4⟩
   ·refine Bh rfl fun KK Ko=>?_
    show wpListIn NF m prog _ _ _ (Act.put (Act.put (Act.put (Act.put (Act.put (Act.put (Act.put (Act.put _ (some 37) (u 3)) (some 41) (u 7)) (some 42) (u 8)) (some 43) (u 9)) (some 44) (u 10)) (some 45) (u 11)) (some 46) (u 12)) (some 47) (u 13)) _;gi_wp2_with fail;refine(EH _ W n (by omega)).mono ?_;rintro e w4 ⟨rfl,hw4⟩;have hw4:=hw4.symm;subst hw4;gi_wp2;exact⟨.int .i64 (Ap n),by kernel_rfl,Ab.refl _ _,rfl⟩
   ·obtain⟨ab,e3,r3⟩:=hu 3 (by simp) (by decide);have e7:=hu 7 (by simp) (by decide);have e7:u 7=.int .i64 (Ap n):=e7;refine Bh rfl fun KK Ko=>?_
    show wpListIn NF m prog _ _ _ (Act.put (Act.put (Act.put (Act.put (Act.put (Act.put (Act.put (Act.put _ (some 37) (u 3)) (some 41) (u 7)) (some 42) (u 8)) (some 43) (u 9)) (some 44) (u 10)) (some 45) (u 11)) (some 46) (u 12)) (some 47) (u 13)) _;rw[e3,e7];gi_wp2_with fail;refine(Un _ W ab n (Ap n) N8 (fun i=>(f i).toNat) r3 h8 (by unfold Ap at h8;omega) (by unfold Ap at h8;omega)).mono ?_;rintro e w4 ⟨k4,rfl,r4⟩;gi_wp2;exact⟨.slice (some (S_ W.heap.size)) N8 N8,by rw[<-e3,<-e7];kernel_rfl,k4,_,KW.size,rfl,r4⟩
   ·obtain⟨ib,g1,e8,r8⟩:=hu 8 (by simp) (by decide);refine Bh rfl fun KK Ko=>?_
    show wpListIn NF m prog _ _ _ (Act.put (Act.put (Act.put (Act.put (Act.put (Act.put (Act.put (Act.put _ (some 37) (u 3)) (some 41) (u 7)) (some 42) (u 8)) (some 43) (u 9)) (some 44) (u 10)) (some 45) (u 11)) (some 46) (u 12)) (some 47) (u 13)) _;rw[e8];gi_wp2;exact⟨.agg #[.int .u16 0,.int .u16 0,.int .u16 0,.slice (some (S_ ib)) N8 N8],by rw[<-e8];kernel_rfl,Ab.refl _ _,ib,g1,rfl,r8⟩
   ·refine Bh rfl fun KK Ko=>?_
    show wpListIn NF m prog _ _ _ (Act.put (Act.put (Act.put (Act.put (Act.put (Act.put (Act.put (Act.put _ (some 37) (u 3)) (some 41) (u 7)) (some 42) (u 8)) (some 43) (u 9)) (some 44) (u 10)) (some 45) (u 11)) (some 46) (u 12)) (some 47) (u 13)) _;gi_wp2;exact⟨.slice (some (S_ W.heap.size)) 1 1,by kernel_rfl,(Ab.refl _ _).alloc _,_,rfl,heap_alloc_new rfl⟩
   ·obtain⟨vb,e10,r10⟩:=hu 10 (by simp) (by decide);refine Bh rfl fun KK Ko=>?_
    show wpListIn NF m prog _ _ _ (Act.put (Act.put (Act.put (Act.put (Act.put (Act.put (Act.put (Act.put _ (some 37) (u 3)) (some 41) (u 7)) (some 42) (u 8)) (some 43) (u 9)) (some 44) (u 10)) (some 45) (u 11)) (some 46) (u 12)) (some 47) (u 13)) _;rw[e10];gi_wp2_with fail;refine(Wi _ W vb r10).mono ?_;rintro e w4 ⟨k4,rfl,r4⟩;gi_wp2;exact⟨.slice (some (S_ W.heap.size)) 6 6,by rw[<-e10];kernel_rfl,k4,_,KW.size,rfl,r4⟩
   ·obtain⟨ib,g1,e9,r9⟩:=hu 9 (by simp) (by decide);obtain⟨fb,g2,e11,r11⟩:=hu 11 (by simp) (by decide);obtain⟨x,hbx,hxc⟩:=eU W (ib:=ib) (fb:=fb) (L:=N8);refine Bh rfl fun KK Ko=>?_
    show wpListIn NF m prog _ _ _ (Act.put (Act.put (Act.put (Act.put (Act.put (Act.put (Act.put (Act.put _ (some 37) (u 3)) (some 41) (u 7)) (some 42) (u 8)) (some 43) (u 9)) (some 44) (u 10)) (some 45) (u 11)) (some 46) (u 12)) (some 47) (u 13)) _;rw[e9,e11];gi_wp2;exact⟨.agg #[.int .i64 0,.int .i64 0,.bool false,.int .u16 0,.nilFunc,.int .u16 0,.int .u16 0,.int .u16 0,.slice (some (S_ ib)) N8 N8,.slice (some (S_ fb)) 6 6,.int .i64 0,.int .i64 0],by rw[<-e9,<-e11];kernel_rfl,Ab.refl _ _,ib,fb,g1,g2,rfl,r9,r11⟩
   ·obtain⟨ib,fb,g1,g2,e12,r1,r2⟩:=hu 12 (by simp) (by decide);refine Bh rfl fun KK Ko=>?_
    show wpListIn NF m prog _ _ _ (Act.put (Act.put (Act.put (Act.put (Act.put (Act.put (Act.put (Act.put _ (some 37) (u 3)) (some 41) (u 7)) (some 42) (u 8)) (some 43) (u 9)) (some 44) (u 10)) (some 45) (u 11)) (some 46) (u 12)) (some 47) (u 13)) _;have e12:u 12=.agg #[.int .i64 0,.int .i64 0,.bool false,.int .u16 0,.nilFunc,.int .u16 0,.int .u16 0,.int .u16 0,.slice (some (S_ ib)) N8 N8,.slice (some (S_ fb)) 6 6,.int .i64 0,.int .i64 0]:=e12;rw[e12];gi_wp2;exact⟨R_ W.heap.size,by rw[<-e12];kernel_rfl,(Ab.refl _ _).alloc _,W.heap.size,ib,fb,KW.size,g1,g2,rfl,heap_alloc_new rfl,r1.keep ((Ab.refl No _).alloc _) id,r2.keep ((Ab.refl No _).alloc _) id⟩
  intro u W hK hu;obtain⟨pb,ib,fb,g0,g1,g2,e13,p13,r1,r2⟩:=hu 13 (by simp);show wpListIn NF m prog _ _ _ (Act.put (Act.put (Act.put (Act.put (Act.put (Act.put (Act.put (Act.put _ (some 37) (u 3)) (some 41) (u 7)) (some 42) (u 8)) (some 43) (u 9)) (some 44) (u 10)) (some 45) (u 11)) (some 46) (u 12)) (some 47) (u 13)) _;rw[e13];have KW:Ab No wr W:=(Ab.refl No wr).drew.then hK;have hkW:=hK.old (heap_drew.trans lD.kh) id;have q3:=hK.old (heap_drew.trans q3) id;have q5:=hK.old (heap_drew.trans q5) id;have hnb:Ap N8<=M:=by unfold Ap at h8 m8 ⊢;omega
  have hL1:1<=N8:=by unfold Ap at h8;omega
  have hL2:N8<=128:=by unfold Ap at h8;omega
  have hms:Mp 188 W sb 1 [(0,M)]:=⟨⟨_,q5,rfl,rfl⟩,by simp,by unfold maxLen;simp,rfl,by simp[rc,Value.oneCell']⟩;have hmc:Mp 186 W cb 1 [(0,C)]:=⟨⟨_,q3,rfl,rfl⟩,by simp,by unfold maxLen;simp,rfl,by simp[rc,Value.oneCell']⟩;have k1:ks[1]?=some (.slice (some (S_ sb)) 1 1):=(lD.off 1 (by omega)).trans rfl;have k2:ks[2]?=some (.slice none 0 0):=(lD.off 2 (by omega)).trans rfl;have k3:ks[3]?=some (.int .i64 0):=(lD.off 3 (by omega)).trans rfl;have k0:ks[0]?=some (.slice (some (S_ cb)) 1 1):=(lD.off 0 (by omega)).trans rfl;have nez:∀x,wr.heap.size<=x->T x=(0,0):=fun x hx=>by
   cases Decidable.em (T x=(0,0))with
   | inl e=>exact e
   | inr e=>have:=(lD.tg _ e).2.1;omega
  have sH:=lD.kp KW;clear hK hu c2 lD;gi_wp2_with fail;refine(ad8 _ W kb pb sb 1 M ib N8 fb ks p13 hkW k1 k2 k3 hms hnb hL1 hL2 (by omega)).mono ?_;rintro e w4 ⟨rfl,K4,hp4,g,cg,hg,hk4,ms4,pr4⟩;gi_wp2;go_ret2;have hlen:(WL n N8 fun i=>(f i).toNat).length=N8:=by simp[WL]
  have KZ:Ab No w w4:=(Kwr.then KW).trans K4 (fun x hx e=>absurd hx (by have:=Kwr.size;rcases e with e|e|e<;>omega));have tik:ib≠kb:=by obtain⟨_,i2,_⟩:=id r1;exact BG i2 hkW (by decide)
  have tis:ib≠sb:=by obtain⟨_,i2,_⟩:=id r1;exact BG i2 q5 (by decide)
  have tip:ib≠pb:=by obtain⟨_,i2,_⟩:=id r1;exact BG i2 p13 (by decide)
  have tfk:fb≠kb:=by obtain⟨_,i2,_⟩:=id r2;exact BG i2 hkW (by decide)
  have tfs:fb≠sb:=by obtain⟨_,i2,_⟩:=id r2;exact BG i2 q5 (by decide)
  have tfp:fb≠pb:=by obtain⟨_,i2,_⟩:=id r2;exact BG i2 p13 (by decide)
  have tck:cb≠kb:=BG q3 hkW (by decide);have tcs:cb≠sb:=BG q3 q5 (by decide);have tcp:cb≠pb:=BG q3 p13 (by decide);have hi4:Rw 123 1 w4 ib N8 N8 (Aq (WL n N8 fun i=>(f i).toNat)):=by
   have:=(r1.rw (by omega)).keep K4 (by rintro(e|e|e)<;>contradiction)
   simpa [Aq,WL,Function.comp_def]using this
  have hf4:Rw 3 1 w4 fb 6 6 (Ep [-1,-1,-1,-1,-1,-1]):=(r2.rw (by omega)).keep K4 (by rintro(e|e|e)<;>contradiction);have hk5:=AQ.fresh (k:=k) (C:=C) (Ah:=WL n N8 fun i=>(f i).toNat) (c:=cg) (g:=g) (cb:=cb) (l:=(Aw [(0,M)] (Ap N8)).2) sH K4 hk4
   (by rw[Bt (by decide),Bt (by decide),Bt (by decide)];exact k0) (by rw[Bt (by decide),Bt (by decide)];exact Kb k1) (Kb (by rw[Bt (by decide),Bt (by decide)];exact k2)) (by rw[Bt (by decide)];exact Kb (by rw[Bt (by decide)];exact k3))
   (fun i hi=>by rw[Bt (by omega),Bt (by omega),Bt (by omega)]) (by rw[Bt (by decide),Bt (by decide),Bt (by decide)];exact(sH.off 20 (by omega)).trans rfl)
   (fun i hi=>by rw[Bt (by omega),Bt (by omega),Bt (by omega),Bt (by omega),Bt (by omega),Bt (by omega),sH.off _ (by omega),sH.off _ (by omega)];exact vF i hi)
   (Rw.keep hmc K4 (by rintro(e|e|e)<;>contradiction)) ms4 pr4 (hp4 _ hlen) (by rw[hlen];exact hi4) hf4 lk lS lc ⟨nez g (by have:=KW.size;omega),nez pb (by omega),nez ib (by omega),nez fb (by omega)⟩;have F3:=DZ.fresh (kb:=kb) (cb:=cb) (sb:=sb) (g:=g) (c:=cg) (pb:=pb) (ib:=ib) (fb:=fb) (C:=C) (M:=M) (T:=T) (Ah:=WL n N8 fun i=>(f i).toNat) (l:=(Aw [(0,M)] (Ap N8)).2) ⟨by omega,by omega⟩ (by omega) ⟨Ap n,by rw[hlen];exact h8.symm,by unfold Ap;omega,by unfold Ap;omega⟩ (fun x hx=>by
   obtain⟨i,_,rfl⟩:=List.mem_map.1 hx
   unfold padded
   split
   ·rename_i hi;have:=m7 i hi;show(f i).toNat<65536;omega
   ·omega) (by rw[hlen];exact hnb) (by rw[hlen]) sH.inj
  subst h8;refine⟨KZ,.inr ⟨_,pb,ib,fb,C,M,by simp[Lj,ptr],hk5,F3,rfl,by simp[Lj,Cu],fun x hx=>?_⟩⟩;have hWs:=KW.size;have hx:Jz kb cb sb g pb ib fb T x≠(0,0):=hx;by_cases e1:x=fb
  ·omega
  by_cases e2:x=ib
  ·omega
  by_cases e3:x=pb
  ·omega
  by_cases e4:x=g
  ·omega
  by_cases e5:x=sb
  ·omega
  by_cases e6:x=cb
  ·omega
  by_cases e7:x=kb
  ·omega
  unfold Jz at hx;rw[AY e1,AY e2,AY e3,AY e4,AY e5,AY e6,AY e7]at hx;have:=(sH.tg x hx).1;omega
end
def QZ (base:Nat) (v:Value) (l:List Int) (w:World):Prop:=∃s c,v=.slice s l.length c/\(0<l.length->∃(g:Nat) (cs:X_),s=some (S_ g)/\base<=g/\w.heap[g]?=some (.cells cs 3 (0,0))/\∀(i:Nat) (x:Int),l[i]?=some x->cs[i]?=some (.int .i64 x))
theorem QZ.keep {base:Nat} {v:Value} {l:List Int} {w w':World} {S:Nat->Prop} (h:QZ base v l w) (hK:Ab S w w') (hn:∀k cs,base<=k->w.heap[k]?=some (.cells cs 3 (0,0))->¬S k):QZ base v l w':=by
 obtain⟨s,c,e,h⟩:=h;refine⟨s,c,e,fun hp=>?_⟩;obtain⟨g,cs,h1,h2,h3,h4⟩:=h hp;exact⟨g,cs,h1,h2,hK.old h3 (hn g cs h2 h3),h4⟩
theorem QZ.no {base:Nat} {v:Value} {l:List Int} {w w':World} (h:QZ base v l w) (hK:Ab No w w'):QZ base v l w':=h.keep hK fun _ _ _ _ x=>x
theorem QZ.mono {base base':Nat} {v:Value} {l:List Int} {w:World} (h:QZ base v l w) (hb:base'<=base):QZ base' v l w:=let ⟨s,c,e,h⟩:=h;⟨s,c,e,fun hp=>let ⟨g,cs,h1,h2,h3⟩:=h hp;⟨g,cs,h1,Nat.le_trans hb h2,h3⟩⟩
theorem QZ.sl {base:Nat} {v:Value} {l:List Int} {w:World} (h:QZ base v l w) (hl:l.length<=1000):sN w v l.length (fun i=>l.getD i 0):=by
 obtain⟨s,c,e,h⟩:=h;refine⟨by omega,s,c,e,fun hp=>?_⟩;obtain⟨g,cs,h1,h2,h3,h4⟩:=h hp;refine⟨g,0,h1,fun i hi=>?_⟩;rw[Nat.zero_add,Ag h3];exact h4 i _ (by show l[i]?=some (l.getD i 0);rw[List.getD_eq_getElem?_getD,HZ hi];rfl)
def ints (l:List Nat):List Int:=l.map fun x:Nat=>(x:Int)
def F4 (a b c d e f g:Int) (v7 v8:Value):X_:=#[.int .i64 a,.int .i64 b,.int .i64 c,.int .i64 d,.int .i64 e,.int .i64 f,.int .i64 g,v7,v8]
abbrev Mj (r:PR) (s:Int) (v7 v8:Value):X_:=F4 r.pid r.par s r.A r.B r.P r.st v7 v8
abbrev EO:X_:=F4 0 0 0 0 0 0 0 (.slice none 0 0) (.slice none 0 0)
theorem Gg {w:World} {rb:Nat} {x0 x1 x2 x3 x4 x5 x6 x7 x8:Value} {a b c d e f g:Int} {n7 c7 n8 c8:Nat} {a7 a8:Option Addr} (h:w.heap[rb]?=some (.cells #[x0,x1,x2,x3,x4,x5,x6,x7,x8] 48 (0,0))):∃w',(Instr.storeAt 48 (R_ rb) (.agg (F4 a b c d e f g (.slice a7 n7 c7) (.slice a8 n8 c8)))).run prog w=.ok () w'/\Ab (At rb) w w'/\w'.heap[rb]?=some (.cells (F4 a b c d e f g (.slice a7 n7 c7) (.slice a8 n8 c8)) 48 (0,0)):=by
 have he:(Instr.storeAt 48 (R_ rb) (.agg (F4 a b c d e f g (.slice a7 n7 c7) (.slice a8 n8 c8)))).run prog w=(stores rb 0 (F4 a b c d e f g (.slice a7 n7 c7) (.slice a8 n8 c8)).toList (.pure ())).run prog w:=by kernel_rfl
 obtain⟨w',h1,h2,h3⟩:=Hr (P:=prog) (k:=Sem.pure ()) (F4 a b c d e f g (.slice a7 n7 c7) (.slice a8 n8 c8)).toList 0 _ w h (by simp[F4]) (by simp[F4,Value.oneCell']);refine⟨w',?_,h2,?_⟩
 ·rw[he,h1];rfl
 ·rw[h3];simp[RD,F4]
theorem af3 (w:World) (a b c d e f g:Int) (n7 c7 n8 c8:Nat) (a7 a8:Option Addr):(Instr.build 48 #[(0,.int .i64 a),(1,.int .i64 b),(2,.int .i64 c),(3,.int .i64 d),(4,.int .i64 e),(5,.int .i64 f),(6,.int .i64 g),(7,.slice a7 n7 c7),(8,.slice a8 n8 c8)]).run prog w=.ok (.agg (F4 a b c d e f g (.slice a7 n7 c7) (.slice a8 n8 c8))) w:=by kernel_rfl
theorem Y5 (w:World):(Instr.build 48 #[]).run prog w=.ok (.agg EO) w:=by kernel_rfl
def bf0 (base:Nat) (r:PR) (i:Nat) (v:Value) (W:World):Prop:=(i=9->∃s,v=.int .i64 s/\EX r.en s)/\(i=38->QZ base v (ints r.Ah) W)/\(i=43->QZ base v r.fds W)
section
variable (m:Nat) (w:World)
theorem aP (K:KS) (b:Nat) (r:PR) (h:AQ K w) (hb:K.ps b=some r) (o:r.Ok) (hL:r.Ah.length<=128):CallsIn NF m prog 101 #[r.im] w fun e w'=>Ab No w w'/\∃v,e=.returned v/\QZ w.heap.size v (ints r.Ah) w':=by
 cases hn:r.en with
 | true=>
  obtain⟨e1,_,e3,_⟩:=(h.ps b r hb).no hn
  rw[e1,e3]
  refine(aO m w).mono ?_
  rintro e w' ⟨hK,rfl⟩
  exact⟨hK,_,rfl,_,_,rfl,fun h=>by simp[ints]at h⟩
 | false=>
  obtain⟨g,c,e1,hR,_⟩:=(h.ps b r hb).im hn
  rw[e1]
  refine(VW m w g r.Ah.length (fun i=>r.Ah.getD i 0) c (fun i hi=>?_) (fun i hi=>?_) hL).mono ?_
  ·rw[hR.cell (by omega),Aq,List.getElem?_map,List.getD_eq_getElem?_getD,HZ hi];rfl
  ·rw[List.getD_eq_getElem?_getD,HZ hi];exact o.Ah _ (List.getElem_mem hi)
  ·rintro e w' ⟨hK,rfl,hr⟩;obtain⟨cs,Gy,hr2,hr3⟩:=hr;refine⟨hK,_,rfl,some (S_ w.heap.size),r.Ah.length,by simp[ints],fun _=>⟨_,cs,rfl,Nat.le_refl _,Gy,fun i x hx=>?_⟩⟩;have hi:i<r.Ah.length:=by
    have:=(KH.1 hx).1
    simpa [ints]using this
   rw[hr3 i hi];simp only[ints,List.getElem?_map,HZ hi,Option.map_some]at hx;simp only[List.getD_eq_getElem?_getD,HZ hi,Option.getD_some];rw[Option.some.inj hx]
theorem kV (K:KS) (b:Nat) (r:PR) (h:AQ K w) (hb:K.ps b=some r) (o:r.Ok):CallsIn NF m prog 102 #[r.fd] w fun e w'=>Ab No w w'/\∃v,e=.returned v/\QZ w.heap.size v r.fds w':=by
 cases hn:r.en with
 | true=>
  obtain⟨_,e1,_,e3⟩:=(h.ps b r hb).no hn
  rw[e1,e3]
  refine(eD m w).mono ?_
  rintro e w' ⟨rfl,hK⟩
  exact⟨hK,_,rfl,_,_,rfl,fun h=>by simp at h⟩
 | false=>
  obtain⟨g,c,e1,hR,_⟩:=(h.ps b r hb).fd hn
  have h6:=o.fds hn
  rw[e1]
  refine(Tq m w (S_ g) r.fds.length c (Ep r.fds) (by simp[Ep]) (fun j u hj=>?_) (by simp[Ep,Value.oneCell']) (by omega)).mono ?_
  ·have hj':j<r.fds.length:=(by have:=(KH.1 hj).1;simpa [Ep]using this);rw[Addr.add_lit,Nat.zero_add,hR.cell (by omega),hj]
  ·rintro e w' ⟨hK,v,rfl,hr⟩;refine⟨hK,v,rfl,?_⟩;rcases hr.2 with⟨_,e⟩|⟨g',cap,cur,rfl,hb',hg',_⟩
   ·omega
   ·refine⟨_,cap,rfl,fun _=>⟨g',cur,rfl,hb',hg',fun i x hx=>?_⟩⟩;have hi:=(KH.1 hx).1;refine((Ag hg' i).symm.trans (hr.cellAt i (by omega))).trans ?_;simp only[Ep,List.getElem?_map,hx,Option.map_some]
theorem ac3 (K:KS) (b:Nat) (r:PR) (h:AQ K w) (hT:K.DF) (hl:K.AJ.length<=12) (hb:K.ps b=some r) (o:r.Ok) (hL:r.Ah.length<=128):
  CallsIn NF m prog 57 #[R_ b] w fun e w'=>Ab No w w'/\∃st v7 v8,e=.returned (.agg (Mj r st v7 v8))/\EX r.en st/\QZ w.heap.size v7 (ints r.Ah) w'/\QZ w.heap.size v8 r.fds w':=by
 have K1:Ab No w (w.alloc (.cells EO 48)):=(Ab.refl _ _).alloc _;have Jv:(w.alloc (.cells EO 48)).heap[w.heap.size]?=some (.cells EO 48 (0,0)):=heap_alloc_new rfl;have hs1:w.heap.size<=(w.alloc (.cells EO 48)).heap.size:=K1.size;have hal:w.alloc (.cells #[.int .i64 0,.int .i64 0,.int .i64 0,.int .i64 0,.int .i64 0,.int .i64 0,.int .i64 0,.slice none 0 0,.slice none 0 0] 48)=w.alloc (.cells EO 48):=rfl;gi_enter func57,ntmps57;gi_wp2
 try rw[hal]
 have h1:=h.no K1;generalize w.alloc (.cells EO 48)=w1 at*;have c0:=h1.FH hb 0;have c1:=h1.FH hb 1;have c3:=h1.FH hb 3;have c5:=h1.FH hb 5;have c6:=h1.FH hb 6;have c7:=h1.FH hb 7;have c8:=h1.FH hb 8;have c9:=h1.FH hb 9;simp[PR.arr]at c0 c1 c3 c5 c6 c7 c8 c9;have oA:=o.A;have oB:=o.B;have oP:=o.P;have oS:=o.st;refine AA (P:=prog) No _ rfl rfl (by kernel_rfl) 44 48 [0,1,2,3,4,5,6,7,8,10,11,12,13,14,15,16,17,18,19,20,21,22,23,24,25,26,27,28,29,30,31,32,33,34,35,36,37,39,40,41,42] [9,38,43] (by kernel_rfl) (by rfl) (bf0 w1.heap.size r)
  (fun _ _ _ _ _ h hK=>⟨h.1,fun e=>(h.2.1 e).no hK,fun e=>(h.2.2 e).no hK⟩) _ _ rfl rfl ?_;gi_wp2;refine⟨rfl,by kernel_rfl,?_,?_,?_⟩
 ·intro W hK;have d0:=hK.has (w:=w1.drew) c0;have d1:=hK.has (w:=w1.drew) c1;have d3:=hK.has (w:=w1.drew) c3;have d5:=hK.has (w:=w1.drew) c5;have d6:=hK.has (w:=w1.drew) c6;have d7:=hK.has (w:=w1.drew) c7;have d8:=hK.has (w:=w1.drew) c8;have d9:=hK.has (w:=w1.drew) c9
  repeat' (refine Ao ?_ ?_)
  all_goals first|exact trivial|gi_wp2
 ·intro i hx u W hK hu;have h2:=h1.no ((Ab.refl No w1).drew.then hK);rcases(by simpa using hx:i=9\/i=38\/i=43)with rfl|rfl|rfl
  ·refine Bh rfl fun KK Ko=>?_
   show wpListIn NF m prog _ _ _ (Act.put (Act.put (Act.put _ (some 12) (u 9)) (some 41) (u 38)) (some 46) (u 43)) _;gi_wp2_with (gi_at_call 55;refine(gH _ W K b r h2 hT hb (by omega)).mono ?_;rintro e w2 ⟨K2,s,rfl,hS⟩);exact⟨_,rfl,K2,fun _=>⟨s,rfl,hS⟩,(fun h=>absurd h (by decide)),fun h=>absurd h (by decide)⟩
  ·refine Bh rfl fun KK Ko=>?_
   show wpListIn NF m prog _ _ _ (Act.put (Act.put (Act.put _ (some 12) (u 9)) (some 41) (u 38)) (some 46) (u 43)) _;gi_wp2_with (gi_at_call 101;refine(aP _ W K b r h2 hb o hL).mono ?_;rintro e w2 ⟨K2,v,rfl,r2⟩);exact⟨_,rfl,K2,(fun h=>absurd h (by decide)),fun _=>r2.mono hK.size,fun h=>absurd h (by decide)⟩
  ·refine Bh rfl fun KK Ko=>?_
   show wpListIn NF m prog _ _ _ (Act.put (Act.put (Act.put _ (some 12) (u 9)) (some 41) (u 38)) (some 46) (u 43)) _;gi_wp2_with (gi_at_call 102;refine(kV _ W K b r h2 hb o).mono ?_;rintro e w2 ⟨K2,v,rfl,r2⟩);exact⟨_,rfl,K2,(fun h=>absurd h (by decide)),(fun h=>absurd h (by decide)),fun _=>r2.mono hK.size⟩
 ·intro u W hK hu;have KW:Ab No w W:=K1.drew.then hK;obtain⟨st,e9,hS⟩:=(hu 9 (by simp)).1 rfl;have i7:=(hu 38 (by simp)).2.1 rfl;have i8:=(hu 43 (by simp)).2.2 rfl;show wpListIn NF m prog _ _ _ (Act.put (Act.put (Act.put _ (some 12) (u 9)) (some 41) (u 38)) (some 46) (u 43)) _;rw[e9];generalize u 38=v7 at*;generalize u 43=v8 at*;obtain⟨a7,zh,e7,_⟩:=id i7;obtain⟨a8,xJ,e8,_⟩:=id i8;generalize hn7:(ints r.Ah).length=n7 at e7;generalize hn8:r.fds.length=n8 at e8;subst e7 e8;have hW:=hK.old (heap_drew.trans Jv) id;obtain⟨w3,BH,K3,b3⟩:=Gg (a:=r.pid) (b:=r.par) (c:=st) (d:=r.A) (e:=r.B) (f:=r.P) (g:=r.st) (n7:=n7) (c7:=zh) (n8:=n8) (c8:=xJ) (a7:=a7) (a8:=a8) hW;clear hu hn7 hn8;gi_wp2_with (refine Ae rfl (.tmp 2) (.tmp 47) 48 rfl rfl rfl BH ?_);have g0:w3.cell? (S_ w.heap.size)=some (.int .i64 r.pid):=bce b3 rfl;have g1:w3.cell? (T_ w.heap.size 1)=some (.int .i64 r.par):=bce b3 rfl;have g2:w3.cell? (T_ w.heap.size 2)=some (.int .i64 st):=bce b3 rfl;have g3:w3.cell? (T_ w.heap.size 3)=some (.int .i64 r.A):=bce b3 rfl;have g4:w3.cell? (T_ w.heap.size 4)=some (.int .i64 r.B):=bce b3 rfl;have g5:w3.cell? (T_ w.heap.size 5)=some (.int .i64 r.P):=bce b3 rfl;have g6:w3.cell? (T_ w.heap.size 6)=some (.int .i64 r.st):=bce b3 rfl;have g7:w3.cell? (T_ w.heap.size 7)=some (.slice a7 n7 zh):=bce b3 rfl;have g8:w3.cell? (T_ w.heap.size 8)=some (.slice a8 n8 xJ):=bce b3 rfl;refine bodyPost_ret (v:=.agg (Mj r st (.slice a7 n7 zh) (.slice a8 n8 xJ))) (by simp[results,results57,go_sem,Mj,F4,g0,g1,g2,g3,g4,g5,g6,g7,g8]) rfl ?_;have nb:∀k cs,w1.heap.size<=k->W.heap[k]?=some (.cells cs 3 (0,0))->¬At w.heap.size k:=fun k _ hk _ e=>by
   have e:k=w.heap.size:=e
   have:=Co Jv
   omega
  exact⟨KW.trans K3 (fun k hk e=>absurd (show k=w.heap.size from e) (by omega)),st,_,_,rfl,hS,(i7.keep K3 nb).mono hs1,(i8.keep K3 nb).mono hs1⟩
def aK (K:KS) (pid:Int) (base:Nat) (e:Ending) (w':World):Prop:=
 (∃b r st v7 v8,b∈K.AJ/\K.ps b=some r/\(r.pid:Int)=pid/\e=.returned (.tuple #[.agg (Mj r st v7 v8),.int .i64 0])/\EX r.en st/\QZ base v7 (ints r.Ah) w'/\QZ base v8 r.fds w')\/(e=.returned (.tuple #[.agg EO,.int .i64 2])/\∀b∈K.AJ,∀r,K.ps b=some r->(r.pid:Int)≠pid)
theorem ZV (NC NS:Nat) (K:KS) (pid:Int) (h:AQ K w) (ok:DZ NC NS K):CallsIn NF m prog 20 #[R_ K.kb,.int .i64 pid] w fun e w'=>Ab No w w'/\aK K pid w.heap.size e w':=by
 have K1:Ab No w (w.alloc (.cells EO 48)):=(Ab.refl _ _).alloc _;have Jv:(w.alloc (.cells EO 48)).heap[w.heap.size]?=some (.cells EO 48 (0,0)):=heap_alloc_new rfl;have hs1:w.heap.size<=(w.alloc (.cells EO 48)).heap.size:=K1.size;have hal:w.alloc (.cells #[.int .i64 0,.int .i64 0,.int .i64 0,.int .i64 0,.int .i64 0,.int .i64 0,.int .i64 0,.slice none 0 0,.slice none 0 0] 48)=w.alloc (.cells EO 48):=rfl;have h1:=h.no K1;gi_enter func20,ntmps20;gi_wp2_with fail
 try rw[hal]
 generalize w.alloc (.cells EO 48)=w1 at*;refine(Vw _ w1 K pid h1 ok.th (by have:=ok.len;omega)).mono ?_;rintro e w2 ⟨K2,p,rfl,hF⟩;rcases hF with⟨b,r,rfl,hm,hb,NQ⟩|⟨rfl,hno⟩
 ·unfold ptr;gi_wp2_with fail;refine(ac3 _ w2 K b r (h1.no K2) ok.th ok.len hb (ok.pr b r hb) (ok.co.pl b r hb).1).mono ?_;rintro e w4 ⟨K4,st,v7,v8,rfl,hS,i7,i8⟩;obtain⟨a7,c7,e7,_⟩:=id i7;obtain⟨a8,c8,e8,_⟩:=id i8;generalize hn7:(ints r.Ah).length=n7 at e7;generalize hn8:r.fds.length=n8 at e8;subst e7 e8;clear hn7 hn8;have hW:=K4.old (K2.old Jv id) id;obtain⟨w3,BH,K3,b3⟩:=Gg (a:=r.pid) (b:=r.par) (c:=st) (d:=r.A) (e:=r.B) (f:=r.P) (g:=r.st) (n7:=n7) (c7:=c7) (n8:=n8) (c8:=c8) (a7:=a7) (a8:=a8) hW;gi_wp2_with (refine Ae rfl (.tmp 4) (.tmp 14) 48 rfl rfl rfl BH ?_);have g0:w3.cell? (S_ w.heap.size)=some (.int .i64 r.pid):=bce b3 rfl;have g1:w3.cell? (T_ w.heap.size 1)=some (.int .i64 r.par):=bce b3 rfl;have g2:w3.cell? (T_ w.heap.size 2)=some (.int .i64 st):=bce b3 rfl;have g3:w3.cell? (T_ w.heap.size 3)=some (.int .i64 r.A):=bce b3 rfl;have g4:w3.cell? (T_ w.heap.size 4)=some (.int .i64 r.B):=bce b3 rfl;have g5:w3.cell? (T_ w.heap.size 5)=some (.int .i64 r.P):=bce b3 rfl;have g6:w3.cell? (T_ w.heap.size 6)=some (.int .i64 r.st):=bce b3 rfl;have g7:w3.cell? (T_ w.heap.size 7)=some (.slice a7 n7 c7):=bce b3 rfl;have g8:w3.cell? (T_ w.heap.size 8)=some (.slice a8 n8 c8):=bce b3 rfl;refine bodyPost_ret (v:=.tuple #[.agg (Mj r st (.slice a7 n7 c7) (.slice a8 n8 c8)),.int .i64 0]) (by simp[results,results20,go_sem,Mj,F4,g0,g1,g2,g3,g4,g5,g6,g7,g8]) rfl ?_;have nb:∀k cs,w2.heap.size<=k->w4.heap[k]?=some (.cells cs 3 (0,0))->¬At w.heap.size k:=fun k _ hk _ e=>by
   have e:k=w.heap.size:=e
   have:=Co Jv
   have:=K2.size
   omega
  have hs2:w.heap.size<=w2.heap.size:=Nat.le_trans hs1 K2.size;exact⟨((K1.then K2).then K4).trans K3 (fun k hk e=>absurd (show k=w.heap.size from e) (by omega)),.inl ⟨b,r,st,_,_,hm,hb,NQ,rfl,hS,(i7.keep K3 nb).mono hs2,(i8.keep K3 nb).mono hs2⟩⟩
 ·have hbd:=Y5 w2;obtain⟨w3,BH,K3,b3⟩:=Gg (a:=0) (b:=0) (c:=0) (d:=0) (e:=0) (f:=0) (g:=0) (n7:=0) (c7:=0) (n8:=0) (c8:=0) (a7:=none) (a8:=none) (K2.old Jv id);gi_wp2_with (refine Ae rfl (.tmp 4) (.tmp 12) 48 rfl rfl rfl BH ?_);have g0:w3.cell? (S_ w.heap.size)=some (.int .i64 0):=bce b3 rfl;have g1:w3.cell? (T_ w.heap.size 1)=some (.int .i64 0):=bce b3 rfl;have g2:w3.cell? (T_ w.heap.size 2)=some (.int .i64 0):=bce b3 rfl;have g3:w3.cell? (T_ w.heap.size 3)=some (.int .i64 0):=bce b3 rfl;have g4:w3.cell? (T_ w.heap.size 4)=some (.int .i64 0):=bce b3 rfl;have g5:w3.cell? (T_ w.heap.size 5)=some (.int .i64 0):=bce b3 rfl;have g6:w3.cell? (T_ w.heap.size 6)=some (.int .i64 0):=bce b3 rfl;have g7:w3.cell? (T_ w.heap.size 7)=some (.slice none 0 0):=bce b3 rfl;have g8:w3.cell? (T_ w.heap.size 8)=some (.slice none 0 0):=bce b3 rfl;refine bodyPost_ret (v:=.tuple #[.agg EO,.int .i64 2]) (by simp[results,results20,go_sem,EO,F4,g0,g1,g2,g3,g4,g5,g6,g7,g8]) rfl ?_;exact⟨(K1.then K2).trans K3 (fun k hk e=>absurd (show k=w.heap.size from e) (by omega)),.inr ⟨rfl,hno⟩⟩
end
def NU (c:Int) (n:Nat):Nat:=if c<0 then((-(c+1)) % (n:Int)).toNat else(c % (n:Int)).toNat
theorem qy (c:Int) {n:Nat} (hn:1<=n):NU c n<n:=by
 unfold NU;split
 ·have:=Int.emod_lt_of_pos (-(c+1)) (show(0:Int)<n by omega);have:=Int.emod_nonneg (-(c+1)) (show(n:Int)≠0 by omega);omega
 ·have:=Int.emod_lt_of_pos c (show(0:Int)<n by omega);have:=Int.emod_nonneg c (show(n:Int)≠0 by omega);omega
section
variable (m:Nat) (w:World)
theorem ZT (c:Int) (n r:Nat) (hc:-9223372036854775808<=c) (hc':c<=9223372036854775807) (hn:1<=n) (hn':n<=4) (hr:NU c n=r):CallsIn NF m prog 16 #[.int .i64 c,.int .i64 n] w fun e w'=>e=.returned (.int .i64 r)/\w'=w:=by
 unfold NU at hr;by_cases h0:c<0
 ·rw[if_pos h0]at hr;gi_enter func16,ntmps16;gi_wp2
  all_goals go_ret
  refine⟨VK ?_,rfl⟩;have:=Int.emod_nonneg (-(c+1)) (show(n:Int)≠0 by omega);have e:-((c+1).tmod (n:Int))=(-(c+1)) % (n:Int):=by rw[<-Int.neg_tmod,Int.tmod_eq_emod_of_nonneg (by omega)]
  simp only[e];omega
 ·rw[if_neg h0]at hr;gi_enter func16,ntmps16;gi_wp2
  all_goals go_ret
  have h2:=Int.emod_nonneg c (show(n:Int)≠0 by omega);exact⟨VK (by omega),rfl⟩
theorem SQ (v v':Value) (n:Nat) (f:Nat->Int) (h:sN w v n f) (h':sN w v' n f):CallsIn NF m prog 21 #[v,v'] w fun e w'=>e=.returned (.bool true)/\Ab No w w':=by
 obtain⟨hn,s,c,rfl,hs⟩:=h;obtain⟨_,s',c',rfl,FD⟩:=h';by_cases h0:n=0
 ·subst h0;gi_enter func21,ntmps21;gi_wp2;refine wpIn_loop_once ?_;gi_wp2;go_ret;exact⟨by simp,Ab.refl _ _⟩
 ·obtain⟨b,o,rfl,hc⟩:=hs (by omega);obtain⟨b',o',rfl,hc'⟩:=FD (by omega);clear hs FD;gi_enter func21,ntmps21;gi_wp2;gi_loopw [5] (fun i wr=>∃k:Nat,k<=n/\i=.int .i64 k/\Ab No w wr) (fun i _=>n-(intOf i).toNat)
  case atStart=>exact⟨0,Nat.zero_le _,rfl,Ab.refl _ _⟩
  case round=>
   obtain⟨k,hk,rfl,hK⟩:=hrel
   by_cases BC:k<n
   ·have g1:=hK.has (hc k BC);have g2:=hK.has (hc' k BC);gi_wp2;gi_region
    all_goals gi_wp2
    all_goals go_roundw
    all_goals first|exact⟨k+1,by omega,by go_num,hK.drew⟩|(simp[intOf];omega)
   ·gi_wp2;go_ret;exact⟨by simp,hK⟩
end
theorem O5 {w w':World} {base:Nat} {e:TypeId} {size:Nat} {v:Value} {n:Nat} {xs:U_} (h:w.ownsRow base e size v n xs) (hK:Ab No w w'):w'.ownsRow base e size v n xs:=by
 obtain⟨h1,h2⟩:=h;refine⟨h1,?_⟩;rcases h2 with h2|⟨g,cap,cur,a,b,c,d⟩
 ·exact .inl h2
 ·exact .inr ⟨g,cap,cur,a,b,hK.old c id,d⟩
def WK (K:KS) (k:Nat):U_:=(K.AJ.take k).map fun b=>.int .i64 (match K.ps b with|some r=>(r.pid:Int)|none=>0)
theorem jV {K:KS} {k b:Nat} {r:PR} (h:K.AJ[k]?=some b) (hr:K.ps b=some r):WK K (k+1)=WK K k++[.int .i64 r.pid]:=by
 unfold WK;rw[List.take_add_one,h];simp[hr]
section
variable (m:Nat) (w:World)
theorem ab1 (K:KS) (h:AQ K w) (hT:K.DF) (hl:K.AJ.length<=12):CallsIn NF m prog 50 #[R_ K.kb] w fun e w'=>Ab No w w'/\∃v,e=.returned v/\w'.ownsRow w.heap.size 3 1 v K.AJ.length (WK K K.AJ.length):=by
 have q2:=h.xy;obtain⟨i0,hi0,hz0,hz1,hz2⟩:=info_parts info3;gi_enter func50,ntmps50;gi_wp2;gi_loopw [3,11] (fun a i wr=>∃k:Nat,k<=K.AJ.length/\i=.int .i64 k/\Ab No w wr/\wr.ownsRow w.heap.size 3 1 a k (WK K k)) (fun _ i _=>K.AJ.length-(intOf i).toNat)
 case atStart=>exact⟨0,by omega,rfl,Ab.refl _ _,World.ownsRow_nil _ _ _ _⟩
 case round=>
  obtain⟨k,hk,rfl,KK,FX⟩:=hrel
  by_cases BC:k<K.AJ.length
  ·have hg:K.AJ[k]?=some K.AJ[k]:=HZ BC;generalize K.AJ[k]=b at hg;obtain⟨r,hr⟩:=AQ.mem hT hg;have h1:=h.no KK;have d0:=h1.Xd hg;have d1:=h1.FH hr 0;simp only[ptr]at d0;simp[PR.arr]at d1;have Ka:Ab No wr (wr.alloc (.cells #[.int .i64 r.pid] 3)):=(Ab.refl _ _).alloc _;have hcell:∀q u,([.int .i64 r.pid]:U_)[q]?=some u->(wr.alloc (.cells #[.int .i64 r.pid] 3)).cell? (((S_ wr.heap.size):Addr).add q)=some u:=fun q u hq=>by
    match q,hq with
    | 0,hq=>
     have hv:(wr.alloc (.cells #[.int .i64 r.pid] 3)).heap[wr.heap.size]?=some (.cells #[.int .i64 r.pid] 3 (0,0)):=heap_alloc_new rfl
     rw[Addr.add_lit]
     refine(Ag hv 0).trans ?_
     simpa using hq
   have ho:(wr.alloc (.cells #[.int .i64 r.pid] 3)).ownsRow w.heap.size 3 1 _ k (WK K k):=O5 FX Ka;gi_wp2_with (gi_at_builtin;refine wpListIn_append_own _ rfl (.tmp 15) (.tmp 20) 22 rfl w.heap.size 3 i0 (.int .i64 0) 1 8 underlying22 hi0 hz0 hz1 hz2 rfl (by decide) _ k (WK K k) rfl ho (S_ wr.heap.size) 1 1 [.int .i64 r.pid] rfl rfl hcell (by simp[Value.oneCell']) (by unfold maxLen;omega) (by omega) (Nat.le_trans KK.size Ka.size) ?_;intro v' w4 hown' Iq _;have K4:Ab No w w4:=(KK.then Ka).trans (Gi Iq fun k hk _=>hk) (fun x hx e=>absurd (ho.lt x e).1 (by omega));clear Iq);go_roundw
   case rel=>exact⟨k+1,by omega,by go_num,K4,by rw[jV hg hr];exact hown'⟩
   case measure=>simp[intOf];omega
  ·obtain rfl:k=K.AJ.length:=(by omega);gi_wp2;go_ret;exact⟨KK,by simpa using FX⟩
end
theorem ac5:(prog.info? 48).map (fun i=>(i.zero,i.size,i.bytes))=some (some (.agg EO),9,104):=by kernel_rfl
def Vz (base:Nat) (K:KS) (k:Nat) (xs:U_) (w:World):Prop:=∀i b,i<k->K.AJ[i]?=some b->∃r st v7 v8,K.ps b=some r/\EX r.en st/\QZ base v7 (ints r.Ah) w/\QZ base v8 r.fds w/\∀j x,(Mj r st v7 v8)[j]?=some x->xs[i*9+j]?=some x
theorem Vz.no {base k:Nat} {K:KS} {xs:U_} {w w':World} (h:Vz base K k xs w) (hK:Ab No w w'):Vz base K k xs w':=fun i b hi hb=>let ⟨r,st,v7,v8,h1,h2,h3,h4,h5⟩:=h i b hi hb;⟨r,st,v7,v8,h1,h2,h3.no hK,h4.no hK,h5⟩
def Vq (K:KS) (base:Nat) (a:Value) (k:Nat) (wr:World):Prop:=∃xs,wr.ownsRow base 48 9 a k xs/\Vz base K k xs wr
theorem VN {NC NS k b:Nat} {K:KS} {r:PR} {w w':World} {e:Ending} (ok:DZ NC NS K) (hg:K.AJ[k]?=some b) (hr:K.ps b=some r) (h:Ab No w w'/\aK K r.pid w.heap.size e w'):Ab No w w'/\∃st a7 n7 c7 a8 n8 c8,e=.returned (.tuple #[.agg (Mj r st (.slice a7 n7 c7) (.slice a8 n8 c8)),.int .i64 0])/\EX r.en st/\QZ w.heap.size (.slice a7 n7 c7) (ints r.Ah) w'/\QZ w.heap.size (.slice a8 n8 c8) r.fds w':=by
 obtain⟨hK,⟨b',r',st,v7,v8,hm',hb',hp',e1,e2,e3,e4⟩|⟨_,hno⟩⟩:=h
 ·obtain rfl:=ok.one b' r' b r hm' (List.mem_of_getElem? hg) hb' hr (by omega);rw[hr]at hb';cases hb';obtain⟨a7,c7,rfl,_⟩:=id e3;obtain⟨a8,c8,rfl,_⟩:=id e4;exact⟨hK,st,a7,_,c7,a8,_,c8,e1,e2,e3,e4⟩
 ·exact absurd rfl (hno b (List.mem_of_getElem? hg) r hr)
theorem dz {w:World} {k:Nat} {a b c d e f g:Int} {v7 v8:Value} (h:w.heap[k]?=some (.cells (F4 a b c d e f g v7 v8) 48 (0,0))):∀j u,(F4 a b c d e f g v7 v8).toList[j]?=some u->w.cell? (((S_ k):Addr).add j)=some u:=by
 intro j u hj;rw[Addr.add_lit,Nat.zero_add,Ag h j,<-hj,Array.getElem?_toList]
section
variable (m:Nat) (w:World)
theorem ap4 (NC NS:Nat) (K:KS) (h:AQ K w) (ok:DZ NC NS K):CallsIn NF m prog 15 #[R_ K.kb] w fun e w'=>Ab No w w'/\∃v,e=.returned v/\Vq K w.heap.size v K.AJ.length w':=by
 have hl:=ok.len;obtain⟨i0,hi0,hz0,hz1,hz2⟩:=info_parts ac5;gi_enter func15,ntmps15;gi_wp2_with fail;refine(ab1 _ w K h ok.th hl).mono ?_;rintro e w1 ⟨K1,v,rfl,FX⟩;obtain⟨s,c,hv⟩:∃s c,v=.slice s K.AJ.length c:=by
  rcases FX.2 with⟨e,e2⟩|⟨g,cap,cur,e,_⟩
  ·exact⟨none,0,by rw[e,e2]⟩
  ·exact⟨_,_,e⟩
 subst hv;gi_wp2;gi_loopw [3,5] (fun a i wr=>∃k:Nat,k<=K.AJ.length/\i=.int .i64 k/\Ab No w1 wr/\Vq K w1.heap.size a k wr) (fun _ i _=>K.AJ.length-(intOf i).toNat)
 case atStart=>exact⟨0,by omega,rfl,Ab.refl _ _,[],World.ownsRow_nil _ _ _ _,fun i b hi=>absurd hi (by omega)⟩
 case round=>
  obtain⟨k,hk,rfl,KK1,xs,hox,BH⟩:=hrel
  have KK:Ab No w wr:=K1.then KK1
  by_cases BC:k<K.AJ.length
  ·have hg:K.AJ[k]?=some K.AJ[k]:=HZ BC;generalize K.AJ[k]=b at hg;obtain⟨r,hr⟩:=AQ.mem ok.th hg;have h1:=h.no KK;obtain⟨g,cap,cur,rfl,hgb⟩:∃g cap cur,s=some (S_ g)/\w1.heap[g]?=some (.cells cur cap (0,0)):=by
    rcases FX.2 with⟨_,e2⟩|⟨g,cap,cur,e,_,hx,_⟩
    ·omega
    ·cases e;exact⟨g,_,cur,rfl,hx⟩
   have d0:wr.cell? (T_ g k)=some (.int .i64 r.pid):=KK1.has ((FX.cellAt k (by omega)).trans (by simp[WK,hg,hr]));have hlk:=fun m=>(ZV m wr NC NS K r.pid h1 ok).mono fun e w2 h=>VN ok hg hr h
   gi_upto_region 7 with(first|(gi_at_call 20;refine(hlk _).mono ?_;rintro e w2 ⟨K2,st,a7,n7,c7,a8,n8,c8,rfl,hS,i7,i8⟩;obtain⟨w3,WN,K3,b3⟩:=Gg (w:=w2.alloc (.cells EO 48)) (rb:=w2.heap.size) (a:=r.pid) (b:=r.par) (c:=st) (d:=r.A) (e:=r.B) (f:=r.P) (g:=r.st) (n7:=n7) (c7:=c7) (n8:=n8) (c8:=c8) (a7:=a7) (a8:=a8) (heap_alloc_new rfl))|refine Ae rfl (.tmp 6) (.tmp 23) 48 rfl rfl rfl WN ?_);have g0:w3.cell? (S_ w2.heap.size)=some (.int .i64 r.pid):=bce b3 rfl;have g1:w3.cell? (T_ w2.heap.size 1)=some (.int .i64 r.par):=bce b3 rfl;have g2:w3.cell? (T_ w2.heap.size 2)=some (.int .i64 st):=bce b3 rfl;have g3:w3.cell? (T_ w2.heap.size 3)=some (.int .i64 r.A):=bce b3 rfl;have g4:w3.cell? (T_ w2.heap.size 4)=some (.int .i64 r.B):=bce b3 rfl;have g5:w3.cell? (T_ w2.heap.size 5)=some (.int .i64 r.P):=bce b3 rfl;have g6:w3.cell? (T_ w2.heap.size 6)=some (.int .i64 r.st):=bce b3 rfl;have g7:w3.cell? (T_ w2.heap.size 7)=some (.slice a7 n7 c7):=bce b3 rfl;have g8:w3.cell? (T_ w2.heap.size 8)=some (.slice a8 n8 c8):=bce b3 rfl;have KA:Ab No w2 w3:=((Ab.refl No w2).alloc (.cells EO 48)).trans K3 (fun x hx e=>absurd (show x=w2.heap.size from e) (by omega));have KB:Ab No wr (w3.alloc (.cells #[.int .i64 r.pid,.int .i64 r.par,.int .i64 st,.int .i64 r.A,.int .i64 r.B,.int .i64 r.P,.int .i64 r.st,.slice a7 n7 c7,.slice a8 n8 c8] 48)):=(K2.then KA).alloc _;have b4:(w3.alloc (.cells #[.int .i64 r.pid,.int .i64 r.par,.int .i64 st,.int .i64 r.A,.int .i64 r.B,.int .i64 r.P,.int .i64 r.st,.slice a7 n7 c7,.slice a8 n8 c8] 48)).heap[w3.heap.size]?=some (.cells (Mj r st (.slice a7 n7 c7) (.slice a8 n8 c8)) 48 (0,0)):=heap_alloc_new rfl;have ho:=O5 hox KB;clear WN K3 b3;gi_wp2_with (gi_at_builtin;refine wpListIn_append_own _ rfl (.tmp 25) (.tmp 27) 39 rfl w1.heap.size 48 i0 (.agg EO) 9 104 underlying39 hi0 hz0 hz1 hz2 rfl (by decide) _ k xs rfl ho (S_ w3.heap.size) 1 1 (Mj r st (.slice a7 n7 c7) (.slice a8 n8 c8)).toList rfl rfl (dz b4) (by simp[F4,Value.oneCell']) (by unfold maxLen;omega) (by omega) (Nat.le_trans KK1.size KB.size) ?_;intro v' w4 hown' Iq _);have K4:Ab (fun x=>u3.ownBlock=some x) (w3.alloc (.cells #[.int .i64 r.pid,.int .i64 r.par,.int .i64 st,.int .i64 r.A,.int .i64 r.B,.int .i64 r.P,.int .i64 r.st,.slice a7 n7 c7,.slice a8 n8 c8] 48)) w4:=Gi Iq fun k hk _=>hk
   go_roundw
   case rel=>
    have ty:∀x cs,w1.heap.size<=x->(w3.alloc (.cells #[.int .i64 r.pid,.int .i64 r.par,.int .i64 st,.int .i64 r.A,.int .i64 r.B,.int .i64 r.P,.int .i64 r.st,.slice a7 n7 c7,.slice a8 n8 c8] 48)).heap[x]?=some (.cells cs 3 (0,0))->¬(u3.ownBlock=some x):=fun x cs _ h1 h2=>by
     rcases ho.2 with⟨rfl,_⟩|⟨g',BK,cur',rfl,_,hg',_⟩
     ·cases h2
     ·obtain rfl:g'=x:=Option.some.inj h2;rw[h1]at hg';cases hg'
    have bi5:xs.length=k*9:=hox.1;refine⟨k+1,by omega,by go_num,(KK1.then KB).trans K4 (fun x hx e=>absurd (ho.lt x e).1 (by omega)),_,hown',fun i b' hi hb'=>?_⟩;by_cases e:i=k
    ·subst e;rw[hg]at hb';cases hb';have hs2:w1.heap.size<=wr.heap.size:=KK1.size;have hKA:=KA.alloc (.cells #[.int .i64 r.pid,.int .i64 r.par,.int .i64 st,.int .i64 r.A,.int .i64 r.B,.int .i64 r.P,.int .i64 r.st,.slice a7 n7 c7,.slice a8 n8 c8] 48);refine⟨r,st,_,_,hr,hS,((i7.mono hs2).no hKA).keep K4 ty,((i8.mono hs2).no hKA).keep K4 ty,fun j x hj=>?_⟩;rw[List.getElem?_append_right (by omega),show i*9+j-xs.length=j by omega,Array.getElem?_toList];exact hj
    ·obtain⟨r',st',v7',v8',q1,q2,q3,q4,q5⟩:=BH i b' (by omega) hb';refine⟨r',st',v7',v8',q1,q2,(q3.no KB).keep K4 ty,(q4.no KB).keep K4 ty,fun j x hj=>?_⟩;have hj9:j<9:=(Array.getElem?_eq_some_iff.1 hj).1;rw[List.getElem?_append_left (by omega)];exact q5 j x hj
   case measure=>simp[intOf];omega
  ·obtain rfl:k=K.AJ.length:=(by omega);gi_wp2;go_ret;exact⟨KK,_,rfl,xs,Qr hox K1.size,fun i b hi hb=>let ⟨r,st,v7,v8,q1,q2,q3,q4,q5⟩:=BH i b hi hb;⟨r,st,v7,v8,q1,q2,q3.mono K1.size,q4.mono K1.size,q5⟩⟩
end
end Go.Fxa
