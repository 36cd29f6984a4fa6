/- The document's first example. Runs whose instructions are known: of a program that writes nothing, of the document's first example. A pair of kernels, ahead of a Pick and ac6 it. picks, ac6 Pick: the document's Pick, the events compared and kept. A new pair. Pick of the program: its pieces ahead of goOn. Which pieces of the law's frames are plain code. step: which pair is spoken of. What the machine comes to from a frame of goroutine 0, beside whatever leavers: silent steps, reads, pieces of code, goOn. Pick of the program, from its call to its return, beside leavers. Pick of the program: its questions; what it refuses. Pick of the program, whole, beside leavers. -/
import Derived.Test.YtmhplpfpcnjekaaGreatK32
namespace Go.Fxa
open Go.Conc
open Go.Proofs
open Go.RowKit
set_option maxRecDepth 1000000
def exI (i:Nat):Nat:=([1,5,3,9,11,12,11,1,0,0]:List Nat).getD i 0
def exA:Array Value:=#[.int .i64 1,.int .i64 5,.int .i64 3,.int .i64 9,.int .i64 11,.int .i64 12,.int .i64 11,.int .i64 1,.int .i64 0,.int .i64 0]
theorem exI_at (i:Nat) (hi:i<10):exA[i]?=some (.int .i64 (exI i)):=by
 match i,hi with
 | 0,_=>rfl
 | 1,_=>rfl
 | 2,_=>rfl
 | 3,_=>rfl
 | 4,_=>rfl
 | 5,_=>rfl
 | 6,_=>rfl
 | 7,_=>rfl
 | 8,_=>rfl
 | 9,_=>rfl
section
variable (m:Nat) (w:World)
theorem example_calls:CallsIn NF m Tryz.prog 31 #[] w fun e w'=>Keep No w w'∧∃eb,w.heap.size≤eb∧e=.returned (.agg #[.int .i64 16,.int .i64 20,.slice (some ⟨eb,0,none⟩) 10 10,.slice none 0 0])∧SlI w' (.slice (some ⟨eb,0,none⟩) 10 10) 10 (fun i=>exI i):=by
 gi_enter Tryz.func31,Tryz.ntmps31
 gi_wp2
 have hc:((w.alloc (.cells #[.int .i64 16,.int .i64 20,.slice (some ⟨w.heap.size+1,0,none⟩) 10 10,.slice none 0 0] 25)).alloc (.cells exA 3)).heap[w.heap.size]?=some (.cells #[.int .i64 16,.int .i64 20,.slice (some ⟨w.heap.size+1,0,none⟩) 10 10,.slice none 0 0] 25 (0,0)):=(ab5 (by simp)).trans (aa4 rfl)
 have hv:((w.alloc (.cells #[.int .i64 16,.int .i64 20,.slice (some ⟨w.heap.size+1,0,none⟩) 10 10,.slice none 0 0] 25)).alloc (.cells exA 3)).heap[w.heap.size+1]?=some (.cells exA 3 (0,0)):=aa4 (by simp)
 have c0:((w.alloc (.cells #[.int .i64 16,.int .i64 20,.slice (some ⟨w.heap.size+1,0,none⟩) 10 10,.slice none 0 0] 25)).alloc (.cells exA 3)).cell? ⟨w.heap.size,0,none⟩=some (.int .i64 16):=by rw[aa0 hc];rfl
 have c1:((w.alloc (.cells #[.int .i64 16,.int .i64 20,.slice (some ⟨w.heap.size+1,0,none⟩) 10 10,.slice none 0 0] 25)).alloc (.cells exA 3)).cell? ⟨w.heap.size,1,none⟩=some (.int .i64 20):=by rw[aa0 hc];rfl
 have c2:((w.alloc (.cells #[.int .i64 16,.int .i64 20,.slice (some ⟨w.heap.size+1,0,none⟩) 10 10,.slice none 0 0] 25)).alloc (.cells exA 3)).cell? ⟨w.heap.size,2,none⟩=some (.slice (some ⟨w.heap.size+1,0,none⟩) 10 10):=by rw[aa0 hc];rfl
 have c3:((w.alloc (.cells #[.int .i64 16,.int .i64 20,.slice (some ⟨w.heap.size+1,0,none⟩) 10 10,.slice none 0 0] 25)).alloc (.cells exA 3)).cell? ⟨w.heap.size,3,none⟩=some (.slice none 0 0):=by rw[aa0 hc];rfl
 have K:Keep No w ((w.alloc (.cells #[.int .i64 16,.int .i64 20,.slice (some ⟨w.heap.size+1,0,none⟩) 10 10,.slice none 0 0] 25)).alloc (.cells exA 3)):=((Keep.refl No w).alloc _).alloc _
 show bodyPost _ _ _ _ _ ((w.alloc (.cells #[.int .i64 16,.int .i64 20,.slice (some ⟨w.heap.size+1,0,none⟩) 10 10,.slice none 0 0] 25)).alloc (.cells exA 3))
 generalize (w.alloc (.cells #[.int .i64 16,.int .i64 20,.slice (some ⟨w.heap.size+1,0,none⟩) 10 10,.slice none 0 0] 25)).alloc (.cells exA 3)=w1 at*
 refine bodyPost_ret (v:=.agg #[.int .i64 16,.int .i64 20,.slice (some ⟨w.heap.size+1,0,none⟩) 10 10,.slice none 0 0]) (by simp[results,Tryz.results31,go_sem,c0,c1,c2,c3]) rfl ?_
 exact⟨K,w.heap.size+1,by omega,rfl,by omega,_,10,rfl,fun _=>⟨_,0,rfl,fun i hi=>by rw[Nat.zero_add,aa0 hv];exact exI_at i hi⟩⟩
end
end Go.Fxa
namespace Go.Fxa
open Go.Conc
open Go.Proofs
open Go.RowKit
def EverSafe (L:Nat) (img:Nat→Nat) (s:Nat×Nat×Nat):Prop:=∀j t evs,runE L img s j=(some t,evs)→Safe L (imgE L img s j) t
section
variable {L:Nat} {img:Nat→Nat} {s:Nat×Nat×Nat}
theorem imgE_none {j:Nat} {e:List (Nat×Nat×Nat)} (h:runE L img s j=(none,e)):imgE L img s (j+1)=imgE L img s j:=by
 unfold runE imgE at*
 show(match runX L img s j with|((none,e),i)=>((none,e),i)|((some t,e),i)=>(((ac8 L i t).1,e++(ac8 L i t).2),putI L i t)).2=_
 generalize runX L img s j=r at*
 obtain⟨⟨o,e'⟩,i⟩:=r
 simp only[Prod.mk.injEq]at h
 obtain⟨rfl,rfl⟩:=h
 rfl
theorem run_add {n:Nat} {t:Nat×Nat×Nat} {e:List (Nat×Nat×Nat)} (h:runE L img s n=(some t,e)):∀j,runE L img s (n+j)=((runE L (imgE L img s n) t j).1,e++(runE L (imgE L img s n) t j).2)∧imgE L img s (n+j)=imgE L (imgE L img s n) t j
 | 0=>⟨by rw[Nat.add_zero,h,runE_zero];simp,rfl⟩
 | j+1=>by
  obtain⟨h1,h2⟩:=run_add h j
  cases hr:runE L (imgE L img s n) t j with
  | mk o es=>
   rw[hr]at h1
   cases o with
   | none=>rw[←Nat.add_assoc,runE_none h1,runE_none hr,imgE_none h1,imgE_none hr];exact⟨rfl,h2⟩
   | some u=>
    rw[←Nat.add_assoc,ai7 h1,ai7 hr,ak9 h1,ak9 hr,h2]
    exact⟨by simp,rfl⟩
theorem EverSafe.next (h:EverSafe L img s) {n:Nat} {t:Nat×Nat×Nat} {e:List (Nat×Nat×Nat)} (hr:runE L img s n=(some t,e)):EverSafe L (imgE L img s n) t:=fun j u evs hj=>by
 obtain⟨h1,h2⟩:=run_add hr j
 rw[hj]at h1
 rw[←h2]
 exact h _ _ _ h1
theorem EverSafe.sf (h:EverSafe L img s) (n:Nat):∀j t evs,j<n→runE L img s j=(some t,evs)→Safe L (imgE L img s j) t:=fun j t evs _ hr=>h j t evs hr
theorem imgE_const (h3:∀i,i<L→img i≠3):∀j,imgE L img s j=img
 | 0=>rfl
 | j+1=>by
  have ih:=imgE_const h3 j
  cases hr:runE L img s j with
  | mk o es=>
   cases o with
   | none=>rw[imgE_none hr,ih]
   | some u=>
    rw[ak9 hr,ih]
    exact if_neg fun q=>h3 u.2.2 (by have:=q.1;omega) q.2.1
theorem always_plain (h3:∀i,i<L→img i≠3) (h10:∀i,i<L→img i≠10) (ht:∀i,i+1<L→img i=11→img (i+1)=1∨img (i+1)=12):EverSafe L img s:=fun j t evs _ hP=>by
 rw[imgE_const h3]
 exact⟨h10 _ (by omega),fun e=>absurd e (h3 _ (by omega)),ht _ (by omega)⟩
end
/-! ### the document's first example -/
def exP:Nat→Nat:=ah5 10 exI
theorem ex_run0:runE 16 exP (0,0,0) 1=(some (5,0,2),[]):=by kernel_rfl
theorem ex_run1:runE 16 exP (0,0,0) 2=(some (5,0,4),[]):=by kernel_rfl
theorem ex_run2:runE 16 exP (0,0,0) 3=(some (1,0,6),[(12,1,0)]):=by kernel_rfl
theorem ex_run3:runE 16 exP (0,0,0) 4=(none,[(12,1,0),(1,5,0)]):=by kernel_rfl
theorem ex_always:EverSafe 16 exP (0,0,0):=fun j t evs hr=>by
 match j,hr with
 | 0,hr=>
  obtain rfl:t=(0,0,0):=by rw[runE_zero]at hr;simp only[Prod.mk.injEq,Option.some.injEq]at hr;exact hr.1.symm
  exact fun _=>⟨by decide,by decide,by decide⟩
 | 1,hr=>
  obtain rfl:t=(5,0,2):=by rw[ex_run0]at hr;simp only[Prod.mk.injEq,Option.some.injEq]at hr;exact hr.1.symm
  exact fun _=>⟨by decide,by decide,by decide⟩
 | 2,hr=>
  obtain rfl:t=(5,0,4):=by rw[ex_run1]at hr;simp only[Prod.mk.injEq,Option.some.injEq]at hr;exact hr.1.symm
  exact fun _=>⟨by decide,by decide,by decide⟩
 | 3,hr=>
  obtain rfl:t=(1,0,6):=by rw[ex_run2]at hr;simp only[Prod.mk.injEq,Option.some.injEq]at hr;exact hr.1.symm
  exact fun _=>⟨by decide,by decide,by decide⟩
 | j+4,hr=>rw[runE_over ex_run3 (n:=j+4) (by omega)]at hr;cases hr
structure PairOk (kb:KB) (qb:QB) (w:World) (st:Option (Bool×Nat×Nat×Nat)):Prop where
 ok:kb.Ok
 okq:qb.Ok
 L:kb.L=qb.L
 img:kb.img=qb.img
 on:PairOn kb qb w st
 safe:∀s,st=some s→EverSafe kb.L kb.img (s.2.1,s.2.2.1,s.2.2.2)
 fit:kb.Fit
theorem PairOk.keep {kb:KB} {qb:QB} {w w':World} {st:Option (Bool×Nat×Nat×Nat)} {S:Nat→Prop} (h:PairOk kb qb w st) (hK:Keep S w w') (hk:∀k,kb.foot k→¬S k) (hq:∀k,qb.foot k→¬S k):PairOk kb qb w' st:=
 ⟨h.ok,h.okq,h.L,h.img,h.on.keep hK hk hq,h.safe,h.fit⟩
theorem QB.off.im {b:QB} {w:World} (h:b.off w) (i:Nat→Nat):(b.im i).off w:=
 let ⟨told,ks,qs,fc,fs,A,B,P,st,h1⟩:=h;⟨told,ks,qs,fc,fs,A,B,P,st,⟨h1.k,h1.sz,h1.k0,h1.k1,h1.k2,h1.k7,h1.q,h1.q0,h1.p,h1.c,h1.s⟩⟩
def stOf:Option (Nat×Nat×Nat)→Option (Bool×Nat×Nat×Nat)
 | some s=>some (true,s)
 | none=>none
theorem putI_fit {L:Nat} {img:Nat→Nat} {s:Nat×Nat×Nat} (h:∀i,i<L→img i<65536) (hA:s.1<65536):∀i,i<L→putI L img s i<65536:=fun i hi=>by
 unfold putI
 split
 ·by_cases e:i=img (s.2.2+1)
  ·simp only[if_pos e];exact hA
  ·simp only[if_neg e];exact h i hi
 ·exact h i hi
theorem imgE_fit {L:Nat} {img:Nat→Nat} {s:Nat×Nat×Nat} (hL:L≤128) (h:∀i,i<L→img i<65536) (hA:s.1<65536) (hB:s.2.1<65536) (hP:s.2.2<65536):∀n,(∀i,i<L→imgE L img s n i<65536)∧∀t e,runE L img s n=(some t,e)→t.1<65536∧t.2.1<65536∧t.2.2<65536
 | 0=>⟨h,fun t e hr=>by rw[runE_zero]at hr;simp only[Prod.mk.injEq,Option.some.injEq]at hr;obtain⟨rfl,_⟩:=hr;exact⟨hA,hB,hP⟩⟩
 | n+1=>by
  obtain⟨h1,h2⟩:=imgE_fit hL h hA hB hP n
  cases hr:runE L img s n with
  | mk o es=>
   cases o with
   | none=>exact⟨by rw[imgE_none hr];exact h1,fun t e q=>by rw[runE_none hr]at q;cases q⟩
   | some u=>
    obtain⟨a,b,c⟩:=h2 u es hr
    refine⟨by rw[ak9 hr];exact putI_fit h1 a,fun t e q=>?_⟩
    rw[ai7 hr]at q
    simp only[Prod.mk.injEq]at q
    exact stepE_fit hL h1 a b c q.1
theorem PairOk.next {kb:KB} {qb:QB} {w w':World} {co:Bool} {A B P n:Nat} (h:PairOk kb qb w (some (co,A,B,P)))
  (hk:∀s,(runE kb.L kb.img (A,B,P) n).1=some s→(kb.at (A,B,P) n).on true s.1 s.2.1 s.2.2 w') (hkn:(runE kb.L kb.img (A,B,P) n).1=none→kb.off w')
  (hq:∀s,(runE qb.L qb.img (A,B,P) n).1=some s→(qb.at (A,B,P) n).on true s.1 s.2.1 s.2.2 w') (hqn:(runE qb.L qb.img (A,B,P) n).1=none→qb.off w'):
  PairOk (kb.at (A,B,P) n) (qb.at (A,B,P) n) w' (stOf (runE kb.L kb.img (A,B,P) n).1):=by
 have fitN:(kb.at (A,B,P) n).Fit:=by
  obtain⟨⟨ks,prs,v0,v1,ha⟩,_⟩:=h.on
  exact(imgE_fit h.ok.L2 h.fit ha.a ha.bb ha.pp n).1
 rw[←h.L,←h.img]at hq hqn
 refine⟨h.ok.im _,h.okq.im _,h.L,?_,?_,fun s hs=>?_,fitN⟩
 ·show imgE kb.L kb.img (A,B,P) n=imgE qb.L qb.img (A,B,P) n
  rw[h.L,h.img]
 ·cases hr:(runE kb.L kb.img (A,B,P) n).1 with
  | some s=>
   refine⟨hk s hr,?_⟩
   exact hq s hr
  | none=>exact⟨hkn hr,(hqn hr).im _⟩
 ·cases hr:runE kb.L kb.img (A,B,P) n with
  | mk o es=>
   rw[hr]at hs
   cases o with
   | none=>cases hs
   | some t=>
    cases hs
    exact(h.safe _ rfl).next hr
end Go.Fxa
namespace Go.Fxa
open Go.Conc
open Go.Proofs
open Go.RowKit
set_option maxRecDepth 1000000
def pkR (P:Program):Code:=match (((P.funcs[76]?).bind fun f=>f.body):Option Code)with
 | some (Code.seq _ (Code.seq _ c))=>c
 | _=>Code.skip
theorem pkR_at:pkR Tryz.prog=(match Tryz.f76.body with|some (.seq _ (.seq _ c))=>c|_=>.skip):=by kernel_rfl
theorem evsC_at:∀(l:List (Nat×Nat×Nat)) (i q:Nat) (h:i<l.length),q<4→(evsC l)[i*4+q]?=(evC l[i])[q]?
 | [],i,q,h,_=>by simp at h
 | x::l,0,q,_,hq=>by
  show(evC x++evsC l)[0*4+q]?=_
  rw[Nat.zero_mul,Nat.zero_add,List.getElem?_append_left (by simp[evC];omega)]
  rfl
 | x::l,i+1,q,h,hq=>by
  show(evC x++evsC l)[(i+1)*4+q]?=_
  rw[List.getElem?_append_right (by simp[evC];omega),show(i+1)*4+q-(evC x).length=i*4+q by simp[evC];omega,evsC_at l i q (by simpa using h) hq]
  rfl
theorem told_at {base:Nat} {told:Value} {w:World} {evs:List (Nat×Nat×Nat)} (h:ToldE base told w evs) {i:Nat} (hi:i<evs.length):∃g c,told=.slice (some ⟨g,0,none⟩) evs.length c∧w.cell? ⟨g,i*4,none⟩=some (.int .i64 1)∧w.cell? ⟨g,i*4+1,none⟩=some (.int .i64 evs[i].1)∧w.cell? ⟨g,i*4+2,none⟩=some (.int .i64 evs[i].2.1)∧w.cell? ⟨g,i*4+3,none⟩=some (.int .i64 evs[i].2.2):=by
 have h':w.ownsRow base 59 4 told evs.length (evsC evs):=h
 have h2:=h'.2
 rcases h2 with⟨_,e⟩|⟨g,cap,cur,rfl,_⟩
 ·omega
 ·refine⟨g,cap,rfl,?_,?_,?_,?_⟩
  ·exact(h'.cellAt (i*4) (by omega)).trans (evsC_at evs i 0 hi (by omega))
  ·exact(h'.cellAt (i*4+1) (by omega)).trans (evsC_at evs i 1 hi (by omega))
  ·exact(h'.cellAt (i*4+2) (by omega)).trans (evsC_at evs i 2 hi (by omega))
  ·exact(h'.cellAt (i*4+3) (by omega)).trans (evsC_at evs i 3 hi (by omega))
section
variable (m:Nat) (w:World)
set_option maxHeartbeats 8000000 in
theorem picks_rest (f:Nat→Value) (T:Nat→Nat) (wb bk mm:Nat) (tl:Nat→Value) (ls:List (Value×Int)) (ps:Value) (h:BookX T w bk tl mm ls) (hw:w.heap[wb]?=some (.cells #[.pointer (some ⟨bk,0,none⟩),ps] 78 (0,0))) (X ka ra:Nat) (hX:w.heap[X]?=some (.cells #[.pointer (some ⟨ka,0,none⟩),.pointer (some ⟨ra,0,none⟩)] 83 (0,0))) (pid n er:Int) (told:Value) (evs:List (Nat×Nat×Nat)) (ht:ToldE 0 told w evs) (htT:∀g,told.ownBlock=some g→T g=0) (hl:evs.length≤1000) (hmm:mm≤100000000)
  (F:Nat→Prop) (hF:∀k,F k→¬(1≤T k∧T k≤8)) (hFt:∀g,told.ownBlock=some g→¬F g) (hFw:¬F wb) (Ψ:World→Prop) (hΨ:∀w1 w2,Keep (KeepS T told) w1 w2→Ψ w1→Ψ w2)
  (hr:∀m,CallsIn NF m Tryz.prog 32 #[.pointer (some ⟨ra,0,none⟩),.int .i64 pid,.int .i64 n] w fun e w'=>∃told',e=.returned (.tuple #[told',.int .i64 er])∧Keep F w w'∧ToldE 0 told' w' evs∧Ψ w'):
  (pkR Tryz.prog).wpIn NF m Tryz.prog (Rets fun tm w'=>(∃g,tm=TN 67 (ups g [(8,.bool true)]))∧Ψ w'∧Keep (fun k=>F k∨KeepS T told k) w w'∧∃T',BookX T' w' bk tl (mm+1) ls∧∀k,k<w.heap.size→T' k=ad4 T told 6 k) ⟨TN 67 (ups f [(0,.pointer (some ⟨wb,0,none⟩)),(2,.int .i64 pid),(3,.int .i64 n),(5,.pointer (some ⟨X,0,none⟩)),(9,told),(10,.int .i64 er)]),[]⟩ w:=by
 have x1:w.cell? ⟨X,1,none⟩=some (.pointer (some ⟨ra,0,none⟩)):=by rw[aa0 hX];rfl
 obtain⟨ta,tc,htf⟩:=ac1 (show w.ownsRow 0 59 4 told evs.length (evsC evs)from ht)
 rw[pkR_at]
 dsimp only[Tryz.f76]
 refine ac7 (by simp only[TN,List.range,List.range.loop,List.map,ups,Nat.reduceEqDiff,reduceIte];rfl) ?_
 gi_wp2_with fail
 refine(hr _).mono ?_
 rintro e w1 ⟨told',rfl,K1,t1,hp1⟩
 have ht1:ToldE 0 told w1 evs:=aa3 (show w.ownsRow 0 59 4 told evs.length (evsC evs)from ht) K1 hFt
 have hW1:=K1.old hw hFw
 have B1:=h.keep K1 (fun k a b e=>hF k e ⟨a,b⟩)
 obtain⟨ua,uc,huf⟩:=ac1 (show w1.ownsRow 0 59 4 told' evs.length (evsC evs)from t1)
 generalize hlen:evs.length=N at*
 subst htf huf
 gi_wp2_with (gi_at_call 70;refine(num_calls _ w1 er).mono ?_;rintro e wz ⟨rfl,hwz⟩;have hwz:=hwz.symm;subst hwz)
 gi_loopw [13,14] (fun ok i wr=>ok=.bool true∧∃j:Nat,j≤N∧i=.int .i64 j∧Keep No w1 wr) (fun _ i _=>N-(intOf i).toNat)
 case atStart=>exact⟨rfl,0,by omega,rfl,Keep.refl _ _⟩
 case round=>
  obtain⟨rfl,j,hj,rfl,hK⟩:=hrel
  by_cases hlt:j<N
  ·have hlt':(j:Int)<N:=by omega
   obtain⟨g1,d1,q1,a0,a1,a2,a3⟩:=told_at ht1 (i:=j) (by omega)
   obtain⟨g2,d2,q2,b0,b1,b2,b3⟩:=told_at t1 (i:=j) (by omega)
   rw[hlen]at q1 q2
   cases q1
   cases q2
   have c0:=hK.has a0
   have c1:=hK.has a1
   have c2:=hK.has a2
   have c3:=hK.has a3
   have e0:=hK.has b0
   have e1:=hK.has b1
   have e2:=hK.has b2
   have e3:=hK.has b3
   gi_wp2
   refine aa9 (P:=Tryz.prog) No _ rfl rfl (by kernel_rfl) 8 67 [0,1,2,3,4,5,6,7] [] (by kernel_rfl) (by rfl) (fun _ _ _=>True) (fun _ _ _ _ _ h _=>h) _ _ rfl rfl ?_
   gi_wp2
   refine⟨rfl,by kernel_rfl,?_,(fun i hi=>absurd hi (by simp)),?_⟩
   ·intro V hV
    have p0:=hV.has (w:=wr.drew) c0
    have p1:=hV.has (w:=wr.drew) c1
    have p2:=hV.has (w:=wr.drew) c2
    have p3:=hV.has (w:=wr.drew) c3
    have r0:=hV.has (w:=wr.drew) e0
    have r1:=hV.has (w:=wr.drew) e1
    have r2:=hV.has (w:=wr.drew) e2
    have r3:=hV.has (w:=wr.drew) e3
    repeat' (refine aa8 ?_ ?_)
    all_goals first|exact trivial|gi_wp2
   intro u V hV _
   simp only[putS]
   gi_wp2
   go_roundw
   case rel=>exact⟨by simp,j+1,by omega,by go_num,hK.drew.then hV⟩
   case measure=>simp[intOf];omega
  ·have hlt':¬(j:Int)<N:=by omega
   have hW2:=hK.old hW1 id
   have b0:wr.cell? ⟨wb,0,none⟩=some (.pointer (some ⟨bk,0,none⟩)):=by rw[aa0 hW2];rfl
   have t2:ToldE 0 (.slice ta N tc) wr evs:=ht1.more hK
   gi_wp2_with fail
   refine(keepEvents_X _ wr T bk mm tl ls (B1.keepNo hK) (.slice ta N tc) N (evsC evs) (by rw[←hlen];rw[←hlen]at t2;exact t2) htT (by omega) (by omega)).mono ?_
   rintro e w3 ⟨rfl,K3,T',B3,hT3⟩
   gi_wp2
   exact⟨rfl,rfl,⟨_,af1 rfl (by simp)⟩,hΨ _ _ K3 (hΨ _ _ hK.no hp1),((K1.mono (fun k _ e=>.inl e)).then hK.no).trans K3 (fun k _ e=>.inr e),T',B3,fun k hk=>hT3 k (Nat.lt_of_lt_of_le hk (Nat.le_trans K1.size hK.size))⟩
end
end Go.Fxa
namespace Go.Fxa
open Go.Conc
open Go.Proofs
open Go.RowKit
theorem pair_new {kb:KB} {qb:QB} {w:World} {C M n N8:Nat} {img:Nat→Nat} (hp:PairOn kb qb w (some (false,0,0,0))) (hm:MayBe C M n (fun i=>img i)) (h8:8*nblk n=N8)
  (hk:1≤kb.pc∧kb.N=C∧kb.M=M∧kb.L=N8∧kb.img=ah5 n img)
  (hq:qb.C=C∧qb.M=M∧qb.L=N8∧qb.img=ah5 n img∧qb.L≤qb.ic∧qb.cr≠qb.sr∧qb.cr≠qb.qi∧qb.sr≠qb.qi∧qb.cr≠qb.rb∧qb.cr≠qb.qrb∧qb.cr≠qb.qb∧qb.sr≠qb.rb∧qb.sr≠qb.qrb∧qb.sr≠qb.qb∧qb.qi≠qb.rb∧qb.qi≠qb.qrb∧qb.qi≠qb.qb)
  (hs:EverSafe N8 (ah5 n img) (0,0,0)):PairOk kb qb w (some (false,0,0,0)):=by
 obtain⟨k1,k2,k3,k4,k5⟩:=hk
 obtain⟨q1,q2,q3,q4,q5,d1,d2,d3,c1,c2,c3,s1,s2,s3,i1,i2,i3⟩:=hq
 obtain⟨⟨m1,m2,m3,m4⟩,⟨m5,m6,m7⟩,m8⟩:=hm
 have hb:nblk N8=nblk n:=by unfold nblk at h8 ⊢;omega
 have hn1:1≤nblk n∧nblk n≤16:=by unfold nblk;omega
 refine⟨⟨?_,?_,?_,?_,?_,?_,k1⟩,⟨?_,?_,?_,?_,?_,q5,d1,d2,d3,c1,c2,c3,s1,s2,s3,i1,i2,i3⟩,k4.trans q3.symm,k5.trans q4.symm,hp,fun s h=>?_,fun i hi=>?_⟩
 ·rw[k4];omega
 ·rw[k4];omega
 ·rw[k4,k2,hb];omega
 ·rw[k2];omega
 ·rw[k4,k3,hb];omega
 ·rw[k3];omega
 ·rw[q3];omega
 ·rw[q3];omega
 ·rw[q3,q1,hb];omega
 ·rw[q1];omega
 ·rw[q2];omega
 ·cases h
  rw[k4,k5]
  exact hs
 ·rw[k5]
  unfold ah5
  split
  ·rename_i h
   have:=m7 i h
   simp only at this
   omega
  ·omega
theorem ex_may:MayBe (16:Nat) (20:Nat) 10 (fun i=>exI i):=by
 refine⟨⟨by omega,by omega,by omega,by omega⟩,⟨by omega,by omega,fun i hi=>?_⟩,by decide⟩
 match i,hi with
 | 0,_=>decide
 | 1,_=>decide
 | 2,_=>decide
 | 3,_=>decide
 | 4,_=>decide
 | 5,_=>decide
 | 6,_=>decide
 | 7,_=>decide
 | 8,_=>decide
 | 9,_=>decide
end Go.Fxa
namespace Go.Fxa
open Go.Conc
open Go.Proofs
open Go.RowKit
set_option maxRecDepth 1000000
def pk1 (P:Program):Code:=match (((P.funcs[19]?).bind fun f=>f.body):Option Code)with
 | some (Code.seq _ (Code.seq c _))=>c
 | _=>Code.skip
theorem pk1_eq:pk1 Tryz.prog=Code.region 1 #[{ dst:=some 9,op:=Op.move (Operand.tmp 0),type:=33,pos:= "ferry.go:41",after:=#[],guard:=none },{ dst:=some 10,op:=Op.move (Operand.tmp 1),type:=3,pos:= "ferry.go:41",after:=#[],guard:=none },{ dst:=some 11,op:=Op.call { callee:=Callee.value (Operand.func 54),args:=#[Operand.tmp 9,Operand.tmp 10],argTypes:=#[33,3] },type:=119,pos:= "ferry.go:41",after:=#[{ on:=0,ground:=Ground.data },{ on:=1,ground:=Ground.data }],guard:=none },{ dst:=some 8,op:=Op.assign (Operand.tmp 11),type:=119,pos:= "ferry.go:41",after:=#[{ on:=2,ground:=Ground.data },{ on:=2,ground:=Ground.chain },{ on:=0,ground:=Ground.phase },{ on:=1,ground:=Ground.phase },{ on:=2,ground:=Ground.phase }],guard:=none }] false:=by kernel_rfl
theorem pk1_ops:(pk1 Tryz.prog).allOps (ac5 Tryz.prog)=true:=by kernel_rfl
theorem pkR_ops:(pkR Tryz.prog).allOps (ac5 Tryz.prog)=true:=by kernel_rfl
section
variable (m:Nat) (w:World) (f:Nat→Value)
theorem pick_find (b:KB) (co:Bool) (A B P:Nat) (n:Int) (h:b.on co A B P w):(pk1 Tryz.prog).wpIn NF m Tryz.prog (Ends fun tm w'=>(∃g,tm=TN 27 (ups g [(0,.pointer (some ⟨b.kb,0,none⟩)),(1,.int .i64 1),(2,.int .i64 n),(8,.pointer (some ⟨b.pb,0,none⟩))]))∧Keep No w w') ⟨TN 27 (ups f [(0,.pointer (some ⟨b.kb,0,none⟩)),(1,.int .i64 1),(2,.int .i64 n)]),[]⟩ w:=by
 obtain⟨ks,prs,x0,x1,h1⟩:=h
 have c2:w.cell? ⟨b.kb,2,none⟩=some (.slice (some ⟨b.prb,0,none⟩) 1 b.pc):=(aa0 h1.k 2).trans h1.k2
 have r0:w.cell? ⟨b.prb,0,none⟩=some (.pointer (some ⟨b.pb,0,none⟩)):=(aa0 h1.r 0).trans h1.r0
 have p0:w.cell? ⟨b.pb,0,none⟩=some (.int .i64 1):=by rw[aa0 h1.p];rfl
 rw[pk1_eq]
 show Code.wpIn (Fence.list LF none) m Tryz.prog _ _ ⟨#[.pointer (some ⟨b.kb,0,none⟩),.int .i64 1,.int .i64 n,f 3,f 4,f 5,f 6,f 7,f 8,f 9,f 10,f 11,f 12,f 13,f 14,f 15,f 16,f 17,f 18,f 19,f 20,f 21,f 22,f 23,f 24,f 25,f 26],[]⟩ _
 gi_wp2_with fail
 refine(find_hit _ w b.kb b.prb b.pb b.pc c2 r0 p0).mono ?_
 rintro e w2 ⟨rfl,hw⟩
 have hw:=hw.symm
 subst hw
 gi_wp2
 exact⟨rfl,rfl,⟨_,af1 rfl (by simp)⟩,Keep.refl _ _⟩
theorem pick_lost (b:KB) (n:Int) (pid:Int) (h:(∃co A B P,b.on co A B P w)∧pid≠1∨b.off w):(pk1 Tryz.prog).wpIn NF m Tryz.prog (Ends fun tm w'=>(∃g,tm=TN 27 (ups g [(0,.pointer (some ⟨b.kb,0,none⟩)),(1,.int .i64 pid),(2,.int .i64 n),(8,.pointer none)]))∧Keep No w w') ⟨TN 27 (ups f [(0,.pointer (some ⟨b.kb,0,none⟩)),(1,.int .i64 pid),(2,.int .i64 n)]),[]⟩ w:=by
 rw[pk1_eq]
 show Code.wpIn (Fence.list LF none) m Tryz.prog _ _ ⟨#[.pointer (some ⟨b.kb,0,none⟩),.int .i64 pid,.int .i64 n,f 3,f 4,f 5,f 6,f 7,f 8,f 9,f 10,f 11,f 12,f 13,f 14,f 15,f 16,f 17,f 18,f 19,f 20,f 21,f 22,f 23,f 24,f 25,f 26],[]⟩ _
 gi_wp2_with fail
 refine(kfind_no _ w b pid h).mono ?_
 rintro e w2 ⟨rfl,hw⟩
 have hw:=hw.symm
 subst hw
 gi_wp2
 exact⟨rfl,rfl,⟨_,af1 rfl (by simp)⟩,Keep.refl _ _⟩
end
end Go.Fxa
namespace Go.Fxa
open Go.Conc
open Go.Proofs
open Go.RowKit
def ai6 (P:Program) (f:FuncId):Code:=match (((P.funcs[f]?).bind fun f=>f.body):Option Code)with
 | some c=>c
 | none=>Code.skip
def ac6:Nat→Code→Code
 | 0,c=>c
 | n+1,.seq _ c=>ac6 n c
 | _+1,_=>.skip
def piece:Code→Code
 | .seq c _=>c
 | c=>c
theorem body3:ai6 Tryz.prog 3=Tryz.f3.body.getD .skip:=by kernel_rfl
theorem body12:ai6 Tryz.prog 12=Tryz.f12.body.getD .skip:=by kernel_rfl
theorem body19:ai6 Tryz.prog 19=Tryz.f19.body.getD .skip:=by kernel_rfl
theorem body33:ai6 Tryz.prog 33=Tryz.f33.body.getD .skip:=by kernel_rfl
theorem body76:ai6 Tryz.prog 76=Tryz.f76.body.getD .skip:=by kernel_rfl
def plT (P:Program):Code:=ac6 9 (ai6 P 12)
theorem plT_ops:(plT Tryz.prog).allOps (ac5 Tryz.prog)=true:=by kernel_rfl
theorem sp0_ops:(piece (ai6 Tryz.prog 33)).allOps (ac5 Tryz.prog)=true:=by kernel_rfl
theorem sp1_ops:(piece (ac6 1 (ai6 Tryz.prog 33))).allOps (ac5 Tryz.prog)=true:=by kernel_rfl
theorem nr3:(Tryz.prog.funcs[3]?).any (·.norace)=false:=by kernel_rfl
theorem nr12:(Tryz.prog.funcs[12]?).any (·.norace)=false:=by kernel_rfl
theorem nr19:(Tryz.prog.funcs[19]?).any (·.norace)=false:=by kernel_rfl
theorem nr33:(Tryz.prog.funcs[33]?).any (·.norace)=false:=by kernel_rfl
theorem nr76:(Tryz.prog.funcs[76]?).any (·.norace)=false:=by kernel_rfl
end Go.Fxa
namespace Go.Fxa
open Go.Conc
open Go.Proofs
open Go.RowKit
set_option maxRecDepth 1000000
def pickN (c:Int) (n:Nat):Nat:=if c<0 then((-(c+1)) % (n:Int)).toNat else(c % (n:Int)).toNat
theorem pickN_lt (c:Int) {n:Nat} (hn:1≤n):pickN c n<n:=by
 unfold pickN
 split
 ·have:=Int.emod_lt_of_pos (-(c+1)) (show(0:Int)<n by omega)
  have:=Int.emod_nonneg (-(c+1)) (show(n:Int)≠0 by omega)
  omega
 ·have:=Int.emod_lt_of_pos c (show(0:Int)<n by omega)
  have:=Int.emod_nonneg c (show(n:Int)≠0 by omega)
  omega
section
variable (m:Nat) (w:World)
theorem pick_exact (c:Int) (n r:Nat) (hc:-9223372036854775808≤c) (hc':c≤9223372036854775807) (hn:1≤n) (hn':n≤4) (hr:pickN c n=r):CallsIn NF m Tryz.prog 75 #[.int .i64 c,.int .i64 n] w fun e w'=>e=.returned (.int .i64 r)∧w'=w:=by
 unfold pickN at hr
 by_cases h0:c<0
 ·rw[if_pos h0]at hr
  gi_enter Tryz.func75,Tryz.ntmps75
  gi_wp2
  all_goals go_ret
  refine⟨ret_int ?_,rfl⟩
  have:=Int.emod_nonneg (-(c+1)) (show(n:Int)≠0 by omega)
  have e:-((c+1).tmod (n:Int))=(-(c+1)) % (n:Int):=by rw[←Int.neg_tmod,Int.tmod_eq_emod_of_nonneg (by omega)]
  simp only[e]
  omega
 ·rw[if_neg h0]at hr
  gi_enter Tryz.func75,Tryz.ntmps75
  gi_wp2
  all_goals go_ret
  have h1:=Int.emod_lt_of_pos c (show(0:Int)<n by omega)
  have h2:=Int.emod_nonneg c (show(n:Int)≠0 by omega)
  exact⟨ret_int (by omega),rfl⟩
def sp1 (P:Program):Code:=piece (ac6 1 (ai6 P 33))
set_option maxHeartbeats 4000000 in
theorem step_pair (f:Nat→Value) (wb O np pg cp r ka ra:Nat) (on:Int) (h1:w.cell? ⟨wb,1,none⟩=some (.slice (some ⟨pg,0,none⟩) np cp)) (hO:w.cell? ⟨O,1,none⟩=some (.int .i64 on)) (hon:-9223372036854775808≤on) (hon2:on≤9223372036854775807) (hnp1:1≤np) (hnp4:np≤4) (hr:pickN on np=r) (hp0:w.cell? ⟨pg,r*2,none⟩=some (.pointer (some ⟨ka,0,none⟩))) (hp1:w.cell? ⟨pg,r*2+1,none⟩=some (.pointer (some ⟨ra,0,none⟩))):
  (sp1 Tryz.prog).wpIn NF m Tryz.prog (Ends fun tm w'=>∃g Y,tm=TN 104 (ups g [(0,.pointer (some ⟨wb,0,none⟩)),(3,.pointer (some ⟨O,0,none⟩)),(5,.pointer (some ⟨Y,0,none⟩))])∧Keep No w w'∧w.heap.size≤Y∧w'.heap[Y]?=some (.cells #[.pointer (some ⟨ka,0,none⟩),.pointer (some ⟨ra,0,none⟩)] 83 (0,0))) ⟨TN 104 (ups f [(0,.pointer (some ⟨wb,0,none⟩)),(3,.pointer (some ⟨O,0,none⟩))]),[]⟩ w:=by
 have hlt:r<np:=hr ▸ pickN_lt on hnp1
 have hlt':(r:Int)<np:=by omega
 unfold sp1
 rw[body33]
 dsimp only[Tryz.f33,Option.getD,ac6,piece]
 refine ac7 (by simp only[TN,List.range,List.range.loop,List.map,ups,Nat.reduceEqDiff,reduceIte];rfl) ?_
 refine aa9 (P:=Tryz.prog) No _ rfl rfl (by kernel_rfl) 15 104 [0,1,2,3,4,5,6,7,8,9,10,11,12,13] [14] (by kernel_rfl) (by rfl) (fun _ v W=>∃Y,v=.pointer (some ⟨Y,0,none⟩)∧w.heap.size≤Y∧W.heap[Y]?=some (.cells #[.pointer none,.pointer none] 83 (0,0)))
  (fun _ _ _ _ _ h hK=>let ⟨Y,q1,q2,q3⟩:=h;⟨Y,q1,q2,hK.old q3 id⟩) _ _ rfl rfl ?_
 gi_wp2_with (gi_at_call 75;refine(pick_exact _ w.drew on np r hon hon2 hnp1 hnp4 hr).mono ?_;rintro e wz ⟨rfl,hwz⟩;have hwz:=hwz.symm;subst hwz)
 refine⟨rfl,by kernel_rfl,?_,?_,?_⟩
 ·intro V hV
  have d1:=hV.has (w:=w.drew) h1
  have d2:=hV.has (w:=w.drew) hO
  have d3:=hV.has (w:=w.drew) hp0
  have d4:=hV.has (w:=w.drew) hp1
  repeat' (refine aa8 ?_ ?_)
  all_goals first|exact trivial|gi_wp2_with (gi_at_call 75;refine(pick_exact _ V on np r hon hon2 hnp1 hnp4 hr).mono ?_;rintro e wz ⟨rfl,hwz⟩;have hwz:=hwz.symm;subst hwz)
 ·intro i hi u V hV hu
  obtain rfl:i=14:=by simpa using hi
  refine ac4 rfl fun KK hKK=>?_
  show wpListIn NF m Tryz.prog _ _ _ (Act.put _ (some 5) (u 14)) _
  gi_wp2
  exact⟨.pointer (some ⟨V.heap.size,0,none⟩),by kernel_rfl,(Keep.refl _ _).alloc _,V.heap.size,rfl,hV.size,aa4 rfl⟩
 intro u V hV hu
 obtain⟨Y,e14,lY,hY⟩:=hu 14 (by simp)
 show wpListIn NF m Tryz.prog _ _ _ (Act.put _ (some 5) (u 14)) _
 rw[e14]
 have y0:V.cell? ⟨Y,0,none⟩=some (.pointer none):=by rw[aa0 hY];rfl
 have f0:=ab3 hY 0
 have hY1:=aa2 (i:=0) hY (.pointer (some ⟨ka,0,none⟩))
 have y1:(V.setCell ⟨Y,0,none⟩ (.pointer (some ⟨ka,0,none⟩))).cell? ⟨Y,1,none⟩=some (.pointer none):=by rw[aa0 hY1];rfl
 have f1:=ab3 hY1 1
 gi_wp2
 have k1:Keep (Go.Fxa.At Y) V (V.setCell ⟨Y,0,none⟩ (.pointer (some ⟨ka,0,none⟩))):=Keep.set1 _
 have k2:Keep (Go.Fxa.At Y) (V.setCell ⟨Y,0,none⟩ (.pointer (some ⟨ka,0,none⟩))) ((V.setCell ⟨Y,0,none⟩ (.pointer (some ⟨ka,0,none⟩))).setCell ⟨Y,1,none⟩ (.pointer (some ⟨ra,0,none⟩))):=Keep.set1 _
 exact⟨rfl,rfl,_,Y,af1 rfl (by simp),((Keep.refl No w).drew.then hV).trans (k1.then k2) (fun k hk e=>absurd (show k=Y from e) (by omega)),lY,(aa2 hY1 _).trans rfl⟩
end
end Go.Fxa
namespace Go.Fxa
open Go.Conc
open Go.Proofs
open Go.RowKit
def Goes (Od:Old) (P:Program) (x:Frame×List Frame) (v:World) (Q:Frame×List Frame→World→Prop):Prop:=
 ∀(Z:Nat→Prop) (Shun:Loc→Prop) (B:Nat) (gs:Array Goroutine) (w:World) (sl:Option (Nat×Nat)) (t:Trace),Under Shun Z→Beside Od P Shun Z B v gs w t→gs[0]?=some (gOf x)→
  Leads P gs w sl t fun gs' w' t'=>∃Z' Shun' B' y v',Under Shun' Z'∧Beside Od P Shun' Z' B' v' gs' w' t'∧gs'[0]?=some (gOf y)∧Q y v'
section
variable {P:Program} {x:Frame×List Frame} {v:World} {Q R:Frame×List Frame→World→Prop}
theorem Goes.now {Od:Old} (h:Q x v):Goes Od P x v Q:=fun Z Shun B _ _ _ _ hu Bs h0=>.now ⟨Z,Shun,B,x,v,hu,Bs,h0,h⟩
theorem Beside.re {Od:Old} {Shun:Loc→Prop} {Z:Nat→Prop} {B:Nat} {gs:Array Goroutine} {w:World} {t:Trace} (h:Beside Od P Shun Z B v gs w t) (τ:Nat→Question→Nat) (d:Nat):Beside Od P Shun Z B (v.re τ d) gs w t:=
 let ⟨q,T,hZ,h3⟩:=h;⟨q,T.retape τ w.tape d w.drawn,hZ,h3⟩
theorem Goes.re {Od:Old} {τ:Nat→Question→Nat} {d:Nat} (h:Goes Od P x (v.re τ d) Q):Goes Od P x v Q:=fun Z Shun B gs w sl t hu Bs h0=>h Z Shun B gs w sl t hu (Bs.re τ d) h0
theorem Goes.logs {Od:Old} {n:Nat} (h:logs P n x=some []) (k:Goes Od P (run P n x) v Q):Goes Od P x v Q:=fun Z Shun B _ _ _ _ hu Bs h0=>
 (Bs.sil h0 (sil_logs h)).then fun gs' w' sl' t' _ ⟨h1,Bs1,_⟩=>k Z Shun B gs' w' sl' t' hu Bs1 h1
theorem Goes.step {Od:Old} {y:Frame×List Frame} (h:quietStep P x=some y) (k:Goes Od P y v Q):Goes Od P x v Q:=fun Z Shun B _ _ _ _ hu Bs h0=>
 (Bs.sil (k:=1) h0 ⟨rfl,gOf y,fun w _=>quiet_step h w,rfl⟩).then fun gs' w' sl' t' _ ⟨h1,Bs1,_⟩=>k Z Shun B gs' w' sl' t' hu Bs1 h1
theorem Goes.reads {Od:Old} {vs:List Value} {ads:List Addr} {y:Value} (hr:ag7 P x vs=some (ads,y)) (hc:Cells v ads vs) (k:Goes Od P (did x y) v Q):Goes Od P x v Q:=fun Z Shun B gs w sl t hu Bs h0=>by
 obtain⟨q,T,hZ,hL,hP,hB⟩:=Bs
 obtain⟨hcw,hnz⟩:=cells_twin T hc
 have step1:ComesTo P gs w sl t fun gs' w' t'=>gs'[0]?=some (gOf (did x y))∧Beside Od P Shun Z B v gs' w' t':=by
  refine go_mute past_mutes h0 rfl hL hP fun d t1 hP1=>⟨_,_,_,reads_step hr (w:=w.at d) (cells_twin (T.retape v.tape w.tape v.drawn d) hc).1,fun gs' q' _ h' hL' sl'=>.now ⟨h',q',T.retape v.tape w.tape v.drawn d,hZ,hL',hP1.own fun e he=>?_,hB⟩⟩
  simp only[al2,List.mem_toArray,List.mem_map]at he
  obtain⟨a,ha,rfl⟩:=he
  obtain⟨z1,z2⟩:=hnz a ha
  refine⟨fun b hb hsh=>?_,by simp,by simp,?_⟩
  ·obtain rfl:=Option.some.inj hb
   exact(z1 (hu.1 _ hsh)).elim
  ·show a.block<B
   omega
 exact step1.then fun gs' w' sl' t' _ ⟨h1,Bs1⟩=>k Z Shun B gs' w' sl' t' hu Bs1 h1
end
section
variable {fnR:FuncId} {kd:CallKind} {tmps:Array Value} {k:List Item} {ds:List Deferred} {cs:List Frame} {c:Code} {v:World} {m:Nat} {Q:World→Array Value→World→Prop} {R:Frame×List Frame→World→Prop}
theorem Goes.part {Od:Old} (hn:(Tryz.prog.funcs[fnR]?).any (·.norace)=false) (hkd:(kd==CallKind.early)=false) (hc:c.allOps (ac5 Tryz.prog)=true) (hw:∀v1,Keep No v v1→c.wpIn NF m Tryz.prog (Ends (Q v1)) ⟨tmps,[]⟩ v1)
  (hk:∀v1 tm v',Keep No v v1→Q v1 tm v'→Goes Od Tryz.prog (Frame.mk fnR tm k ds .run kd none,cs) v' R):Goes Od Tryz.prog (Frame.mk fnR tmps (.code c::k) ds .run kd none,cs) v R:=fun Z Shun B gs w sl t hu Bs h0=>by
 refine(piece_beside fencedTryz hu waysTryz.hosted (ao1 hn nr185) hkd hc (Q:=Ends fun tm w'=>∃τ d,Q (v.re τ d) tm w') ends_ok (fun τ d=>wpIn_mono (hw _ (af3 v τ d)) fun e a w' h=>⟨h.1,h.2.1,τ,d,h.2.2⟩) Bs h0).then fun gs' w' sl' t' _ ⟨g,v',B',h1,⟨tm,τ,d,hb⟩,_,_,h2⟩=>?_
 rcases hb with⟨rfl,_,_,τ1,d1,hq⟩|⟨_,_,he,_⟩
 ·exact(hk _ tm _ (af3 v τ1 d1) hq).re Z Shun B' gs' w' sl' t' hu h2 h1
 ·cases he
theorem Goes.rets {Od:Old} (hn:(Tryz.prog.funcs[fnR]?).any (·.norace)=false) (hkd:(kd==CallKind.early)=false) (hc:c.allOps (ac5 Tryz.prog)=true) (hw:∀v1,Keep No v v1→c.wpIn NF m Tryz.prog (Rets (Q v1)) ⟨tmps,[]⟩ v1)
  (hk:∀v1 tm todo v',Keep No v v1→Q v1 tm v'→Goes Od Tryz.prog (Frame.mk fnR tm todo ds .returning kd none,cs) v' R):Goes Od Tryz.prog (Frame.mk fnR tmps (.code c::k) ds .run kd none,cs) v R:=fun Z Shun B gs w sl t hu Bs h0=>by
 refine(piece_beside fencedTryz hu waysTryz.hosted (ao1 hn nr185) hkd hc (Q:=Rets fun tm w'=>∃τ d,Q (v.re τ d) tm w') rets_ok (fun τ d=>wpIn_mono (hw _ (af3 v τ d)) fun e a w' h=>⟨h.1,h.2.1,τ,d,h.2.2⟩) Bs h0).then fun gs' w' sl' t' _ ⟨g,v',B',h1,⟨tm,τ,d,hb⟩,_,_,h2⟩=>?_
 rcases hb with⟨_,he,_⟩|⟨todo,rfl,_,_,τ1,d1,hq⟩
 ·cases he
 ·exact(hk _ tm todo _ (af3 v τ1 d1) hq).re Z Shun B' gs' w' sl' t' hu h2 h1
theorem Goes.seq {Od:Old} {a b:Code} (h:Goes Od Tryz.prog (Frame.mk fnR tmps (.code a::.code b::k) ds .run kd none,cs) v R):Goes Od Tryz.prog (Frame.mk fnR tmps (.code (a.seq b)::k) ds .run kd none,cs) v R:=Goes.step rfl h
end
theorem goes_goOn {Od:Old} {b:KB} {co:Bool} {s0:Nat×Nat×Nat} {v:World} {n:Nat} {c0:Frame} {cs:List Frame} {R:Frame×List Frame→World→Prop} (ok:b.Ok) (fit:b.Fit) (sf:EverSafe b.L b.img s0) (hn:n≤1000) (hon:b.on co s0.1 s0.2.1 s0.2.2 v)
  (hk:∀told v',SF b s0 v n told v'→Goes Od Tryz.prog (c0.finish told,cs) v' R):Goes Od Tryz.prog (z0 Tryz.prog (.pointer (some ⟨b.kb,0,none⟩)) ⟨b.pb,0,none⟩ (n:Nat) (c0::cs)) v R:=fun Z Shun B gs w sl t hu Bs h0=>by
 have old:∀k,b.foot k→k<v.heap.size:=let ⟨ks,prs,v0,v1,h⟩:=hon;h.lt
 refine(goOn_beside all_facts waysTryz (makesTryz 0) (startsTryz 0) (by omega) (by omega) (storyOf b s0 v n 0 ok (sf.sf n) old hn) (openOf b s0 v n 0 ok fit (sf.sf n) old hn) hu (show SO b s0 v v from⟨Keep.refl _ _,co,hon⟩) Bs h0).bind fun gs' w' sl' t' ⟨Z',Shun',_,hu',told,v',B',hf,h1,Bs'⟩=>?_
 exact hk told v' hf Z' Shun' B' gs' w' sl' t' hu' Bs' h1
def pkX (P:Program):Code:=ac6 2 (ai6 P 19)
theorem pkX_ops:(pkX Tryz.prog).allOps (ac5 Tryz.prog)=true:=by kernel_rfl
def pkQ (P:Program) (i:Nat):Code:=piece (ac6 (i+2) (ai6 P 19))
theorem pkQ0_ops:(pkQ Tryz.prog 0).allOps (ac5 Tryz.prog)=true:=by kernel_rfl
theorem pkQ1_ops:(pkQ Tryz.prog 1).allOps (ac5 Tryz.prog)=true:=by kernel_rfl
theorem pkQ2_ops:(pkQ Tryz.prog 2).allOps (ac5 Tryz.prog)=true:=by kernel_rfl
def pkZ (P:Program):Code:=ac6 5 (ai6 P 19)
theorem pkX_seq:pkX Tryz.prog=(pkQ Tryz.prog 0).seq ((pkQ Tryz.prog 1).seq ((pkQ Tryz.prog 2).seq (pkZ Tryz.prog))):=by kernel_rfl
section
variable (kp pid n:Value) (cs:List Frame)
def pA (P:Program:=Tryz.prog):Frame×List Frame:=run P 6 (Frame.enter P 19 #[kp,pid,n] .normal,cs)
theorem pA_a:logs Tryz.prog 6 (Frame.enter Tryz.prog 19 #[kp,pid,n] .normal,cs)=some []:=by kernel_rfl
theorem pA_b:ae2 (pA kp pid n cs)=(19,[.code (pk1 Tryz.prog),.code (pkX Tryz.prog)],[],.run,.normal,none,cs):=by kernel_rfl
theorem pA_c:ad0 (pA kp pid n cs) [0,1,2]=[kp,pid,n]:=by kernel_rfl
theorem pA_d:(pA kp pid n cs).1.tmps.size=27:=by kernel_rfl
variable (pa:Addr) (f:Nat→Value) (told:Value) (c0:Frame)
def pB (P:Program:=Tryz.prog):Frame×List Frame:=(Frame.mk 19 (TN 27 (ups f [(0,kp),(2,n),(8,pv pa)])) [.code (pkZ P)] [] .run .normal none,cs)
def pC (P:Program:=Tryz.prog):Frame:=(below (run P 6 (pB kp n cs pa f P))).1
theorem pB_a:logs Tryz.prog 6 (pB kp n cs pa f)=some []:=by kernel_rfl
theorem pB_b:run Tryz.prog 6 (pB kp n cs pa f)=(Frame.enter Tryz.prog 56 #[kp,pv pa,n] .normal,pC kp n cs pa f::cs):=by kernel_rfl
theorem pC_a:logs Tryz.prog 5 ((pC kp n (c0::cs) pa f).finish told,c0::cs)=some []:=by kernel_rfl
theorem pC_b:run Tryz.prog 5 ((pC kp n (c0::cs) pa f).finish told,c0::cs)=(c0.finish (.tuple #[told,.int .i64 0]),cs):=by kernel_rfl
theorem pD_a (e:Int) (todo:List Item):logs Tryz.prog 1 (Frame.mk 19 (TN 27 (ups f [(6,told),(7,.int .i64 e)])) todo [] .returning .normal none,c0::cs)=some []:=by kernel_rfl
theorem pD_b (e:Int) (todo:List Item):run Tryz.prog 1 (Frame.mk 19 (TN 27 (ups f [(6,told),(7,.int .i64 e)])) todo [] .returning .normal none,c0::cs)=(c0.finish (.tuple #[told,.int .i64 e]),cs):=by kernel_rfl
end
end Go.Fxa
namespace Go.Fxa
open Go.Conc
open Go.Proofs
open Go.RowKit
set_option maxRecDepth 1000000
section
variable (m:Nat) (w:World) (f:Nat→Value)
theorem pick_no1 (kp pid n:Value):(pkX Tryz.prog).wpIn NF m Tryz.prog (Rets fun tm w'=>(∃g,tm=TN 27 (ups g [(6,.slice none 0 0),(7,.int .i64 2)]))∧Keep No w w') ⟨TN 27 (ups f [(0,kp),(1,pid),(2,n),(8,.pointer none)]),[]⟩ w:=by
 unfold pkX
 rw[body19]
 dsimp only[Tryz.f19,Option.getD,ac6]
 show Code.wpIn (Fence.list LF none) m Tryz.prog _ _ ⟨#[kp,pid,n,f 3,f 4,f 5,f 6,f 7,.pointer none,f 9,f 10,f 11,f 12,f 13,f 14,f 15,f 16,f 17,f 18,f 19,f 20,f 21,f 22,f 23,f 24,f 25,f 26],[]⟩ _
 gi_wp2
 exact⟨rfl,rfl,⟨_,af1 rfl (by simp)⟩,Keep.refl _ _⟩
theorem pick_no2 (kp pid:Value) (pa:Addr) (n:Int) (hn:n<1):(pkX Tryz.prog).wpIn NF m Tryz.prog (Rets fun tm w'=>(∃g,tm=TN 27 (ups g [(6,.slice none 0 0),(7,.int .i64 4)]))∧Keep No w w') ⟨TN 27 (ups f [(0,kp),(1,pid),(2,.int .i64 n),(8,.pointer (some pa))]),[]⟩ w:=by
 unfold pkX
 rw[body19]
 dsimp only[Tryz.f19,Option.getD,ac6]
 show Code.wpIn (Fence.list LF none) m Tryz.prog _ _ ⟨#[kp,pid,.int .i64 n,f 3,f 4,f 5,f 6,f 7,.pointer (some pa),f 9,f 10,f 11,f 12,f 13,f 14,f 15,f 16,f 17,f 18,f 19,f 20,f 21,f 22,f 23,f 24,f 25,f 26],[]⟩ _
 gi_wp2
 exact⟨rfl,rfl,⟨_,af1 rfl (by simp)⟩,Keep.refl _ _⟩
theorem pick_no3 (kp pid:Value) (pa:Addr) (n:Int) (hn:1000<n):(pkX Tryz.prog).wpIn NF m Tryz.prog (Rets fun tm w'=>(∃g,tm=TN 27 (ups g [(6,.slice none 0 0),(7,.int .i64 4)]))∧Keep No w w') ⟨TN 27 (ups f [(0,kp),(1,pid),(2,.int .i64 n),(8,.pointer (some pa))]),[]⟩ w:=by
 unfold pkX
 rw[body19]
 dsimp only[Tryz.f19,Option.getD,ac6]
 have hn0:¬n<1:=by omega
 show Code.wpIn (Fence.list LF none) m Tryz.prog _ _ ⟨#[kp,pid,.int .i64 n,f 3,f 4,f 5,f 6,f 7,.pointer (some pa),f 9,f 10,f 11,f 12,f 13,f 14,f 15,f 16,f 17,f 18,f 19,f 20,f 21,f 22,f 23,f 24,f 25,f 26],[]⟩ _
 gi_wp2
 exact⟨rfl,rfl,⟨_,af1 rfl (by simp)⟩,Keep.refl _ _⟩
theorem pick_q0 (kp:Value) (pa:Addr) (n:Int):(pkQ Tryz.prog 0).wpIn NF m Tryz.prog (Ends fun tm w'=>(∃g,tm=TN 27 (ups g [(0,kp),(2,.int .i64 n),(8,.pointer (some pa))]))∧Keep No w w') ⟨TN 27 (ups f [(0,kp),(2,.int .i64 n),(8,.pointer (some pa))]),[]⟩ w:=by
 unfold pkQ
 rw[body19]
 dsimp only[Tryz.f19,Option.getD,ac6,piece]
 show Code.wpIn (Fence.list LF none) m Tryz.prog _ _ ⟨#[kp,f 1,.int .i64 n,f 3,f 4,f 5,f 6,f 7,.pointer (some pa),f 9,f 10,f 11,f 12,f 13,f 14,f 15,f 16,f 17,f 18,f 19,f 20,f 21,f 22,f 23,f 24,f 25,f 26],[]⟩ _
 gi_wp2
 exact⟨rfl,rfl,⟨_,af1 rfl (by simp)⟩,Keep.refl _ _⟩
theorem pick_q1 (kp:Value) (pa:Addr) (n:Int) (h1:¬n<1) (h2:¬1000<n):(pkQ Tryz.prog 1).wpIn NF m Tryz.prog (Ends fun tm w'=>(∃g,tm=TN 27 (ups g [(0,kp),(2,.int .i64 n),(8,.pointer (some pa))]))∧Keep No w w') ⟨TN 27 (ups f [(0,kp),(2,.int .i64 n),(8,.pointer (some pa))]),[]⟩ w:=by
 unfold pkQ
 rw[body19]
 dsimp only[Tryz.f19,Option.getD,ac6,piece]
 show Code.wpIn (Fence.list LF none) m Tryz.prog _ _ ⟨#[kp,f 1,.int .i64 n,f 3,f 4,f 5,f 6,f 7,.pointer (some pa),f 9,f 10,f 11,f 12,f 13,f 14,f 15,f 16,f 17,f 18,f 19,f 20,f 21,f 22,f 23,f 24,f 25,f 26],[]⟩ _
 gi_wp2
 exact⟨rfl,rfl,⟨_,af1 rfl (by simp)⟩,Keep.refl _ _⟩
theorem pick_q2 (kp:Value) (b:KB) (co:Bool) (A B P:Nat) (n:Int) (h:b.on co A B P w):(pkQ Tryz.prog 2).wpIn NF m Tryz.prog (Ends fun tm w'=>(∃g,tm=TN 27 (ups g [(0,kp),(2,.int .i64 n),(8,.pointer (some ⟨b.pb,0,none⟩))]))∧Keep No w w') ⟨TN 27 (ups f [(0,kp),(2,.int .i64 n),(8,.pointer (some ⟨b.pb,0,none⟩))]),[]⟩ w:=by
 obtain⟨ks,prs,x0,x1,h1⟩:=h
 have c2:w.cell? ⟨b.pb,2,none⟩=some (.bool false):=by rw[aa0 h1.p];rfl
 have c4:w.cell? ⟨b.pb,4,none⟩=some .nilFunc:=by rw[aa0 h1.p];rfl
 unfold pkQ
 rw[body19]
 dsimp only[Tryz.f19,Option.getD,ac6,piece]
 show Code.wpIn (Fence.list LF none) m Tryz.prog _ _ ⟨#[kp,f 1,.int .i64 n,f 3,f 4,f 5,f 6,f 7,.pointer (some ⟨b.pb,0,none⟩),f 9,f 10,f 11,f 12,f 13,f 14,f 15,f 16,f 17,f 18,f 19,f 20,f 21,f 22,f 23,f 24,f 25,f 26],[]⟩ _
 gi_wp2_with fail
 refine(state_ready _ w b.pb c2 c4).mono ?_
 rintro e w2 ⟨rfl,hw⟩
 have hw:=hw.symm
 subst hw
 gi_wp2
 exact⟨rfl,rfl,⟨_,af1 rfl (by simp)⟩,Keep.refl _ _⟩
end
/-! ### from its call to its return -/
section
variable {v:World} {c0:Frame} {cs:List Frame} {R:Frame×List Frame→World→Prop}
theorem pA_at (kp pid n:Value) (cs:List Frame):pA kp pid n cs=(Frame.mk 19 (TN 27 (ups (slot (pA kp pid n cs)) [(0,kp),(1,pid),(2,n)])) [.code (pk1 Tryz.prog),.code (pkX Tryz.prog)] [] .run .normal none,cs):=
 ag2 (l:=[(0,kp),(1,pid),(2,n)]) (pA_b kp pid n cs) (pA_c kp pid n cs) (pA_d kp pid n cs)
end
end Go.Fxa
namespace Go.Fxa
open Go.Conc
open Go.Proofs
open Go.RowKit
theorem tn_again {n:Nat} {g:Nat→Value} {L:List (Nat×Value)} (l:List (Nat×Value)) (h:∀p∈l,ups g L p.1=p.2):TN n (ups g L)=TN n (ups (ups g L) l):=by rw[ao9 h]
section
variable {v:World} {c0:Frame} {cs:List Frame} {R:Frame×List Frame→World→Prop} {b:KB}
theorem pick_goes_on {Od:Old} {co:Bool} {s0:Nat×Nat×Nat} {n:Nat} (ok:b.Ok) (fit:b.Fit) (sf:EverSafe b.L b.img s0) (hn1:1≤n) (hn:n≤1000) (hon:b.on co s0.1 s0.2.1 s0.2.2 v)
  (hk:∀v1 told v',Keep No v v1→SF b s0 v1 n told v'→Goes Od Tryz.prog (c0.finish (.tuple #[told,.int .i64 0]),cs) v' R):
  Goes Od Tryz.prog (Frame.enter Tryz.prog 19 #[.pointer (some ⟨b.kb,0,none⟩),.int .i64 1,.int .i64 (n:Nat)] .normal,c0::cs) v R:=by
 have no:∀k,b.foot k→¬No k:=fun _ _ x=>x
 refine Goes.logs (pA_a _ _ _ _) ?_
 rw[show run Tryz.prog 6 (Frame.enter Tryz.prog 19 #[.pointer (some ⟨b.kb,0,none⟩),.int .i64 1,.int .i64 (n:Nat)] .normal,c0::cs)=pA (.pointer (some ⟨b.kb,0,none⟩)) (.int .i64 1) (.int .i64 (n:Nat)) (c0::cs)from rfl,pA_at]
 refine Goes.part (m:=0) nr19 rfl pk1_ops (fun v1 K1=>pick_find 0 v1 _ b co s0.1 s0.2.1 s0.2.2 n (hon.keep K1 no)) fun v1 tm v2 K1 ⟨⟨g,e⟩,K2⟩=>?_
 subst e
 have k2:=K1.then K2
 rw[pkX_seq,tn_again [(0,.pointer (some ⟨b.kb,0,none⟩)),(2,.int .i64 (n:Nat)),(8,.pointer (some ⟨b.pb,0,none⟩))] (by simp[ups])]
 refine Goes.seq (Goes.part (m:=0) nr19 rfl pkQ0_ops (fun v1 _=>pick_q0 0 v1 _ _ _ _) fun v3 tm v4 K3 ⟨⟨g4,e⟩,K4⟩=>?_)
 subst e
 have k4:=k2.then (K3.then K4)
 refine Goes.seq (Goes.part (m:=0) nr19 rfl pkQ1_ops (fun v1 _=>pick_q1 0 v1 _ _ _ _ (by omega) (by omega)) fun v5 tm v6 K5 ⟨⟨g6,e⟩,K6⟩=>?_)
 subst e
 have k6:=k4.then (K5.then K6)
 refine Goes.seq (Goes.part (m:=0) nr19 rfl pkQ2_ops (fun v1 K=>pick_q2 0 v1 _ _ b co s0.1 s0.2.1 s0.2.2 _ (hon.keep (k6.then K) no)) fun v7 tm v8 K7 ⟨⟨g8,e⟩,K8⟩=>?_)
 subst e
 have k8:=k6.then (K7.then K8)
 refine Goes.logs (x:=pB (.pointer (some ⟨b.kb,0,none⟩)) (.int .i64 (n:Nat)) (c0::cs) ⟨b.pb,0,none⟩ g8) (pB_a _ _ _ _ _) ?_
 rw[pB_b]
 refine goes_goOn (co:=co) (s0:=s0) ok fit sf hn (hon.keep k8 no) fun told v' hf=>?_
 refine Goes.logs (pC_a _ _ _ _ _ _ _) ?_
 rw[pC_b]
 exact hk v8 told v' k8 hf
theorem pick_goes_no {Od:Old} {pid n:Int} (h:(∃co A B P,b.on co A B P v)∧pid≠1∨b.off v) (hk:∀v',Keep No v v'→Goes Od Tryz.prog (c0.finish (.tuple #[.slice none 0 0,.int .i64 2]),cs) v' R):
  Goes Od Tryz.prog (Frame.enter Tryz.prog 19 #[.pointer (some ⟨b.kb,0,none⟩),.int .i64 pid,.int .i64 n] .normal,c0::cs) v R:=by
 refine Goes.logs (pA_a _ _ _ _) ?_
 rw[show run Tryz.prog 6 (Frame.enter Tryz.prog 19 #[.pointer (some ⟨b.kb,0,none⟩),.int .i64 pid,.int .i64 n] .normal,c0::cs)=pA (.pointer (some ⟨b.kb,0,none⟩)) (.int .i64 pid) (.int .i64 n) (c0::cs)from rfl,pA_at]
 refine Goes.part (m:=0) nr19 rfl pk1_ops (fun v1 K1=>pick_lost 0 v1 _ b n pid (h.imp (fun⟨⟨co,A,B,P,q⟩,r⟩=>⟨⟨co,A,B,P,q.keep K1 (fun _ _ x=>x)⟩,r⟩) fun q=>q.keep K1 id)) fun v1 tm v2 K1 ⟨⟨g,e⟩,K2⟩=>?_
 subst e
 refine Goes.rets (m:=0) nr19 rfl pkX_ops (fun v1 _=>pick_no1 0 v1 _ _ _ _) fun v3 tm todo v4 K3 ⟨⟨g4,e⟩,K4⟩=>?_
 subst e
 refine Goes.logs (pD_a _ _ _ _ _ _) ?_
 rw[pD_b]
 exact hk v4 (K1.then (K2.then (K3.then K4)))
theorem pick_goes_steps {Od:Old} {co:Bool} {A B P:Nat} {n:Int} (hon:b.on co A B P v) (hn:n<1∨1000<n) (hk:∀v',Keep No v v'→Goes Od Tryz.prog (c0.finish (.tuple #[.slice none 0 0,.int .i64 4]),cs) v' R):
  Goes Od Tryz.prog (Frame.enter Tryz.prog 19 #[.pointer (some ⟨b.kb,0,none⟩),.int .i64 1,.int .i64 n] .normal,c0::cs) v R:=by
 refine Goes.logs (pA_a _ _ _ _) ?_
 rw[show run Tryz.prog 6 (Frame.enter Tryz.prog 19 #[.pointer (some ⟨b.kb,0,none⟩),.int .i64 1,.int .i64 n] .normal,c0::cs)=pA (.pointer (some ⟨b.kb,0,none⟩)) (.int .i64 1) (.int .i64 n) (c0::cs)from rfl,pA_at]
 refine Goes.part (m:=0) nr19 rfl pk1_ops (fun v1 K1=>pick_find 0 v1 _ b co A B P n (hon.keep K1 (fun _ _ x=>x))) fun v1 tm v2 K1 ⟨⟨g,e⟩,K2⟩=>?_
 subst e
 refine Goes.rets (m:=0) nr19 rfl pkX_ops (fun v1 _=>hn.elim (pick_no2 0 v1 _ _ _ _ n) (pick_no3 0 v1 _ _ _ _ n)) fun v3 tm todo v4 K3 ⟨⟨g4,e⟩,K4⟩=>?_
 subst e
 refine Goes.logs (pD_a _ _ _ _ _ _) ?_
 rw[pD_b]
 exact hk v4 (K1.then (K2.then (K3.then K4)))
end
end Go.Fxa
