/- plays: its first pieces. plays: the document's first example goes three steps. plays: the loop over the script, its frames and pieces. plays: the loop over the script, whole, beside leavers. plays: at the end all are asked. -/
import Derived.Test.YtmhplpfpcnjekaaGreatK34
namespace Go.Fxa
open Go.Conc
open Go.Proofs
open Go.RowKit
set_option maxRecDepth 1000000
def plP (P:Program) (i:Nat):Code:=piece (ac6 i (ai6 P 12))
def plB (P:Program) (i:Nat):Code:=ac6 i (ai6 P 12)
theorem plP0_ops:(plP Tryz.prog 0).allOps (ac5 Tryz.prog)=true:=by kernel_rfl
theorem plP1_ops:(plP Tryz.prog 1).allOps (ac5 Tryz.prog)=true:=by kernel_rfl
theorem plP2_ops:(plP Tryz.prog 2).allOps (ac5 Tryz.prog)=true:=by kernel_rfl
theorem plP3_ops:(plP Tryz.prog 3).allOps (ac5 Tryz.prog)=true:=by kernel_rfl
theorem plP4_ops:(plP Tryz.prog 4).allOps (ac5 Tryz.prog)=true:=by kernel_rfl
theorem plP6_ops:(plP Tryz.prog 6).allOps (ac5 Tryz.prog)=true:=by kernel_rfl
theorem plP7_ops:(plP Tryz.prog 7).allOps (ac5 Tryz.prog)=true:=by kernel_rfl
def Plain (n:Nat) (f:Nat→Int):Prop:=∀i,i<n→f i≠3∧f i≠10∧(f i=11→i+1<n∧(f (i+1)=1∨f (i+1)=12))
section
variable (m:Nat) (w:World) (f:Nat→Value)
theorem play_box (co sw pr fi sc mo:Value):(plP Tryz.prog 0).wpIn NF m Tryz.prog (Ends fun tm w'=>∃g C,tm=TN 196 (ups g [(1,sc),(2,mo),(3,.pointer (some ⟨C,0,none⟩))])∧Keep No w w'∧w.heap.size≤C∧w'.heap[C]?=some (.cells #[co,sw,pr,fi] 25 (0,0))) ⟨TN 196 (ups f [(0,.agg #[co,sw,pr,fi]),(1,sc),(2,mo)]),[]⟩ w:=by
 unfold plP
 rw[body12]
 dsimp only[Tryz.f12,Option.getD,ac6,piece]
 refine ac7 (by simp only[TN,List.range,List.range.loop,List.map,ups,Nat.reduceEqDiff,reduceIte];rfl) ?_
 gi_wp2
 exact⟨rfl,rfl,_,w.heap.size,af1 rfl (by simp),(Keep.refl _ _).alloc _,Nat.le_refl _,aa4 rfl⟩
set_option maxHeartbeats 4000000 in
theorem play_new (sc mo cv:Value):(plP Tryz.prog 1).wpIn NF m Tryz.prog (Ends fun tm w'=>∃g wb bk,tm=TN 196 (ups g [(1,sc),(2,mo),(3,cv),(7,.pointer (some ⟨wb,0,none⟩))])∧Keep No w w'∧w.heap.size≤wb∧w.heap.size≤bk∧wb≠bk∧w'.heap[wb]?=some (.cells #[.pointer (some ⟨bk,0,none⟩),.slice none 0 0] 78 (0,0))∧w'.heap[bk]?=some (.cells #[.int .i64 0,.slice none 0 0,.slice none 0 0,.slice none 0 0,.slice none 0 0,.slice none 0 0,.slice none 0 0,.slice none 0 0,.slice none 0 0,.slice none 0 0,.slice none 0 0] 75 (0,0))) ⟨TN 196 (ups f [(1,sc),(2,mo),(3,cv)]),[]⟩ w:=by
 unfold plP
 rw[body12]
 dsimp only[Tryz.f12,Option.getD,ac6,piece]
 refine ac7 (by simp only[TN,List.range,List.range.loop,List.map,ups,Nat.reduceEqDiff,reduceIte];rfl) ?_
 gi_wp2
 have K1:Keep No w (w.alloc (.cells #[.int .i64 0,.slice none 0 0,.slice none 0 0,.slice none 0 0,.slice none 0 0,.slice none 0 0,.slice none 0 0,.slice none 0 0,.slice none 0 0,.slice none 0 0,.slice none 0 0] 75)):=(Keep.refl _ _).alloc _
 have h1:(w.alloc (.cells #[.int .i64 0,.slice none 0 0,.slice none 0 0,.slice none 0 0,.slice none 0 0,.slice none 0 0,.slice none 0 0,.slice none 0 0,.slice none 0 0,.slice none 0 0,.slice none 0 0] 75)).heap[w.heap.size]?=some (.cells #[.int .i64 0,.slice none 0 0,.slice none 0 0,.slice none 0 0,.slice none 0 0,.slice none 0 0,.slice none 0 0,.slice none 0 0,.slice none 0 0,.slice none 0 0,.slice none 0 0] 75 (0,0)):=aa4 rfl
 have K2:Keep No (w.alloc (.cells #[.int .i64 0,.slice none 0 0,.slice none 0 0,.slice none 0 0,.slice none 0 0,.slice none 0 0,.slice none 0 0,.slice none 0 0,.slice none 0 0,.slice none 0 0,.slice none 0 0] 75)) ((w.alloc (.cells #[.int .i64 0,.slice none 0 0,.slice none 0 0,.slice none 0 0,.slice none 0 0,.slice none 0 0,.slice none 0 0,.slice none 0 0,.slice none 0 0,.slice none 0 0,.slice none 0 0] 75)).alloc (.cells #[.pointer (some ⟨w.heap.size,0,none⟩),.slice none 0 0] 78)):=(Keep.refl _ _).alloc _
 have e:=ab2 h1
 exact⟨rfl,rfl,_,(w.alloc (.cells #[.int .i64 0,.slice none 0 0,.slice none 0 0,.slice none 0 0,.slice none 0 0,.slice none 0 0,.slice none 0 0,.slice none 0 0,.slice none 0 0,.slice none 0 0,.slice none 0 0] 75)).heap.size,w.heap.size,af1 rfl (by simp),K1.then K2,K1.size,Nat.le_refl _,by omega,aa4 rfl,K2.old h1 id⟩
set_option maxHeartbeats 4000000 in
theorem play_ex (T:Nat→Nat) (wb bk:Nat) (sc mo cv:Value) (h:WS T w wb bk 0 (fun _=>.slice none 0 0) [] (.slice none 0 0) []):(plP Tryz.prog 2).wpIn NF m Tryz.prog (Ends fun tm w'=>(∃g,tm=TN 196 (ups g [(1,sc),(2,mo),(3,cv),(7,.pointer (some ⟨wb,0,none⟩)),(8,.bool true)]))∧∃T' tl' ls' ps' p,WS T' w' wb bk 2 tl' ls' ps' [p]∧ls'.length=1∧Moves T w T' w'∧p.kb.L=16∧p.kb.img=exP∧p.st=some (false,0,0,0)) ⟨TN 196 (ups f [(1,sc),(2,mo),(3,cv),(7,.pointer (some ⟨wb,0,none⟩))]),[]⟩ w:=by
 unfold plP
 rw[body12]
 dsimp only[Tryz.f12,Option.getD,ac6,piece]
 refine ac7 (by simp only[TN,List.range,List.range.loop,List.map,ups,Nat.reduceEqDiff,reduceIte];rfl) ?_
 gi_wp2_with fail
 refine(example_calls _ w).mono ?_
 rintro e w1 ⟨K1,eb,lb,rfl,hs⟩
 have h1:=h.keepNo K1
 gi_wp2_with fail
 refine(more_ok _ w1 T wb bk 0 _ [] _ 0 [] h1.book h1.blk h1.twb h1.row h1.trow (by omega) 16 20 10 16 _ exI hs ex_may (by decide) (by omega) (by simp)).mono ?_
 rintro e w2 ⟨rfl,K2,T',tl',ls',kb,qb,ps',B,hl,hT,hW,hR,hg,hp,fk,fq,dis,ak,aq⟩
 gi_wp2
 obtain⟨T2,W2,M2⟩:=h1.more K2 B hT hW hR hg (pair_new hp ex_may (by decide) ak aq ex_always) fk fq dis
 exact⟨rfl,rfl,⟨_,af1 rfl (by simp)⟩,T2,tl',ls',ps',⟨kb,qb,some (false,0,0,0)⟩,W2,by rw[hl];rfl,(Moves.no K1).trans M2,ak.2.2.2.1,ak.2.2.2.2,rfl⟩
theorem plain_safe {n N8:Nat} {f:Nat→Int} {img:Nat→Nat} (hf:Plain n f) (he:∀i,i<n→f i=img i):EverSafe N8 (ah5 n img) (0,0,0):=by
 refine always_plain (fun i hi=>?_) (fun i hi=>?_) (fun i hi h11=>?_)
 ·unfold ah5
  split
  ·rename_i lt
   have:=(hf i lt).1
   rw[he i lt]at this
   omega
  ·omega
 ·unfold ah5
  split
  ·rename_i lt
   have:=(hf i lt).2.1
   rw[he i lt]at this
   omega
  ·omega
 ·unfold ah5 at h11 ⊢
  split at h11
  ·rename_i lt
   have h:=(hf i lt).2.2 (by rw[he i lt,h11];rfl)
   rw[if_pos h.1]
   have:=h.2
   rw[he (i+1) h.1]at this
   omega
  ·omega
set_option maxHeartbeats 4000000 in
theorem play_more (T:Nat→Nat) (wb bk C:Nat) (tl:Nat→Value) (ls:List (Value×Int)) (ps:Value) (p:Two) (sc mo pv:Value) (core swap:Int) (n:Nat) (fi:Nat→Int) (h:WS T w wb bk 2 tl ls ps [p]) (hls:ls.length=1) (hC:w.heap[C]?=some (.cells #[.int .i64 core,.int .i64 swap,pv,.slice none 0 0] 25 (0,0))) (hs:SlI w pv n fi) (h0:n=0→pv=.slice none 0 0) (hn:n≤9000000) (hf:Plain n fi):
  (plP Tryz.prog 3).wpIn NF m Tryz.prog (Ends fun tm w'=>(∃g,tm=TN 196 (ups g [(1,sc),(2,mo),(7,.pointer (some ⟨wb,0,none⟩)),(8,.bool true),(9,.bool true)]))∧∃T' tl' ls' ps' l',WS T' w' wb bk 4 tl' ls' ps' (p::l')∧l'.length≤1∧Moves T w T' w') ⟨TN 196 (ups f [(1,sc),(2,mo),(3,.pointer (some ⟨C,0,none⟩)),(7,.pointer (some ⟨wb,0,none⟩)),(8,.bool true)]),[]⟩ w:=by
 have c0:w.cell? ⟨C,0,none⟩=some (.int .i64 core):=by rw[aa0 hC];rfl
 have c1:w.cell? ⟨C,1,none⟩=some (.int .i64 swap):=by rw[aa0 hC];rfl
 have c2:w.cell? ⟨C,2,none⟩=some pv:=by rw[aa0 hC];rfl
 have c3:w.cell? ⟨C,3,none⟩=some (.slice none 0 0):=by rw[aa0 hC];rfl
 obtain⟨s,c,epv⟩:=hs.form
 subst epv
 unfold plP
 rw[body12]
 dsimp only[Tryz.f12,Option.getD,ac6,piece]
 refine ac7 (by simp only[TN,List.range,List.range.loop,List.map,ups,Nat.reduceEqDiff,reduceIte];rfl) ?_
 gi_wp2_with fail
 by_cases hm:MayBe core swap n fi
 ·have hw:=hm.2.1.2.2
  have he:∀i,i<n→fi i=((fi i).toNat:Nat):=fun i hi=>by have:=hw i hi;omega
  have hs':SlI w (.slice s n c) n (fun i=>((fi i).toNat:Nat)):=by
   obtain⟨a,s',c',e,b⟩:=hs
   refine⟨a,s',c',e,fun hp=>?_⟩
   obtain⟨bb,oo,e2,q⟩:=b hp
   exact⟨bb,oo,e2,fun i hi=>(q i hi).trans (congrArg (fun z=>some (Value.int .i64 z)) (he i hi))⟩
  obtain⟨C0,eC⟩:∃C0:Nat,core=C0:=⟨core.toNat,by have:=hm.1;omega⟩
  obtain⟨M0,eM⟩:∃M0:Nat,swap=M0:=⟨swap.toNat,by have:=hm.1;omega⟩
  subst eC eM
  have hm':MayBe C0 M0 n (fun i=>((fi i).toNat:Nat)):=⟨hm.1,⟨hm.2.1.1,hm.2.1.2.1,fun i hi=>by have:=hw i hi;have:=he i hi;simp only;omega⟩,hm.2.2⟩
  refine(more_ok _ w T wb bk 2 tl ls ps 1 _ h.book h.blk h.twb h.row h.trow (by omega) C0 M0 n (8*nblk n) _ (fun i=>(fi i).toNat) hs' hm' rfl (by omega) (by omega)).mono ?_
  rintro e w2 ⟨rfl,K2,T',tl',ls',kb,qb,ps',B,hl,hT,hW,hR,hg,hp,fk,fq,dis,ak,aq⟩
  gi_wp2
  obtain⟨T2,W2,M2⟩:=h.more K2 B hT hW hR hg (pair_new hp hm' rfl ak aq (plain_safe hf he)) fk fq dis
  exact⟨rfl,rfl,⟨_,af1 rfl (by simp)⟩,T2,tl',ls',ps',[⟨kb,qb,some (false,0,0,0)⟩],W2,by simp,M2⟩
 ·refine(more_no _ w T wb bk 2 tl ls ps h.book h.blk core swap n _ fi hs h0 hn (by omega) (by omega) hm).mono ?_
  rintro e w2 ⟨rfl,K2,T',tl',ls',B,hl,hT⟩
  gi_wp2
  exact⟨rfl,rfl,⟨_,af1 rfl (by simp)⟩,T',tl',ls',ps,[],h.books K2 (fun k hs _=>by omega) B hT,by simp,K2.mono fun k _ e=>e.1,hT⟩
theorem play_ok (wv sc mo:Value):(plP Tryz.prog 4).wpIn NF m Tryz.prog (Ends fun tm w'=>(∃g,tm=TN 196 (ups g [(1,sc),(2,mo),(7,wv)]))∧Keep No w w') ⟨TN 196 (ups f [(1,sc),(2,mo),(7,wv),(8,.bool true),(9,.bool true)]),[]⟩ w:=by
 unfold plP
 rw[body12]
 dsimp only[Tryz.f12,Option.getD,ac6,piece]
 refine ac7 (by simp only[TN,List.range,List.range.loop,List.map,ups,Nat.reduceEqDiff,reduceIte];rfl) ?_
 gi_wp2
 exact⟨rfl,rfl,⟨_,af1 rfl (by simp)⟩,Keep.refl _ _⟩
end
section
variable (cv sc mo told er:Value) (ka:Addr) (cs:List Frame) (f:Nat→Value) (wb pg n c:Nat)
def plsS (P:Program:=Tryz.prog):Frame×List Frame:=run P 1 (Frame.enter P 12 #[cv,sc,mo] .normal,cs)
theorem plsS_a:logs Tryz.prog 1 (Frame.enter Tryz.prog 12 #[cv,sc,mo] .normal,cs)=some []:=by kernel_rfl
theorem plsS_b:ae2 (plsS cv sc mo cs)=(12,[.code (plP Tryz.prog 0),.code (plB Tryz.prog 1)],[],.run,.normal,none,cs):=by kernel_rfl
theorem plsS_c:ad0 (plsS cv sc mo cs) [0,1,2]=[cv,sc,mo]:=by kernel_rfl
theorem plsS_d:(plsS cv sc mo cs).1.tmps.size=196:=by kernel_rfl
def plsA (P:Program:=Tryz.prog):Frame×List Frame:=(Frame.mk 12 (TN 196 (ups f [(1,sc),(2,mo),(7,.pointer (some ⟨wb,0,none⟩))])) [.code (plB P 5)] [] .run .normal none,cs)
theorem plsA_a:logs Tryz.prog 5 (plsA sc mo cs f wb)=some []:=by kernel_rfl
theorem plsA_b:ag7 Tryz.prog (run Tryz.prog 5 (plsA sc mo cs f wb)) [.slice (some ⟨pg,0,none⟩) n c]=some ([⟨wb,1,none⟩],.slice (some ⟨pg,0,none⟩) n c):=by kernel_rfl
def plsB (P:Program:=Tryz.prog):Frame×List Frame:=did (run P 5 (plsA sc mo cs f wb P)) (.slice (some ⟨pg,0,none⟩) n c)
theorem plsB_a:idxAt (plsB sc mo cs f wb pg n c)=some (76,.slice (some ⟨pg,0,none⟩) n c,.int .i64 (0:Nat)):=by kernel_rfl
def plsC (P:Program:=Tryz.prog):Frame×List Frame:=did (plsB sc mo cs f wb pg n c P) (.pointer (some ⟨pg,0,none⟩))
theorem plsC_a:logs Tryz.prog 1 (plsC sc mo cs f wb pg n c)=some []:=by kernel_rfl
theorem plsC_b:ag7 Tryz.prog (run Tryz.prog 1 (plsC sc mo cs f wb pg n c)) [.pointer (some ka)]=some ([⟨pg,0,none⟩],.pointer (some ka)):=by kernel_rfl
def plsD (P:Program:=Tryz.prog):Frame×List Frame:=did (run P 1 (plsC sc mo cs f wb pg n c P)) (.pointer (some ka))
theorem plsD_a:logs Tryz.prog 1 (plsD sc mo ka cs f wb pg n c)=some []:=by kernel_rfl
def plsE (P:Program:=Tryz.prog):Frame:=(below (run P 1 (plsD sc mo ka cs f wb pg n c P))).1
theorem plsD_b:run Tryz.prog 1 (plsD sc mo ka cs f wb pg n c)=(Frame.enter Tryz.prog 19 #[.pointer (some ka),.int .i64 1,.int .i64 3] .normal,plsE sc mo ka cs f wb pg n c::cs):=by kernel_rfl
def plsF (P:Program:=Tryz.prog):Frame×List Frame:=run P 6 ((plsE sc mo ka cs f wb pg n c P).finish (.tuple #[told,er]),cs)
theorem plsF_a:logs Tryz.prog 6 ((plsE sc mo ka cs f wb pg n c).finish (.tuple #[told,er]),cs)=some []:=by kernel_rfl
theorem plsF_b:ae2 (plsF sc mo told er ka cs f wb pg n c)=(12,[.code (plB Tryz.prog 6)],[],.run,.normal,none,cs):=by kernel_rfl
theorem plsF_c:ad0 (plsF sc mo told er ka cs f wb pg n c) [1,2,7,10,11]=[sc,mo,.pointer (some ⟨wb,0,none⟩),told,er]:=by kernel_rfl
theorem plsF_d:(plsF sc mo told er ka cs f wb pg n c).1.tmps.size=196:=by kernel_rfl
end
section
variable (m:Nat) (w:World) (f:Nat→Value)
set_option maxHeartbeats 4000000 in
theorem play_doc (sc mo told:Value) (wb pg np cp:Nat) (ra:Addr) (h1:w.cell? ⟨wb,1,none⟩=some (.slice (some ⟨pg,0,none⟩) np cp)) (hnp:1≤np) (hq:w.cell? ⟨pg,1,none⟩=some (.pointer (some ra))) (Ψ:Value→World→Prop)
  (hr:∀m,CallsIn NF m Tryz.prog 32 #[.pointer (some ra),.int .i64 1,.int .i64 3] w fun e w'=>∃told',e=.returned (.tuple #[told',.int .i64 0])∧Ψ told' w'):
  (plP Tryz.prog 6).wpIn NF m Tryz.prog (Ends fun tm w'=>∃g told',tm=TN 196 (ups g [(1,sc),(2,mo),(7,.pointer (some ⟨wb,0,none⟩)),(10,told),(11,.int .i64 0),(12,told'),(13,.int .i64 0)])∧Ψ told' w') ⟨TN 196 (ups f [(1,sc),(2,mo),(7,.pointer (some ⟨wb,0,none⟩)),(10,told),(11,.int .i64 0)]),[]⟩ w:=by
 have hnp':(0:Int)<np:=by omega
 unfold plP
 rw[body12]
 dsimp only[Tryz.f12,Option.getD,ac6,piece]
 refine ac7 (by simp only[TN,List.range,List.range.loop,List.map,ups,Nat.reduceEqDiff,reduceIte];rfl) ?_
 gi_wp2_with fail
 refine(hr _).mono ?_
 rintro e w1 ⟨told',rfl,h⟩
 gi_wp2
 exact⟨rfl,rfl,_,told',af1 rfl (by simp),h⟩
set_option maxHeartbeats 4000000 in
theorem play_same (wv sc mo told told':Value) (h:ToldE 0 told w [(12,1,0)]) (h':ToldE 0 told' w [(12,1,0)]):
  (plP Tryz.prog 7).wpIn NF m Tryz.prog (Ends fun tm w'=>(∃g,tm=TN 196 (ups g [(1,sc),(2,mo),(7,wv)]))∧Keep No w w') ⟨TN 196 (ups f [(1,sc),(2,mo),(7,wv),(10,told),(11,.int .i64 0),(12,told'),(13,.int .i64 0)]),[]⟩ w:=by
 obtain⟨g1,d1,q1,a0,a1,a2,a3⟩:=told_at h (i:=0) (by simp)
 obtain⟨g2,d2,q2,_⟩:=told_at h' (i:=0) (by simp)
 have q1:told=.slice (some ⟨g1,0,none⟩) 1 d1:=q1
 have q2:told'=.slice (some ⟨g2,0,none⟩) 1 d2:=q2
 subst q1 q2
 have b0:w.cell? ⟨g1,0,none⟩=some (.int .i64 1):=a0
 have b1:w.cell? ⟨g1,1,none⟩=some (.int .i64 12):=a1
 have b2:w.cell? ⟨g1,2,none⟩=some (.int .i64 1):=a2
 have b3:w.cell? ⟨g1,3,none⟩=some (.int .i64 0):=a3
 clear h h' a0 a1 a2 a3
 unfold plP
 rw[body12]
 dsimp only[Tryz.f12,Option.getD,ac6,piece]
 refine ac7 (by simp only[TN,List.range,List.range.loop,List.map,ups,Nat.reduceEqDiff,reduceIte];rfl) ?_
 gi_wp2
 exact⟨rfl,rfl,⟨_,af1 rfl (by simp)⟩,Keep.refl _ _⟩
end
def lcB (P:Program:=Tryz.prog):Code:=match piece (ac6 8 (ai6 P 12))with | .seq _ (.block _ (.loop b))=>b|_=>.skip
def lc11 (P:Program:=Tryz.prog):Code:=match (lcB P)with | .seq (.seq a _) _=>a|_=>.skip
def lc13 (P:Program:=Tryz.prog):Code:=match (lcB P)with | .seq _ (.seq (.block _ (.seq (.seq a _) _)) _)=>a|_=>.skip
def lc12 (P:Program:=Tryz.prog):Code:=match (lcB P)with | .seq _ (.seq _ r)=>r|_=>.skip
def lcS (P:Program:=Tryz.prog):Code:=match (lcB P)with | .seq _ (.seq (.block _ (.seq _ a)) _)=>a|_=>.skip
def lcT (P:Program:=Tryz.prog):Code:=match (lcS P)with | .seq _ t=>t|_=>.skip
def lcR (P:Program:=Tryz.prog):Code:=match (lcB P)with | .seq _ r=>r|_=>.skip
def lcC:Code:=Code.cond (Operand.tmp 88) Code.skip (Code.exit 0)
def lcD:Code:=Code.cond (Operand.tmp 97) (Code.exit 1) Code.skip
theorem lc11_ops:(lc11 Tryz.prog).allOps (ac5 Tryz.prog)=true:=by kernel_rfl
theorem lc13_ops:(lc13 Tryz.prog).allOps (ac5 Tryz.prog)=true:=by kernel_rfl
theorem lc12_ops:(lc12 Tryz.prog).allOps (ac5 Tryz.prog)=true:=by kernel_rfl
theorem lcT_ops:(lcT Tryz.prog).allOps (ac5 Tryz.prog)=true:=by kernel_rfl
section
variable (sc mo wv iv ov:Value) (cs:List Frame) (f:Nat→Value) (sb n c q:Nat) (kd on pid nn co sw:Int) (s1 s2:Option Addr) (n1 c1 n2 c2:Nat)
def lp0 (P:Program:=Tryz.prog):Frame×List Frame:=(Frame.mk 12 (TN 196 (ups f [(1,sc),(2,mo),(7,wv)])) [.code (ac6 8 (ai6 P 12))] [] .run .normal none,cs)
theorem lp0_a:logs Tryz.prog 7 (lp0 sc mo wv cs f)=some []:=by kernel_rfl
theorem lp0_b:ae2 (run Tryz.prog 7 (lp0 sc mo wv cs f))=(12,[.code lcB,.inLoop lcB,.inBlock 0,.code (plT Tryz.prog)],[],.run,.normal,none,cs):=by kernel_rfl
theorem lp0_c:ad0 (run Tryz.prog 7 (lp0 sc mo wv cs f)) [1,2,7,14]=[sc,mo,wv,.int .i64 (0:Nat)]:=by kernel_rfl
theorem lp0_d:(run Tryz.prog 7 (lp0 sc mo wv cs f)).1.tmps.size=196:=by kernel_rfl
def lpA (P:Program:=Tryz.prog):Frame×List Frame:=(Frame.mk 12 (TN 196 (ups f [(1,sc),(2,mo),(7,wv),(14,iv)])) [.code (lcB P),.inLoop (lcB P),.inBlock 0,.code (plT P)] [] .run .normal none,cs)
theorem lpA_a:logs Tryz.prog 2 (lpA sc mo wv iv cs f)=some []:=by kernel_rfl
theorem lpA_b:ae2 (run Tryz.prog 2 (lpA sc mo wv iv cs f))=(12,[.code lc11,.code lcC,.code lcR,.inLoop lcB,.inBlock 0,.code (plT Tryz.prog)],[],.run,.normal,none,cs):=by kernel_rfl
theorem lpA_c:ad0 (run Tryz.prog 2 (lpA sc mo wv iv cs f)) [1,2,7,14]=[sc,mo,wv,iv]:=by kernel_rfl
theorem lpA_d:(run Tryz.prog 2 (lpA sc mo wv iv cs f)).1.tmps.size=196:=by kernel_rfl
def lpB (P:Program:=Tryz.prog):Frame×List Frame:=(Frame.mk 12 (TN 196 (ups f [(1,sc),(2,mo),(7,wv),(14,iv),(88,.bool true)])) [.code lcC,.code (lcR P),.inLoop (lcB P),.inBlock 0,.code (plT P)] [] .run .normal none,cs)
theorem lpB_a:logs Tryz.prog 6 (lpB sc mo wv iv cs f)=some []:=by kernel_rfl
theorem lpB_b:ae2 (run Tryz.prog 6 (lpB sc mo wv iv cs f))=(12,[.code lc13,.code lcD,.code lcS,.inBlock 1,.code lc12,.inLoop lcB,.inBlock 0,.code (plT Tryz.prog)],[],.run,.normal,none,cs):=by kernel_rfl
theorem lpB_c:ad0 (run Tryz.prog 6 (lpB sc mo wv iv cs f)) [1,2,7,14]=[sc,mo,wv,iv]:=by kernel_rfl
theorem lpB_d:(run Tryz.prog 6 (lpB sc mo wv iv cs f)).1.tmps.size=196:=by kernel_rfl
def lpX (P:Program:=Tryz.prog):Frame×List Frame:=(Frame.mk 12 (TN 196 (ups f [(1,sc),(2,mo),(7,wv),(14,iv),(88,.bool false)])) [.code lcC,.code (lcR P),.inLoop (lcB P),.inBlock 0,.code (plT P)] [] .run .normal none,cs)
theorem lpX_a:logs Tryz.prog 2 (lpX sc mo wv iv cs f)=some []:=by kernel_rfl
theorem lpX_b:ae2 (run Tryz.prog 2 (lpX sc mo wv iv cs f))=(12,[.code (plT Tryz.prog)],[],.run,.normal,none,cs):=by kernel_rfl
theorem lpX_c:ad0 (run Tryz.prog 2 (lpX sc mo wv iv cs f)) [2,7]=[mo,wv]:=by kernel_rfl
theorem lpX_d:(run Tryz.prog 2 (lpX sc mo wv iv cs f)).1.tmps.size=196:=by kernel_rfl
def lpK (P:Program:=Tryz.prog):Frame×List Frame:=(Frame.mk 12 (TN 196 (ups f [(1,sc),(2,mo),(7,wv),(14,iv),(97,.bool true)])) [.code lcD,.code (lcS P),.inBlock 1,.code (lc12 P),.inLoop (lcB P),.inBlock 0,.code (plT P)] [] .run .normal none,cs)
theorem lpK_a:logs Tryz.prog 2 (lpK sc mo wv iv cs f)=some []:=by kernel_rfl
theorem lpK_b:ae2 (run Tryz.prog 2 (lpK sc mo wv iv cs f))=(12,[.code lc12,.inLoop lcB,.inBlock 0,.code (plT Tryz.prog)],[],.run,.normal,none,cs):=by kernel_rfl
theorem lpK_c:ad0 (run Tryz.prog 2 (lpK sc mo wv iv cs f)) [1,2,7,14]=[sc,mo,wv,iv]:=by kernel_rfl
theorem lpK_d:(run Tryz.prog 2 (lpK sc mo wv iv cs f)).1.tmps.size=196:=by kernel_rfl
def lpC (P:Program:=Tryz.prog):Frame×List Frame:=(Frame.mk 12 (TN 196 (ups f [(1,.slice (some ⟨sb,0,none⟩) n c),(2,mo),(7,wv),(14,iv),(97,.bool false)])) [.code lcD,.code (lcS P),.inBlock 1,.code (lc12 P),.inLoop (lcB P),.inBlock 0,.code (plT P)] [] .run .normal none,cs)
theorem lpC_a:logs Tryz.prog 7 (lpC mo wv iv cs f sb n c)=some []:=by kernel_rfl
theorem lpC_b:idxAt (run Tryz.prog 7 (lpC mo wv iv cs f sb n c))=some (26,.slice (some ⟨sb,0,none⟩) n c,iv):=by kernel_rfl
def lpD (P:Program:=Tryz.prog):Frame×List Frame:=did (run P 7 (lpC mo wv iv cs f sb n c P)) (.pointer (some ⟨sb,q,none⟩))
theorem lpD_a:ag7 Tryz.prog (lpD mo wv iv cs f sb n c q) [.int .i64 kd,.int .i64 on,.int .i64 pid,.int .i64 nn,.int .i64 co,.int .i64 sw,.slice s1 n1 c1,.slice s2 n2 c2]=some ([⟨sb,q,none⟩,⟨sb,q+1,none⟩,⟨sb,q+2,none⟩,⟨sb,q+3,none⟩,⟨sb,q+4,none⟩,⟨sb,q+5,none⟩,⟨sb,q+6,none⟩,⟨sb,q+7,none⟩],.agg #[.int .i64 kd,.int .i64 on,.int .i64 pid,.int .i64 nn,.int .i64 co,.int .i64 sw,.slice s1 n1 c1,.slice s2 n2 c2]):=by kernel_rfl
def lpE (P:Program:=Tryz.prog):Frame×List Frame:=did (lpD mo wv iv cs f sb n c q P) ov
theorem lpE_a:logs Tryz.prog 1 (lpE mo wv iv ov cs f sb n c q)=some []:=by kernel_rfl
def lpF (P:Program:=Tryz.prog):Frame:=(below (run P 1 (lpE mo wv iv ov cs f sb n c q P))).1
theorem lpE_b:run Tryz.prog 1 (lpE mo wv iv ov cs f sb n c q)=(Frame.enter Tryz.prog 33 #[wv,ov] .normal,lpF mo wv iv ov cs f sb n c q::cs):=by kernel_rfl
theorem lpG_a:logs Tryz.prog 2 ((lpF mo wv iv ov cs f sb n c q).finish (.bool true),cs)=some []:=by kernel_rfl
def lpG (P:Program:=Tryz.prog):Frame×List Frame:=run P 2 ((lpF mo wv iv ov cs f sb n c q P).finish (.bool true),cs)
theorem lpG_b:ae2 (lpG mo wv iv ov cs f sb n c q)=(12,[.code lcT,.inBlock 1,.code lc12,.inLoop lcB,.inBlock 0,.code (plT Tryz.prog)],[],.run,.normal,none,cs):=by kernel_rfl
theorem lpG_c:ad0 (lpG mo wv iv ov cs f sb n c q) [1,2,7,14,15]=[.slice (some ⟨sb,0,none⟩) n c,mo,wv,iv,.bool true]:=by kernel_rfl
theorem lpG_d:(lpG mo wv iv ov cs f sb n c q).1.tmps.size=196:=by kernel_rfl
def lpH (P:Program:=Tryz.prog):Frame×List Frame:=(Frame.mk 12 (TN 196 (ups f [(1,sc),(2,mo),(7,wv),(14,iv)])) [.inBlock 1,.code (lc12 P),.inLoop (lcB P),.inBlock 0,.code (plT P)] [] .run .normal none,cs)
theorem lpH_a:logs Tryz.prog 1 (lpH sc mo wv iv cs f)=some []:=by kernel_rfl
theorem lpH_b:run Tryz.prog 1 (lpH sc mo wv iv cs f)=(Frame.mk 12 (TN 196 (ups f [(1,sc),(2,mo),(7,wv),(14,iv)])) [.code lc12,.inLoop lcB,.inBlock 0,.code (plT Tryz.prog)] [] .run .normal none,cs):=by kernel_rfl
def lpI (P:Program:=Tryz.prog):Frame×List Frame:=(Frame.mk 12 (TN 196 (ups f [(1,sc),(2,mo),(7,wv),(14,iv)])) [.inLoop (lcB P),.inBlock 0,.code (plT P)] [] .run .normal none,cs)
theorem lpI_a:logs Tryz.prog 1 (lpI sc mo wv iv cs f)=some []:=by kernel_rfl
theorem lpI_b:run Tryz.prog 1 (lpI sc mo wv iv cs f)=lpA sc mo wv iv cs f:=by kernel_rfl
end
section
variable (m:Nat) (w:World) (f:Nat→Value)
theorem lp_more (mo wv:Value) (s:Option Addr) (n c i:Nat) (hi:(i:Int)<n):(lc11 Tryz.prog).wpIn NF m Tryz.prog (Ends fun tm w'=>(∃g,tm=TN 196 (ups g [(1,.slice s n c),(2,mo),(7,wv),(14,.int .i64 i),(88,.bool true)]))∧Keep No w w') ⟨TN 196 (ups f [(1,.slice s n c),(2,mo),(7,wv),(14,.int .i64 i)]),[]⟩ w:=by
 unfold lc11 lcB
 rw[body12]
 dsimp only[Tryz.f12,Option.getD,ac6,piece]
 refine ac7 (by simp only[TN,List.range,List.range.loop,List.map,ups,Nat.reduceEqDiff,reduceIte];rfl) ?_
 gi_wp2
 exact⟨rfl,rfl,⟨_,af1 rfl (by simp)⟩,Keep.refl _ _⟩
theorem lp_less (mo wv:Value) (s:Option Addr) (n c i:Nat) (hi:¬(i:Int)<n):(lc11 Tryz.prog).wpIn NF m Tryz.prog (Ends fun tm w'=>(∃g,tm=TN 196 (ups g [(1,.slice s n c),(2,mo),(7,wv),(14,.int .i64 i),(88,.bool false)]))∧Keep No w w') ⟨TN 196 (ups f [(1,.slice s n c),(2,mo),(7,wv),(14,.int .i64 i)]),[]⟩ w:=by
 unfold lc11 lcB
 rw[body12]
 dsimp only[Tryz.f12,Option.getD,ac6,piece]
 refine ac7 (by simp only[TN,List.range,List.range.loop,List.map,ups,Nat.reduceEqDiff,reduceIte];rfl) ?_
 gi_wp2
 exact⟨rfl,rfl,⟨_,af1 rfl (by simp)⟩,Keep.refl _ _⟩
theorem lp_big (wv:Value) (sb n c i:Nat) (hi:(i:Int)<n) (kd:Int) (hk:kd>3) (hc:w.cell? ⟨sb,i*8,none⟩=some (.int .i64 kd)):(lc13 Tryz.prog).wpIn NF m Tryz.prog (Ends fun tm w'=>(∃g,tm=TN 196 (ups g [(1,.slice (some ⟨sb,0,none⟩) n c),(2,.int .i64 3),(7,wv),(14,.int .i64 i),(97,.bool true)]))∧Keep No w w') ⟨TN 196 (ups f [(1,.slice (some ⟨sb,0,none⟩) n c),(2,.int .i64 3),(7,wv),(14,.int .i64 i)]),[]⟩ w:=by
 unfold lc13 lcB
 rw[body12]
 dsimp only[Tryz.f12,Option.getD,ac6,piece]
 refine ac7 (by simp only[TN,List.range,List.range.loop,List.map,ups,Nat.reduceEqDiff,reduceIte];rfl) ?_
 gi_wp2
 exact⟨rfl,rfl,⟨_,af1 rfl (by simp)⟩,Keep.refl _ _⟩
theorem lp_small (wv:Value) (sb n c i:Nat) (hi:(i:Int)<n) (kd:Int) (hk:¬kd>3) (hc:w.cell? ⟨sb,i*8,none⟩=some (.int .i64 kd)):(lc13 Tryz.prog).wpIn NF m Tryz.prog (Ends fun tm w'=>(∃g,tm=TN 196 (ups g [(1,.slice (some ⟨sb,0,none⟩) n c),(2,.int .i64 3),(7,wv),(14,.int .i64 i),(97,.bool false)]))∧Keep No w w') ⟨TN 196 (ups f [(1,.slice (some ⟨sb,0,none⟩) n c),(2,.int .i64 3),(7,wv),(14,.int .i64 i)]),[]⟩ w:=by
 unfold lc13 lcB
 rw[body12]
 dsimp only[Tryz.f12,Option.getD,ac6,piece]
 refine ac7 (by simp only[TN,List.range,List.range.loop,List.map,ups,Nat.reduceEqDiff,reduceIte];rfl) ?_
 gi_wp2
 exact⟨rfl,rfl,⟨_,af1 rfl (by simp)⟩,Keep.refl _ _⟩
theorem lp_next (sc mo wv:Value) (i:Nat) (hi:i<10000000):(lc12 Tryz.prog).wpIn NF m Tryz.prog (Ends fun tm w'=>(∃g,tm=TN 196 (ups g [(1,sc),(2,mo),(7,wv),(14,.int .i64 (i+1:Nat))]))∧Keep No w w') ⟨TN 196 (ups f [(1,sc),(2,mo),(7,wv),(14,.int .i64 i)]),[]⟩ w:=by
 unfold lc12 lcB
 rw[body12]
 dsimp only[Tryz.f12,Option.getD,ac6,piece]
 refine ac7 (by simp only[TN,List.range,List.range.loop,List.map,ups,Nat.reduceEqDiff,reduceIte];rfl) ?_
 gi_wp2
 exact⟨rfl,rfl,⟨_,af1 rfl (by simp)⟩,Keep.refl _ _⟩
theorem lp_still (sc mo iv:Value) (wb bk:Nat) (hb:w.cell? ⟨wb,0,none⟩=some (.pointer (some ⟨bk,0,none⟩))) (hl:∀m,CallsIn NF m Tryz.prog 34 #[.pointer (some ⟨bk,0,none⟩)] w fun e w'=>e=.returned (.bool true)∧Keep No w w'):(lcT Tryz.prog).wpIn NF m Tryz.prog (Ends fun tm w'=>(∃g,tm=TN 196 (ups g [(1,sc),(2,mo),(7,.pointer (some ⟨wb,0,none⟩)),(14,iv)]))∧Keep No w w') ⟨TN 196 (ups f [(1,sc),(2,mo),(7,.pointer (some ⟨wb,0,none⟩)),(14,iv),(15,.bool true)]),[]⟩ w:=by
 unfold lcT lcS lcB
 rw[body12]
 dsimp only[Tryz.f12,Option.getD,ac6,piece]
 refine ac7 (by simp only[TN,List.range,List.range.loop,List.map,ups,Nat.reduceEqDiff,reduceIte];rfl) ?_
 gi_wp2_with fail
 refine(hl _).mono ?_
 rintro e w1 ⟨rfl,K1⟩
 gi_wp2
 exact⟨rfl,rfl,⟨_,af1 rfl (by simp)⟩,K1⟩
end
end Go.Fxa
namespace Go.Fxa
open Go.Conc
open Go.Proofs
open Go.RowKit
theorem addr_at (sb n:Nat):(⟨sb,0,none⟩:Addr).add n=⟨sb,n,none⟩:=by
 unfold Addr.add
 split
 ·rename_i e
  rw[e]
 ·simp
def OpAt (w:World) (sb i:Nat):Prop:=∃(kd on pid nn co sw:Int) (s1 s2:Option Addr) (n1 c1 n2 c2:Nat),-9223372036854775808≤on∧on≤9223372036854775807∧w.cell? ⟨sb,i*8,none⟩=some (.int .i64 kd)∧w.cell? ⟨sb,i*8+1,none⟩=some (.int .i64 on)∧w.cell? ⟨sb,i*8+2,none⟩=some (.int .i64 pid)∧w.cell? ⟨sb,i*8+3,none⟩=some (.int .i64 nn)∧w.cell? ⟨sb,i*8+4,none⟩=some (.int .i64 co)∧w.cell? ⟨sb,i*8+5,none⟩=some (.int .i64 sw)∧w.cell? ⟨sb,i*8+6,none⟩=some (.slice s1 n1 c1)∧w.cell? ⟨sb,i*8+7,none⟩=some (.slice s2 n2 c2)
theorem OpAt.keep {w w':World} {sb i:Nat} {S:Nat→Prop} (h:OpAt w sb i) (hK:Keep S w w') (hs:¬S sb):OpAt w' sb i:=by
 obtain⟨kd,on,pid,nn,co,sw,s1,s2,n1,c1,n2,c2,h1,h2,a0,a1,a2,a3,a4,a5,a6,a7⟩:=h
 have lt:sb<w.heap.size:=World.block_lt_of_cell? _ _ a0
 have go:∀j,w'.cell? ⟨sb,j,none⟩=w.cell? ⟨sb,j,none⟩:=fun j=>hK.cell (p:=⟨sb,j,none⟩) lt hs
 exact⟨kd,on,pid,nn,co,sw,s1,s2,n1,c1,n2,c2,h1,h2,(go _).trans a0,(go _).trans a1,(go _).trans a2,(go _).trans a3,(go _).trans a4,(go _).trans a5,(go _).trans a6,(go _).trans a7⟩
section
variable {cs:List Frame} {R:Frame×List Frame→World→Prop} {wb bk:Nat} {tl:Nat→Value} {ls:List (Value×Int)} {ps:Value} {s:Option Addr} {n c sb:Nat}
theorem loop_next {Od:Old} {sc mo wv:Value} {i:Nat} {v:World} {f:Nat→Value} (hi:i<10000000) (ih:∀v2 g,Keep No v v2→Goes Od Tryz.prog (lpA sc mo wv (.int .i64 (i+1:Nat)) cs g) v2 R):
  Goes Od Tryz.prog (Frame.mk 12 (TN 196 (ups f [(1,sc),(2,mo),(7,wv),(14,.int .i64 i)])) [.code lc12,.inLoop lcB,.inBlock 0,.code (plT Tryz.prog)] [] .run .normal none,cs) v R:=by
 refine Goes.part (m:=0) nr12 rfl lc12_ops (fun v1 _=>lp_next 0 v1 _ _ _ _ i hi) fun v1 tm v2 K1 ⟨⟨g,e⟩,K2⟩=>?_
 subst e
 refine Goes.logs (x:=lpI sc mo wv (.int .i64 (i+1:Nat)) cs g) (lpI_a _ _ _ _ _ _) ?_
 rw[lpI_b]
 exact ih v2 g (K1.then K2)
theorem loop_goes {Od:Old} (hs:0<n→s=some ⟨sb,0,none⟩) (hn:n≤2000000):∀(k i:Nat) (T:Nat→Nat) (v:World) (mm:Nat) (l:List Two) (f:Nat→Value),n-i=k→i≤n→WS T v wb bk mm tl ls ps l→1≤l.length→l.length≤4→mm+4*k≤80000000→(0<n→T sb=0)→(∀j,j<n→OpAt v sb j)→
  (∀T' v' mm' l' g,mm'≤mm+4*k→l'.length=l.length→WS T' v' wb bk mm' tl ls ps l'→Moves T v T' v'→Goes Od Tryz.prog (Frame.mk 12 (TN 196 (ups g [(2,.int .i64 3),(7,.pointer (some ⟨wb,0,none⟩))])) [.code (plT Tryz.prog)] [] .run .normal none,cs) v' R)→
  Goes Od Tryz.prog (lpA (.slice s n c) (.int .i64 3) (.pointer (some ⟨wb,0,none⟩)) (.int .i64 i) cs f) v R:=by
 intro k
 induction k with
 | zero=>
  intro i T v mm l f hk hi h _ _ _ _ _ hR
  refine Goes.logs (lpA_a _ _ _ _ _ _) ?_
  rw[ag2 (l:=[(1,.slice s n c),(2,.int .i64 3),(7,.pointer (some ⟨wb,0,none⟩)),(14,.int .i64 i)]) (lpA_b _ _ _ _ _ _) (lpA_c _ _ _ _ _ _) (lpA_d _ _ _ _ _ _)]
  refine Goes.part (m:=0) nr12 rfl lc11_ops (fun v1 _=>lp_less 0 v1 _ _ _ s n c i (by omega)) fun v1 tm v2 K1 ⟨⟨g,e⟩,K2⟩=>?_
  subst e
  refine Goes.logs (x:=lpX (.slice s n c) (.int .i64 3) (.pointer (some ⟨wb,0,none⟩)) (.int .i64 i) cs g) (lpX_a _ _ _ _ _ _) ?_
  rw[ag2 (l:=[(2,.int .i64 3),(7,.pointer (some ⟨wb,0,none⟩))]) (lpX_b _ _ _ _ _ _) (lpX_c _ _ _ _ _ _) (lpX_d _ _ _ _ _ _)]
  exact hR T v2 mm l _ (by omega) rfl (h.keepNo (K1.then K2)) (Moves.no (K1.then K2))
 | succ k ih=>
  intro i T v mm l f hk hi h hl1 hl4 hmm hT hO hR
  have hp:0<n:=by omega
  have es:=hs hp
  subst es
  refine Goes.logs (lpA_a _ _ _ _ _ _) ?_
  rw[ag2 (l:=[(1,.slice (some ⟨sb,0,none⟩) n c),(2,.int .i64 3),(7,.pointer (some ⟨wb,0,none⟩)),(14,.int .i64 i)]) (lpA_b _ _ _ _ _ _) (lpA_c _ _ _ _ _ _) (lpA_d _ _ _ _ _ _)]
  refine Goes.part (m:=0) nr12 rfl lc11_ops (fun v1 _=>lp_more 0 v1 _ _ _ _ n c i (by omega)) fun v1 tm v2 K1 ⟨⟨g,e⟩,K2⟩=>?_
  subst e
  have k2:=K1.then K2
  refine Goes.logs (x:=lpB (.slice (some ⟨sb,0,none⟩) n c) (.int .i64 3) (.pointer (some ⟨wb,0,none⟩)) (.int .i64 i) cs g) (lpB_a _ _ _ _ _ _) ?_
  rw[ag2 (l:=[(1,.slice (some ⟨sb,0,none⟩) n c),(2,.int .i64 3),(7,.pointer (some ⟨wb,0,none⟩)),(14,.int .i64 i)]) (lpB_b _ _ _ _ _ _) (lpB_c _ _ _ _ _ _) (lpB_d _ _ _ _ _ _)]
  have h2:=h.keepNo k2
  have hO2:OpAt v2 sb i:=(hO i (by omega)).keep k2 id
  obtain⟨kd,on,pid,nn,co,sw,s1,s2,n1,c1,n2,c2,o1,o2,a0,a1,a2,a3,a4,a5,a6,a7⟩:=hO2
  by_cases hkd:kd>3
  ·refine Goes.part (m:=0) nr12 rfl lc13_ops (fun v3 K3=>lp_big 0 v3 _ _ sb n c i (by omega) kd hkd (K3.has a0)) fun v3 tm v4 K3 ⟨⟨g4,e⟩,K4⟩=>?_
   subst e
   refine Goes.logs (x:=lpK (.slice (some ⟨sb,0,none⟩) n c) (.int .i64 3) (.pointer (some ⟨wb,0,none⟩)) (.int .i64 i) cs g4) (lpK_a _ _ _ _ _ _) ?_
   rw[ag2 (l:=[(1,.slice (some ⟨sb,0,none⟩) n c),(2,.int .i64 3),(7,.pointer (some ⟨wb,0,none⟩)),(14,.int .i64 i)]) (lpK_b _ _ _ _ _ _) (lpK_c _ _ _ _ _ _) (lpK_d _ _ _ _ _ _)]
   have k4:=k2.then (K3.then K4)
   refine loop_next (by omega) fun v6 g6 K6=>?_
   have k6:=k4.then K6
   exact ih (i+1) T v6 mm l g6 (by omega) (by omega) (h.keepNo k6) hl1 hl4 (by omega) hT (fun j hj=>(hO j hj).keep k6 id) fun T' v' mm' l' g' q1 q2 q3 q4=>hR T' v' mm' l' g' (by omega) q2 q3 ((Moves.no k6).trans q4)
  ·refine Goes.part (m:=0) nr12 rfl lc13_ops (fun v3 K3=>lp_small 0 v3 _ _ sb n c i (by omega) kd hkd (K3.has a0)) fun v3 tm v4 K3 ⟨⟨g4,e⟩,K4⟩=>?_
   subst e
   have k34:=K3.then K4
   have k4:=k2.then k34
   refine Goes.logs (x:=lpC (.int .i64 3) (.pointer (some ⟨wb,0,none⟩)) (.int .i64 i) cs g4 sb n c) (lpC_a _ _ _ _ _ _ _ _) ?_
   refine Goes.index (a':=⟨sb,i*8,none⟩) (lpC_b _ _ _ _ _ _ _ _) und26 size28 (by omega) (addr_at sb (i*8)) ?_
   refine Goes.reads (x:=lpD (.int .i64 3) (.pointer (some ⟨wb,0,none⟩)) (.int .i64 i) cs g4 sb n c (i*8)) (lpD_a _ _ _ _ _ _ _ _ _ kd on pid nn co sw s1 s2 n1 c1 n2 c2) ⟨k34.has a0,k34.has a1,k34.has a2,k34.has a3,k34.has a4,k34.has a5,k34.has a6,k34.has a7,trivial⟩ ?_
   refine Goes.logs (x:=lpE (.int .i64 3) (.pointer (some ⟨wb,0,none⟩)) (.int .i64 i) _ cs g4 sb n c (i*8)) (lpE_a _ _ _ _ _ _ _ _ _ _) ?_
   rw[lpE_b]
   refine step_goes (h2.keepNo k34) hl1 hl4 (by omega) (by omega) o1 o2 fun T' v5 mm' l' q1 q2 q3 q4=>?_
   refine Goes.logs (lpG_a _ _ _ _ _ _ _ _ _ _) ?_
   refine Eq.mp (congrArg (fun x=>Goes Od Tryz.prog x v5 R) (ag2 (x:=lpG _ _ _ _ _ _ _ _ _ _) (l:=[(1,.slice (some ⟨sb,0,none⟩) n c),(2,.int .i64 3),(7,.pointer (some ⟨wb,0,none⟩)),(14,.int .i64 i),(15,.bool true)]) (lpG_b _ _ _ _ _ _ _ _ _ _) (lpG_c _ _ _ _ _ _ _ _ _ _) (lpG_d _ _ _ _ _ _ _ _ _ _)).symm) ?_
   refine Goes.part (m:=0) nr12 rfl lcT_ops (fun v6 K6=>lp_still 0 v6 _ _ _ _ wb bk (K6.has (by rw[aa0 q3.blk];rfl)) fun m=>looks_X m v6 T' bk mm' tl ls (q3.book.keepNo K6) (by omega)) fun v6 tm v7 K6 ⟨⟨g7,e⟩,K7⟩=>?_
   subst e
   have k7:=K6.then K7
   refine Goes.logs (x:=lpH (.slice (some ⟨sb,0,none⟩) n c) (.int .i64 3) (.pointer (some ⟨wb,0,none⟩)) (.int .i64 i) cs g7) (lpH_a _ _ _ _ _ _) ?_
   rw[lpH_b]
   have mv:Moves T v T' v5:=(Moves.no k4).trans q4
   have t0:T sb=0:=hT hp
   have lsb:sb<v.heap.size:=World.block_lt_of_cell? _ _ ((k2.cell (p:=⟨sb,i*8,none⟩) (by
    obtain⟨_,_,_,_,_,_,_,_,_,_,_,_,_,_,z,_⟩:=hO i (by omega)
    exact World.block_lt_of_cell? _ _ z) id).symm.trans a0)
   refine loop_next (by omega) fun v8 g8 K8=>?_
   have k8:=k7.then K8
   refine ih (i+1) T' v8 mm' l' g8 (by omega) (by omega) (q3.keepNo k8) (by omega) (by omega) (by omega) (fun _=>(mv.2 sb lsb).trans t0) (fun j hj=>((hO j hj).keep mv.1 (by omega)).keep k8 id) fun T2 v' mm2 l2 g' r1 r2 r3 r4=>hR T2 v' mm2 l2 g' (by omega) (by omega) r3 (mv.trans ((Moves.no k8).trans r4))
end
end Go.Fxa
namespace Go.Fxa
open Go.Conc
open Go.Proofs
open Go.RowKit
set_option maxRecDepth 1000000
section
variable (m:Nat) (w:World) (f:Nat→Value)
set_option maxHeartbeats 16000000 in
theorem play_end (T:Nat→Nat) (wb bk mm:Nat) (tl:Nat→Value) (ls:List (Value×Int)) (ps:Value) (l:List Two) (h:WS T w wb bk mm tl ls ps l) (hl:l.length≤4) (hmm:mm≤80000000):
  (plT Tryz.prog).wpIn NF m Tryz.prog (Rets fun tm w'=>(∃g,tm=TN 196 (ups g [(6,.bool true)]))∧∃T',Moves T w T' w') ⟨TN 196 (ups f [(2,.int .i64 3),(7,.pointer (some ⟨wb,0,none⟩))]),[]⟩ w:=by
 unfold plT
 rw[body12]
 dsimp only[Tryz.f12,Option.getD,ac6]
 refine ac7 (by simp only[TN,List.range,List.range.loop,List.map,ups,Nat.reduceEqDiff,reduceIte];rfl) ?_
 gi_wp2_with fail
 gi_loopw [17] (fun i wr=>∃j:Nat,j≤l.length∧i=.int .i64 j∧∃T' mm',mm'≤mm+6*j∧WS T' wr wb bk mm' tl ls ps l∧Moves T w T' wr) (fun i _=>l.length-(intOf i).toNat)
 case atStart=>exact⟨0,by omega,rfl,T,mm,by omega,h,Moves.refl _ _⟩
 case round=>
  obtain⟨j,hj,rfl,T',mm',hm',h',M'⟩:=hrel
  clear h
  by_cases hlt:j<l.length
  ·have hlt':(j:Int)<l.length:=by omega
   obtain⟨p,hp⟩:∃p,l[j]?=some p:=⟨_,List.getElem?_eq_getElem hlt⟩
   obtain⟨pg,cp,eps,q0,q1⟩:=h'.rowAt hp
   have b1:wr.cell? ⟨wb,1,none⟩=some (.slice (some ⟨pg,0,none⟩) l.length cp):=by
    rw[aa0 h'.blk]
    exact congrArg some eps
   have hYY:(wr.alloc (.cells #[.pointer (some ⟨p.kb.kb,0,none⟩),.pointer (some ⟨p.qb.rb,0,none⟩)] 83)).heap[wr.heap.size]?=some (.cells #[.pointer (some ⟨p.kb.kb,0,none⟩),.pointer (some ⟨p.qb.rb,0,none⟩)] 83 (0,0)):=aa4 rfl
   have kB:Keep No wr (wr.alloc (.cells #[.pointer (some ⟨p.kb.kb,0,none⟩),.pointer (some ⟨p.qb.rb,0,none⟩)] 83)):=(Keep.refl _ _).alloc _
   gi_wp2_with fail
   generalize wr.alloc (.cells #[.pointer (some ⟨p.kb.kb,0,none⟩),.pointer (some ⟨p.qb.rb,0,none⟩)] 83)=w2 at*
   have h2:=h'.keepNo kB
   have P2:=h2.pair j p hp
   have tY:T' wr.heap.size=0:=h'.book.high _ (Nat.le_refl _)
   refine(wpids_calls _ w2 T' wb bk mm' tl ls h2.book (by rw[aa0 h2.blk];rfl) h2.nb p.kb p.qb p.st P2.on (by omega)).mono ?_
   rintro e w3 ⟨rfl,K3,T3,B3,hT3⟩
   have h3:WS T3 w3 wb bk (mm'+2) tl ls ps l:=h2.books K3 (fun k hs _=>by omega) B3 hT3
   have M3:Moves T w T3 w3:=M'.trans ((Moves.no kB).trans ⟨K3.mono fun k _ e=>e.1,hT3⟩)
   have hY3:=K3.old hYY (by rw[tY];omega)
   have tY3:T3 wr.heap.size=0:=(hT3 _ (ab2 hYY)).trans tY
   generalize wr.heap.size=Y at*
   clear h' M' q0 q1 b1 kB hYY h2 P2 K3 B3 hT3 tY eps
   have P3:=h3.pair j p hp
   have c1:w3.cell? ⟨Y,1,none⟩=some (.pointer (some ⟨p.qb.rb,0,none⟩)):=by rw[aa0 hY3];rfl
   gi_wp2_with (refine ab7 rfl rfl rfl ?_)
   refine(rpids_any _ w3 p.kb p.qb p.st P3.on).mono ?_
   rintro e w4 ⟨K4,pv,rfl,o4⟩
   have h4:=h3.keepNo K4
   have M4:Moves T w T3 w4:=M3.trans (Moves.no K4)
   have hY4:=K4.old hY3 id
   have s1:stN p.st≤1:=by cases p.st<;>simp[stN]
   have low:∀g,pv.ownBlock=some g→T3 g=0:=fun g hg=>h3.book.high g (o4.lt g hg).1
   obtain⟨pa,pc,epv⟩:=ac1 o4
   subst epv
   clear h3 M3 hY3 c1 P3 K4
   generalize hst:stN p.st=ns at*
   gi_wp2_with fail
   gi_loopw [23] (fun k wr=>∃q:Nat,q≤ns∧k=.int .i64 q∧∃T5 mm5,mm5≤mm'+2+4*q∧WS T5 wr wb bk mm5 tl ls ps l∧Moves T3 w4 T5 wr) (fun k _=>ns-(intOf k).toNat)
   case atStart=>exact⟨0,by omega,rfl,T3,mm'+2,by omega,h4,Moves.refl _ _⟩
   case round=>
    obtain⟨q,hq,rfl,T5,mm5,hm5,h5,M5⟩:=hrel
    have hY5:=M5.1.old hY4 (by rw[tY3];omega)
    by_cases hlq:q<ns
    ·have hlq':(q:Int)<ns:=by omega
     obtain⟨g5,e5⟩:∃g5,pa=some ⟨g5,0,none⟩:=by
      rcases o4.2 with⟨_,e⟩|⟨g,cap,cur,e,_⟩
      ·omega
      ·cases e
       exact⟨g,rfl⟩
     subst e5
     have d0:w4.cell? ⟨g5,q,none⟩=some (.int .i64 1):=by
      rw[o4.cellAt q (by omega),List.getElem?_replicate]
      rw[if_pos hlq]
     have d5:wr.cell? ⟨g5,q,none⟩=some (.int .i64 1):=(M5.1.cell (p:=⟨g5,q,none⟩) (World.block_lt_of_cell? _ _ d0) (by rw[low g5 rfl];omega)).trans d0
     have y0:wr.cell? ⟨Y,0,none⟩=some (.pointer (some ⟨p.kb.kb,0,none⟩)):=by rw[aa0 hY5];rfl
     have y1:wr.cell? ⟨Y,1,none⟩=some (.pointer (some ⟨p.qb.rb,0,none⟩)):=by rw[aa0 hY5];rfl
     gi_wp2
     refine aa9 (P:=Tryz.prog) No _ rfl rfl (by kernel_rfl) 6 196 [0,1,2,3,4,5] [] (by kernel_rfl) (by rfl) (fun _ _ _=>True) (fun _ _ _ _ _ h _=>h) _ _ rfl rfl ?_
     gi_wp2
     refine⟨rfl,by kernel_rfl,?_,(fun i hi=>absurd hi (by simp)),?_⟩
     ·intro V hV
      have e0:=hV.has (w:=wr.drew) y0
      have e1:=hV.has (w:=wr.drew) y1
      have e2:=hV.has (w:=wr.drew) d5
      repeat' (refine aa8 ?_ ?_)
      all_goals first|exact trivial|gi_wp2
     intro u V hV _
     simp only[putS]
     have kV:Keep No wr V:=(Keep.refl No wr).drew.then hV
     have hV5:=h5.keepNo kV
     have PV:=hV5.pair j p hp
     gi_wp2_with fail
     refine(wlooks_any _ V T5 wb bk mm5 tl ls ps hV5.book hV5.blk hV5.nb p.kb p.qb PV.ok PV.fit PV.okq PV.L PV.img p.st PV.on 1 (by omega)).mono ?_
     rintro e w6 ⟨rfl,K6,T6,B6,hT6⟩
     have h6:WS T6 w6 wb bk (mm5+4) tl ls ps l:=hV5.books K6 (fun k hs _=>by omega) B6 hT6
     have M6:Moves T3 w4 T6 w6:=M5.trans ((Moves.no kV).trans ⟨K6.mono fun k _ e=>e.1,hT6⟩)
     clear h5 M5 hY5 d5 y0 y1 hV kV hV5 PV K6 B6 hT6
     gi_wp2
     refine aa9 (P:=Tryz.prog) No _ rfl rfl (by kernel_rfl) 9 196 [0,1,2,3,4,5,6,7,8] [] (by kernel_rfl) (by rfl) (fun _ _ _=>True) (fun _ _ _ _ _ h _=>h) _ _ rfl rfl ?_
     gi_wp2
     refine⟨rfl,by kernel_rfl,?_,(fun i hi=>absurd hi (by simp)),?_⟩
     ·intro V hV
      repeat' (refine aa8 ?_ ?_)
      all_goals first|exact trivial|gi_wp2
     intro u V hV _
     simp only[putS]
     have kV:Keep No w6 V:=(Keep.refl No w6).drew.then hV
     gi_wp2_with (refine ab7 rfl rfl rfl ?_)
     go_roundw
     case rel=>exact⟨q+1,by omega,by go_num,T6,mm5+4,by omega,h6.keepNo kV,M6.trans (Moves.no kV)⟩
     case measure=>simp[intOf];omega
    ·have hlq':¬(q:Int)<ns:=by omega
     gi_wp2
     go_roundw
     case rel=>exact⟨j+1,by omega,by go_num,T5,mm5,by omega,h5,M4.trans M5⟩
     case measure=>simp[intOf];omega
  ·have hlt':¬(j:Int)<l.length:=by omega
   obtain⟨a0,a1,eps⟩:=ac1 h'.row
   have b1:wr.cell? ⟨wb,1,none⟩=some (.slice a0 l.length a1):=by
    rw[aa0 h'.blk]
    exact congrArg some eps
   have b0:wr.cell? ⟨wb,0,none⟩=some (.pointer (some ⟨bk,0,none⟩)):=by rw[aa0 h'.blk];rfl
   gi_wp2_with fail
   refine(looks_X _ wr T' bk mm' tl ls h'.book (by omega)).mono ?_
   rintro e w9 ⟨rfl,K9⟩
   gi_wp2
   exact⟨rfl,rfl,⟨_,af1 rfl (by simp)⟩,T',M'.trans (Moves.no K9)⟩
end
end Go.Fxa
