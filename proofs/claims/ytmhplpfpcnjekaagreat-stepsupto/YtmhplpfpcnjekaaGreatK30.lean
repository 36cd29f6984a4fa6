/- New of the document: made. The Book as the law's frames hold it; World.pids. -/
import Derived.Test.YtmhplpfpcnjekaaGreatK28
namespace Go.Fxa
open Go.Conc
open Go.Proofs
open Go.RowKit
set_option maxRecDepth 1000000
section
variable (m:Nat) (w:World)
theorem disk_calls (rb:Nat) (h:w.cell? ⟨rb,3,none⟩=some (.slice none 0 0)):CallsIn NF m Tryz.prog 110 #[.pointer (some ⟨rb,0,none⟩)] w fun e w'=>e=.returned (.int .i64 0)∧w'=w:=by
 gi_enter Tryz.func110,Tryz.ntmps110
 gi_wp2
 refine wpIn_loop_once ?_
 gi_wp2
 go_ret
 exact⟨by simp,rfl⟩
def rkernC (cr sr C M:Nat) (z:Array Value:=Tryz.zeroCells167):Array Value:=(z.setIfInBounds 0 (.slice (some ⟨cr,0,none⟩) C C)).setIfInBounds 1 (.slice (some ⟨sr,0,none⟩) M M)
theorem rkern_at (cr sr C M:Nat):(rkernC cr sr C M).size=107∧(rkernC cr sr C M)[0]?=some (.slice (some ⟨cr,0,none⟩) C C)∧(rkernC cr sr C M)[1]?=some (.slice (some ⟨sr,0,none⟩) M M)∧(rkernC cr sr C M)[2]?=some (.slice none 0 0)∧(rkernC cr sr C M)[3]?=some (.slice none 0 0)∧(rkernC cr sr C M)[106]?=some (.slice none 0 0):=⟨by kernel_rfl,by kernel_rfl,by kernel_rfl,by kernel_rfl,by kernel_rfl,by kernel_rfl⟩
def MkI (w1:World) (C M:Nat) (L:Nat→Bool) (u:Nat→Value) (W:World):Prop:=
 Keep No w1 W∧(L 2=true→∃b,u 2=.slice (some ⟨b,0,none⟩) C C∧w1.heap.size≤b∧RowT 3 .i64 W b C (fun _=>0))∧(L 5=true→∃b,u 5=.slice (some ⟨b,0,none⟩) M M∧w1.heap.size≤b∧RowT 3 .i64 W b M (fun _=>0))∧(L 2=true→L 5=true→(u 2).ownBlock≠(u 5).ownBlock)
theorem make_ints (n:Nat) (hn:n≤1000):(Instr.makeSlice 22 (.int .i64 n) (.int .i64 n)).run Tryz.prog w=.ok (.slice (some ⟨w.heap.size,0,none⟩) n n) (w.alloc (.cells (madeCells #[.int .i64 0] n) 3)):=by
 obtain⟨i0,hi,hz0,hz1,hz2⟩:=info_parts info3
 have hmk:=run_make (P:=Tryz.prog) w 22 3 i0 (.int .i64 0) Tryz.underlying22 hi hz0 .i64 .i64 n n (by omega) (by omega) (by rw[hz2];omega) (by omega)
 rw[hz1]at hmk
 simpa only[Int.toNat_natCast,Nat.mul_one,Value.cells]using hmk
def PadI (w:World) (base qb rb cr sr C M n N8:Nat) (ks:Array Value) (xs:List Value) (wr:World):Prop:=∃(j L':Nat) (im:Value),n+j=L'∧L'≤N8∧wr.heap[qb]?=some (rproc true false 0 0 0 im 0)∧wr.ownsRow base 3 1 im L' (xs++List.replicate j (.int .i64 0))∧Keep No w wr∧wr.heap[rb]?=some (.cells ks 167 (0,0))∧RowT 3 .i64 wr cr C (fun _=>0)∧RowT 3 .i64 wr sr M (fun _=>0)∧base≤wr.heap.size
def imLen (w:World) (qb:Nat):Nat:=match w.cell? ⟨qb,8,none⟩with
 | some (.slice _ n _)=>n
 | _=>0
theorem infoP157:(Tryz.prog.info? 157).map (fun i=>(i.zero,i.size,i.bytes))=some (some (.pointer none),1,8):=by kernel_rfl
set_option maxHeartbeats 16000000 in
theorem rNew_ok (C M n N8:Nat) (v:Value) (img:Nat→Nat) (fa:Option Addr) (fc:Nat) (h:SlI w v n (fun i=>img i)) (hm:MayBe C M n (fun i=>img i)) (h8:8*nblk n=N8):CallsIn NF m Tryz.prog 68 #[.agg #[.int .i64 C,.int .i64 M,v,.slice fa 0 fc]] w fun e w'=>Keep No w w'∧∃b:QB,e=.returned (.pointer (some ⟨b.rb,0,none⟩))∧b.on false 0 0 0 w'∧(∀k,b.foot k→w.heap.size≤k∧k<w'.heap.size)∧b.C=C∧b.M=M∧b.L=N8∧b.img=ah5 n img∧b.L≤b.ic∧b.cr≠b.sr∧b.cr≠b.qi∧b.sr≠b.qi∧b.cr≠b.rb∧b.cr≠b.qrb∧b.cr≠b.qb∧b.sr≠b.rb∧b.sr≠b.qrb∧b.sr≠b.qb∧b.qi≠b.rb∧b.qi≠b.qrb∧b.qi≠b.qb:=by
 obtain⟨s,c,rfl⟩:∃s c,v=.slice s n c:=let ⟨_,s,c,e,_⟩:=h;⟨s,c,e⟩
 obtain⟨⟨m1,m2,m3,m4⟩,⟨m5,m6,m7⟩,m8⟩:=id hm
 have x1:¬(C:Int)<16:=by omega
 have x2:¬64<(C:Int):=by omega
 have x3:¬(M:Int)<1:=by omega
 have x4:¬256<(M:Int):=by omega
 have x5:¬(n:Int)<1:=by omega
 have x6:¬128<(n:Int):=by omega
 have x7:¬(M:Int)<(nblk n:Int):=by omega
 obtain⟨bb,oo,rfl,hcell⟩:∃b o,s=some ⟨b,o,none⟩∧∀i,i<n→w.cell? ⟨b,o+i,none⟩=some (.int .i64 (img i)):=by
  obtain⟨_,s',c',e,hh⟩:=h
  cases e
  exact hh (by omega)
 have K1:Keep No w (w.alloc (.cells #[.int .i64 C,.int .i64 M,.slice (some ⟨bb,oo,none⟩) n c,.slice fa 0 fc] 25)):=(Keep.refl _ _).alloc _
 have hb1:(w.alloc (.cells #[.int .i64 C,.int .i64 M,.slice (some ⟨bb,oo,none⟩) n c,.slice fa 0 fc] 25)).heap[w.heap.size]?=some (.cells #[.int .i64 C,.int .i64 M,.slice (some ⟨bb,oo,none⟩) n c,.slice fa 0 fc] 25 (0,0)):=aa4 rfl
 have h1:=h.keep K1
 gi_enter Tryz.func68,Tryz.ntmps68
 gi_wp2_with fail
 refine(rwords_calls _ (w.alloc (.cells #[.int .i64 C,.int .i64 M,.slice (some ⟨bb,oo,none⟩) n c,.slice fa 0 fc] 25)) _ n _ h1).mono ?_
 rintro e w1 ⟨⟨r,rfl,hr⟩,hw⟩
 have hw:=hw.symm
 subst hw
 obtain rfl:r=true:=hr.2 m7
 clear hr h h1
 gi_upto_region 2 with fail
 have c0:(w.alloc (.cells #[.int .i64 C,.int .i64 M,.slice (some ⟨bb,oo,none⟩) n c,.slice fa 0 fc] 25)).cell? ⟨w.heap.size,0,none⟩=some (.int .i64 C):=by rw[aa0 hb1];rfl
 have c1:(w.alloc (.cells #[.int .i64 C,.int .i64 M,.slice (some ⟨bb,oo,none⟩) n c,.slice fa 0 fc] 25)).cell? ⟨w.heap.size,1,none⟩=some (.int .i64 M):=by rw[aa0 hb1];rfl
 have c2:(w.alloc (.cells #[.int .i64 C,.int .i64 M,.slice (some ⟨bb,oo,none⟩) n c,.slice fa 0 fc] 25)).cell? ⟨w.heap.size,2,none⟩=some (.slice (some ⟨bb,oo,none⟩) n c):=by rw[aa0 hb1];rfl
 have c3:(w.alloc (.cells #[.int .i64 C,.int .i64 M,.slice (some ⟨bb,oo,none⟩) n c,.slice fa 0 fc] 25)).cell? ⟨w.heap.size,3,none⟩=some (.slice fa 0 fc):=by rw[aa0 hb1];rfl
 generalize w.alloc (.cells #[.int .i64 C,.int .i64 M,.slice (some ⟨bb,oo,none⟩) n c,.slice fa 0 fc] 25)=w1 at*
 refine aa9 (P:=Tryz.prog) No _ rfl rfl (by kernel_rfl) 47 168 [0,1,2,3,4,5,6,7,8,9,10,11,12,13,14,15,16,17,18,19,20,21,22,23,24,25,26,27,28,29,30,31,32,33,34,35,36,37,38,39,40,41,42,43,44,45,46] [] (by kernel_rfl) (by rfl) (fun _ _ _=>True) (fun _ _ _ _ _ h _=>h) _ _ rfl rfl ?_
 gi_wp2_with (first|(gi_at_call 109;refine(ab4 _ w1.drew n (by omega)).mono ?_;rintro e w2 ⟨rfl,hw2⟩;have hw2:=hw2.symm;subst hw2)|(refine ab7 rfl rfl rfl ?_))
 refine⟨rfl,by kernel_rfl,?_,(fun i hi=>absurd hi (by simp)),?_⟩
 ·intro V hK
  have d0:=hK.has (w:=w1.drew) c0
  have d1:=hK.has (w:=w1.drew) c1
  have d2:=hK.has (w:=w1.drew) c2
  have d3:=hK.has (w:=w1.drew) c3
  repeat' (refine aa8 ?_ ?_)
  all_goals first|exact trivial|gi_wp2_with (first|(gi_at_call 109;refine(ab4 _ V n (by omega)).mono ?_;rintro e w2 ⟨rfl,hw2⟩;have hw2:=hw2.symm;subst hw2)|(refine ab7 rfl rfl rfl ?_))
 intro u1 V hV _
 simp only[putS]
 have y1:decide ((C:Int)<16)=false:=decide_eq_false (by omega)
 have y2:decide (64<(C:Int))=false:=decide_eq_false (by omega)
 have y3:decide ((M:Int)<1)=false:=decide_eq_false (by omega)
 have y4:decide (256<(M:Int))=false:=decide_eq_false (by omega)
 have y5:decide ((n:Int)<1)=false:=decide_eq_false (by omega)
 have y6:decide (128<(n:Int))=false:=decide_eq_false (by omega)
 simp only[y1,y2,y3,y4,y5,y6,Bool.or_self]
 clear y1 y2 y3 y4 y5 y6
 have KV:Keep No w V:=K1.drew.then hV
 have b2:=hV.old (heap_drew.trans hb1) id
 clear c0 c1 c2 c3 hb1 K1 hV
 gi_upto_region 4 with fail
 have c0:V.cell? ⟨w.heap.size,0,none⟩=some (.int .i64 C):=by rw[aa0 b2];rfl
 have c1:V.cell? ⟨w.heap.size,1,none⟩=some (.int .i64 M):=by rw[aa0 b2];rfl
 refine ag5 (P:=Tryz.prog) _ rfl rfl (by kernel_rfl) 6 168 [0,1,3,4] [2,5] (by kernel_rfl) (by rfl)
  (MkI V.drew C M) (fun L L' u u' W hh hI=>by
   have h2:=hh 2 (by simp)
   have h5:=hh 5 (by simp)
   unfold MkI at hI ⊢
   rw[←h2.1,←h2.2,←h5.1,←h5.2]
   exact hI) _ _ rfl rfl ?_
 gi_wp2
 refine⟨rfl,by kernel_rfl,?_,?_,?_,?_⟩
 ·intro u
  exact⟨Keep.refl _ _,fun hx=>absurd hx (by decide),fun hx=>absurd hx (by decide),fun hx=>absurd hx (by decide)⟩
 ·intro L u W hI
  have d0:=hI.1.has (w:=V.drew) c0
  have d1:=hI.1.has (w:=V.drew) c1
  repeat' (refine aa8 ?_ ?_)
  all_goals first|exact trivial|gi_wp2
 ·intro i hi L u W hI hLi hu
  obtain⟨hI1,hI2,hI3,hI4⟩:=hI
  rcases(by simpa using hi:i=2∨i=5)with rfl|rfl
  ·have hmk:=make_ints W C (by omega)
   refine ac4 rfl fun KK hKK=>?_
   show wpListIn NF m Tryz.prog _ _ _ (Act.put (Act.put _ (some 63) (u 2)) (some 66) (u 5)) _
   gi_wp2
   have Ka:Keep No W (W.alloc (.cells (madeCells #[.int .i64 0] C) 3)):=(Keep.refl _ _).alloc _
   refine⟨.slice (some ⟨W.heap.size,0,none⟩) C C,by kernel_rfl,hI1.then Ka,fun _=>⟨W.heap.size,rfl,hI1.size,made_row W C⟩,(fun hx=>let ⟨b,q1,q2,q3⟩:=hI3 hx;⟨b,q1,q2,q3.keep Ka id⟩),fun _ hx=>?_⟩
   obtain⟨b,q1,q2,q3⟩:=hI3 hx
   show some W.heap.size≠(u 5).ownBlock
   rw[q1]
   intro e
   injection e with e
   have:=q3.row.lt
   simp only at e
   omega
  ·have hmk:=make_ints W M (by omega)
   refine ac4 rfl fun KK hKK=>?_
   show wpListIn NF m Tryz.prog _ _ _ (Act.put (Act.put _ (some 63) (u 2)) (some 66) (u 5)) _
   gi_wp2
   have Ka:Keep No W (W.alloc (.cells (madeCells #[.int .i64 0] M) 3)):=(Keep.refl _ _).alloc _
   refine⟨.slice (some ⟨W.heap.size,0,none⟩) M M,by kernel_rfl,hI1.then Ka,(fun hx=>let ⟨b,q1,q2,q3⟩:=hI2 hx;⟨b,q1,q2,q3.keep Ka id⟩),fun _=>⟨W.heap.size,rfl,hI1.size,made_row W M⟩,fun hx _=>?_⟩
   obtain⟨b,q1,q2,q3⟩:=hI2 hx
   show(u 2).ownBlock≠some W.heap.size
   rw[q1]
   intro e
   injection e with e
   have:=q3.row.lt
   simp only at e
   omega
 intro L u W hI hLL
 obtain⟨I1,I2,I3,I4⟩:=hI
 have l2:=hLL 2 (by simp)
 have l5:=hLL 5 (by simp)
 obtain⟨cr,e2,a2,r2⟩:=I2 l2
 obtain⟨sr,e5,a5,r5⟩:=I3 l5
 have hcs:cr≠sr:=fun e=>I4 l2 l5 (by rw[e2,e5,e];rfl)
 show wpListIn NF m Tryz.prog _ _ _ (Act.put (Act.put _ (some 63) (u 2)) (some 66) (u 5)) _
 rw[e2,e5]
 have KW:Keep No w W:=KV.drew.then I1
 have b3:=I1.old (heap_drew.trans b2) id
 have a2:w.heap.size≤cr:=Nat.le_trans KV.size a2
 have a5:w.heap.size≤sr:=Nat.le_trans KV.size a5
 clear I1 I2 I3 I4 hLL l2 l5 e2 e5 KV b2 c0 c1
 have hal:W.alloc (.cells ((Tryz.zeroCells167.setIfInBounds 0 (.slice (some ⟨cr,0,none⟩) C C)).setIfInBounds 1 (.slice (some ⟨sr,0,none⟩) M M)) 167)=W.alloc (.cells (rkernC cr sr C M) 167):=rfl
 gi_upto_region 5 with fail
 have K3:Keep No W (W.alloc (.cells (rkernC cr sr C M) 167)):=(Keep.refl _ _).alloc _
 have hk3:(W.alloc (.cells (rkernC cr sr C M) 167)).heap[W.heap.size]?=some (.cells (rkernC cr sr C M) 167 (0,0)):=aa4 rfl
 have KW3:=KW.then K3
 have b4:=K3.old b3 id
 have lc:=r2.row.lt
 have ls:=r5.row.lt
 have r2:=r2.keep K3 id
 have r5:=r5.keep K3 id
 have hrb:w.heap.size≤W.heap.size:=KW.size
 have hlt3:=ab2 hk3
 clear hal b3 K3 KW
 generalize W.alloc (.cells (rkernC cr sr C M) 167)=w3 at*
 generalize W.heap.size=rb at*
 have c3:w3.cell? ⟨w.heap.size,3,none⟩=some (.slice fa 0 fc):=by rw[aa0 b4];rfl
 have k3:w3.cell? ⟨rb,3,none⟩=some (.slice none 0 0):=(aa0 hk3 3).trans (rkern_at cr sr C M).2.2.2.2.1
 gi_wp2
 refine wpIn_loop_once ?_
 gi_wp2_with fail
 refine(disk_calls _ w3 rb k3).mono ?_
 rintro e w4 ⟨rfl,hw4⟩
 have hw4:=hw4.symm
 subst hw4
 gi_upto_region 17 with fail
 have K4:Keep No w3 (w3.alloc (.cells #[.bool true,.bool false,.bool false,.int .i64 1,.int .i64 0,.int .i64 0,.int .i64 0,.int .i64 0,.slice none 0 0,.int .i64 (-1),.int .i64 (-1),.int .i64 (-1),.int .i64 (-1),.int .i64 (-1),.int .i64 (-1),.int .i64 0] 170)):=(Keep.refl _ _).alloc _
 have hq4:(w3.alloc (.cells #[.bool true,.bool false,.bool false,.int .i64 1,.int .i64 0,.int .i64 0,.int .i64 0,.int .i64 0,.slice none 0 0,.int .i64 (-1),.int .i64 (-1),.int .i64 (-1),.int .i64 (-1),.int .i64 (-1),.int .i64 (-1),.int .i64 0] 170)).heap[w3.heap.size]?=some (rproc true false 0 0 0 (.slice none 0 0) 0):=aa4 rfl
 have KW4:=KW3.then K4
 have b5:=K4.old b4 id
 have hk4:=K4.old hk3 id
 have r2:=r2.keep K4 id
 have r5:=r5.keep K4 id
 clear hw4 c3 k3 b4 hk3 KW3 K4
 generalize w3.alloc (.cells #[.bool true,.bool false,.bool false,.int .i64 1,.int .i64 0,.int .i64 0,.int .i64 0,.int .i64 0,.slice none 0 0,.int .i64 (-1),.int .i64 (-1),.int .i64 (-1),.int .i64 (-1),.int .i64 (-1),.int .i64 (-1),.int .i64 0] 170)=w4 at*
 generalize w3.heap.size=qb at*
 have lq:qb<w4.heap.size:=ab2 hq4
 have c2:w4.cell? ⟨w.heap.size,2,none⟩=some (.slice (some ⟨bb,oo,none⟩) n c):=by rw[aa0 b5];rfl
 have q8:w4.cell? ⟨qb,8,none⟩=some (.slice none 0 0):=by rw[aa0 hq4];rfl
 obtain⟨i3,hi3,hz30,hz31,hz32⟩:=info_parts info3
 refine aa9 (P:=Tryz.prog) No _ rfl rfl (by kernel_rfl) 8 168 [0,1,2,3,4,5,6] [7] (by kernel_rfl) (by rfl) (fun _ v W=>W.ownsRow w4.heap.size 3 1 v n ((List.range n).map fun i=>.int .i64 (img i)))
  (fun _ _ _ _ _ h hK=>aa3 h hK (fun _ _ x=>x)) _ _ rfl rfl ?_
 gi_wp2
 refine⟨rfl,by kernel_rfl,?_,?_,?_⟩
 ·intro V' hK
  have d2:=hK.has (w:=w4.drew) c2
  have d8:=hK.has (w:=w4.drew) q8
  repeat' (refine aa8 ?_ ?_)
  all_goals first|exact trivial|gi_wp2
 ·intro i hi u W' hK hu
  obtain rfl:i=7:=by simpa using hi
  have hsrc:∀j u,((List.range n).map fun i=>Value.int .i64 (img i))[j]?=some u→W'.cell? ((⟨bb,oo,none⟩:Addr).add j)=some u:=fun j u hj=>by
   have hj':j<n:=by
    rcases Nat.lt_or_ge j n with h|h
    ·exact h
    ·rw[List.getElem?_eq_none (by simpa using h)]at hj;cases hj
   rw[Addr.add_lit,(KW4.drew.then hK).has (hcell j hj'),←hj]
   simp[hj']
  refine ac4 rfl fun KK hKK=>?_
  show wpListIn NF m Tryz.prog _ _ _ (Act.put _ (some 127) (u 7)) _
  refine ac3 W' rfl (.tmp 124) (.tmp 126) 22 rfl w4.heap.size 3 i3 (.int .i64 0) 1 8 Tryz.underlying22 hi3 hz30 hz31 hz32 rfl (by decide) (.slice none 0 0) 0 [] rfl (World.ownsRow_nil _ _ _ _) ⟨bb,oo,none⟩ n c ((List.range n).map fun i=>.int .i64 (img i)) rfl (by simp) hsrc (by simp[Value.oneCell']) (by unfold maxLen;omega) (by omega) hK.size (by omega) ?_
  intro va WB oB KB _
  gi_wp2
  exact⟨va,by kernel_rfl,KB.mono (fun k _ e=>by cases e),by simpa using oB⟩
 intro u W' hK hu
 have o7:=hu 7 (by simp)
 show wpListIn NF m Tryz.prog _ _ _ (Act.put _ (some 127) (u 7)) _
 generalize u 7=va at*
 obtain⟨aa,ca,hva⟩:=ac1 o7
 subst hva
 have KW':Keep No w W':=KW4.drew.then hK
 have hq':=hK.old (heap_drew.trans hq4) id
 have hk':=hK.old (heap_drew.trans hk4) id
 have r2':RowT 3 .i64 W' cr C (fun _=>0):=RowT.keep (w:=w4.drew) r2 hK id
 have r5':RowT 3 .i64 W' sr M (fun _=>0):=RowT.keep (w:=w4.drew) r5 hK id
 have g8:W'.cell? ⟨qb,8,none⟩=some (.slice none 0 0):=by rw[aa0 hq'];rfl
 have f8:=ab3 hq' 8
 have hsz:w4.heap.size≤W'.heap.size:=hK.size
 clear hK hu c2 q8 hq4 hk4 r2 r5 KW4 b5
 gi_upto_region 18 with fail
 have kS:Keep (Go.Fxa.At qb) W' (W'.setCell ⟨qb,8,none⟩ (.slice aa n ca)):=Keep.set1 _
 have hq8:(W'.setCell ⟨qb,8,none⟩ (.slice aa n ca)).heap[qb]?=some (rproc true false 0 0 0 (.slice aa n ca) 0):=(aa2 hq' _).trans rfl
 have hk8:=kS.old hk' (fun e=>by have e:rb=qb:=e;omega)
 have r28:=r2'.keep kS (fun e=>by have e:cr=qb:=e;omega)
 have r58:=r5'.keep kS (fun e=>by have e:sr=qb:=e;omega)
 have o8:=aa3 o7 kS (fun g hg e=>by have e:g=qb:=e;have:=(o7.lt g hg).1;omega)
 have K8:Keep No w (W'.setCell ⟨qb,8,none⟩ (.slice aa n ca)):=KW'.trans kS (fun k hk e=>absurd (show k=qb from e) (by omega))
 have hsz8:w4.heap.size≤(W'.setCell ⟨qb,8,none⟩ (.slice aa n ca)).heap.size:=Nat.le_trans hsz kS.size
 clear kS hq' hk' r2' r5' o7 KW' g8 f8 hsz
 generalize W'.setCell ⟨qb,8,none⟩ (.slice aa n ca)=W8 at*
 have hnn:n≤N8:=by unfold nblk at h8;omega
 gi_loopw [] (PadI w w4.heap.size qb rb cr sr C M n N8 (rkernC cr sr C M) ((List.range n).map fun i=>.int .i64 (img i))) (fun wr=>N8-imLen wr qb)
 case atStart=>exact⟨0,n,_,rfl,hnn,hq8,by simpa using o8,K8,hk8,r28,r58,hsz8⟩
 case round=>
  clear hq8 o8 K8 hk8 r28 r58 hsz8
  obtain⟨j,L',im,hj,hle,hq,ho,hK,hk,r2,r5,hb⟩:=hrel
  obtain⟨aa,ca,hva⟩:=ac1 ho
  subst hva
  have q8:wr.cell? ⟨qb,8,none⟩=some (.slice aa L' ca):=by rw[aa0 hq];rfl
  by_cases hlt:L'<N8
  ·have hmod:0<(L':Int) % 8:=by unfold nblk at h8;omega
   have KA:Keep No wr (wr.alloc (.cells #[.int .i64 0] 3)):=(Keep.refl No wr).alloc _
   have hcA:=one_cell (w:=wr) (x:=.int .i64 0) (e:=3)
   have oA:=aa3 ho KA (fun _ _ x=>x)
   have hqA:=KA.old hq id
   gi_wp2_with (gi_at_builtin;refine ac3 _ rfl (.tmp 141) (.tmp 142) 22 rfl w4.heap.size 3 i3 (.int .i64 0) 1 8 Tryz.underlying22 hi3 hz30 hz31 hz32 rfl (by decide) (.slice aa L' ca) L' (((List.range n).map fun i=>.int .i64 (img i))++List.replicate j (.int .i64 0)) rfl oA ⟨wr.heap.size,0,none⟩ 1 1 [.int .i64 0] rfl (by simp) hcA (by simp[Value.oneCell']) (by unfold maxLen;omega) (by omega) (Nat.le_trans hb KA.size) (by omega) ?_;intro vb WB oB KB _;have fB:=ac1 oB;obtain⟨ab,cb,hvb⟩:=fB;subst hvb;have hqB:=KB.old hqA (fun e=>by have:=(oA.lt qb e).1;omega);have gB:WB.cell? ⟨qb,8,none⟩=some (.slice aa L' ca):=(by rw[aa0 hqB];rfl);have fz:=ab3 hqB 8)
   have kS:Keep (Go.Fxa.At qb) WB (WB.setCell ⟨qb,8,none⟩ (.slice ab (L'+1) cb)):=Keep.set1 _
   have hqZ:(WB.setCell ⟨qb,8,none⟩ (.slice ab (L'+1) cb)).heap[qb]?=some (rproc true false 0 0 0 (.slice ab (L'+1) cb) 0):=(aa2 hqB _).trans rfl
   have nb:∀x,x<w4.heap.size→¬(Value.slice aa L' ca).ownBlock=some x:=fun x hx e=>by have:=(oA.lt x e).1;omega
   have KAB:Keep No w WB:=(hK.then KA).trans KB (fun k hk e=>absurd (oA.lt k e).1 (by omega))
   have oZ:=aa3 oB kS (fun g hg e=>by have e:g=qb:=e;have:=(oB.lt g hg).1;omega)
   go_roundw
   case rel=>
    refine⟨j+1,L'+1,_,by omega,by omega,hqZ,?_,KAB.trans kS (fun k hk e=>absurd (show k=qb from e) (by omega)),kS.old (KB.old (KA.old hk id) (nb _ (by omega))) (fun e=>by have e:rb=qb:=e;omega),(((r2.keep KA id).keep KB (nb _ (by omega))).keep kS (fun e=>by have e:cr=qb:=e;omega)),(((r5.keep KA id).keep KB (nb _ (by omega))).keep kS (fun e=>by have e:sr=qb:=e;omega)),Nat.le_trans hb (Nat.le_trans KA.size (Nat.le_trans KB.size kS.size))⟩
    rw[List.replicate_succ',←List.append_assoc]
    exact oZ
   case measure=>
    have e1:imLen wr qb=L':=by unfold imLen;rw[q8]
    have e2:imLen (WB.setCell ⟨qb,8,none⟩ (.slice ab (L'+1) cb)) qb=L'+1:=by unfold imLen;rw[aa0 hqZ];rfl
    rw[e1,e2]
    omega
  ·obtain rfl:L'=N8:=by omega
   have hmod:¬0<(L':Int) % 8:=by omega
   have hz:=rkern_at cr sr C M
   obtain⟨i9,hi9,hz90,hz91,hz92⟩:=info_parts infoP157
   have k2:wr.cell? ⟨rb,2,none⟩=some (.slice none 0 0):=(aa0 hk 2).trans hz.2.2.2.1
   have KA:Keep No wr (wr.alloc (.cells #[.pointer (some ⟨qb,0,none⟩)] 157)):=(Keep.refl No wr).alloc _
   have hcA:=one_cell (w:=wr) (x:=.pointer (some ⟨qb,0,none⟩)) (e:=157)
   have hkA:=KA.old hk id
   gi_upto_region 21 with(gi_at_builtin;refine ac3 _ rfl (.tmp 150) (.tmp 152) 161 rfl wr.heap.size 157 i9 (.pointer none) 1 8 Tryz.underlying161 hi9 hz90 hz91 hz92 rfl (by decide) (.slice none 0 0) 0 [] rfl (World.ownsRow_nil _ _ _ _) ⟨wr.heap.size,0,none⟩ 1 1 [.pointer (some ⟨qb,0,none⟩)] rfl (by simp) hcA (by simp[Value.oneCell']) (by unfold maxLen;omega) (by omega) KA.size (by omega) ?_;intro vb WB oB KB _;have fB:=ac1 oB;obtain⟨ab,cb,hvb⟩:=fB;subst hvb;have hkB:=KB.old hkA (fun e=>by cases e);have gB:WB.cell? ⟨rb,2,none⟩=some (.slice none 0 0):=(aa0 hkB 2).trans hz.2.2.2.1;have fz:=ab3 hkB 2)
   have KB':Keep No wr WB:=KA.then (KB.mono fun k _ e=>by cases e)
   have kS:Keep (Go.Fxa.At rb) WB (WB.setCell ⟨rb,2,none⟩ (.slice ab 1 cb)):=Keep.set1 _
   have hkZ:=aa2 (i:=2) hkB (.slice ab 1 cb)
   have hqZ:=kS.old (KB'.old hq id) (fun e=>by have e:qb=rb:=e;omega)
   have r2Z:=(r2.keep KB' id).keep kS (fun e=>by have e:cr=rb:=e;omega)
   have r5Z:=(r5.keep KB' id).keep kS (fun e=>by have e:sr=rb:=e;omega)
   have hoZ:=aa3 (aa3 ho KB' (fun _ _ x=>x)) kS (fun g hg e=>by have e:g=rb:=e;have:=(ho.lt g hg).1;omega)
   have hol:∀g,(Value.slice aa L' ca).ownBlock=some g→w4.heap.size≤g∧g<wr.heap.size:=ho.lt
   have hwr:rb<wr.heap.size:=ab2 hk
   have oZ:=aa3 oB kS (fun g hg e=>by have e:g=rb:=e;have:=(oB.lt g hg).1;omega)
   have KZ:Keep No w (WB.setCell ⟨rb,2,none⟩ (.slice ab 1 cb)):=(hK.then KB').trans kS (fun k hk e=>absurd (show k=rb from e) (by omega))
   clear KA hcA hkA KB hkB gB fz KB' kS hq hk r2 r5 ho oB hK q8 k2 hi9 hz90 hz91 hz92
   generalize WB.setCell ⟨rb,2,none⟩ (.slice ab 1 cb)=W9 at*
   have k1:W9.cell? ⟨rb,1,none⟩=some (.slice (some ⟨sr,0,none⟩) M M):=(aa0 hkZ 1).trans ((ac0 (by decide)).trans hz.2.2.1)
   have q8:W9.cell? ⟨qb,8,none⟩=some (.slice aa L' ca):=by rw[aa0 hqZ];rfl
   have hL8:L'<1000000:=by unfold nblk at h8;omega
   refine aa9 (P:=Tryz.prog) No _ rfl rfl (by kernel_rfl) 10 168 [0,1,2,3,4,5,6,7,8,9] [] (by kernel_rfl) (by rfl) (fun _ _ _=>True) (fun _ _ _ _ _ h _=>h) _ _ rfl rfl ?_
   gi_wp2_with (gi_at_call 109;refine(ab4 _ W9.drew L' hL8).mono ?_;rintro e w2 ⟨rfl,hw2⟩;have hw2:=hw2.symm;subst hw2)
   refine⟨rfl,by kernel_rfl,?_,(fun i hi=>absurd hi (by simp)),?_⟩
   ·intro V hK
    have d1:=hK.has (w:=W9.drew) k1
    have d2:=hK.has (w:=W9.drew) q8
    repeat' (refine aa8 ?_ ?_)
    all_goals first|exact trivial|gi_wp2_with (gi_at_call 109;refine(ab4 _ V L' hL8).mono ?_;rintro e w2 ⟨rfl,hw2⟩;have hw2:=hw2.symm;subst hw2)
   intro u1 V hV _
   simp only[putS]
   have KV:Keep No w V:=KZ.drew.then hV
   have hkV:=hV.old (heap_drew.trans hkZ) id
   have hqV:=hV.old (heap_drew.trans hqZ) id
   have r2V:RowT 3 .i64 V cr C (fun _=>0):=RowT.keep (w:=W9.drew) r2Z hV id
   have r5V:RowT 3 .i64 V sr M (fun _=>0):=RowT.keep (w:=W9.drew) r5Z hV id
   have hoV:V.ownsRow w4.heap.size 3 1 (.slice aa L' ca) L' _:=aa3 (w:=W9.drew) hoZ hV (fun _ _ x=>x)
   have oV:V.ownsRow wr.heap.size 157 1 (.slice ab 1 cb) (0+1) ([]++[.pointer (some ⟨qb,0,none⟩)]):=aa3 (w:=W9.drew) oZ hV (fun _ _ x=>x)
   clear hkZ hqZ r2Z r5Z hoZ oZ KZ k1 q8 hV
   gi_wp2_with fail
   refine(take_calls _ V sr M M (nblk L') _ r5V.row (by omega) (by unfold nblk at h8 ⊢;omega) (by unfold nblk at h8 m8 ⊢;omega) (fun _ _=>rfl)).mono ?_
   rintro e w5 ⟨rfl,K5,r5'⟩
   gi_wp2
   go_ret
   obtain⟨gq,rfl⟩:∃g,aa=some ⟨g,0,none⟩:=by
    rcases hoV.2 with⟨_,e⟩|⟨g,cap,cur,e,_⟩
    ·exact absurd e (by omega)
    ·injection e with e1;exact⟨g,e1⟩
   have hcap:L'≤ca:=by
    rcases hoV.2 with⟨_,e⟩|⟨g,cap,cur,e,_,_,hq,_⟩
    ·omega
    ·injection e with _ _ e3;omega
   obtain⟨gp,curp,rfl,hgp1,hgp2,hgp3⟩:∃g cur,ab=some ⟨g,0,none⟩∧wr.heap.size≤g∧V.heap[g]?=some (.cells cur 157 (0,0))∧cur[0]?=some (.pointer (some ⟨qb,0,none⟩)):=by
    rcases oV.2 with⟨_,e⟩|⟨g,cap,cur,e,q1,q2,_⟩
    ·omega
    ·injection e with e1
     subst e1
     have h0:=World.ownsRow.cellAt (n:=1) oV 0 (by omega)
     rw[aa0 q2]at h0
     exact⟨g,cur,rfl,q1,q2,by simpa using h0⟩
   have lg:=hol gq rfl
   have lgp:=ab2 hgp2
   have nS:∀x,x≠sr→¬Go.Fxa.At sr x:=fun x hx e=>hx e
   have K5':Keep No w w5:=KV.trans K5 (fun k hk e=>absurd (show k=sr from e) (by omega))
   have hgV:gq<V.heap.size:=by
    rcases hoV.2 with⟨_,e⟩|⟨g,cap,cur,e,_,q2,_⟩
    ·omega
    ·injection e with e1;cases e1;exact ab2 q2
   have n1:rb≠sr:=by omega
   have n2:gp≠sr:=by omega
   have n3:qb≠sr:=by omega
   refine⟨K5',⟨rb,gp,cb,qb,cr,sr,gq,ca,C,M,L',ah5 n img⟩,by simp,⟨⟨by omega,by omega,by omega⟩,.slice none 0 0,_,curp,(fun _=>0),_,⟨K5.old hkV (nS _ n1),?_,?_,?_,?_,?_,K5.old hgp2 (nS _ n2),hgp3,K5.old hqV (nS _ n3),(r2V.keep K5 (nS _ hcs)).row,r5'⟩,?_,?_⟩,?_,rfl,rfl,rfl,rfl,hcap,hcs,?_,?_,?_,?_,?_,?_,?_,?_,?_,?_,?_⟩
   ·simpa using hz.1
   ·exact(ac0 (by decide)).trans hz.2.1
   ·exact(ac0 (by decide)).trans hz.2.2.1
   ·exact aj6 hz.2.2.2.1
   ·exact(ac0 (by decide)).trans hz.2.2.2.2.2
   ·obtain⟨curq,hgq⟩:∃cs,V.heap[gq]?=some (.cells cs 3 (0,0)):=by
     rcases hoV.2 with⟨_,e⟩|⟨g,cap,cur,e,_,q2,_⟩
     ·omega
     ·injection e with e1;cases e1;exact⟨cur,q2⟩
    refine⟨fun i hi=>?_,curq,K5.old hgq (nS _ (by show gq≠sr;omega))⟩
    have h1:=hoV.cellAt i (by simpa using hi)
    refine(K5.cell (p:=⟨gq,i,none⟩) hgV (nS _ (by show gq≠sr;omega))).trans (h1.trans ?_)
    show _=some (Value.int .i64 (ah5 n img i))
    by_cases hin:i<n
    ·rw[List.getElem?_append_left (by simpa using hin)]
     simp[ah5,hin]
    ·rw[List.getElem?_append_right (by simpa using hin),List.getElem?_replicate_of_lt (by simp only[List.length_map,List.length_range];simp only at hi;omega)]
     simp[ah5,hin]
   ·simp
   ·have s5:=K5.size
    have lk:=ab2 hkV
    have lqV:=ab2 hqV
    have lcr:=r2V.row.lt
    have lsr:=r5V.row.lt
    rintro k (e|e|e|e|e|e)<;>simp only at e<;>subst e<;>exact⟨by omega,by omega⟩
   all_goals (simp only;omega)
end
def BookX (T:Nat→Nat) (w:World) (bk:Nat) (tl:Nat→Value) (mm:Nat) (ls:List (Value×Int)):Prop:=
 ∃es fs,Book T w bk tl mm es fs∧Lists T w tl ls∧(∀k,w.heap.size≤k→T k=0)∧es.length+fs.length≤4*mm∧ls.length≤1000
theorem BookX.keep {T:Nat→Nat} {w w':World} {bk mm:Nat} {tl:Nat→Value} {ls:List (Value×Int)} {S:Nat→Prop} (h:BookX T w bk tl mm ls) (hK:Keep S w w') (hn:∀k,1≤T k→T k≤8→¬S k):BookX T w' bk tl mm ls:=by
 obtain⟨es,fs,h1,h2,h3,h4⟩:=h
 exact⟨es,fs,h1.keep hK (fun k hk=>hn k hk.1 (by have:=hk.2;omega)) (fun _ _ _=>rfl),h2.keep hK (fun k h6 h8=>hn k (by omega) h8) (fun _ _ _ _=>rfl),fun k hk=>h3 k (Nat.le_trans hK.size hk),h4⟩
theorem BookX.keepNo {T:Nat→Nat} {w w':World} {bk mm:Nat} {tl:Nat→Value} {ls:List (Value×Int)} (h:BookX T w bk tl mm ls) (hK:Keep No w w'):BookX T w' bk tl mm ls:=h.keep hK (fun _ _ _ x=>x)
def normT (T:Nat→Nat) (n:Nat):Nat→Nat:=fun k=>if k<n then T k else 0
section
variable (m:Nat) (w:World)
theorem al4 (T:Nat→Nat) (bk mm:Nat) (tl:Nat→Value) (ls:List (Value×Int)) (h:BookX T w bk tl mm ls) (v:Value) (n:Nat) (xs:List Value) (hv:w.ownsRow 0 3 1 v n xs) (hnt:∀g,v.ownBlock=some g→T g=0) (hn:n≤10000000) (hmm:mm≤200000000):
  CallsIn NF m Tryz.prog 79 #[.pointer (some ⟨bk,0,none⟩),v] w fun e w'=>e=.returned (.tuple #[])∧Keep (KeepS T v) w w'∧∃T',BookX T' w' bk tl (mm+1) ls∧∀k,k<w.heap.size→T' k=ad4 T v 6 k:=by
 obtain⟨es,fs,h1,h2,h3,h4,h5⟩:=h
 have hnb:∀g,v.ownBlock=some g→¬Bk T g:=fun g hg hb=>by have:=hnt g hg;have:=hb.1;omega
 refine(keepInts_book m w T bk mm tl es fs h1 v n xs hv hnb (by omega) hn (by omega)).mono ?_
 rintro e w' ⟨rfl,K,T',es',hl,B,hT⟩
 refine⟨rfl,K,normT T' w'.heap.size,⟨es++es',fs,?_,?_,?_,by rw[List.length_append];omega,h5⟩,fun k hk=>?_⟩
 ·exact B.keep (Keep.refl No _) (fun _ _ x=>x) (fun k hk _=>if_pos hk)
 ·refine h2.keep K (fun k hk hk8 e=>?_) (fun k hk h6 h8=>?_)
  ·rcases e with e|e
   ·omega
   ·have:=hnt k e;omega
  ·have:k<w'.heap.size:=Nat.lt_of_lt_of_le hk K.size
   rw[show normT T' w'.heap.size k=T' k from if_pos this,hT k hk]
   exact if_neg fun e=>by have:=hnt k e;omega
 ·exact fun k hk=>if_neg (by omega)
 ·rw[show normT T' w'.heap.size k=T' k from if_pos (Nat.lt_of_lt_of_le hk K.size),hT k hk]
theorem keepEvents_X (T:Nat→Nat) (bk mm:Nat) (tl:Nat→Value) (ls:List (Value×Int)) (h:BookX T w bk tl mm ls) (v:Value) (n:Nat) (xs:List Value) (hv:w.ownsRow 0 59 4 v n xs) (hnt:∀g,v.ownBlock=some g→T g=0) (hn:n≤10000000) (hmm:mm≤200000000):
  CallsIn NF m Tryz.prog 119 #[.pointer (some ⟨bk,0,none⟩),v] w fun e w'=>e=.returned (.tuple #[])∧Keep (KeepS T v) w w'∧∃T',BookX T' w' bk tl (mm+1) ls∧∀k,k<w.heap.size→T' k=ad4 T v 6 k:=by
 obtain⟨es,fs,h1,h2,h3,h4,h5⟩:=h
 have hnb:∀g,v.ownBlock=some g→¬Bk T g:=fun g hg hb=>by have:=hnt g hg;have:=hb.1;omega
 refine(keepEvents_book m w T bk mm tl es fs h1 v n xs hv hnb (by omega) hn (by omega)).mono ?_
 rintro e w' ⟨rfl,K,T',es',hl,B,hT⟩
 refine⟨rfl,K,normT T' w'.heap.size,⟨es,fs++es',?_,?_,?_,by rw[List.length_append];omega,h5⟩,fun k hk=>?_⟩
 ·exact B.keep (Keep.refl No _) (fun _ _ x=>x) (fun k hk _=>if_pos hk)
 ·refine h2.keep K (fun k hk hk8 e=>?_) (fun k hk h6 h8=>?_)
  ·rcases e with e|e
   ·omega
   ·have:=hnt k e;omega
  ·have:k<w'.heap.size:=Nat.lt_of_lt_of_le hk K.size
   rw[show normT T' w'.heap.size k=T' k from if_pos this,hT k hk]
   exact if_neg fun e=>by have:=hnt k e;omega
 ·exact fun k hk=>if_neg (by omega)
 ·rw[show normT T' w'.heap.size k=T' k from if_pos (Nat.lt_of_lt_of_le hk K.size),hT k hk]
theorem looks_X (T:Nat→Nat) (bk mm:Nat) (tl:Nat→Value) (ls:List (Value×Int)) (h:BookX T w bk tl mm ls) (hmm:mm≤200000000):
  CallsIn NF m Tryz.prog 34 #[.pointer (some ⟨bk,0,none⟩)] w fun e w'=>e=.returned (.bool true)∧Keep No w w':=by
 obtain⟨es,fs,h1,h2,h3,h4,h5⟩:=h
 exact looks_calls m w T bk mm tl es fs ls h1 h2 (by omega) (by omega) h5
def PairOn (kb:KB) (qb:QB) (w:World):Option (Bool×Nat×Nat×Nat)→Prop
 | some s=>kb.on s.1 s.2.1 s.2.2.1 s.2.2.2 w∧qb.on s.1 s.2.1 s.2.2.1 s.2.2.2 w
 | none=>kb.off w∧qb.off w
theorem PairOn.keep {kb:KB} {qb:QB} {w w':World} {st:Option (Bool×Nat×Nat×Nat)} {S:Nat→Prop} (h:PairOn kb qb w st) (hK:Keep S w w') (hk:∀k,kb.foot k→¬S k) (hq:∀k,qb.foot k→¬S k):PairOn kb qb w' st:=by
 cases st with
 | some s=>exact⟨h.1.keep hK hk,h.2.keep hK hq⟩
 | none=>exact⟨h.1.keep hK (hk _ (.inl rfl)),h.2.keep hK hq⟩
def stN:Option (Bool×Nat×Nat×Nat)→Nat
 | some _=>1
 | none=>0
theorem kpids_any (kb:KB) (qb:QB) (st:Option (Bool×Nat×Nat×Nat)) (h:PairOn kb qb w st):CallsIn NF m Tryz.prog 50 #[.pointer (some ⟨kb.kb,0,none⟩)] w fun e w'=>Keep No w w'∧∃v,e=.returned v∧w'.ownsRow w.heap.size 3 1 v (stN st) (List.replicate (stN st) (.int .i64 1)):=by
 cases st with
 | some s=>exact pids_one m w kb _ _ _ _ h.1
 | none=>
  refine(pids_none m w kb h.1).mono ?_
  rintro e w' ⟨rfl,rfl⟩
  exact⟨Keep.refl _ _,_,rfl,World.ownsRow_nil _ _ _ _⟩
theorem rpids_any (kb:KB) (qb:QB) (st:Option (Bool×Nat×Nat×Nat)) (h:PairOn kb qb w st):CallsIn NF m Tryz.prog 38 #[.pointer (some ⟨qb.rb,0,none⟩)] w fun e w'=>Keep No w w'∧∃v,e=.returned v∧w'.ownsRow w.heap.size 3 1 v (stN st) (List.replicate (stN st) (.int .i64 1)):=by
 cases st with
 | some s=>exact rpids_one m w qb h.2.has
 | none=>
  refine(rpids_none m w qb h.2.has).mono ?_
  rintro e w' ⟨rfl,rfl⟩
  exact⟨Keep.refl _ _,_,rfl,World.ownsRow_nil _ _ _ _⟩
theorem owns_sli {w:World} {base n:Nat} {v:Value} {x:Int} (h:w.ownsRow base 3 1 v n (List.replicate n (.int .i64 x))) (hn:n<100000000):SlI w v n (fun _=>x):=by
 obtain⟨a,c,rfl⟩:=ac1 h
 refine⟨hn,a,c,rfl,fun h0=>?_⟩
 have h2:=h.2
 rcases h2 with⟨_,e⟩|⟨g,cap,cur,e,_⟩
 ·omega
 ·injection e with e1
  subst e1
  refine⟨g,0,rfl,fun i hi=>?_⟩
  rw[Nat.zero_add]
  exact(h.cellAt i (by omega)).trans (List.getElem?_replicate_of_lt (by omega))
set_option maxHeartbeats 4000000 in
theorem wpids_calls (T:Nat→Nat) (wb bk mm:Nat) (tl:Nat→Value) (ls:List (Value×Int)) (h:BookX T w bk tl mm ls) (hw:w.cell? ⟨wb,0,none⟩=some (.pointer (some ⟨bk,0,none⟩))) (hwb:¬Bk T wb) (kb:KB) (qb:QB) (st:Option (Bool×Nat×Nat×Nat)) (hp:PairOn kb qb w st) (hmm:mm≤100000000):
  CallsIn NF m Tryz.prog 35 #[.pointer (some ⟨wb,0,none⟩),.agg #[.pointer (some ⟨kb.kb,0,none⟩),.pointer (some ⟨qb.rb,0,none⟩)]] w fun e w'=>e=.returned (.bool true)∧Keep (fun k=>1≤T k∧T k≤5) w w'∧∃T',BookX T' w' bk tl (mm+2) ls∧∀k,k<w.heap.size→T' k=T k:=by
 have hn0:∀k,w.heap.size≤k→T k=0:=by obtain⟨_,_,_,_,h3,_⟩:=h;exact h3
 have lw:wb<w.heap.size:=World.block_lt_of_cell? _ _ hw
 have s1:stN st≤1:=by cases st<;>simp[stN]
 have K1:Keep No w (w.alloc (.cells #[.pointer (some ⟨kb.kb,0,none⟩),.pointer (some ⟨qb.rb,0,none⟩)] 83)):=(Keep.refl _ _).alloc _
 have hb1:(w.alloc (.cells #[.pointer (some ⟨kb.kb,0,none⟩),.pointer (some ⟨qb.rb,0,none⟩)] 83)).heap[w.heap.size]?=some (.cells #[.pointer (some ⟨kb.kb,0,none⟩),.pointer (some ⟨qb.rb,0,none⟩)] 83 (0,0)):=aa4 rfl
 have p1:=hp.keep K1 (fun _ _ x=>x) (fun _ _ x=>x)
 gi_enter Tryz.func35,Tryz.ntmps35
 gi_wp2_with fail
 generalize w.alloc (.cells #[.pointer (some ⟨kb.kb,0,none⟩),.pointer (some ⟨qb.rb,0,none⟩)] 83)=w1 at*
 refine(kpids_any _ w1 kb qb st p1).mono ?_
 rintro e w2 ⟨k2,va,rfl,oa⟩
 have K2:=K1.then k2
 have c2:w2.cell? ⟨w.heap.size,0,none⟩=some (.pointer (some ⟨kb.kb,0,none⟩)):=by rw[aa0 (k2.old hb1 id)];rfl
 gi_wp2_with fail
 refine(kpids_any _ w2 kb qb st (p1.keep k2 (fun _ _ x=>x) (fun _ _ x=>x))).mono ?_
 rintro e w3 ⟨k3,vc,rfl,oc⟩
 have K3:=K2.then k3
 have c3:w3.cell? ⟨w.heap.size,1,none⟩=some (.pointer (some ⟨qb.rb,0,none⟩)):=by rw[aa0 (k3.old (k2.old hb1 id) id)];rfl
 gi_wp2_with fail
 refine(rpids_any _ w3 kb qb st ((p1.keep k2 (fun _ _ x=>x) (fun _ _ x=>x)).keep k3 (fun _ _ x=>x) (fun _ _ x=>x))).mono ?_
 rintro e w4 ⟨k4,vb,rfl,ob⟩
 have K4:=K3.then k4
 have oa4:=aa3 (aa3 oa k3 (fun _ _ x=>x)) k4 (fun _ _ x=>x)
 have oc4:=aa3 oc k4 (fun _ _ x=>x)
 gi_wp2_with fail
 refine(ah8 _ w4 va vb (stN st) _ (owns_sli oa4 (by omega)) (owns_sli ob (by omega))).mono ?_
 rintro e w5 ⟨rfl,k5⟩
 have oa5:=aa3 oa4 k5 (fun _ _ x=>x)
 have oc5:=aa3 oc4 k5 (fun _ _ x=>x)
 have ob5:=aa3 ob k5 (fun _ _ x=>x)
 gi_wp2_with fail
 refine(ah8 _ w5 vc vb (stN st) _ (owns_sli oc5 (by omega)) (owns_sli ob5 (by omega))).mono ?_
 rintro e w6 ⟨rfl,k6⟩
 have K6:=(K4.then k5).then k6
 have oa6:=aa3 oa5 k6 (fun _ _ x=>x)
 have oc6:=aa3 oc5 k6 (fun _ _ x=>x)
 have g6:=K6.has hw
 gi_wp2_with fail
 refine(al4 _ w6 T bk mm tl ls (h.keepNo K6) va (stN st) _ (af0 oa6 (Nat.zero_le _)) (fun g hg=>hn0 g (Nat.le_trans K1.size (oa6.lt g hg).1)) (by omega) (by omega)).mono ?_
 rintro e w7 ⟨rfl,K7,T1,B1,hT1⟩
 have la:∀g,va.ownBlock=some g→w1.heap.size≤g∧g<w2.heap.size:=fun g hg=>oa.lt g hg
 have lc:∀g,vc.ownBlock=some g→w2.heap.size≤g∧g<w6.heap.size:=fun g hg=>oc6.lt g hg
 have nac:∀g,vc.ownBlock=some g→va.ownBlock≠some g:=fun g hg e=>by have:=la g e;have:=lc g hg;omega
 have t7:∀g,vc.ownBlock=some g→T1 g=0:=fun g hg=>by
  rw[hT1 g (lc g hg).2,show ad4 T va 6 g=T g from if_neg (nac g hg)]
  exact hn0 g (Nat.le_trans K1.size (Nat.le_trans k2.size (lc g hg).1))
 have oc7:=aa3 oc6 K7 (fun g hg e=>by
  rcases e with e|e
  ·have:=hn0 g (Nat.le_trans K1.size (Nat.le_trans k2.size (lc g hg).1));omega
  ·exact nac g hg e)
 have nwb:¬KeepS T va wb:=fun e=>by
  rcases e with e|e
  ·exact hwb ⟨e.1,by omega⟩
  ·have:=la wb e;have:=K1.size;omega
 have g7:=(K7.cell (p:=⟨wb,0,none⟩) (Nat.lt_of_lt_of_le lw K6.size) nwb).trans g6
 gi_wp2_with fail
 refine(al4 _ w7 T1 bk (mm+1) tl ls B1 vc (stN st) _ (af0 oc7 (Nat.zero_le _)) t7 (by omega) (by omega)).mono ?_
 rintro e w8 ⟨rfl,K8,T2,B2,hT2⟩
 gi_wp2
 go_ret
 have old1:∀k,k<w.heap.size→T1 k=T k:=fun k hk=>by
  rw[hT1 k (Nat.lt_of_lt_of_le hk K6.size)]
  exact if_neg fun e=>by have:=la k e;have:=K1.size;omega
 refine⟨by simp,?_,T2,B2,fun k hk=>?_⟩
 ·refine(K6.no.trans K7 (fun k hk e=>?_)).trans K8 (fun k hk e=>?_)
  ·rcases e with e|e
   ·exact e
   ·have:=la k e;have:=K1.size;omega
  ·rcases e with e|e
   ·rw[old1 k hk]at e;exact e
   ·have:=lc k e;have:=K1.size;have:=k2.size;omega
 ·rw[hT2 k (Nat.lt_of_lt_of_le hk (Nat.le_trans K6.size K7.size)),←old1 k hk]
  exact if_neg fun e=>by have:=lc k e;have:=K1.size;have:=k2.size;omega
end
end Go.Fxa
