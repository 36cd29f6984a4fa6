/- The document's answer: one step, whole. The document's answer: Pick. The document's answer: Pick refused; Pids. -/
import Derived.Test.YtmhplpfpcnjekaaGreatK23
namespace Go.Fxa
open Go.Conc
open Go.Proofs
open Go.RowKit
set_option maxRecDepth 1000000
theorem ab7 {F:Fence} {n:Nat} {P:Program} {ops:Array Oper} {Q:Exit→Act→World→Prop} {a:Act} {w:World} {rest:List Oper} {o:Oper} (hw:Region.wanted o (yielded ops a.tmps)=false) (ha:o.about P w a.eval=none) (hp:a.put o.dst undef=a) (h:wpListIn F n P ops Q rest a w):wpListIn F n P ops Q (o::rest) a w:=
 wpListIn_skip hw ha (by rw[hp];exact h)
section
variable {b:QB} {w V w5:World} {A B P A' B' P':Nat} {told:Value} {ks qs:Array Value} {fc fs:Nat→Int} {evs:List (Nat×Nat×Nat)}
theorem rnext {base:Nat} (ok:b.Ok) (lo:∀k,b.foot k→k<base) (KV:Keep No w V) (h:b.At V true false A B P 0 (.slice (some ⟨b.qi,0,none⟩) b.L b.ic) told ks qs fc fs) (ht:ToldE base told V evs) (hi:b.Img V) (K5:Keep (Go.Fxa.At b.qb) V w5) (p5:w5.heap[b.qb]?=some (rproc true false A' B' P' (.slice (some ⟨b.qi,0,none⟩) b.L b.ic) 0)) (hs:ac8 b.L b.img (A,B,P)=(some (A',B',P'),[])):Keep (fun k=>b.foot k∨told.ownBlock=some k) w w5∧b.Next base qs fc fs w5 (evs++(ac8 b.L b.img (A,B,P)).2) (ac8 b.L b.img (A,B,P)).1:=by
 have ne:=h.ne
 rw[hs]
 refine⟨KV.no.trans K5 (fun k _ e=>.inl (.inr (.inr (.inl e)))),told,ks,?_,⟨K5.old h.k (fun e=>ne.2.1 e),h.sz,h.k0,h.k1,h.k2,h.k7,K5.old h.q (fun e=>ne.2.2 e),h.q0,p5,h.c.keep K5 (fun e=>ok.c3 e),h.s.keep K5 (fun e=>ok.s3 e)⟩,hi.keep K5 (fun e=>ok.i3 e)⟩
 simp only[List.append_nil]
 exact ad1 ht K5 (fun g hg e=>by have e:g=b.qb:=e;have:=lo b.qb (by simp[QB.foot]);omega)
theorem fp_foot {k n:Nat} (_:k<n) (h:b.fp k∨told.ownBlock=some k):b.foot k∨told.ownBlock=some k:=h.elim (fun h=>.inl (h.elim .inl fun e=>.inr (.inr (.inl e)))) .inr
theorem fp_img {base:Nat} (ok:b.Ok) (lo:∀k,b.foot k→k<base) (ht:ToldE base told V evs):¬(b.fp b.qi∨told.ownBlock=some b.qi):=by
 rintro((h|h)|h)
 ·exact ok.i1 h
 ·exact ok.i3 h
 ·have:=lo b.qi (by simp[QB.foot])
  have:=(ht.lt _ h).1
  omega
end
section
variable (m:Nat) (w:World)
set_option maxHeartbeats 8000000 in
theorem rstepP_calls (b:QB) (ok:b.Ok) (fit:b.Fit) (base:Nat) (A B P:Nat) (hp:IsPut b.L b.img (A,B,P)) (told:Value) (ks qs:Array Value) (fc fs:Nat→Int) (evs:List (Nat×Nat×Nat)) (h:b.At w true false A B P 0 (.slice (some ⟨b.qi,0,none⟩) b.L b.ic) told ks qs fc fs) (hI:b.Img w) (ht:ToldE base told w evs) (hb:base≤w.heap.size) (lo:∀k,b.foot k→k<base) (hP:P<65536):
  CallsIn NF m Tryz.prog 74 #[.pointer (some ⟨b.rb,0,none⟩),.pointer (some ⟨b.qb,0,none⟩)] w fun e w'=>e=.returned (.tuple #[])∧Keep (fun k=>k=b.qb∨k=b.qi) w w'∧ToldE base told w' evs∧(b.im (putI b.L b.img (A,B,P))).At w' true false A B (P+2) 0 (.slice (some ⟨b.qi,0,none⟩) b.L b.ic) told ks qs fc fs∧(b.im (putI b.L b.img (A,B,P))).Img w':=by
 have c7:w.cell? ⟨b.qb,7,none⟩=some (.int .i64 P):=by rw[aa0 h.p];rfl
 have c8:w.cell? ⟨b.qb,8,none⟩=some (.slice (some ⟨b.qi,0,none⟩) b.L b.ic):=by rw[aa0 h.p];rfl
 have L2:=ok.L2
 have hic:=ok.ic
 gi_enter Tryz.func74,Tryz.ntmps74
 gi_wp2
 refine aa9 (P:=Tryz.prog) No _ rfl rfl (by kernel_rfl) 10 209 [0,1,2,3,4,5,6,7,8,9] [] (by kernel_rfl) (by rfl) (fun _ _ _=>True) (fun _ _ _ _ _ h _=>h) _ _ rfl rfl ?_
 gi_wp2
 refine⟨rfl,by kernel_rfl,?_,(fun i hi=>absurd hi (by simp)),?_⟩
 ·intro V hK
  have d7:=hK.has (w:=w.drew) c7
  have d8:=hK.has (w:=w.drew) c8
  repeat' (refine aa8 ?_ ?_)
  all_goals first|exact trivial|gi_wp2
 intro u1 V1 hV1 _
 simp only[putS]
 have KV1:Keep No w V1:=(Keep.refl No w).drew.then hV1
 have hPL:P+2≤b.L:=hp.1
 have c71:=KV1.has c7
 have c81:=KV1.has c8
 have i0:=KV1.has (hI.c P (by omega))
 have i1:=KV1.has (hI.c (P+1) (by omega))
 have w0:=fit P (by omega)
 have w1:=fit (P+1) (by omega)
 gi_wp2
 refine aa9 (P:=Tryz.prog) No _ rfl rfl (by kernel_rfl) 8 209 [0,1,2,3,4,5,6,7] [] (by kernel_rfl) (by rfl) (fun _ _ _=>True) (fun _ _ _ _ _ h _=>h) _ _ rfl rfl ?_
 gi_wp2
 refine⟨rfl,by kernel_rfl,?_,(fun i hi=>absurd hi (by simp)),?_⟩
 ·intro V hK
  have d7:=hK.has (w:=V1.drew) c71
  have d8:=hK.has (w:=V1.drew) c81
  repeat' (refine aa8 ?_ ?_)
  all_goals first|exact trivial|gi_wp2
 intro u2 V2 hV2 _
 simp only[putS]
 have KV2:Keep No V1 V2:=(Keep.refl No V1).drew.then hV2
 have c72:=KV2.has c71
 have c82:=KV2.has c81
 have i02:=KV2.has i0
 have i12:=KV2.has i1
 gi_wp2
 refine aa9 (P:=Tryz.prog) No _ rfl rfl (by kernel_rfl) 9 209 [0,1,2,3,4,5,6,7,8] [] (by kernel_rfl) (by rfl) (fun _ _ _=>True) (fun _ _ _ _ _ h _=>h) _ _ rfl rfl ?_
 gi_wp2
 refine⟨rfl,by kernel_rfl,?_,(fun i hi=>absurd hi (by simp)),?_⟩
 ·intro V hK
  have d7:=hK.has (w:=V2.drew) c72
  have d8:=hK.has (w:=V2.drew) c82
  repeat' (refine aa8 ?_ ?_)
  all_goals first|exact trivial|gi_wp2
 intro u3 V3 hV3 _
 simp only[putS]
 have KV23:Keep No V2 V3:=(Keep.refl No V2).drew.then hV3
 have KV3:Keep No w V3:=(KV1.then KV2).then KV23
 have i13:=KV23.has i12
 have A3:=h.keep KV3 (fun _ _ x=>x)
 have t3:=ht.more KV3
 have b3:=Nat.le_trans hb KV3.size
 have i3:=hI.keep KV3 (fun x=>x)
 have c73:V3.cell? ⟨b.qb,7,none⟩=some (.int .i64 P):=by rw[aa0 A3.p];rfl
 have c83:V3.cell? ⟨b.qb,8,none⟩=some (.slice (some ⟨b.qi,0,none⟩) b.L b.ic):=by rw[aa0 A3.p];rfl
 have c53:V3.cell? ⟨b.qb,5,none⟩=some (.int .i64 A):=by rw[aa0 A3.p];rfl
 have c63:V3.cell? ⟨b.qb,6,none⟩=some (.int .i64 B):=by rw[aa0 A3.p];rfl
 have f5:=ab3 A3.p 5
 have f6:=ab3 A3.p 6
 have f7:=ab3 A3.p 7
 have h3:b.img P=3:=hp.2.1
 have hnL:b.img (P+1)<b.L:=hp.2.2
 have eI:putI b.L b.img (A,B,P)=fun j=>if j=b.img (P+1)then A else b.img j:=if_pos hp
 obtain⟨csq,hzq⟩:=i3.z
 clear c7 c8 c71 c81 c72 c82 i0 i1 i02 i12 KV1 KV2 KV23 h ht hI hV1 hV2 hV3
 generalize hop:b.img P=op at*
 generalize hn:b.img (P+1)=n at*
 obtain rfl:op=3:=h3
 have K7:Keep (Go.Fxa.At b.qb) V3 (V3.setCell ⟨b.qb,7,none⟩ (.int .i64 ((P:Int)+2))):=Keep.set1 _
 have p7:(V3.setCell ⟨b.qb,7,none⟩ (.int .i64 ((P:Int)+2))).heap[b.qb]?=some (rproc true false A B (P+2) (.slice (some ⟨b.qi,0,none⟩) b.L b.ic) 0):=(aa2 A3.p _).trans rfl
 have z7:=K7.old hzq (fun e=>ok.i3 e)
 have i7:=i3.keep K7 (fun e=>ok.i3 e)
 have g5:(V3.setCell ⟨b.qb,7,none⟩ (.int .i64 ((P:Int)+2))).cell? ⟨b.qb,5,none⟩=some (.int .i64 A):=by rw[aa0 p7];rfl
 have g8:(V3.setCell ⟨b.qb,7,none⟩ (.int .i64 ((P:Int)+2))).cell? ⟨b.qb,8,none⟩=some (.slice (some ⟨b.qi,0,none⟩) b.L b.ic):=by rw[aa0 p7];rfl
 gi_wp2_with (refine ab7 rfl rfl rfl ?_)
 have ne:=A3.ne
 have A7:b.At (V3.setCell ⟨b.qb,7,none⟩ (.int .i64 ((P:Int)+2))) true false A B (P+2) 0 (.slice (some ⟨b.qi,0,none⟩) b.L b.ic) told ks qs fc fs:=⟨K7.old A3.k (fun e=>ne.2.1 e),A3.sz,A3.k0,A3.k1,A3.k2,A3.k7,K7.old A3.q (fun e=>ne.2.2 e),A3.q0,p7,A3.c.keep K7 (fun e=>ok.c3 e),A3.s.keep K7 (fun e=>ok.s3 e)⟩
 have t7:ToldE base told (V3.setCell ⟨b.qb,7,none⟩ (.int .i64 ((P:Int)+2))) evs:=ad1 t3 K7 (fun g hg e=>by have e:g=b.qb:=e;have:=lo b.qb (by simp[QB.foot]);omega)
 have KW:Keep (fun k=>k=b.qb∨k=b.qi) w (V3.setCell ⟨b.qb,7,none⟩ (.int .i64 ((P:Int)+2))):=KV3.no.trans K7 (fun k _ e=>.inl e)
 clear K7 p7 hzq i3 A3 t3 c73 c83 c53 c63 f5 f6 f7 i13
 generalize V3.setCell ⟨b.qb,7,none⟩ (.int .i64 ((P:Int)+2))=W7 at*
 refine aa9 (P:=Tryz.prog) No _ rfl rfl (by kernel_rfl) 9 209 [0,1,2,3,4,5,6,7,8] [] (by kernel_rfl) (by rfl) (fun _ _ _=>True) (fun _ _ _ _ _ h _=>h) _ _ rfl rfl ?_
 gi_wp2
 refine⟨rfl,by kernel_rfl,?_,(fun i hi=>absurd hi (by simp)),?_⟩
 ·intro V hK
  have d5:=hK.has (w:=W7.drew) g5
  have d8:=hK.has (w:=W7.drew) g8
  repeat' (refine aa8 ?_ ?_)
  all_goals first|exact trivial|gi_wp2
 intro u4 V4 hV4 _
 simp only[putS]
 have A8:=A7.keep ((Keep.refl No W7).drew.then hV4) (fun _ _ x=>x)
 have i8:=i7.keep ((Keep.refl No W7).drew.then hV4) (fun x=>x)
 have t8:=t7.more ((Keep.refl No W7).drew.then hV4)
 have K8:=KW.then ((Keep.refl No W7).drew.then hV4).no
 obtain⟨cs8,z8⟩:=i8.z
 have cn:=i8.c n hnL
 have fn:=ab3 z8 n
 clear g5 g8 A7 i7 t7 KW z7 hV4
 gi_wp2
 go_end0
 have kS:Keep (Go.Fxa.At b.qi) V4 (V4.setCell ⟨b.qi,n,none⟩ (.int .i64 A)):=Keep.set1 _
 have A9:=A8.keep kS (fun k hk e=>by
  have e:k=b.qi:=e
  subst e
  rcases hk with q|q|q|q|q
  ·exact ok.i1 q
  ·exact ok.i2 q
  ·exact ok.i3 q
  ·exact ok.d2 q.symm
  ·exact ok.d3 q.symm)
 refine⟨by simp,K8.trans kS (fun k _ e=>.inr e),ad1 t8 kS (fun g hg e=>by have e:g=b.qi:=e;have:=lo b.qi (by simp[QB.foot]);omega),⟨A9.k,A9.sz,A9.k0,A9.k1,A9.k2,A9.k7,A9.q,A9.q0,A9.p,A9.c,A9.s⟩,⟨fun i hi=>?_,_,aa2 z8 _⟩⟩
 show(V4.setCell ⟨b.qi,n,none⟩ (.int .i64 A)).cell? ⟨b.qi,i,none⟩=some (.int .i64 (putI b.L b.img (A,B,P) i))
 have ci:=i8.c i hi
 rw[aa0 z8]at ci
 rw[eI,aa0 (aa2 z8 _),Array.getElem?_setIfInBounds]
 by_cases e:n=i
 ·subst e
  have hl':n<cs8.size:=by
   rcases Nat.lt_or_ge n cs8.size with q|q
   ·exact q
   ·rw[Array.getElem?_eq_none q]at ci;cases ci
  simp[hl']
 ·rw[if_neg e,ci]
  simp[Ne.symm e]
set_option maxHeartbeats 8000000 in
theorem rstep_calls (b:QB) (ok:b.Ok) (fit:b.Fit) (base:Nat) (A B P:Nat) (sf:Safe b.L b.img (A,B,P)) (hnp:¬IsPut b.L b.img (A,B,P)) (told:Value) (ks qs:Array Value) (fc fs:Nat→Int) (evs:List (Nat×Nat×Nat)) (h:b.At w true false A B P 0 (.slice (some ⟨b.qi,0,none⟩) b.L b.ic) told ks qs fc fs) (hI:b.Img w) (ht:ToldE base told w evs) (hb:base≤w.heap.size) (hl:evs.length≤100000) (lo:∀k,b.foot k→k<base) (hA:A<65536) (hP:P<65536):
  CallsIn NF m Tryz.prog 74 #[.pointer (some ⟨b.rb,0,none⟩),.pointer (some ⟨b.qb,0,none⟩)] w fun e w'=>e=.returned (.tuple #[])∧Keep (fun k=>b.foot k∨told.ownBlock=some k) w w'∧b.Next base qs fc fs w' (evs++(ac8 b.L b.img (A,B,P)).2) (ac8 b.L b.img (A,B,P)).1:=by
 have c7:w.cell? ⟨b.qb,7,none⟩=some (.int .i64 P):=by rw[aa0 h.p];rfl
 have c8:w.cell? ⟨b.qb,8,none⟩=some (.slice (some ⟨b.qi,0,none⟩) b.L b.ic):=by rw[aa0 h.p];rfl
 have L2:=ok.L2
 have hic:=ok.ic
 gi_enter Tryz.func74,Tryz.ntmps74
 gi_wp2
 refine aa9 (P:=Tryz.prog) No _ rfl rfl (by kernel_rfl) 10 209 [0,1,2,3,4,5,6,7,8,9] [] (by kernel_rfl) (by rfl) (fun _ _ _=>True) (fun _ _ _ _ _ h _=>h) _ _ rfl rfl ?_
 gi_wp2
 refine⟨rfl,by kernel_rfl,?_,(fun i hi=>absurd hi (by simp)),?_⟩
 ·intro V hK
  have d7:=hK.has (w:=w.drew) c7
  have d8:=hK.has (w:=w.drew) c8
  repeat' (refine aa8 ?_ ?_)
  all_goals first|exact trivial|gi_wp2
 intro u1 V1 hV1 _
 simp only[putS]
 have KV1:Keep No w V1:=(Keep.refl No w).drew.then hV1
 by_cases hPL:P+2≤b.L
 case neg=>
  have hs:ac8 b.L b.img (A,B,P)=(none,[(1,65535,0)]):=by simp[ac8,IsPut,ai2,hPL]
  generalize hV3:V1=V3 at*
  have KV3:=KV1
  have A3:=h.keep KV3 (fun _ _ x=>x)
  have t3:=ht.more KV3
  have b3:=Nat.le_trans hb KV3.size
  gi_wp2_with (refine ab7 rfl rfl rfl ?_)
  refine(ak2 _ V3 b ok base A B P 65535 _ told ks qs fc fs evs A3 t3 b3 hl lo).mono ?_
  rintro e w5 ⟨rfl,K5,told',ks',fc',fs',t5,A5⟩
  gi_wp2
  refine bodyPost_ret (results_none rfl _ _ _) rfl ?_
  exact⟨rfl,KV3.no.then K5,by rw[hs];exact⟨told',ks',fc',fs',_,_,_,_,t5,A5⟩⟩
 have c71:=KV1.has c7
 have c81:=KV1.has c8
 have i0:=KV1.has (hI.c P (by omega))
 have i1:=KV1.has (hI.c (P+1) (by omega))
 have w0:=fit P (by omega)
 have w1:=fit (P+1) (by omega)
 gi_wp2
 refine aa9 (P:=Tryz.prog) No _ rfl rfl (by kernel_rfl) 8 209 [0,1,2,3,4,5,6,7] [] (by kernel_rfl) (by rfl) (fun _ _ _=>True) (fun _ _ _ _ _ h _=>h) _ _ rfl rfl ?_
 gi_wp2
 refine⟨rfl,by kernel_rfl,?_,(fun i hi=>absurd hi (by simp)),?_⟩
 ·intro V hK
  have d7:=hK.has (w:=V1.drew) c71
  have d8:=hK.has (w:=V1.drew) c81
  repeat' (refine aa8 ?_ ?_)
  all_goals first|exact trivial|gi_wp2
 intro u2 V2 hV2 _
 simp only[putS]
 have KV2:Keep No V1 V2:=(Keep.refl No V1).drew.then hV2
 have c72:=KV2.has c71
 have c82:=KV2.has c81
 have i02:=KV2.has i0
 have i12:=KV2.has i1
 gi_wp2
 refine aa9 (P:=Tryz.prog) No _ rfl rfl (by kernel_rfl) 9 209 [0,1,2,3,4,5,6,7,8] [] (by kernel_rfl) (by rfl) (fun _ _ _=>True) (fun _ _ _ _ _ h _=>h) _ _ rfl rfl ?_
 gi_wp2
 refine⟨rfl,by kernel_rfl,?_,(fun i hi=>absurd hi (by simp)),?_⟩
 ·intro V hK
  have d7:=hK.has (w:=V2.drew) c72
  have d8:=hK.has (w:=V2.drew) c82
  repeat' (refine aa8 ?_ ?_)
  all_goals first|exact trivial|gi_wp2
 intro u3 V3 hV3 _
 simp only[putS]
 have KV23:Keep No V2 V3:=(Keep.refl No V2).drew.then hV3
 have KV3:Keep No w V3:=(KV1.then KV2).then KV23
 have i13:=KV23.has i12
 have A3:=h.keep KV3 (fun _ _ x=>x)
 have t3:=ht.more KV3
 have b3:=Nat.le_trans hb KV3.size
 have i3:=hI.keep KV3 (fun x=>x)
 have c73:V3.cell? ⟨b.qb,7,none⟩=some (.int .i64 P):=by rw[aa0 A3.p];rfl
 have c83:V3.cell? ⟨b.qb,8,none⟩=some (.slice (some ⟨b.qi,0,none⟩) b.L b.ic):=by rw[aa0 A3.p];rfl
 have c53:V3.cell? ⟨b.qb,5,none⟩=some (.int .i64 A):=by rw[aa0 A3.p];rfl
 have c63:V3.cell? ⟨b.qb,6,none⟩=some (.int .i64 B):=by rw[aa0 A3.p];rfl
 have f5:=ab3 A3.p 5
 have f6:=ab3 A3.p 6
 have f7:=ab3 A3.p 7
 have n3:b.img P≠3:=fun e=>hnp ⟨hPL,e,(sf hPL).2.1 e⟩
 have n10:b.img P≠10:=(sf hPL).1
 have htr:b.img P=11→b.img (P+1)=1∨b.img (P+1)=12:=(sf hPL).2.2
 clear sf hnp
 have K7:Keep (Go.Fxa.At b.qb) V3 (V3.setCell ⟨b.qb,7,none⟩ (.int .i64 ((P:Int)+2))):=Keep.set1 _
 have i7:=i3.keep K7 (fun e=>ok.i3 e)
 clear c7 c8 c71 c81 c72 c82 i0 i1 i02 i12 KV1 KV2 KV23 h ht hI hV1 hV2 hV3 K7
 have hw:=fit
 generalize hop:b.img P=op at*
 generalize hn:b.img (P+1)=n at*
 rcases(by omega:op=0∨op=1∨op=2∨op=4∨op=5∨op=6∨op=7∨op=8∨op=9∨op=11∨12≤op)with rfl|rfl|rfl|rfl|rfl|rfl|rfl|rfl|rfl|rfl|h12
 ·have hs:ac8 b.L b.img (A,B,P)=(none,[(1,65535,0)]):=by simp[ac8,IsPut,ai2,ai5,spot,hPL,hop,hn]
  gi_wp2_with (refine ab7 rfl rfl rfl ?_)
  refine(ak2 _ V3 b ok base A B P 65535 _ told ks qs fc fs evs A3 t3 b3 hl lo).mono ?_
  rintro e w5 ⟨rfl,K5,told',ks',fc',fs',t5,A5⟩
  gi_wp2
  refine bodyPost_ret (results_none rfl _ _ _) rfl ?_
  exact⟨rfl,KV3.no.then K5,by rw[hs];exact⟨told',ks',fc',fs',_,_,_,_,t5,A5⟩⟩
 ·have hs:ac8 b.L b.img (A,B,P)=(some (n,B,P+2),[]):=by simp[ac8,IsPut,ai2,hPL,hop,hn]
  gi_wp2_with (refine ab7 rfl rfl rfl ?_)
  have K5:Keep (Go.Fxa.At b.qb) V3 ((V3.setCell ⟨b.qb,7,none⟩ (.int .i64 ((P:Int)+2))).setCell ⟨b.qb,5,none⟩ (.int .i64 (n:Int))):=((Keep.refl (Go.Fxa.At b.qb) V3).setCell (p:=⟨b.qb,7,none⟩) _ (fun _=>rfl)).setCell (p:=⟨b.qb,5,none⟩) _ (fun _=>rfl)
  have p5:((V3.setCell ⟨b.qb,7,none⟩ (.int .i64 ((P:Int)+2))).setCell ⟨b.qb,5,none⟩ (.int .i64 (n:Int))).heap[b.qb]?=some (rproc true false n B (P+2) (.slice (some ⟨b.qi,0,none⟩) b.L b.ic) 0):=by
   have e:=aa2 (i:=5) (aa2 (i:=7) (A3.p) (.int .i64 ((P:Int)+2))) (.int .i64 (n:Int))
   rw[e];rfl
  generalize ((V3.setCell ⟨b.qb,7,none⟩ (.int .i64 ((P:Int)+2))).setCell ⟨b.qb,5,none⟩ (.int .i64 (n:Int)))=w5 at*
  go_end0
  exact⟨by simp,rnext ok lo KV3 A3 t3 i3 K5 p5 hs⟩
 ·by_cases hat:n<b.L
  ·have hs:ac8 b.L b.img (A,B,P)=(some (b.img n,B,P+2),[]):=by simp[ac8,IsPut,ai2,ai5,spot,hPL,hop,hn,hat]
   have ia:=i7.c n hat
   have wa:=hw n hat
   gi_wp2_with (refine ab7 rfl rfl rfl ?_)
   have K5:Keep (Go.Fxa.At b.qb) V3 ((V3.setCell ⟨b.qb,7,none⟩ (.int .i64 ((P:Int)+2))).setCell ⟨b.qb,5,none⟩ (.int .i64 (b.img n:Int))):=((Keep.refl (Go.Fxa.At b.qb) V3).setCell (p:=⟨b.qb,7,none⟩) _ (fun _=>rfl)).setCell (p:=⟨b.qb,5,none⟩) _ (fun _=>rfl)
   have p5:((V3.setCell ⟨b.qb,7,none⟩ (.int .i64 ((P:Int)+2))).setCell ⟨b.qb,5,none⟩ (.int .i64 (b.img n:Int))).heap[b.qb]?=some (rproc true false (b.img n) B (P+2) (.slice (some ⟨b.qi,0,none⟩) b.L b.ic) 0):=by
    have e:=aa2 (i:=5) (aa2 (i:=7) (A3.p) (.int .i64 ((P:Int)+2))) (.int .i64 (b.img n:Int))
    rw[e];rfl
   generalize ((V3.setCell ⟨b.qb,7,none⟩ (.int .i64 ((P:Int)+2))).setCell ⟨b.qb,5,none⟩ (.int .i64 (b.img n:Int)))=w5 at*
   go_end0
   exact⟨by simp,rnext ok lo KV3 A3 t3 i3 K5 p5 hs⟩
  ·have hs:ac8 b.L b.img (A,B,P)=(none,[(1,65535,0)]):=by simp[ac8,IsPut,ai2,ai5,spot,hPL,hop,hn,hat]
   gi_wp2_with (refine ab7 rfl rfl rfl ?_)
   refine(ak2 _ V3 b ok base A B P 65535 _ told ks qs fc fs evs A3 t3 b3 hl lo).mono ?_
   rintro e w5 ⟨rfl,K5,told',ks',fc',fs',t5,A5⟩
   gi_wp2
   refine bodyPost_ret (results_none rfl _ _ _) rfl ?_
   exact⟨rfl,KV3.no.then K5,by rw[hs];exact⟨told',ks',fc',fs',_,_,_,_,t5,A5⟩⟩
 ·by_cases hat:n<b.L
  ·have hs:ac8 b.L b.img (A,B,P)=(some ((A+b.img n) % 65536,B,P+2),[]):=by simp[ac8,IsPut,ai2,ai5,spot,hPL,hop,hn,hat]
   have ia:=i7.c n hat
   have wa:=hw n hat
   generalize hr:(A+b.img n) % 65536=r at hs
   have K7:Keep (Go.Fxa.At b.qb) V3 (V3.setCell ⟨b.qb,7,none⟩ (.int .i64 ((P:Int)+2))):=Keep.set1 _
   have p7:(V3.setCell ⟨b.qb,7,none⟩ (.int .i64 ((P:Int)+2))).heap[b.qb]?=some (rproc true false A B (P+2) (.slice (some ⟨b.qi,0,none⟩) b.L b.ic) 0):=(aa2 (i:=7) A3.p _).trans rfl
   gi_wp2
   have hdec:decide (b.L≤n)=false:=decide_eq_false (by omega)
   simp only[hdec]
   generalize V3.setCell ⟨b.qb,7,none⟩ (.int .i64 ((P:Int)+2))=w7 at*
   have c57:w7.cell? ⟨b.qb,5,none⟩=some (.int .i64 A):=by rw[aa0 p7];rfl
   have c87:w7.cell? ⟨b.qb,8,none⟩=some (.slice (some ⟨b.qi,0,none⟩) b.L b.ic):=by rw[aa0 p7];rfl
   refine aa9 (P:=Tryz.prog) No _ rfl rfl (by kernel_rfl) 14 209 [0,1,2,3,4,5,6,7,8,9,10,11,12,13] [] (by kernel_rfl) (by rfl) (fun _ _ _=>True) (fun _ _ _ _ _ h _=>h) _ _ rfl rfl ?_
   gi_wp2_with (gi_at_call 118;refine(cut_add _ _ A (b.img n) r hA wa hr).mono ?_;rintro e w9 ⟨rfl,hw9⟩;have hw9:=hw9.symm;subst hw9)
   refine⟨rfl,by kernel_rfl,?_,(fun i hi=>absurd hi (by simp)),?_⟩
   ·intro V hK
    have d5:=hK.has (w:=w7.drew) c57
    have d8:=hK.has (w:=w7.drew) c87
    have da:=hK.has (w:=w7.drew) ia
    repeat' (refine aa8 ?_ ?_)
    all_goals first|exact trivial|gi_wp2_with (gi_at_call 118;refine(cut_add _ _ A (b.img n) r hA wa hr).mono ?_;rintro e w9 ⟨rfl,hw9⟩;have hw9:=hw9.symm;subst hw9)
   intro u8 V8 hV8 _
   simp only[putS]
   have KV8:Keep No w7 V8:=(Keep.refl No w7).drew.then hV8
   have p8:=KV8.old p7 (fun x=>x)
   have c58:=KV8.has c57
   have f58:=ab3 p8 5
   gi_wp2
   have K5:Keep (Go.Fxa.At b.qb) V3 (V8.setCell ⟨b.qb,5,none⟩ (.int .i64 (r:Int))):=(K7.then KV8.no).setCell _ (fun _=>rfl)
   have p5:(V8.setCell ⟨b.qb,5,none⟩ (.int .i64 (r:Int))).heap[b.qb]?=some (rproc true false r B (P+2) (.slice (some ⟨b.qi,0,none⟩) b.L b.ic) 0):=(aa2 (i:=5) p8 _).trans rfl
   generalize V8.setCell ⟨b.qb,5,none⟩ (.int .i64 (r:Int))=w5 at*
   go_end0
   exact⟨by simp,rnext ok lo KV3 A3 t3 i3 K5 p5 hs⟩
  ·have hs:ac8 b.L b.img (A,B,P)=(none,[(1,65535,0)]):=by simp[ac8,IsPut,ai2,ai5,spot,hPL,hop,hn,hat]
   gi_wp2_with (refine ab7 rfl rfl rfl ?_)
   refine(ak2 _ V3 b ok base A B P 65535 _ told ks qs fc fs evs A3 t3 b3 hl lo).mono ?_
   rintro e w5 ⟨rfl,K5,told',ks',fc',fs',t5,A5⟩
   gi_wp2
   refine bodyPost_ret (results_none rfl _ _ _) rfl ?_
   exact⟨rfl,KV3.no.then K5,by rw[hs];exact⟨told',ks',fc',fs',_,_,_,_,t5,A5⟩⟩
 ·by_cases hat:n<b.L
  ·have hs:ac8 b.L b.img (A,B,P)=(some ((A+65536-b.img n) % 65536,B,P+2),[]):=by simp[ac8,IsPut,ai2,ai5,spot,hPL,hop,hn,hat]
   have ia:=i7.c n hat
   have wa:=hw n hat
   generalize hr:(A+65536-b.img n) % 65536=r at hs
   have K7:Keep (Go.Fxa.At b.qb) V3 (V3.setCell ⟨b.qb,7,none⟩ (.int .i64 ((P:Int)+2))):=Keep.set1 _
   have p7:(V3.setCell ⟨b.qb,7,none⟩ (.int .i64 ((P:Int)+2))).heap[b.qb]?=some (rproc true false A B (P+2) (.slice (some ⟨b.qi,0,none⟩) b.L b.ic) 0):=(aa2 (i:=7) A3.p _).trans rfl
   gi_wp2
   have hdec:decide (b.L≤n)=false:=decide_eq_false (by omega)
   simp only[hdec]
   generalize V3.setCell ⟨b.qb,7,none⟩ (.int .i64 ((P:Int)+2))=w7 at*
   have c57:w7.cell? ⟨b.qb,5,none⟩=some (.int .i64 A):=by rw[aa0 p7];rfl
   have c87:w7.cell? ⟨b.qb,8,none⟩=some (.slice (some ⟨b.qi,0,none⟩) b.L b.ic):=by rw[aa0 p7];rfl
   refine aa9 (P:=Tryz.prog) No _ rfl rfl (by kernel_rfl) 14 209 [0,1,2,3,4,5,6,7,8,9,10,11,12,13] [] (by kernel_rfl) (by rfl) (fun _ _ _=>True) (fun _ _ _ _ _ h _=>h) _ _ rfl rfl ?_
   gi_wp2_with (gi_at_call 118;refine(cut_sub _ _ A (b.img n) r hA wa hr).mono ?_;rintro e w9 ⟨rfl,hw9⟩;have hw9:=hw9.symm;subst hw9)
   refine⟨rfl,by kernel_rfl,?_,(fun i hi=>absurd hi (by simp)),?_⟩
   ·intro V hK
    have d5:=hK.has (w:=w7.drew) c57
    have d8:=hK.has (w:=w7.drew) c87
    have da:=hK.has (w:=w7.drew) ia
    repeat' (refine aa8 ?_ ?_)
    all_goals first|exact trivial|gi_wp2_with (gi_at_call 118;refine(cut_sub _ _ A (b.img n) r hA wa hr).mono ?_;rintro e w9 ⟨rfl,hw9⟩;have hw9:=hw9.symm;subst hw9)
   intro u8 V8 hV8 _
   simp only[putS]
   have KV8:Keep No w7 V8:=(Keep.refl No w7).drew.then hV8
   have p8:=KV8.old p7 (fun x=>x)
   have c58:=KV8.has c57
   have f58:=ab3 p8 5
   gi_wp2
   have K5:Keep (Go.Fxa.At b.qb) V3 (V8.setCell ⟨b.qb,5,none⟩ (.int .i64 (r:Int))):=(K7.then KV8.no).setCell _ (fun _=>rfl)
   have p5:(V8.setCell ⟨b.qb,5,none⟩ (.int .i64 (r:Int))).heap[b.qb]?=some (rproc true false r B (P+2) (.slice (some ⟨b.qi,0,none⟩) b.L b.ic) 0):=(aa2 (i:=5) p8 _).trans rfl
   generalize V8.setCell ⟨b.qb,5,none⟩ (.int .i64 (r:Int))=w5 at*
   go_end0
   exact⟨by simp,rnext ok lo KV3 A3 t3 i3 K5 p5 hs⟩
  ·have hs:ac8 b.L b.img (A,B,P)=(none,[(1,65535,0)]):=by simp[ac8,IsPut,ai2,ai5,spot,hPL,hop,hn,hat]
   gi_wp2_with (refine ab7 rfl rfl rfl ?_)
   refine(ak2 _ V3 b ok base A B P 65535 _ told ks qs fc fs evs A3 t3 b3 hl lo).mono ?_
   rintro e w5 ⟨rfl,K5,told',ks',fc',fs',t5,A5⟩
   gi_wp2
   refine bodyPost_ret (results_none rfl _ _ _) rfl ?_
   exact⟨rfl,KV3.no.then K5,by rw[hs];exact⟨told',ks',fc',fs',_,_,_,_,t5,A5⟩⟩
 ·have hs:ac8 b.L b.img (A,B,P)=(some (A,B,n),[]):=by simp[ac8,IsPut,ai2,hPL,hop,hn]
  gi_wp2_with (refine ab7 rfl rfl rfl ?_)
  have K5:Keep (Go.Fxa.At b.qb) V3 ((V3.setCell ⟨b.qb,7,none⟩ (.int .i64 ((P:Int)+2))).setCell ⟨b.qb,7,none⟩ (.int .i64 (n:Int))):=((Keep.refl (Go.Fxa.At b.qb) V3).setCell (p:=⟨b.qb,7,none⟩) _ (fun _=>rfl)).setCell (p:=⟨b.qb,7,none⟩) _ (fun _=>rfl)
  have p5:((V3.setCell ⟨b.qb,7,none⟩ (.int .i64 ((P:Int)+2))).setCell ⟨b.qb,7,none⟩ (.int .i64 (n:Int))).heap[b.qb]?=some (rproc true false A B n (.slice (some ⟨b.qi,0,none⟩) b.L b.ic) 0):=by
   have e:=aa2 (i:=7) (aa2 (i:=7) (A3.p) (.int .i64 ((P:Int)+2))) (.int .i64 (n:Int))
   rw[e];rfl
  generalize ((V3.setCell ⟨b.qb,7,none⟩ (.int .i64 ((P:Int)+2))).setCell ⟨b.qb,7,none⟩ (.int .i64 (n:Int)))=w5 at*
  go_end0
  exact⟨by simp,rnext ok lo KV3 A3 t3 i3 K5 p5 hs⟩
 ·by_cases hA0:A=0
  ·subst hA0
   have hs:ac8 b.L b.img (0,B,P)=(some (0,B,n),[]):=by simp[ac8,IsPut,ai2,hPL,hop,hn]
   gi_wp2_with (refine ab7 rfl rfl rfl ?_)
   have K5:Keep (Go.Fxa.At b.qb) V3 ((V3.setCell ⟨b.qb,7,none⟩ (.int .i64 ((P:Int)+2))).setCell ⟨b.qb,7,none⟩ (.int .i64 (n:Int))):=((Keep.refl (Go.Fxa.At b.qb) V3).setCell (p:=⟨b.qb,7,none⟩) _ (fun _=>rfl)).setCell (p:=⟨b.qb,7,none⟩) _ (fun _=>rfl)
   have p5:((V3.setCell ⟨b.qb,7,none⟩ (.int .i64 ((P:Int)+2))).setCell ⟨b.qb,7,none⟩ (.int .i64 (n:Int))).heap[b.qb]?=some (rproc true false 0 B n (.slice (some ⟨b.qi,0,none⟩) b.L b.ic) 0):=by
    have e:=aa2 (i:=7) (aa2 (i:=7) (A3.p) (.int .i64 ((P:Int)+2))) (.int .i64 (n:Int))
    rw[e];rfl
   generalize ((V3.setCell ⟨b.qb,7,none⟩ (.int .i64 ((P:Int)+2))).setCell ⟨b.qb,7,none⟩ (.int .i64 (n:Int)))=w5 at*
   go_end0
   exact⟨by simp,rnext ok lo KV3 A3 t3 i3 K5 p5 hs⟩
  ·have hs:ac8 b.L b.img (A,B,P)=(some (A,B,P+2),[]):=by simp[ac8,IsPut,ai2,hPL,hop,hA0]
   gi_wp2_with (refine ab7 rfl rfl rfl ?_)
   have K5:Keep (Go.Fxa.At b.qb) V3 (V3.setCell ⟨b.qb,7,none⟩ (.int .i64 ((P:Int)+2))):=(Keep.refl (Go.Fxa.At b.qb) V3).setCell (p:=⟨b.qb,7,none⟩) _ (fun _=>rfl)
   have p5:(V3.setCell ⟨b.qb,7,none⟩ (.int .i64 ((P:Int)+2))).heap[b.qb]?=some (rproc true false A B (P+2) (.slice (some ⟨b.qi,0,none⟩) b.L b.ic) 0):=by
    have e:=aa2 (i:=7) (A3.p) (.int .i64 ((P:Int)+2))
    rw[e];rfl
   generalize (V3.setCell ⟨b.qb,7,none⟩ (.int .i64 ((P:Int)+2)))=w5 at*
   go_end0
   exact⟨by simp,rnext ok lo KV3 A3 t3 i3 K5 p5 hs⟩
 ·have hs:ac8 b.L b.img (A,B,P)=(some (B,A,P+2),[]):=by simp[ac8,IsPut,ai2,hPL,hop]
  gi_wp2_with (refine ab7 rfl rfl rfl ?_)
  have K5:Keep (Go.Fxa.At b.qb) V3 (((V3.setCell ⟨b.qb,7,none⟩ (.int .i64 ((P:Int)+2))).setCell ⟨b.qb,5,none⟩ (.int .i64 (B:Int))).setCell ⟨b.qb,6,none⟩ (.int .i64 (A:Int))):=(((Keep.refl (Go.Fxa.At b.qb) V3).setCell (p:=⟨b.qb,7,none⟩) _ (fun _=>rfl)).setCell (p:=⟨b.qb,5,none⟩) _ (fun _=>rfl)).setCell (p:=⟨b.qb,6,none⟩) _ (fun _=>rfl)
  have p5:(((V3.setCell ⟨b.qb,7,none⟩ (.int .i64 ((P:Int)+2))).setCell ⟨b.qb,5,none⟩ (.int .i64 (B:Int))).setCell ⟨b.qb,6,none⟩ (.int .i64 (A:Int))).heap[b.qb]?=some (rproc true false B A (P+2) (.slice (some ⟨b.qi,0,none⟩) b.L b.ic) 0):=by
   have e:=aa2 (i:=6) (aa2 (i:=5) (aa2 (i:=7) (A3.p) (.int .i64 ((P:Int)+2))) (.int .i64 (B:Int))) (.int .i64 (A:Int))
   rw[e];rfl
  generalize (((V3.setCell ⟨b.qb,7,none⟩ (.int .i64 ((P:Int)+2))).setCell ⟨b.qb,5,none⟩ (.int .i64 (B:Int))).setCell ⟨b.qb,6,none⟩ (.int .i64 (A:Int)))=w5 at*
  go_end0
  exact⟨by simp,rnext ok lo KV3 A3 t3 i3 K5 p5 hs⟩
 ·by_cases hat:A<b.L
  ·have hs:ac8 b.L b.img (A,B,P)=(some (b.img A,B,P+2),[]):=by simp[ac8,IsPut,ai2,ai5,spot,hPL,hop,hat]
   have ia:=i7.c A hat
   have wa:=hw A hat
   gi_wp2_with (refine ab7 rfl rfl rfl ?_)
   have K5:Keep (Go.Fxa.At b.qb) V3 ((V3.setCell ⟨b.qb,7,none⟩ (.int .i64 ((P:Int)+2))).setCell ⟨b.qb,5,none⟩ (.int .i64 (b.img A:Int))):=((Keep.refl (Go.Fxa.At b.qb) V3).setCell (p:=⟨b.qb,7,none⟩) _ (fun _=>rfl)).setCell (p:=⟨b.qb,5,none⟩) _ (fun _=>rfl)
   have p5:((V3.setCell ⟨b.qb,7,none⟩ (.int .i64 ((P:Int)+2))).setCell ⟨b.qb,5,none⟩ (.int .i64 (b.img A:Int))).heap[b.qb]?=some (rproc true false (b.img A) B (P+2) (.slice (some ⟨b.qi,0,none⟩) b.L b.ic) 0):=by
    have e:=aa2 (i:=5) (aa2 (i:=7) (A3.p) (.int .i64 ((P:Int)+2))) (.int .i64 (b.img A:Int))
    rw[e];rfl
   generalize ((V3.setCell ⟨b.qb,7,none⟩ (.int .i64 ((P:Int)+2))).setCell ⟨b.qb,5,none⟩ (.int .i64 (b.img A:Int)))=w5 at*
   go_end0
   exact⟨by simp,rnext ok lo KV3 A3 t3 i3 K5 p5 hs⟩
  ·have hs:ac8 b.L b.img (A,B,P)=(none,[(1,65535,0)]):=by simp[ac8,IsPut,ai2,ai5,spot,hPL,hop,hat]
   gi_wp2_with (refine ab7 rfl rfl rfl ?_)
   refine(ak2 _ V3 b ok base A B P 65535 _ told ks qs fc fs evs A3 t3 b3 hl lo).mono ?_
   rintro e w5 ⟨rfl,K5,told',ks',fc',fs',t5,A5⟩
   gi_wp2
   refine bodyPost_ret (results_none rfl _ _ _) rfl ?_
   exact⟨rfl,KV3.no.then K5,by rw[hs];exact⟨told',ks',fc',fs',_,_,_,_,t5,A5⟩⟩
 ·rcases htr rfl with rfl|rfl
  ·by_cases hAL:A+1≤b.L
   ·have hs:ac8 b.L b.img (A,B,P)=(none,[(1,b.img A,0)]):=by simp[ac8,IsPut,ai2,hPL,hop,hn,hAL]
    have ia:=i3.c A (by omega)
    gi_wp2_with (refine ab7 rfl rfl rfl ?_)
    refine(rcalls_exit _ V3 b ok base A B P told ks qs fc fs evs A3 t3 b3 hl lo (by omega) (b.img A) hA hAL ia).mono ?_
    rintro e w5 ⟨rfl,K5,told',ks',fc',fs',t5,A5⟩
    gi_wp2
    refine bodyPost_ret (results_none rfl _ _ _) rfl ?_
    exact⟨rfl,KV3.no.then K5,by rw[hs];exact⟨told',ks',fc',fs',_,_,_,_,t5,A5⟩⟩
   ·have hs:ac8 b.L b.img (A,B,P)=(some (0,1,P+2),[(1,0,1)]):=by simp[ac8,IsPut,ai2,hPL,hop,hn,hAL]
    gi_wp2_with (refine ab7 rfl rfl rfl ?_)
    refine(rcalls_fault _ V3 b ok base A B P told ks qs fc fs evs A3 t3 b3 hl lo (by omega) hA hAL).mono ?_
    rintro e w5 ⟨rfl,K5,told',ks',t5,A5⟩
    gi_wp2
    refine bodyPost_ret (results_none rfl _ _ _) rfl ?_
    exact⟨rfl,KV3.no.then (K5.mono fun k hk h=>fp_foot hk h),by rw[hs];exact⟨told',ks',t5,A5,i3.keep K5 (fp_img ok lo t3)⟩⟩
  ·have hs:ac8 b.L b.img (A,B,P)=(some (1,0,P+2),[(12,1,0)]):=by simp[ac8,IsPut,ai2,hPL,hop,hn]
   gi_wp2_with (refine ab7 rfl rfl rfl ?_)
   refine(rcalls_pid _ V3 b ok base A B P told ks qs fc fs evs A3 t3 b3 hl lo (by omega)).mono ?_
   rintro e w5 ⟨rfl,K5,told',ks',t5,A5⟩
   gi_wp2
   refine bodyPost_ret (results_none rfl _ _ _) rfl ?_
   exact⟨rfl,KV3.no.then (K5.mono fun k hk h=>fp_foot hk h),by rw[hs];exact⟨told',ks',t5,A5,i3.keep K5 (fp_img ok lo t3)⟩⟩
 ·have hs:ac8 b.L b.img (A,B,P)=(none,[(1,65535,0)]):=by
   have e:ai5 b.L b.img A op n=(2,A):=by
    unfold ai5
    rw[if_neg (by omega:¬(op=2∨op=9)),if_neg (by omega:¬op=4),if_neg (by omega:¬op=5),ite_self]
   simp[ac8,IsPut,ai2,hPL,hop,hn,e,show op≠3 by omega,show op≠1 by omega,show op≠6 by omega,show op≠7 by omega,show op≠8 by omega,show op≠11 by omega]
  gi_wp2_with (refine ab7 rfl rfl rfl ?_)
  refine(ak2 _ V3 b ok base A B P 65535 _ told ks qs fc fs evs A3 t3 b3 hl lo).mono ?_
  rintro e w5 ⟨rfl,K5,told',ks',fc',fs',t5,A5⟩
  gi_wp2
  refine bodyPost_ret (results_none rfl _ _ _) rfl ?_
  exact⟨rfl,KV3.no.then K5,by rw[hs];exact⟨told',ks',fc',fs',_,_,_,_,t5,A5⟩⟩
end
def QB.on (b:QB) (co:Bool) (A B P:Nat) (w:World):Prop:=(A<65536∧B<65536∧P<65536)∧∃told ks qs fc fs,b.At w true false A B P 0 (.slice (some ⟨b.qi,0,none⟩) b.L b.ic) told ks qs fc fs∧b.Img w∧(if co then fc 0=1 else ∀i,i<b.C→fc i=0)
def QB.off (b:QB) (w:World):Prop:=∃told ks qs fc fs A B P st,b.At w false true A B P st (.slice none 0 0) told ks qs fc fs
abbrev QB.at (b:QB) (s0:Nat×Nat×Nat) (j:Nat):QB:=b.im (imgE b.L b.img s0 j)
section
variable {b:QB} {w w':World} {S:Nat→Prop} {co:Bool} {A B P:Nat}
theorem QB.on.keep (h:b.on co A B P w) (hK:Keep S w w') (hn:∀k,b.foot k→¬S k):b.on co A B P w':=by
 obtain⟨h0,told,ks,qs,fc,fs,h1,h2,h3⟩:=h
 exact⟨h0,told,ks,qs,fc,fs,h1.keep hK (fun k hk=>hn k (by rcases hk with e|e|e|e|e<;>simp[QB.foot,e])),h2.keep hK (hn _ (by simp[QB.foot])),h3⟩
theorem QB.off.keep (h:b.off w) (hK:Keep S w w') (hn:∀k,b.foot k→¬S k):b.off w':=by
 obtain⟨told,ks,qs,fc,fs,A,B,P,st,h1⟩:=h
 exact⟨told,ks,qs,fc,fs,A,B,P,st,h1.keep hK (fun k hk=>hn k (by rcases hk with e|e|e|e|e<;>simp[QB.foot,e]))⟩
end
section
variable (m:Nat) (w:World)
theorem bring_any (b:QB) (ok:b.Ok) (co:Bool) (A B P:Nat) (told:Value) (ks qs:Array Value) (fc fs:Nat→Int) (h:b.At w true false A B P 0 (.slice (some ⟨b.qi,0,none⟩) b.L b.ic) told ks qs fc fs) (hI:b.Img w) (hc:if co then fc 0=1 else ∀i,i<b.C→fc i=0):
  CallsIn NF m Tryz.prog 73 #[.pointer (some ⟨b.rb,0,none⟩),.pointer (some ⟨b.qb,0,none⟩)] w fun e w'=>e=.returned (.tuple #[])∧Keep (Go.Fxa.At b.cr) w w'∧∃fc',fc' 0=1∧b.At w' true false A B P 0 (.slice (some ⟨b.qi,0,none⟩) b.L b.ic) told ks qs fc' fs∧b.Img w':=by
 have c0:w.cell? ⟨b.rb,0,none⟩=some (.slice (some ⟨b.cr,0,none⟩) b.C b.C):=(aa0 h.k 0).trans h.k0
 have c3:w.cell? ⟨b.qb,3,none⟩=some (.int .i64 1):=by rw[aa0 h.p];rfl
 have c8:w.cell? ⟨b.qb,8,none⟩=some (.slice (some ⟨b.qi,0,none⟩) b.L b.ic):=by rw[aa0 h.p];rfl
 have n1:1≤nblk b.L:=by have:=ok.L1;unfold nblk;omega
 have nC:=ok.nC
 cases co
 ·refine(bring_out m w b.rb b.qb b.cr b.C b.L b.ic _ fc c0 c3 c8 h.c ok.C5 ok.L1 ok.L2 ok.nC (by simpa using hc)).mono ?_
  rintro e w1 ⟨rfl,K,r⟩
  exact⟨rfl,K,_,by simp;omega,⟨K.old h.k (fun e=>ok.c1 e.symm),h.sz,h.k0,h.k1,h.k2,h.k7,K.old h.q (fun e=>ok.c2 e.symm),h.q0,K.old h.p (fun e=>ok.c3 e.symm),r,h.s.keep K (fun e=>ok.d1 e.symm)⟩,hI.keep K (fun e=>ok.d2 e.symm)⟩
 ·refine(bring_in m w b.rb b.qb b.cr b.C fc c0 c3 h.c (by omega) (by simpa using hc)).mono ?_
  rintro e w1 ⟨rfl,K⟩
  exact⟨rfl,K.no,fc,by simpa using hc,h.keep K (fun _ _ x=>x),hI.keep K (fun x=>x)⟩
def QB.Rnd (b:QB) (s0:Nat×Nat×Nat) (n:Nat) (w:World) (qs:Array Value) (fc fs:Nat→Int) (i:Value) (wr:World):Prop:=
 ∃(j:Nat) (s:Nat×Nat×Nat) (evs:List (Nat×Nat×Nat)) (told:Value) (ks:Array Value),i=.int .i64 j∧j≤n∧runE b.L b.img s0 j=(some s,evs)∧Keep b.foot w wr∧ToldE w.heap.size told wr evs∧b.At wr true false s.1 s.2.1 s.2.2 0 (.slice (some ⟨b.qi,0,none⟩) b.L b.ic) told ks qs fc fs∧(b.at s0 j).Img wr∧s.1<65536∧s.2.1<65536∧s.2.2<65536∧(b.at s0 j).Fit
set_option maxHeartbeats 4000000 in
theorem rpick_run (b:QB) (ok:b.Ok) (fit:b.Fit) (co:Bool) (A B P n:Nat) (sf:∀j s evs,j<n→runE b.L b.img (A,B,P) j=(some s,evs)→Safe b.L (imgE b.L b.img (A,B,P) j) s) (h:b.on co A B P w) (old:∀k,b.foot k→k<w.heap.size) (hn1:1≤n) (hn2:n≤1000):
  CallsIn NF m Tryz.prog 32 #[.pointer (some ⟨b.rb,0,none⟩),.int .i64 1,.int .i64 n] w fun e w'=>∃told,e=.returned (.tuple #[told,.int .i64 0])∧Keep b.foot w w'∧ToldE w.heap.size told w' (runE b.L b.img (A,B,P) n).2∧(∀s,(runE b.L b.img (A,B,P) n).1=some s→(b.at (A,B,P) n).on true s.1 s.2.1 s.2.2 w'∧(b.at (A,B,P) n).Fit)∧((runE b.L b.img (A,B,P) n).1=none→b.off w'):=by
 obtain⟨⟨hA,hB,hP⟩,told0,ks,qs,fc,fs,h,hI,hc⟩:=h
 have c2:w.cell? ⟨b.rb,2,none⟩=some (.slice (some ⟨b.qrb,0,none⟩) 1 b.qc):=(aa0 h.k 2).trans h.k2
 have q0:w.cell? ⟨b.qrb,0,none⟩=some (.pointer (some ⟨b.qb,0,none⟩)):=(aa0 h.q 0).trans h.q0
 have p0:w.cell? ⟨b.qb,0,none⟩=some (.bool true):=by rw[aa0 h.p];rfl
 have p1:w.cell? ⟨b.qb,1,none⟩=some (.bool false):=by rw[aa0 h.p];rfl
 have p2:w.cell? ⟨b.qb,2,none⟩=some (.bool false):=by rw[aa0 h.p];rfl
 have ne:=h.ne
 gi_enter Tryz.func32,Tryz.ntmps32
 gi_wp2_with fail
 refine(rfind_one _ w b.rb b.qrb b.qb b.qc true c2 q0 p0).mono ?_
 rintro e w1 ⟨rfl,hw⟩
 have hw:=hw.symm
 subst hw
 simp only[if_true]
 gi_wp2_with fail
 refine(rstate_ready _ w b.rb b.qb p1 p2).mono ?_
 rintro e w1 ⟨rfl,hw⟩
 have hw:=hw.symm
 subst hw
 gi_wp2_with fail
 refine(bring_any _ w b ok co A B P told0 ks qs fc fs h hI hc).mono ?_
 rintro e w1 ⟨rfl,K1,fc1,hf1,A1,I1⟩
 clear c2 q0 p0 p1 p2 h hI hc
 have d106:w1.cell? ⟨b.rb,106,none⟩=some told0:=(aa0 A1.k 106).trans A1.k7
 have f106:=ab3 A1.k 106
 have d2:w1.cell? ⟨b.qb,2,none⟩=some (.bool false):=by rw[aa0 A1.p];rfl
 have Ka:Keep (Go.Fxa.At b.rb) w1 (w1.setCell ⟨b.rb,106,none⟩ (.slice none 0 0)):=Keep.set1 _
 have pa:=Ka.old A1.p (fun e=>ne.2.1 e.symm)
 have d2':(w1.setCell ⟨b.rb,106,none⟩ (.slice none 0 0)).cell? ⟨b.qb,2,none⟩=some (.bool false):=by rw[aa0 pa];rfl
 have f2:=ab3 pa 2
 gi_wp2
 have Kb:Keep (Go.Fxa.At b.qb) (w1.setCell ⟨b.rb,106,none⟩ (.slice none 0 0)) ((w1.setCell ⟨b.rb,106,none⟩ (.slice none 0 0)).setCell ⟨b.qb,2,none⟩ (.bool false)):=Keep.set1 _
 have A2:b.At ((w1.setCell ⟨b.rb,106,none⟩ (.slice none 0 0)).setCell ⟨b.qb,2,none⟩ (.bool false)) true false A B P 0 (.slice (some ⟨b.qi,0,none⟩) b.L b.ic) (.slice none 0 0) (ks.setIfInBounds 106 (.slice none 0 0)) qs fc1 fs:=
  ⟨Kb.old (aa2 A1.k _) (fun e=>ne.2.1 e),by simpa using A1.sz,(ac0 (by decide)).trans A1.k0,(ac0 (by decide)).trans A1.k1,(ac0 (by decide)).trans A1.k2,aj6 A1.k7,Kb.old (Ka.old A1.q (fun e=>ne.1 e.symm)) (fun e=>ne.2.2 e),A1.q0,(aa2 pa _).trans rfl,(A1.c.keep Ka (fun e=>ok.c1 e)).keep Kb (fun e=>ok.c3 e),(A1.s.keep Ka (fun e=>ok.s1 e)).keep Kb (fun e=>ok.s3 e)⟩
 have I2:=(I1.keep Ka (fun e=>ok.i1 e)).keep Kb (fun e=>ok.i3 e)
 have K2:Keep b.foot w ((w1.setCell ⟨b.rb,106,none⟩ (.slice none 0 0)).setCell ⟨b.qb,2,none⟩ (.bool false)):=
  (((Keep.refl b.foot w).trans K1 (fun k _ e=>.inr (.inr (.inr (.inl e))))).trans Ka (fun k _ e=>.inl e)).trans Kb (fun k _ e=>.inr (.inr (.inl e)))
 generalize (w1.setCell ⟨b.rb,106,none⟩ (.slice none 0 0)).setCell ⟨b.qb,2,none⟩ (.bool false)=w2 at*
 clear d106 f106 d2 d2' f2 pa Ka Kb K1 A1 I1
 gi_loopw [10] (b.Rnd (A,B,P) n w qs fc1 fs) (fun i _=>n-(intOf i).toNat)
 case atStart=>exact⟨0,(A,B,P),[],_,_,rfl,by omega,rfl,K2,World.ownsRow_nil _ _ _ _,A2,I2,hA,hB,hP,fit⟩
 case round=>
  clear K2 A2 I2
  obtain⟨j,s,evs,told,ks',rfl,hj,hrun,KK,tt,AA,II,sA,sB,sP,hfit⟩:=hrel
  by_cases hlt:j<n
  ·have hlen:=runE_len (L:=b.L) (img:=b.img) (s:=(A,B,P)) j
   rw[hrun]at hlen
   have hsf:=sf j s evs hlt hrun
   have L2:=ok.L2
   by_cases hp:IsPut b.L (imgE b.L b.img (A,B,P) j) s
   ·have hP2:=hp.1
    gi_wp2_with fail
    refine(rstepP_calls _ wr (b.at (A,B,P) j) (ok.im _) hfit w.heap.size s.1 s.2.1 s.2.2 hp told ks' qs fc1 fs evs ⟨AA.k,AA.sz,AA.k0,AA.k1,AA.k2,AA.k7,AA.q,AA.q0,AA.p,AA.c,AA.s⟩ II tt KK.size old sP).mono ?_
    rintro e w3 ⟨rfl,K3,t3,A3,I3⟩
    have A3:b.At w3 true false s.1 s.2.1 (s.2.2+2) 0 (.slice (some ⟨b.qi,0,none⟩) b.L b.ic) told ks' qs fc1 fs:=⟨A3.k,A3.sz,A3.k0,A3.k1,A3.k2,A3.k7,A3.q,A3.q0,A3.p,A3.c,A3.s⟩
    have K4:Keep b.foot w w3:=KK.trans K3 (fun k hk h=>by rcases h with h|h<;>simp[QB.foot,h,QB.im])
    have im1:=ak9 hrun
    have hr1:runE b.L b.img (A,B,P) (j+1)=(some (s.1,s.2.1,s.2.2+2),evs):=by
     rw[ai7 hrun]
     unfold ac8
     rw[if_pos hp]
     simp
    have e1:w3.cell? ⟨b.qb,1,none⟩=some (.bool false):=by rw[aa0 A3.p];rfl
    have e2:w3.cell? ⟨b.qb,2,none⟩=some (.bool false):=by rw[aa0 A3.p];rfl
    clear KK tt AA II K3 hlen
    gi_wp2
    go_roundw
    case rel=>
     refine⟨j+1,(s.1,s.2.1,s.2.2+2),evs,told,ks',by go_num,by omega,hr1,K4,t3,A3,?_,sA,sB,by simp only;omega,?_⟩
     ·show(b.im (imgE b.L b.img (A,B,P) (j+1))).Img w3
      rw[im1]
      exact I3
     ·intro q hq
      show imgE b.L b.img (A,B,P) (j+1) q<65536
      rw[im1]
      unfold putI
      rw[if_pos hp]
      by_cases e:q=imgE b.L b.img (A,B,P) j (s.2.2+1)
      ·simp only[if_pos e];exact sA
      ·simp only[if_neg e];exact hfit q hq
    case measure=>simp[intOf];omega
   have im1:imgE b.L b.img (A,B,P) (j+1)=imgE b.L b.img (A,B,P) j:=by rw[ak9 hrun];unfold putI;rw[if_neg hp]
   gi_wp2_with fail
   refine(rstep_calls _ wr (b.at (A,B,P) j) (ok.im _) hfit w.heap.size s.1 s.2.1 s.2.2 hsf hp told ks' qs fc1 fs evs ⟨AA.k,AA.sz,AA.k0,AA.k1,AA.k2,AA.k7,AA.q,AA.q0,AA.p,AA.c,AA.s⟩ II tt KK.size (by have h9:evs.length≤j:=hlen;omega) old sA sP).mono ?_
   rintro e w3 ⟨rfl,K3,N3⟩
   have K4:Keep b.foot w w3:=KK.trans K3 (fun k hk h=>h.elim id (fun e=>absurd (tt.lt k e).1 (by omega)))
   have hr1:runE b.L b.img (A,B,P) (j+1)=((ac8 b.L (imgE b.L b.img (A,B,P) j) s).1,evs++(ac8 b.L (imgE b.L b.img (A,B,P) j) s).2):=ai7 hrun
   cases hst:(ac8 b.L (imgE b.L b.img (A,B,P) j) s).1 with
   | some t=>
    have N3:(b.at (A,B,P) j).Next w.heap.size qs fc1 fs w3 (evs++(ac8 b.L (imgE b.L b.img (A,B,P) j) s).2) (some t):=by rw[←hst];exact N3
    obtain⟨told',ks2,t3,A3,I3⟩:=N3
    have A3:b.At w3 true false t.1 t.2.1 t.2.2 0 (.slice (some ⟨b.qi,0,none⟩) b.L b.ic) told' ks2 qs fc1 fs:=⟨A3.k,A3.sz,A3.k0,A3.k1,A3.k2,A3.k7,A3.q,A3.q0,A3.p,A3.c,A3.s⟩
    rw[hst]at hr1
    have fit':=stepE_fit (L:=b.L) (img:=imgE b.L b.img (A,B,P) j) (s:=s) ok.L2 hfit sA sB sP hst
    have e1:w3.cell? ⟨b.qb,1,none⟩=some (.bool false):=by rw[aa0 A3.p];rfl
    have e2:w3.cell? ⟨b.qb,2,none⟩=some (.bool false):=by rw[aa0 A3.p];rfl
    clear KK tt AA II K3 hst hlen
    gi_wp2
    go_roundw
    case rel=>exact⟨j+1,t,_,told',ks2,by go_num,by omega,hr1,K4,t3,A3,(by show(b.im (imgE b.L b.img (A,B,P) (j+1))).Img w3;rw[im1];exact I3),fit'.1,fit'.2.1,fit'.2.2,(by show(b.im (imgE b.L b.img (A,B,P) (j+1))).Fit;rw[im1];exact hfit)⟩
    case measure=>simp[intOf];omega
   | none=>
    have N3:(b.at (A,B,P) j).Next w.heap.size qs fc1 fs w3 (evs++(ac8 b.L (imgE b.L b.img (A,B,P) j) s).2) none:=by rw[←hst];exact N3
    obtain⟨told',ks2,fc',fs',A',B',P',st,t3,A3⟩:=N3
    have A3:b.At w3 false true A' B' P' st (.slice none 0 0) told' ks2 qs fc' fs':=⟨A3.k,A3.sz,A3.k0,A3.k1,A3.k2,A3.k7,A3.q,A3.q0,A3.p,A3.c,A3.s⟩
    rw[hst]at hr1
    have hrn:=runE_over hr1 (n:=n) (by omega)
    have e1:w3.cell? ⟨b.qb,1,none⟩=some (.bool true):=by rw[aa0 A3.p];rfl
    have e106:w3.cell? ⟨b.rb,106,none⟩=some told':=(aa0 A3.k 106).trans A3.k7
    clear KK tt AA II K3 hst hlen hr1
    gi_wp2
    go_ret2
    exact⟨told',by simp,K4,by rw[hrn];exact t3,(fun s hs=>by rw[hrn]at hs;cases hs),fun _=>⟨told',ks2,qs,fc',fs',A',B',P',st,A3⟩⟩
  ·obtain rfl:j=n:=by omega
   have e106:wr.cell? ⟨b.rb,106,none⟩=some told:=(aa0 AA.k 106).trans AA.k7
   gi_wp2
   go_ret2
   exact⟨told,by simp,KK,by rw[hrun];exact tt,(fun s' hs=>by rw[hrun]at hs;cases hs;exact⟨⟨⟨sA,sB,sP⟩,told,ks',qs,fc1,fs,⟨AA.k,AA.sz,AA.k0,AA.k1,AA.k2,AA.k7,AA.q,AA.q0,AA.p,AA.c,AA.s⟩,II,hf1⟩,hfit⟩),fun hx=>by rw[hrun]at hx;cases hx⟩
end
section
variable (m:Nat) (w:World)
def QB.has (b:QB) (th:Bool) (w:World):Prop:=w.cell? ⟨b.rb,2,none⟩=some (.slice (some ⟨b.qrb,0,none⟩) 1 b.qc)∧w.cell? ⟨b.qrb,0,none⟩=some (.pointer (some ⟨b.qb,0,none⟩))∧w.cell? ⟨b.qb,0,none⟩=some (.bool th)
theorem QB.At.has {b:QB} {w:World} {th dd:Bool} {A B P st:Nat} {im told:Value} {ks qs:Array Value} {fc fs:Nat→Int} (h:b.At w th dd A B P st im told ks qs fc fs):b.has th w:=
 ⟨(aa0 h.k 2).trans h.k2,(aa0 h.q 0).trans h.q0,by rw[aa0 h.p];rfl⟩
theorem QB.on.has {b:QB} {w:World} {co:Bool} {A B P:Nat} (h:b.on co A B P w):b.has true w:=let ⟨_,_,_,_,_,_,h,_⟩:=h;h.has
theorem QB.off.has {b:QB} {w:World} (h:b.off w):b.has false w:=let ⟨_,_,_,_,_,_,_,_,_,h⟩:=h;h.has
theorem rfind_no (b:QB) (th:Bool) (pid:Int) (h:b.has th w) (hp:th=false∨pid≠1):CallsIn NF m Tryz.prog 71 #[.pointer (some ⟨b.rb,0,none⟩),.int .i64 pid] w fun e w'=>e=.returned (.pointer none)∧w'=w:=by
 by_cases h1:pid=1
 ·subst h1
  rcases hp with rfl|hp
  ·exact(rfind_one m w b.rb b.qrb b.qb b.qc false h.1 h.2.1 h.2.2).mono fun e w' h=>by simpa using h
  ·exact absurd rfl hp
 ·exact rfind_out m w b.rb pid b.qc _ h.1 (by omega)
theorem rpick_none (b:QB) (th:Bool) (pid n:Int) (h:b.has th w) (hp:th=false∨pid≠1):
  CallsIn NF m Tryz.prog 32 #[.pointer (some ⟨b.rb,0,none⟩),.int .i64 pid,.int .i64 n] w fun e w'=>e=.returned (.tuple #[.slice none 0 0,.int .i64 2])∧w'=w:=by
 gi_enter Tryz.func32,Tryz.ntmps32
 gi_wp2_with fail
 refine(rfind_no _ w b th pid h hp).mono ?_
 rintro e w1 ⟨rfl,hw⟩
 have hw:=hw.symm
 subst hw
 gi_wp2
 go_ret2
 exact⟨by simp,rfl⟩
theorem rpick_bad (b:QB) (n:Int) (h:b.has true w) (hn:n<1∨1000<n):
  CallsIn NF m Tryz.prog 32 #[.pointer (some ⟨b.rb,0,none⟩),.int .i64 1,.int .i64 n] w fun e w'=>e=.returned (.tuple #[.slice none 0 0,.int .i64 4])∧w'=w:=by
 gi_enter Tryz.func32,Tryz.ntmps32
 gi_wp2_with fail
 refine(rfind_one _ w b.rb b.qrb b.qb b.qc true h.1 h.2.1 h.2.2).mono ?_
 rintro e w1 ⟨rfl,hw⟩
 have hw:=hw.symm
 subst hw
 simp only[if_true]
 rcases hn with hn|hn
 ·gi_wp2
  go_ret2
  exact⟨by simp,rfl⟩
 ·have hn':¬n<1:=by omega
  gi_wp2
  go_ret2
  exact⟨by simp,rfl⟩
theorem info3:(Tryz.prog.info? 3).map (fun i=>(i.zero,i.size,i.bytes))=some (some (.int .i64 0),1,8):=by kernel_rfl
set_option maxHeartbeats 4000000 in
theorem rpids_one (b:QB) (h:b.has true w):CallsIn NF m Tryz.prog 38 #[.pointer (some ⟨b.rb,0,none⟩)] w fun e w'=>Keep No w w'∧∃v,e=.returned v∧w'.ownsRow w.heap.size 3 1 v 1 [.int .i64 1]:=by
 obtain⟨h1,h2,h3⟩:=h
 obtain⟨i0,hi0,hz0,hz1,hz2⟩:=info_parts info3
 gi_enter Tryz.func38,Tryz.ntmps38
 gi_wp2
 refine wpIn_loop_rounds 2 ?_
 rw[roundsIn_succ]
 have Ka:Keep No w (w.alloc (.cells #[.int .i64 1] 3)):=(Keep.refl _ _).alloc _
 have hcell:∀q u,([.int .i64 1]:List Value)[q]?=some u→(w.alloc (.cells #[.int .i64 1] 3)).cell? ((⟨w.heap.size,0,none⟩:Addr).add q)=some u:=fun q u hq=>by
  match q,hq with
  | 0,hq=>
   have hv:(w.alloc (.cells #[.int .i64 1] 3)).heap[w.heap.size]?=some (.cells #[.int .i64 1] 3 (0,0)):=aa4 rfl
   rw[Addr.add_lit]
   refine(aa0 hv 0).trans ?_
   simpa using hq
 gi_wp2_with (gi_at_builtin;refine wpListIn_append_own _ rfl (.tmp 24) (.tmp 27) 22 rfl w.heap.size 3 i0 (.int .i64 0) 1 8 Tryz.underlying22 hi0 hz0 hz1 hz2 rfl (by decide) (.slice none 0 0) 0 [] rfl (World.ownsRow_nil _ _ _ _) ⟨w.heap.size,0,none⟩ 1 1 [.int .i64 1] rfl rfl hcell (by simp[Value.oneCell']) (by unfold maxLen;omega) (by omega) Ka.size ?_;intro v' w4 hown hgrow _;have K4:Keep No w w4:=Ka.then ((ae7 hgrow fun k hk _=>hk).mono fun k _ e=>by cases e);have e1:=K4.has h1;clear hgrow)
 rw[roundsIn_succ]
 gi_wp2
 go_ret
 exact⟨K4,by simpa using hown⟩
theorem rpids_none (b:QB) (h:b.has false w):CallsIn NF m Tryz.prog 38 #[.pointer (some ⟨b.rb,0,none⟩)] w fun e w'=>e=.returned (.slice none 0 0)∧w'=w:=by
 obtain⟨h1,h2,h3⟩:=h
 gi_enter Tryz.func38,Tryz.ntmps38
 gi_wp2
 refine wpIn_loop_rounds 2 ?_
 rw[roundsIn_succ]
 gi_wp2
 rw[roundsIn_succ]
 gi_wp2
 go_ret
 exact⟨by simp,rfl⟩
set_option maxHeartbeats 4000000 in
theorem pids_one (b:KB) (co:Bool) (A B P:Nat) (h:b.on co A B P w):CallsIn NF m Tryz.prog 50 #[.pointer (some ⟨b.kb,0,none⟩)] w fun e w'=>Keep No w w'∧∃v,e=.returned v∧w'.ownsRow w.heap.size 3 1 v 1 [.int .i64 1]:=by
 obtain⟨ks,prs,v0,v1,h⟩:=h
 have h1:w.cell? ⟨b.kb,2,none⟩=some (.slice (some ⟨b.prb,0,none⟩) 1 b.pc):=(aa0 h.k 2).trans h.k2
 have h2:w.cell? ⟨b.prb,0,none⟩=some (.pointer (some ⟨b.pb,0,none⟩)):=(aa0 h.r 0).trans h.r0
 have h3:w.cell? ⟨b.pb,0,none⟩=some (.int .i64 1):=by rw[aa0 h.p];rfl
 obtain⟨i0,hi0,hz0,hz1,hz2⟩:=info_parts info3
 gi_enter Tryz.func50,Tryz.ntmps50
 gi_wp2
 refine wpIn_loop_rounds 2 ?_
 rw[roundsIn_succ]
 have Ka:Keep No w (w.alloc (.cells #[.int .i64 1] 3)):=(Keep.refl _ _).alloc _
 have hcell:∀q u,([.int .i64 1]:List Value)[q]?=some u→(w.alloc (.cells #[.int .i64 1] 3)).cell? ((⟨w.heap.size,0,none⟩:Addr).add q)=some u:=fun q u hq=>by
  match q,hq with
  | 0,hq=>
   have hv:(w.alloc (.cells #[.int .i64 1] 3)).heap[w.heap.size]?=some (.cells #[.int .i64 1] 3 (0,0)):=aa4 rfl
   rw[Addr.add_lit]
   refine(aa0 hv 0).trans ?_
   simpa using hq
 gi_wp2_with (gi_at_builtin;refine wpListIn_append_own _ rfl (.tmp 15) (.tmp 20) 22 rfl w.heap.size 3 i0 (.int .i64 0) 1 8 Tryz.underlying22 hi0 hz0 hz1 hz2 rfl (by decide) (.slice none 0 0) 0 [] rfl (World.ownsRow_nil _ _ _ _) ⟨w.heap.size,0,none⟩ 1 1 [.int .i64 1] rfl rfl hcell (by simp[Value.oneCell']) (by unfold maxLen;omega) (by omega) Ka.size ?_;intro v' w4 hown hgrow _;have K4:Keep No w w4:=Ka.then ((ae7 hgrow fun k hk _=>hk).mono fun k _ e=>by cases e);clear hgrow)
 rw[roundsIn_succ]
 gi_wp2
 go_ret
 exact⟨K4,by simpa using hown⟩
theorem pids_none (b:KB) (h:b.off w):CallsIn NF m Tryz.prog 50 #[.pointer (some ⟨b.kb,0,none⟩)] w fun e w'=>e=.returned (.slice none 0 0)∧w'=w:=by
 obtain⟨ks,a,c,h1,h2⟩:=h
 have h1:w.cell? ⟨b.kb,2,none⟩=some (.slice a 0 c):=(aa0 h1 2).trans h2
 gi_enter Tryz.func50,Tryz.ntmps50
 gi_wp2
 refine wpIn_loop_once ?_
 gi_wp2
 go_ret
 exact⟨by simp,rfl⟩
end
end Go.Fxa
