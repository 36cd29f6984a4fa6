/- World.looks. World.looks, whatever stands there. The Book's own rows for what was lent; its mark. -/
import Derived.Test.YtmhplpfpcnjekaaGreatK29
import Derived.Test.YtmhplpfpcnjekaaGreatK30
namespace Go.Fxa
open Go.Conc
open Go.Proofs
open Go.RowKit
set_option maxRecDepth 1000000
def lookG (y:Nat→Int) (v7 v8:Value):Array Value:=#[.int .i64 (y 0),.int .i64 (y 1),.int .i64 (y 2),.int .i64 (y 3),.int .i64 (y 4),.int .i64 (y 5),.int .i64 (y 6),v7,v8]
def Sep (u v:Value):Prop:=∀g,u.ownBlock=some g→v.ownBlock≠some g
structure LookK (base:Nat) (y:Nat→Int) (er:Int) (n7 n8:Nat) (f7 f8:Nat→Int) (e:Ending) (w:World) (v7 v8:Value):Prop where
 ret:e=.returned (.tuple #[.agg (lookG y v7 v8),.int .i64 er])
 o7:∃xs,w.ownsRow base 3 1 v7 n7 xs
 o8:∃xs,w.ownsRow base 3 1 v8 n8 xs
 s7:SlI w v7 n7 f7
 s8:SlI w v8 n8 f8
 sep:Sep v7 v8
structure LookR' (y:Nat→Int) (er:Int) (n7 n8:Nat) (f7 f8:Nat→Int) (e:Ending) (w:World) (v7 v8:Value):Prop where
 ret:e=.returned (.tuple #[.agg (lookG y v7 v8),.int .i64 er])
 s7:SlI w v7 n7 f7
 s8:SlI w v8 n8 f8
theorem an5 {T T1:Nat→Nat} {w w':World} {v u:Value} {n:Nat} {xs:List Value} (K:Keep (KeepS T v) w w') (hT1:∀k,k<w.heap.size→T1 k=ad4 T v 6 k) (ho:w.ownsRow 0 3 1 u n xs) (hu:∀g,u.ownBlock=some g→T g=0) (hne:Sep u v):w'.ownsRow 0 3 1 u n xs∧∀g,u.ownBlock=some g→T1 g=0:=by
 refine⟨aa3 ho K (fun g hg e=>?_),fun g hg=>?_⟩
 ·rcases e with e|e
  ·have:=hu g hg;omega
  ·exact hne g hg e
 ·rw[hT1 g (ho.lt g hg).2]
  exact(if_neg (hne g hg)).trans (hu g hg)
theorem ad9 {T T1:Nat→Nat} {w w':World} {v:Value} {X:Nat} {o:Obj} (K:Keep (KeepS T v) w w') (hT1:∀k,k<w.heap.size→T1 k=ad4 T v 6 k) (hX:w.heap[X]?=some o) (hTX:¬Bk T X) (hv:v.ownBlock≠some X):w'.heap[X]?=some o∧¬Bk T1 X:=by
 refine⟨K.old hX (fun e=>?_),fun e=>?_⟩
 ·rcases e with e|e
  ·exact hTX ⟨e.1,by omega⟩
  ·exact hv e
 ·have h:=hT1 X (ab2 hX)
  rw[show ad4 T v 6 X=T X from if_neg hv]at h
  exact hTX ⟨h ▸ e.1,h ▸ e.2⟩
theorem SlI.form {w:World} {v:Value} {n:Nat} {f:Nat→Int} (h:SlI w v n f):∃s c,v=.slice s n c:=let ⟨_,s,c,e,_⟩:=h;⟨s,c,e⟩
section
variable (m:Nat) (w:World)
set_option maxHeartbeats 16000000 in
theorem wlooks_of (T:Nat→Nat) (wb bk mm:Nat) (tl:Nat→Value) (ls:List (Value×Int)) (ps:Value) (h:BookX T w bk tl mm ls) (hw:w.heap[wb]?=some (.cells #[.pointer (some ⟨bk,0,none⟩),ps] 78 (0,0))) (hwb:¬Bk T wb) (ka ra:Nat) (pid:Int) (y:Nat→Int) (er:Int) (n7 n8:Nat) (f7 f8:Nat→Int) (hn7:n7≤1000) (hn8:n8≤1000)
  (hk:∀m w',Keep No w w'→CallsIn NF m Tryz.prog 20 #[.pointer (some ⟨ka,0,none⟩),.int .i64 pid] w' fun e w''=>Keep No w' w''∧∃v7 v8,LookK w'.heap.size y er n7 n8 f7 f8 e w'' v7 v8)
  (hr:∀m w',Keep No w w'→CallsIn NF m Tryz.prog 85 #[.pointer (some ⟨ra,0,none⟩),.int .i64 pid] w' fun e w''=>Keep No w' w''∧∃v7 v8,LookR' y er n7 n8 f7 f8 e w'' v7 v8) (hmm:mm≤100000000):
  CallsIn NF m Tryz.prog 39 #[.pointer (some ⟨wb,0,none⟩),.agg #[.pointer (some ⟨ka,0,none⟩),.pointer (some ⟨ra,0,none⟩)],.int .i64 pid] w fun e w'=>e=.returned (.bool true)∧Keep (fun k=>1≤T k∧T k≤5) w w'∧∃T',BookX T' w' bk tl (mm+4) ls∧∀k,k<w.heap.size→T' k=T k:=by
 have hn0:∀k,w.heap.size≤k→T k=0:=by obtain⟨_,_,_,_,h3,_⟩:=h;exact h3
 have lw:wb<w.heap.size:=ab2 hw
 have K1:Keep No w (w.alloc (.cells #[.pointer (some ⟨ka,0,none⟩),.pointer (some ⟨ra,0,none⟩)] 83)):=(Keep.refl _ _).alloc _
 have hb1:(w.alloc (.cells #[.pointer (some ⟨ka,0,none⟩),.pointer (some ⟨ra,0,none⟩)] 83)).heap[w.heap.size]?=some (.cells #[.pointer (some ⟨ka,0,none⟩),.pointer (some ⟨ra,0,none⟩)] 83 (0,0)):=aa4 rfl
 gi_enter Tryz.func39,Tryz.ntmps39
 gi_wp2_with fail
 generalize w.alloc (.cells #[.pointer (some ⟨ka,0,none⟩),.pointer (some ⟨ra,0,none⟩)] 83)=w1 at*
 refine(hk _ w1 K1).mono ?_
 rintro e w2 ⟨k2,a7,a8,q2⟩
 obtain⟨rfl,⟨xa7,oa7⟩,⟨xa8,oa8⟩,sa7,sa8,sepa⟩:=q2
 obtain⟨t7,d7,rfl⟩:=sa7.form
 obtain⟨t8,d8,rfl⟩:=sa8.form
 have la7:∀g,(Value.slice t7 n7 d7).ownBlock=some g→w1.heap.size≤g∧g<w2.heap.size:=fun g hg=>oa7.lt g hg
 have la8:∀g,(Value.slice t8 n8 d8).ownBlock=some g→w1.heap.size≤g∧g<w2.heap.size:=fun g hg=>oa8.lt g hg
 have k3:Keep No w2 (w2.alloc (.cells #[.int .i64 (y 0),.int .i64 (y 1),.int .i64 (y 2),.int .i64 (y 3),.int .i64 (y 4),.int .i64 (y 5),.int .i64 (y 6),.slice t7 n7 d7,.slice t8 n8 d8] 48)):=(Keep.refl _ _).alloc _
 have hA3:(w2.alloc (.cells #[.int .i64 (y 0),.int .i64 (y 1),.int .i64 (y 2),.int .i64 (y 3),.int .i64 (y 4),.int .i64 (y 5),.int .i64 (y 6),.slice t7 n7 d7,.slice t8 n8 d8] 48)).heap[w2.heap.size]?=some (.cells #[.int .i64 (y 0),.int .i64 (y 1),.int .i64 (y 2),.int .i64 (y 3),.int .i64 (y 4),.int .i64 (y 5),.int .i64 (y 6),.slice t7 n7 d7,.slice t8 n8 d8] 48 (0,0)):=aa4 rfl
 simp only[lookG]
 gi_upto_region 2 with fail
 have hb3:=k3.old (k2.old hb1 id) id
 have K3:=(K1.then k2).then k3
 have sz1:=K1.size
 have sz12:=k2.size
 have sz23:=k3.size
 have oa7:=aa3 oa7 k3 (fun _ _ x=>x)
 have oa8:=aa3 oa8 k3 (fun _ _ x=>x)
 have sa7:=sa7.keep k3
 have sa8:=sa8.keep k3
 clear k2 k3 hb1 K1
 generalize w2.alloc (.cells #[.int .i64 (y 0),.int .i64 (y 1),.int .i64 (y 2),.int .i64 (y 3),.int .i64 (y 4),.int .i64 (y 5),.int .i64 (y 6),.slice t7 n7 d7,.slice t8 n8 d8] 48)=w3 at*
 generalize hLA:w2.heap.size=LA at*
 have c3:w3.cell? ⟨w.heap.size,0,none⟩=some (.pointer (some ⟨ka,0,none⟩)):=by rw[aa0 hb3];rfl
 gi_wp2_with fail
 refine(hk _ w3 K3).mono ?_
 rintro e w4 ⟨k4,z7,z8,q4⟩
 obtain⟨rfl,⟨xz7,oz7⟩,⟨xz8,oz8⟩,sz7,sz8,sepz⟩:=q4
 obtain⟨x7,e7,rfl⟩:=sz7.form
 obtain⟨x8,e8,rfl⟩:=sz8.form
 have lz7:∀g,(Value.slice x7 n7 e7).ownBlock=some g→w3.heap.size≤g∧g<w4.heap.size:=fun g hg=>oz7.lt g hg
 have lz8:∀g,(Value.slice x8 n8 e8).ownBlock=some g→w3.heap.size≤g∧g<w4.heap.size:=fun g hg=>oz8.lt g hg
 have k5:Keep No w4 (w4.alloc (.cells #[.int .i64 (y 0),.int .i64 (y 1),.int .i64 (y 2),.int .i64 (y 3),.int .i64 (y 4),.int .i64 (y 5),.int .i64 (y 6),.slice x7 n7 e7,.slice x8 n8 e8] 48)):=(Keep.refl _ _).alloc _
 have hZ5:(w4.alloc (.cells #[.int .i64 (y 0),.int .i64 (y 1),.int .i64 (y 2),.int .i64 (y 3),.int .i64 (y 4),.int .i64 (y 5),.int .i64 (y 6),.slice x7 n7 e7,.slice x8 n8 e8] 48)).heap[w4.heap.size]?=some (.cells #[.int .i64 (y 0),.int .i64 (y 1),.int .i64 (y 2),.int .i64 (y 3),.int .i64 (y 4),.int .i64 (y 5),.int .i64 (y 6),.slice x7 n7 e7,.slice x8 n8 e8] 48 (0,0)):=aa4 rfl
 simp only[lookG]
 gi_upto_region 3 with fail
 have k45:=k4.then k5
 have hb5:=k45.old hb3 id
 have hA5:=k45.old hA3 id
 have K5:=K3.then k45
 have sz34:=k4.size
 have sz45:=k5.size
 have oa7:=aa3 oa7 k45 (fun _ _ x=>x)
 have oa8:=aa3 oa8 k45 (fun _ _ x=>x)
 have sa7:=sa7.keep k45
 have sa8:=sa8.keep k45
 have oz7:=aa3 oz7 k5 (fun _ _ x=>x)
 have oz8:=aa3 oz8 k5 (fun _ _ x=>x)
 have sz7:=sz7.keep k5
 have sz8:=sz8.keep k5
 clear k4 k5 k45 hb3 hA3 K3 c3
 generalize w4.alloc (.cells #[.int .i64 (y 0),.int .i64 (y 1),.int .i64 (y 2),.int .i64 (y 3),.int .i64 (y 4),.int .i64 (y 5),.int .i64 (y 6),.slice x7 n7 e7,.slice x8 n8 e8] 48)=w5 at*
 generalize hLZ:w4.heap.size=LZ at*
 have c5:w5.cell? ⟨w.heap.size,1,none⟩=some (.pointer (some ⟨ra,0,none⟩)):=by rw[aa0 hb5];rfl
 gi_wp2_with fail
 refine(hr _ w5 K5).mono ?_
 rintro e w6 ⟨k6,b7,b8,q6⟩
 obtain⟨rfl,sb7,sb8⟩:=q6
 obtain⟨p7,r7,rfl⟩:=sb7.form
 obtain⟨p8,r8,rfl⟩:=sb8.form
 have k7:Keep No w6 (w6.alloc (.cells #[.int .i64 (y 0),.int .i64 (y 1),.int .i64 (y 2),.int .i64 (y 3),.int .i64 (y 4),.int .i64 (y 5),.int .i64 (y 6),.slice p7 n7 r7,.slice p8 n8 r8] 48)):=(Keep.refl _ _).alloc _
 have hB7:(w6.alloc (.cells #[.int .i64 (y 0),.int .i64 (y 1),.int .i64 (y 2),.int .i64 (y 3),.int .i64 (y 4),.int .i64 (y 5),.int .i64 (y 6),.slice p7 n7 r7,.slice p8 n8 r8] 48)).heap[w6.heap.size]?=some (.cells #[.int .i64 (y 0),.int .i64 (y 1),.int .i64 (y 2),.int .i64 (y 3),.int .i64 (y 4),.int .i64 (y 5),.int .i64 (y 6),.slice p7 n7 r7,.slice p8 n8 r8] 48 (0,0)):=aa4 rfl
 simp only[lookG]
 gi_upto_region 4 with fail
 have k67:=k6.then k7
 have hA7:=k67.old hA5 id
 have hZ7:=k67.old hZ5 id
 have K7:=K5.then k67
 have oa7:=aa3 oa7 k67 (fun _ _ x=>x)
 have oa8:=aa3 oa8 k67 (fun _ _ x=>x)
 have sa7:=sa7.keep k67
 have sa8:=sa8.keep k67
 have oz7:=aa3 oz7 k67 (fun _ _ x=>x)
 have oz8:=aa3 oz8 k67 (fun _ _ x=>x)
 have sz7:=sz7.keep k67
 have sz8:=sz8.keep k67
 have sb7:=sb7.keep k7
 have sb8:=sb8.keep k7
 have lLB:LZ<w6.heap.size:=by have:=ab2 hZ5;have:=k6.size;omega
 clear k6 k7 k67 hA5 hZ5 K5 c5 hb5
 generalize w6.alloc (.cells #[.int .i64 (y 0),.int .i64 (y 1),.int .i64 (y 2),.int .i64 (y 3),.int .i64 (y 4),.int .i64 (y 5),.int .i64 (y 6),.slice p7 n7 r7,.slice p8 n8 r8] 48)=w7 at*
 generalize hLB:w6.heap.size=LB at*
 have i1:w7.cell? ⟨LA,7,none⟩=some (.slice t7 n7 d7):=by rw[aa0 hA7];rfl
 have i2:w7.cell? ⟨LA,8,none⟩=some (.slice t8 n8 d8):=by rw[aa0 hA7];rfl
 have i3:w7.cell? ⟨LZ,7,none⟩=some (.slice x7 n7 e7):=by rw[aa0 hZ7];rfl
 have i4:w7.cell? ⟨LZ,8,none⟩=some (.slice x8 n8 e8):=by rw[aa0 hZ7];rfl
 have i5:w7.cell? ⟨LB,7,none⟩=some (.slice p7 n7 r7):=by rw[aa0 hB7];rfl
 have i6:w7.cell? ⟨LB,8,none⟩=some (.slice p8 n8 r8):=by rw[aa0 hB7];rfl
 gi_wp2_with fail
 refine(ah8 _ w7 _ _ n7 f7 sa7 sb7).mono ?_
 rintro e w8 ⟨rfl,k8⟩
 have j2:=k8.has i2
 have j6:=k8.has i6
 gi_wp2_with fail
 refine(ah8 _ w8 _ _ n8 f8 (sa8.keep k8) (sb8.keep k8)).mono ?_
 rintro e w9 ⟨rfl,k9⟩
 have k79:=k8.then k9
 have j3:=k79.has i3
 have j5:=k79.has i5
 gi_wp2_with fail
 refine(ah8 _ w9 _ _ n7 f7 (sz7.keep k79) (sb7.keep k79)).mono ?_
 rintro e wa ⟨rfl,ka'⟩
 have k7a:=k79.then ka'
 have j4:=k7a.has i4
 have j6':=k7a.has i6
 gi_wp2_with fail
 refine(ah8 _ wa _ _ n8 f8 (sz8.keep k7a) (sb8.keep k7a)).mono ?_
 rintro e wc ⟨rfl,kc⟩
 have k7c:=k7a.then kc
 gi_upto_region 10 with fail
 have hA:=k7c.old hA7 id
 have hZ:=k7c.old hZ7 id
 have hB:=k7c.old hB7 id
 have KC:=K7.then k7c
 have oa7:=af0 (aa3 oa7 k7c (fun _ _ x=>x)) (Nat.zero_le _)
 have oa8:=af0 (aa3 oa8 k7c (fun _ _ x=>x)) (Nat.zero_le _)
 have oz7:=af0 (aa3 oz7 k7c (fun _ _ x=>x)) (Nat.zero_le _)
 have oz8:=af0 (aa3 oz8 k7c (fun _ _ x=>x)) (Nat.zero_le _)
 clear i1 i2 i3 i4 i5 i6 j2 j6 j3 j5 j4 j6' k8 k9 k79 ka' k7a kc k7c sa7 sa8 sz7 sz8 sb7 sb8 hA7 hZ7 hB7 K7 hk hr
 have BX:=h.keepNo KC
 have hW:=KC.old hw id
 clear h hw
 have nA:¬Bk T LA:=fun e=>by have:=hn0 LA (by omega);have:=e.1;omega
 have nZ:¬Bk T LZ:=fun e=>by have:=hn0 LZ (by omega);have:=e.1;omega
 have nB:¬Bk T LB:=fun e=>by have:=hn0 LB (by omega);have:=e.1;omega
 have ta7:∀g,(Value.slice t7 n7 d7).ownBlock=some g→T g=0:=fun g hg=>hn0 g (by have:=la7 g hg;omega)
 have ta8:∀g,(Value.slice t8 n8 d8).ownBlock=some g→T g=0:=fun g hg=>hn0 g (by have:=la8 g hg;omega)
 have tz7:∀g,(Value.slice x7 n7 e7).ownBlock=some g→T g=0:=fun g hg=>hn0 g (by have:=lz7 g hg;omega)
 have tz8:∀g,(Value.slice x8 n8 e8).ownBlock=some g→T g=0:=fun g hg=>hn0 g (by have:=lz8 g hg;omega)
 have s78:Sep (.slice t8 n8 d8) (.slice t7 n7 d7):=fun g hg e=>sepa g e hg
 have sz78:Sep (.slice x8 n8 e8) (.slice x7 n7 e7):=fun g hg e=>sepz g e hg
 have s77:Sep (.slice x7 n7 e7) (.slice t7 n7 d7):=fun g hg e=>by have:=lz7 g hg;have:=la7 g e;omega
 have s87:Sep (.slice x8 n8 e8) (.slice t7 n7 d7):=fun g hg e=>by have:=lz8 g hg;have:=la7 g e;omega
 have s778:Sep (.slice x7 n7 e7) (.slice t8 n8 d8):=fun g hg e=>by have:=lz7 g hg;have:=la8 g e;omega
 have s88:Sep (.slice x8 n8 e8) (.slice t8 n8 d8):=fun g hg e=>by have:=lz8 g hg;have:=la8 g e;omega
 have wn7:(Value.slice t7 n7 d7).ownBlock≠some wb:=fun e=>by have:=la7 wb e;omega
 have wn8:(Value.slice t8 n8 d8).ownBlock≠some wb:=fun e=>by have:=la8 wb e;omega
 have wz7:(Value.slice x7 n7 e7).ownBlock≠some wb:=fun e=>by have:=lz7 wb e;omega
 have wz8:(Value.slice x8 n8 e8).ownBlock≠some wb:=fun e=>by have:=lz8 wb e;omega
 have KZ:Keep (fun k=>1≤T k∧T k≤5) w wc:=KC.no
 have cb0:wc.cell? ⟨wb,0,none⟩=some (.pointer (some ⟨bk,0,none⟩)):=by rw[aa0 hW];rfl
 have cv0:wc.cell? ⟨LA,7,none⟩=some (.slice t7 n7 d7):=by rw[aa0 hA];rfl
 refine aa9 (P:=Tryz.prog) No _ rfl rfl (by kernel_rfl) 6 160 [0,1,2,3,4,5] [] (by kernel_rfl) (by rfl) (fun _ _ _=>True) (fun _ _ _ _ _ h _=>h) _ _ rfl rfl ?_
 gi_wp2
 refine⟨rfl,by kernel_rfl,?_,(fun i hi=>absurd hi (by simp)),?_⟩
 ·intro V hV
  have p1:=hV.has (w:=wc.drew) cb0
  have p2:=hV.has (w:=wc.drew) cv0
  repeat' (refine aa8 ?_ ?_)
  all_goals first|exact trivial|gi_wp2
 intro u0 V0 hV0 _
 simp only[putS]
 have kV0:Keep No wc V0:=(Keep.refl No wc).drew.then hV0
 have BX:=BX.keepNo kV0
 have hW:=kV0.old hW id
 have hA:=kV0.old hA id
 have hZ:=kV0.old hZ id
 have hB:=kV0.old hB id
 have KZ:=KZ.then kV0.no
 have oa7:=aa3 oa7 kV0 (fun _ _ x=>x)
 have oa8:=aa3 oa8 kV0 (fun _ _ x=>x)
 have oz7:=aa3 oz7 kV0 (fun _ _ x=>x)
 have oz8:=aa3 oz8 kV0 (fun _ _ x=>x)
 clear cb0 cv0 hV0
 gi_wp2_with fail
 refine(al4 _ V0 T bk (mm+0) tl ls BX _ n7 _ oa7 ta7 (by omega) (by omega)).mono ?_
 rintro e W0 ⟨rfl,KK0,T0,BX',hT0⟩
 have BX:=BX'
 obtain⟨hW,hwb⟩:=ad9 KK0 hT0 hW hwb wn7
 have xA:=ad7 oa7 hA (by decide)
 have xZ:=ad7 oa7 hZ (by decide)
 have xB:=ad7 oa7 hB (by decide)
 obtain⟨hA,nA⟩:=ad9 KK0 hT0 hA nA xA
 obtain⟨hZ,nZ⟩:=ad9 KK0 hT0 hZ nZ xZ
 obtain⟨hB,nB⟩:=ad9 KK0 hT0 hB nB xB
 obtain⟨oa8,ta8⟩:=an5 KK0 hT0 oa8 ta8 s78
 obtain⟨oz7,tz7⟩:=an5 KK0 hT0 oz7 tz7 s77
 obtain⟨oz8,tz8⟩:=an5 KK0 hT0 oz8 tz8 s87
 have zV0:=Nat.le_trans KZ.size (Nat.le_refl _)
 have lo0:∀k,k<w.heap.size→¬(Value.slice t7 n7 d7).ownBlock=some k:=fun k hk e=>by have:=la7 k e;omega
 have KZ:Keep (fun k=>1≤T k∧T k≤5) w W0:=KZ.trans KK0 (fun k hk e=>by
  rcases e with e|e
  ·exact e
  ·exact absurd e (lo0 k hk))
 have oldz:∀k,k<w.heap.size→T0 k=T k:=fun k hk=>by
  rw[hT0 k (Nat.lt_of_lt_of_le hk zV0),show ad4 T (.slice t7 n7 d7) 6 k=T k from if_neg (lo0 k hk)]
 clear KK0 hT0 kV0 xA xZ xB
 gi_upto_region 11 with fail
 have cb1:W0.cell? ⟨wb,0,none⟩=some (.pointer (some ⟨bk,0,none⟩)):=by rw[aa0 hW];rfl
 have cv1:W0.cell? ⟨LA,8,none⟩=some (.slice t8 n8 d8):=by rw[aa0 hA];rfl
 refine aa9 (P:=Tryz.prog) No _ rfl rfl (by kernel_rfl) 6 160 [0,1,2,3,4,5] [] (by kernel_rfl) (by rfl) (fun _ _ _=>True) (fun _ _ _ _ _ h _=>h) _ _ rfl rfl ?_
 gi_wp2
 refine⟨rfl,by kernel_rfl,?_,(fun i hi=>absurd hi (by simp)),?_⟩
 ·intro V hV
  have p1:=hV.has (w:=W0.drew) cb1
  have p2:=hV.has (w:=W0.drew) cv1
  repeat' (refine aa8 ?_ ?_)
  all_goals first|exact trivial|gi_wp2
 intro u1 V1 hV1 _
 simp only[putS]
 have kV1:Keep No W0 V1:=(Keep.refl No W0).drew.then hV1
 have BX:=BX.keepNo kV1
 have hW:=kV1.old hW id
 have hA:=kV1.old hA id
 have hZ:=kV1.old hZ id
 have hB:=kV1.old hB id
 have KZ:=KZ.then kV1.no
 have oa8:=aa3 oa8 kV1 (fun _ _ x=>x)
 have oz7:=aa3 oz7 kV1 (fun _ _ x=>x)
 have oz8:=aa3 oz8 kV1 (fun _ _ x=>x)
 clear cb1 cv1 hV1
 gi_wp2_with fail
 refine(al4 _ V1 T0 bk (mm+1) tl ls BX _ n8 _ oa8 ta8 (by omega) (by omega)).mono ?_
 rintro e W1 ⟨rfl,KK1,T1,BX',hT1⟩
 have BX:=BX'
 obtain⟨hW,hwb⟩:=ad9 KK1 hT1 hW hwb wn8
 have xA:=ad7 oa8 hA (by decide)
 have xZ:=ad7 oa8 hZ (by decide)
 have xB:=ad7 oa8 hB (by decide)
 obtain⟨hA,nA⟩:=ad9 KK1 hT1 hA nA xA
 obtain⟨hZ,nZ⟩:=ad9 KK1 hT1 hZ nZ xZ
 obtain⟨hB,nB⟩:=ad9 KK1 hT1 hB nB xB
 obtain⟨oz7,tz7⟩:=an5 KK1 hT1 oz7 tz7 s778
 obtain⟨oz8,tz8⟩:=an5 KK1 hT1 oz8 tz8 s88
 have zV1:=Nat.le_trans KZ.size (Nat.le_refl _)
 have lo1:∀k,k<w.heap.size→¬(Value.slice t8 n8 d8).ownBlock=some k:=fun k hk e=>by have:=la8 k e;omega
 have KZ:Keep (fun k=>1≤T k∧T k≤5) w W1:=KZ.trans KK1 (fun k hk e=>by
  rcases e with e|e
  ·rw[oldz k hk]at e;exact e
  ·exact absurd e (lo1 k hk))
 have oldz:∀k,k<w.heap.size→T1 k=T k:=fun k hk=>by
  rw[hT1 k (Nat.lt_of_lt_of_le hk zV1),show ad4 T0 (.slice t8 n8 d8) 6 k=T0 k from if_neg (lo1 k hk)]
  exact oldz k hk
 clear KK1 hT1 kV1 xA xZ xB
 gi_upto_region 12 with fail
 have cb2:W1.cell? ⟨wb,0,none⟩=some (.pointer (some ⟨bk,0,none⟩)):=by rw[aa0 hW];rfl
 have cv2:W1.cell? ⟨LZ,7,none⟩=some (.slice x7 n7 e7):=by rw[aa0 hZ];rfl
 refine aa9 (P:=Tryz.prog) No _ rfl rfl (by kernel_rfl) 6 160 [0,1,2,3,4,5] [] (by kernel_rfl) (by rfl) (fun _ _ _=>True) (fun _ _ _ _ _ h _=>h) _ _ rfl rfl ?_
 gi_wp2
 refine⟨rfl,by kernel_rfl,?_,(fun i hi=>absurd hi (by simp)),?_⟩
 ·intro V hV
  have p1:=hV.has (w:=W1.drew) cb2
  have p2:=hV.has (w:=W1.drew) cv2
  repeat' (refine aa8 ?_ ?_)
  all_goals first|exact trivial|gi_wp2
 intro u2 V2 hV2 _
 simp only[putS]
 have kV2:Keep No W1 V2:=(Keep.refl No W1).drew.then hV2
 have BX:=BX.keepNo kV2
 have hW:=kV2.old hW id
 have hA:=kV2.old hA id
 have hZ:=kV2.old hZ id
 have hB:=kV2.old hB id
 have KZ:=KZ.then kV2.no
 have oz7:=aa3 oz7 kV2 (fun _ _ x=>x)
 have oz8:=aa3 oz8 kV2 (fun _ _ x=>x)
 clear cb2 cv2 hV2
 gi_wp2_with fail
 refine(al4 _ V2 T1 bk (mm+2) tl ls BX _ n7 _ oz7 tz7 (by omega) (by omega)).mono ?_
 rintro e W2 ⟨rfl,KK2,T2,BX',hT2⟩
 have BX:=BX'
 obtain⟨hW,hwb⟩:=ad9 KK2 hT2 hW hwb wz7
 have xA:=ad7 oz7 hA (by decide)
 have xZ:=ad7 oz7 hZ (by decide)
 have xB:=ad7 oz7 hB (by decide)
 obtain⟨hA,nA⟩:=ad9 KK2 hT2 hA nA xA
 obtain⟨hZ,nZ⟩:=ad9 KK2 hT2 hZ nZ xZ
 obtain⟨hB,nB⟩:=ad9 KK2 hT2 hB nB xB
 obtain⟨oz8,tz8⟩:=an5 KK2 hT2 oz8 tz8 sz78
 have zV2:=Nat.le_trans KZ.size (Nat.le_refl _)
 have lo2:∀k,k<w.heap.size→¬(Value.slice x7 n7 e7).ownBlock=some k:=fun k hk e=>by have:=lz7 k e;omega
 have KZ:Keep (fun k=>1≤T k∧T k≤5) w W2:=KZ.trans KK2 (fun k hk e=>by
  rcases e with e|e
  ·rw[oldz k hk]at e;exact e
  ·exact absurd e (lo2 k hk))
 have oldz:∀k,k<w.heap.size→T2 k=T k:=fun k hk=>by
  rw[hT2 k (Nat.lt_of_lt_of_le hk zV2),show ad4 T1 (.slice x7 n7 e7) 6 k=T1 k from if_neg (lo2 k hk)]
  exact oldz k hk
 clear KK2 hT2 kV2 xA xZ xB
 gi_upto_region 13 with fail
 have cb3:W2.cell? ⟨wb,0,none⟩=some (.pointer (some ⟨bk,0,none⟩)):=by rw[aa0 hW];rfl
 have cv3:W2.cell? ⟨LZ,8,none⟩=some (.slice x8 n8 e8):=by rw[aa0 hZ];rfl
 refine aa9 (P:=Tryz.prog) No _ rfl rfl (by kernel_rfl) 6 160 [0,1,2,3,4,5] [] (by kernel_rfl) (by rfl) (fun _ _ _=>True) (fun _ _ _ _ _ h _=>h) _ _ rfl rfl ?_
 gi_wp2
 refine⟨rfl,by kernel_rfl,?_,(fun i hi=>absurd hi (by simp)),?_⟩
 ·intro V hV
  have p1:=hV.has (w:=W2.drew) cb3
  have p2:=hV.has (w:=W2.drew) cv3
  repeat' (refine aa8 ?_ ?_)
  all_goals first|exact trivial|gi_wp2
 intro u3 V3 hV3 _
 simp only[putS]
 have kV3:Keep No W2 V3:=(Keep.refl No W2).drew.then hV3
 have BX:=BX.keepNo kV3
 have hW:=kV3.old hW id
 have hA:=kV3.old hA id
 have hZ:=kV3.old hZ id
 have hB:=kV3.old hB id
 have KZ:=KZ.then kV3.no
 have oz8:=aa3 oz8 kV3 (fun _ _ x=>x)
 clear cb3 cv3 hV3
 gi_wp2_with fail
 refine(al4 _ V3 T2 bk (mm+3) tl ls BX _ n8 _ oz8 tz8 (by omega) (by omega)).mono ?_
 rintro e W3 ⟨rfl,KK3,T3,BX',hT3⟩
 have BX:=BX'
 obtain⟨hW,hwb⟩:=ad9 KK3 hT3 hW hwb wz8
 have xA:=ad7 oz8 hA (by decide)
 have xZ:=ad7 oz8 hZ (by decide)
 have xB:=ad7 oz8 hB (by decide)
 obtain⟨hA,nA⟩:=ad9 KK3 hT3 hA nA xA
 obtain⟨hZ,nZ⟩:=ad9 KK3 hT3 hZ nZ xZ
 obtain⟨hB,nB⟩:=ad9 KK3 hT3 hB nB xB
 have zV3:=Nat.le_trans KZ.size (Nat.le_refl _)
 have lo3:∀k,k<w.heap.size→¬(Value.slice x8 n8 e8).ownBlock=some k:=fun k hk e=>by have:=lz8 k e;omega
 have KZ:Keep (fun k=>1≤T k∧T k≤5) w W3:=KZ.trans KK3 (fun k hk e=>by
  rcases e with e|e
  ·rw[oldz k hk]at e;exact e
  ·exact absurd e (lo3 k hk))
 have oldz:∀k,k<w.heap.size→T3 k=T k:=fun k hk=>by
  rw[hT3 k (Nat.lt_of_lt_of_le hk zV3),show ad4 T2 (.slice x8 n8 e8) 6 k=T2 k from if_neg (lo3 k hk)]
  exact oldz k hk
 clear KK3 hT3 kV3 xA xZ xB
 have fa0:W3.cell? ⟨LA,0,none⟩=some (.int .i64 (y 0)):=by rw[aa0 hA];rfl
 have fb0:W3.cell? ⟨LB,0,none⟩=some (.int .i64 (y 0)):=by rw[aa0 hB];rfl
 have fa1:W3.cell? ⟨LA,1,none⟩=some (.int .i64 (y 1)):=by rw[aa0 hA];rfl
 have fb1:W3.cell? ⟨LB,1,none⟩=some (.int .i64 (y 1)):=by rw[aa0 hB];rfl
 have fa2:W3.cell? ⟨LA,2,none⟩=some (.int .i64 (y 2)):=by rw[aa0 hA];rfl
 have fb2:W3.cell? ⟨LB,2,none⟩=some (.int .i64 (y 2)):=by rw[aa0 hB];rfl
 have fa3:W3.cell? ⟨LA,3,none⟩=some (.int .i64 (y 3)):=by rw[aa0 hA];rfl
 have fb3:W3.cell? ⟨LB,3,none⟩=some (.int .i64 (y 3)):=by rw[aa0 hB];rfl
 have fa4:W3.cell? ⟨LA,4,none⟩=some (.int .i64 (y 4)):=by rw[aa0 hA];rfl
 have fb4:W3.cell? ⟨LB,4,none⟩=some (.int .i64 (y 4)):=by rw[aa0 hB];rfl
 have fa5:W3.cell? ⟨LA,5,none⟩=some (.int .i64 (y 5)):=by rw[aa0 hA];rfl
 have fb5:W3.cell? ⟨LB,5,none⟩=some (.int .i64 (y 5)):=by rw[aa0 hB];rfl
 have fa6:W3.cell? ⟨LA,6,none⟩=some (.int .i64 (y 6)):=by rw[aa0 hA];rfl
 have fb6:W3.cell? ⟨LB,6,none⟩=some (.int .i64 (y 6)):=by rw[aa0 hB];rfl
 gi_wp2_with (gi_at_call 70;refine(num_calls _ W3 er).mono ?_;rintro e wz ⟨rfl,hwz⟩;have hwz:=hwz.symm;subst hwz)
 go_ret
 exact⟨by simp,KZ,T3,BX,oldz⟩
end
end Go.Fxa
namespace Go.Fxa
open Go.Conc
open Go.Proofs
open Go.RowKit
def yOf (A B P:Nat) (i:Nat):Int:=([1,0,0,(A:Int),(B:Int),(P:Int),0]:List Int).getD i 0
theorem Ints.sli {base:Nat} {v:Value} {n:Nat} {f:Nat→Int} {w:World} (h:Ints base v n f w) (hn:n<100000000):SlI w v n f:=by
 obtain⟨rb,c,_,_,_,rfl,hc⟩:=h
 exact⟨hn,_,c,rfl,fun _=>⟨rb,0,rfl,fun i hi=>by rw[Nat.zero_add];exact hc i hi⟩⟩
theorem SlI.nil {w:World} {f:Nat→Int}:SlI w (.slice none 0 0) 0 f:=⟨by omega,none,0,rfl,fun h=>absurd h (by omega)⟩
theorem Sep.nil {v:Value}:Sep (.slice none 0 0) v:=fun g hg=>by cases hg
section
variable (m:Nat) (w:World)
theorem wlooks_any (T:Nat→Nat) (wb bk mm:Nat) (tl:Nat→Value) (ls:List (Value×Int)) (ps:Value) (h:BookX T w bk tl mm ls) (hw:w.heap[wb]?=some (.cells #[.pointer (some ⟨bk,0,none⟩),ps] 78 (0,0))) (hwb:¬Bk T wb) (kb:KB) (qb:QB) (ok:kb.Ok) (fit:kb.Fit) (okq:qb.Ok) (hL:kb.L=qb.L) (hi:kb.img=qb.img) (st:Option (Bool×Nat×Nat×Nat)) (hp:PairOn kb qb w st) (pid:Int) (hmm:mm≤100000000):
  CallsIn NF m Tryz.prog 39 #[.pointer (some ⟨wb,0,none⟩),.agg #[.pointer (some ⟨kb.kb,0,none⟩),.pointer (some ⟨qb.rb,0,none⟩)],.int .i64 pid] w fun e w'=>e=.returned (.bool true)∧Keep (fun k=>1≤T k∧T k≤5) w w'∧∃T',BookX T' w' bk tl (mm+4) ls∧∀k,k<w.heap.size→T' k=T k:=by
 have L1:=ok.L1
 have L2:=ok.L2
 by_cases hit:∃s,st=some s∧pid=1
 ·obtain⟨⟨co,A,B,P⟩,rfl,rfl⟩:=hit
  refine wlooks_of m w T wb bk mm tl ls ps h hw hwb kb.kb qb.rb 1 (yOf A B P) 0 kb.L 6 (fun i=>kb.img i) (fun _=>-1) (by omega) (by omega) (fun m' w' hK=>?_) (fun m' w' hK=>?_) hmm
  ·refine(kLook_on m' w' kb ok fit co A B P (hp.1.keep hK (fun _ _ x=>x))).mono ?_
   rintro e w2 ⟨k2,v7,v8,rfl,i7,i8⟩
   refine⟨k2,v7,v8,rfl,i7.owns,i8.owns,i7.1.sli (by omega),i8.1.sli (by omega),fun g hg hg'=>?_⟩
   obtain⟨r7,c7,_,_,_,rfl,h7⟩:=i7.1
   obtain⟨r8,c8,_,_,_,rfl,h8⟩:=i8.1
   have e7:r7=g:=by simpa [Value.ownBlock]using hg
   have e8:r8=g:=by simpa [Value.ownBlock]using hg'
   subst e7 e8
   have h1:=(h7 0 (by omega)).symm.trans (h8 0 (by omega))
   injection h1 with h1
   injection h1 with _ h1
   have h1:((kb.img 0:Nat):Int)=-1:=h1
   omega
  ·refine(rLook_on m' w' qb okq co A B P (hp.2.keep hK (fun _ _ x=>x))).mono ?_
   rintro e w2 ⟨k2,v7,v8,rfl,i7,i8⟩
   refine⟨k2,v7,v8,rfl,?_,i8.sli (by omega)⟩
   rw[hL,hi]
   exact i7.sli (by omega)
 ·have hno:(∃co A B P,kb.on co A B P w)∧pid≠1∨kb.off w:=by
   cases st with
   | some s=>exact .inl ⟨⟨_,_,_,_,hp.1⟩,fun e=>hit ⟨s,rfl,e⟩⟩
   | none=>exact .inr hp.1
  have hnr:∃th,qb.has th w∧(th=false∨pid≠1):=by
   cases st with
   | some s=>exact⟨true,hp.2.has,.inr fun e=>hit ⟨s,rfl,e⟩⟩
   | none=>exact⟨false,hp.2.has,.inl rfl⟩
  obtain⟨th,ht,hn⟩:=hnr
  refine wlooks_of m w T wb bk mm tl ls ps h hw hwb kb.kb qb.rb pid (fun _=>0) 2 0 0 (fun _=>0) (fun _=>0) (by omega) (by omega) (fun m' w' hK=>?_) (fun m' w' hK=>?_) hmm
  ·refine(kLook_no m' w' kb pid ?_).mono ?_
   ·rcases hno with⟨⟨co,A,B,P,h1⟩,h2⟩|h1
    ·exact .inl ⟨⟨co,A,B,P,h1.keep hK (fun _ _ x=>x)⟩,h2⟩
    ·exact .inr (h1.keep hK (fun x=>x))
   ·rintro e w2 ⟨k2,rfl⟩
    exact⟨k2,.slice none 0 0,.slice none 0 0,rfl,⟨[],World.ownsRow_nil _ _ _ _⟩,⟨[],World.ownsRow_nil _ _ _ _⟩,SlI.nil,SlI.nil,Sep.nil⟩
  ·refine(rLook_no m' w' qb th pid (ht.keep hK) hn).mono ?_
   rintro e w2 ⟨k2,rfl⟩
   exact⟨k2,.slice none 0 0,.slice none 0 0,rfl,SlI.nil,SlI.nil⟩
end
def tlSet (tl:Nat→Value) (i:Nat) (v:Value):Nat→Value:=fun j=>if j=i then v else tl j
section
variable {T:Nat→Nat} {w:World} {bk:Nat} {tl:Nat→Value} {m:Int} {v1 v2 v3 v4:Value} {l1 l2 l3 l4:List Value}
theorem BookRaw.rows (h:BookRaw T w bk tl m v1 v2 v3 v4 l1 l2 l3 l4) (i:Nat) (v:Value) {tl':Nat→Value} {m':Int} (hb:(w.setCell ⟨bk,i,none⟩ v).heap[bk]?=some (.cells #[.int .i64 m',v1,v2,v3,v4,tl' 5,tl' 6,tl' 7,tl' 8,tl' 9,tl' 10] 75 (0,0))):BookRaw T (w.setCell ⟨bk,i,none⟩ v) bk tl' m' v1 v2 v3 v4 l1 l2 l3 l4:=by
 have K:Keep (Go.Fxa.At bk) w (w.setCell ⟨bk,i,none⟩ v):=Keep.set1 _
 have ne:∀{v:Value} {t:Nat},(∀g,v.ownBlock=some g→T g=t)→t≠1→∀g,v.ownBlock=some g→¬Go.Fxa.At bk g:=fun ht h1 g hg e=>by
  have e:g=bk:=e
  subst e
  exact h1 ((ht g hg).symm.trans h.tag)
 exact⟨hb,h.tag,aa3 h.o1 K (ne h.t1 (by decide)),aa3 h.o2 K (ne h.t2 (by decide)),aa3 h.o3 K (ne h.t3 (by decide)),aa3 h.o4 K (ne h.t4 (by decide)),h.t1,h.t2,h.t3,h.t4⟩
theorem BookRaw.setm (h:BookRaw T w bk tl m v1 v2 v3 v4 l1 l2 l3 l4) (m':Int):BookRaw T (w.setCell ⟨bk,0,none⟩ (.int .i64 m')) bk tl m' v1 v2 v3 v4 l1 l2 l3 l4:=h.rows 0 _ ((aa2 h.blk _).trans (by simp))
theorem BookRaw.set9 (h:BookRaw T w bk tl m v1 v2 v3 v4 l1 l2 l3 l4) (v:Value):BookRaw T (w.setCell ⟨bk,9,none⟩ v) bk (tlSet tl 9 v) m v1 v2 v3 v4 l1 l2 l3 l4:=h.rows 9 _ ((aa2 h.blk _).trans (by simp[tlSet]))
theorem BookRaw.set10 (h:BookRaw T w bk tl m v1 v2 v3 v4 l1 l2 l3 l4) (v:Value):BookRaw T (w.setCell ⟨bk,10,none⟩ v) bk (tlSet tl 10 v) m v1 v2 v3 v4 l1 l2 l3 l4:=h.rows 10 _ ((aa2 h.blk _).trans (by simp[tlSet]))
end
section
variable {T:Nat→Nat} {w:World} {bk mm:Nat} {tl:Nat→Value} {es fs:List (Value×Int)}
theorem Book.cellOf (h:Book T w bk tl mm es fs):∃v1 v2 v3 v4,w.heap[bk]?=some (.cells #[.int .i64 mm,v1,v2,v3,v4,tl 5,tl 6,tl 7,tl 8,tl 9,tl 10] 75 (0,0)):=let ⟨v1,v2,v3,v4,R,_⟩:=h;⟨v1,v2,v3,v4,R.blk⟩
theorem Book.reads (h:Book T w bk tl mm es fs) {i:Nat} {v:Value} {tl':Nat→Value} {mm':Nat} (hR:∀{v1 v2 v3 v4:Value} {l1 l2 l3 l4:List Value},BookRaw T w bk tl mm v1 v2 v3 v4 l1 l2 l3 l4→BookRaw T (w.setCell ⟨bk,i,none⟩ v) bk tl' mm' v1 v2 v3 v4 l1 l2 l3 l4):Book T (w.setCell ⟨bk,i,none⟩ v) bk tl' mm' es fs:=by
 obtain⟨v1,v2,v3,v4,R,h2,h3⟩:=h
 have K:Keep (Go.Fxa.At bk) w (w.setCell ⟨bk,i,none⟩ v):=Keep.set1 _
 have nb:∀k,T k=6→¬Go.Fxa.At bk k:=fun k hk e=>by
  have e:k=bk:=e
  subst e
  have:=R.tag
  omega
 refine⟨v1,v2,v3,v4,hR R,fun x hx=>?_,fun x hx=>?_⟩
 ·obtain⟨N,hN,q⟩:=h2 x hx
  exact⟨N,hN,q.keep6 K nb (fun _ _ _=>rfl)⟩
 ·obtain⟨N,hN,q⟩:=h3 x hx
  exact⟨N,hN,q.keep6 K nb (fun _ _ _=>rfl)⟩
theorem Book.tag (h:Book T w bk tl mm es fs):T bk=1:=let ⟨_,_,_,_,R,_⟩:=h;R.tag
theorem Book.setm (h:Book T w bk tl mm es fs):Book T (w.setCell ⟨bk,0,none⟩ (.int .i64 (mm+1:Nat))) bk tl (mm+1) es fs:=h.reads fun R=>R.setm _
theorem Book.set9 (h:Book T w bk tl mm es fs) (v:Value):Book T (w.setCell ⟨bk,9,none⟩ v) bk (tlSet tl 9 v) mm es fs:=h.reads fun R=>R.set9 _
theorem Book.set10 (h:Book T w bk tl mm es fs) (v:Value):Book T (w.setCell ⟨bk,10,none⟩ v) bk (tlSet tl 10 v) mm es fs:=h.reads fun R=>R.set10 _
end
end Go.Fxa
