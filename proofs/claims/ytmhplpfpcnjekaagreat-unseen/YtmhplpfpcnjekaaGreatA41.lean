/- Unseen: its pieces, walked. -/
import Derived.Test.YtmhplpfpcnjekaaGreatA40
import Derived.ProofKit
import Derived.ChangeStays
open Go.Proofs.Tryz
namespace Go.Fxa
open Go.Conc Go.Proofs Go.RowKit
set_option maxRecDepth 1000000
set_option maxHeartbeats 0
def Oy (f:Y_) (s0 s1 s2 s5 s6 s7 s8 s9 s10 s11 s12 s13 s14 s15:n_):X_:=#[s0,s1,s2,f 3,f 4,s5,s6,s7,s8,s9,s10,s11,s12,s13,s14,s15,f 16,f 17,f 18,f 19,f 20,f 21,f 22,f 23,f 24,f 25,f 26,f 27,f 28,f 29,f 30,f 31,f 32,f 33,f 34,f 35,f 36,f 37,f 38,f 39,f 40,f 41,f 42,f 43,f 44,f 45,f 46,f 47,f 48,f 49,f 50,f 51,f 52,f 53,f 54,f 55,f 56,f 57,f 58,f 59,f 60,f 61,f 62,f 63,f 64,f 65,f 66,f 67,f 68,f 69,f 70,f 71,f 72,f 73,f 74,f 75,f 76,f 77,f 78,f 79,f 80,f 81,f 82,f 83,f 84,f 85,f 86,f 87,f 88,f 89,f 90,f 91,f 92,f 93,f 94,f 95,f 96,f 97,f 98,f 99,f 100,f 101,f 102,f 103,f 104,f 105,f 106,f 107,f 108,f 109,f 110,f 111,f 112,f 113,f 114,f 115,f 116,f 117,f 118,f 119,f 120,f 121,f 122,f 123,f 124,f 125,f 126,f 127]
section
variable (m:Nat) (w:o_) (f:Y_)
theorem cg3 (core swap:Int) (v b a:n_):(uq prog 0).wpIn NF m prog (Ends λc w'=>(∃g,c=TN 128 (A8 g [(1,a),(2,ptr w.heap.size)]))/\Ac No w w'/\w'.heap[w.heap.size]?=some (N_ #[b_ core,b_ swap,v,b] 25)) ⟨TN 128 (A8 f [(0,.agg #[b_ core,b_ swap,v,b]),(1,a)]),[]⟩ w:=by
 unfold uq;rw[LJ];dsimp only[Tryz.f7,Option.getD,behind,piece];show Code.wpIn (Fence.list LF none) m prog _ _ ⟨Oy f (.agg #[b_ core,b_ swap,v,b]) (a) (f 2) (f 5) (f 6) (f 7) (f 8) (f 9) (f 10) (f 11) (f 12) (f 13) (f 14) (f 15),[]⟩ _;unfold Oy;gi_wp2;exact⟨rfl,rfl,⟨_,Ea rfl (by simp[ptr])⟩,(Ac.refl _ _).alloc _,Y7 rfl⟩
theorem cg2 (a b:n_):(uq prog 2).wpIn NF m prog (Ends λc w'=>(∃g,c=TN 128 (A8 g [(1,a),(2,b)]))/\Ac No w w') ⟨TN 128 (A8 f [(1,a),(2,b),(5,.bool true)]),[]⟩ w:=by
 unfold uq;rw[LJ];dsimp only[Tryz.f7,Option.getD,behind,piece];show Code.wpIn (Fence.list LF none) m prog _ _ ⟨Oy f (f 0) (a) (b) (.bool true) (f 6) (f 7) (f 8) (f 9) (f 10) (f 11) (f 12) (f 13) (f 14) (f 15),[]⟩ _;unfold Oy;gi_wp2;exact⟨rfl,rfl,⟨_,Ea rfl zF⟩,Ac.refl _ _⟩
theorem cg1 (core swap:Int) (q:n_) (s r:d_ f_) (c t:Nat) (X n k:Nat) (fn:Nat->Int) (u:Nat->n_×Nat×(Nat->Int)) (x:qg w (.slice s n c) n fn) (v:TU w (.slice r k t) k u) (o:xZ X core swap s r n c k t w):(uq prog 3).wpIn NF m prog (Ends λy w'=>Ac No w w'/\∃g p l,y=TN 128 (A8 g [(1,q),(2,ptr X),(6,p),(7,l)])/\eG core swap n k fn u w p l w') ⟨TN 128 (A8 f [(1,q),(2,ptr X)]),[]⟩ w:=by
 have d:=λm=>(ad2 m w core swap _ _ n k fn u x v).mono λe w1 h=>h.cut
 have i:w.cell? (R_ X)=some (b_ core):=bce o rfl;have j:w.cell? (S_ X 1)=some (b_ swap):=bce o rfl;have c2:w.cell? (S_ X 2)=some (.slice s n c):=bce o rfl;have c3:w.cell? (S_ X 3)=some (.slice r k t):=bce o rfl;unfold uq;rw[LJ];dsimp only[Tryz.f7,Option.getD,behind,piece];show Code.wpIn (Fence.list LF none) m prog _ _ ⟨Oy f (f 0) (q) (ptr X) (f 5) (f 6) (f 7) (f 8) (f 9) (f 10) (f 11) (f 12) (f 13) (f 14) (f 15),[]⟩ _;unfold Oy ptr;gi_wp2_with (gi_at_call 14;refine(d _).mono ?_;rintro e w1 ⟨a,p,l,rfl,b⟩);exact⟨rfl,rfl,a,_,p,l,Ea rfl zF,b⟩
theorem cg0 (core swap:Int) (l u p:n_) (s r:d_ f_) (c t:Nat) (X n v:Nat) (k:xZ X core swap s r n c v t w):(uq prog 4).wpIn NF m prog (Ends λx w'=>(∃g,x=TN 128 (A8 g [(1,l),(2,ptr X),(6,u),(7,p)]))/\Ac (At X) w w'/\∃o:Int,16<=o/\o<=64/\xZ X o swap s r n c v t w') ⟨TN 128 (A8 f [(1,l),(2,ptr X),(6,u),(7,p)]),[]⟩ w:=by
 have i:w.cell? (R_ X)=some (b_ core):=bce k rfl;have j:w.cell? (S_ X 1)=some (b_ swap):=bce k rfl;have c2:w.cell? (S_ X 2)=some (.slice s n c):=bce k rfl;have c3:w.cell? (S_ X 3)=some (.slice r v t):=bce k rfl;have d:w.frozen? (R_ X)=false:=BQ k 0;have h:=lu (wrap64 (core+5)) (n:=49) wB;have a:=λm=>eY m w (wrap64 (core+5)) 49 _ (by unfold wrap64;omega) (by unfold wrap64;omega) zD zD rfl
 generalize Qk (wrap64 (core+5)) 49=q at h a;unfold uq;rw[LJ];dsimp only[Tryz.f7,Option.getD,behind,piece];show Code.wpIn (Fence.list LF none) m prog _ _ ⟨Oy f (f 0) (l) (ptr X) (f 5) (u) (p) (f 8) (f 9) (f 10) (f 11) (f 12) (f 13) (f 14) (f 15),[]⟩ _;unfold Oy ptr;gi_wp2_with (gi_at_call 16;refine(a _).mono ?_;rintro e w1 ⟨rfl,b⟩;have b:=b.symm;subst b);exact⟨rfl,rfl,⟨_,Ea rfl zF⟩,Ac.NZ _,16+(q:Int),zD,zD,Ap k _⟩
theorem cf9 (core swap:Int) (q x r:n_) (s t:d_ f_) (c u:Nat) (X n o:Nat) (fn:Nat->Int) (v:Nat->n_×Nat×(Nat->Int)) (z:qg w (.slice s n c) n fn) (y:TU w (.slice t o u) o v) (p:xZ X core swap s t n c o u w):(uq prog 5).wpIn NF m prog (Ends λA w'=>Ac No w w'/\∃g l k,A=TN 128 (A8 g [(1,q),(6,x),(7,r),(8,l),(9,k)])/\eG core swap n o fn v w l k w') ⟨TN 128 (A8 f [(1,q),(2,ptr X),(6,x),(7,r)]),[]⟩ w:=by
 have d:=λm=>(ad2 m w core swap _ _ n o fn v z y).mono λe w1 h=>h.cut
 have i:w.cell? (R_ X)=some (b_ core):=bce p rfl;have j:w.cell? (S_ X 1)=some (b_ swap):=bce p rfl;have c2:w.cell? (S_ X 2)=some (.slice s n c):=bce p rfl;have c3:w.cell? (S_ X 3)=some (.slice t o u):=bce p rfl;unfold uq;rw[LJ];dsimp only[Tryz.f7,Option.getD,behind,piece];show Code.wpIn (Fence.list LF none) m prog _ _ ⟨Oy f (f 0) (q) (ptr X) (f 5) (x) (r) (f 8) (f 9) (f 10) (f 11) (f 12) (f 13) (f 14) (f 15),[]⟩ _;unfold Oy ptr;gi_wp2_with (gi_at_call 14;refine(d _).mono ?_;rintro e w1 ⟨a,l,k,rfl,b⟩);exact⟨rfl,rfl,a,_,l,k,Ea rfl zF,b⟩
theorem bx8 (a:n_):(uq prog 6).wpIn NF m prog (WM λb w'=>(∃g,b=TN 128 (A8 g [(4,.bool true)]))/\Ac No w w') ⟨TN 128 (A8 f [(1,a),(6,.pointer none),(7,b_ 1),(8,.pointer none),(9,b_ 1)]),[]⟩ w:=by
 unfold uq;rw[LJ];dsimp only[Tryz.f7,Option.getD,behind,piece];show Code.wpIn (Fence.list LF none) m prog _ _ ⟨Oy f (f 0) (a) (f 2) (f 5) (.pointer none) (b_ 1) (.pointer none) (b_ 1) (f 10) (f 11) (f 12) (f 13) (f 14) (f 15),[]⟩ _;unfold Oy;gi_wp2;exact⟨rfl,rfl,⟨_,Ea rfl zF⟩,Ac.refl _ _⟩
theorem bx9 (a:n_) (b:Nat):(uq prog 6).wpIn NF m prog (WM λc w'=>(∃g,c=TN 128 (A8 g [(4,.bool true)]))/\Ac No w w') ⟨TN 128 (A8 f [(1,a),(6,.pointer none),(7,b_ 1),(8,ptr b),(9,b_ 0)]),[]⟩ w:=by
 unfold uq;rw[LJ];dsimp only[Tryz.f7,Option.getD,behind,piece];show Code.wpIn (Fence.list LF none) m prog _ _ ⟨Oy f (f 0) (a) (f 2) (f 5) (.pointer none) (b_ 1) (ptr b) (b_ 0) (f 10) (f 11) (f 12) (f 13) (f 14) (f 15),[]⟩ _;unfold Oy ptr;gi_wp2;exact⟨rfl,rfl,⟨_,Ea rfl zF⟩,Ac.refl _ _⟩
theorem cf8 (c:n_) (a b:Nat):(uq prog 6).wpIn NF m prog (Ends λd w'=>(∃g,d=TN 128 (A8 g [(1,c),(6,ptr a),(8,ptr b)]))/\Ac No w w') ⟨TN 128 (A8 f [(1,c),(6,ptr a),(7,b_ 0),(8,ptr b),(9,b_ 0)]),[]⟩ w:=by
 unfold uq;rw[LJ];dsimp only[Tryz.f7,Option.getD,behind,piece];show Code.wpIn (Fence.list LF none) m prog _ _ ⟨Oy f (f 0) (c) (f 2) (f 5) (ptr a) (b_ 0) (ptr b) (b_ 0) (f 10) (f 11) (f 12) (f 13) (f 14) (f 15),[]⟩ _;unfold Oy ptr;gi_wp2;exact⟨rfl,rfl,⟨_,Ea rfl zF⟩,Ac.refl _ _⟩
theorem cf7 (K L:KS) (b:∀m,O_ m 24 #[Q_ K.kb,Q_ L.kb] w λe w'=>e=.returned (.bool true)/\Ac No w w'):(uX prog 8).wpIn NF m prog (WM λc w'=>(∃g,c=TN 128 (A8 g [(4,.bool true)]))/\Ac No w w') ⟨TN 128 (A8 f [(6,ptr K.kb),(8,ptr L.kb)]),[]⟩ w:=by
 unfold uX;rw[LJ];dsimp only[Tryz.f7,Option.getD,behind,piece];show Code.wpIn (Fence.list LF none) m prog _ _ ⟨Oy f (f 0) (f 1) (f 2) (f 5) (ptr K.kb) (f 7) (ptr L.kb) (f 9) (f 10) (f 11) (f 12) (f 13) (f 14) (f 15),[]⟩ _;unfold Oy ptr;gi_wp2_with (gi_at_call 24;refine(b _).mono ?_;rintro e w1 ⟨rfl,a⟩);exact⟨rfl,rfl,⟨_,Ea rfl zF⟩,a⟩
theorem by4 (b kb:n_) (s:d_ f_) (n c i:Nat):(u10 prog).wpIn NF m prog (Ends λd w'=>(∃g,d=TN 128 (A8 g [(1,.slice s n c),(6,b),(8,kb),(10,b_ i),(59,.bool (decide (i<n)))]))/\Ac No w w') ⟨TN 128 (A8 f [(1,.slice s n c),(6,b),(8,kb),(10,b_ i)]),[]⟩ w:=by
 unfold u10 uL uq;rw[LJ];dsimp only[Tryz.f7,Option.getD,behind,piece];show Code.wpIn (Fence.list LF none) m prog _ _ ⟨Oy f (f 0) (.slice s n c) (f 2) (f 5) (b) (f 7) (kb) (f 9) (b_ i) (f 11) (f 12) (f 13) (f 14) (f 15),[]⟩ _;unfold Oy;by_cases h:i<n
 .have a:(i:Int)<n:=zD
  gi_wp2;exact⟨rfl,rfl,⟨_,Ea rfl (by simp[h])⟩,Ac.refl _ _⟩
 .have a:¬(i:Int)<n:=zD
  gi_wp2;exact⟨rfl,rfl,⟨_,Ea rfl zF⟩,Ac.refl _ _⟩
theorem by3 (a b kb:n_) (i:Nat) (d:i<9223372036854775807):(u11 prog).wpIn NF m prog (Ends λc w'=>(∃g,c=TN 128 (A8 g [(1,a),(6,b),(8,kb),(10,b_ (i+1:Nat))]))/\Ac No w w') ⟨TN 128 (A8 f [(1,a),(6,b),(8,kb),(10,b_ i)]),[]⟩ w:=by
 unfold u11 uL uq;rw[LJ];dsimp only[Tryz.f7,Option.getD,behind,piece];show Code.wpIn (Fence.list LF none) m prog _ _ ⟨Oy f (f 0) (a) (f 2) (f 5) (b) (f 7) (kb) (f 9) (b_ i) (f 11) (f 12) (f 13) (f 14) (f 15),[]⟩ _;unfold Oy;gi_wp2;exact⟨rfl,rfl,⟨_,Ea rfl zF⟩,Ac.refl _ _⟩
theorem by2 (j kb:n_) (b o n c i:Nat) (kd pid k:Int) (p:i<n) (h:Lp w b o i kd pid k):(u12 prog).wpIn NF m prog (Ends λl w'=>(∃g,l=TN 128 (A8 g [(1,.slice (some (S_ b o)) n c),(6,j),(8,kb),(10,b_ i),(11,ptr w.heap.size)]))/\Ac No w w'/\w'.heap[w.heap.size]?=some (N_ #[b_ kd,b_ pid,b_ k] 38)) ⟨TN 128 (A8 f [(1,.slice (some (S_ b o)) n c),(6,j),(8,kb),(10,b_ i)]),[]⟩ w:=by
 obtain⟨_,a,d,c2⟩:=h;have e:(i:Int)<n:=zD
 unfold u12 uI uB uL uq;rw[LJ];dsimp only[Tryz.f7,Option.getD,behind,piece];show Code.wpIn (Fence.list LF none) m prog _ _ ⟨Oy f (f 0) (.slice (some (S_ b o)) n c) (f 2) (f 5) (j) (f 7) (kb) (f 9) (b_ i) (f 11) (f 12) (f 13) (f 14) (f 15),[]⟩ _;unfold Oy;gi_wp2;exact⟨rfl,rfl,⟨_,Ea rfl (by simp[ptr])⟩,(Ac.refl _ _).alloc _,Y7 rfl⟩
theorem by1 (h j kb i:n_) (sb r:Nat) (kd:Int) (l:-9223372036854775808<=kd) (n:kd<=9223372036854775807) (k:Qk kd 4=r) (p:r<2) (c0:w.cell? (R_ sb)=some (b_ kd)):(u13 prog).wpIn NF m prog (Ends λo w'=>(∃g,o=TN 128 (A8 g [(1,h),(6,j),(8,kb),(10,i),(11,ptr sb)]))/\Ac No w w') ⟨TN 128 (A8 f [(1,h),(6,j),(8,kb),(10,i),(11,ptr sb)]),[]⟩ w:=by
 have a:=λm=>eY m w kd 4 r l n zD zD k
 clear k;unfold u13 uI uB uL uq;rw[LJ];dsimp only[Tryz.f7,Option.getD,behind,piece];show Code.wpIn (Fence.list LF none) m prog _ _ ⟨Oy f (f 0) (h) (f 2) (f 5) (j) (f 7) (kb) (f 9) (i) (ptr sb) (f 12) (f 13) (f 14) (f 15),[]⟩ _;unfold Oy ptr;have c:((r:Int)==2)=false:=by simp;omega
 have d:((r:Int)==3)=false:=by simp;omega
 gi_wp2_with (gi_at_call 16;refine(a _).mono ?_;rintro e w1 ⟨rfl,b⟩;have b:=b.symm;subst b);exact⟨rfl,rfl,⟨_,Ea rfl zF⟩,Ac.refl _ _⟩
def bx2 (K L:KS) (C':Nat) (GX iv:n_) (w:o_) (tm:X_) (w':o_):Prop:=∃g L',tm=TN 128 (A8 g [(1,GX),(6,ptr K.kb),(8,ptr L.kb),(10,iv)])/\AV L' w'/\BR L L'/\BU C' (0,0) L'/\BN L.T L'.T w w'
theorem bx7 (K L:KS) (C' A:Nat) (b o n c i:Nat) (kd pid y:Int) (B:i<n) (h:Lp w b o i kd pid y) (kb:AV L w) (ol:Eo C' A L) (z:Qk kd 4=2):(uB prog).wpIn NF m prog (Ends (bx2 K L C' (.slice (some (S_ b o)) n c) (b_ i) w)) ⟨TN 128 (A8 f [(1,.slice (some (S_ b o)) n c),(6,ptr K.kb),(8,ptr L.kb),(10,b_ i)]),[]⟩ w:=by
 have x:=ol.len;obtain⟨⟨a,_⟩,t,l,c2⟩:=h;have v:(i:Int)<n:=zD
 unfold uB uL uq;rw[LJ];dsimp only[Tryz.f7,Option.getD,behind,piece];show Code.wpIn (Fence.list LF none) m prog _ _ ⟨Oy f (f 0) (.slice (some (S_ b o)) n c) (f 2) (f 5) (ptr K.kb) (f 7) (ptr L.kb) (f 9) (b_ i) (f 11) (f 12) (f 13) (f 14) (f 15),[]⟩ _;unfold Oy ptr;have j:Ac No w (w.alloc (.cells #[b_ kd,b_ pid,b_ y] 38)):=(Ac.refl _ _).alloc _;have k:(w.alloc (.cells #[b_ kd,b_ pid,b_ y] 38)).heap[w.heap.size]?=some (N_ #[b_ kd,b_ pid,b_ y] 38):=Y7 rfl;have u:(w.alloc (.cells #[b_ kd,b_ pid,b_ y] 38)).cell? (R_ w.heap.size)=some (b_ kd):=bce k rfl;have d1:(w.alloc (.cells #[b_ kd,b_ pid,b_ y] 38)).cell? (S_ w.heap.size 1)=some (b_ pid):=bce k rfl;have d:=λm=>eY m (w.alloc (.cells #[b_ kd,b_ pid,b_ y] 38)) kd 4 2 a.1 a.2 zD zD z
 have r:=λm=>bz5 m (w.alloc (.cells #[b_ kd,b_ pid,b_ y] 38)) L C' pid (kb.no j) ol.th ol.nd ol.co zD
 clear z;gi_wp2_with (first|(gi_at_call 16;refine(d _).mono ?_;rintro e w1 ⟨rfl,g⟩;have g:=g.symm;subst g)|(gi_at_call 17;refine(r _).mono ?_;rintro e w3 ⟨s,rfl,p,k1,m1,l,q,_⟩));exact⟨rfl,rfl,_,p,Ea rfl (by simp[ptr]),k1,m1,l,(BN.no j kb.lt).trans q⟩
theorem bx6 (K L:KS) (C' A:Nat) (b o n c i:Nat) (kd pid y:Int) (B:i<n) (h:Lp w b o i kd pid y) (kb:AV L w) (ol:Eo C' A L) (z:Qk kd 4=3):(uB prog).wpIn NF m prog (Ends (bx2 K L C' (.slice (some (S_ b o)) n c) (b_ i) w)) ⟨TN 128 (A8 f [(1,.slice (some (S_ b o)) n c),(6,ptr K.kb),(8,ptr L.kb),(10,b_ i)]),[]⟩ w:=by
 have x:=ol.len;obtain⟨⟨a,_⟩,t,l,c2⟩:=h;have v:(i:Int)<n:=zD
 unfold uB uL uq;rw[LJ];dsimp only[Tryz.f7,Option.getD,behind,piece];show Code.wpIn (Fence.list LF none) m prog _ _ ⟨Oy f (f 0) (.slice (some (S_ b o)) n c) (f 2) (f 5) (ptr K.kb) (f 7) (ptr L.kb) (f 9) (b_ i) (f 11) (f 12) (f 13) (f 14) (f 15),[]⟩ _;unfold Oy ptr;have j:Ac No w (w.alloc (.cells #[b_ kd,b_ pid,b_ y] 38)):=(Ac.refl _ _).alloc _;have k:(w.alloc (.cells #[b_ kd,b_ pid,b_ y] 38)).heap[w.heap.size]?=some (N_ #[b_ kd,b_ pid,b_ y] 38):=Y7 rfl;have u:(w.alloc (.cells #[b_ kd,b_ pid,b_ y] 38)).cell? (R_ w.heap.size)=some (b_ kd):=bce k rfl;have d1:(w.alloc (.cells #[b_ kd,b_ pid,b_ y] 38)).cell? (S_ w.heap.size 1)=some (b_ pid):=bce k rfl;have d:=λm=>eY m (w.alloc (.cells #[b_ kd,b_ pid,b_ y] 38)) kd 4 3 a.1 a.2 zD zD z
 have r:=λm=>ck0 m (w.alloc (.cells #[b_ kd,b_ pid,b_ y] 38)) L C' pid (kb.no j) ol.th ol.nd ol.co zD
 clear z;gi_wp2_with (first|(gi_at_call 16;refine(d _).mono ?_;rintro e w1 ⟨rfl,g⟩;have g:=g.symm;subst g)|(gi_at_call 18;refine(r _).mono ?_;rintro e w3 ⟨s,rfl,p,k1,m1,l,q,_⟩));exact⟨rfl,rfl,_,p,Ea rfl (by simp[ptr]),k1,m1,l,(BN.no j kb.lt).trans q⟩
theorem by0 (A C kb B D E:n_) (e:Int) (l:List Ev) (F:EvI w D l) (G:EvI w E l) (I:l.length<=2000):(u20 prog).wpIn NF m prog (Ends λH w'=>(∃g,H=TN 128 (A8 g [(1,A),(6,C),(8,kb),(10,B)]))/\Ac No w w') ⟨TN 128 (A8 f [(1,A),(6,C),(8,kb),(10,B),(12,D),(13,b_ e),(14,E),(15,b_ e)]),[]⟩ w:=by
 obtain⟨t,s,rfl,d⟩:=F;obtain⟨u,c2,rfl,h⟩:=G;unfold u20 uV uY uI uB uL uq;rw[LJ];dsimp only[Tryz.f7,Option.getD,behind,piece];show Code.wpIn (Fence.list LF none) m prog _ _ ⟨Oy f (f 0) (A) (f 2) (f 5) (C) (f 7) (kb) (f 9) (B) (f 11) (.slice t l.length s) (b_ e) (.slice u l.length c2) (b_ e),[]⟩ _;unfold Oy;gi_wp2;gi_loopw [16] (λi wr=>∃k:Nat,k<=l.length/\i=b_ k/\Ac No w wr) (λi _=>l.length-(intOf i).toNat)
 case atStart=>exact⟨0,Nat.zero_le _,rfl,Ac.refl _ _⟩
 case round=>
  obtain⟨k,z,rfl,a⟩:=hrel
  by_cases r:k<l.length
  .have j:l[k]?=some l[k]:=IG r;generalize l[k]=x at j;obtain⟨v,rfl,b⟩:=d zD;obtain⟨y,rfl,c⟩:=h zD;obtain⟨n,p2,p3,p4⟩:=b k x j;obtain⟨q1,o,p,q⟩:=c k x j;have n:=a.has n;have p2:=a.has p2;have p3:=a.has p3;have p4:=a.has p4;have q1:=a.has q1;have o:=a.has o;have p:=a.has p;have q:=a.has q;clear d h b c;gi_wp2;gi_region
   all_goals gi_wp2
   all_goals go_roundw
   all_goals first|exact⟨k+1,zD,by go_num,a.drew⟩|(simp[intOf];omega)
  .gi_wp2;exact⟨rfl,rfl,⟨_,Ea rfl zF⟩,a⟩
end
end Go.Fxa
namespace Go.Fxa
open Go.Conc Go.Proofs Go.RowKit Go.ChangeShapes
variable {W:o_} {r n fuel k:Nat} {v:n_} {s:d_ f_}
def aa4:Obj->Bool
 |.view ..=>true
 |o=>!o.plain
def Odd (W:o_) (r:Nat):Prop:=∃o,W.heap[r]?=some o/\aa4 o=true
abbrev ac9 (W:o_):Old:=⟨Odd W,λr=>(W.heap[r]?).getD DL⟩
section
def Gu (W:o_):o_:={ W with heap:=W.heap.map λo=>if aa4 o then DL else o }
theorem MG (W:o_):(Gu W).heap.size=W.heap.size:=by simp[Gu]
theorem Wh (h:Odd W r):(Gu W).heap[r]?=some DL:=by
 obtain⟨o,a,b⟩:=h;simp[Gu,a,b]
theorem MH (h:¬Odd W r):(Gu W).heap[r]?=W.heap[r]?:=by
 cases e:W.heap[r]? with
 |none=>simp[Gu,e]
 |some o=>
  have a:aa4 o=false:=by
   cases h3:aa4 o with
   |false=>rfl
   |true=>exact(h ⟨o,e,h3⟩).elim
  simp[Gu,e,a]
theorem uD (W:o_):au (ac9 W) (λ_=>False) (Gu W) W:=by
 refine⟨MG W,λr _ a=>MH a,λ_ h=>h.elim,λr o a=>?_,rfl,rfl,λr a=>Wh a,λr a=>?_,λ_ _ h=>h⟩
 .by_cases h:Odd W r
  .rw[Wh h]at a;cases a
   rfl
  .rw[MH h]at a;cases e:o.plain with
   |true=>rfl
   |false=>exact(h ⟨o,a,by cases o<;>first|rfl|simp[aa4,e]⟩).elim
 .obtain⟨o,b,_⟩:=a;show W.heap[r]?=some ((W.heap[r]?).getD DL);rw[b]
  rfl
theorem NK {a:f_} {x:n_} (h:W.cell? a=some x):(Gu W).cell? a=some x:=by
 have ne:¬Odd W a.block:=by
  rintro⟨o,b,d⟩
  unfold World.cell? at h
  rw[b]at h
  cases o with
  |cells c t f=>cases d
  |_=>cases h
 unfold World.cell? at h ⊢;rw[MH ne];exact h
theorem am1 {v' w':o_} {Z:Nat->Prop} (T:au (ac9 W) Z v' w') (K:Ac No (Gu W) v'):∀r,r<W.heap.size->w'.heap[r]?=W.heap[r]?:=λr a=>by
 by_cases h:Odd W r
 .have e:=T.kept r h;obtain⟨o,b,_⟩:=h;rw[e];show some ((W.heap[r]?).getD DL)=W.heap[r]?;rw[b]
  rfl
 .have e1:v'.heap[r]?=W.heap[r]?:=(K.block r (by rw[MG];exact a) id).trans (MH h);have d:¬Z r:=λc=>by
   have e2:=T.dead r c (Nat.lt_of_lt_of_le a (by have:=K.size;rw[MG]at this;exact this))
   exact h ⟨DL,e1.symm.trans e2,rfl⟩
  exact(T.same r d h).symm.trans e1
end
def aJ (W:o_) (x:n_) (w':o_):Prop:=x=.bool true/\(∀r,r<W.heap.size->w'.heap[r]?=W.heap[r]?)/\W.heap.size<=w'.heap.size/\w'.os=W.os/\w'.output=W.output
theorem ay1 (W:o_) {F:h_} {args:X_} {E:Frame×Z_->Prop} (M:∀y,E y->∀w,stepG prog true (BJ y) w=.ended (.done (.bool true)) w #[]) (L:eP (ac9 W) prog (Frame.enter prog F args .normal,[]) (Gu W) fun y v'=>E y/\Ac No (Gu W) v'):
  ∃N last x w' J,runNT prog (N+1) (solo (G (Frame.enter prog F args .normal) []) W) #[]=(.ended x w',J)/\
   runN prog N (solo (G (Frame.enter prog F args .normal) []) W)=.next last/\step prog last=.ended x w'/\Conc.Good prog (aJ W) last x w' J:=by
 obtain⟨N,j,w',g,J,f,A,i,c,y,v',I,⟨q,T,H,m,o,C⟩,l,p,K⟩:=L (λ_=>False) (λ_=>False) W.heap.size #[BJ (Frame.enter prog F args .normal,[])] W none #[] ⟨λ_ h=>h.elim,λ_ h=>h.elim⟩
  ⟨λ_=>0,uD W,λ_ h=>h.elim,leavers_one _ _,past_nil.mono (Nat.zero_le _),w_ _⟩ rfl;have b:∀d,aJ W (.bool true) (w'.at d):=λd=>⟨rfl,(show ∀r,r<W.heap.size->w'.heap[r]?=W.heap[r]? from am1 T K),by
  have a:=K.size
  rw[MG,T.size]at a
  exact a,T.os.symm.trans K.os,T.output.symm.trans K.output⟩
 obtain⟨k,last,x,w2,z,s,t,u,v⟩:=beside_ends (P:=prog) (Shun:=i) (B:=c) (D:=λ_ _ _=>False) (Post:=aJ W) (λ_ _ _ h=>h.elim) (sl:=g) (n:=0) l m o (show ∀w1,AtRel w' w1->Conc.AtEnd prog i c (aJ W) _ w1 from λw1 ⟨d,e⟩=>by
  subst e
  exact⟨rfl,_,_,M y p _,zF,b d⟩);refine⟨N+k,last,x,w2,z,?_,?_,u,v⟩
 .rw[solo_eq_crowd,Nat.add_assoc,runNT_add];erw [f];exact s
 .rw[solo_eq_crowd,runN_add];have e:runN prog N (crowd #[BJ (Frame.enter prog F args .normal,[])] W none)=.next (crowd j w' g):=by rw[<-runNT_fst _ _ _ #[],f]
  erw [e];exact t
theorem YP {f:Nat->Int} (h:qg W v n f):qg (Gu W) v n f:=⟨h.1,λd=>let ⟨h1,s,c,e,h2⟩:=h.2 d;⟨h1,s,c,e,λg=>let ⟨b,o,e',h3⟩:=h2 g;⟨b,o,e',λi a=>NK (h3 i a)⟩⟩⟩
theorem ni {g:Nat} {f:Nat->n_×Nat×(Nat->Int)} (h:TU W v g f):TU (Gu W) v g f:=let ⟨s,c,e,h2⟩:=h;⟨s,c,e,λd=>let ⟨b,o,e',h3⟩:=h2 d;⟨b,o,e',λi a=>⟨NK (h3 i a).1,YP (h3 i a).2⟩⟩⟩
theorem uF {b o i:Nat} (h:∃kd pid a,Lp W b o i kd pid a):∃kd pid a,Lp (Gu W) b o i kd pid a:=let ⟨kd,pid,a,h1,h2,h3,h4⟩:=h;⟨kd,pid,a,h1,NK h2,NK h3,NK h4⟩
theorem Vh:prog.cellsOf 3=1:=sJ
theorem zu:prog.cellsOf 22=1:=sJ
theorem cells23:prog.cellsOf 23=1:=sJ
theorem cells25:prog.cellsOf 25=4:=sJ
theorem cells38:prog.cellsOf 38=3:=sJ
section
variable {H:Type} {enc:j_×n_->H} {W:o_} {sp:Nat->Bool}
theorem Yj {t e:j_} (d:prog.underlying t=some (.slice e)) {c:n_} {x:DataW H×List MemPlace} (h:DataW.trod enc prog W 0 sp true fuel t [c]=some x):∃s n k,c=.slice s n k:=by
 obtain⟨b,_⟩|⟨a,len,cap,_,_,_,_,b,_⟩:=DataW.trod_slice d h
 .cases b;exact⟨none,0,0,rfl⟩
 .cases b;exact⟨some a,len,cap,rfl⟩
theorem bH {x:DataW H×List MemPlace} (u:∀r,sp r=true) (h:DataW.trod enc prog W 0 sp true fuel 22 [.slice s n k]=some x):∃fn,qg W (.slice s n k) n fn:=by
 obtain⟨b,_⟩|⟨a,len,cap,o,b,_,l,_,m,_,c,_⟩:=open_ints underlying22 underlying3 Vh h
 .cases b;exact⟨λ_=>0,⟨_,_,rfl⟩,λ_=>⟨zD,none,0,rfl,λh=>ql h zD⟩⟩
 .cases b;rw[u,rC rfl]at m;refine⟨λi=>o.getD i 0,⟨_,_,rfl⟩,λq=>⟨zD,some a,k,rfl,λt=>?_⟩⟩;have j:=c 0 zD;have e:a.spot=none:=by simpa [Addr.add]using World.cell?_spot j
  obtain⟨d,f,g⟩:=a;simp only at e;subst e;exact⟨d,f,rfl,λi p=>by have:=c i zD;rw[Addr.add_lit]at this;exact this⟩
theorem vk {x:DataW H×List MemPlace} (L:∀r,sp r=true) (h:DataW.trod enc prog W 0 sp true fuel 23 [.slice s n k]=some x):∃M,TU W (.slice s n k) n M:=by
 obtain⟨p,_⟩|⟨a,len,cap,o,C,m,_,p,K,_,_,_,A,c,_⟩:=DataW.trod_slice underlying23 h
 .cases p;exact⟨λ_=>(.slice none 0 0,0,λ_=>0),_,_,rfl,λh=>ql h zD⟩
 .cases p;rw[zu]at c;have j:0<n->a.spot=none:=λv=>by
   have e:=c 0 v
   rw[IG zD]at e
   obtain⟨w,t,_⟩:=Option.bind_eq_some_iff.1 e
   obtain⟨_,z,u⟩:=World.cells?_some t
   have f:=u 0 zD
   rw[IG zD]at f
   simpa [Addr.add]using World.cell?_spot f
  have b:∀i,i<n->∃q:n_×Nat×(Nat->Int),W.cell? (S_ a.block (a.off+i))=some q.1/\qg W q.1 q.2.1 q.2.2/\a.spot=none:=λi d=>by
   have e:=c i d
   rw[IG zD]at e
   obtain⟨w,t,y⟩:=Option.bind_eq_some_iff.1 e
   obtain⟨_,z,u⟩:=World.cells?_some t
   match w,z with
   |[J],_=>
    obtain⟨I,B,G,rfl⟩:=Yj underlying22 y
    obtain⟨fn,F⟩:=bH L y
    have f:=u 0 zD
    have g:a.spot=none:=j zD
    obtain⟨D,E,l⟩:=a
    simp only at g
    subst g
    rw[Addr.add_lit,Addr.add_lit]at f
    exact⟨(.slice I B G,B,fn),by simpa using f,F,rfl⟩
  refine⟨λi=>if d:i<n then Classical.choose (b i d)else(.slice none 0 0,0,λ_=>0),some a,k,rfl,λv=>⟨a.block,a.off,?_,λi d=>?_⟩⟩
  .obtain⟨_,_,_,e⟩:=b 0 v;obtain⟨D,E,l⟩:=a;simp only at e;rw[e]
  .simp only[dif_pos d];exact⟨(Classical.choose_spec (b i d)).1,(Classical.choose_spec (b i d)).2.1⟩
theorem nV {c0 c1 c2 c3:n_} {x:DataW H×List MemPlace} (w:∀r,sp r=true) (h:DataW.trod enc prog W 0 sp true fuel 25 [c0,c1,c2,c3]=some x):
  ∃co sw sp C A z B D fn y,c0=b_ co/\c1=b_ sw/\c2=.slice sp A B/\c3=.slice C z D/\qg W (.slice sp A B) A fn/\TU W (.slice C z D) z y:=by
 obtain⟨xs,m,rfl,rfl,_,i,a⟩:=DataW.trod_struct underlying25 h;have b:xs.length=4:=i
 match xs,b with
 |[t,u,v,y3],_=>
  have p:DataW.trod enc prog W 0 sp true m 3 [c0]=some t:=by simpa [Vh]using a 0 _ rfl
  have q:DataW.trod enc prog W 0 sp true m 3 [c1]=some u:=by simpa [Vh]using a 1 _ rfl
  have c:DataW.trod enc prog W 0 sp true m 22 [c2]=some v:=by simpa [zu]using a 2 _ rfl
  have d:DataW.trod enc prog W 0 sp true m 23 [c3]=some y3:=by simpa [cells23]using a 3 _ rfl
  obtain⟨co,e,_⟩:=DataW.trod_int underlying3 p
  obtain⟨sw,e1,_⟩:=DataW.trod_int underlying3 q
  obtain⟨s,n,k,rfl⟩:=Yj underlying22 c
  obtain⟨o,l,j,rfl⟩:=Yj underlying23 d
  cases e
  cases e1
  obtain⟨fn,g⟩:=bH w c
  obtain⟨y,f⟩:=vk w d
  exact⟨co,sw,s,o,n,l,k,j,fn,y,rfl,rfl,rfl,rfl,g,f⟩
theorem vg {x:DataW H×List MemPlace} (h:DataW.trod enc prog W 0 sp true fuel 31 [v]=some x):
  ∃t k d b o,v=.slice t k d/\k<9223372036854775808/\(0<k->t=some (S_ b o))/\∀i,i<k->∃kd pid nn,Lp W b o i kd pid nn:=by
 obtain⟨B,_⟩|⟨a,len,cap,A,M,n,_,B,Z,_,P,D,L,l,_⟩:=DataW.trod_slice underlying31 h
 .cases B;exact⟨none,0,0,0,0,rfl,zD,λh=>ql h zD,λi p=>ql p zD⟩
 .cases B;rw[cells38]at l;have c:∀i,i<len->∃g y,W.cells? 0 (a.add (i*3)) 3=some g/\DataW.trod enc prog W 0 sp true n 38 g=some y:=λi p=>by
   have e:=l i p
   rw[IG zD]at e
   obtain⟨g,j,s⟩:=Option.bind_eq_some_iff.1 e
   exact⟨g,_,j,s⟩
  have f:0<len->a.spot=none:=λG=>by
   obtain⟨g,y,j,s⟩:=c 0 G
   obtain⟨_,u,C⟩:=World.cells?_some j
   have r:=C 0 zD
   rw[IG zD]at r
   have e1:=World.cell?_spot r
   simpa [Addr.add]using e1
  refine⟨some a,len,cap,a.block,a.off,rfl,by unfold maxLen at D;omega,λG=>?_,λi p=>?_⟩
  .have e:=f G;obtain⟨J,K,w⟩:=a;simp only at e;rw[e]
  .obtain⟨g,y,j,s⟩:=c i p;obtain⟨_,u,C⟩:=World.cells?_some j;have e:=f zD;obtain⟨J,K,w⟩:=a;simp only at e;subst e
   match g,u with
   |[N,O,c2],_=>
    obtain⟨xs,m,rfl,rfl,_,u,E⟩:=DataW.trod_struct underlying38 s
    have F:xs.length=3:=u
    match xs,F with
    |[V,X,Y],_=>
     have R:DataW.trod enc prog W 0 sp true m 3 [N]=some V:=by simpa [Vh]using E 0 _ rfl
     have S:DataW.trod enc prog W 0 sp true m 3 [O]=some X:=by simpa [Vh]using E 1 _ rfl
     have T:DataW.trod enc prog W 0 sp true m 3 [c2]=some Y:=by simpa [Vh]using E 2 _ rfl
     obtain⟨kd,r,_,I⟩:=DataW.trod_int underlying3 R
     obtain⟨pid,e1,_⟩:=DataW.trod_int underlying3 S
     obtain⟨nn,e2,_,z⟩:=DataW.trod_int underlying3 T
     cases r
     cases e1
     cases e2
     have wr:(IntKind.i64).min<=kd/\kd<=(IntKind.i64).max:=by simpa [Lit.wf]using I
     have U:(IntKind.i64).min<=nn/\nn<=(IntKind.i64).max:=by simpa [Lit.wf]using z
     have mn:(IntKind.i64).min=-9223372036854775808:=wB
     have mx:(IntKind.i64).max=9223372036854775807:=wB
     have go:∀q,q<3->W.cell? (S_ J (K+i*3+q))=([b_ kd,b_ pid,b_ nn]:U_)[q]?:=λq Q=>by
      have:=C q Q
      rw[Addr.add_lit,Addr.add_lit]at this
      exact this
     exact⟨kd,pid,nn,zD,go 0 zD,go 1 zD,go 2 zD⟩
end
end Go.Fxa
namespace Go.Fxa
open Go.Conc Go.Proofs Go.RowKit
set_option maxRecDepth 1000000
set_option maxHeartbeats 0
section
variable {Od:Old} {v0:o_} {cs:Z_} {R:Frame×Z_->o_->Prop} {s sp fa:d_ f_} {b o n c C M C' M' np cp nf fc:Nat}
theorem iE {i:Nat} {K L:KS} {g:Nat->n_} {v:o_} (l:n<9223372036854775808) (k:i<n) (next:∀(f:Y_) (K L:KS) (v:o_),dL false C M C' M' v0 K L v->eP Od prog (Fr 7 128 f [(1,.slice s n c),(6,ptr K.kb),(8,ptr L.kb),(10,b_ (i+1:Nat))] (.code (uL prog)::uE) cs) v R) (h:dL false C M C' M' v0 K L v):eP Od prog (Fr 7 128 g [(1,.slice s n c),(6,ptr K.kb),(8,ptr L.kb),(10,b_ (i:Nat))] (.code (u11 prog)::uE) cs) v R:=by
 refine eP.part (m:=0) pG rfl aw5 (λv1 _=>by3 0 v1 _ _ _ _ i zD) λv1 j v2 a ⟨⟨d,e⟩,b⟩=>?_
 subst e;exact eP.told (uLg _ _ _ _ _ _) λg=>next g K L v2 (h.no (a.then b))
theorem UN (hn:n<9223372036854775808) (hs:0<n->s=some (S_ b o)) (Cc:∀i,i<n->∃kd pid nn,Lp v0 b o i kd pid nn)
  (hk:∀v' g todo,Ac No v0 v'->eP Od prog (Frame.mk 7 (TN 128 (A8 g [(4,.bool true)])) todo [] .returning .normal none,cs) v' R) {i:Nat} {f:Nat->n_} {K L:KS} {v:o_} (h:dL false C M C' M' v0 K L v) (next:i<n->∀(f:Y_) (K L:KS) (v:o_),dL false C M C' M' v0 K L v->eP Od prog (Fr 7 128 f [(1,.slice s n c),(6,ptr K.kb),(8,ptr L.kb),(10,b_ (i+1:Nat))] (.code (uL prog)::uE) cs) v R):eP Od prog (Fr 7 128 f [(1,.slice s n c),(6,ptr K.kb),(8,ptr L.kb),(10,b_ (i:Nat))] (.code (uL prog)::uE) cs) v R:=by
 refine eP.told (uLb _ _ _ _ _ _) λg=>?_
 refine eP.part (m:=0) pG rfl aw6 (λv1 _=>by4 0 v1 _ _ _ s n c i) λv1 r v2 P ⟨⟨g2,e⟩,Q⟩=>?_
 subst e;have d:=h.no (P.then Q);by_cases j:i<n
 .obtain rfl:=hs zD;rw[decide_eq_true j];refine eP.told (uLc _ _ _ _ _ _) λX=>?_
  obtain⟨kd,pid,nn,I⟩:=Cc i j;have k:=I.no d.k0;have after:=λ(K L:KS) (g:Y_) (v:o_) (h:dL false C M C' M' v0 K L v)=>iE (g:=g) hn j (next j) h
  have Z:Qk kd 4<4:=lu kd zD;by_cases q2:Qk kd 4=2
  .refine eP.part (m:=0) pG rfl af6 (λv1 a=>bx7 0 v1 _ K L C' M' b o n c i kd pid nn j (k.no a) (d.two.kb.no a) d.two.ol q2) λv3 r v4 a ⟨p,B,e,J,x,c4,D⟩=>?_
   subst e;rw[<-x.kb];exact after K B p v4 ((d.no a).aa6 J x c4 D)
  by_cases q3:Qk kd 4=3
  .refine eP.part (m:=0) pG rfl af6 (λv1 a=>bx6 0 v1 _ K L C' M' b o n c i kd pid nn j (k.no a) (d.two.kb.no a) d.two.ol q3) λv3 r v4 a ⟨p,B,e,J,x,c4,D⟩=>?_
   subst e;rw[<-x.kb];exact after K B p v4 ((d.no a).aa6 J x c4 D)
  refine eP.told (uLd _ _ _ _ _ _) λp=>?_
  rw[bo2];refine eP.seq (eP.part (m:=0) pG rfl aw4 (λv1 a=>by2 0 v1 _ _ _ b o n c i kd pid nn j (k.no a)) λv3 r v4 a ⟨⟨g5,e⟩,z,u⟩=>?_);subst e;refine eP.seq (eP.part (m:=0) pG rfl aw3 (λv1 A=>by1 0 v1 _ _ _ _ _ v3.heap.size _ kd I.1.1.1 I.1.1.2 rfl zD (bce (A.old u id) rfl)) λv5 r v6 A ⟨⟨g6,e⟩,S⟩=>?_);subst e;have O:=A.then S;have l:=O.old u id;have q:=d.no ((a.then z).then O);have tb:K.T v3.heap.size=(0,0):=d.two.ka.lt _ a.size;refine eP.asks (uPa _ _ _ _ _ _ _ _ _) (bce l rfl) (bce l rfl) ?_;refine Vz (NC:=C) (NS:=M) q.two.ka q.two.ok (λ_ _ _ _ _ _=>serves) λt1 e1 v7 K1' G t=>?_
  refine eP.told (uPb _ _ _ _ _ _ _ _ _ _ _) λg7=>?_
  have w:=t.mv.old l tb;refine eP.asks (uRa _ _ _ _ _ _ _ _ _ _ _) (bce w rfl) (bce w rfl) ?_;refine Vz (NC:=C') (NS:=M') (q.two.kb.other t.mv q.two.dj) q.two.ol (λ_ _ _ _ _ _=>serves) λt2 e2 v8 U V N=>?_
  obtain⟨Y,E,F,i1,i2⟩:=q.pick t N;subst E F;refine eP.told (uRb _ _ _ _ _ _ _ _ _ _ _ _ _) λg8=>?_
  refine eP.part (m:=0) pG rfl aw2 (λv1 y=>by0 0 v1 _ _ _ _ _ _ _ _ G (i1.no y) (i2.no y) t.len) λv9 r v10 y ⟨⟨W,e⟩,K10⟩=>?_
  subst e;refine eP.told (uLf _ _ _ _ _ _) λH=>?_
  rw[<-t.kb,<-N.kb];exact after K1' U H v10 (Y.no (y.then K10))
 .rw[decide_eq_false j];refine eP.told (uLe _ _ _ _ _ _) λX=>?_
  refine eP.zS (m:=0) pG rfl aw1 (λv1 a=>cf7 0 v1 _ K L λm=>(d.two.no a).world m v1) λv3 r todo v4 a ⟨⟨p,e⟩,z⟩=>?_
  subst e;exact hk v4 p todo ((d.no a).k0.then z)
theorem mG (m:n<9223372036854775808) (p:0<n->s=some (S_ b o)) (k:∀i,i<n->∃kd pid q,Lp v0 b o i kd pid q)
  (l:∀v' g todo,Ac No v0 v'->eP Od prog (Frame.mk 7 (TN 128 (A8 g [(4,.bool true)])) todo [] .returning .normal none,cs) v' R) (d:Nat):∀(i:Nat) (f:Y_) (K L:KS) (v:o_),n-i=d->dL false C M C' M' v0 K L v->eP Od prog (Fr 7 128 f [(1,.slice s n c),(6,ptr K.kb),(8,ptr L.kb),(10,b_ (i:Nat))] (.code (uL prog)::uE) cs) v R:=by
 induction d with
 |zero=>exact λi f K L v e h=>UN m p k l h λh=>ql h zD
 |succ d j=>exact λi f K L v e h=>UN m p k l h λ_ f K L v a=>j (i+1) f K L v zD a
theorem mJ {core swap:Int} {fn:Nat->Int} {ff:Nat->n_×Nat×(Nat->Int)} (hP:qg v0 (.slice sp np cp) np fn) (hF:TU v0 (.slice fa nf fc) nf ff) (hn:n<9223372036854775808) (hs:0<n->s=some (S_ b o)) (Cc:∀i,i<n->∃kd pid nn,Lp v0 b o i kd pid nn)
  (hk:∀v' g todo,Ac No v0 v'->eP Od prog (Frame.mk 7 (TN 128 (A8 g [(4,.bool true)])) todo [] .returning .normal none,cs) v' R):eP Od prog (Frame.enter prog 7 #[.agg #[b_ core,b_ swap,.slice sp np cp,.slice fa nf fc],.slice s n c] .normal,cs) v0 R:=by
 refine eP.told (uA _ _ _) λg=>?_
 refine eP.part (m:=0) pG rfl av9 (λv1 _=>cg3 0 v1 _ core swap _ _ _) λv1 l v2 y ⟨⟨g2,e⟩,J,E⟩=>?_
 subst e;refine eP.enters (uBe _ _ _ _) (wX λv3 N=>?_);refine eP.told (uBf _ _ _ _) λg3=>?_
 rw[XP 2 zD];refine eP.seq (eP.part (m:=0) pG rfl av8 (λv1 _=>cg2 0 v1 _ _ _) λv4 l v5 O ⟨⟨g5,e⟩,P⟩=>?_);subst e;have j:=N.then (O.then P);have x:=(y.then J).then j;have G:=j.old E id;rw[XP 3 zD];refine eP.seq (eP.part (m:=0) pG rfl av7 (λv1 f=>cg1 0 v1 _ core swap _ sp fa cp fc _ np nf fn ff (hP.kp (x.then f)) (hF.kp (x.then f)) (f.old G id)) λv6 l v7 f ⟨z,g7,kv,ev,e,U⟩=>?_);subst e;have F:=x.then f;have W:=F.then z;have x7:=(f.then z).old G id;have H:v1.heap.size<v6.heap.size:=by have:=Dt E;have:=j.size;have:=f.size;omega
 rw[XP 4 zD];refine eP.seq (eP.part (m:=0) pG rfl av6 (λv1 t=>cg0 0 v1 _ core swap _ _ _ sp fa cp fc _ np nf (t.old x7 id)) λv8 l Z t ⟨⟨g9,e⟩,A,I,q1,Y,x9⟩=>?_);subst e;have u:Ac No v0 Z:=(W.then t).trans A (λk hk e=>ql (show k=v1.heap.size from e) (by have:=y.size;omega));have w:=(U.no t).keep A (λk e=>by rw[show k=v1.heap.size from e];exact H);rw[XP 5 zD];refine eP.seq (eP.part (m:=0) pG rfl av5 (λv1 K10=>cf9 0 v1 _ I swap _ _ _ sp fa cp fc _ np nf fn ff (hP.kp (u.then K10)) (hF.kp (u.then K10)) (K10.old x9 id)) λv10 l v11 K10 ⟨K11,S,X,Q,e,D⟩=>?_);subst e;rw[XP 6 zD];have q:=(u.then K10).then K11;obtain⟨rfl,rfl,p⟩|⟨K,rfl,rfl,B⟩:=w.no K10
 .obtain⟨rfl,rfl,_⟩|⟨L,rfl,rfl,_⟩:=D
  .refine eP.seq (eP.zS (m:=0) pG rfl gm (λv1 _=>bx8 0 v1 _ _) λr l todo a K12 ⟨⟨d,e⟩,K13⟩=>?_);subst e;exact hk a d todo (q.then (K12.then K13))
  .refine eP.seq (eP.zS (m:=0) pG rfl gm (λv1 _=>bx9 0 v1 _ _ _) λr l todo a K12 ⟨⟨d,e⟩,K13⟩=>?_);subst e;exact hk a d todo (q.then (K12.then K13))
 .obtain⟨rfl,rfl,p⟩|⟨L,rfl,rfl,T⟩:=D
  .exact(B.no p q1 Y).elim
  .obtain⟨C,M,C',M',V⟩:=B.two (c:=false) F.size (u.then K10) K11 T (λh=>by cases h);refine eP.seq (eP.part (m:=0) pG rfl gm (λv1 _=>cf8 0 v1 _ _ _ _) λr l a K12 ⟨⟨d,e⟩,K13⟩=>?_);subst e;exact eP.told (uLa _ _ _ _ _) λv=>mG hn hs Cc hk n 0 v K L a zD (V.no (K12.then K13))
end
end Go.Fxa
