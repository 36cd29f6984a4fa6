/- Halved: its piec -/
import Derived.Test.YtmhplpfpcnjekaaGreatA41
import Derived.Test.YtmhplpfpcnjekaaGreatA48
namespace Go.Fxa
open Conc Proofs RowKit Proofs.Tryz
set_option maxRecDepth 1000000
set_option maxHeartbeats 0
variable {p:Int}
def sl9 (f:Y_)(s0 s1 s2 s3 s7 s8 s9 s10 s11 s12 s13 s14 s17 s18 s19 s20 s21 s22 s23 s24 s25:n_):X_:=#[s0,s1,s2,s3,f 4,f 5,f 6,s7,s8,s9,s10,s11,s12,s13,s14,f 15,f 16,s17,s18,s19,s20,s21,s22,s23,s24,s25,f 26,f 27,f 28,f 29,f 30,f 31,f 32,f 33,f 34,f 35,f 36,f 37,f 38,f 39,f 40,f 41,f 42,f 43,f 44,f 45,f 46,f 47,f 48,f 49,f 50,f 51,f 52,f 53,f 54,f 55,f 56,f 57,f 58,f 59,f 60,f 61,f 62,f 63,f 64,f 65,f 66,f 67,f 68,f 69,f 70,f 71,f 72,f 73,f 74,f 75,f 76,f 77,f 78,f 79,f 80,f 81,f 82,f 83,f 84,f 85,f 86,f 87,f 88,f 89,f 90,f 91,f 92,f 93,f 94,f 95,f 96,f 97,f 98,f 99,f 100,f 101,f 102,f 103,f 104,f 105,f 106,f 107,f 108,f 109,f 110,f 111,f 112,f 113,f 114,f 115,f 116,f 117,f 118,f 119,f 120,f 121,f 122,f 123,f 124,f 125,f 126,f 127,f 128,f 129,f 130,f 131,f 132,f 133,f 134,f 135,f 136,f 137,f 138,f 139,f 140,f 141,f 142,f 143,f 144,f 145,f 146,f 147,f 148,f 149,f 150,f 151,f 152,f 153,f 154,f 155,f 156,f 157,f 158,f 159,f 160,f 161,f 162,f 163,f 164,f 165,f 166,f 167,f 168]
section
variable (m:Nat)(w:o_)(f:Y_)
theorem cx5 (core swap:Int)(v c:n_)(a b:n_):(hq prog 0).wpIn NF m prog (Ends λd w'=>(∃g,d=TN 169 (AQ g [(1,a),(2,b),(3,ptr w.heap.size)]))/\Aa No w w'/\w'.heap[w.heap.size]?=some (N_ #[b_ core,b_ swap,v,c] 25)) ⟨TN 169 (AQ f [(0,.agg #[b_ core,b_ swap,v,c]),(1,a),(2,b)]),[]⟩ w:=by
 unfold hq;rw[body9];dsimp only[Tryz.f9,Option.getD,behind,piece];show Code.wpIn (Fence.list LF none) m prog _ _ ⟨sl9 f (.agg #[b_ core,b_ swap,v,c]) (a) (b) (f 3) (f 7) (f 8) (f 9) (f 10) (f 11) (f 12) (f 13) (f 14) (f 17) (f 18) (f 19) (f 20) (f 21) (f 22) (f 23) (f 24) (f 25),[]⟩ _;unfold sl9;gi_wp2;exact⟨rfl,rfl,⟨_,BH rfl (by simp[ptr])⟩,(Aa.refl _ _).alloc _,Yw rfl⟩
theorem cx4 (a c:n_)(b:n_):(hq prog 2).wpIn NF m prog (Ends λd w'=>(∃g,d=TN 169 (AQ g [(1,a),(2,c),(3,b)]))/\Aa No w w') ⟨TN 169 (AQ f [(1,a),(2,c),(3,b),(7,.bool true)]),[]⟩ w:=by
 unfold hq;rw[body9];dsimp only[Tryz.f9,Option.getD,behind,piece];show Code.wpIn (Fence.list LF none) m prog _ _ ⟨sl9 f (f 0) (a) (c) (b) (.bool true) (f 8) (f 9) (f 10) (f 11) (f 12) (f 13) (f 14) (f 17) (f 18) (f 19) (f 20) (f 21) (f 22) (f 23) (f 24) (f 25),[]⟩ _;unfold sl9;gi_wp2;exact⟨rfl,rfl,⟨_,BH rfl sJ⟩,Aa.refl _ _⟩
theorem cx1 (core swap:Int)(o q:n_)(s r:d_ f_)(c t:Nat)(X n j:Nat)(fn:Nat->Int)(u:Nat->n_×Nat×(Nat->Int))(x:aJ w (.slice s n c) n fn)(v:Pg w (.slice r j t) j u)(hX:WS X core swap s r n c j t w):(hq prog 3).wpIn NF m prog (Ends λy w'=>Aa No w w'/\∃g l k,y=TN 169 (AQ g [(1,o),(2,q),(3,ptr X),(8,l),(9,k)])/\VN core swap n j fn u w l k w') ⟨TN 169 (AQ f [(1,o),(2,q),(3,ptr X)]),[]⟩ w:=by
 have b:=λm=>(Yq m w core swap _ _ n j fn u x v).mono λe w1 d=>d.cut
 have h:w.cell? (R_ X)=some (b_ core):=bce hX rfl;have i:w.cell? (S_ X 1)=some (b_ swap):=bce hX rfl;have c2:w.cell? (S_ X 2)=some (.slice s n c):=bce hX rfl;have c3:w.cell? (S_ X 3)=some (.slice r j t):=bce hX rfl;unfold hq;rw[body9];dsimp only[Tryz.f9,Option.getD,behind,piece];show Code.wpIn (Fence.list LF none) m prog _ _ ⟨sl9 f (f 0) (o) (q) (ptr X) (f 7) (f 8) (f 9) (f 10) (f 11) (f 12) (f 13) (f 14) (f 17) (f 18) (f 19) (f 20) (f 21) (f 22) (f 23) (f 24) (f 25),[]⟩ _;unfold sl9 ptr;gi_wp2_with (gi_at_call 14;refine(b _).mono ?_;rintro e w1 ⟨a,l,k,rfl,hN⟩);exact⟨rfl,rfl,a,_,l,k,BH rfl sJ,hN⟩
theorem cx0 (core swap:Int)(o q:n_)(x r:n_)(s t:d_ f_)(c u:Nat)(X n l:Nat)(fn:Nat->Int)(v:Nat->n_×Nat×(Nat->Int))(z:aJ w (.slice s n c) n fn)(y:Pg w (.slice t l u) l v)(hX:WS X core swap s t n c l u w):(hq prog 4).wpIn NF m prog (Ends λA w'=>Aa No w w'/\∃g k j,A=TN 169 (AQ g [(1,o),(2,q),(8,x),(9,r),(10,k),(11,j)])/\VN core swap n l fn v w k j w') ⟨TN 169 (AQ f [(1,o),(2,q),(3,ptr X),(8,x),(9,r)]),[]⟩ w:=by
 have b:=λm=>(Yq m w core swap _ _ n l fn v z y).mono λe w1 d=>d.cut
 have h:w.cell? (R_ X)=some (b_ core):=bce hX rfl;have i:w.cell? (S_ X 1)=some (b_ swap):=bce hX rfl;have c2:w.cell? (S_ X 2)=some (.slice s n c):=bce hX rfl;have c3:w.cell? (S_ X 3)=some (.slice t l u):=bce hX rfl;unfold hq;rw[body9];dsimp only[Tryz.f9,Option.getD,behind,piece];show Code.wpIn (Fence.list LF none) m prog _ _ ⟨sl9 f (f 0) (o) (q) (ptr X) (f 7) (x) (r) (f 10) (f 11) (f 12) (f 13) (f 14) (f 17) (f 18) (f 19) (f 20) (f 21) (f 22) (f 23) (f 24) (f 25),[]⟩ _;unfold sl9 ptr;gi_wp2_with (gi_at_call 14;refine(b _).mono ?_;rintro e w1 ⟨a,k,j,rfl,hN⟩);exact⟨rfl,rfl,a,_,k,j,BH rfl sJ,hN⟩
theorem cm6 (a b:n_):(hq prog 5).wpIn NF m prog (SX λc w'=>(∃g,c=TN 169 (AQ g [(6,.bool true)]))/\Aa No w w') ⟨TN 169 (AQ f [(1,a),(2,b),(8,.pointer none),(9,b_ 1),(10,.pointer none),(11,b_ 1)]),[]⟩ w:=by
 unfold hq;rw[body9];dsimp only[Tryz.f9,Option.getD,behind,piece];show Code.wpIn (Fence.list LF none) m prog _ _ ⟨sl9 f (f 0) (a) (b) (f 3) (f 7) (.pointer none) (b_ 1) (.pointer none) (b_ 1) (f 12) (f 13) (f 14) (f 17) (f 18) (f 19) (f 20) (f 21) (f 22) (f 23) (f 24) (f 25),[]⟩ _;unfold sl9;gi_wp2;exact⟨rfl,rfl,⟨_,BH rfl sJ⟩,Aa.refl _ _⟩
theorem cw9 (c d:n_)(a b:Nat):(hq prog 5).wpIn NF m prog (Ends λe w'=>(∃g,e=TN 169 (AQ g [(1,c),(2,d),(8,ptr a),(10,ptr b)]))/\Aa No w w') ⟨TN 169 (AQ f [(1,c),(2,d),(8,ptr a),(9,b_ 0),(10,ptr b),(11,b_ 0)]),[]⟩ w:=by
 unfold hq;rw[body9];dsimp only[Tryz.f9,Option.getD,behind,piece];show Code.wpIn (Fence.list LF none) m prog _ _ ⟨sl9 f (f 0) (c) (d) (f 3) (f 7) (ptr a) (b_ 0) (ptr b) (b_ 0) (f 12) (f 13) (f 14) (f 17) (f 18) (f 19) (f 20) (f 21) (f 22) (f 23) (f 24) (f 25),[]⟩ _;unfold sl9 ptr;gi_wp2;exact⟨rfl,rfl,⟨_,BH rfl sJ⟩,Aa.refl _ _⟩
theorem cw8 (K L:KS)(c:∀m,O_ m 24 #[Q_ K.kb,Q_ L.kb] w λe w'=>e=.returned (.bool true)/\Aa No w w')(d:∀m w1,Aa No w w1->O_ m 28 #[Q_ K.kb,Q_ L.kb] w1 λe w'=>e=.returned (.bool true)/\Aa No w1 w'):(hX prog 7).wpIn NF m prog (SX λh w'=>(∃g,h=TN 169 (AQ g [(6,.bool true)]))/\Aa No w w') ⟨TN 169 (AQ f [(8,ptr K.kb),(10,ptr L.kb)]),[]⟩ w:=by
 unfold hX;rw[body9];dsimp only[Tryz.f9,Option.getD,behind,piece];show Code.wpIn (Fence.list LF none) m prog _ _ ⟨sl9 f (f 0) (f 1) (f 2) (f 3) (f 7) (ptr K.kb) (f 9) (ptr L.kb) (f 11) (f 12) (f 13) (f 14) (f 17) (f 18) (f 19) (f 20) (f 21) (f 22) (f 23) (f 24) (f 25),[]⟩ _;unfold sl9 ptr;gi_wp2_with (first|(gi_at_call 24;refine(c _).mono ?_;rintro e w1 ⟨rfl,a⟩)|(gi_at_call 28;refine(d _ _ a).mono ?_;rintro e w2 ⟨rfl,b⟩));exact⟨rfl,rfl,⟨_,BH rfl sJ⟩,a.then b⟩
theorem cw6 (b d kb:n_)(s:d_ f_)(n c i:Nat):(hH prog).wpIn NF m prog (Ends λe w'=>(∃g,e=TN 169 (AQ g [(1,.slice s n c),(2,b),(8,d),(10,kb),(12,b_ i),(65,.bool (decide (i<n)))]))/\Aa No w w') ⟨TN 169 (AQ f [(1,.slice s n c),(2,b),(8,d),(10,kb),(12,b_ i)]),[]⟩ w:=by
 unfold hH hL hq;rw[body9];dsimp only[Tryz.f9,Option.getD,behind,piece];show Code.wpIn (Fence.list LF none) m prog _ _ ⟨sl9 f (f 0) (.slice s n c) (b) (f 3) (f 7) (d) (f 9) (kb) (f 11) (b_ i) (f 13) (f 14) (f 17) (f 18) (f 19) (f 20) (f 21) (f 22) (f 23) (f 24) (f 25),[]⟩ _;unfold sl9;by_cases h:i<n
 .have a:(i:Int)<n:=wB
  gi_wp2;exact⟨rfl,rfl,⟨_,BH rfl (by simp[h])⟩,Aa.refl _ _⟩
 .have a:¬(i:Int)<n:=wB
  gi_wp2;exact⟨rfl,rfl,⟨_,BH rfl sJ⟩,Aa.refl _ _⟩
theorem cw5 (a b:n_)(c kb:n_)(i:Nat)(hi:i<9223372036854775807):(hN prog).wpIn NF m prog (Ends λd w'=>(∃g,d=TN 169 (AQ g [(1,a),(2,b),(8,c),(10,kb),(12,b_ (i+1:Nat))]))/\Aa No w w') ⟨TN 169 (AQ f [(1,a),(2,b),(8,c),(10,kb),(12,b_ i)]),[]⟩ w:=by
 unfold hN hL hq;rw[body9];dsimp only[Tryz.f9,Option.getD,behind,piece];show Code.wpIn (Fence.list LF none) m prog _ _ ⟨sl9 f (f 0) (a) (b) (f 3) (f 7) (c) (f 9) (kb) (f 11) (b_ i) (f 13) (f 14) (f 17) (f 18) (f 19) (f 20) (f 21) (f 22) (f 23) (f 24) (f 25),[]⟩ _;unfold sl9;gi_wp2;exact⟨rfl,rfl,⟨_,BH rfl sJ⟩,Aa.refl _ _⟩
theorem cm5 (j k kb:n_)(b o n c i:Nat)(kd pid l:Int)(r:i<n)(h:FB w b o i kd pid l):(hi prog 0).wpIn NF m prog (Ends λq w'=>(∃g,q=TN 169 (AQ g [(1,.slice (some (S_ b o)) n c),(2,j),(8,k),(10,kb),(12,b_ i),(13,ptr w.heap.size)]))/\Aa No w w'/\w'.heap[w.heap.size]?=some (N_ #[b_ kd,b_ pid,b_ l] 38)) ⟨TN 169 (AQ f [(1,.slice (some (S_ b o)) n c),(2,j),(8,k),(10,kb),(12,b_ i)]),[]⟩ w:=by
 obtain⟨_,a,d,c2⟩:=h;have e:(i:Int)<n:=wB
 unfold hi hI hB hL hq;rw[body9];dsimp only[Tryz.f9,Option.getD,behind,piece];show Code.wpIn (Fence.list LF none) m prog _ _ ⟨sl9 f (f 0) (.slice (some (S_ b o)) n c) (j) (f 3) (f 7) (k) (f 9) (kb) (f 11) (b_ i) (f 13) (f 14) (f 17) (f 18) (f 19) (f 20) (f 21) (f 22) (f 23) (f 24) (f 25),[]⟩ _;unfold sl9;gi_wp2;exact⟨rfl,rfl,⟨_,BH rfl (by simp[ptr])⟩,(Aa.refl _ _).alloc _,Yw rfl⟩
theorem cm4 (h i k kb j:n_)(sb r:Nat)(kd pid n:Int)(d:w.heap[sb]?=some (N_ #[b_ kd,b_ pid,b_ n] 38))(o:-9223372036854775808<=kd)(q:kd<=9223372036854775807)(l:Gw kd 4=r):(hi prog 1).wpIn NF m prog (Ends λs w'=>(∃g,s=TN 169 (AQ g [(1,h),(2,i),(8,k),(10,kb),(12,j),(13,ptr sb),(14,b_ r)]))/\Aa No w w') ⟨TN 169 (AQ f [(1,h),(2,i),(8,k),(10,kb),(12,j),(13,ptr sb)]),[]⟩ w:=by
 have c:w.cell? (R_ sb)=some (b_ kd):=bce d rfl;have d1:w.cell? (S_ sb 1)=some (b_ pid):=bce d rfl;have d2:w.cell? (S_ sb 2)=some (b_ n):=bce d rfl;have a:=λm=>NI m w kd 4 r o q wB wB l
 clear l;unfold hi hI hB hL hq;rw[body9];dsimp only[Tryz.f9,Option.getD,behind,piece];show Code.wpIn (Fence.list LF none) m prog _ _ ⟨sl9 f (f 0) (h) (i) (f 3) (f 7) (k) (f 9) (kb) (f 11) (j) (ptr sb) (f 14) (f 17) (f 18) (f 19) (f 20) (f 21) (f 22) (f 23) (f 24) (f 25),[]⟩ _;unfold sl9 ptr;gi_wp2_with (gi_at_call 16;refine(a _).mono ?_;rintro e w1 ⟨rfl,b⟩;have b:=b.symm;subst b);exact⟨rfl,rfl,⟨_,BH rfl sJ⟩,Aa.refl _ _⟩
theorem cm3 (c d h kb e:n_)(sb r:Nat)(j:r<2):(hi prog 2).wpIn NF m prog (Ends λi w'=>(∃g,i=TN 169 (AQ g [(1,c),(2,d),(8,h),(10,kb),(12,e),(13,ptr sb)]))/\Aa No w w') ⟨TN 169 (AQ f [(1,c),(2,d),(8,h),(10,kb),(12,e),(13,ptr sb),(14,b_ r)]),[]⟩ w:=by
 unfold hi hI hB hL hq;rw[body9];dsimp only[Tryz.f9,Option.getD,behind,piece];show Code.wpIn (Fence.list LF none) m prog _ _ ⟨sl9 f (f 0) (c) (d) (f 3) (f 7) (h) (f 9) (kb) (f 11) (e) (ptr sb) (b_ r) (f 17) (f 18) (f 19) (f 20) (f 21) (f 22) (f 23) (f 24) (f 25),[]⟩ _;unfold sl9 ptr;have a:((r:Int)==2)=false:=by simp;omega
 have b:((r:Int)==3)=false:=by simp;omega
 gi_wp2;exact⟨rfl,rfl,⟨_,BH rfl sJ⟩,Aa.refl _ _⟩
theorem cm2 (i j l kb k:n_)(sb r:Nat)(kd pid h:Int)(d:w.heap[sb]?=some (N_ #[b_ kd,b_ pid,b_ h] 38))(o:-9223372036854775808<=h)(q:h<=9223372036854775807)(n:Gw h 60=r)(t:r<60):(hi prog 3).wpIn NF m prog (Ends λs w'=>(∃g,s=TN 169 (AQ g [(1,i),(2,j),(8,l),(10,kb),(12,k),(13,ptr sb),(17,b_ (2+r:Nat))]))/\Aa No w w') ⟨TN 169 (AQ f [(1,i),(2,j),(8,l),(10,kb),(12,k),(13,ptr sb)]),[]⟩ w:=by
 have c:w.cell? (R_ sb)=some (b_ kd):=bce d rfl;have d1:w.cell? (S_ sb 1)=some (b_ pid):=bce d rfl;have d2:w.cell? (S_ sb 2)=some (b_ h):=bce d rfl;have a:=λm=>NI m w h 60 r o q wB wB n
 clear n;unfold hi hI hB hL hq;rw[body9];dsimp only[Tryz.f9,Option.getD,behind,piece];show Code.wpIn (Fence.list LF none) m prog _ _ ⟨sl9 f (f 0) (i) (j) (f 3) (f 7) (l) (f 9) (kb) (f 11) (k) (ptr sb) (f 14) (f 17) (f 18) (f 19) (f 20) (f 21) (f 22) (f 23) (f 24) (f 25),[]⟩ _;unfold sl9 ptr;gi_wp2_with (gi_at_call 16;refine(a _).mono ?_;rintro e w1 ⟨rfl,b⟩;have b:=b.symm;subst b);exact⟨rfl,rfl,⟨_,BH rfl sJ⟩,Aa.refl _ _⟩
theorem cm1 (d h kb:n_)(cut:Int)(i sb r:Nat)(k:r<60):(hi prog 4).wpIn NF m prog (Ends λj w'=>∃g,∃q:Nat,q<1+r/\j=TN 169 (AQ g [(1,d),(2,b_ cut),(8,h),(10,kb),(12,b_ i),(13,ptr sb),(17,b_ (2+r:Nat)),(18,b_ (1+q:Nat))])/\Aa No w w') ⟨TN 169 (AQ f [(1,d),(2,b_ cut),(8,h),(10,kb),(12,b_ i),(13,ptr sb),(17,b_ (2+r:Nat))]),[]⟩ w:=by
 have b:=NP (wrap64 (cut+i)) (n:=1+r) wB;have a:=λm=>NI m w (wrap64 (cut+i)) (1+r) _ (by unfold wrap64;omega) (by unfold wrap64;omega) wB wB rfl
 generalize Gw (wrap64 (cut+i)) (1+r)=q at b a;rw[show((1+r:Nat):Int)=2+(r:Int)-1 by omega]at a;unfold hi hI hB hL hq;rw[body9];dsimp only[Tryz.f9,Option.getD,behind,piece];show Code.wpIn (Fence.list LF none) m prog _ _ ⟨sl9 f (f 0) (d) (b_ cut) (f 3) (f 7) (h) (f 9) (kb) (f 11) (b_ i) (ptr sb) (f 14) (b_ (2+r:Nat)) (f 18) (f 19) (f 20) (f 21) (f 22) (f 23) (f 24) (f 25),[]⟩ _;unfold sl9 ptr;gi_wp2_with (gi_at_call 16;refine(a _).mono ?_;rintro e w1 ⟨rfl,c⟩;have c:=c.symm;subst c);exact⟨rfl,rfl,_,q,b,BH rfl sJ,Aa.refl _ _⟩
def dc8 (K L:KS)(C M C' M':Nat)(BF cu iv:n_)(w:o_)(tm:X_)(w':o_):Prop:=∃g K' L',tm=TN 169 (AQ g [(1,BF),(2,cu),(8,ptr K.kb),(10,ptr L.kb),(12,iv)])/\Both true C M C' M' K L w K' L' w'
theorem cw7 (K L:KS)(C M C' E r:Nat)(A:n_)(b o n c i:Nat)(kd pid z:Int)(G:i<n)(h:FB w b o i kd pid z)(B:Two true C M C' E K L w)(F:Gw kd 4=r)(D:r=2\/r=3):(hB prog).wpIn NF m prog (Ends (dc8 K L C M C' E (.slice (some (S_ b o)) n c) A (b_ i) w)) ⟨TN 169 (AQ f [(1,.slice (some (S_ b o)) n c),(2,A),(8,ptr K.kb),(10,ptr L.kb),(12,b_ i)]),[]⟩ w:=by
 obtain⟨⟨a,s⟩,t,u,c2⟩:=h;have y:(i:Int)<n:=wB
 unfold hB hL hq;rw[body9];dsimp only[Tryz.f9,Option.getD,behind,piece];show Code.wpIn (Fence.list LF none) m prog _ _ ⟨sl9 f (f 0) (.slice (some (S_ b o)) n c) (A) (f 3) (f 7) (ptr K.kb) (f 9) (ptr L.kb) (f 11) (b_ i) (f 13) (f 14) (f 17) (f 18) (f 19) (f 20) (f 21) (f 22) (f 23) (f 24) (f 25),[]⟩ _;unfold sl9 ptr;have k:Aa No w (w.alloc (.cells #[b_ kd,b_ pid,b_ z] 38)):=(Aa.refl _ _).alloc _;have g:(w.alloc (.cells #[b_ kd,b_ pid,b_ z] 38)).heap[w.heap.size]?=some (N_ #[b_ kd,b_ pid,b_ z] 38):=Yw rfl;have v:(w.alloc (.cells #[b_ kd,b_ pid,b_ z] 38)).cell? (R_ w.heap.size)=some (b_ kd):=bce g rfl;have d1:(w.alloc (.cells #[b_ kd,b_ pid,b_ z] 38)).cell? (S_ w.heap.size 1)=some (b_ pid):=bce g rfl;have d:=λm=>NI m (w.alloc (.cells #[b_ kd,b_ pid,b_ z] 38)) kd 4 r a.1 a.2 wB wB F
 have l:=λm=>Α m (w.alloc (.cells #[b_ kd,b_ pid,b_ z] 38)) K L pid r (B.no k)
 clear F g;obtain rfl|rfl:=D
 all_goals gi_wp2_with (first
  |(gi_at_call 16;refine(d _).mono ?_;rintro e w2 ⟨rfl,j⟩;have j:=j.symm;subst j;clear d)
  |(gi_at_call 26;refine(l _).mono ?_;rintro e w3 ⟨x,p,q,rfl,hB⟩;clear l))
 all_goals exact⟨rfl,rfl,_,p,q,BH rfl (by simp[ptr]),hB.from k⟩
theorem cm0 (u v z y B A D e1 E e2:n_)(L:KS)(sb:Nat)(kd pid F:Int)(t:w.heap[sb]?=some (N_ #[b_ kd,b_ pid,b_ F] 38))(C ef:Int)(G:∀m,O_ m 20 #[Q_ L.kb,b_ pid] w λe w2=>Aa No w w2/\∃a b c d f g a7 n7 c7 a8 n8 c8,e=.returned (.tuple #[.agg (Jq a b C c d f g (.slice a7 n7 c7) (.slice a8 n8 c8)),b_ ef])):(hi prog 7).wpIn NF m prog (Ends λH w'=>Aa No w w'/\∃g lb,H=TN 169 (AQ g [(1,u),(2,v),(8,z),(10,ptr L.kb),(12,y),(13,ptr sb),(17,B),(18,A),(19,D),(20,e1),(21,E),(22,e2),(23,ptr lb),(24,b_ ef)])/\w'.cell? (S_ lb 2)=some (b_ C)) ⟨TN 169 (AQ f [(1,u),(2,v),(8,z),(10,ptr L.kb),(12,y),(13,ptr sb),(17,B),(18,A),(19,D),(20,e1),(21,E),(22,e2)]),[]⟩ w:=by
 have r:w.cell? (R_ sb)=some (b_ kd):=bce t rfl;have d1:w.cell? (S_ sb 1)=some (b_ pid):=bce t rfl;have d2:w.cell? (S_ sb 2)=some (b_ F):=bce t rfl;unfold hi hI hB hL hq;rw[body9];dsimp only[Tryz.f9,Option.getD,behind,piece];show Code.wpIn (Fence.list LF none) m prog _ _ ⟨sl9 f (f 0) (u) (v) (f 3) (f 7) (z) (f 9) (ptr L.kb) (f 11) (y) (ptr sb) (f 14) (B) (A) (D) (e1) (E) (e2) (f 23) (f 24) (f 25),[]⟩ _;unfold sl9 ptr;gi_wp2_with (first|(gi_at_call 20;refine(G _).mono ?_;rintro e w1 ⟨i,a1,a2,l,n,o,p,a7,n7,c7,a8,n8,c8,rfl⟩;obtain⟨w3,h,j,q⟩:=EK (w:=w1.alloc (.cells Ez 48)) (rb:=w1.heap.size) (a:=a1) (b:=a2) (c:=C) (d:=l) (e:=n) (f:=o) (g:=p) (n7:=n7) (c7:=c7) (n8:=n8) (c8:=c8) (a7:=a7) (a8:=a8) (Yw rfl);have k:Aa No w1 w3:=((Aa.refl No w1).alloc (.cells Ez 48)).trans j (λx s e=>qx (show x=w1.heap.size from e) wB))|refine BM rfl (.tmp 23) (.tmp 125) 48 rfl rfl rfl h ?_);exact⟨rfl,rfl,i.then k,_,w1.heap.size,BH rfl sJ,(KT q).2.1⟩
theorem cl9 (a b d kb c h e i e1 j e2 ο ef:n_)(sb:Nat):(hi prog 8).wpIn NF m prog (Ends λk w'=>(∃g,k=TN 169 (AQ g [(1,a),(2,b),(8,d),(10,kb),(12,c),(13,ptr sb),(17,h),(18,e),(19,i),(20,e1),(21,j),(22,e2),(23,ο),(24,ef),(25,.slice none 0 0)]))/\Aa No w w') ⟨TN 169 (AQ f [(1,a),(2,b),(8,d),(10,kb),(12,c),(13,ptr sb),(17,h),(18,e),(19,i),(20,e1),(21,j),(22,e2),(23,ο),(24,ef)]),[]⟩ w:=by
 unfold hi hI hB hL hq;rw[body9];dsimp only[Tryz.f9,Option.getD,behind,piece];show Code.wpIn (Fence.list LF none) m prog _ _ ⟨sl9 f (f 0) (a) (b) (f 3) (f 7) (d) (f 9) (kb) (f 11) (c) (ptr sb) (f 14) (h) (e) (i) (e1) (j) (e2) (ο) (ef) (f 25),[]⟩ _;unfold sl9 ptr;gi_wp2;exact⟨rfl,rfl,⟨_,BH rfl sJ⟩,Aa.refl _ _⟩
theorem bo7 (a b d kb c i h j k ο ef:n_)(e:Int)(sb:Nat):(hi prog 9).wpIn NF m prog (Ends λl w'=>(∃g,l=TN 169 (AQ g [(1,a),(2,b),(8,d),(10,kb),(12,c),(13,ptr sb),(17,i),(18,h),(19,j),(20,b_ e),(21,k),(23,ο),(24,ef),(25,.slice none 0 0)]))/\Aa No w w') ⟨TN 169 (AQ f [(1,a),(2,b),(8,d),(10,kb),(12,c),(13,ptr sb),(17,i),(18,h),(19,j),(20,b_ e),(21,k),(22,b_ e),(23,ο),(24,ef),(25,.slice none 0 0)]),[]⟩ w:=by
 unfold hi hI hB hL hq;rw[body9];dsimp only[Tryz.f9,Option.getD,behind,piece];show Code.wpIn (Fence.list LF none) m prog _ _ ⟨sl9 f (f 0) (a) (b) (f 3) (f 7) (d) (f 9) (kb) (f 11) (c) (ptr sb) (f 14) (i) (h) (j) (b_ e) (k) (b_ e) (ο) (ef) (.slice none 0 0),[]⟩ _;unfold sl9 ptr;gi_wp2;exact⟨rfl,rfl,⟨_,BH rfl sJ⟩,Aa.refl _ _⟩
theorem bx2 (a b d kb c h e i j:n_)(sb lb:Nat)(l:w.cell? (S_ lb 2)=some (b_ 0)):(h25 prog).wpIn NF m prog (Ends λk w'=>(∃g,k=TN 169 (AQ g [(1,a),(2,b),(8,d),(10,kb),(12,c),(13,ptr sb),(17,h),(18,e),(19,i),(21,j),(140,.bool true)]))/\Aa No w w') ⟨TN 169 (AQ f [(1,a),(2,b),(8,d),(10,kb),(12,c),(13,ptr sb),(17,h),(18,e),(19,i),(20,b_ 0),(21,j),(23,ptr lb),(24,b_ 0),(25,.slice none 0 0)]),[]⟩ w:=by
 unfold h25 hi hI hB hL hq;rw[body9];dsimp only[Tryz.f9,Option.getD,behind,piece];show Code.wpIn (Fence.list LF none) m prog _ _ ⟨sl9 f (f 0) (a) (b) (f 3) (f 7) (d) (f 9) (kb) (f 11) (c) (ptr sb) (f 14) (h) (e) (i) (b_ 0) (j) (f 22) (ptr lb) (b_ 0) (.slice none 0 0),[]⟩ _;unfold sl9 ptr;gi_wp2;exact⟨rfl,rfl,⟨_,BH rfl sJ⟩,Aa.refl _ _⟩
theorem bx3 (h i k kb j r q n o:n_)(e ef l:Int)(sb lb:Nat)(t:w.cell? (S_ lb 2)=some (b_ l))(d:¬(e=0/\ef=0/\l=0)):(h25 prog).wpIn NF m prog (Ends λs w'=>(∃g,s=TN 169 (AQ g [(1,h),(2,i),(8,k),(10,kb),(12,j),(19,n),(21,o),(25,.slice none 0 0),(140,.bool false)]))/\Aa No w w') ⟨TN 169 (AQ f [(1,h),(2,i),(8,k),(10,kb),(12,j),(13,ptr sb),(17,r),(18,q),(19,n),(20,b_ e),(21,o),(23,ptr lb),(24,b_ ef),(25,.slice none 0 0)]),[]⟩ w:=by
 unfold h25 hi hI hB hL hq;rw[body9];dsimp only[Tryz.f9,Option.getD,behind,piece];show Code.wpIn (Fence.list LF none) m prog _ _ ⟨sl9 f (f 0) (h) (i) (f 3) (f 7) (k) (f 9) (kb) (f 11) (j) (ptr sb) (f 14) (r) (q) (n) (b_ e) (o) (f 22) (ptr lb) (b_ ef) (.slice none 0 0),[]⟩ _;unfold sl9 ptr;by_cases a:e=0
 .by_cases b:ef=0
  .have c:(l==0)=false:=by simpa using λc=>d ⟨a,b,c⟩
   clear d;subst a b;gi_wp2;exact⟨rfl,rfl,⟨_,BH rfl sJ⟩,Aa.refl _ _⟩
  .have c:(ef==0)=false:=(by simpa using b);clear d b;subst a;gi_wp2;exact⟨rfl,rfl,⟨_,BH rfl sJ⟩,Aa.refl _ _⟩
 .have c:(e==0)=false:=by simpa using a
  clear d a;gi_wp2;exact⟨rfl,rfl,⟨_,BH rfl sJ⟩,Aa.refl _ _⟩
theorem cm7 (a b d kb c e h i:n_):(h27 prog).wpIn NF m prog (Ends λj w'=>(∃g,j=TN 169 (AQ g [(1,a),(2,b),(8,d),(10,kb),(12,c),(19,e),(21,h),(25,i)]))/\Aa No w w') ⟨TN 169 (AQ f [(1,a),(2,b),(8,d),(10,kb),(12,c),(19,e),(21,h),(25,i),(22,b_ 0)]),[]⟩ w:=by
 unfold h27 hCo hi hI hB hL hq;rw[body9];dsimp only[Tryz.f9,Option.getD,behind,piece];show Code.wpIn (Fence.list LF none) m prog _ _ ⟨sl9 f (f 0) (a) (b) (f 3) (f 7) (d) (f 9) (kb) (f 11) (c) (f 13) (f 14) (f 17) (f 18) (e) (f 20) (h) (b_ 0) (f 23) (f 24) (i),[]⟩ _;unfold sl9;gi_wp2;exact⟨rfl,rfl,⟨_,BH rfl sJ⟩,Aa.refl _ _⟩
theorem bw9 (b c h kb d i j k:n_)(l:∀m,O_ m 27 #[i,j,k] w λe w'=>e=.returned (.bool true)/\Aa No w w'):(hb prog 11).wpIn NF m prog (Ends λn w'=>(∃g,n=TN 169 (AQ g [(1,b),(2,c),(8,h),(10,kb),(12,d)]))/\Aa No w w') ⟨TN 169 (AQ f [(1,b),(2,c),(8,h),(10,kb),(12,d),(19,i),(21,j),(25,k)]),[]⟩ w:=by
 unfold hb hI hB hL hq;rw[body9];dsimp only[Tryz.f9,Option.getD,behind,piece];show Code.wpIn (Fence.list LF none) m prog _ _ ⟨sl9 f (f 0) (b) (c) (f 3) (f 7) (h) (f 9) (kb) (f 11) (d) (f 13) (f 14) (f 17) (f 18) (i) (f 20) (j) (f 22) (f 23) (f 24) (k),[]⟩ _;unfold sl9;gi_wp2_with (gi_at_call 27;refine(l _).mono ?_;rintro e w1 ⟨rfl,a⟩);exact⟨rfl,rfl,⟨_,BH rfl sJ⟩,a⟩
end
theorem xJ {NC NS:Nat}(w:o_)(K:KS)(pid:Int)(h:AY K w)(ok:DU NC NS K):∃B ef:Int,(ef=0/\B=0 ↔ YL K pid)/\∀m w1,Aa No w w1->O_ m 20 #[Q_ K.kb,b_ pid] w1 λe w2=>Aa No w1 w2/\∃a b c d f g a7 n7 c7 a8 n8 c8,e=.returned (.tuple #[.agg (Jq a b B c d f g (.slice a7 n7 c7) (.slice a8 n8 c8)),b_ ef]):=by
 by_cases p:∃b r,b∈K.Ar/\K.ps b=some r/\(r.pid:Int)=pid
 .obtain⟨b,r,l,i,rfl⟩:=p;obtain⟨k,y⟩:=List.mem_iff_getElem?.1 l;refine⟨K.BV r,0,⟨λe=>⟨b,r,l,i,rfl,e.2⟩,λ⟨u,A,q1,n,q,z⟩=>?_⟩,λm w1 o=>(QL m w1 NC NS K r.pid (h.no o) ok).mono λe w2 j=>?_⟩
  .obtain rfl:=ok.one u A b r q1 l n i wB;rw[i]at n;cases n;exact⟨rfl,z⟩
  .obtain⟨t,s,a7,n7,c7,a8,n8,c8,rfl,x,_⟩:=UU ok y i j;obtain rfl:s=K.BV r:=x.2.out;exact⟨t,_,_,_,_,_,_,a7,n7,c7,a8,n8,c8,rfl⟩
 .refine⟨0,2,⟨λe=>qx e.1 wB,λ⟨b,r,q1,n,q,_⟩=>qx ⟨b,r,q1,n,q⟩ p⟩,λm w1 o=>(QL m w1 NC NS K pid (h.no o) ok).mono λe w2 j=>⟨j.1,j.2.elim (λ⟨b,r,_,_,_,l,i,v,_⟩=>qx ⟨b,r,l,i,v⟩ p) λj=>⟨0,0,0,0,0,0,none,0,0,none,0,0,j.1⟩⟩⟩
section
variable {c:Bool}{C M C' M':Nat}{v0 v v1 v2 v3 v4:o_}{K L K1 L1 L2:KS}{pid:Int}{n m:Nat}{t1 t2 t3:n_}{e1 e2 e3:Int}{ev1 VL ev3:List Ev}
theorem OM.bo1 (h:OM c C M C' M' v0 K L v)(l:GV C M K pid n v t1 e1 v1 K1 ev1)(o:GV C' M' L pid p v1 t2 e2 v2 L1 VL):(Both c C M C' M' K L v K1 L1 v2 ↔ ∃t q R S,CJ c t q R S K1 L1/\Jo t q R K1 L1)/\aK v2 t1 ev1/\aK v2 t2 VL/\AY K1 v2/\Dj K1 L1/\Aa (λk=>K.T k≠(0,0)\/L.T k≠(0,0)) v v2/\(∀k,k<v.heap.size->K1.T k=K.T k/\L1.T k=L.T k):=by
 have d1:=h.two.dj.GZ h.two.kb l.mv;have f:=l.ka.other o.mv d1.symm;have a:=(d1.symm.GZ l.ka o.mv).symm;have b:Aa (λk=>K.T k≠(0,0)\/L.T k≠(0,0)) v v2:=((Aa.refl _ v).trans (CG.keep l.mv) (λk _ e=>Or.inl e)).trans (CG.keep o.mv) (λk _ e=>Or.inr e);have hT:∀k,k<v.heap.size->K1.T k=K.T k/\L1.T k=L.T k:=λk d=>⟨CG.fresh l.mv k d,CG.fresh o.mv k (Nat.lt_of_lt_of_le d (CG.keep l.mv).size)⟩
 refine⟨⟨λh=>h.1.al,λi=>⟨⟨f,o.ka,l.ok,o.ok,a,i⟩,l.kb,o.kb,b,hT⟩⟩,TS (base:=v.heap.size) ?_,TS o.told.row,f,a,b,hT⟩;exact Qh l.told.row (CG.keep o.mv) λg j e=>e (h.two.kb.lt g (l.told.row.lt g j).1)
theorem OM.cn4 (h:OM c C M C' M' v0 K L v)(i:GV C M K pid n v t1 e1 v1 K1 ev1)(j:GV C' M' L pid p v1 t2 e2 v2 L1 VL)(hX:LW L pid n VL e2 L1):OM c C M C' M' v0 K1 L1 v2/\ev1=VL/\e1=e2/\aK v2 t1 ev1/\aK v2 t2 VL:=by
 obtain⟨t,g,R,S,hI,a⟩:=h.two.al;obtain⟨hN,b,d⟩:=Y9 hI a h.two.ol i.x hX;obtain⟨hB,e,f,_⟩:=h.bo1 i j;exact⟨h.both (hB.2 hN.al),b,d,e,f⟩
theorem OM.cn2 {q:Int}(h:OM c C M C' M' v0 K L v)(z:GV C M K pid n v t1 e1 v1 K1 ev1)(B:GV C' M' L pid p v1 t2 e2 v2 L1 VL)(A:Aa No v2 v3)(y:GV C' M' L1 pid q v3 t3 e3 v4 L2 ev3)(hX:LW L pid n (VL++ev3) 0 L2):OM c C M C' M' v0 K1 L2 v4/\ev1=VL++ev3/\e1=0/\aK v4 t1 ev1/\aK v4 t2 VL/\aK v4 t3 ev3:=by
 obtain⟨t,u,R,S,hI,l⟩:=h.two.al;obtain⟨hN,m,r⟩:=Y9 hI l h.two.ol z.x hX;obtain⟨_,_,_,i,f,k2,hT⟩:=h.bo1 z B;have low:∀{base:Nat} {t:n_} {n:Nat} {xs:U_} {w:o_},w.ownsRow base 59 4 t n xs->(∀g,t.ownBlock=some g->L1.T g=(0,0))->Aa No w v3->v4.ownsRow base 59 4 t n xs:=λo b a=>Qh (Rx o a) (CG.keep y.mv) λg e j=>j (b g e)
 have s:v2.ownsRow v.heap.size 59 4 t1 ev1.length (SS ev1):=Qh z.told.row (CG.keep B.mv) λg b e=>e (h.two.kb.lt g (z.told.row.lt g b).1)
 have d:∀g,t1.ownBlock=some g->L1.T g=(0,0):=λg b=>(CG.fresh B.mv g (z.told.row.lt g b).2).trans (h.two.kb.lt g (z.told.row.lt g b).1)
 refine⟨h.to ⟨(i.no A).other y.mv f.symm,y.ka,z.ok,y.ok,(f.symm.GZ (i.no A) y.mv).symm,hN.al⟩ ?_ λk a=>⟨(hT k a).1,(CG.fresh y.mv k (Nat.lt_of_lt_of_le a (lN k2.size A.size))).trans (hT k a).2⟩,m,r,TS (low s d A),TS (low B.told.row B.told.no A),TS y.told.row⟩;refine((k2.trans A λ_ _ e=>e.elim).trans (CG.keep y.mv) λk a e=>?_);exact .inr (by rw[<-(hT k a).2];exact e)
end
section
variable {Od:Old}{v0:o_}{cs:Z_}{R:Frame×Z_->o_->Prop}{s sp fa:d_ f_}{b o n c C M C' M' np cp nf fc:Nat}{cut:Int}
theorem kU {i:Nat}{K L:KS}{g:Nat->n_}{v:o_}(l:n<9223372036854775808)(k:i<n)(next:∀(f:Y_)(K L:KS)(v:o_),OM true C M C' M' v0 K L v->ag Od prog (Fr 9 169 f [(1,.slice s n c),(2,b_ cut),(8,ptr K.kb),(10,ptr L.kb),(12,b_ (i+1:Nat))] (.code (hL prog)::hE) cs) v R)(h:OM true C M C' M' v0 K L v):ag Od prog (Fr 9 169 g [(1,.slice s n c),(2,b_ cut),(8,ptr K.kb),(10,ptr L.kb),(12,b_ (i:Nat))] (.code (hN prog)::hE) cs) v R:=by
 refine ag.part (m:=0) Yk rfl bx7 (λv1 _=>cw5 0 v1 _ _ _ _ _ i wB) λv1 j v2 a ⟨⟨d,e⟩,b⟩=>?_
 subst e;exact ag.told (hLg _ _ _ _ _ _ _) λg=>next g K L v2 (h.no (a.then b))
theorem VC (hn:n<9223372036854775808)(hs:0<n->s=some (S_ b o))(BX:∀i,i<n->∃kd pid nn,FB v0 b o i kd pid nn)
  (hk:∀v' g todo,Aa No v0 v'->ag Od prog (Frame.mk 9 (TN 169 (AQ g [(6,.bool true)])) todo [] .returning .normal none,cs) v' R) {i:Nat} {f:Nat->n_} {K L:KS} {v:o_} (h:OM true C M C' M' v0 K L v) (next:i<n->∀(f:Y_)(K L:KS)(v:o_),OM true C M C' M' v0 K L v->ag Od prog (Fr 9 169 f [(1,.slice s n c),(2,b_ cut),(8,ptr K.kb),(10,ptr L.kb),(12,b_ (i+1:Nat))] (.code (hL prog)::hE) cs) v R):ag Od prog (Fr 9 169 f [(1,.slice s n c),(2,b_ cut),(8,ptr K.kb),(10,ptr L.kb),(12,b_ (i:Nat))] (.code (hL prog)::hE) cs) v R:=by
 refine ag.told (hLb _ _ _ _ _ _ _) λg=>?_
 refine ag.part (m:=0) Yk rfl bx8 (λv1 _=>cw6 0 v1 _ _ _ _ s n c i) λv1 j v2 K1 ⟨⟨g2,e⟩,K2⟩=>?_
 subst e;have z:=h.no (K1.then K2);by_cases A:i<n
 .obtain rfl:=hs wB;rw[decide_eq_true A];refine ag.told (hLc _ _ _ _ _ _ _) λg3=>?_
  obtain⟨kd,pid,nn,Q⟩:=BX i A;have U:=Q.no z.k0;have after:=λ(K L:KS)(g:Y_)(v:o_)(h:OM true C M C' M' v0 K L v)=>kU (g:=g) hn A (next A) h
  have hr4:Gw kd 4<4:=NP kd wB;by_cases q2:Gw kd 4=2\/Gw kd 4=3
  .refine ag.part (m:=0) Yk rfl bx9 (λv1 d=>cw7 0 v1 _ K L C M C' M' _ _ b o n c i kd pid nn A (U.no d) (z.two.no d) rfl q2) λv3 j v4 d ⟨g4,K',H,e,hB⟩=>?_
   subst e;rw[<-hB.2.1,<-hB.2.2.1];exact after K' H g4 v4 ((z.no d).both hB)
  refine ag.told (hLd _ _ _ _ _ _ _) λg4=>?_
  rw[PZ 0 wB];refine ag.seq (ag.part (m:=0) Yk rfl bj3 (λv1 d=>cm5 0 v1 _ _ _ _ b o n c i kd pid nn A (U.no d)) λv3 j v4 d ⟨⟨g5,e⟩,K4,W⟩=>?_);subst e;have h4:=z.no (d.then K4);rw[PZ 1 wB];refine ag.seq (ag.part (m:=0) Yk rfl bj2 (λv1 K5=>cm4 0 v1 _ _ _ _ _ _ v3.heap.size _ kd pid nn (K5.old W id) Q.1.1.1 Q.1.1.2 rfl) λv5 j v6 K5 ⟨⟨g6,e⟩,K6⟩=>?_);subst e;rw[PZ 2 wB];refine ag.seq (ag.part (m:=0) Yk rfl bj1 (λv1 _=>cm3 0 v1 _ _ _ _ _ _ _ _ wB) λv7 j v8 K7 ⟨⟨g8,e⟩,K8⟩=>?_);subst e;have k8:=(K5.then K6).then (K7.then K8);have Y:=k8.old W id;have F:Gw nn 60<60:=NP nn wB;rw[PZ 3 wB];refine ag.seq (ag.part (m:=0) Yk rfl bj0 (λv1 p=>cm2 0 v1 _ _ _ _ _ _ v3.heap.size _ kd pid nn (p.old Y id) Q.1.2.1 Q.1.2.2 rfl F) λv9 j v10 p ⟨⟨g10,e⟩,K10⟩=>?_);subst e;generalize Gw nn 60=r at F;rw[PZ 4 wB];refine ag.seq (ag.part (m:=0) Yk rfl bi9 (λv1 _=>cm1 0 v1 _ _ _ _ cut i _ r F) λv11 j v12 K11 ⟨g12,q,hq1,e,lI⟩=>?_);subst e;have k12:=(p.then K10).then (K11.then lI);have X:=k12.old Y id;have y:=h4.no (k8.then k12);have tb:K.T v3.heap.size=(0,0):=z.two.ka.lt _ d.size;have tl:L.T v3.heap.size=(0,0):=z.two.kb.lt _ d.size;refine ag.bt6 (σ _ _ _ _ _ _ _ _ _ _ _) (bce X rfl) ?_;refine Jg (NC:=C) (NS:=M) y.two.ka y.two.ok (λ_ _ _ _ _ _=>serves) λt1 e1 v7 K1' ev1 D=>?_
  refine ag.told (hPb _ _ _ _ _ _ _ _ _ _ _ _ _) λg7=>?_
  have E:=D.mv.old X tb;refine ag.bt6 (hRa _ _ _ _ _ _ _ _ _ _ _ _ _) (bce E rfl) ?_;refine Jg (NC:=C') (NS:=M') (y.two.kb.other D.mv y.two.dj) y.two.ol (λ_ _ _ _ _ _=>serves) λt2 e2 v8 B VL k=>?_
  refine ag.told (hRb _ _ _ _ _ _ _ _ _ _ _ _ _ _ _) λg8=>?_
  have Z:=k.mv.old E tl;have tl1:B.T v3.heap.size=(0,0):=(CG.fresh k.mv _ (Dt E)).trans tl;obtain⟨st,ef,P,hLk⟩:=xJ v8 B pid k.ka k.ok;rw[PZ 7 wB,<-k.kb];refine ag.seq (ag.part (m:=0) Yk rfl bi8 (λv1 p=>cm0 0 v1 _ _ _ _ _ _ _ _ _ _ _ B v3.heap.size kd pid nn (p.old Z id) st ef λm=>hLk m v1 p) λv13 j v14 lD ⟨K14,g14,lb,e,hl⟩=>?_);subst e;rw[PZ 8 wB];refine ag.seq (ag.part (m:=0) Yk rfl bi7 (λv1 _=>cl9 0 v1 _ _ _ _ _ _ _ _ _ _ _ _ _ _ _) λv15 j v16 K15 ⟨⟨g16,e⟩,K16⟩=>?_);subst e;have k16:=(lD.then K14).then (K15.then K16);have N:=(K15.then K16).has hl;have done:∀(H:KS)(g:Y_)(v w:o_)(l1 l2:List Ev)(J:n_),OM true C M C' M' v0 K1' H v->H.kb=B.kb->aK v t1 (l1++l2)->aK v t2 l1->aK v J l2->l1.length<=2000->l2.length<=2000->Aa No v w->ag Od prog (Fr 9 169 g [(1,.slice (some (S_ b o)) n c),(2,b_ cut),(8,ptr K.kb),(10,ptr B.kb),(12,b_ (i:Nat)),(19,t1),(21,t2),(25,J)] (.code (hb prog 11)::hT) cs) w R:=λH g v w l1 l2 J V hkb i1 i2 i3 n1 n2 I=>by
   refine ag.part (m:=0) Yk rfl au4 (λv1 p=>bw9 0 v1 _ _ _ _ _ _ _ _ _ λm=>Vw m v1 t1 t2 J l1 l2 (i1.no (I.then p)) (i2.no (I.then p)) (i3.no (I.then p)) wB wB) λv9 j v10 p ⟨⟨g10,e⟩,K10⟩=>?_
   subst e
   refine ag.told (hLf _ _ _ _ _ _ _) λg11=>?_
   rw[<-D.kb,<-hkb]
   exact after K1' H g11 v10 (V.no (I.then (p.then K10)))
  have hle:((2+r:Nat):Int)-((1+q:Nat):Int)=((2+r-(1+q):Nat):Int):=wB
  by_cases l:e2=0/\YL B pid
  .obtain⟨rfl,l⟩:=l;obtain⟨rfl,rfl⟩:=P.2 l;have e10:e1=0:=by
    obtain⟨_,e,_⟩|⟨b2,r2,w1,w2,w3,⟨_,e,_⟩|⟨_,_,e,_⟩|⟨_,w4,_,_⟩⟩:=k.x
    .cases e
    .cases e
    .cases e
    .obtain⟨t,t',R,S,hI,gI⟩:=y.two.al;obtain⟨hx,_⟩|⟨b1,r1,z1,z2,z3,⟨hx,_⟩|⟨_,hx,_⟩|⟨_,_,e,_⟩⟩:=D.x
     .exact(hI.swap'.sK w1 w2 w3 hx).elim
     .omega
     .exact qx ((hI.BV (hI.row (hI.who y.two.ol z1 z2 z3 w1 w2 w3) z2 w2)).trans w4) hx
     .exact e
   subst e10;rw[PZ 9 wB];refine ag.seq (ag.part (m:=0) Yk rfl Θ (λv1 _=>bo7 0 v1 _ _ _ _ _ _ _ _ _ _ _ _ _ _) λv17 j v18 K17 ⟨⟨g18,e⟩,K18⟩=>?_);subst e;have u:=K17.then K18;refine ag.told (hGa _ _ _ _ _ _ _ _ _ _ _ _ _ _ _) λg19=>?_
   refine ag.part (m:=0) Yk rfl Ι (λv1 K19=>bx2 0 v1 _ _ _ _ _ _ _ _ _ _ _ _ ((u.then K19).has N)) λv19 j v20 K19 ⟨⟨g20,e⟩,K20⟩=>?_
   subst e;have G:=k16.then (u.then (K19.then K20));refine ag.bt6 (hSa _ _ _ _ _ _ _ _ _ _ _ _ _) (bce (G.old Z id) rfl) ?_;rw[show IntKind.i64.wrap (((2+r:Nat):Int)-((1+q:Nat):Int))=((2+r-(1+q):Nat):Int) by rw[hle,IntKind.wrap_i64];omega];refine Jg (NC:=C') (NS:=M') (k.ka.no G) k.ok (λ_ _ _ _ _ _=>serves) λJ e3 v21 L2 ev3 P3=>?_
   obtain⟨rfl,hX⟩:=LW.halves (n:=2+r) (m:=1+q) y.two.ol k.ok wB wB wB k.x l P3.x;obtain⟨V,e4,_,i1,i2,i3⟩:=y.cn2 D k G P3 hX;subst e4;refine ag.told (hSb _ _ _ _ _ _ _ _ _ _ _ _ _ _ _) λO=>?_
   refine ag.part (m:=0) Yk rfl bj5 (λv1 _=>cm7 0 v1 _ _ _ _ _ _ _ _ _) λv22 j v23 K22 ⟨⟨g23,e⟩,K23⟩=>?_
   subst e;exact done L2 g23 v21 v23 VL ev3 J V P3.kb i1 i2 i3 k.len P3.len (K22.then K23)
  .have hX:=LW.more (n:=2+r) (m:=1+q) wB wB wB k.x λe h=>l ⟨e,h⟩
   obtain⟨V,e3,e4,i1,i2⟩:=y.cn4 D k hX;subst e3 e4;rw[PZ 9 wB];refine ag.seq (ag.part (m:=0) Yk rfl Θ (λv1 _=>bo7 0 v1 _ _ _ _ _ _ _ _ _ _ _ _ _ _) λv17 j v18 K17 ⟨⟨g18,e⟩,K18⟩=>?_);subst e;have u:=K17.then K18;refine ag.told (hGa _ _ _ _ _ _ _ _ _ _ _ _ _ _ _) λg19=>?_
   refine ag.part (m:=0) Yk rfl Ι (λv1 K19=>bx3 0 v1 _ _ _ _ _ _ _ _ _ _ e1 ef st _ _ ((u.then K19).has N) λ⟨a,b,c⟩=>l ⟨a,P.1 ⟨b,c⟩⟩) λv19 j v20 K19 ⟨⟨g20,e⟩,K20⟩=>?_
   subst e;refine ag.told (hGf _ _ _ _ _ _ _ _ _) λO=>?_
   exact done B O v8 v20 ev1 [] (.slice none 0 0) V rfl (by rw[List.append_nil];exact i1) i2 ⟨none,0,rfl,λh=>qx h sJ⟩ D.len sJ (k16.then (u.then (K19.then K20)))
 .rw[decide_eq_false A];refine ag.told (hLe _ _ _ _ _ _ _) λg3=>?_
  refine ag.aP (m:=0) Yk rfl bj4 (λv1 d=>cw8 0 v1 _ K L (λm=>(z.two.no d).world m v1) λm w1 I=>((z.two.no d).no I).core m w1) λv3 j todo v4 d ⟨⟨g4,e⟩,K4⟩=>?_
  subst e;exact hk v4 g4 todo ((z.no d).k0.then K4)
theorem qJ (m:n<9223372036854775808)(q:0<n->s=some (S_ b o))(k:∀i,i<n->∃kd pid r,FB v0 b o i kd pid r)
  (l:∀v' g todo,Aa No v0 v'->ag Od prog (Frame.mk 9 (TN 169 (AQ g [(6,.bool true)])) todo [] .returning .normal none,cs) v' R) (d:Nat):∀(i:Nat)(f:Y_)(K L:KS)(v:o_),n-i=d->OM true C M C' M' v0 K L v->ag Od prog (Fr 9 169 f [(1,.slice s n c),(2,b_ cut),(8,ptr K.kb),(10,ptr L.kb),(12,b_ (i:Nat))] (.code (hL prog)::hE) cs) v R:=by
 induction d with
 |zero=>exact λi f K L v e h=>VC m q k l h λh=>qx h wB
 |succ d j=>exact λi f K L v e h=>VC m q k l h λ_ f K L v a=>j (i+1) f K L v wB a
theorem qK {core swap:Int}{fn:Nat->Int}{ff:Nat->n_×Nat×(Nat->Int)}(hP:aJ v0 (.slice sp np cp) np fn)(hF:Pg v0 (.slice fa nf fc) nf ff)(hn:n<9223372036854775808)(hs:0<n->s=some (S_ b o))(BX:∀i,i<n->∃kd pid nn,FB v0 b o i kd pid nn)
  (hk:∀v' g todo,Aa No v0 v'->ag Od prog (Frame.mk 9 (TN 169 (AQ g [(6,.bool true)])) todo [] .returning .normal none,cs) v' R):ag Od prog (Frame.enter prog 9 #[.agg #[b_ core,b_ swap,.slice sp np cp,.slice fa nf fc],.slice s n c,b_ cut] .normal,cs) v0 R:=by
 refine ag.told (hA _ _ _ _) λg=>?_
 refine ag.part (m:=0) Yk rfl bi6 (λv1 _=>cx5 0 v1 _ core swap _ _ _ _) λv1 k v2 B ⟨⟨T,e⟩,D,hX⟩=>?_
 subst e;refine ag.enters (hBe _ _ _ _ _) (Uw λv3 E=>?_);refine ag.told (hBf _ _ _ _ _) λU=>?_
 rw[iV 2 wB];refine ag.seq (ag.part (m:=0) Yk rfl bi5 (λv1 _=>cx4 0 v1 _ _ _ _) λv4 k Y F ⟨⟨V,e⟩,G⟩=>?_);subst e;have j:=E.then (F.then G);have r:=(B.then D).then j;have A:=j.old hX id;rw[iV 3 wB];refine ag.seq (ag.part (m:=0) Yk rfl bi4 (λv1 f=>cx1 0 v1 _ core swap _ _ sp fa cp fc _ np nf fn ff (hP.kp (r.then f)) (hF.kp (r.then f)) (f.old A id)) λv6 k Z f ⟨w,W,X,S,e,hN⟩=>?_);subst e;have z:=r.then f;have l:=z.then w;have O:=(f.then w).old A id;rw[iV 4 wB];refine ag.seq (ag.part (m:=0) Yk rfl bi3 (λv1 K10=>cx0 0 v1 _ core swap _ _ _ _ sp fa cp fc _ np nf fn ff (hP.kp (l.then K10)) (hF.kp (l.then K10)) (K10.old O id)) λv10 k v11 K10 ⟨K11,I,N,H,e,y⟩=>?_);subst e;rw[iV 5 wB];have q:=(l.then K10).then K11;obtain⟨rfl,rfl,a⟩|⟨K,rfl,rfl,x⟩:=hN.no K10
 .obtain⟨rfl,rfl,_⟩|⟨L,rfl,rfl,hL⟩:=y
  .refine ag.seq (ag.aP (m:=0) Yk rfl Ζ (λv1 _=>cm6 0 v1 _ _ _) λv k todo d u ⟨⟨h,e⟩,t⟩=>?_);subst e;exact hk d h todo (q.then (u.then t))
  .exact(hL.not a).elim
 .obtain⟨rfl,rfl,a⟩|⟨L,rfl,rfl,hL⟩:=y
  .exact(x.not a).elim
  .obtain⟨C,M,P,Q,J⟩:=x.two (c:=true) z.size (l.then K10) K11 hL (λ_=>rfl);refine ag.seq (ag.part (m:=0) Yk rfl Ζ (λv1 _=>cw9 0 v1 _ _ _ _ _) λv k d u ⟨⟨h,e⟩,t⟩=>?_);subst e;exact ag.told (hLa _ _ _ _ _ _) λp=>qJ hn hs BX hk n 0 p K L d wB (J.no (u.then t))
end
end Go.Fxa
