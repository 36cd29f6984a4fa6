/- Refused: its fra -/
import Derived.Test.YtmhplpfpcnjekaaGreatA41
import Derived.Test.YtmhplpfpcnjekaaGreatA45
namespace Go.Fxa
open Conc Proofs RowKit Proofs.Tryz
set_option maxRecDepth 1000000
set_option maxHeartbeats 0
theorem SN:(prog.funcs[10]?).any (·.norace)=false:=sU
theorem Iw:ES prog 10=Tryz.f10.body.getD .skip:=sU
def rq (P:l_)(i:Nat):Code:=piece (behind i (ES P 10))
def rX (P:l_)(i:Nat):Code:=behind i (ES P 10)
def rL (P:l_:=prog):Code:=match rq P 6 with | .seq _ (.block _ (.loop b))=>b|_=>.skip
def rB (P:l_:=prog):Code:=match rL P with | .seq _ (.seq b _)=>b|_=>.skip
def rI (P:l_:=prog):Code:=match rB P with | .block _ c=>c|_=>.skip
def rH (P:l_:=prog):Code:=match rL P with | .seq (.seq a _) _=>a|_=>.skip
def rR (P:l_:=prog):Code:=match rL P with | .seq _ r=>r|_=>.skip
def rN (P:l_:=prog):Code:=match rL P with | .seq _ (.seq _ r)=>r|_=>.skip
def rC:Code:=Code.cond (Operand.tmp 59) Code.skip (Code.exit 0)
def ri (P:l_)(k:Nat):Code:=piece (behind k (rI P))
def rb (P:l_)(k:Nat):Code:=behind k (rI P)
theorem YG (i:Nat)(h:i=0\/i=1\/i=2\/i=3\/i=4):rb prog i=(ri prog i).seq (rb prog (i+1)):=by obtain rfl|rfl|rfl|rfl|rfl:=h<;>kernel_rfl
theorem iQ (i:Nat)(h:i=2\/i=3\/i=4\/i=5):rX prog i=(rq prog i).seq (rX prog (i+1)):=by obtain rfl|rfl|rfl|rfl:=h<;>kernel_rfl
theorem bd4:(rq prog 0).AP (Bh prog)=true:=sU
theorem bd3:(rq prog 2).AP (Bh prog)=true:=sU
theorem bd2:(rq prog 3).AP (Bh prog)=true:=sU
theorem bd1:(rq prog 4).AP (Bh prog)=true:=sU
theorem zM:(rq prog 5).AP (Bh prog)=true:=sU
theorem be0:(ri prog 0).AP (Bh prog)=true:=sU
theorem bd9:(ri prog 1).AP (Bh prog)=true:=sU
theorem bd8:(ri prog 2).AP (Bh prog)=true:=sU
theorem bd7:(ri prog 3).AP (Bh prog)=true:=sU
theorem bd6:(ri prog 4).AP (Bh prog)=true:=sU
theorem bu9:(rH prog).AP (Bh prog)=true:=sU
theorem bu8:(rN prog).AP (Bh prog)=true:=sU
theorem bv0:(rB prog).AP (Bh prog)=true:=sU
theorem be6:(rX prog 7).AP (Bh prog)=true:=sU
abbrev rE (P:l_:=prog):List Item:=[.inLoop (rL P),.inBlock 0,.code (rX P 7)]
abbrev rT (P:l_:=prog):List Item:=.inBlock 1::.code (rN P)::rE P
section
variable (cv BF bx ka kb iv t1 e1 t2 e2 ο nv mv:n_)(cs:Z_)(f:Y_)(sb:Nat)(pid nn mm:Int)
theorem rA:Bv 1 (Frame.enter prog 10 #[cv,BF] .normal,cs) 10 130 [(0,cv),(1,BF)] [.code (rq prog 0),.code (rX prog 1)] cs:=by unfold Bv;kernel_rfl
abbrev rFb (P:l_:=prog):Frame×Z_:=Fr 10 130 f [(1,BF),(2,bx)] [.code (rX P 1)] cs
theorem rBe:Uc 3 (rFb BF bx cs f) 13 #[] cs:=by unfold Uc;kernel_rfl
theorem rBf:Bv 2 ((below (run prog 3 (rFb BF bx cs f))).1.finish (.bool true),cs) 10 130 [(1,BF),(2,bx),(5,.bool true)] [.code (rX prog 2)] cs:=by unfold Bv;kernel_rfl
theorem rLa:Bv 7 (Fr 10 130 f [(1,BF),(6,ka),(8,kb)] [.code (rX prog 6)] cs) 10 130 [(1,BF),(6,ka),(8,kb),(10,b_ (0:Nat))] (.code (rL prog)::rE) cs:=by unfold Bv;kernel_rfl
theorem rLb:Bv 2 (Fr 10 130 f [(1,BF),(6,ka),(8,kb),(10,iv)] (.code (rL prog)::rE) cs) 10 130 [(1,BF),(6,ka),(8,kb),(10,iv)] (.code (rH prog)::.code rC::.code (rR prog)::rE) cs:=by unfold Bv;kernel_rfl
theorem rLc:Bv 3 (Fr 10 130 f [(1,BF),(6,ka),(8,kb),(10,iv),(59,.bool true)] (.code rC::.code (rR prog)::rE) cs) 10 130 [(1,BF),(6,ka),(8,kb),(10,iv)] (.code (rB prog)::.code (rN prog)::rE) cs:=by unfold Bv;kernel_rfl
theorem rLd:Bv 1 (Fr 10 130 f [(1,BF),(6,ka),(8,kb),(10,iv)] (.code (rB prog)::.code (rN prog)::rE) cs) 10 130 [(1,BF),(6,ka),(8,kb),(10,iv)] (.code (rb prog 0)::rT) cs:=by unfold Bv;kernel_rfl
theorem rLe:Bv 2 (Fr 10 130 f [(1,BF),(6,ka),(8,kb),(10,iv),(59,.bool false)] (.code rC::.code (rR prog)::rE) cs) 10 130 [(6,ka),(8,kb)] [.code (rX prog 7)] cs:=by unfold Bv;kernel_rfl
theorem rLf:Bv 1 (Fr 10 130 f [(1,BF),(6,ka),(8,kb),(10,iv)] rT cs) 10 130 [(1,BF),(6,ka),(8,kb),(10,iv)] (.code (rN prog)::rE) cs:=by unfold Bv;kernel_rfl
theorem rLg:Bv 1 (Fr 10 130 f [(1,BF),(6,ka),(8,kb),(10,iv)] rE cs) 10 130 [(1,BF),(6,ka),(8,kb),(10,iv)] (.code (rL prog)::rE) cs:=by unfold Bv;kernel_rfl
abbrev rFp (P:l_:=prog):Frame×Z_:=Fr 10 130 f [(1,BF),(6,ka),(8,kb),(10,iv),(11,ptr sb)] (.code (rb P 5)::rT P) cs
theorem rPa:aY 4 (rFp BF ka kb iv cs f sb) sb pid nn ka cs:=by unfold aY;kernel_rfl
theorem rPb:Bv 6 ((below (rd2 4 (rFp BF ka kb iv cs f sb) (b_ pid) (b_ nn))).1.finish (.tuple #[t1,e1]),cs) 10 130 [(1,BF),(6,ka),(8,kb),(10,iv),(11,ptr sb),(16,t1),(17,e1)] (.code (rb prog 6)::rT) cs:=by unfold Bv;kernel_rfl
abbrev rFr (P:l_:=prog):Frame×Z_:=Fr 10 130 f [(1,BF),(6,ka),(8,kb),(10,iv),(11,ptr sb),(16,t1),(17,e1)] (.code (rb P 6)::rT P) cs
theorem rRa:aY 4 (rFr BF ka kb iv t1 e1 cs f sb) sb pid nn kb cs:=by unfold aY;kernel_rfl
theorem rRb:Bv 6 ((below (rd2 4 (rFr BF ka kb iv t1 e1 cs f sb) (b_ pid) (b_ nn))).1.finish (.tuple #[t2,e2]),cs) 10 130 [(1,BF),(6,ka),(8,kb),(10,iv),(16,t1),(17,e1),(18,t2),(19,e2)] (.code (rb prog 7)::rT) cs:=by unfold Bv;kernel_rfl
theorem be5:(rb prog 7).AP (Bh prog)=true:=sU
theorem xW (g:Y_)(todo:List Item)(w:o_):stepG prog true (G (Frame.mk 10 (TN 130 (AQ g [(4,.bool true)])) todo [] .returning .normal none) []) w=.ended (.done (.bool true)) w #[]:=sU
end
def sl10 (f:Y_)(s0 s1 s2 s5 s6 s7 s8 s9 s10 s11 s12 s13 s16 s17 s18 s19:n_):X_:=#[s0,s1,s2,f 3,f 4,s5,s6,s7,s8,s9,s10,s11,s12,s13,f 14,f 15,s16,s17,s18,s19,f 20,f 21,f 22,f 23,f 24,f 25,f 26,f 27,f 28,f 29,f 30,f 31,f 32,f 33,f 34,f 35,f 36,f 37,f 38,f 39,f 40,f 41,f 42,f 43,f 44,f 45,f 46,f 47,f 48,f 49,f 50,f 51,f 52,f 53,f 54,f 55,f 56,f 57,f 58,f 59,f 60,f 61,f 62,f 63,f 64,f 65,f 66,f 67,f 68,f 69,f 70,f 71,f 72,f 73,f 74,f 75,f 76,f 77,f 78,f 79,f 80,f 81,f 82,f 83,f 84,f 85,f 86,f 87,f 88,f 89,f 90,f 91,f 92,f 93,f 94,f 95,f 96,f 97,f 98,f 99,f 100,f 101,f 102,f 103,f 104,f 105,f 106,f 107,f 108,f 109,f 110,f 111,f 112,f 113,f 114,f 115,f 116,f 117,f 118,f 119,f 120,f 121,f 122,f 123,f 124,f 125,f 126,f 127,f 128,f 129]
section
variable (m:Nat)(w:o_)(f:Y_)
theorem cu6 (core swap:Int)(v b:n_)(a:n_):(rq prog 0).wpIn NF m prog (Ends λc w'=>(∃g,c=TN 130 (AQ g [(1,a),(2,ptr w.heap.size)]))/\Aa No w w'/\w'.heap[w.heap.size]?=some (N_ #[b_ core,b_ swap,v,b] 25)) ⟨TN 130 (AQ f [(0,.agg #[b_ core,b_ swap,v,b]),(1,a)]),[]⟩ w:=by
 unfold rq;rw[Iw];dsimp only[Tryz.f10,Option.getD,behind,piece];show Code.wpIn (Fence.list LF none) m prog _ _ ⟨sl10 f (.agg #[b_ core,b_ swap,v,b]) (a) (f 2) (f 5) (f 6) (f 7) (f 8) (f 9) (f 10) (f 11) (f 12) (f 13) (f 16) (f 17) (f 18) (f 19),[]⟩ _;unfold sl10;gi_wp2;exact⟨rfl,rfl,⟨_,BH rfl (by simp[ptr])⟩,(Aa.refl _ _).alloc _,Yw rfl⟩
theorem cu5 (a:n_)(b:n_):(rq prog 2).wpIn NF m prog (Ends λc w'=>(∃g,c=TN 130 (AQ g [(1,a),(2,b)]))/\Aa No w w') ⟨TN 130 (AQ f [(1,a),(2,b),(5,.bool true)]),[]⟩ w:=by
 unfold rq;rw[Iw];dsimp only[Tryz.f10,Option.getD,behind,piece];show Code.wpIn (Fence.list LF none) m prog _ _ ⟨sl10 f (f 0) (a) (b) (.bool true) (f 6) (f 7) (f 8) (f 9) (f 10) (f 11) (f 12) (f 13) (f 16) (f 17) (f 18) (f 19),[]⟩ _;unfold sl10;gi_wp2;exact⟨rfl,rfl,⟨_,BH rfl sJ⟩,Aa.refl _ _⟩
theorem cu4 (core swap:Int)(o:n_)(s p:d_ f_)(c q:Nat)(X n j:Nat)(fn:Nat->Int)(r:Nat->n_×Nat×(Nat->Int))(u:aJ w (.slice s n c) n fn)(t:Pg w (.slice p j q) j r)(hX:WS X core swap s p n c j q w):(rq prog 3).wpIn NF m prog (Ends λv w'=>Aa No w w'/\∃g l k,v=TN 130 (AQ g [(1,o),(2,ptr X),(6,l),(7,k)])/\VN core swap n j fn r w l k w') ⟨TN 130 (AQ f [(1,o),(2,ptr X)]),[]⟩ w:=by
 have b:=λm=>(Yq m w core swap _ _ n j fn r u t).mono λe w1 d=>d.cut
 have h:w.cell? (R_ X)=some (b_ core):=bce hX rfl;have i:w.cell? (S_ X 1)=some (b_ swap):=bce hX rfl;have c2:w.cell? (S_ X 2)=some (.slice s n c):=bce hX rfl;have c3:w.cell? (S_ X 3)=some (.slice p j q):=bce hX rfl;unfold rq;rw[Iw];dsimp only[Tryz.f10,Option.getD,behind,piece];show Code.wpIn (Fence.list LF none) m prog _ _ ⟨sl10 f (f 0) (o) (ptr X) (f 5) (f 6) (f 7) (f 8) (f 9) (f 10) (f 11) (f 12) (f 13) (f 16) (f 17) (f 18) (f 19),[]⟩ _;unfold sl10 ptr;gi_wp2_with (gi_at_call 14;refine(b _).mono ?_;rintro e w1 ⟨a,l,k,rfl,hN⟩);exact⟨rfl,rfl,a,_,l,k,BH rfl sJ,hN⟩
theorem cu3 (core swap:Int)(o:n_)(u p:n_)(s q:d_ f_)(c r:Nat)(X n l:Nat)(fn:Nat->Int)(t:Nat->n_×Nat×(Nat->Int))(x:aJ w (.slice s n c) n fn)(v:Pg w (.slice q l r) l t)(hX:WS X core swap s q n c l r w):(rq prog 4).wpIn NF m prog (Ends λy w'=>Aa No w w'/\∃g k j,y=TN 130 (AQ g [(1,o),(6,u),(7,p),(8,k),(9,j)])/\VN core swap n l fn t w k j w') ⟨TN 130 (AQ f [(1,o),(2,ptr X),(6,u),(7,p)]),[]⟩ w:=by
 have b:=λm=>(Yq m w core swap _ _ n l fn t x v).mono λe w1 d=>d.cut
 have h:w.cell? (R_ X)=some (b_ core):=bce hX rfl;have i:w.cell? (S_ X 1)=some (b_ swap):=bce hX rfl;have c2:w.cell? (S_ X 2)=some (.slice s n c):=bce hX rfl;have c3:w.cell? (S_ X 3)=some (.slice q l r):=bce hX rfl;unfold rq;rw[Iw];dsimp only[Tryz.f10,Option.getD,behind,piece];show Code.wpIn (Fence.list LF none) m prog _ _ ⟨sl10 f (f 0) (o) (ptr X) (f 5) (u) (p) (f 8) (f 9) (f 10) (f 11) (f 12) (f 13) (f 16) (f 17) (f 18) (f 19),[]⟩ _;unfold sl10 ptr;gi_wp2_with (gi_at_call 14;refine(b _).mono ?_;rintro e w1 ⟨a,k,j,rfl,hN⟩);exact⟨rfl,rfl,a,_,k,j,BH rfl sJ,hN⟩
theorem ck0 (a:n_):(rq prog 5).wpIn NF m prog (SX λb w'=>(∃g,b=TN 130 (AQ g [(4,.bool true)]))/\Aa No w w') ⟨TN 130 (AQ f [(1,a),(6,.pointer none),(7,b_ 1),(8,.pointer none),(9,b_ 1)]),[]⟩ w:=by
 unfold rq;rw[Iw];dsimp only[Tryz.f10,Option.getD,behind,piece];show Code.wpIn (Fence.list LF none) m prog _ _ ⟨sl10 f (f 0) (a) (f 2) (f 5) (.pointer none) (b_ 1) (.pointer none) (b_ 1) (f 10) (f 11) (f 12) (f 13) (f 16) (f 17) (f 18) (f 19),[]⟩ _;unfold sl10;gi_wp2;exact⟨rfl,rfl,⟨_,BH rfl sJ⟩,Aa.refl _ _⟩
theorem cu2 (c:n_)(a b:Nat):(rq prog 5).wpIn NF m prog (Ends λd w'=>(∃g,d=TN 130 (AQ g [(1,c),(6,ptr a),(8,ptr b)]))/\Aa No w w') ⟨TN 130 (AQ f [(1,c),(6,ptr a),(7,b_ 0),(8,ptr b),(9,b_ 0)]),[]⟩ w:=by
 unfold rq;rw[Iw];dsimp only[Tryz.f10,Option.getD,behind,piece];show Code.wpIn (Fence.list LF none) m prog _ _ ⟨sl10 f (f 0) (c) (f 2) (f 5) (ptr a) (b_ 0) (ptr b) (b_ 0) (f 10) (f 11) (f 12) (f 13) (f 16) (f 17) (f 18) (f 19),[]⟩ _;unfold sl10 ptr;gi_wp2;exact⟨rfl,rfl,⟨_,BH rfl sJ⟩,Aa.refl _ _⟩
theorem cu1 (K L:KS)(c:∀m,O_ m 24 #[Q_ K.kb,Q_ L.kb] w λe w'=>e=.returned (.bool true)/\Aa No w w')(d:∀m w1,Aa No w w1->O_ m 28 #[Q_ K.kb,Q_ L.kb] w1 λe w'=>e=.returned (.bool true)/\Aa No w1 w'):(rX prog 7).wpIn NF m prog (SX λh w'=>(∃g,h=TN 130 (AQ g [(4,.bool true)]))/\Aa No w w') ⟨TN 130 (AQ f [(6,ptr K.kb),(8,ptr L.kb)]),[]⟩ w:=by
 unfold rX;rw[Iw];dsimp only[Tryz.f10,Option.getD,behind,piece];show Code.wpIn (Fence.list LF none) m prog _ _ ⟨sl10 f (f 0) (f 1) (f 2) (f 5) (ptr K.kb) (f 7) (ptr L.kb) (f 9) (f 10) (f 11) (f 12) (f 13) (f 16) (f 17) (f 18) (f 19),[]⟩ _;unfold sl10 ptr;gi_wp2_with (first|(gi_at_call 24;refine(c _).mono ?_;rintro e w1 ⟨rfl,a⟩)|(gi_at_call 28;refine(d _ _ a).mono ?_;rintro e w2 ⟨rfl,b⟩));exact⟨rfl,rfl,⟨_,BH rfl sJ⟩,a.then b⟩
theorem ct9 (b kb:n_)(s:d_ f_)(n c i:Nat):(rH prog).wpIn NF m prog (Ends λd w'=>(∃g,d=TN 130 (AQ g [(1,.slice s n c),(6,b),(8,kb),(10,b_ i),(59,.bool (decide (i<n)))]))/\Aa No w w') ⟨TN 130 (AQ f [(1,.slice s n c),(6,b),(8,kb),(10,b_ i)]),[]⟩ w:=by
 unfold rH rL rq;rw[Iw];dsimp only[Tryz.f10,Option.getD,behind,piece];show Code.wpIn (Fence.list LF none) m prog _ _ ⟨sl10 f (f 0) (.slice s n c) (f 2) (f 5) (b) (f 7) (kb) (f 9) (b_ i) (f 11) (f 12) (f 13) (f 16) (f 17) (f 18) (f 19),[]⟩ _;unfold sl10;by_cases h:i<n
 .have a:(i:Int)<n:=wB
  gi_wp2;exact⟨rfl,rfl,⟨_,BH rfl (by simp[h])⟩,Aa.refl _ _⟩
 .have a:¬(i:Int)<n:=wB
  gi_wp2;exact⟨rfl,rfl,⟨_,BH rfl sJ⟩,Aa.refl _ _⟩
theorem ct8 (a:n_)(b kb:n_)(i:Nat)(hi:i<9223372036854775807):(rN prog).wpIn NF m prog (Ends λc w'=>(∃g,c=TN 130 (AQ g [(1,a),(6,b),(8,kb),(10,b_ (i+1:Nat))]))/\Aa No w w') ⟨TN 130 (AQ f [(1,a),(6,b),(8,kb),(10,b_ i)]),[]⟩ w:=by
 unfold rN rL rq;rw[Iw];dsimp only[Tryz.f10,Option.getD,behind,piece];show Code.wpIn (Fence.list LF none) m prog _ _ ⟨sl10 f (f 0) (a) (f 2) (f 5) (b) (f 7) (kb) (f 9) (b_ i) (f 11) (f 12) (f 13) (f 16) (f 17) (f 18) (f 19),[]⟩ _;unfold sl10;gi_wp2;exact⟨rfl,rfl,⟨_,BH rfl sJ⟩,Aa.refl _ _⟩
theorem cj8 (j kb:n_)(b o n c i:Nat)(kd pid k:Int)(p:i<n)(h:FB w b o i kd pid k):(ri prog 0).wpIn NF m prog (Ends λl w'=>(∃g,l=TN 130 (AQ g [(1,.slice (some (S_ b o)) n c),(6,j),(8,kb),(10,b_ i),(11,ptr w.heap.size)]))/\Aa No w w'/\w'.heap[w.heap.size]?=some (N_ #[b_ kd,b_ pid,b_ k] 38)) ⟨TN 130 (AQ f [(1,.slice (some (S_ b o)) n c),(6,j),(8,kb),(10,b_ i)]),[]⟩ w:=by
 obtain⟨_,a,d,c2⟩:=h;have e:(i:Int)<n:=wB
 unfold ri rI rB rL rq;rw[Iw];dsimp only[Tryz.f10,Option.getD,behind,piece];show Code.wpIn (Fence.list LF none) m prog _ _ ⟨sl10 f (f 0) (.slice (some (S_ b o)) n c) (f 2) (f 5) (j) (f 7) (kb) (f 9) (b_ i) (f 11) (f 12) (f 13) (f 16) (f 17) (f 18) (f 19),[]⟩ _;unfold sl10;gi_wp2;exact⟨rfl,rfl,⟨_,BH rfl (by simp[ptr])⟩,(Aa.refl _ _).alloc _,Yw rfl⟩
theorem cj7 (c h d:n_)(L:KS)(sb:Nat)(kd pid i:Int)(hb:w.heap[sb]?=some (N_ #[b_ kd,b_ pid,b_ i] 38))(j:∀m,O_ m 29 #[Q_ L.kb,.agg #[b_ kd,b_ pid,b_ i]] w λe w'=>Aa No w w'/\e=.returned (.bool true)):(ri prog 1).wpIn NF m prog (Ends λk w'=>(∃g,k=TN 130 (AQ g [(1,c),(6,h),(8,ptr L.kb),(10,d),(11,ptr sb),(12,.bool true)]))/\Aa No w w') ⟨TN 130 (AQ f [(1,c),(6,h),(8,ptr L.kb),(10,d),(11,ptr sb)]),[]⟩ w:=by
 have b:w.cell? (R_ sb)=some (b_ kd):=bce hb rfl;have d1:w.cell? (S_ sb 1)=some (b_ pid):=bce hb rfl;have d2:w.cell? (S_ sb 2)=some (b_ i):=bce hb rfl;unfold ri rI rB rL rq;rw[Iw];dsimp only[Tryz.f10,Option.getD,behind,piece];show Code.wpIn (Fence.list LF none) m prog _ _ ⟨sl10 f (f 0) (c) (f 2) (f 5) (h) (f 7) (ptr L.kb) (f 9) (d) (ptr sb) (f 12) (f 13) (f 16) (f 17) (f 18) (f 19),[]⟩ _;unfold sl10 ptr;gi_wp2_with (gi_at_call 29;refine(j _).mono ?_;rintro e w1 ⟨a,rfl⟩);exact⟨rfl,rfl,⟨_,BH rfl sJ⟩,a⟩
theorem cj6 (a c kb b:n_)(sb:Nat):(ri prog 2).wpIn NF m prog (Ends λd w'=>(∃g,d=TN 130 (AQ g [(1,a),(6,c),(8,kb),(10,b),(11,ptr sb)]))/\Aa No w w') ⟨TN 130 (AQ f [(1,a),(6,c),(8,kb),(10,b),(11,ptr sb),(12,.bool true)]),[]⟩ w:=by
 unfold ri rI rB rL rq;rw[Iw];dsimp only[Tryz.f10,Option.getD,behind,piece];show Code.wpIn (Fence.list LF none) m prog _ _ ⟨sl10 f (f 0) (a) (f 2) (f 5) (c) (f 7) (kb) (f 9) (b) (ptr sb) (.bool true) (f 13) (f 16) (f 17) (f 18) (f 19),[]⟩ _;unfold sl10 ptr;gi_wp2;exact⟨rfl,rfl,⟨_,BH rfl sJ⟩,Aa.refl _ _⟩
theorem cj5 (d i kb h:n_)(sb r:Nat)(kd pid k:Int)(hb:w.heap[sb]?=some (N_ #[b_ kd,b_ pid,b_ k] 38))(l:-9223372036854775808<=kd)(n:kd<=9223372036854775807)(j:Gw kd 4=r):(ri prog 3).wpIn NF m prog (Ends λo w'=>(∃g,o=TN 130 (AQ g [(1,d),(6,i),(8,kb),(10,h),(11,ptr sb),(13,b_ r)]))/\Aa No w w') ⟨TN 130 (AQ f [(1,d),(6,i),(8,kb),(10,h),(11,ptr sb)]),[]⟩ w:=by
 have c:w.cell? (R_ sb)=some (b_ kd):=bce hb rfl;have d1:w.cell? (S_ sb 1)=some (b_ pid):=bce hb rfl;have d2:w.cell? (S_ sb 2)=some (b_ k):=bce hb rfl;have a:=λm=>NI m w kd 4 r l n wB wB j
 clear j;unfold ri rI rB rL rq;rw[Iw];dsimp only[Tryz.f10,Option.getD,behind,piece];show Code.wpIn (Fence.list LF none) m prog _ _ ⟨sl10 f (f 0) (d) (f 2) (f 5) (i) (f 7) (kb) (f 9) (h) (ptr sb) (f 12) (f 13) (f 16) (f 17) (f 18) (f 19),[]⟩ _;unfold sl10 ptr;gi_wp2_with (gi_at_call 16;refine(a _).mono ?_;rintro e w1 ⟨rfl,b⟩;have b:=b.symm;subst b);exact⟨rfl,rfl,⟨_,BH rfl sJ⟩,Aa.refl _ _⟩
theorem cj4 (c e kb d:n_)(sb r:Nat)(i:r<2):(ri prog 4).wpIn NF m prog (Ends λh w'=>(∃g,h=TN 130 (AQ g [(1,c),(6,e),(8,kb),(10,d),(11,ptr sb)]))/\Aa No w w') ⟨TN 130 (AQ f [(1,c),(6,e),(8,kb),(10,d),(11,ptr sb),(13,b_ r)]),[]⟩ w:=by
 unfold ri rI rB rL rq;rw[Iw];dsimp only[Tryz.f10,Option.getD,behind,piece];show Code.wpIn (Fence.list LF none) m prog _ _ ⟨sl10 f (f 0) (c) (f 2) (f 5) (e) (f 7) (kb) (f 9) (d) (ptr sb) (f 12) (b_ r) (f 16) (f 17) (f 18) (f 19),[]⟩ _;unfold sl10 ptr;have a:((r:Int)==2)=false:=by simp;omega
 have b:((r:Int)==3)=false:=by simp;omega
 gi_wp2;exact⟨rfl,rfl,⟨_,BH rfl sJ⟩,Aa.refl _ _⟩
def dc9 (K L:KS)(C M C' M':Nat)(BF iv:n_)(w:o_)(tm:X_)(w':o_):Prop:=∃g K' L',tm=TN 130 (AQ g [(1,BF),(6,ptr K.kb),(8,ptr L.kb),(10,iv)])/\Both true C M C' M' K L w K' L' w'
theorem cu0 (K L:KS)(C M C' F r:Nat)(b o n c i:Nat)(kd pid D:Int)(H:i<n)(h:FB w b o i kd pid D)(hT:Two true C M C' F K L w)(G:Gw kd 4=r)(E:r=2\/r=3):(rB prog).wpIn NF m prog (Ends (dc9 K L C M C' F (.slice (some (S_ b o)) n c) (b_ i) w)) ⟨TN 130 (AQ f [(1,.slice (some (S_ b o)) n c),(6,ptr K.kb),(8,ptr L.kb),(10,b_ i)]),[]⟩ w:=by
 obtain⟨⟨a,d⟩,z,A,c2⟩:=h;have B:(i:Int)<n:=wB
 unfold rB rL rq;rw[Iw];dsimp only[Tryz.f10,Option.getD,behind,piece];show Code.wpIn (Fence.list LF none) m prog _ _ ⟨sl10 f (f 0) (.slice (some (S_ b o)) n c) (f 2) (f 5) (ptr K.kb) (f 7) (ptr L.kb) (f 9) (b_ i) (f 11) (f 12) (f 13) (f 16) (f 17) (f 18) (f 19),[]⟩ _;unfold sl10 ptr;have p:Aa No w (w.alloc (.cells #[b_ kd,b_ pid,b_ D] 38)):=(Aa.refl _ _).alloc _;have j:(w.alloc (.cells #[b_ kd,b_ pid,b_ D] 38)).heap[w.heap.size]?=some (N_ #[b_ kd,b_ pid,b_ D] 38):=Yw rfl;have s:(w.alloc (.cells #[b_ kd,b_ pid,b_ D] 38)).cell? (R_ w.heap.size)=some (b_ kd):=bce j rfl;have d1:(w.alloc (.cells #[b_ kd,b_ pid,b_ D] 38)).cell? (S_ w.heap.size 1)=some (b_ pid):=bce j rfl;have d2:(w.alloc (.cells #[b_ kd,b_ pid,b_ D] 38)).cell? (S_ w.heap.size 2)=some (b_ D):=bce j rfl;have q:=λm=>fF m (w.alloc (.cells #[b_ kd,b_ pid,b_ D] 38)) L kd pid D (hT.kb.no p) hT.ol d.1 d.2
 have g:=λm w1=>NI m w1 kd 4 r a.1 a.2 wB wB G
 have t:=λm w1 (y:Aa No w w1)=>Α m w1 K L pid r (hT.no y)
 clear G j;obtain rfl|rfl:=E
 all_goals gi_wp2_with (first
  |(gi_at_call 29;refine(q _).mono ?_;rintro e w1 ⟨k,rfl⟩;clear q;have k1:=p.then k;have s:=k.has s;have d1:=k.has d1)
  |(gi_at_call 16;refine(g _ _).mono ?_;rintro e w2 ⟨rfl,l⟩;have l:=l.symm;subst l;clear g)
  |(gi_at_call 26;refine(t _ _ k1).mono ?_;rintro e w3 ⟨x,u,v,rfl,hB⟩;clear t))
 all_goals exact⟨rfl,rfl,_,u,v,BH rfl (by simp[ptr]),hB.from k1⟩
theorem cj9 (b d kb c h i:n_)(e:Int)(j:∀m,O_ m 27 #[h,i,.slice none 0 0] w λe w'=>e=.returned (.bool true)/\Aa No w w'):(rb prog 7).wpIn NF m prog (Ends λk w'=>(∃g,k=TN 130 (AQ g [(1,b),(6,d),(8,kb),(10,c)]))/\Aa No w w') ⟨TN 130 (AQ f [(1,b),(6,d),(8,kb),(10,c),(16,h),(17,b_ e),(18,i),(19,b_ e)]),[]⟩ w:=by
 unfold rb rI rB rL rq;rw[Iw];dsimp only[Tryz.f10,Option.getD,behind,piece];show Code.wpIn (Fence.list LF none) m prog _ _ ⟨sl10 f (f 0) (b) (f 2) (f 5) (d) (f 7) (kb) (f 9) (c) (f 11) (f 12) (f 13) (h) (b_ e) (i) (b_ e),[]⟩ _;unfold sl10;gi_wp2_with (gi_at_call 27;refine(j _).mono ?_;rintro e w1 ⟨rfl,a⟩);exact⟨rfl,rfl,⟨_,BH rfl sJ⟩,a⟩
end
section
variable {Od:Old}{v0:o_}{cs:Z_}{R:Frame×Z_->o_->Prop}{s sp fa:d_ f_}{b o n c C M C' M' np cp nf fc:Nat}
theorem bH {i:Nat}{K L:KS}{g:Nat->n_}{v:o_}(k:n<9223372036854775808)(hi:i<n)(next:∀(f:Y_)(K L:KS)(v:o_),OM true C M C' M' v0 K L v->ag Od prog (Fr 10 130 f [(1,.slice s n c),(6,ptr K.kb),(8,ptr L.kb),(10,b_ (i+1:Nat))] (.code (rL prog)::rE) cs) v R)(h:OM true C M C' M' v0 K L v):ag Od prog (Fr 10 130 g [(1,.slice s n c),(6,ptr K.kb),(8,ptr L.kb),(10,b_ (i:Nat))] (.code (rN prog)::rE) cs) v R:=by
 refine ag.part (m:=0) SN rfl bu8 (λv1 _=>ct8 0 v1 _ _ _ _ i wB) λv1 j v2 a ⟨⟨d,e⟩,b⟩=>?_
 subst e;exact ag.told (rLg _ _ _ _ _ _) λg=>next g K L v2 (h.no (a.then b))
theorem TF (hn:n<9223372036854775808)(hs:0<n->s=some (S_ b o))(BX:∀i,i<n->∃kd pid nn,FB v0 b o i kd pid nn)
  (hk:∀v' g todo,Aa No v0 v'->ag Od prog (Frame.mk 10 (TN 130 (AQ g [(4,.bool true)])) todo [] .returning .normal none,cs) v' R) {i:Nat} {f:Nat->n_} {K L:KS} {v:o_} (h:OM true C M C' M' v0 K L v) (next:i<n->∀(f:Y_)(K L:KS)(v:o_),OM true C M C' M' v0 K L v->ag Od prog (Fr 10 130 f [(1,.slice s n c),(6,ptr K.kb),(8,ptr L.kb),(10,b_ (i+1:Nat))] (.code (rL prog)::rE) cs) v R):ag Od prog (Fr 10 130 f [(1,.slice s n c),(6,ptr K.kb),(8,ptr L.kb),(10,b_ (i:Nat))] (.code (rL prog)::rE) cs) v R:=by
 refine ag.told (rLb _ _ _ _ _ _) λg=>?_
 refine ag.part (m:=0) SN rfl bu9 (λv1 _=>ct9 0 v1 _ _ _ s n c i) λv1 k v2 P ⟨⟨g2,e⟩,Q⟩=>?_
 subst e;have j:=h.no (P.then Q);by_cases hi:i<n
 .obtain rfl:=hs wB;rw[decide_eq_true hi];refine ag.told (rLc _ _ _ _ _ _) λZ=>?_
  obtain⟨kd,pid,nn,r⟩:=BX i hi;have t:=r.no j.k0;have after:=λ(K L:KS)(g:Y_)(v:o_)(h:OM true C M C' M' v0 K L v)=>bH (g:=g) hn hi (next hi) h
  have hr4:Gw kd 4<4:=NP kd wB;by_cases q2:Gw kd 4=2\/Gw kd 4=3
  .refine ag.part (m:=0) SN rfl bv0 (λv1 a=>cu0 0 v1 _ K L C M C' M' _ b o n c i kd pid nn hi (t.no a) (j.two.no a) rfl q2) λv3 k v4 a ⟨A,O,W,e,hB⟩=>?_
   subst e;rw[<-hB.2.1,<-hB.2.2.1];exact after O W A v4 ((j.no a).both hB)
  refine ag.told (rLd _ _ _ _ _ _) λA=>?_
  rw[YG 0 wB];refine ag.seq (ag.part (m:=0) SN rfl be0 (λv1 a=>cj8 0 v1 _ _ _ b o n c i kd pid nn hi (t.no a)) λv3 k v4 a ⟨⟨g5,e⟩,B,u⟩=>?_);subst e;have I:=j.no (a.then B);rw[YG 1 wB];refine ag.seq (ag.part (m:=0) SN rfl bd9 (λv1 z=>cj7 0 v1 _ _ _ _ L v3.heap.size kd pid nn (z.old u id) λm=>fF m v1 L kd pid nn (I.two.kb.no z) I.two.ol r.1.2.1 r.1.2.2) λv5 k v6 z ⟨⟨g6,e⟩,S⟩=>?_);subst e;rw[YG 2 wB];refine ag.seq (ag.part (m:=0) SN rfl bd8 (λv1 _=>cj6 0 v1 _ _ _ _ _ _) λv7 k v8 U ⟨⟨g8,e⟩,V⟩=>?_);subst e;have N:=(z.then S).then (U.then V);have x:=N.old u id;rw[YG 3 wB];refine ag.seq (ag.part (m:=0) SN rfl bd7 (λv1 d=>cj5 0 v1 _ _ _ _ _ v3.heap.size _ kd pid nn (d.old x id) r.1.1.1 r.1.1.2 rfl) λv9 k v10 d ⟨⟨G,e⟩,K10⟩=>?_);subst e;rw[YG 4 wB];refine ag.seq (ag.part (m:=0) SN rfl bd6 (λv1 _=>cj4 0 v1 _ _ _ _ _ _ _ wB) λv11 k v12 K11 ⟨⟨Y,e⟩,lI⟩=>?_);subst e;have y:=(d.then K10).then (K11.then lI);have l:=y.old x id;have p:=I.no (N.then y);have tb:K.T v3.heap.size=(0,0):=j.two.ka.lt _ a.size;refine ag.asks (rPa _ _ _ _ _ _ _ _ _) (bce l rfl) (bce l rfl) ?_;refine Jg (NC:=C) (NS:=M) p.two.ka p.two.ok (λ_ _ _ _ _ _=>serves) λt1 e1 v7 K1' F q=>?_
  refine ag.told (rPb _ _ _ _ _ _ _ _ _ _ _) λg7=>?_
  have w:=q.mv.old l tb;refine ag.asks (rRa _ _ _ _ _ _ _ _ _ _ _) (bce w rfl) (bce w rfl) ?_;refine Jg (NC:=C') (NS:=M') (p.two.kb.other q.mv p.two.dj) p.two.ol (λ_ _ _ _ _ _=>serves) λt2 e2 v8 X VL J=>?_
  obtain⟨hV,D,E,i1,i2⟩:=p.pick q J;subst D E;refine ag.told (rRb _ _ _ _ _ _ _ _ _ _ _ _ _) λg8=>?_
  have hl:=q.len;refine ag.part (m:=0) SN rfl be5 (λv1 d=>cj9 0 v1 _ _ _ _ _ _ _ _ λm=>Vw m v1 t1 t2 _ F [] (by rw[List.append_nil];exact i1.no d) (i2.no d) ⟨none,0,rfl,λh=>qx h sJ⟩ wB sJ) λv9 k v10 d ⟨⟨G,e⟩,K10⟩=>?_
  subst e;refine ag.told (rLf _ _ _ _ _ _) λH=>?_
  rw[<-q.kb,<-J.kb];exact after K1' X H v10 (hV.no (d.then K10))
 .rw[decide_eq_false hi];refine ag.told (rLe _ _ _ _ _ _) λZ=>?_
  refine ag.aP (m:=0) SN rfl be6 (λv1 a=>cu1 0 v1 _ K L (λm=>(j.two.no a).world m v1) λm w1 hK=>((j.two.no a).no hK).core m w1) λv3 k todo v4 a ⟨⟨A,e⟩,B⟩=>?_
  subst e;exact hk v4 A todo ((j.no a).k0.then B)
theorem kF (m:n<9223372036854775808)(p:0<n->s=some (S_ b o))(k:∀i,i<n->∃kd pid q,FB v0 b o i kd pid q)
  (l:∀v' g todo,Aa No v0 v'->ag Od prog (Frame.mk 10 (TN 130 (AQ g [(4,.bool true)])) todo [] .returning .normal none,cs) v' R) (d:Nat):∀(i:Nat)(f:Y_)(K L:KS)(v:o_),n-i=d->OM true C M C' M' v0 K L v->ag Od prog (Fr 10 130 f [(1,.slice s n c),(6,ptr K.kb),(8,ptr L.kb),(10,b_ (i:Nat))] (.code (rL prog)::rE) cs) v R:=by
 induction d with
 |zero=>exact λi f K L v e h=>TF m p k l h λh=>qx h wB
 |succ d j=>exact λi f K L v e h=>TF m p k l h λ_ f K L v a=>j (i+1) f K L v wB a
theorem kG {core swap:Int}{fn:Nat->Int}{ff:Nat->n_×Nat×(Nat->Int)}(hP:aJ v0 (.slice sp np cp) np fn)(hF:Pg v0 (.slice fa nf fc) nf ff)(hn:n<9223372036854775808)(hs:0<n->s=some (S_ b o))(BX:∀i,i<n->∃kd pid nn,FB v0 b o i kd pid nn)
  (hk:∀v' g todo,Aa No v0 v'->ag Od prog (Frame.mk 10 (TN 130 (AQ g [(4,.bool true)])) todo [] .returning .normal none,cs) v' R):ag Od prog (Frame.enter prog 10 #[.agg #[b_ core,b_ swap,.slice sp np cp,.slice fa nf fc],.slice s n c] .normal,cs) v0 R:=by
 refine ag.told (rA _ _ _) λg=>?_
 refine ag.part (m:=0) SN rfl bd4 (λv1 _=>cu6 0 v1 _ core swap _ _ _) λv1 k v2 B ⟨⟨T,e⟩,D,hX⟩=>?_
 subst e;refine ag.enters (rBe _ _ _ _) (Uw λv3 E=>?_);refine ag.told (rBf _ _ _ _) λU=>?_
 rw[iQ 2 wB];refine ag.seq (ag.part (m:=0) SN rfl bd3 (λv1 _=>cu5 0 v1 _ _ _) λv4 k Y F ⟨⟨V,e⟩,G⟩=>?_);subst e;have j:=E.then (F.then G);have r:=(B.then D).then j;have A:=j.old hX id;rw[iQ 3 wB];refine ag.seq (ag.part (m:=0) SN rfl bd2 (λv1 f=>cu4 0 v1 _ core swap _ sp fa cp fc _ np nf fn ff (hP.kp (r.then f)) (hF.kp (r.then f)) (f.old A id)) λv6 k Z f ⟨w,W,X,S,e,hN⟩=>?_);subst e;have z:=r.then f;have l:=z.then w;have O:=(f.then w).old A id;rw[iQ 4 wB];refine ag.seq (ag.part (m:=0) SN rfl bd1 (λv1 K10=>cu3 0 v1 _ core swap _ _ _ sp fa cp fc _ np nf fn ff (hP.kp (l.then K10)) (hF.kp (l.then K10)) (K10.old O id)) λv10 k v11 K10 ⟨K11,I,N,H,e,y⟩=>?_);subst e;rw[iQ 5 wB];have q:=(l.then K10).then K11;obtain⟨rfl,rfl,a⟩|⟨K,rfl,rfl,x⟩:=hN.no K10
 .obtain⟨rfl,rfl,_⟩|⟨L,rfl,rfl,hL⟩:=y
  .refine ag.seq (ag.aP (m:=0) SN rfl zM (λv1 _=>ck0 0 v1 _ _) λv k todo d u ⟨⟨h,e⟩,t⟩=>?_);subst e;exact hk d h todo (q.then (u.then t))
  .exact(hL.not a).elim
 .obtain⟨rfl,rfl,a⟩|⟨L,rfl,rfl,hL⟩:=y
  .exact(x.not a).elim
  .obtain⟨C,M,P,Q,J⟩:=x.two (c:=true) z.size (l.then K10) K11 hL (λ_=>rfl);refine ag.seq (ag.part (m:=0) SN rfl zM (λv1 _=>cu2 0 v1 _ _ _ _) λv k d u ⟨⟨h,e⟩,t⟩=>?_);subst e;exact ag.told (rLa _ _ _ _ _) λp=>kF hn hs BX hk n 0 p K L d wB (J.no (u.then t))
end
end Go.Fxa
