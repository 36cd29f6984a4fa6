/- Counted's own fu -/
import Derived.Test.YtmhplpfpcnjekaaGreatA17
import Derived.Test.YtmhplpfpcnjekaaGreatA19
import Derived.Sort.CutIn
namespace Go.Fxa
open Conc Proofs RowKit Proofs.Tryz
set_option maxRecDepth 1000000
set_option maxHeartbeats 0
variable {w:o_}{x y v:n_}{base size n:Nat}{e:j_}
def ai4 (w:o_)(v:n_)(l:List (W_)):Prop:=∃s c,v=.slice s l.length c/\(0<l.length->∃b,s=some (R_ b)/\(∃cs,w.heap[b]?=some (N_ cs 174))/\∀i r,l[i]?=some r->w.cell? (S_ b (i*2))=some (b_ (r.1:Nat))/\w.cell? (S_ b (i*2+1))=some (b_ (r.2:Nat)))
theorem lV {rb:Nat}{z:n_}(h:w.heap[rb]?=some (N_ #[x,y,z] 54)):w.cell? (R_ rb)=some x/\w.cell? (S_ rb 1)=some y/\w.cell? (S_ rb 2)=some z:=by
 refine⟨?_,?_,?_⟩<;>rw[Ai h]<;>rfl
theorem Oq {rb:Nat}{a b c:n_}{x y z:Int}(h:w.heap[rb]?=some (N_ #[a,b,c] 54)):∃w',(Instr.storeAt 54 (Q_ rb) (.agg #[b_ x,b_ y,b_ z])).run prog w=.ok () w'/\Aa (At rb) w w'/\w'.heap[rb]?=some (N_ #[b_ x,b_ y,b_ z] 54):=by
 have e:(Instr.storeAt 54 (Q_ rb) (.agg #[b_ x,b_ y,b_ z])).run prog w=(OV rb 0 [b_ x,b_ y,b_ z] (.pure ())).run prog w:=sU
 obtain⟨w',d,f,g⟩:=Hr (P:=prog) (k:=Sem.pure ()) [b_ x,b_ y,b_ z] 0 _ w h sJ (by simp[Value.oneCell']);refine⟨w',?_,f,?_⟩
 .rw[e,d];rfl
 .rw[g];simp[UI]
def gZ (K:KS)(pid:Int)(w:o_)(e:Ending)(w':o_):Prop:=Aa No w w'/\∃x y z s:Int,e=.returned (.tuple #[.agg #[b_ x,b_ y,b_ z],b_ s])/\((rP K pid s/\x=0/\y=0/\z=0)\/(s=0/\∃b r,LyB K pid b r/\x=(r.sw:Nat)/\y=r.co/\z=(Aj r.Af.length:Nat)))
def cp1 (r:PR)(i:Nat)(v:n_)(_W:o_):Prop:=v=if i=9 then b_ (Aj r.Af.length:Nat)else .agg #[b_ (r.sw:Nat),b_ r.co,b_ (Aj r.Af.length:Nat)]
section
variable (m:Nat)(w:o_)
theorem Rt (K:KS)(N:Nat)(pid:Int)(h:AY K w)(hT:K.ED)(hC:Cb N (0,0) K)(T:K.Ar.length<=100):
  O_ m 22 #[Q_ K.kb,b_ pid] w (gZ K pid w):=by
 have l:Aa No w (w.alloc (.cells #[b_ 0,b_ 0,b_ 0] 54)):=(Aa.refl _ _).alloc _;have p:(w.alloc (.cells #[b_ 0,b_ 0,b_ 0] 54)).heap[w.heap.size]?=some (N_ #[b_ 0,b_ 0,b_ 0] 54):=Yw rfl;have c:=λm=>UT m _ K pid (h.no l) hT T
 have J:=hC.le.2;gi_enter func22,ntmps22;gi_wp2_with (first|(gi_at_call 51;refine(c _).mono ?_;rintro e w1 ⟨a,⟨s,rfl,S,d⟩|⟨b,r,rfl,d⟩⟩<;>obtain⟨M,j,n,o⟩:=Oq (x:=0) (y:=0) (z:=0) (a.old p id))|refine BM rfl (.tmp 4) (.tmp 16) 54 rfl rfl rfl j ?_)
 .refine bodyPost_ret (v:=.tuple #[.agg #[b_ 0,b_ 0,b_ 0],b_ s]) (by simp[results,results22,go_sem,lV o]) rfl ?_;exact⟨(l.then a).trans n (λk I e=>qx (show k=w.heap.size from e) wB),0,0,0,s,rfl,.inl ⟨d,rfl,rfl,rfl⟩⟩
 .clear j n o;have B:=l.then a;have t:=h.no B;have R:=hC.pl b r d.2.1;obtain⟨O,Q,L⟩:=t.im8 d.2.1;have f:=t.Iu d.2.1 10;have g:=t.Iu d.2.1 11;simp[PR.arr]at f g;have D:=a.old p id;clear c l a p;refine DI (P:=prog) No _ rfl rfl sU 11 29 [0,1,2,3,4,5,6,7,8] [9,10] sU (by rfl) (cp1 r) (λ_ _ _ _ _ h _=>h) _ _ rfl rfl ?_;gi_wp2;refine⟨rfl,sU,?_,?_,?_⟩
  .intro W a;have F:=a.has (w:=w1.drew) f;have G:=a.has (w:=w1.drew) g
   repeat' (refine AA ?_ ?_)
   all_goals first|exact dE|gi_wp2
  .intro i hi u W a A;have H:=a.has (w:=w1.drew) L;obtain rfl|rfl:=(by simpa using hi:i=9\/i=10)
   .refine BI rfl λKK E=>?_
    show wpListIn NF m prog _ _ _ (Act.put (Act.put _ (some 27) (u 9)) (some 28) (u 10)) _;gi_wp2_with (gi_at_call 58;refine(Fe _ W b _ _ _ H wB).mono ?_;rintro e w2 ⟨rfl,rfl⟩);exact⟨_,rfl,Aa.refl _ _,rfl⟩
   .have C:u 9=b_ (Aj r.Af.length:Nat):=A 9 sJ sN;refine BI rfl λKK E=>?_
    show wpListIn NF m prog _ _ _ (Act.put (Act.put _ (some 27) (u 9)) (some 28) (u 10)) _;rw[C];gi_wp2;exact⟨.agg #[b_ (r.sw:Nat),b_ r.co,b_ (Aj r.Af.length:Nat)],by rw[<-C];rfl,Aa.refl _ _,rfl⟩
  .intro u W a A;have q:u 10=.agg #[b_ (r.sw:Nat),b_ r.co,b_ (Aj r.Af.length:Nat)]:=A 10 sJ;show wpListIn NF m prog _ _ _ (Act.put (Act.put _ (some 27) (u 9)) (some 28) (u 10)) _;rw[q];have KW:Aa No w1 W:=(Aa.refl No w1).drew.then a;obtain⟨M,j,n,o⟩:=Oq (x:=(r.sw:Nat)) (y:=r.co) (z:=(Aj r.Af.length:Nat)) (KW.old D id);gi_wp2_with (refine BM rfl (.tmp 4) (.tmp 28) 54 rfl rfl rfl j ?_);refine bodyPost_ret (v:=.tuple #[.agg #[b_ (r.sw:Nat),b_ r.co,b_ (Aj r.Af.length:Nat)],b_ 0]) (by simp[results,results22,go_sem,lV o]) rfl ?_;exact⟨(B.then KW).trans n (λk I e=>qx (show k=w.heap.size from e) wB),_,_,_,_,rfl,.inr ⟨rfl,b,r,d,rfl,rfl,rfl⟩⟩
end
theorem J9 {w':o_}{xs:U_}(h:w.ownsRow base e size v n xs)(k:Aa No w w'):w'.ownsRow base e size v n xs:=by
 obtain⟨j,i⟩:=h;refine⟨j,?_⟩;obtain i|⟨g,cap,f,a,b,c,d⟩:=i
 .exact .inl i
 .exact .inr ⟨g,cap,f,a,b,k.old c id,d⟩
theorem Ϟ {b:Nat}{t:j_}(h:w.heap[b]?=some (N_ #[x,y] t)):∀q u,([x,y]:U_)[q]?=some u->w.cell? (((R_ b):f_).add q)=some u:=λq u hq=>by
 rw[Addr.add_lit,Nat.zero_add,Ai h q,<-hq];simp
section
variable (m:Nat)(w:o_)
theorem bi0:(prog.info? 174).map (λi=>(i.zero,i.size,i.bytes))=some (some (.agg #[b_ 0,b_ 0]),2,16):=sU
theorem da7 (w:o_){ad:f_}{c:Nat}:∀x,(binOp .eql (sx x 90 95) (.slice (some ad) n c) (.slice none 0 0)).run prog w=.ok (.bool false) w
 |false=>sU
 |true=>sU
abbrev ax0 {w:o_}{base:Nat}{e:j_}{size:Nat}{v:n_}{n:Nat}{xs:U_}(_:w.ownsRow base e size v n xs):j_:=e
theorem av9 (x:Bool)(g c:Nat)(l:List (W_))(h:Mp (sx x 186 188) w g c l)(t:l.length<=1000):O_ m (sx x 159 160) #[P_ g l.length c] w λe w'=>Aa No w w'/\∃v,e=.returned v/\w'.ownsRow w.heap.size (sx x 186 188) 2 v l.length (rc l):=by
 obtain⟨r,hi,b,d,f⟩:=(WM x).parts;have hq:=da7 w (ad:=(R_ g)) (n:=l.length) (c:=c) x;have U:=(WM x).und;cases x<;>dsimp only[aF,aC]at*;gi_enter func159,ntmps159
 rotate_left
 gi_enter func160,ntmps160
 all_goals
  gi_wp2_with (gi_at_builtin;refine wpListIn_append_own _ rfl (.tmp 5) (.tmp 6) _ rfl w.heap.size _ r (.agg #[b_ 0,b_ 0]) 2 16 U hi b d f rfl sN _ 0 [] rfl Um (R_ g) l.length c (rc l) rfl (by rw[uu]) (λj u i=>((Aa.refl No w).alloc _).has (by have a:=(Oc.1 i).1;rw[uu]at a;rw[Addr.add_lit,Nat.zero_add];exact(Rw.cell h a).trans i)) (aj8 l) (by unfold maxLen;omega) wB sJ ?_;intro s w1 o p _)
  go_ret
  refine⟨((Aa.refl No w).alloc _).trans (Ef (S:=At w.heap.size) p (λk h _=>(x_ (show some w.heap.size=some k from h)).symm)) (λk q h=>qx q (by rw[show k=w.heap.size from h];exact Nat.lt_irrefl _)),s,rfl,?_⟩
  simpa using o
theorem zL (x:Bool)(p:Nat)(kb g c:Nat)(l:List (W_))(i:w.cell? (S_ kb p)=some (P_ g l.length c))(h:Mp (sx x 186 188) w g c l)(f:l.length<=1000):O_ m (sx x 104 106) #[.pointer (some (S_ kb p))] w λe w'=>Aa No w w'/\∃v,e=.returned v/\w'.ownsRow w.heap.size (sx x 186 188) 2 v l.length (rc l):=by
 have b:=λm=>av9 m w x g c l h f
 cases x<;>dsimp only[aF,aC]at*;gi_enter func104,ntmps104
 rotate_left
 gi_enter func106,ntmps106
 all_goals
  gi_wp2_with ((first|gi_at_call 159|gi_at_call 160);refine(b _).mono ?_;rintro e w1 ⟨a,v,rfl,d⟩)
  go_ret
  exact⟨a,v,sJ,d⟩
theorem eG (x:Bool)(base:Nat)(v:n_)(l:List (W_))(h:w.ownsRow base (sx x 186 188) 2 v l.length (rc l))(L:l.length<=1000):O_ m (sx x 103 105) #[v] w λe w'=>Aa No w w'/\∃v',e=.returned v'/\w'.ownsRow w.heap.size 174 2 v' l.length (rc l):=by
 obtain⟨H,p,q,t,u⟩:=info_parts bi0;obtain⟨s,c,G⟩:∃s c,v=.slice s l.length c:=by
  obtain⟨e,e2⟩|⟨g,cap,b,e,_⟩:=h.2
  .exact⟨none,0,by rw[e,e2]⟩
  .exact⟨_,_,e⟩
 subst G;cases x<;>dsimp only[aF,aC]at*;gi_enter func103,ntmps103
 rotate_left
 gi_enter func105,ntmps105
 all_goals
  gi_wp2
  gi_loopw [3,8] (λa i wr=>∃k:Nat,k<=l.length/\i=b_ k/\Aa No w wr/\wr.ownsRow w.heap.size 174 2 a k (rc (l.take k))) (λ_ i _=>l.length-(intOf i).toNat)
  case atStart=>exact⟨0,wB,rfl,Aa.refl _ _,World.ownsRow_nil _ _ _ _⟩
  case round=>
   obtain⟨k,A,rfl,KK,y⟩:=hrel
   by_cases D:k<l.length
   .have o:l[k]?=some l[k]:=JM D;generalize l[k]=r at o;obtain⟨g,cap,b,rfl,F⟩:∃g cap b,s=some (R_ g)/\w.heap[g]?=some (N_ b cap):=by
     obtain⟨_,e2⟩|⟨g,cap,b,e,_,C,_⟩:=h.2
     .omega
     .cases e;exact⟨g,_,b,rfl,C⟩
    obtain⟨I,q1⟩:=iP l k r o;have J:=KK.has ((h.cellAt (k*2) wB).trans I);have d1:=KK.has ((h.cellAt (k*2+1) wB).trans q1);have hq:(wr.alloc (.cells #[b_ (r.1:Nat),b_ (r.2:Nat)] (ax0 h))).heap[wr.heap.size]?=some (.cells #[b_ (r.1:Nat),b_ (r.2:Nat)] (ax0 h) (0,0)):=Yw rfl;have j:Aa No wr (wr.alloc (.cells #[b_ (r.1:Nat),b_ (r.2:Nat)] (ax0 h))):=(Aa.refl _ _).alloc _;gi_upto_region 5 with fail;generalize wr.alloc (.cells #[b_ (r.1:Nat),b_ (r.2:Nat)] (ax0 h))=f at*;have K:f.cell? (R_ wr.heap.size)=some (b_ (r.1:Nat)):=bce hq rfl;have e1:f.cell? (S_ wr.heap.size 1)=some (b_ (r.2:Nat)):=bce hq rfl;have n:Aa No f (f.alloc (.cells #[b_ (r.1:Nat),b_ (r.2:Nat)] 174)):=(Aa.refl _ _).alloc _;have B:=J9 (J9 y j) n;gi_wp2_with (gi_at_builtin;refine wpListIn_append_own _ rfl (.tmp 12) (.tmp 18) 138 rfl w.heap.size 174 H (.agg #[b_ 0,b_ 0]) 2 16 underlying138 p q t u rfl sN _ k (rc (l.take k)) rfl B (R_ f.heap.size) 1 1 [b_ (r.1:Nat),b_ (r.2:Nat)] rfl rfl (Ϟ (Yw rfl)) (by simp[Value.oneCell']) (by unfold maxLen;omega) wB (lN KK.size (lN j.size n.size)) ?_;intro v' w4 d z _;have E:Aa No w w4:=((KK.then j).then n).trans (Ef z λk A _=>A) (λx C e=>qx (B.lt x e).1 wB);clear z);go_roundw
    case rel=>exact⟨k+1,wB,by go_num,E,by rw[List.take_add_one,o,YF];exact d⟩
    case measure=>simp[intOf];omega
   .obtain rfl:k=l.length:=wB;gi_wp2;go_ret;exact⟨KK,by simpa using y⟩
end
theorem Yd {k:Nat}{xs:U_}(h:w.ownsRow base e size v n xs)(hb:k<=base):w.ownsRow k e size v n xs:=by
 obtain⟨j,i⟩:=h;refine⟨j,?_⟩;obtain i|⟨g,cap,f,a,b,c,d⟩:=i
 .exact .inl i
 .exact .inr ⟨g,cap,f,a,lN hb b,c,d⟩
theorem Ya {l:List (W_)}(h:w.ownsRow base 174 2 v l.length (rc l)):ai4 w v l:=by
 obtain⟨e,e2⟩|⟨g,cap,a,rfl,_,c,_⟩:=h.2
 .exact⟨none,0,by rw[e,e2],λb=>qx b wB⟩
 .refine⟨_,cap,rfl,λ_=>⟨g,rfl,⟨a,c⟩,λi r hi=>?_⟩⟩;have f:=(Oc.1 hi).1;obtain⟨d,q1⟩:=iP l i r hi;exact⟨(h.cellAt (i*2) wB).trans d,(h.cellAt (i*2+1) wB).trans q1⟩
def cp7 (base:Nat)(K:KS)(i:Nat)(v:n_)(W:o_):Prop:=(i=3->W.ownsRow base 186 2 v K.core.length (rc K.core))/\(i=4->W.ownsRow base 174 2 v K.core.length (rc K.core))/\(i=8->W.ownsRow base 188 2 v K.swap.length (rc K.swap))/\(i=9->W.ownsRow base 174 2 v K.swap.length (rc K.swap))
section
variable (m:Nat)(w:o_)
theorem iW (K:KS)(h:AY K w)(r:K.core.length<=1000)(s:K.swap.length<=1000):O_ m 59 #[Q_ K.kb] w λe w'=>Aa No w w'/\∃v v',e=.returned (.tuple #[v,v'])/\w'.ownsRow w.heap.size 174 2 v K.core.length (rc K.core)/\w'.ownsRow w.heap.size 174 2 v' K.swap.length (rc K.swap):=by
 gi_enter func59,ntmps59;gi_wp2;refine DI (P:=prog) No _ rfl rfl sU 10 14 [0,1,2,5,6,7] [3,4,8,9] sU (by rfl) (cp7 w.heap.size K) (λ_ _ _ _ _ h a=>⟨λe=>J9 (h.1 e) a,λe=>J9 (h.2.1 e) a,λe=>J9 (h.2.2.1 e) a,λe=>J9 (h.2.2.2 e) a⟩) _ _ rfl rfl ?_;gi_wp2;refine⟨rfl,sU,?_,?_,?_⟩
 .intro W a
  repeat' (refine AA ?_ ?_)
  all_goals first|exact dE|gi_wp2
 .intro i hi u W a d;have KW:Aa No w W:=(Aa.refl No w).drew.then a;have g:=h.no KW;obtain⟨q,n,l⟩:=g.k;obtain rfl|rfl|rfl|rfl:=(by simpa using hi:i=3\/i=4\/i=8\/i=9)
  .refine BI rfl λKK f=>?_
   show wpListIn NF m prog _ _ _ (Act.put (Act.put (Act.put (Act.put _ (some 7) (u 3)) (some 8) (u 4)) (some 12) (u 8)) (some 13) (u 9)) _;gi_wp2_with (gi_at_call 104;refine(zL _ W false 0 K.kb K.cg K.cc K.core ((Ai n 0).trans l.c0) g.mc r).mono ?_;rintro e w2 ⟨b,v,rfl,c⟩);exact⟨_,rfl,b,λ_=>Yd c KW.size,(λh=>qx h sN),(λh=>qx h sN),λh=>qx h sN⟩
  .have j:=(d 3 sJ sN).1 rfl;refine BI rfl λKK f=>?_
   show wpListIn NF m prog _ _ _ (Act.put (Act.put (Act.put (Act.put _ (some 7) (u 3)) (some 8) (u 4)) (some 12) (u 8)) (some 13) (u 9)) _;gi_wp2_with (gi_at_call 103;refine(eG _ W false w.heap.size (u 3) K.core j r).mono ?_;rintro e w2 ⟨b,v,rfl,c⟩);exact⟨_,rfl,b,(λh=>qx h sN),λ_=>Yd c KW.size,(λh=>qx h sN),λh=>qx h sN⟩
  .refine BI rfl λKK f=>?_
   show wpListIn NF m prog _ _ _ (Act.put (Act.put (Act.put (Act.put _ (some 7) (u 3)) (some 8) (u 4)) (some 12) (u 8)) (some 13) (u 9)) _;gi_wp2_with (gi_at_call 106;refine(zL _ W true 1 K.kb K.sg K.sc K.swap ((Ai n 1).trans l.c1) g.ms s).mono ?_;rintro e w2 ⟨b,v,rfl,c⟩);exact⟨_,rfl,b,(λh=>qx h sN),(λh=>qx h sN),λ_=>Yd c KW.size,λh=>qx h sN⟩
  .have j:=(d 8 sJ sN).2.2.1 rfl;refine BI rfl λKK f=>?_
   show wpListIn NF m prog _ _ _ (Act.put (Act.put (Act.put (Act.put _ (some 7) (u 3)) (some 8) (u 4)) (some 12) (u 8)) (some 13) (u 9)) _;gi_wp2_with (gi_at_call 105;refine(eG _ W true w.heap.size (u 8) K.swap j s).mono ?_;rintro e w2 ⟨b,v,rfl,c⟩);exact⟨_,rfl,b,(λh=>qx h sN),(λh=>qx h sN),(λh=>qx h sN),λ_=>Yd c KW.size⟩
 .intro u W a d;have KW:Aa No w W:=(Aa.refl No w).drew.then a;have o:=(d 4 sJ).2.1 rfl;have p:=(d 9 sJ).2.2.2 rfl;show wpListIn NF m prog _ _ _ (Act.put (Act.put (Act.put (Act.put _ (some 7) (u 3)) (some 8) (u 4)) (some 12) (u 8)) (some 13) (u 9)) _;gi_wp2;go_ret2;exact⟨KW,_,_,sJ,o,p⟩
end
end Go.Fxa
