/- What is free, as it is told. -/
import Derived.Test.YtmhplpfpcnjekaaGreatA36
namespace Go.Fxa
open Conc Proofs RowKit Proofs.Tryz
set_option maxRecDepth 1000000
set_option maxHeartbeats 0
theorem Iw {w w':o_} {base:Nat} {e:j_} {size:Nat} {v:n_} {n:Nat} {xs:U_} (h:w.ownsRow base e size v n xs) (hK:Keep No w w'):w'.ownsRow base e size v n xs:=by
 obtain⟨j,i⟩:=h;refine⟨j,?_⟩;obtain i|⟨g,cap,f,a,b,c,d⟩:=i
 .exact .inl i
 .exact .inr ⟨g,cap,f,a,b,hK.old c id,d⟩
theorem YX {w:o_} {b:Nat} {x y:n_} {t:j_} (h:w.heap[b]?=some (O_ #[x,y] t)):∀q u,([x,y]:U_)[q]?=some u->w.cell? (((S_ b):f_).add q)=some u:=λq u a=>by
 rw[Addr.add_lit,Nat.zero_add,Af h q,<-a];simp
section
variable (m:Nat) (w:o_)
theorem ui:(prog.info? 174).map (λi=>(i.zero,i.size,i.bytes))=some (some (.agg #[b_ 0,b_ 0]),2,16):=by kernel_rfl
theorem ai9:(prog.info? 186).map (λi=>(i.zero,i.size,i.bytes))=some (some (.agg #[b_ 0,b_ 0]),2,16):=by kernel_rfl
theorem bn5 (w:o_) {ad:f_} {n c:Nat}:(binOp .eql 90 (.slice (some ad) n c) (.slice none 0 0)).run prog w=.ok (.bool false) w:=by kernel_rfl
theorem ab5 (g c:Nat) (l:List (W_)) (h:Mp 186 w g c l) (hl:l.length<=1000):P_ m 159 #[Q_ g l.length c] w λe w'=>Keep No w w'/\∃v,e=.returned v/\w'.ownsRow w.heap.size 186 2 v l.length (rc l):=by
 obtain⟨s,q,b,d,f⟩:=info_parts ai9;have x:=bn5 w (ad:=(S_ g)) (n:=l.length) (c:=c);gi_enter func159,ntmps159;gi_wp2_with (gi_at_builtin;refine wpListIn_append_own _ rfl (.tmp 5) (.tmp 6) 90 rfl w.heap.size 186 s (.agg #[b_ 0,b_ 0]) 2 16 underlying90 q b d f rfl (by decide) _ 0 [] rfl O8 (S_ g) l.length c (rc l) rfl (by rw[Wp]) (λj u i=>((p_ No w).alloc _).has (by have a:=(LQ.1 i).1;rw[Wp]at a;rw[Addr.add_lit,Nat.zero_add];exact(Rw.cell h a).trans i)) (mf l) (by unfold maxLen;omega) (by omega) (by simp) ?_;intro t w1 p o _);go_ret;refine⟨((p_ No w).alloc (.cells #[] 186)).trans (Ey (S:=At w.heap.size) o (λk h _=>(x_ (show some w.heap.size=some k from h)).symm)) (λk r h=>absurd r (by rw[show k=w.heap.size from h];exact Nat.lt_irrefl _)),t,rfl,?_⟩;simpa using p
theorem ae9 (p:Nat) (kb g c:Nat) (l:List (W_)) (hk:w.cell? (T_ kb p)=some (Q_ g l.length c)) (h:Mp 186 w g c l) (hl:l.length<=1000):P_ m 104 #[.pointer (some (T_ kb p))] w λe w'=>Keep No w w'/\∃v,e=.returned v/\w'.ownsRow w.heap.size 186 2 v l.length (rc l):=by
 have b:=λm=>ab5 m w g c l h hl
 gi_enter func104,ntmps104;gi_wp2_with (gi_at_call 159;refine(b _).mono ?_;rintro e w1 ⟨a,v,rfl,d⟩);go_ret;exact⟨a,v,by simp,d⟩
theorem vT (base:Nat) (v:n_) (l:List (W_)) (h:w.ownsRow base 186 2 v l.length (rc l)) (hl:l.length<=1000):P_ m 103 #[v] w λe w'=>Keep No w w'/\∃v',e=.returned v'/\w'.ownsRow w.heap.size 174 2 v' l.length (rc l):=by
 obtain⟨I,p,q,t,u⟩:=info_parts ui;obtain⟨s,c,H⟩:∃s c,v=.slice s l.length c:=by
  obtain⟨e,e2⟩|⟨g,cap,b,e,_⟩:=h.2
  .exact⟨none,0,by rw[e,e2]⟩
  .exact⟨_,_,e⟩
 subst H;gi_enter func103,ntmps103;gi_wp2;gi_loopw [3,8] (λa i wr=>∃k:Nat,k<=l.length/\i=b_ k/\Keep No w wr/\wr.ownsRow w.heap.size 174 2 a k (rc (l.take k))) (λ_ i _=>l.length-(intOf i).toNat)
 case atStart=>exact⟨0,by omega,rfl,p_ _ _,World.ownsRow_nil _ _ _ _⟩
 case round=>
  obtain⟨k,A,rfl,KK,z⟩:=hrel
  by_cases E:k<l.length
  .have o:l[k]?=some l[k]:=Ii E;generalize l[k]=r at o;obtain⟨g,cap,b,rfl,G⟩:∃g cap b,s=some (S_ g)/\w.heap[g]?=some (O_ b cap):=by
    obtain⟨_,e2⟩|⟨g,cap,b,e,_,D,_⟩:=h.2
    .omega
    .cases e;exact⟨g,_,b,rfl,D⟩
   obtain⟨J,q1⟩:=Wq l k r o;have K:=KK.has ((h.cellAt (k*2) (by omega)).trans J);have d1:=KK.has ((h.cellAt (k*2+1) (by omega)).trans q1);have C:(wr.alloc (.cells #[b_ (r.1:Nat),b_ (r.2:Nat)] 186)).heap[wr.heap.size]?=some (O_ #[b_ (r.1:Nat),b_ (r.2:Nat)] 186):=heap_alloc_new rfl;have j:Keep No wr (wr.alloc (.cells #[b_ (r.1:Nat),b_ (r.2:Nat)] 186)):=(p_ _ _).alloc _;gi_upto_region 5 with fail;generalize wr.alloc (.cells #[b_ (r.1:Nat),b_ (r.2:Nat)] 186)=f at*;have L:f.cell? (S_ wr.heap.size)=some (b_ (r.1:Nat)):=bce C rfl;have e1:f.cell? (T_ wr.heap.size 1)=some (b_ (r.2:Nat)):=bce C rfl;have n:Keep No f (f.alloc (.cells #[b_ (r.1:Nat),b_ (r.2:Nat)] 174)):=(p_ _ _).alloc _;have B:=Iw (Iw z j) n;gi_wp2_with (gi_at_builtin;refine wpListIn_append_own _ rfl (.tmp 12) (.tmp 18) 138 rfl w.heap.size 174 I (.agg #[b_ 0,b_ 0]) 2 16 underlying138 p q t u rfl (by decide) _ k (rc (l.take k)) rfl B (S_ f.heap.size) 1 1 [b_ (r.1:Nat),b_ (r.2:Nat)] rfl rfl (YX (heap_alloc_new rfl)) (by simp[Value.oneCell']) (by unfold maxLen;omega) (by omega) (Nat.le_trans KK.size (Nat.le_trans j.size n.size)) ?_;intro v' w4 d y _;have F:Keep No w w4:=((KK.then j).then n).trans (Ey y λk A _=>A) (λx D e=>absurd (B.lt x e).1 (by omega));clear y);go_roundw
   case rel=>exact⟨k+1,by omega,by go_num,F,by rw[List.take_add_one,o,PT];exact d⟩
   case measure=>simp[intOf];omega
  .obtain rfl:k=l.length:=(by omega);gi_wp2;go_ret;exact⟨KK,by simpa using z⟩
theorem ai8:(prog.info? 188).map (λi=>(i.zero,i.size,i.bytes))=some (some (.agg #[b_ 0,b_ 0]),2,16):=by kernel_rfl
theorem bn4 (w:o_) {ad:f_} {n c:Nat}:(binOp .eql 95 (.slice (some ad) n c) (.slice none 0 0)).run prog w=.ok (.bool false) w:=by kernel_rfl
theorem ab4 (g c:Nat) (l:List (W_)) (h:Mp 188 w g c l) (hl:l.length<=1000):P_ m 160 #[Q_ g l.length c] w λe w'=>Keep No w w'/\∃v,e=.returned v/\w'.ownsRow w.heap.size 188 2 v l.length (rc l):=by
 obtain⟨s,q,b,d,f⟩:=info_parts ai8;have x:=bn4 w (ad:=(S_ g)) (n:=l.length) (c:=c);gi_enter func160,ntmps160;gi_wp2_with (gi_at_builtin;refine wpListIn_append_own _ rfl (.tmp 5) (.tmp 6) 95 rfl w.heap.size 188 s (.agg #[b_ 0,b_ 0]) 2 16 underlying95 q b d f rfl (by decide) _ 0 [] rfl O8 (S_ g) l.length c (rc l) rfl (by rw[Wp]) (λj u i=>((p_ No w).alloc _).has (by have a:=(LQ.1 i).1;rw[Wp]at a;rw[Addr.add_lit,Nat.zero_add];exact(Rw.cell h a).trans i)) (mf l) (by unfold maxLen;omega) (by omega) (by simp) ?_;intro t w1 p o _);go_ret;refine⟨((p_ No w).alloc (.cells #[] 188)).trans (Ey (S:=At w.heap.size) o (λk h _=>(x_ (show some w.heap.size=some k from h)).symm)) (λk r h=>absurd r (by rw[show k=w.heap.size from h];exact Nat.lt_irrefl _)),t,rfl,?_⟩;simpa using p
theorem ae8 (p:Nat) (kb g c:Nat) (l:List (W_)) (hk:w.cell? (T_ kb p)=some (Q_ g l.length c)) (h:Mp 188 w g c l) (hl:l.length<=1000):P_ m 106 #[.pointer (some (T_ kb p))] w λe w'=>Keep No w w'/\∃v,e=.returned v/\w'.ownsRow w.heap.size 188 2 v l.length (rc l):=by
 have b:=λm=>ab4 m w g c l h hl
 gi_enter func106,ntmps106;gi_wp2_with (gi_at_call 160;refine(b _).mono ?_;rintro e w1 ⟨a,v,rfl,d⟩);go_ret;exact⟨a,v,by simp,d⟩
theorem vS (base:Nat) (v:n_) (l:List (W_)) (h:w.ownsRow base 188 2 v l.length (rc l)) (hl:l.length<=1000):P_ m 105 #[v] w λe w'=>Keep No w w'/\∃v',e=.returned v'/\w'.ownsRow w.heap.size 174 2 v' l.length (rc l):=by
 obtain⟨I,p,q,t,u⟩:=info_parts ui;obtain⟨s,c,H⟩:∃s c,v=.slice s l.length c:=by
  obtain⟨e,e2⟩|⟨g,cap,b,e,_⟩:=h.2
  .exact⟨none,0,by rw[e,e2]⟩
  .exact⟨_,_,e⟩
 subst H;gi_enter func105,ntmps105;gi_wp2;gi_loopw [3,8] (λa i wr=>∃k:Nat,k<=l.length/\i=b_ k/\Keep No w wr/\wr.ownsRow w.heap.size 174 2 a k (rc (l.take k))) (λ_ i _=>l.length-(intOf i).toNat)
 case atStart=>exact⟨0,by omega,rfl,p_ _ _,World.ownsRow_nil _ _ _ _⟩
 case round=>
  obtain⟨k,A,rfl,KK,z⟩:=hrel
  by_cases E:k<l.length
  .have o:l[k]?=some l[k]:=Ii E;generalize l[k]=r at o;obtain⟨g,cap,b,rfl,G⟩:∃g cap b,s=some (S_ g)/\w.heap[g]?=some (O_ b cap):=by
    obtain⟨_,e2⟩|⟨g,cap,b,e,_,D,_⟩:=h.2
    .omega
    .cases e;exact⟨g,_,b,rfl,D⟩
   obtain⟨J,q1⟩:=Wq l k r o;have K:=KK.has ((h.cellAt (k*2) (by omega)).trans J);have d1:=KK.has ((h.cellAt (k*2+1) (by omega)).trans q1);have C:(wr.alloc (.cells #[b_ (r.1:Nat),b_ (r.2:Nat)] 188)).heap[wr.heap.size]?=some (O_ #[b_ (r.1:Nat),b_ (r.2:Nat)] 188):=heap_alloc_new rfl;have j:Keep No wr (wr.alloc (.cells #[b_ (r.1:Nat),b_ (r.2:Nat)] 188)):=(p_ _ _).alloc _;gi_upto_region 5 with fail;generalize wr.alloc (.cells #[b_ (r.1:Nat),b_ (r.2:Nat)] 188)=f at*;have L:f.cell? (S_ wr.heap.size)=some (b_ (r.1:Nat)):=bce C rfl;have e1:f.cell? (T_ wr.heap.size 1)=some (b_ (r.2:Nat)):=bce C rfl;have n:Keep No f (f.alloc (.cells #[b_ (r.1:Nat),b_ (r.2:Nat)] 174)):=(p_ _ _).alloc _;have B:=Iw (Iw z j) n;gi_wp2_with (gi_at_builtin;refine wpListIn_append_own _ rfl (.tmp 12) (.tmp 18) 138 rfl w.heap.size 174 I (.agg #[b_ 0,b_ 0]) 2 16 underlying138 p q t u rfl (by decide) _ k (rc (l.take k)) rfl B (S_ f.heap.size) 1 1 [b_ (r.1:Nat),b_ (r.2:Nat)] rfl rfl (YX (heap_alloc_new rfl)) (by simp[Value.oneCell']) (by unfold maxLen;omega) (by omega) (Nat.le_trans KK.size (Nat.le_trans j.size n.size)) ?_;intro v' w4 d y _;have F:Keep No w w4:=((KK.then j).then n).trans (Ey y λk A _=>A) (λx D e=>absurd (B.lt x e).1 (by omega));clear y);go_roundw
   case rel=>exact⟨k+1,by omega,by go_num,F,by rw[List.take_add_one,o,PT];exact d⟩
   case measure=>simp[intOf];omega
  .obtain rfl:k=l.length:=(by omega);gi_wp2;go_ret;exact⟨KK,by simpa using z⟩
end
theorem VO {w:o_} {base base':Nat} {e:j_} {size:Nat} {v:n_} {n:Nat} {xs:U_} (h:w.ownsRow base e size v n xs) (hb:base'<=base):w.ownsRow base' e size v n xs:=by
 obtain⟨j,i⟩:=h;refine⟨j,?_⟩;obtain i|⟨g,cap,f,a,b,c,d⟩:=i
 .exact .inl i
 .exact .inr ⟨g,cap,f,a,Nat.le_trans hb b,c,d⟩
theorem tq {w:o_} {base:Nat} {v:n_} {l:List (W_)} (h:w.ownsRow base 174 2 v l.length (rc l)):eQ w v l:=by
 obtain⟨e,e2⟩|⟨g,cap,a,rfl,_,d,_⟩:=h.2
 .exact⟨none,0,by rw[e,e2],λc=>absurd c (by omega)⟩
 .refine⟨_,cap,rfl,λ_=>⟨g,rfl,⟨a,d⟩,λi r b=>?_⟩⟩;have j:=(LQ.1 b).1;obtain⟨f,q1⟩:=Wq l i r b;exact⟨(h.cellAt (i*2) (by omega)).trans f,(h.cellAt (i*2+1) (by omega)).trans q1⟩
def bo9 (base:Nat) (K:KS) (i:Nat) (v:n_) (W:o_):Prop:=(i=3->W.ownsRow base 186 2 v K.core.length (rc K.core))/\(i=4->W.ownsRow base 174 2 v K.core.length (rc K.core))/\(i=8->W.ownsRow base 188 2 v K.swap.length (rc K.swap))/\(i=9->W.ownsRow base 174 2 v K.swap.length (rc K.swap))
section
variable (m:Nat) (w:o_)
theorem az1 (K:KS) (h:AV K w) (h1:K.core.length<=1000) (h2:K.swap.length<=1000):P_ m 59 #[R_ K.kb] w λe w'=>Keep No w w'/\∃v v',e=.returned (.tuple #[v,v'])/\w'.ownsRow w.heap.size 174 2 v K.core.length (rc K.core)/\w'.ownsRow w.heap.size 174 2 v' K.swap.length (rc K.swap):=by
 gi_enter func59,ntmps59;gi_wp2;refine Cf (P:=prog) No _ rfl rfl (by kernel_rfl) 10 14 [0,1,2,5,6,7] [3,4,8,9] (by kernel_rfl) (by rfl) (bo9 w.heap.size K) (λ_ _ _ _ _ h a=>⟨λe=>Iw (h.1 e) a,λe=>Iw (h.2.1 e) a,λe=>Iw (h.2.2.1 e) a,λe=>Iw (h.2.2.2 e) a⟩) _ _ rfl rfl ?_;gi_wp2;refine⟨rfl,by kernel_rfl,?_,?_,?_⟩
 .intro W a
  repeat' (refine Ae ?_ ?_)
  all_goals first|exact trivial|gi_wp2
 .intro i o u W a d;have KW:Keep No w W:=(p_ No w).drew.then a;have g:=h.no KW;obtain⟨r,n,l⟩:=g.k;obtain rfl|rfl|rfl|rfl:=(by simpa using o:i=3\/i=4\/i=8\/i=9)
  .refine Bh rfl λKK f=>?_
   show wpListIn NF m prog _ _ _ (Act.put (Act.put (Act.put (Act.put _ (some 7) (u 3)) (some 8) (u 4)) (some 12) (u 8)) (some 13) (u 9)) _;gi_wp2_with (gi_at_call 104;refine(ae9 _ W 0 K.kb K.cg K.cc K.core ((Af n 0).trans l.c0) g.mc h1).mono ?_;rintro e w2 ⟨b,v,rfl,c⟩);exact⟨_,rfl,b,λ_=>VO c KW.size,(λh=>absurd h (by decide)),(λh=>absurd h (by decide)),λh=>absurd h (by decide)⟩
  .have j:=(d 3 (by simp) (by decide)).1 rfl;refine Bh rfl λKK f=>?_
   show wpListIn NF m prog _ _ _ (Act.put (Act.put (Act.put (Act.put _ (some 7) (u 3)) (some 8) (u 4)) (some 12) (u 8)) (some 13) (u 9)) _;gi_wp2_with (gi_at_call 103;refine(vT _ W w.heap.size (u 3) K.core j h1).mono ?_;rintro e w2 ⟨b,v,rfl,c⟩);exact⟨_,rfl,b,(λh=>absurd h (by decide)),λ_=>VO c KW.size,(λh=>absurd h (by decide)),λh=>absurd h (by decide)⟩
  .refine Bh rfl λKK f=>?_
   show wpListIn NF m prog _ _ _ (Act.put (Act.put (Act.put (Act.put _ (some 7) (u 3)) (some 8) (u 4)) (some 12) (u 8)) (some 13) (u 9)) _;gi_wp2_with (gi_at_call 106;refine(ae8 _ W 1 K.kb K.sg K.sc K.swap ((Af n 1).trans l.c1) g.ms h2).mono ?_;rintro e w2 ⟨b,v,rfl,c⟩);exact⟨_,rfl,b,(λh=>absurd h (by decide)),(λh=>absurd h (by decide)),λ_=>VO c KW.size,λh=>absurd h (by decide)⟩
  .have j:=(d 8 (by simp) (by decide)).2.2.1 rfl;refine Bh rfl λKK f=>?_
   show wpListIn NF m prog _ _ _ (Act.put (Act.put (Act.put (Act.put _ (some 7) (u 3)) (some 8) (u 4)) (some 12) (u 8)) (some 13) (u 9)) _;gi_wp2_with (gi_at_call 105;refine(vS _ W w.heap.size (u 8) K.swap j h2).mono ?_;rintro e w2 ⟨b,v,rfl,c⟩);exact⟨_,rfl,b,(λh=>absurd h (by decide)),(λh=>absurd h (by decide)),(λh=>absurd h (by decide)),λ_=>VO c KW.size⟩
 .intro u W a d;have KW:Keep No w W:=(p_ No w).drew.then a;have p:=(d 4 (by simp)).2.1 rfl;have q:=(d 9 (by simp)).2.2.2 rfl;show wpListIn NF m prog _ _ _ (Act.put (Act.put (Act.put (Act.put _ (some 7) (u 3)) (some 8) (u 4)) (some 12) (u 8)) (some 13) (u 9)) _;gi_wp2;go_ret2;exact⟨KW,_,_,by simp,p,q⟩
end
theorem ap7 {w:o_} {rb:Nat} {x y z:n_} (h:w.heap[rb]?=some (O_ #[x,y,z] 147)):w.cell? (S_ rb)=some x/\w.cell? (T_ rb 1)=some y/\w.cell? (T_ rb 2)=some z:=by
 refine⟨?_,?_,?_⟩<;>rw[Af h]<;>rfl
theorem fH {w:o_} {rb:Nat} {a b c:n_} {x y:Int} {s:d_ f_} {n k:Nat} (h:w.heap[rb]?=some (O_ #[a,b,c] 147)):∃w',(Instr.storeAt 147 (R_ rb) (.agg #[b_ x,b_ y,.slice s n k])).run prog w=.ok () w'/\Keep (At rb) w w'/\w'.heap[rb]?=some (O_ #[b_ x,b_ y,.slice s n k] 147):=by
 have e:(Instr.storeAt 147 (R_ rb) (.agg #[b_ x,b_ y,.slice s n k])).run prog w=(stores rb 0 [b_ x,b_ y,.slice s n k] (.pure ())).run prog w:=by kernel_rfl
 obtain⟨w',d,f,g⟩:=GR (P:=prog) (k:=Sem.pure ()) [b_ x,b_ y,.slice s n k] 0 _ w h (by simp) (by simp[Value.oneCell']);refine⟨w',?_,f,?_⟩
 .rw[e,d];rfl
 .rw[g];simp[Sz]
section
variable (m:Nat) (w:o_)
theorem sF (K:KS) (f n:Nat) (name:Int) (h:AV K w) (tf:K.T f=(10,0)) (hl:LenAt w f n):P_ m 161 #[R_ f,b_ name] w λe w'=>Keep No w w'/\∃a c,e=.returned (.agg #[b_ name,b_ (K.op f),.slice a n c]):=by
 have A:Keep No w (w.alloc (.cells #[b_ 0,b_ 0,.slice none 0 0] 147)):=(p_ _ _).alloc _;have L:(w.alloc (.cells #[b_ 0,b_ 0,.slice none 0 0] 147)).heap[w.heap.size]?=some (O_ #[b_ 0,b_ 0,.slice none 0 0] 147):=heap_alloc_new rfl;have V:=h.no A;have q:=hl.keep A id;gi_enter func161,ntmps161;gi_upto_region 1 with fail;generalize w.alloc (.cells #[b_ 0,b_ 0,.slice none 0 0] 147)=w1 at*;obtain⟨u,p,X⟩:=V.fl.file f tf;obtain⟨S,N,r,t,z⟩:=info_parts info3;have d1:w1.cell? (T_ f 1)=some (b_ (K.op f)):=bce p rfl;obtain rfl|⟨b,M,j,rfl,W,Q,H,tg⟩:=X
 .have F:n=0:=q.eq ⟨_,_,_,p⟩;subst F;have E:w1.cell? (S_ f)=some (.slice none 0 0):=bce p rfl;have l:=run_make (P:=prog) w1 22 3 S (b_ 0) underlying22 N r .i64 .i64 0 0 (by omega) (by omega) (by rw[z];omega) (by omega);rw[t]at l;have l:(Instr.makeSlice 22 (b_ 0) (b_ 0)).run prog w1=.ok (Q_ w1.heap.size 0 0) (w1.alloc (.cells (madeCells #[b_ 0] 0) 3)):=l;have o:Keep No w1 (w1.alloc (.cells (madeCells #[b_ 0] 0) 3)):=(p_ _ _).alloc _;have U:=o.has E;have e1:=o.has d1;obtain⟨Y,B,C,D⟩:=fH (x:=name) (y:=K.op f) (s:=some (S_ w1.heap.size)) (n:=0) (k:=0) (o.old L id);gi_wp2;refine wpIn_loop_once ?_;gi_wp2_with (refine Dk rfl (.tmp 4) (.tmp 36) 147 rfl rfl rfl B ?_);refine bodyPost_ret (v:=.agg #[b_ name,b_ (K.op f),Q_ w1.heap.size 0 0]) (by simp[results,results161,go_sem,ap7 D]) rfl ?_;exact⟨(A.then o).trans C (λk O e=>absurd (show k=w.heap.size from e) (by omega)),_,_,rfl⟩
 .have F:n=j.length:=q.eq ⟨_,M,_,p⟩;subst F;have E:w1.cell? (S_ f)=some (Q_ b j.length M):=bce p rfl;have l:=run_make (P:=prog) w1 22 3 S (b_ 0) underlying22 N r .i64 .i64 j.length j.length (by omega) (by omega) (by rw[z];omega) (by omega);rw[t]at l;simp only[Int.toNat_natCast,Nat.mul_one,Value.cells]at l;have r0:=WQ w1 j.length;have o:Keep No w1 (w1.alloc (.cells (madeCells #[b_ 0] j.length) 3)):=(p_ _ _).alloc _;generalize w1.alloc (.cells (madeCells #[b_ 0] j.length) 3)=w2 at*;have U:=o.has E;gi_wp2;gi_loopw [6,7,19] (λ_ _ i wr=>∃k:Nat,k<=j.length/\i=b_ k/\Keep No w1 wr/\∃g,Fe 3 .i64 wr w1.heap.size j.length g) (λ_ _ i _=>j.length-(intOf i).toNat)
  case atStart=>exact⟨0,by omega,rfl,o,_,r0⟩
  case round=>
   obtain⟨k,O,rfl,KK,g,I⟩:=hrel
   by_cases J:k<j.length
   .have G:j[k]?=some j[k]:=Ii J;generalize j[k]=x at G;have R:=H x (t_ G);have d:=KK.has ((W.cell (i:=k) (by omega)).trans (by simp[Az,G]:(Az j)[k]?=some (a_ (x:Nat))));have Z:=I.cell J;have ez:=I.fz k;gi_wp2;go_roundw
    case rel=>exact⟨k+1,by omega,by go_num,KK.setCell _ (λR=>absurd R (Nat.lt_irrefl _)),_,I.set k x⟩
    case measure=>simp[intOf];omega
   .obtain rfl:k=j.length:=(by omega);have e1:=KK.has d1;obtain⟨Y,B,C,D⟩:=fH (x:=name) (y:=K.op f) (s:=some (S_ w1.heap.size)) (n:=j.length) (k:=j.length) (KK.old L id);gi_wp2_with (refine Dk rfl (.tmp 4) (.tmp 36) 147 rfl rfl rfl B ?_);refine bodyPost_ret (v:=.agg #[b_ name,b_ (K.op f),Q_ w1.heap.size j.length j.length]) (by simp[results,results161,go_sem,ap7 D]) rfl ?_;exact⟨(A.then KK).trans C (λk O e=>absurd (show k=w.heap.size from e) (by omega)),_,_,rfl⟩
end
structure FLs (xs:U_) (fs:List (Int×W_)):Prop where
 len:xs.length=fs.length*3
 get:∀i q,fs[i]?=some q->xs[i*3]?=some (b_ q.1)/\xs[i*3+1]?=some (b_ (q.2.1:Nat))/\∃a c,xs[i*3+2]?=some (.slice a q.2.2 c)
theorem FLs.nil:FLs [] []:=⟨rfl,λi q h=>by simp at h⟩
theorem FLs.snoc {xs:U_} {fs:List (Int×W_)} {x:Int} {o n c:Nat} {a:d_ f_} (h:FLs xs fs):FLs (xs++[b_ x,b_ (o:Nat),.slice a n c]) (fs++[(x,o,n)]):=by
 refine⟨by simp[h.len];omega,λi q b=>?_⟩;have f:=h.len;by_cases e:i<fs.length
 .rw[List.getElem?_append_left e]at b;rw[List.getElem?_append_left (by omega),List.getElem?_append_left (by omega),List.getElem?_append_left (by omega)];exact h.get i q b
 .rw[List.getElem?_append_right (by omega)]at b;have d:i=fs.length:=by have:=(LQ.1 b).1;simp at this;omega
  subst d;simp at b;subst b;rw[List.getElem?_append_right (by omega),List.getElem?_append_right (by omega),List.getElem?_append_right (by omega)];simp[show fs.length*3-xs.length=0 by omega,show fs.length*3+1-xs.length=1 by omega,show fs.length*3+2-xs.length=2 by omega]
def Rt (K:KS) (ln:Nat->Nat):Nat->List (Int×W_)
 |0=>[]
 |k+1=>Rt K ln k++match K.nm k with|some f=>[((k:Int),K.op f,ln f)]|none=>[]
def YH (K:KS) (ln:Nat->Nat) (l:List Nat):List (Int×W_):=l.map λf=>(-1,K.op f,ln f)
theorem aj0:(prog.info? 147).map (λi=>(i.zero,i.size,i.bytes))=some (some (.agg #[b_ 0,b_ 0,.slice none 0 0]),3,40):=by kernel_rfl
theorem U9 {w:o_} {b:Nat} {x y z:n_} {t:j_} (h:w.heap[b]?=some (O_ #[x,y,z] t)):∀q u,([x,y,z]:U_)[q]?=some u->w.cell? (((S_ b):f_).add q)=some u:=λq u a=>by
 rw[Addr.add_lit,Nat.zero_add,Af h q,<-a];simp
def rZ (w:o_) (base:Nat) (v:n_) (fs:List (Int×W_)):Prop:=∃xs,w.ownsRow base 147 3 v fs.length xs/\FLs xs fs
section
variable (m:Nat) (w:o_)
theorem ai4 (K:KS) (ln:Nat->Nat) (h:AV K w) (hl:∀b,K.T b=(10,0)->LenAt w b (ln b)) (hnl:K.nl.length<=1000):P_ m 107 #[.pointer (some (T_ K.kb 4))] w λe w'=>Keep No w w'/\∃v,e=.returned v/\rZ w' w.heap.size v (Rt K ln 16++YH K ln K.nl):=by
 obtain⟨V,z,E,F,G⟩:=info_parts aj0;obtain⟨es,Q,O⟩:=ug h;gi_enter func107,ntmps107;gi_wp2_with (refine UN rfl (.tmp 10) 102 rfl rfl Q ?_);gi_loopw [3,4,5,12] (λa _ _ i wr=>∃k:Nat,k<=16/\i=b_ k/\Keep No w wr/\rZ wr w.heap.size a (Rt K ln k)) (λ_ _ _ i _=>16-(intOf i).toNat)
 case atStart=>exact⟨0,by omega,rfl,p_ _ _,[],World.ownsRow_nil _ _ _ _,FLs.nil⟩
 case round=>
  obtain⟨k,A,rfl,KK,xs,r,d⟩:=hrel
  by_cases R:k<16
  .have S:(k:Int)<16:=(by omega);have q:=O k R wr;have U:=h.no KK;have B:(Rt K ln k).length<=16:=by
    have key:∀k,(Rt K ln k).length<=k:=λk=>by
     induction k with
     |zero=>exact w_ _
     |succ k ih=>simp only[Rt,List.length_append];cases K.nm k<;>simp<;>omega
    exact Nat.le_trans (key k) A
   cases hnm:K.nm k with
   |none=>
    rw[hnm]at q
    simp only[XX]at q
    gi_wp2_with (refine Qx rfl (.tmp 11) (.tmp 12) 102 rfl rfl rfl q ?_)
    go_roundw
    case rel=>exact⟨k+1,by omega,by go_num,KK,xs,by simpa [Rt,hnm]using r,by simpa [Rt,hnm]using d⟩
    case measure=>simp[intOf];omega
   |some f=>
    rw[hnm]at q
    simp only[XX,ptr]at q
    obtain⟨ks,_,N⟩:=U.k
    have H:=(N.nm k R).2 f hnm
    have L:=λm=>sF m wr K f (ln f) k U H ((hl f H).keep KK id)
    gi_wp2_with (first|refine Qx rfl (.tmp 11) (.tmp 12) 102 rfl rfl rfl q ?_|(gi_at_call 161;refine(L _).mono ?_;rintro e w2 ⟨t,a,c,rfl⟩;have y:Keep No w2 (w2.alloc (.cells #[b_ (k:Int),b_ (K.op f:Nat),.slice a (ln f) c] 147)):=(p_ _ _).alloc _;have D:=Iw (Iw r t) y;have KC:Keep No w (w2.alloc (.cells #[b_ (k:Int),b_ (K.op f:Nat),.slice a (ln f) c] 147)):=(KK.then t).then y)|(gi_at_builtin;refine wpListIn_append_own _ rfl (.tmp 18) (.tmp 22) 144 rfl w.heap.size 147 V (.agg #[b_ 0,b_ 0,.slice none 0 0]) 3 40 underlying144 z E F G rfl (by decide) _ (Rt K ln k).length xs rfl D (S_ w2.heap.size) 1 1 [b_ (k:Int),b_ (K.op f:Nat),.slice a (ln f) c] rfl rfl (U9 (heap_alloc_new rfl)) (by simp[Value.oneCell']) (by unfold maxLen;omega) (by omega) KC.size ?_;intro W w4 l s _;have J:Keep No w w4:=KC.trans (Ey s λk A _=>A) (λx hx e=>absurd (D.lt x e).1 (by omega));clear s))
    go_roundw
    case rel=>exact⟨k+1,by omega,by go_num,J,_,by simpa [Rt,hnm]using l,by simpa [Rt,hnm]using d.snoc (x:=k) (o:=K.op f) (n:=ln f) (a:=a) (c:=c)⟩
    case measure=>simp[intOf];omega
  .obtain rfl:k=16:=(by omega);have B:(Rt K ln 16).length<=16:=by
    have key:∀k,(Rt K ln k).length<=k:=λk=>by
     induction k with
     |zero=>exact w_ _
     |succ k ih=>simp only[Rt,List.length_append];cases K.nm k<;>simp<;>omega
    exact key 16
   obtain⟨ks,P,N⟩:=h.k;obtain⟨v,q,Z,M⟩:=N.nl;have q20:=KK.has ((Af P 20).trans q);obtain⟨rfl,p⟩|⟨g,c,rfl,hR,tg⟩:=Z
   .gi_wp2;refine wpIn_loop_once ?_;gi_wp2;go_ret;exact⟨KK,_,rfl,xs,by rw[p];simpa [YH]using r,by rw[p];simpa [YH]using d⟩
   .gi_wp2;gi_loopw [3,7,30] (λa _ i X=>∃j:Nat,j<=K.nl.length/\i=b_ j/\Keep No w X/\rZ X w.heap.size a (Rt K ln 16++YH K ln (K.nl.take j))) (λ_ _ i _=>K.nl.length-(intOf i).toNat)
    case atStart=>exact⟨0,by omega,rfl,KK,xs,by simpa [YH]using r,by simpa [YH]using d⟩
    case round=>
     obtain⟨j,hj,rfl,u,xs,r,d⟩:=hrel
     by_cases C:j<K.nl.length
     .have I:K.nl[j]?=some K.nl[j]:=Ii C;generalize K.nl[j]=f at I;have H:=M f (t_ I);have d3:=u.has ((hR.cell (i:=j) (by omega)).trans (by simp[Bj,I,ptr]:(Bj K.nl)[j]?=some (R_ f)));have L:=λm=>sF m _ K f (ln f) (-1) (h.no u) H ((hl f H).keep u id)
      have Y:(Rt K ln 16++YH K ln (K.nl.take j)).length<=2000:=(by simp[YH];omega);have e2:Rt K ln 16++YH K ln (K.nl.take (j+1))=(Rt K ln 16++YH K ln (K.nl.take j))++[(-1,K.op f,ln f)]:=(by rw[List.take_add_one,I];simp[YH]);gi_wp2_with (first|(gi_at_call 161;refine(L _).mono ?_;rintro e w2 ⟨t,a,c,rfl⟩;have y:Keep No w2 (w2.alloc (.cells #[b_ (-1),b_ (K.op f:Nat),.slice a (ln f) c] 147)):=(p_ _ _).alloc _;have D:=Iw (Iw r t) y;have KC:Keep No w (w2.alloc (.cells #[b_ (-1),b_ (K.op f:Nat),.slice a (ln f) c] 147)):=(u.then t).then y)|(gi_at_builtin;refine wpListIn_append_own _ rfl (.tmp 34) (.tmp 37) 144 rfl w.heap.size 147 V (.agg #[b_ 0,b_ 0,.slice none 0 0]) 3 40 underlying144 z E F G rfl (by decide) _ (Rt K ln 16++YH K ln (K.nl.take j)).length xs rfl D (S_ w2.heap.size) 1 1 [b_ (-1),b_ (K.op f:Nat),.slice a (ln f) c] rfl rfl (U9 (heap_alloc_new rfl)) (by simp[Value.oneCell']) (by unfold maxLen;omega) (by omega) KC.size ?_;intro W w4 l s _;have J:Keep No w w4:=KC.trans (Ey s λk A _=>A) (λx hx e=>absurd (D.lt x e).1 (by omega));clear s));go_roundw
      case rel=>exact⟨W,_,b_ ((j:Int)+1),_,_,_,_,_,_,_,_,_,⟨j+1,by omega,by simp,J,_,by rw[e2,List.length_append];exact l,by rw[e2];exact d.snoc (x:=-1) (o:=K.op f) (n:=ln f) (a:=a) (c:=c)⟩,rfl⟩
      case measure=>simp[intOf];omega
     .obtain rfl:j=K.nl.length:=(by omega);gi_wp2;go_ret;exact⟨u,_,rfl,xs,by simpa using r,by simpa using d⟩
theorem aj9 (K:KS) (ln:Nat->Nat) (h:AV K w) (hl:∀b,K.T b=(10,0)->LenAt w b (ln b)) (hnl:K.nl.length<=1000):P_ m 63 #[R_ K.kb] w λe w'=>Keep No w w'/\∃v,e=.returned v/\rZ w' w.heap.size v (Rt K ln 16++YH K ln K.nl):=by
 have c:=λm=>ai4 m w K ln h hl hnl
 gi_enter func63,ntmps63;gi_wp2_with (gi_at_call 107;refine(c _).mono ?_;rintro e w1 ⟨a,v,rfl,d⟩);go_ret;exact⟨a,v,by simp,d⟩
end
theorem info4:(prog.info? 4).map (λi=>(i.zero,i.size,i.bytes))=some (some (.bool false),1,1):=by kernel_rfl
theorem Xx (w:o_) (n:Nat):I4 (w.alloc (.cells (madeCells #[.bool false] n) 4)) w.heap.size n (λ_=>false):=by
 refine⟨madeCells #[.bool false] n,heap_alloc_new rfl,by simp[madeCells],λi a=>?_⟩;simp[madeCells,a,Nat.mod_one]
def Jo (K:KS) (k i:Nat):Bool:=decide (1<=Dq i K.core+BD (EX i K.ps) (K.AP.take k))
def KQ (K:KS) (k i:Nat):Bool:=decide (1<=Dq i K.swap+BD (JR i K.ps) (K.AP.take k))
theorem Ub {f:Nat->Nat} {l:List Nat} {k b:Nat} (h:l[k]?=some b):BD f (l.take k)+f b<=BD f l:=by
 have e:l=l.take k++b::l.drop (k+1):=by
  have d:=(LQ.1 h)
  obtain⟨a,c⟩:=d
  conv=>lhs;rw[<-List.take_append_drop k l,List.drop_eq_getElem_cons a,c]
 conv=>rhs;rw[e,OA]
 simp only[BD];omega
theorem O3 {f:Nat->Nat} {l:List Nat} {k b:Nat} (h:l[k]?=some b):BD f (l.take (k+1))=BD f (l.take k)+f b:=Y3 h
theorem iq {NC NS k b:Nat} {K:KS} {r:PR} (ok:Ez NC NS K) (hg:K.AP[k]?=some b) (hr:K.ps b=some r):(∀i,r.sw<=i->i<r.sw+Aj r.Ag.length->KQ K k i=false)/\∀i,(KQ K k i || uQ r.sw (Aj r.Ag.length) i)=KQ K (k+1) i:=by
 refine⟨λi d e=>?_,λi=>?_⟩
 .have j:=ok.sw.pl b r hr;have h:=ok.sw.cnt i (by omega);have g:=Ub (f:=JR i K.ps) hg;rw[F5 hr,Uu d e]at g;simp[KQ];omega
 .unfold KQ;rw[O3 hg,F5 hr];have:=QO (c:=Dq i K.swap+BD (JR i K.ps) (K.AP.take k)) (i:=i) (a:=r.sw) (n:=Aj r.Ag.length);rw[this];simp only[decide_eq_decide];omega
theorem iw {NC NS k b a:Nat} {K:KS} {r:PR} (ok:Ez NC NS K) (hg:K.AP[k]?=some b) (hr:K.ps b=some r) (hc:r.co=a):(∀i,a<=i->i<a+Aj r.Ag.length->Jo K k i=false)/\∀i,(Jo K k i || uQ a (Aj r.Ag.length) i)=Jo K (k+1) i:=by
 have e:∀i,EX i K.ps b=Ny i a (Aj r.Ag.length):=λi=>by rw[DX hr,if_neg (by rw[hc];omega),hc];rfl
 refine⟨λi d g=>?_,λi=>?_⟩
 .obtain⟨_,j⟩:=ok.co.pl b r hr;obtain⟨l,e1,e2,_⟩:=j.resolve_left (by rw[hc];omega);have m:=ok.co.cnt i (by omega);have h:=Ub (f:=EX i K.ps) hg;rw[e,Uu d g]at h;simp[Jo];omega
 .unfold Jo;rw[O3 hg,e];have:=QO (c:=Dq i K.core+BD (EX i K.ps) (K.AP.take k)) (i:=i) (a:=a) (n:=Aj r.Ag.length);rw[this];simp only[decide_eq_decide];omega
theorem Ze {k b:Nat} {K:KS} {r:PR} (hg:K.AP[k]?=some b) (hr:K.ps b=some r) (hc:r.co=-1) (i:Nat):Jo K k i=Jo K (k+1) i:=by
 unfold Jo;rw[O3 hg,DX hr,if_pos hc]
 rfl
theorem xu {k b:Nat} {K:KS} {r:PR} (hg:K.AP[k]?=some b) (hr:K.ps b=some r) (hc:r.Ag=[]) (i:Nat):KQ K k i=KQ K (k+1) i:=by
 unfold KQ;rw[O3 hg,F5 hr,hc];simp[Aj,Oj]
theorem ό {NC NS k b:Nat} {K:KS} {r:PR} {w w':o_} {e:Ending} (ok:Ez NC NS K) (hg:K.AP[k]?=some b) (hr:K.ps b=some r) (h:ZA K r.pid w e w'):Keep No w w'/\∃x y z s:Int,e=.returned (.tuple #[.agg #[b_ x,b_ y,b_ z],b_ s])/\(r.en=true->s=3)/\(r.en=false->s=0/\x=(r.sw:Nat)/\y=r.co/\z=(Aj r.Ag.length:Nat)):=by
 have i:=t_ hg;obtain⟨m,x,y,z,s,n,(⟨_,j⟩|⟨c,l,d,a,o,f,g⟩)|⟨t,c,l,⟨d,a,o,f⟩,g,p,q⟩⟩:=h
 .exact absurd rfl (j b i r hr)
 .obtain rfl:=ok.one c l b r d i a hr (by omega);rw[hr]at a;cases a;exact⟨m,x,y,z,s,n,λ_=>g,λe=>by rw[f]at e;cases e⟩
 .obtain rfl:=ok.one c l b r d i a hr (by omega);rw[hr]at a;cases a;exact⟨m,x,y,z,s,n,(λe=>by rw[f]at e;cases e),λ_=>⟨t,g,p,q⟩⟩
theorem ϯ {NC NS:Nat} {K:KS} (ok:Ez NC NS K):(∀i,i<NC->Jo K K.AP.length i=true)/\∀i,i<NS->KQ K K.AP.length i=true:=by
 refine⟨λi a=>?_,λi a=>?_⟩
 .have:=ok.co.cnt i a;rw[Oj]at this;unfold Jo;rw[List.take_length];simp;omega
 .have:=ok.sw.cnt i a;rw[Oj]at this;unfold KQ;rw[List.take_length];simp;omega
def PL:List (Int×W_)->Nat
 |[]=>0
 |q::l=>Aj q.2.2+PL l
theorem P9:∀l k:List (Int×W_),PL (l++k)=PL l+PL k
 |[],k=>by simp[PL]
 |q::l,k=>by simp only[List.cons_append,PL,P9 l k];omega
theorem vY {l:List (Int×W_)} {k:Nat} {q:Int×Nat×Nat} (h:l[k]?=some q):PL (l.take (k+1))=PL (l.take k)+Aj q.2.2:=by
 rw[List.take_add_one,h,P9];simp[PL]
theorem Ι (K:KS) (ln:Nat->Nat):∀k:Nat,PL (Rt K ln k)=BD (Ot ln K.nm) (List.range k)
 |0=>rfl
 |k+1=>by
  simp only[Rt]
  rw[P9,Ι K ln k,O5]
  cases hk:K.nm k with
  |none=>rw[WN hk];rfl
  |some f=>rw[gJ hk];rfl
theorem Κ (K:KS) (ln:Nat->Nat):∀l:List Nat,PL (YH K ln l)=BD (λb=>Aj (ln b)) l
 |[]=>rfl
 |b::l=>by
  have:=Κ K ln l
  unfold YH at this ⊢
  simp only[List.map_cons,PL,BD,this]
def Ahead (p q:Int×W_):Prop:=0<=q.1->0<=p.1/\p.1<q.1
theorem ZO (K:KS) (ln:Nat->Nat):∀(k:Nat) (q:Int×W_),q∈Rt K ln k->0<=q.1/\q.1<k/\∃i f,i<k/\K.nm i=some f/\q.2=(K.op f,ln f)
 |0,q,h=>by simp[Rt]at h
 |k+1,q,h=>by
  simp only[Rt]at h
  obtain h|h:=List.mem_append.1 h
  .obtain⟨a,c,i,f,d,b⟩:=ZO K ln k q h;exact⟨a,by omega,i,f,by omega,b⟩
  .cases hk:K.nm k with
   |none=>rw[hk]at h;simp at h
   |some f=>
    rw[hk]at h
    obtain rfl:q=((k:Int),K.op f,ln f):=by simpa using h
    exact⟨by simp,by push_cast;omega,k,f,by omega,hk,rfl⟩
theorem Zm (K:KS) (ln:Nat->Nat):∀k:Nat,(Rt K ln k).Pairwise Ahead
 |0=>.nil
 |k+1=>by
  simp only[Rt]
  rw[List.pairwise_append]
  refine⟨Zm K ln k,by cases K.nm k<;>simp,λp d q a _=>?_⟩
  obtain⟨b,c,_⟩:=ZO K ln k p d
  cases hk:K.nm k with
  |none=>rw[hk]at a;simp at a
  |some f=>
   rw[hk]at a
   obtain rfl:q=((k:Int),K.op f,ln f):=by simpa using a
   exact⟨b,c⟩
structure bz8 (fs:List (Int×W_)):Prop where
 len:∀q∈fs,q.2.2<=64
 opn:∀q∈fs,q.1<0->1<=q.2.1
 ord:fs.Pairwise Ahead
 sum:PL fs<=40
 n:fs.length<=1000
theorem aa6 {NC NS:Nat} {K:KS} {w:o_} {ln:Nat->Nat} (h:AV K w) (ok:Ez NC NS K) (hl:∀b,K.T b=(10,0)->LenAt w b (ln b)) (hd:Rx ln K.nm K.nl<=40):bz8 (Rt K ln 16++YH K ln K.nl):=by
 obtain⟨t,_,j⟩:=h.k;obtain⟨_,_,_,m⟩:=j.nl;have g:∀f,K.T f=(10,0)->ln f<=64:=λf o=>(h.as8 hl o).elim λ_ h=>h.elim λ_ h=>h.2
 have d:∀q,q∈YH K ln K.nl->∃f∈K.nl,q=(-1,K.op f,ln f):=λq a=>by
  obtain⟨f,c,rfl⟩:=List.mem_map.1 a
  exact⟨f,c,rfl⟩
 refine⟨λq a=>?_,λq a r=>?_,?_,?_,?_⟩
 .obtain a|a:=List.mem_append.1 a
  .obtain⟨_,_,i,f,n,c,e⟩:=ZO K ln 16 q a;rw[e];exact g f ((j.nm i n).2 f c)
  .obtain⟨f,c,rfl⟩:=d q a;exact g f (m f c)
 .obtain a|a:=List.mem_append.1 a
  .have:=(ZO K ln 16 q a).1;omega
  .obtain⟨f,c,rfl⟩:=d q a;exact ok.DV.nz f c
 .rw[List.pairwise_append];refine⟨Zm K ln 16,?_,λp _ q a l=>?_⟩
  .unfold YH;rw[List.pairwise_map];exact List.pairwise_iff_getElem.2 λ_ _ _ _ _ h=>absurd h (by simp)
  .obtain⟨f,c,rfl⟩:=d q a;simp at l
 .rw[P9,Ι,Κ];exact hd
 .have key:∀k,(Rt K ln k).length<=k:=λk=>by
   induction k with
   |zero=>exact w_ _
   |succ k s=>simp only[Rt,List.length_append];cases K.nm k<;>simp<;>omega
  have:=key 16;have:=ok.DV.nl;simp[YH];omega
section
variable {n:Nat} {a:Act} {W:o_} {ops:Array Oper} {o:Oper} {os:List Oper}
theorem Iy (hw:Region.wanted o (yielded ops a.tmps)=false) (ha:o.about prog W a.eval=none) (hp:a.put o.dst undef=a) (hs:MZ NF n prog ops a W os):MZ NF n prog ops a W (o::os):=
 ⟨by rw[if_neg (by rw[hw];simp)];exact⟨(λf h=>by rw[ha]at h;cases h),hp⟩,hs⟩
theorem ag0 {d:Nat} {v:n_} (h:a.tmps[d]?=some v):a.put (some d) v=a:=by
 obtain⟨k,c⟩:=a;obtain⟨f,b⟩:=y_.1 h;simp only[Act.put]
 congr 1
 exact Array.ext (by simp) λi g j=>by
  rw[Array.getElem_setIfInBounds]
  split
  .rename_i e;subst e;exact b.symm
  .rfl
theorem AQ {d:Nat} {v:n_} (hw:Region.wanted o (yielded ops a.tmps)=true) (hd:o.dst=some d) (hv:a.tmps[d]?=some v) (hn:o.about prog W a.eval=none) (hr:(execOp a.eval o).run prog W=.ok (.value v) W) (hs:MZ NF n prog ops a W os):MZ NF n prog ops a W (o::os):=by
 refine⟨?_,hs⟩;rw[if_pos hw];refine⟨λf b=>(by rw[hn]at b;cases b),?_⟩;show Oper.uponIn NF n prog o a _ _ ((execOp a.eval o).run prog W);rw[hr];exact⟨by rw[hd];exact ag0 hv,rfl⟩
end
theorem Uw:FP prog 23=Tryz.f23.body.getD .skip:=by kernel_rfl
def dq (P:l_) (i:Nat):Code:=piece (behind i (FP P 23))
def dL (P:l_) (i:Nat):Code:=match dq P i with | .seq _ (.block _ (.loop b))=>b|_=>.skip
def dI (P:l_) (i:Nat):Code:=match dL P i with | .seq _ (.seq (.block _ c) _)=>c|_=>.skip
def yH (P:l_) (i:Nat):Code:=match dI P i with | .seq _ (.seq c _)=>c|_=>.skip
def dRh (P:l_) (i:Nat):Code:=match dI P i with | .seq _ (.seq (.seq c _) _)=>c|_=>.skip
theorem uC {F:Fence} {n:Nat} {P:l_} {c c':Code} {Q:Exit->Act->o_->Prop} {a:Act} {w:o_} (e:c=c') (h:c'.wpIn F n P Q a w):c.wpIn F n P Q a w:=e ▸ h
def fA (f:Y_) (x y:n_):X_:=#[f 0,f 1,f 2,f 3,f 4,f 5,f 6,f 7,f 8,f 9,f 10,f 11,f 12,f 13,f 14,f 15,f 16,f 17,f 18,f 19,f 20,f 21,x,y,f 24,f 25,f 26,f 27,f 28,f 29,f 30,f 31,f 32,f 33,f 34,f 35,f 36,f 37,f 38,f 39,f 40,f 41,f 42,f 43,f 44,f 45,f 46,f 47,f 48,f 49,f 50,f 51,f 52,f 53,f 54,f 55,f 56,f 57,f 58,f 59,f 60,f 61,f 62,f 63,f 64,f 65,f 66,f 67,f 68,f 69,f 70,f 71,f 72,f 73,f 74,f 75,f 76,f 77,f 78,f 79,f 80,f 81,f 82,f 83,f 84,f 85,f 86,f 87,f 88,f 89,f 90,f 91,f 92,f 93,f 94,f 95,f 96,f 97,f 98,f 99,f 100,f 101,f 102,f 103,f 104,f 105,f 106,f 107,f 108,f 109,f 110,f 111,f 112,f 113,f 114,f 115,f 116,f 117,f 118,f 119,f 120,f 121,f 122,f 123,f 124,f 125,f 126,f 127,f 128,f 129,f 130,f 131,f 132,f 133,f 134,f 135,f 136,f 137,f 138,f 139,f 140,f 141,f 142,f 143,f 144,f 145,f 146,f 147,f 148,f 149,f 150,f 151,f 152,f 153,f 154,f 155,f 156,f 157,f 158,f 159,f 160,f 161,f 162,f 163,f 164,f 165,f 166,f 167,f 168,f 169,f 170,f 171,f 172,f 173,f 174,f 175,f 176,f 177,f 178,f 179,f 180,f 181,f 182,f 183,f 184,f 185,f 186,f 187,f 188,f 189,f 190,f 191,f 192,f 193,f 194,f 195,f 196,f 197,f 198,f 199,f 200,f 201,f 202,f 203,f 204,f 205,f 206,f 207,f 208,f 209,f 210,f 211,f 212,f 213,f 214,f 215,f 216,f 217,f 218,f 219,f 220,f 221,f 222,f 223,f 224,f 225,f 226,f 227,f 228,f 229,f 230,f 231,f 232,f 233,f 234,f 235,f 236,f 237,f 238,f 239,f 240,f 241,f 242,f 243,f 244,f 245,f 246,f 247,f 248,f 249,f 250,f 251,f 252,f 253]
def fB (f g:Y_) (x y:n_):X_:=fA (λi=>if 171<=i/\i<=240 then g i else f i) x y
def fC (f:Y_) (x y z:n_):X_:=#[f 0,f 1,f 2,f 3,f 4,f 5,f 6,f 7,f 8,f 9,f 10,x,y,f 13,z,f 15,f 16,f 17,f 18,f 19,f 20,f 21,f 22,f 23,f 24,f 25,f 26,f 27,f 28,f 29,f 30,f 31,f 32,f 33,f 34,f 35,f 36,f 37,f 38,f 39,f 40,f 41,f 42,f 43,f 44,f 45,f 46,f 47,f 48,f 49,f 50,f 51,f 52,f 53,f 54,f 55,f 56,f 57,f 58,f 59,f 60,f 61,f 62,f 63,f 64,f 65,f 66,f 67,f 68,f 69,f 70,f 71,f 72,f 73,f 74,f 75,f 76,f 77,f 78,f 79,f 80,f 81,f 82,f 83,f 84,f 85,f 86,f 87,f 88,f 89,f 90,f 91,f 92,f 93,f 94,f 95,f 96,f 97,f 98,f 99,f 100,f 101,f 102,f 103,f 104,f 105,f 106,f 107,f 108,f 109,f 110,f 111,f 112,f 113,f 114,f 115,f 116,f 117,f 118,f 119,f 120,f 121,f 122,f 123,f 124,f 125,f 126,f 127,f 128,f 129,f 130,f 131,f 132,f 133,f 134,f 135,f 136,f 137,f 138,f 139,f 140,f 141,f 142,f 143,f 144,f 145,f 146,f 147,f 148,f 149,f 150,f 151,f 152,f 153,f 154,f 155,f 156,f 157,f 158,f 159,f 160,f 161,f 162,f 163,f 164,f 165,f 166,f 167,f 168,f 169,f 170,f 171,f 172,f 173,f 174,f 175,f 176,f 177,f 178,f 179,f 180,f 181,f 182,f 183,f 184,f 185,f 186,f 187,f 188,f 189,f 190,f 191,f 192,f 193,f 194,f 195,f 196,f 197,f 198,f 199,f 200,f 201,f 202,f 203,f 204,f 205,f 206,f 207,f 208,f 209,f 210,f 211,f 212,f 213,f 214,f 215,f 216,f 217,f 218,f 219,f 220,f 221,f 222,f 223,f 224,f 225,f 226,f 227,f 228,f 229,f 230,f 231,f 232,f 233,f 234,f 235,f 236,f 237,f 238,f 239,f 240,f 241,f 242,f 243,f 244,f 245,f 246,f 247,f 248,f 249,f 250,f 251,f 252,f 253]
def fD (f g:Y_) (x y z:n_):X_:=fC (λi=>if 64<=i/\i<=81 then g i else f i) x y z
theorem endsB {tm:X_} {f:Nat->n_} {x y:n_} (h:tm=fB f (λi=>tm.getD i undef) x y) (h2:tm.getD 240 undef=.bool false):∃g,tm=fB f g x y/\g 240=.bool false:=⟨_,h,h2⟩
theorem ap1 {tm:X_} {f:Nat->n_} {x y z:n_} (h:tm=fD f (λi=>tm.getD i undef) x y z) (h2:tm.getD 81 undef=.bool false):∃g,tm=fD f g x y z/\g 81=.bool false:=⟨_,h,h2⟩
theorem bh0 {m:Nat} {w:o_} {tm:X_} {x y z:n_} {Q:Exit->Act->o_->Prop} (hs:tm.size=254) (h1:tm.getD 11 undef=x) (h2:tm.getD 12 undef=y) (h3:tm.getD 14 undef=z)
  (H:∀f,(dRh prog 8).wpIn NF m prog (Ends λtm w'=>(∃g,tm=fD f g x y z/\g 81=.bool false)/\Keep No w w') ⟨fC f x y z,[]⟩ w)
  (hQ:∀g w',Keep No w w'->g 81=.bool false->Q .normal ⟨fD (λi=>tm.getD i undef) g x y z,[]⟩ w'):(dRh prog 8).wpIn NF m prog Q ⟨tm,[]⟩ w:=by
 have e:tm=fC (λi=>tm.getD i undef) x y z:=(DW (l:=[(11,x),(12,y),(14,z)]) hs (by simp only[r_,List.not_mem_nil,or_false];rintro p (rfl|rfl|rfl)<;>assumption)).trans (by kernel_rfl);have h:=H λi=>tm.getD i undef
 rw[<-e]at h;refine wpIn_mono h ?_;rintro e d w' ⟨rfl,b,⟨g,c,a⟩,j⟩;obtain⟨k,n⟩:=d;simp only at b c;subst b c;exact hQ g w' j a
theorem bg9 {m:Nat} {w:o_} {tm:X_} {x y:n_} {Q:Exit->Act->o_->Prop} (hs:tm.size=254) (h1:tm.getD 22 undef=x) (h2:tm.getD 23 undef=y)
  (H:∀f,(yH prog 13).wpIn NF m prog (Ends λtm w'=>(∃g,tm=fB f g x y/\g 240=.bool false)/\Keep No w w') ⟨fA f x y,[]⟩ w)
  (hQ:∀g w',Keep No w w'->g 240=.bool false->Q .normal ⟨fB (λi=>tm.getD i undef) g x y,[]⟩ w'):(yH prog 13).wpIn NF m prog Q ⟨tm,[]⟩ w:=by
 have e:tm=fA (λi=>tm.getD i undef) x y:=(DW (l:=[(22,x),(23,y)]) hs (by simp only[r_,List.not_mem_nil,or_false];rintro p (rfl|rfl)<;>assumption)).trans (by kernel_rfl);have h:=H λi=>tm.getD i undef
 rw[<-e]at h;refine wpIn_mono h ?_;rintro e d w' ⟨rfl,b,⟨g,c,a⟩,j⟩;obtain⟨k,n⟩:=d;simp only at b c;subst b c;exact hQ g w' j a
section
variable (m:Nat) (w:o_) (f:Y_)
theorem bh9 (q0 q1:Int) (n j len cp gb:Nat) (a:d_ f_) (c:Nat) (hjl:(j:Int)<(len:Int)) (_:len<=1000) (d0:w.cell? (T_ gb (j*3))=some (b_ q0)) (d1:w.cell? (T_ gb (j*3+1))=some (b_ q1)) (d2:w.cell? (T_ gb (j*3+2))=some (.slice a n c)) (yE:¬(64:Int)<(n:Int)) (hneg:q0<0) (g1:¬q1<1) (_:¬(0:Int)<=q0) (g0:¬(0:Int)<(j:Int)):(yH prog 13).wpIn NF m prog (Ends λtm w'=>(∃g,tm=fB f g (Q_ gb len cp) (b_ (j:Nat))/\g 240=.bool false)/\Keep No w w') ⟨fA f (Q_ gb len cp) (b_ (j:Nat)),[]⟩ w:=by
 unfold yH dI dL dq;rw[Uw];dsimp only[Tryz.f23,Option.getD,behind,piece];unfold fA;refine Bi 69 254 ?_;gi_wp2;refine CZ ?_ ?_
 .intro W b;have d0:=b.has (w:=w.drew) d0;have d2:=b.has (w:=w.drew) d2;have d1:=b.has (w:=w.drew) d1
  iterate 2 (refine AQ (by kernel_rfl) rfl rfl rfl (by kernel_rfl) ?_)
  refine Ae (by gi_wp2) ?_;refine AQ (by kernel_rfl) rfl rfl rfl (by kernel_rfl) ?_
  iterate 3 (refine Ae (by gi_wp2) ?_)
  iterate 3 (refine AQ (by kernel_rfl) rfl rfl rfl (by kernel_rfl) ?_)
  refine Ae (by gi_wp2) ?_;refine AQ (by kernel_rfl) rfl rfl rfl (by kernel_rfl) ?_
  iterate 2 (refine Ae (by gi_wp2) ?_)
  iterate 3 (refine AQ (by kernel_rfl) rfl rfl rfl (by kernel_rfl) ?_)
  refine Ae (by gi_wp2) ?_;refine AQ (by kernel_rfl) rfl rfl rfl (by kernel_rfl) ?_
  iterate 2 (refine Ae (by gi_wp2) ?_)
  iterate 4 (refine AQ (by kernel_rfl) rfl rfl rfl (by kernel_rfl) ?_)
  refine Ae (by gi_wp2) ?_;refine AQ (by kernel_rfl) rfl rfl rfl (by kernel_rfl) ?_
  iterate 6 (refine Iy (by kernel_rfl) rfl rfl ?_)
  iterate 2 (refine AQ (by kernel_rfl) rfl rfl rfl (by kernel_rfl) ?_)
  iterate 12 (refine Iy (by kernel_rfl) rfl rfl ?_)
  iterate 4 (refine AQ (by kernel_rfl) rfl rfl rfl (by kernel_rfl) ?_)
  refine Ae (by gi_wp2) ?_;refine AQ (by kernel_rfl) rfl rfl rfl (by kernel_rfl) ?_
  iterate 6 (refine Iy (by kernel_rfl) rfl rfl ?_)
  iterate 2 (refine AQ (by kernel_rfl) rfl rfl rfl (by kernel_rfl) ?_)
  iterate 7 (refine Iy (by kernel_rfl) rfl rfl ?_)
  refine AQ (by kernel_rfl) rfl rfl rfl (by kernel_rfl) ?_;exact trivial
 .intro W b;gi_wp2;exact⟨rfl,rfl,endsB (by kernel_rfl) (by rfl),(p_ No w).drew.then b⟩
end
section
variable (m:Nat) (w:o_) (f:Y_)
theorem bh8 (q0 q1:Int) (n j len cp gb:Nat) (a:d_ f_) (c:Nat) (hjl:(j:Int)<(len:Int)) (_:len<=1000) (d0:w.cell? (T_ gb (j*3))=some (b_ q0)) (d1:w.cell? (T_ gb (j*3+1))=some (b_ q1)) (d2:w.cell? (T_ gb (j*3+2))=some (.slice a n c)) (yE:¬(64:Int)<(n:Int)) (hneg:q0<0) (g1:¬q1<1) (g2:¬(0:Int)<=q0) (g0:(0:Int)<(j:Int)):(yH prog 13).wpIn NF m prog (Ends λtm w'=>(∃g,tm=fB f g (Q_ gb len cp) (b_ (j:Nat))/\g 240=.bool false)/\Keep No w w') ⟨fA f (Q_ gb len cp) (b_ (j:Nat)),[]⟩ w:=by
 unfold yH dI dL dq;rw[Uw];dsimp only[Tryz.f23,Option.getD,behind,piece];unfold fA;refine Bi 69 254 ?_;gi_wp2;refine CZ ?_ ?_
 .intro W b;have d0:=b.has (w:=w.drew) d0;have d2:=b.has (w:=w.drew) d2;have d1:=b.has (w:=w.drew) d1
  iterate 2 (refine AQ (by kernel_rfl) rfl rfl rfl (by kernel_rfl) ?_)
  refine Ae (by gi_wp2) ?_;refine AQ (by kernel_rfl) rfl rfl rfl (by kernel_rfl) ?_
  iterate 3 (refine Ae (by gi_wp2) ?_)
  iterate 3 (refine AQ (by kernel_rfl) rfl rfl rfl (by kernel_rfl) ?_)
  refine Ae (by gi_wp2) ?_;refine AQ (by kernel_rfl) rfl rfl rfl (by kernel_rfl) ?_
  iterate 2 (refine Ae (by gi_wp2) ?_)
  iterate 3 (refine AQ (by kernel_rfl) rfl rfl rfl (by kernel_rfl) ?_)
  refine Ae (by gi_wp2) ?_;refine AQ (by kernel_rfl) rfl rfl rfl (by kernel_rfl) ?_
  iterate 2 (refine Ae (by gi_wp2) ?_)
  iterate 4 (refine AQ (by kernel_rfl) rfl rfl rfl (by kernel_rfl) ?_)
  refine Ae (by gi_wp2) ?_
  iterate 3 (refine AQ (by kernel_rfl) rfl rfl rfl (by kernel_rfl) ?_)
  refine Ae (by gi_wp2) ?_;refine AQ (by kernel_rfl) rfl rfl rfl (by kernel_rfl) ?_
  iterate 2 (refine Ae (by gi_wp2) ?_)
  iterate 2 (refine AQ (by kernel_rfl) rfl rfl rfl (by kernel_rfl) ?_)
  iterate 12 (refine Iy (by kernel_rfl) rfl rfl ?_)
  iterate 4 (refine AQ (by kernel_rfl) rfl rfl rfl (by kernel_rfl) ?_)
  refine Ae (by gi_wp2) ?_
  iterate 3 (refine AQ (by kernel_rfl) rfl rfl rfl (by kernel_rfl) ?_)
  refine Ae (by gi_wp2) ?_;refine AQ (by kernel_rfl) rfl rfl rfl (by kernel_rfl) ?_
  iterate 2 (refine Ae (by gi_wp2) ?_)
  iterate 2 (refine AQ (by kernel_rfl) rfl rfl rfl (by kernel_rfl) ?_)
  iterate 7 (refine Iy (by kernel_rfl) rfl rfl ?_)
  refine AQ (by kernel_rfl) rfl rfl rfl (by kernel_rfl) ?_;exact trivial
 .intro W b;gi_wp2;exact⟨rfl,rfl,endsB (by kernel_rfl) (by rfl),(p_ No w).drew.then b⟩
end
end Go.Fxa
