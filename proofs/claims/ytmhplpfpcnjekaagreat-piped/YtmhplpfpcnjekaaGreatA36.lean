/- A parent that writes into a pi -/
import Derived.Test.YtmhplpfpcnjekaaGreatA35
namespace Go.Fxa
open Conc Proofs RowKit Proofs.Tryz
set_option maxRecDepth 1000000
set_option maxHeartbeats 0
section
variable {t n m b1 b2 p e1 e2 u c:Nat} {d:Nat->Nat} {ws:List Nat} {K:KS} {r:PR}
theorem PI.serves {b:Nat} (h:PI t n m d b1 b2 p e1 e2 u c ws K) (hm:b∈K.AV) (hb:K.ps b=some r) (hs:K.Eg r=0):NR 16 40 b K (1:Int).toNat:=Qs λj I J H call D F=>by
 obtain⟨L,q,y,e1,e2⟩:=F.zero D rfl;have l:=h.le;have lit:=λi C=>(Hr (n:=n) (m:=m) (d:=d) l.2.2.2.1).1 i C
 have key:∀{op a:Nat},Dq q=MV q op a->(op=11/\QO a)\/op=1\/op=6\/op=7->QO call:=fun {op a} e h=>by
  have e3:MV q op a=(1,call,H):=e.symm.trans e2
  obtain⟨rfl,h⟩|rfl|rfl|rfl:=h
  .have e4:a=call:=congrArg (λx=>x.2.1) e3;rw[<-e4];exact h
  all_goals
   have e4:0=1:=congrArg Prod.fst e3
   cases e4
 obtain⟨rfl,E⟩|⟨rfl,B⟩:=h.only b r hm hb (SV hs)
 .obtain⟨_,G,o,g,_⟩:=h.br1 E y;rw[e1]at o;cases o;obtain⟨_,f,_⟩|⟨k,s,e,f⟩|⟨k,s,e,f,_⟩:=g.at_
  .exact key (g.Yn.step (op:=7) (a:=32) (by omega) (by omega) (by rw[f];rfl) (by rw[f];rfl)) (.inr (.inr (.inr rfl)))
  .obtain⟨w1,w2,_,_⟩:=Yt (n:=n) (m:=m) (d:=d) s l.2.2.2.1;exact key (g.Yn.step (op:=1) (a:=if k<t then 66 else 69) (by omega) (by omega) (by rw[f];exact w1) (by rw[f];exact w2)) (.inr (.inl rfl))
  .obtain⟨_,_,w1,w2⟩:=Yt (n:=n) (m:=m) (d:=d) s l.2.2.2.1;refine key (g.Yn.step (op:=11) (a:=if k<t then 7 else 1) (by omega) (by omega) (by rw[f];exact w1) (by rw[f];exact w2)) (.inl ⟨rfl,?_⟩);unfold QO;split<;>omega
 .obtain⟨_,G,o,g,_⟩:=h.br2 B y;rw[e1]at o;cases o;have go:∀{P i a:Nat},q.P=P->P=32+i->i+1<16->[1,70,11,8,1,71,11,6,7,44,6,36,1,69,11,1].getD i 0=a->(a=11/\QO ([1,70,11,8,1,71,11,6,7,44,6,36,1,69,11,1].getD (i+1) 0))\/a=1\/a=6\/a=7->QO call:=fun {P i a} v w M z A=>by
   refine key (g.Yn.step (op:=a) (by omega) (by omega) ?_ ?_) A
   .rw[v,w,lit i (by omega),z]
   .rw[v,w,Nat.add_assoc,lit (i+1) (by omega)]
  obtain⟨rfl,f,_⟩|⟨rfl,f⟩|⟨rfl,f,_⟩|⟨rfl,f⟩|⟨rfl,f,_⟩|⟨rfl,f,_⟩|⟨rfl,f⟩|⟨rfl,f,_⟩|⟨rfl,f,_⟩|⟨rfl,f⟩:=g.at_
  .exact key (g.Yn.step (op:=7) (a:=32) (by omega) (by omega) (by rw[f];rfl) (by rw[f];rfl)) (.inr (.inr (.inr rfl)))
  .exact go (i:=0) f rfl (by omega) rfl (.inr (.inl rfl))
  .exact go (i:=2) f rfl (by omega) rfl (.inl ⟨rfl,by unfold QO;decide⟩)
  .exact go (i:=4) f rfl (by omega) rfl (.inr (.inl rfl))
  .exact go (i:=6) f rfl (by omega) rfl (.inl ⟨rfl,by unfold QO;decide⟩)
  .exact go (i:=8) f rfl (by omega) rfl (.inr (.inr (.inr rfl)))
  .exact go (i:=12) f rfl (by omega) rfl (.inr (.inl rfl))
  .exact go (i:=14) f rfl (by omega) rfl (.inl ⟨rfl,by unfold QO;decide⟩)
  .exact go (i:=8) f rfl (by omega) rfl (.inr (.inr (.inr rfl)))
  .exact go (i:=10) f rfl (by omega) rfl (.inr (.inr (.inl rfl)))
theorem Mid.serves {b:Nat} (h:Mid t n m d b1 p e1 e2 K) (hm:b∈K.AV):NR 16 40 b K (1:Int).toNat:=Qs λj v w y call q u=>by
 obtain⟨x,A,⟨l,r0,o,g,rfl⟩,i,f⟩:=u.zero q rfl;obtain rfl:b=b1:=by rw[h.AV]at hm;exact List.mem_singleton.1 hm
 obtain⟨r,s,_,_,k,_,e,_⟩:=h.ps;obtain⟨z,c,e3,e4⟩:=o.at g;rw[s]at e3;cases e3;rw[show(l.AP b { r0 with bl:=.nilFunc }).ps b=some { r0 with bl:=.nilFunc } from Ah]at i;cases i;subst e4;rw[Q3.step (t:=t) (n:=n) (m:=m) (d:=d) (op:=11) (a:=2) (r:={ r with co:=c,bl:=.nilFunc }) k (by show r.P+1<112;omega) (by show r.P+1<77;omega) (by show pw t n m d r.P=_;rw[e];rfl) (by show pw t n m d (r.P+1)=_;rw[e];rfl)]at f;simp[MV]at f;rw[<-f.1];exact .inr (.inl rfl)
theorem oh {b b' ib fb:Nat} {Ae:List Nat} (hp:K.AV=[b]) (hr:K.ps b=some (Ef ib fb Ae)) (hl:Ae.length=128) (hi:∀i,i<112->Ae[i]?=some (pw t n m d i)) (hm:b'∈K.AV):NR 16 40 b' K (2:Int).toNat:=Qs λj w x E call h v=>by
 obtain rfl:b'=b:=by rw[hp]at hm;exact List.mem_singleton.1 hm
 obtain⟨B,G,⟨z,⟨o,r0,s,k,rfl⟩,p⟩,g,e,_⟩:=v;obtain⟨F,c,e3,e4⟩:=s.at k;rw[hr]at e3;cases e3;have l:Q3 t n m d Ae:=⟨hl,λi q _=>hi i q⟩;have f:Dq { r0 with bl:=.nilFunc }=(0,0,{ r0 with bl:=.nilFunc,P:=2,A:=64 }):=by
  subst e4
  rw[Q3.step (t:=t) (n:=n) (m:=m) (d:=d) (op:=1) (a:=64) (r:={ Ef ib fb Ae with co:=c,bl:=.nilFunc }) l (by show 0+1<112;omega) (by show 0+1<77;omega) rfl rfl]
  rfl
 have h:j=0\/j=1:=by have:j<2:=h;omega
 obtain rfl|rfl:=h
 .obtain⟨_,rfl⟩:=p;rw[show(o.AP b' { r0 with bl:=.nilFunc }).ps b'=some { r0 with bl:=.nilFunc } from Ah]at g;cases g;rw[f]at e;cases e
 .obtain⟨C,D,y,⟨_,rfl⟩,u,_⟩:=p;obtain⟨_,rfl⟩:=step_plain (Ah) f (.inl u);rw[show((o.AP b' { r0 with bl:=.nilFunc }).AP b' { r0 with bl:=.nilFunc,P:=2,A:=64 }).ps b'=some { r0 with bl:=.nilFunc,P:=2,A:=64 } from Ah]at g;cases g;subst e4;rw[Q3.step (t:=t) (n:=n) (m:=m) (d:=d) (op:=11) (a:=5) (r:={ Ef ib fb Ae with co:=c,bl:=.nilFunc,P:=2,A:=64 }) l (by show 2+1<112;omega) (by show 2+1<77;omega) rfl rfl]at e;simp[MV]at e;rw[<-e.1];exact .inr (.inr (.inl rfl))
end
@[simp] theorem lf25:(25:h_)∈LF:=by decide
def TZ (w:o_) (v:n_) (N:Nat) (f:Nat->Int):Prop:=∃s c,v=.slice s N c/\(0<N->∃b o,s=some (T_ b o)/\∀i,i<N->w.cell? (T_ b (o+i))=some (b_ (f i))/\-9223372036854775808<=f i/\f i<=9223372036854775807)
theorem TZ.no {w w':o_} {v:n_} {N:Nat} {f:Nat->Int} (h:TZ w v N f) (hK:Keep No w w'):TZ w' v N f:=let ⟨s,c,e,h2⟩:=h;⟨s,c,e,λd=>let ⟨b,o,e',h3⟩:=h2 d;⟨b,o,e',λi a=>⟨hK.has (h3 i a).1,(h3 i a).2⟩⟩⟩
def Ej (N:Nat) (f:Nat->Int) (i:Nat):Nat:=if i<N then Dt (f i) 65536 else 0
def rowP (t n m:Nat) (d:Nat->Nat) (k:Nat):U_:=(List.range k).map λi=>b_ ((pw t n m d i:Nat):Int)
theorem SS {t n m k:Nat} {d:Nat->Nat}:(rowP t n m d k).length=k:=by simp[rowP]
theorem Ξ {t n m k j:Nat} {d:Nat->Nat} {xs:U_} (hl:xs.length=j) (h:∀i,i<j->xs[i]?=some (b_ ((pw t n m d (k+i):Nat):Int))):rowP t n m d k++xs=rowP t n m d (k+j):=by
 apply List.ext_getElem?;intro i;by_cases a:i<k
 .rw[List.getElem?_append_left (by rw[SS];exact a)];unfold rowP;rw[List.getElem?_map,List.getElem?_map,List.getElem?_range a,List.getElem?_range (by omega)]
 .rw[List.getElem?_append_right (by rw[SS];omega),SS];by_cases b:i<k+j
  .rw[h (i-k) (by omega)];unfold rowP;rw[List.getElem?_map,List.getElem?_range b,show k+(i-k)=i by omega]
   rfl
  .rw[List.getElem?_eq_none (by omega),List.getElem?_eq_none (by rw[SS];omega)]
theorem Gf {w:o_} {a:X_}:∀q u,a.toList[q]?=some u->(w.alloc (.cells a 3)).cell? (((S_ w.heap.size):f_).add q)=some u:=λq u b=>by
 have c:(w.alloc (.cells a 3)).heap[w.heap.size]?=some (O_ a 3):=heap_alloc_new rfl;rw[Addr.add_lit,Nat.zero_add];refine(Af c q).trans ?_;simpa using b
theorem VC {t n m:Nat} {d:Nat->Nat} {i:Nat} (ht:t<=4) (h:(12+4*t<=i/\i<32)\/(48<=i/\i<64)\/(74<=i/\i<80)\/112<=i):pw t n m d i=0:=by
 unfold pw
 repeat' split
 all_goals first|rfl|omega
def PW (t n m:Nat) (d:Nat->Nat) (w:o_) (k:Nat) (v:n_) (wr:o_):Prop:=Keep No w wr/\wr.ownsRow w.heap.size 3 1 v k (rowP t n m d k)
theorem PW.app {t n m k j:Nat} {d:Nat->Nat} {w wr w4:o_} {v v':n_} {a:X_} (h:PW t n m d w k v wr) (Jp:w4.ownsRow w.heap.size 3 1 v' (k+j) (rowP t n m d k++a.toList)) (hg:(wr.alloc (.cells a 3)).grownBy w4 v.ownBlock) (hl:a.toList.length=j) (hx:∀i,i<j->a.toList[i]?=some (b_ ((pw t n m d (k+i):Nat):Int))):PW t n m d w (k+j) v' w4:=by
 obtain⟨KK,f⟩:=h;have b:Keep No wr (wr.alloc (.cells a 3)):=(p_ _ _).alloc _;refine⟨(KK.then b).trans (Gw hg λk c _=>c) (λx hx e=>absurd (f.lt x e).1 (by omega)),?_⟩;rw[<-Ξ hl hx];exact Jp
theorem PW.own {t n m k:Nat} {d:Nat->Nat} {w wr:o_} {v:n_} {a:X_} (h:PW t n m d w k v wr):(wr.alloc (.cells a 3)).ownsRow w.heap.size 3 1 v k (rowP t n m d k)/\w.heap.size<=(wr.alloc (.cells a 3)).heap.size:=⟨ZJ h.2 ((p_ _ _).alloc _),Nat.le_trans h.1.size ((p_ No wr).alloc (.cells a 3)).size⟩
def lenOf:n_->Nat
 |.slice _ n _=>n
 |_=>0
theorem PW.sl {t n m k:Nat} {d:Nat->Nat} {w wr:o_} {v:n_} (h:PW t n m d w k v wr):∃a c,v=.slice a k c:=by
 obtain⟨e,f⟩|⟨g,cap,b,e,_⟩:=h.2.2
 .exact⟨none,0,by rw[e,f]⟩
 .exact⟨_,cap,e⟩
section
variable (m:Nat) (w:o_)
theorem ad9 (dv:n_) (N:Nat) (f:Nat->Int) (t n q:Nat) (hD:TZ w dv N f) (ht:t<=4):P_ m 25 #[dv,b_ (t:Nat),b_ (n:Nat),b_ (q:Nat)] w λe w'=>Keep No w w'/\∃v,e=.returned v/\w'.ownsRow w.heap.size 3 1 v 128 (rowP t n q (Ej N f) 128):=by
 obtain⟨D,u,y,z,A⟩:=info_parts info3;obtain⟨s,c,rfl,X⟩:=hD;have U:PW t n q (Ej N f) w 8 (Q_ w.heap.size 8 8) (w.alloc (.cells #[b_ 1,b_ 64,b_ 11,b_ 5,b_ 11,b_ 2,b_ 7,b_ 32] 3)):=by
  refine⟨(p_ _ _).alloc _,by simp[rowP],.inr ⟨w.heap.size,8,_,rfl,w_ _,heap_alloc_new rfl,w_ _,by unfold maxLen;omega,rfl,rfl⟩⟩
 gi_enter func25,ntmps25;gi_wp2;gi_loopw [9,10] (λa i wr=>∃k:Nat,k<=t/\i=b_ k/\PW t n q (Ej N f) w (8+4*k) a wr) (λ_ i _=>t-(intOf i).toNat)
 case atStart=>exact⟨0,by omega,rfl,U⟩
 case round=>
  clear U
  obtain⟨k,M,rfl,l⟩:=hrel
  obtain⟨T,p2,p3,p4⟩:=Yt (n:=n) (m:=q) (d:=Ej N f) M ht
  by_cases E:k<t
  .rw[if_pos E]at p2 p4;have p:=l.own (a:=#[b_ 1,b_ 66,b_ 11,b_ 7]);gi_wp2_with (gi_at_builtin;refine wpListIn_append_own _ rfl (.tmp 18) (.tmp 19) 22 rfl w.heap.size 3 D (b_ 0) 1 8 underlying22 u y z A rfl (by decide) _ (8+4*k) _ rfl p.1 (S_ wr.heap.size) 4 4 [b_ 1,b_ 66,b_ 11,b_ 7] rfl rfl Gf (by simp[Value.oneCell']) (by unfold maxLen;omega) (by omega) p.2 ?_;intro C w4 g r _);have h:=l.app (j:=4) g r rfl (λi B=>by
    have:i=0\/i=1\/i=2\/i=3:=by omega
    obtain rfl|rfl|rfl|rfl:=this
    .rw[Nat.add_zero,T];rfl
    .rw[p2];rfl
    .rw[show 8+4*k+2=10+4*k by omega,p3];rfl
    .rw[show 8+4*k+3=10+4*k+1 by omega,p4];rfl)
   go_roundw
   case rel=>exact⟨k+1,by omega,by go_num,h⟩
   case measure=>simp[intOf];omega
  .rw[if_neg E]at p2 p4;obtain rfl:t=k:=(by omega);have p:=l.own (a:=#[b_ 1,b_ 69,b_ 11,b_ 1]);gi_wp2_with (gi_at_builtin;refine wpListIn_append_own _ rfl (.tmp 21) (.tmp 22) 22 rfl w.heap.size 3 D (b_ 0) 1 8 underlying22 u y z A rfl (by decide) _ (8+4*t) _ rfl p.1 (S_ wr.heap.size) 4 4 [b_ 1,b_ 69,b_ 11,b_ 1] rfl rfl Gf (by simp[Value.oneCell']) (by unfold maxLen;omega) (by omega) p.2 ?_;intro C w4 g r _);have h:=l.app (j:=4) g r rfl (λi B=>by
    have:i=0\/i=1\/i=2\/i=3:=by omega
    obtain rfl|rfl|rfl|rfl:=this
    .rw[Nat.add_zero,T];rfl
    .rw[p2];rfl
    .rw[show 8+4*t+2=10+4*t by omega,p3];rfl
    .rw[show 8+4*t+3=10+4*t+1 by omega,p4];rfl)
   clear l T p2 p3 p4 p g r;obtain⟨I,K,rfl⟩:=h.sl;gi_wp2;gi_loopw [9] (λa wr=>∃k:Nat,12+4*t<=k/\k<=32/\PW t n q (Ej N f) w k a wr) (λa _=>32-lenOf a)
   case atStart=>exact⟨8+4*t+4,by omega,by omega,h⟩
   case round=>
    clear h
    obtain⟨k,F,M,l⟩:=hrel
    obtain⟨I,K,rfl⟩:=l.sl
    by_cases E:k<32
    .have H:=VC (n:=n) (m:=q) (d:=Ej N f) (i:=k) ht (by omega);have p:=l.own (a:=#[b_ 0]);gi_wp2_with (gi_at_builtin;refine wpListIn_append_own _ rfl (.tmp 27) (.tmp 28) 22 rfl w.heap.size 3 D (b_ 0) 1 8 underlying22 u y z A rfl (by decide) _ (k) _ rfl p.1 (S_ wr.heap.size) 1 1 [b_ 0] rfl rfl Gf (by simp[Value.oneCell']) (by unfold maxLen;omega) (by omega) p.2 ?_;intro C w4 g r _);have h:=l.app (j:=1) g r rfl (λi B=>by
      obtain rfl:i=0:=by omega
      rw[Nat.add_zero,H];rfl);obtain⟨J,L,rfl⟩:=h.sl;go_roundw
     case rel=>exact⟨k+1,by omega,by omega,h⟩
     case measure=>simp[lenOf];omega
    .obtain rfl:k=32:=(by omega);have p:=l.own (a:=#[b_ 1,b_ 70,b_ 11,b_ 8,b_ 1,b_ 71,b_ 11,b_ 6,b_ 7,b_ 44,b_ 6,b_ 36,b_ 1,b_ 69,b_ 11,b_ 1]);gi_wp2_with (gi_at_builtin;refine wpListIn_append_own _ rfl (.tmp 30) (.tmp 31) 22 rfl w.heap.size 3 D (b_ 0) 1 8 underlying22 u y z A rfl (by decide) _ (32) _ rfl p.1 (S_ wr.heap.size) 16 16 [b_ 1,b_ 70,b_ 11,b_ 8,b_ 1,b_ 71,b_ 11,b_ 6,b_ 7,b_ 44,b_ 6,b_ 36,b_ 1,b_ 69,b_ 11,b_ 1] rfl rfl Gf (by simp[Value.oneCell']) (by unfold maxLen;omega) (by omega) p.2 ?_;intro C w4 g r _);have h:PW t n q (Ej N f) w 48 C w4:=l.app (j:=16) g r rfl (λi B=>by
      rw[(Hr (n:=n) (m:=q) (d:=Ej N f) ht).1 i B]
      have:i=0\/i=1\/i=2\/i=3\/i=4\/i=5\/i=6\/i=7\/i=8\/i=9\/i=10\/i=11\/i=12\/i=13\/i=14\/i=15:=by omega
      obtain rfl|rfl|rfl|rfl|rfl|rfl|rfl|rfl|rfl|rfl|rfl|rfl|rfl|rfl|rfl|rfl:=this<;>rfl);clear l p g r;obtain⟨I,K,rfl⟩:=h.sl;gi_wp2;gi_loopw [9] (λa wr=>∃k:Nat,48<=k/\k<=64/\PW t n q (Ej N f) w k a wr) (λa _=>64-lenOf a)
     case atStart=>exact⟨48,by omega,by omega,h⟩
     case round=>
      clear h
      obtain⟨k,F,M,l⟩:=hrel
      obtain⟨I,K,rfl⟩:=l.sl
      by_cases E:k<64
      .have H:=VC (n:=n) (m:=q) (d:=Ej N f) (i:=k) ht (by omega);have p:=l.own (a:=#[b_ 0]);gi_wp2_with (gi_at_builtin;refine wpListIn_append_own _ rfl (.tmp 36) (.tmp 37) 22 rfl w.heap.size 3 D (b_ 0) 1 8 underlying22 u y z A rfl (by decide) _ (k) _ rfl p.1 (S_ wr.heap.size) 1 1 [b_ 0] rfl rfl Gf (by simp[Value.oneCell']) (by unfold maxLen;omega) (by omega) p.2 ?_;intro C w4 g r _);have h:=l.app (j:=1) g r rfl (λi B=>by
        obtain rfl:i=0:=by omega
        rw[Nat.add_zero,H];rfl);obtain⟨J,L,rfl⟩:=h.sl;go_roundw
       case rel=>exact⟨k+1,by omega,by omega,h⟩
       case measure=>simp[lenOf];omega
      .obtain rfl:k=64:=(by omega);have p:=l.own (a:=#[b_ 76,b_ 0,b_ 1,b_ 80,b_ (n:Nat),b_ 0,b_ 1,b_ 0,b_ 112,b_ (q:Nat)]);gi_wp2_with (gi_at_builtin;refine wpListIn_append_own _ rfl (.tmp 39) (.tmp 42) 22 rfl w.heap.size 3 D (b_ 0) 1 8 underlying22 u y z A rfl (by decide) _ (64) _ rfl p.1 (S_ wr.heap.size) 10 10 [b_ 76,b_ 0,b_ 1,b_ 80,b_ (n:Nat),b_ 0,b_ 1,b_ 0,b_ 112,b_ (q:Nat)] rfl rfl Gf (by simp[Value.oneCell']) (by unfold maxLen;omega) (by omega) p.2 ?_;intro C w4 g r _);have h:PW t n q (Ej N f) w 74 C w4:=l.app (j:=10) g r rfl (λi B=>by
        rw[(Hr (n:=n) (m:=q) (d:=Ej N f) ht).2.1 i B]
        have:i=0\/i=1\/i=2\/i=3\/i=4\/i=5\/i=6\/i=7\/i=8\/i=9:=by omega
        obtain rfl|rfl|rfl|rfl|rfl|rfl|rfl|rfl|rfl|rfl:=this<;>rfl);clear l p g r;obtain⟨I,K,rfl⟩:=h.sl;gi_wp2;gi_loopw [9] (λa wr=>∃k:Nat,74<=k/\k<=80/\PW t n q (Ej N f) w k a wr) (λa _=>80-lenOf a)
       case atStart=>exact⟨74,by omega,by omega,h⟩
       case round=>
        clear h
        obtain⟨k,F,M,l⟩:=hrel
        obtain⟨I,K,rfl⟩:=l.sl
        by_cases E:k<80
        .have H:=VC (n:=n) (m:=q) (d:=Ej N f) (i:=k) ht (by omega);have p:=l.own (a:=#[b_ 0]);gi_wp2_with (gi_at_builtin;refine wpListIn_append_own _ rfl (.tmp 47) (.tmp 48) 22 rfl w.heap.size 3 D (b_ 0) 1 8 underlying22 u y z A rfl (by decide) _ (k) _ rfl p.1 (S_ wr.heap.size) 1 1 [b_ 0] rfl rfl Gf (by simp[Value.oneCell']) (by unfold maxLen;omega) (by omega) p.2 ?_;intro C w4 g r _);have h:=l.app (j:=1) g r rfl (λi B=>by
          obtain rfl:i=0:=by omega
          rw[Nat.add_zero,H];rfl);obtain⟨J,L,rfl⟩:=h.sl;go_roundw
         case rel=>exact⟨k+1,by omega,by omega,h⟩
         case measure=>simp[lenOf];omega
        .obtain rfl:k=80:=(by omega);gi_wp2;gi_loopw [9,11] (λa i wr=>∃k:Nat,k<=32/\i=b_ k/\PW t n q (Ej N f) w (80+k) a wr) (λ_ i _=>32-(intOf i).toNat)
         case atStart=>exact⟨0,by omega,rfl,l⟩
         case round=>
          clear l
          obtain⟨k,M,rfl,l⟩:=hrel
          by_cases E:k<32
          .have O:=(Hr (n:=n) (m:=q) (d:=Ej N f) ht).2.2 k E;by_cases R:k<N
           .obtain⟨b,o,rfl,V⟩:=X (by omega);obtain⟨W,d1,d2⟩:=V k R;have W:=l.1.has W;clear V X;obtain⟨x,S⟩:∃x,x=Dt (f k) 65536:=⟨_,rfl⟩;have Q:=λm=>Q5 m wr (f k) 65536 x d1 d2 (by omega) (by omega) S.symm
            have O:pw t n q (Ej N f) (80+k)=x:=(by rw[O,S];unfold Ej;rw[if_pos R]);clear S;have p:=l.own (a:=#[b_ (x:Nat)]);gi_wp2_with (first|(gi_at_call 16;refine(Q _).mono ?_;rintro e w' ⟨rfl,G⟩;have G:=G.symm;subst G)|(gi_at_builtin;refine wpListIn_append_own _ rfl (.tmp 58) (.tmp 64) 22 rfl w.heap.size 3 D (b_ 0) 1 8 underlying22 u y z A rfl (by decide) _ (80+k) _ rfl p.1 (S_ wr.heap.size) 1 1 [b_ (x:Nat)] rfl rfl Gf (by simp[Value.oneCell']) (by unfold maxLen;omega) (by omega) p.2 ?_;intro C w4 g r _));have h:=l.app (j:=1) g r rfl (λi B=>by
             obtain rfl:i=0:=by omega
             rw[Nat.add_zero,O];rfl);go_roundw
            case rel=>exact⟨k+1,by omega,by go_num,h⟩
            case measure=>simp[intOf];omega
           .have O:pw t n q (Ej N f) (80+k)=0:=(by rw[O];unfold Ej;rw[if_neg R]);have p:=l.own (a:=#[b_ 0]);gi_wp2_with (gi_at_builtin;refine wpListIn_append_own _ rfl (.tmp 66) (.tmp 67) 22 rfl w.heap.size 3 D (b_ 0) 1 8 underlying22 u y z A rfl (by decide) _ (80+k) _ rfl p.1 (S_ wr.heap.size) 1 1 [b_ 0] rfl rfl Gf (by simp[Value.oneCell']) (by unfold maxLen;omega) (by omega) p.2 ?_;intro C w4 g r _);have h:=l.app (j:=1) g r rfl (λi B=>by
             obtain rfl:i=0:=by omega
             rw[Nat.add_zero,O];rfl);go_roundw
            case rel=>exact⟨k+1,by omega,by go_num,h⟩
            case measure=>simp[intOf];omega
          .have P:80+k=112:=(by omega);have h:=l;rw[P]at h;clear P;obtain⟨I,K,rfl⟩:=h.sl;clear l;gi_wp2;gi_loopw [9] (λa wr=>∃k:Nat,112<=k/\k<=128/\PW t n q (Ej N f) w k a wr) (λa _=>128-lenOf a)
           case atStart=>exact⟨112,by omega,by omega,h⟩
           case round=>
            clear h
            obtain⟨k,F,M,l⟩:=hrel
            obtain⟨I,K,rfl⟩:=l.sl
            by_cases E:k<128
            .have H:=VC (n:=n) (m:=q) (d:=Ej N f) (i:=k) ht (by omega);have p:=l.own (a:=#[b_ 0]);gi_wp2_with (gi_at_builtin;refine wpListIn_append_own _ rfl (.tmp 72) (.tmp 73) 22 rfl w.heap.size 3 D (b_ 0) 1 8 underlying22 u y z A rfl (by decide) _ (k) _ rfl p.1 (S_ wr.heap.size) 1 1 [b_ 0] rfl rfl Gf (by simp[Value.oneCell']) (by unfold maxLen;omega) (by omega) p.2 ?_;intro C w4 g r _);have h:=l.app (j:=1) g r rfl (λi B=>by
              obtain rfl:i=0:=by omega
              rw[Nat.add_zero,H];rfl);obtain⟨J,L,rfl⟩:=h.sl;go_roundw
             case rel=>exact⟨k+1,by omega,by omega,h⟩
             case measure=>simp[lenOf];omega
            .obtain rfl:k=128:=(by omega);gi_wp2;go_ret;exact⟨l.1,_,rfl,l.2⟩
end
theorem Yo:(prog.funcs[8]?).any (·.norace)=false:=by kernel_rfl
theorem body8:Gj prog 8=Tryz.f8.body.getD .skip:=by kernel_rfl
def gq (P:l_) (i:Nat):Code:=piece (behind i (Gj P 8))
def gX (P:l_) (i:Nat):Code:=behind i (Gj P 8)
def gL (P:l_:=prog):Code:=match gq P 13 with | .seq _ (.block _ (.loop b))=>b|_=>.skip
def gI (P:l_:=prog):Code:=match gL P with | .seq _ (.seq (.block _ c) _)=>c|_=>.skip
def g17 (P:l_:=prog):Code:=match gL P with | .seq (.seq a _) _=>a|_=>.skip
def gR (P:l_:=prog):Code:=match gL P with | .seq _ r=>r|_=>.skip
def g18 (P:l_:=prog):Code:=match gL P with | .seq _ (.seq _ r)=>r|_=>.skip
def g19 (P:l_:=prog):Code:=match gI P with | .seq c _=>c|_=>.skip
def g20 (P:l_:=prog):Code:=match gI P with | .seq _ (.seq c _)=>c|_=>.skip
def Ϩ (P:l_:=prog):Code:=match gI P with | .seq _ (.seq _ c)=>c|_=>.skip
def gY (P:l_:=prog):Code:=match Ϩ P with | .seq _ c=>c|_=>.skip
def g28 (P:l_:=prog):Code:=match gY P with | .seq (.seq c _) _=>c|_=>.skip
def gD (P:l_:=prog):Code:=match gY P with | .seq _ c=>c|_=>.skip
def gCo:Code:=Code.cond (Operand.tmp 105) Code.skip (Code.exit 0)
def gEo:Code:=Code.cond (Operand.tmp 145) (Code.exit 1) Code.skip
theorem aw4:gI prog=(g19 prog).seq ((g20 prog).seq (Ϩ prog)):=by kernel_rfl
theorem aw3:gY prog=((g28 prog).seq gEo).seq (gD prog):=by kernel_rfl
theorem Ue (i:Nat) (h:i=1\/i=2\/i=3\/i=4\/i=5\/i=6\/i=7\/i=8\/i=9\/i=10\/i=11\/i=12):gX prog i=(gq prog i).seq (gX prog (i+1)):=by obtain rfl|rfl|rfl|rfl|rfl|rfl|rfl|rfl|rfl|rfl|rfl|rfl:=h<;>kernel_rfl
theorem ah7:(gq prog 0).Bf (Cb prog)=true:=by kernel_rfl
theorem ah6:(gq prog 2).Bf (Cb prog)=true:=by kernel_rfl
theorem ah5:(gq prog 3).Bf (Cb prog)=true:=by kernel_rfl
theorem ah4:(gq prog 4).Bf (Cb prog)=true:=by kernel_rfl
theorem ah3:(gq prog 5).Bf (Cb prog)=true:=by kernel_rfl
theorem ah2:(gq prog 7).Bf (Cb prog)=true:=by kernel_rfl
theorem ah1:(gq prog 9).Bf (Cb prog)=true:=by kernel_rfl
theorem ai1:(g17 prog).Bf (Cb prog)=true:=by kernel_rfl
theorem ai0:(g18 prog).Bf (Cb prog)=true:=by kernel_rfl
theorem ah9:(g19 prog).Bf (Cb prog)=true:=by kernel_rfl
theorem sN:(g20 prog).Bf (Cb prog)=true:=by kernel_rfl
theorem ah8:(g28 prog).Bf (Cb prog)=true:=by kernel_rfl
theorem Uf:(gD prog).Bf (Cb prog)=true:=by kernel_rfl
theorem ϓ:(gX prog 14).Bf (Cb prog)=true:=by kernel_rfl
section
variable (dv tv ov iv sv kp told er av rv nv xv Fb:n_) (cs:Z_) (f:Y_)
def hxA (P:l_:=prog):Frame×Z_:=run P 1 (Frame.enter P 8 #[dv,tv,ov,iv,sv] .normal,cs)
theorem bi9:Ar prog 1 (Frame.enter prog 8 #[dv,tv,ov,iv,sv] .normal,cs)=some []:=by kernel_rfl
theorem bi8:CU (hxA dv tv ov iv sv cs)=(8,[.code (gq prog 0),.code (gX prog 1)],[],.run,.normal,none,cs):=by kernel_rfl
theorem bi7:slotsOf (hxA dv tv ov iv sv cs) [0,1,2,3,4]=[dv,tv,ov,iv,sv]:=by kernel_rfl
theorem bi6:(hxA dv tv ov iv sv cs).1.tmps.size=268:=by kernel_rfl
def hxB (P:l_:=prog):Frame×Z_:=(Frame.mk 8 (TN 268 (AL f [(0,dv),(1,tv),(2,ov),(3,iv),(4,sv)])) [.code (gX P 1)] [] .run .normal none,cs)
theorem bi5:Ar prog 3 (hxB dv tv ov iv sv cs f)=some []:=by kernel_rfl
def hxC (P:l_:=prog):Frame:=(below (run P 3 (hxB dv tv ov iv sv cs f P))).1
theorem bi4:run prog 3 (hxB dv tv ov iv sv cs f)=(Frame.enter prog 13 #[] .normal,hxC dv tv ov iv sv cs f::cs):=by kernel_rfl
def hxD (P:l_:=prog):Frame×Z_:=run P 2 ((hxC dv tv ov iv sv cs f P).finish (.bool true),cs)
theorem bi3:Ar prog 2 ((hxC dv tv ov iv sv cs f).finish (.bool true),cs)=some []:=by kernel_rfl
theorem bi2:CU (hxD dv tv ov iv sv cs f)=(8,[.code (gX prog 2)],[],.run,.normal,none,cs):=by kernel_rfl
theorem bi1:slotsOf (hxD dv tv ov iv sv cs f) [0,1,2,3,4,11]=[dv,tv,ov,iv,sv,.bool true]:=by kernel_rfl
theorem bi0:(hxD dv tv ov iv sv cs f).1.tmps.size=268:=by kernel_rfl
def hpA (P:l_:=prog):Frame×Z_:=(Frame.mk 8 (TN 268 (AL f [(0,dv),(4,sv),(12,nv),(13,av),(14,kp)])) [.code (gX P 6)] [] .run .normal none,cs)
theorem bk4:Ar prog 4 (hpA dv sv kp av nv cs f)=some []:=by kernel_rfl
def hpB (P:l_:=prog):Frame:=(below (run P 4 (hpA dv sv kp av nv cs f P))).1
theorem bk3:run prog 4 (hpA dv sv kp av nv cs f)=(Frame.enter prog 19 #[kp,b_ 1,b_ 2] .normal,hpB dv sv kp av nv cs f::cs):=by kernel_rfl
def hpC (P:l_:=prog):Frame×Z_:=run P 6 ((hpB dv sv kp av nv cs f P).finish (.tuple #[told,er]),cs)
theorem bk0:Ar prog 6 ((hpB dv sv kp av nv cs f).finish (.tuple #[told,er]),cs)=some []:=by kernel_rfl
theorem bj9:CU (hpC dv sv kp told er av nv cs f)=(8,[.code (gX prog 7)],[],.run,.normal,none,cs):=by kernel_rfl
theorem bj8:slotsOf (hpC dv sv kp told er av nv cs f) [0,4,12,13,14,16,17]=[dv,sv,nv,av,kp,told,er]:=by kernel_rfl
theorem bj7:(hpC dv sv kp told er av nv cs f).1.tmps.size=268:=by kernel_rfl
def hqA (P:l_:=prog):Frame×Z_:=(Frame.mk 8 (TN 268 (AL f [(0,dv),(4,sv),(12,nv),(13,av),(14,kp)])) [.code (gX P 8)] [] .run .normal none,cs)
theorem bj6:Ar prog 4 (hqA dv sv kp av nv cs f)=some []:=by kernel_rfl
def hqB (P:l_:=prog):Frame:=(below (run P 4 (hqA dv sv kp av nv cs f P))).1
theorem bj5:run prog 4 (hqA dv sv kp av nv cs f)=(Frame.enter prog 19 #[kp,b_ 1,b_ 1] .normal,hqB dv sv kp av nv cs f::cs):=by kernel_rfl
def hqC (P:l_:=prog):Frame×Z_:=run P 6 ((hqB dv sv kp av nv cs f P).finish (.tuple #[told,er]),cs)
theorem bj4:Ar prog 6 ((hqB dv sv kp av nv cs f).finish (.tuple #[told,er]),cs)=some []:=by kernel_rfl
theorem bj3:CU (hqC dv sv kp told er av nv cs f)=(8,[.code (gX prog 9)],[],.run,.normal,none,cs):=by kernel_rfl
theorem bj2:slotsOf (hqC dv sv kp told er av nv cs f) [0,4,12,13,14,16,17]=[dv,sv,nv,av,kp,told,er]:=by kernel_rfl
theorem bj1:(hqC dv sv kp told er av nv cs f).1.tmps.size=268:=by kernel_rfl
def xk (P:l_:=prog):Frame×Z_:=(Frame.mk 8 (TN 268 (AL f [(0,dv),(4,sv),(12,nv),(13,av),(14,kp),(18,rv),(19,xv),(20,Fb),(21,iv)])) (.code (gL P)::[.inLoop (gL P),.inBlock 0,.code (gX P 14)]) [] .run .normal none,cs)
theorem bh4:Ar prog 2 (xk dv iv sv kp av rv nv xv Fb cs f)=some []:=by kernel_rfl
def lqB (P:l_:=prog):Frame×Z_:=run P 2 (xk dv iv sv kp av rv nv xv Fb cs f P)
theorem bh3:CU (lqB dv iv sv kp av rv nv xv Fb cs f)=(8,.code (g17 prog)::.code gCo::.code (gR prog)::[.inLoop (gL prog),.inBlock 0,.code (gX prog 14)],[],.run,.normal,none,cs):=by kernel_rfl
theorem bh2:slotsOf (lqB dv iv sv kp av rv nv xv Fb cs f) [0,4,12,13,14,18,19,20,21]=[dv,sv,nv,av,kp,rv,xv,Fb,iv]:=by kernel_rfl
theorem bh0:(lqB dv iv sv kp av rv nv xv Fb cs f).1.tmps.size=268:=by kernel_rfl
def lqC (b:Bool) (P:l_:=prog):Frame×Z_:=(Frame.mk 8 (TN 268 (AL f ([(0,dv),(4,sv),(12,nv),(13,av),(14,kp),(18,rv),(19,xv),(20,Fb),(21,iv),(105,.bool b)]))) (.code gCo::.code (gR P)::[.inLoop (gL P),.inBlock 0,.code (gX P 14)]) [] .run .normal none,cs)
def lqD (P:l_:=prog):Frame×Z_:=run P 4 (lqC dv iv sv kp av rv nv xv Fb cs f true P)
theorem bg9:Ar prog 4 (lqC dv iv sv kp av rv nv xv Fb cs f true)=some []:=by kernel_rfl
theorem bg8:CU (lqD dv iv sv kp av rv nv xv Fb cs f)=(8,.code (gI prog)::.inBlock 1::.code (g18 prog)::[.inLoop (gL prog),.inBlock 0,.code (gX prog 14)],[],.run,.normal,none,cs):=by kernel_rfl
theorem bg7:slotsOf (lqD dv iv sv kp av rv nv xv Fb cs f) [0,4,12,13,14,18,19,20,21]=[dv,sv,nv,av,kp,rv,xv,Fb,iv]:=by kernel_rfl
theorem bg6:(lqD dv iv sv kp av rv nv xv Fb cs f).1.tmps.size=268:=by kernel_rfl
def lqE (P:l_:=prog):Frame×Z_:=run P 2 (lqC dv iv sv kp av rv nv xv Fb cs f false P)
theorem bg5:Ar prog 2 (lqC dv iv sv kp av rv nv xv Fb cs f false)=some []:=by kernel_rfl
theorem bg4:CU (lqE dv iv sv kp av rv nv xv Fb cs f)=(8,[.code (gX prog 14)],[],.run,.normal,none,cs):=by kernel_rfl
theorem bg3:slotsOf (lqE dv iv sv kp av rv nv xv Fb cs f) [0,4,12,13,14,18,19,20,21]=[dv,sv,nv,av,kp,rv,xv,Fb,iv]:=by kernel_rfl
theorem bg2:(lqE dv iv sv kp av rv nv xv Fb cs f).1.tmps.size=268:=by kernel_rfl
def lrA (pid:Int) (P:l_:=prog):Frame×Z_:=(Frame.mk 8 (TN 268 (AL f ([(0,dv),(4,sv),(12,nv),(13,av),(14,kp),(18,rv),(19,xv),(20,Fb),(21,iv),(22,b_ pid)]))) (.code (Ϩ P)::.inBlock 1::.code (g18 P)::[.inLoop (gL P),.inBlock 0,.code (gX P 14)]) [] .run .normal none,cs)
theorem bg1 (pid:Int):Ar prog 5 (lrA dv iv sv kp av rv nv xv Fb cs f pid)=some []:=by kernel_rfl
def lrB (pid:Int) (P:l_:=prog):Frame:=(below (run P 5 (lrA dv iv sv kp av rv nv xv Fb cs f pid P))).1
theorem bg0 (pid:Int):run prog 5 (lrA dv iv sv kp av rv nv xv Fb cs f pid)=(Frame.enter prog 19 #[kp,b_ pid,b_ 1] .normal,lrB dv iv sv kp av rv nv xv Fb cs f pid::cs):=by kernel_rfl
def lrC (pid:Int) (P:l_:=prog):Frame×Z_:=run P 6 ((lrB dv iv sv kp av rv nv xv Fb cs f pid P).finish (.tuple #[told,er]),cs)
theorem bf9 (pid:Int):Ar prog 6 ((lrB dv iv sv kp av rv nv xv Fb cs f pid).finish (.tuple #[told,er]),cs)=some []:=by kernel_rfl
theorem bf8 (pid:Int):CU (lrC dv iv sv kp told er av rv nv xv Fb cs f pid)=(8,.code (gY prog)::.inBlock 1::.code (g18 prog)::[.inLoop (gL prog),.inBlock 0,.code (gX prog 14)],[],.run,.normal,none,cs):=by kernel_rfl
theorem bf7 (pid:Int):slotsOf (lrC dv iv sv kp told er av rv nv xv Fb cs f pid) [0,4,12,13,14,18,19,20,21,22,16,17]=[dv,sv,nv,av,kp,rv,xv,Fb,iv,b_ pid,told,er]:=by kernel_rfl
theorem bf6 (pid:Int):(lrC dv iv sv kp told er av rv nv xv Fb cs f pid).1.tmps.size=268:=by kernel_rfl
def lsA (pid:Int) (b:Bool) (P:l_:=prog):Frame×Z_:=(Frame.mk 8 (TN 268 (AL f ([(0,dv),(4,sv),(12,nv),(13,av),(14,kp),(18,rv),(19,xv),(20,Fb),(21,iv),(22,b_ pid),(16,told),(145,.bool b)]))) (.code gEo::.code (gD P)::.inBlock 1::.code (g18 P)::[.inLoop (gL P),.inBlock 0,.code (gX P 14)]) [] .run .normal none,cs)
theorem bf5 (pid:Int):Ar prog 2 (lsA dv iv sv kp told av rv nv xv Fb cs f pid true)=some []:=by kernel_rfl
theorem bf4 (pid:Int):run prog 2 (lsA dv iv sv kp told av rv nv xv Fb cs f pid true)=(Frame.mk 8 (TN 268 (AL f ([(0,dv),(4,sv),(12,nv),(13,av),(14,kp),(18,rv),(19,xv),(20,Fb),(21,iv),(22,b_ pid),(16,told),(145,.bool true)]))) (.code (g18 prog)::[.inLoop (gL prog),.inBlock 0,.code (gX prog 14)]) [] .run .normal none,cs):=by kernel_rfl
theorem an4 (pid:Int):Ar prog 2 (lsA dv iv sv kp told av rv nv xv Fb cs f pid false)=some []:=by kernel_rfl
theorem an2 (pid:Int):run prog 2 (lsA dv iv sv kp told av rv nv xv Fb cs f pid false)=(Frame.mk 8 (TN 268 (AL f ([(0,dv),(4,sv),(12,nv),(13,av),(14,kp),(18,rv),(19,xv),(20,Fb),(21,iv),(22,b_ pid),(16,told),(145,.bool false)]))) (.code (gD prog)::.inBlock 1::.code (g18 prog)::[.inLoop (gL prog),.inBlock 0,.code (gX prog 14)]) [] .run .normal none,cs):=by kernel_rfl
def ltA (P:l_:=prog):Frame×Z_:=(Frame.mk 8 (TN 268 (AL f [(0,dv),(4,sv),(12,nv),(13,av),(14,kp),(18,rv),(19,xv),(20,Fb),(21,iv)])) (.inBlock 1::.code (g18 P)::[.inLoop (gL P),.inBlock 0,.code (gX P 14)]) [] .run .normal none,cs)
theorem bf3:Ar prog 1 (ltA dv iv sv kp av rv nv xv Fb cs f)=some []:=by kernel_rfl
theorem bf2:run prog 1 (ltA dv iv sv kp av rv nv xv Fb cs f)=(Frame.mk 8 (TN 268 (AL f [(0,dv),(4,sv),(12,nv),(13,av),(14,kp),(18,rv),(19,xv),(20,Fb),(21,iv)])) (.code (g18 prog)::[.inLoop (gL prog),.inBlock 0,.code (gX prog 14)]) [] .run .normal none,cs):=by kernel_rfl
def ltB (P:l_:=prog):Frame×Z_:=(Frame.mk 8 (TN 268 (AL f [(0,dv),(4,sv),(12,nv),(13,av),(14,kp),(18,rv),(19,xv),(20,Fb),(21,iv)])) [.inLoop (gL P),.inBlock 0,.code (gX P 14)] [] .run .normal none,cs)
theorem bf1:Ar prog 1 (ltB dv iv sv kp av rv nv xv Fb cs f)=some []:=by kernel_rfl
theorem bf0:run prog 1 (ltB dv iv sv kp av rv nv xv Fb cs f)=xk dv iv sv kp av rv nv xv Fb cs f:=by kernel_rfl
theorem vU (g:Y_) (todo:List Item) (w:o_):stepG prog true (G (Frame.mk 8 (TN 268 (AL g [(10,.bool true)])) todo [] .returning .normal none) []) w=.ended (.done (.bool true)) w #[]:=by kernel_rfl
end
def sg (f:Y_) (a0 a1 a2 a3 a4 a11 a12 a13 a14 a15 a16 a17 a18 a19 a20 a21 a22:n_):X_:=#[a0,a1,a2,a3,a4,f 5,f 6,f 7,f 8,f 9,f 10,a11,a12,a13,a14,a15,a16,a17,a18,a19,a20,a21,a22,f 23,f 24,f 25,f 26,f 27,f 28,f 29,f 30,f 31,f 32,f 33,f 34,f 35,f 36,f 37,f 38,f 39,f 40,f 41,f 42,f 43,f 44,f 45,f 46,f 47,f 48,f 49,f 50,f 51,f 52,f 53,f 54,f 55,f 56,f 57,f 58,f 59,f 60,f 61,f 62,f 63,f 64,f 65,f 66,f 67,f 68,f 69,f 70,f 71,f 72,f 73,f 74,f 75,f 76,f 77,f 78,f 79,f 80,f 81,f 82,f 83,f 84,f 85,f 86,f 87,f 88,f 89,f 90,f 91,f 92,f 93,f 94,f 95,f 96,f 97,f 98,f 99,f 100,f 101,f 102,f 103,f 104,f 105,f 106,f 107,f 108,f 109,f 110,f 111,f 112,f 113,f 114,f 115,f 116,f 117,f 118,f 119,f 120,f 121,f 122,f 123,f 124,f 125,f 126,f 127,f 128,f 129,f 130,f 131,f 132,f 133,f 134,f 135,f 136,f 137,f 138,f 139,f 140,f 141,f 142,f 143,f 144,f 145,f 146,f 147,f 148,f 149,f 150,f 151,f 152,f 153,f 154,f 155,f 156,f 157,f 158,f 159,f 160,f 161,f 162,f 163,f 164,f 165,f 166,f 167,f 168,f 169,f 170,f 171,f 172,f 173,f 174,f 175,f 176,f 177,f 178,f 179,f 180,f 181,f 182,f 183,f 184,f 185,f 186,f 187,f 188,f 189,f 190,f 191,f 192,f 193,f 194,f 195,f 196,f 197,f 198,f 199,f 200,f 201,f 202,f 203,f 204,f 205,f 206,f 207,f 208,f 209,f 210,f 211,f 212,f 213,f 214,f 215,f 216,f 217,f 218,f 219,f 220,f 221,f 222,f 223,f 224,f 225,f 226,f 227,f 228,f 229,f 230,f 231,f 232,f 233,f 234,f 235,f 236,f 237,f 238,f 239,f 240,f 241,f 242,f 243,f 244,f 245,f 246,f 247,f 248,f 249,f 250,f 251,f 252,f 253,f 254,f 255,f 256,f 257,f 258,f 259,f 260,f 261,f 262,f 263,f 264,f 265,f 266,f 267]
def NQ (w:o_) (b o i:Nat) (kd pid:Int):Prop:=(-9223372036854775808<=kd/\kd<=9223372036854775807)/\(-9223372036854775808<=pid/\pid<=9223372036854775807)/\w.cell? (T_ b (o+i*3))=some (b_ kd)/\w.cell? (T_ b (o+i*3+1))=some (b_ pid)
theorem NQ.no {w w':o_} {b o i:Nat} {kd pid:Int} (h:NQ w b o i kd pid) (hK:Keep No w w'):NQ w' b o i kd pid:=⟨h.1,h.2.1,hK.has h.2.2.1,hK.has h.2.2.2⟩
theorem bd1 {t n m:Nat} {d:Nat->Nat} (hn:n<=32) (hm:m<=16) (hd:∀i,d i<65536) (i:Nat):pw t n m d i<65536:=by
 have key:∀(l:List Nat) (k:Nat),(∀x∈l,x<65536)->l.getD k 0<65536:=λl k h=>by
  rw[List.getD_eq_getElem?_getD]
  cases e:l[k]? with
  |none=>decide
  |some x=>exact h x (t_ e)
 unfold pw
 repeat' split
 all_goals first|decide|exact hd _|exact key _ _ (by decide)|(apply key;intro x a;simp at a;omega)
theorem aj0 {N:Nat} {f:Nat->Int} (i:Nat):Ej N f i<65536:=by
 unfold Ej;split
 .exact Ie _ (by decide)
 .decide
def bm5 (t n q:Nat) (d:Nat->Nat) (w:o_) (K:KS) (w':o_):Prop:=Keep No w w'/\∃b ib fb Ae,A8 K w'/\GK 16 40 K/\K.AV=[b]/\K.ps b=some (Ef ib fb Ae)/\as4 K b 40 128/\Ae.length=128/\(∀i,i<112->Ae[i]?=some (pw t n q d i))/\∀k,K.T k≠(0,0)->w.heap.size<=k
theorem af6 {w:o_}:(binOp .neq 59 (.agg #[b_ 1,b_ 5,b_ 0,b_ 0]) (.agg #[b_ 1,b_ 5,b_ 0,b_ 0])).run prog w=.ok (.bool false) w:=by kernel_rfl
theorem af5 {w:o_}:(binOp .neq 59 (.agg #[b_ 1,b_ 2,b_ 2,b_ 0]) (.agg #[b_ 1,b_ 2,b_ 2,b_ 0])).run prog w=.ok (.bool false) w:=by kernel_rfl
theorem wI {w:o_}:(Instr.build 59 #[(0,b_ 1),(1,b_ 5)]).run prog w=.ok (.agg #[b_ 1,b_ 5,b_ 0,b_ 0]) w:=by kernel_rfl
theorem wH {w:o_}:(Instr.build 59 #[(0,b_ 1),(1,b_ 2),(2,b_ 2)]).run prog w=.ok (.agg #[b_ 1,b_ 2,b_ 2,b_ 0]) w:=by kernel_rfl
theorem pW {w:o_} {s:d_ f_} {n c:Nat}:(Instr.build 25 #[(0,b_ 16),(1,b_ 40),(2,.slice s n c)]).run prog w=.ok (.agg #[b_ 16,b_ 40,.slice s n c,.slice none 0 0]) w:=by kernel_rfl
theorem Oe {base:Nat} {T:Tag} {told:n_} {w:o_} {ev:Ev} (h:O8 base T told w [ev]):∃g c,told=Q_ g 1 c/\w.cell? (S_ g)=some (b_ ev.1)/\w.cell? (T_ g 1)=some (b_ ev.2.1)/\w.cell? (T_ g 2)=some (b_ ev.2.2.1)/\w.cell? (T_ g 3)=some (b_ ev.2.2.2):=by
 have a:=h.row;obtain⟨i,f,d⟩:∃g c,told=Q_ g 1 c:=by
  obtain⟨_,e⟩|⟨g,cap,b,e,_⟩:=a.2
  .simp at e
  .exact⟨g,cap,e⟩
 subst d;exact⟨i,f,rfl,a.cellAt 0 (by simp),a.cellAt 1 (by simp),a.cellAt 2 (by simp),a.cellAt 3 (by simp)⟩
theorem ae6 {w:o_} {base t n q:Nat} {d:Nat->Nat} {v:n_} (h:w.ownsRow base 3 1 v 128 (rowP t n q d 128)):∃g c,v=Q_ g 128 c/\∀i,i<128->w.cell? (T_ g i)=some (b_ ((pw t n q d i:Nat):Int)):=by
 obtain⟨g,c,f⟩:∃g c,v=Q_ g 128 c:=by
  obtain⟨_,e⟩|⟨g,cap,a,e,_⟩:=h.2
  .omega
  .exact⟨g,cap,e⟩
 subst f;refine⟨g,c,rfl,λi b=>(h.cellAt i (by omega)).trans ?_⟩;unfold rowP;rw[List.getElem?_map,List.getElem?_range b];rfl
section
variable (m:Nat) (w:o_) (f:Y_)
theorem bp6 (dv tv iv sv:n_) (out:Int) (r:Nat) (h1:-9223372036854775808<=out) (h2:out<=9223372036854775807) (hr:Dt out 32=r):(gq prog 2).wpIn NF m prog (Ends λtm w'=>(∃g,tm=TN 268 (AL g [(0,dv),(1,tv),(3,iv),(4,sv),(11,.bool true),(12,b_ (1+r:Nat))]))/\Keep No w w') ⟨TN 268 (AL f [(0,dv),(1,tv),(2,b_ out),(3,iv),(4,sv),(11,.bool true)]),[]⟩ w:=by
 have c:=Ie out (n:=32) (by decide);rw[hr]at c;have a:=λm=>Q5 m w out 32 r h1 h2 (by omega) (by omega) hr
 clear hr;unfold gq;rw[body8];dsimp only[Tryz.f8,Option.getD,behind,piece];show Code.wpIn (Fence.list LF none) m prog _ _ ⟨sg f (dv) (tv) (b_ out) (iv) (sv) (.bool true) (f 12) (f 13) (f 14) (f 15) (f 16) (f 17) (f 18) (f 19) (f 20) (f 21) (f 22),[]⟩ _;unfold sg;gi_wp2_with (gi_at_call 16;refine(a _).mono ?_;rintro e w1 ⟨rfl,b⟩;have b:=b.symm;subst b);exact⟨rfl,rfl,⟨_,C9 rfl (by simp)⟩,p_ _ _⟩
theorem bp5 (dv tv nv sv:n_) (out:Int) (r:Nat) (h1:-9223372036854775808<=out) (h2:out<=9223372036854775807) (hr:Dt out 16=r):(gq prog 3).wpIn NF m prog (Ends λtm w'=>(∃g,tm=TN 268 (AL g [(0,dv),(1,tv),(4,sv),(11,.bool true),(12,nv),(13,b_ (1+r:Nat))]))/\Keep No w w') ⟨TN 268 (AL f [(0,dv),(1,tv),(3,b_ out),(4,sv),(11,.bool true),(12,nv)]),[]⟩ w:=by
 have c:=Ie out (n:=16) (by decide);rw[hr]at c;have a:=λm=>Q5 m w out 16 r h1 h2 (by omega) (by omega) hr
 clear hr;unfold gq;rw[body8];dsimp only[Tryz.f8,Option.getD,behind,piece];show Code.wpIn (Fence.list LF none) m prog _ _ ⟨sg f (dv) (tv) (f 2) (b_ out) (sv) (.bool true) (nv) (f 13) (f 14) (f 15) (f 16) (f 17) (f 18) (f 19) (f 20) (f 21) (f 22),[]⟩ _;unfold sg;gi_wp2_with (gi_at_call 16;refine(a _).mono ?_;rintro e w1 ⟨rfl,b⟩;have b:=b.symm;subst b);exact⟨rfl,rfl,⟨_,C9 rfl (by simp)⟩,p_ _ _⟩
theorem bp4 (dv sv:n_) (N:Nat) (fd:Nat->Int) (tm:Int) (r n q:Nat) (h1:-9223372036854775808<=tm) (h2:tm<=9223372036854775807) (hr:Dt tm 4=r) (hn:n<=32) (hq:q<=16) (hD:TZ w dv N fd):(gq prog 4).wpIn NF m prog (Ends λtm w'=>∃g K,tm=TN 268 (AL g [(0,dv),(4,sv),(11,.bool true),(12,b_ (n:Nat)),(13,b_ (q:Nat)),(14,ptr K.kb),(15,b_ 0)])/\bm5 (1+r) n q (Ej N fd) w K w') ⟨TN 268 (AL f [(0,dv),(1,b_ tm),(4,sv),(11,.bool true),(12,b_ (n:Nat)),(13,b_ (q:Nat))]),[]⟩ w:=by
 have A:=Ie tm (n:=4) (by decide);rw[hr]at A;have p:=λm=>Q5 m w tm 4 r h1 h2 (by omega) (by omega) hr
 clear hr;have j:=λm=>ad9 m w dv N fd (1+r) n q hD (by omega)
 have B:((1+r:Nat):Int)=1+(r:Int):=by omega
 rw[B]at j;have G:∀w:o_,bu w (.slice none 0 0) 0 (λ_=>(.slice none 0 0,0,λ_=>0)):=λw=>⟨_,_,rfl,λh=>absurd h (by omega)⟩
 have l:=λi=>bd1 (t:=1+r) (n:=n) (m:=q) (d:=Ej N fd) hn hq aj0 i
 unfold gq;rw[body8];dsimp only[Tryz.f8,Option.getD,behind,piece];show Code.wpIn (Fence.list LF none) m prog _ _ ⟨sg f (dv) (b_ tm) (f 2) (f 3) (sv) (.bool true) (b_ (n:Nat)) (b_ (q:Nat)) (f 14) (f 15) (f 16) (f 17) (f 18) (f 19) (f 20) (f 21) (f 22),[]⟩ _;unfold sg;gi_wp2_with (first|(gi_at_call 16;refine(p _).mono ?_;rintro e w1 ⟨rfl,u⟩;have u:=u.symm;subst u)|(gi_at_call 25;refine(j _).mono ?_;rintro e w1 ⟨x,v,rfl,D⟩;obtain⟨g,y,R,a⟩:∃g c,v=Q_ g 128 c/\∀i,i<128->w1.cell? (T_ g i)=some (b_ ((pw (1+r) n q (Ej N fd) i:Nat):Int)):=(ae6 D);subst R;have I:PgI w1 (Q_ g 128 y) 128 (λi=>((pw (1+r) n q (Ej N fd) i:Nat):Int)):=⟨⟨_,_,rfl⟩,λ_=>⟨by omega,_,_,rfl,λ_=>⟨_,_,rfl,λi z=>by rw[Nat.zero_add];exact a i z⟩⟩⟩;have H:=λm=>an1 m w1 16 40 _ _ 128 0 _ _ I (G w1);have U:=pW (w:=w1) (s:=some (S_ g)) (n:=128) (c:=y))|(gi_at_call 14;refine(H _).mono ?_;rintro e w2 ⟨E,⟨_,o⟩|⟨K,b,S,F,C,M,rfl,T,ok,P,L,Q,V,W,_,J⟩⟩))
 .exact(o trivial ⟨by omega,⟨by omega,by omega,λi _=>by have:=l i;show(0:Int)<=((pw (1+r) n q (Ej N fd) i:Nat):Int)/\((pw (1+r) n q (Ej N fd) i:Nat):Int)<=65535;omega⟩,by unfold Am;omega⟩).elim
 .obtain rfl:C=16:=by omega
  obtain rfl:M=40:=by omega
  unfold ptr;gi_wp2;refine⟨rfl,rfl,_,K,C9 rfl (by simp),x.then E,b,S,F,_,T,ok,P,L,J,by simp[XO,Am],λi z=>?_,λk O=>Nat.le_trans x.size (Q k O)⟩;unfold XO;rw[List.getElem?_map,List.getElem?_range (by unfold Am;omega)];simp[padded,show i<128 by omega]
theorem bp3 (dv sv nv av:n_) (kb:Nat):(gq prog 5).wpIn NF m prog (Ends λtm w'=>(∃g,tm=TN 268 (AL g [(0,dv),(4,sv),(12,nv),(13,av),(14,ptr kb)]))/\Keep No w w') ⟨TN 268 (AL f [(0,dv),(4,sv),(11,.bool true),(12,nv),(13,av),(14,ptr kb),(15,b_ 0)]),[]⟩ w:=by
 unfold gq;rw[body8];dsimp only[Tryz.f8,Option.getD,behind,piece];show Code.wpIn (Fence.list LF none) m prog _ _ ⟨sg f (dv) (f 1) (f 2) (f 3) (sv) (.bool true) (nv) (av) (ptr kb) (b_ 0) (f 16) (f 17) (f 18) (f 19) (f 20) (f 21) (f 22),[]⟩ _;unfold sg ptr;gi_wp2;exact⟨rfl,rfl,⟨_,C9 rfl (by simp)⟩,p_ _ _⟩
theorem bp2 (dv sv nv av kp told:n_) (base:Nat) (T:Tag) (ht:O8 base T told w [(1,5,0,0)]):(gq prog 7).wpIn NF m prog (Ends λtm w'=>(∃g,tm=TN 268 (AL g [(0,dv),(4,sv),(12,nv),(13,av),(14,kp)]))/\Keep No w w') ⟨TN 268 (AL f [(0,dv),(4,sv),(12,nv),(13,av),(14,kp),(16,told),(17,b_ 0)]),[]⟩ w:=by
 obtain⟨g,c,rfl,a,b,d,e⟩:=Oe ht;simp at a b d e;have h:=wI (w:=w);have i:=af6 (w:=w);clear ht;unfold gq;rw[body8];dsimp only[Tryz.f8,Option.getD,behind,piece];show Code.wpIn (Fence.list LF none) m prog _ _ ⟨sg f (dv) (f 1) (f 2) (f 3) (sv) (f 11) (nv) (av) (kp) (f 15) (Q_ g 1 c) (b_ 0) (f 18) (f 19) (f 20) (f 21) (f 22),[]⟩ _;unfold sg;gi_wp2;exact⟨rfl,rfl,⟨_,C9 rfl (by simp)⟩,p_ _ _⟩
theorem bp1 (dv sv nv av kp told:n_) (base:Nat) (T:Tag) (ht:O8 base T told w [(1,2,2,0)]):(gq prog 9).wpIn NF m prog (Ends λtm w'=>(∃g,tm=TN 268 (AL g [(0,dv),(4,sv),(12,nv),(13,av),(14,kp)]))/\Keep No w w') ⟨TN 268 (AL f [(0,dv),(4,sv),(12,nv),(13,av),(14,kp),(16,told),(17,b_ 0)]),[]⟩ w:=by
 obtain⟨g,c,rfl,a,b,d,e⟩:=Oe ht;simp at a b d e;have h:=wH (w:=w);have i:=af5 (w:=w);clear ht;unfold gq;rw[body8];dsimp only[Tryz.f8,Option.getD,behind,piece];show Code.wpIn (Fence.list LF none) m prog _ _ ⟨sg f (dv) (f 1) (f 2) (f 3) (sv) (f 11) (nv) (av) (kp) (f 15) (Q_ g 1 c) (b_ 0) (f 18) (f 19) (f 20) (f 21) (f 22),[]⟩ _;unfold sg;gi_wp2;exact⟨rfl,rfl,⟨_,C9 rfl (by simp)⟩,p_ _ _⟩
end
end Go.Fxa
