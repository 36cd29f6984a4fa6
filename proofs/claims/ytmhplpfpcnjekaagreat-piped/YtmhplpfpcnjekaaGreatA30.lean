/- A call is served: those of pro -/
import Derived.Test.YtmhplpfpcnjekaaGreatA29
namespace Go.Fxa
open Conc Proofs RowKit Proofs.Tryz
set_option maxRecDepth 1000000
set_option maxHeartbeats 0
section
variable (m:Nat) (w:o_)
def QO (call:Nat):Prop:=call=1\/call=2\/call=5\/call=6\/call=7\/call=8\/call=12
theorem Wv (K:KS) (NC NS b call:Nat) (r:PR) (h:A8 K w) (hO:GK NC NS K) (hm:b∈K.AV) (hb:K.ps b=some r) (hn:r.en=false) (ca:∀m w,P_ m 139 #[a_ (call:Nat)] w fun e w'=>e=.returned (b_ 1)/\w'=w) (hc:call=1\/call=5\/call=8):
  P_ m 96 #[R_ K.kb,R_ b,a_ (call:Nat)] w (Kr (LY K b r call) NC NS b K w):=by
 have o:=hO.pr b r hb;have hL:=(hO.co.pl b r hb).1;have P:=o.A;obtain⟨E,U,N⟩:=Oa w;have k:=h.no E;have V:K.T w.heap.size=(0,0):=h.lt _ (w_ _);obtain⟨C,ci,M,t,tgi,him⟩:=k.qw hb hn;have jw:=t.le;have S:=k.JK hb 5;simp[PR.arr]at S;by_cases n:r.A+1<=r.Ae.length
 .obtain⟨a0,R⟩:∃v,r.Ae[r.A+0]?=some v:=⟨_,Lh (by omega)⟩;have O:=o.Ae a0 (t_ R);have j0:(w.alloc V_).cell? (T_ C (r.A+0))=some (a_ (a0:Nat)):=(t.cell (by omega)).trans (by rw[AB,List.getElem?_map,R];rfl);have v0:=VM R;clear R;gi_enter func96,ntmps96;gi_wp2;generalize hw0:w.alloc V_=a at*;refine CV 15 155 ?_;gi_wp2_with (first|(gi_at_call 139;refine(ca _ a.drew).mono ?_;rintro e w1 ⟨rfl,rfl⟩)|(gi_at_call 138;refine(GV b C ci r.Ae.length 1 r.A _ a.drew M (by omega) P hL jw n).mono ?_;rintro e w1 ⟨rfl,rfl⟩));refine Fg ?_ ?_
  .intro W d;have d5:=d.has (w:=a.drew) S;have X:=d.has (w:=a.drew) M
   repeat' (refine Az ?_ ?_)
   all_goals first|exact trivial|gi_wp2_with (first|(gi_at_call 139;refine(ca _ W).mono ?_;rintro e w1 ⟨rfl,rfl⟩)|(gi_at_call 138;refine(GV b C ci r.Ae.length 1 r.A _ W X (by omega) P hL jw n).mono ?_;rintro e w1 ⟨rfl,rfl⟩))
  .intro W d;have KW:Keep No a W:=(p_ No a).drew.then d;gi_wp2_with fail;refine(Qb _ W (T_ C r.A) 1 1 [a_ (a0:Nat)] rfl (λj u Q=>by
    match j,Q with
    |0,Q=>simp at Q;subst Q;exact KW.has j0
    ) (by simp[Value.oneCell']) (by omega)).mono ?_;rintro e w1 ⟨K1,v,rfl,Jp⟩;obtain⟨g,cap,rfl,hR,_⟩:=VD Jp (by omega) (by simp[Value.oneCell']);have D:Keep No a w1:=KW.then K1;have d0:w1.cell? (S_ g)=some (a_ (a0:Nat)):=(hR.cell (by omega)).trans rfl;clear Jp t hR K1 KW d S M j0;obtain rfl|rfl|rfl:=hc
   .have I:=λm=>zJ m w1 K NC NS b a0 r (k.no D) hO hm hb hn O
    gi_wp2_with (first|(gi_at_call 100;refine(I _).mono ?_;rintro e w2 ⟨rfl,p,J,c,H,G,⟨r2,F,Z⟩,Y⟩;have i:=(BV.no D k.lt).trans G;obtain⟨w8,l,q,s⟩:=AU (x:=a0) (y:=0) (f:=.nilFunc) (i.old U V) rfl)|refine Io l ?_);refine TR a0 0 (by simp[results,results96,go_sem,Jj s]) rfl ?_;exact Ci (K':=p) (x:=a0) (y:=0) h.lt E N i J q O (by omega) (.inl rfl) c H F (λe=>absurd e (by simp[Z])) (.inr ⟨.inr n,v0.out.symm,rfl,rfl,by rw[v0.out];exact Y⟩)
   .have I:=λm=>vG m w1 K NC NS b a0 r (k.no D) hO hm hb hn O
    gi_wp2_with (first|(gi_at_call 145;refine(I _).mono ?_;rintro e w2 ⟨p,x,y,f,rfl,hx,hy,L,J,c,H,G,⟨r2,F,B⟩,z⟩;have i:=(BV.no D k.lt).trans G;obtain⟨w8,l,q,s⟩:=AU (x:=x) (y:=y) (f:=f) (i.old U V) L.one)|refine Io l ?_);refine bodyPost_ret (v:=.agg #[a_ x,a_ y,f]) (by simp[results,results96,go_sem,Jj s]) rfl ?_;exact Ci (K':=p) (x:=x) (y:=y) h.lt E N i J q hx hy L c H F B (.inr ⟨.inr n,by show qW K b r (Gi r 0) p x y f;rw[v0.out];exact z⟩)
   .have I:=λm=>Ϝ m w1 K NC NS b a0 r (k.no D) hO hm hb hn O
    gi_wp2_with (first|(gi_at_call 148;refine(I _).mono ?_;rintro e w2 ⟨p,x,y,f,rfl,hx,hy,L,J,c,H,G,⟨r2,F,B⟩,z⟩;have i:=(BV.no D k.lt).trans G;obtain⟨w8,l,q,s⟩:=AU (x:=x) (y:=y) (f:=f) (i.old U V) L.one)|refine Io l ?_);refine bodyPost_ret (v:=.agg #[a_ x,a_ y,f]) (by simp[results,results96,go_sem,Jj s]) rfl ?_;exact Ci (K':=p) (x:=x) (y:=y) h.lt E N i J q hx hy L c H F B (.inr ⟨.inr n,by show Zu K b r (Gi r 0) p x y f;rw[v0.out];exact z⟩)
 .gi_enter func96,ntmps96;gi_wp2;generalize hw0:w.alloc V_=a at*;refine CV 15 155 ?_;gi_wp2_with (first|(gi_at_call 139;refine(ca _ a.drew).mono ?_;rintro e w1 ⟨rfl,rfl⟩)|(gi_at_call 138;refine(MB b C ci r.Ae.length 1 r.A _ a.drew M (by omega) (by omega) P n).mono ?_;rintro e w1 ⟨rfl,rfl⟩));refine Fg ?_ ?_
  .intro W d;have d5:=d.has (w:=a.drew) S;have X:=d.has (w:=a.drew) M
   repeat' (refine Az ?_ ?_)
   all_goals first|exact trivial|gi_wp2_with (first|(gi_at_call 139;refine(ca _ W).mono ?_;rintro e w1 ⟨rfl,rfl⟩)|(gi_at_call 138;refine(MB b C ci r.Ae.length 1 r.A _ W X (by omega) (by omega) P n).mono ?_;rintro e w1 ⟨rfl,rfl⟩))
  .intro W d;have KW:Keep No a W:=(p_ No a).drew.then d;have rbW:=KW.old U id;gi_wp2_with (first|(gi_at_call 140;refine(wr8 1 rbW _).mono ?_;rintro e wz ⟨rfl,Kz,w8,l,q,s⟩)|refine Io l ?_);refine TR 0 1 (by simp[results,results96,go_sem,Jj s]) rfl ?_;exact DX h hO hm hb E N (KW.then Kz) q (by decide) (by decide) (.inl ⟨by rw[show UQ call=1 by obtain rfl|rfl|rfl:=hc<;>rfl];omega,O6.of⟩)
theorem au1 (K:KS) (NC NS b call:Nat) (r:PR) (hc:QO call) (h:A8 K w) (hO:GK NC NS K) (hm:b∈K.AV) (hb:K.ps b=some r) (hn:r.en=false):
  P_ m 96 #[R_ K.kb,R_ b,a_ (call:Nat)] w (Kr (LY K b r call) NC NS b K w):=by
 obtain rfl|rfl|rfl|rfl|rfl|rfl|rfl:=hc
 .exact Wv m w K NC NS b 1 r h hO hm hb hn (λm w=>OE m w 1 1 (by simp)) (by simp)
 .exact rG m w K NC NS b 2 r h hO hm hb hn (λm w=>OE m w 2 0 (by simp)) (by simp)
 .exact Wv m w K NC NS b 5 r h hO hm hb hn (λm w=>OE m w 5 1 (by simp)) (by simp)
 .exact rF m w K NC NS b 6 r h hO hm hb hn (λm w=>OE m w 6 3 (by simp)) (by simp)
 .exact rF m w K NC NS b 7 r h hO hm hb hn (λm w=>OE m w 7 3 (by simp)) (by simp)
 .exact Wv m w K NC NS b 8 r h hO hm hb hn (λm w=>OE m w 8 1 (by simp)) (by simp)
 .exact rG m w K NC NS b 12 r h hO hm hb hn (λm w=>OE m w 12 0 (by simp)) (by simp)
end
def FB (r:PR) (op n:Nat):Nat:=if op=9 then r.A else if op=10 then r.B else n
def Eu (r:PR) (op n:Nat):Nat×Nat×PR:=
 if FB r op n<r.Ae.length then
  if op=2\/op=9 then(0,0,{ r with A:=(r.Ae[FB r op n]?).getD 0 })
  else if op=3\/op=10 then(0,0,{ r with Ae:=r.Ae.set (FB r op n) r.A })
  else if op=4 then(0,0,{ r with A:=(r.A+(r.Ae[FB r op n]?).getD 0) % 65536 })
  else if op=5 then(0,0,{ r with A:=(r.A+65536-(r.Ae[FB r op n]?).getD 0) % 65536 })
  else(2,0,r)
 else(2,0,r)
def MV (r:PR) (op n:Nat):Nat×Nat×PR:=
 if op=1 then(0,0,{ r with P:=r.P+2,A:=n })
 else if op=6 then(0,0,{ r with P:=n })
 else if op=7 then(0,0,if r.A=0 then { r with P:=n } else { r with P:=r.P+2 })
 else if op=8 then(0,0,{ r with P:=r.P+2,A:=r.B,B:=r.A })
 else if op=11 then(1,n,{ r with P:=r.P+2 })
 else Eu { r with P:=r.P+2 } op n
def Dq (r:PR):Nat×Nat×PR:=if r.P+2<=r.Ae.length then MV r ((r.Ae[r.P]?).getD 0) ((r.Ae[r.P+1]?).getD 0)else(2,0,r)
def uA (K:KS) (b:Nat) (w:o_) (s:Nat×Nat×PR) (e:Ending) (w':o_):Prop:=e=.returned (.tuple #[b_ (s.1:Nat),a_ (s.2.1:Nat)])/\A8 (K.AP b s.2.2) w'/\BV K.T K.T w w'
def Zj (K:KS) (b:Nat) (w:o_) (s:Nat×Nat×PR) (e:Ending) (w':o_):Prop:=e=.returned (b_ (s.1:Nat))/\A8 (K.AP b s.2.2) w'/\BV K.T K.T w w'
theorem tq {K:KS} {b A B P:Nat} {r:PR} {w w':o_} (h:A8 K w) (hb:K.ps b=some r) (hK:Keep (At b) w w') (ho:w'.heap[b]?=some ({ r with A:=A,B:=B,P:=P }:PR).obj):A8 (K.AP b { r with A:=A,B:=B,P:=P }) w'/\BV K.T K.T w w':=by
 have a:=h.ps b r hb;have M:DY K.T K.T (λt=>t=(6,b)\/t=(7,b)\/t=(8,b)\/t=(9,b)) (λt=>t=(6,b)\/t=(7,b)\/t=(8,b)\/t=(9,b)) w w':=DY.of (hK.on λk _ e=>by subst e;exact .inl a.t) h.lt;have ne:∀{x:Nat} {t:Nat×Nat},K.T x=t->t≠(6,b)->¬At b x:=fun {x t} f i e=>by
  have e:x=b:=e
  subst e;exact i (f.symm.trans a.t)
 refine⟨h.um M ⟨a.t,ho,λe=>?_,λe=>?_,?_,a.no⟩,M.TL (by rintro t (rfl|rfl|rfl|rfl)<;>simp)⟩
 .obtain⟨g,c,a1,a2,d⟩:=a.im e;exact⟨g,c,a1,a2.keep hK (ne d (by simp)),d⟩
 .obtain⟨g,c,a1,a2,d⟩:=a.fd e;exact⟨g,c,a1,a2.keep hK (ne d (by simp)),d⟩
 .obtain h|⟨x,y,f,i,m,j,l⟩|h:=a.bl
  .exact .inl h
  .exact .inr (.inl ⟨x,y,f,hK.old i (ne j (by simp)),hK.old m (ne l (by simp)),j,l⟩)
  .exact .inr (.inr h)
section
variable (m:Nat) (w:o_)
theorem qj (b op n:Nat) (r:PR) (h5:w.cell? (T_ b 5)=some (a_ (r.A:Nat))) (h6:w.cell? (T_ b 6)=some (a_ (r.B:Nat))):
  P_ m 244 #[.pointer (some (T_ b 5)),a_ (op:Nat),a_ (n:Nat)] w λe w'=>e=.returned (a_ (FB r op n:Nat))/\w'=w:=by
 obtain⟨a,c⟩:∃a,a=FB r op n:=⟨_,rfl⟩;rw[<-c];have f:(op=9/\a=r.A)\/(op=10/\a=r.B)\/(¬(op:Int)=9/\¬(op:Int)=10/\a=n):=by
  unfold FB at c
  split at c
  .exact .inl ⟨by assumption,c⟩
  .split at c
   .exact .inr (.inl ⟨by assumption,c⟩)
   .exact .inr (.inr ⟨by omega,by omega,c⟩)
 clear c;gi_enter func244,ntmps244;obtain⟨rfl,rfl⟩|⟨rfl,rfl⟩|⟨g,d,rfl⟩:=f
 all_goals gi_wp2
 all_goals go_ret
 all_goals exact⟨by simp,rfl⟩
def VN (op:Nat):Prop:=¬(op:Int)=2/\¬(op:Int)=9/\¬(op:Int)=3/\¬(op:Int)=10/\¬(op:Int)=4/\¬(op:Int)=5
theorem zX (K:KS) (b op n:Nat) (r:PR) (h:A8 K w) (hb:K.ps b=some r) (hn:r.en=false) (o:r.Ok) (hL:r.Ae.length<=128) (hx:n<65536):
  P_ m 226 #[.pointer (some (T_ b 5)),a_ (op:Nat),a_ (n:Nat)] w (Zj K b w (Eu r op n)):=by
 obtain⟨l,ci,J,g,V,t⟩:=h.qw hb hn;have U:=g.le;have H:=h.JK hb 5;have I:=h.JK hb 6;simp[PR.arr]at H I;have z5:=h.tZ hb 5;have u:=λm=>qj m w b op n r H I
 have Y:=o.A;have G:FB r op n<65536:=by have:=o.A;have:=o.B;unfold FB;split<;>(try split)<;>omega
 have no:Zj K b w (2,0,r) (.returned (b_ 2)) w:=⟨rfl,by show A8 (K.AP b r) w;rw[GX hb];exact h,BV.no (p_ _ _) h.lt⟩;by_cases j:FB r op n<r.Ae.length
 .obtain⟨y,k⟩:∃v,r.Ae[FB r op n]?=some v:=⟨_,Lh (by omega)⟩;have W:=o.Ae y (t_ k);have d:w.cell? (T_ l (FB r op n))=some (a_ (y:Nat)):=(g.cell (by omega)).trans (by rw[AB,List.getElem?_map,k];rfl);have zi:=g.fz (FB r op n);have p:∀x:Nat,Eu r op n=(0,0,{ r with A:=x })->Zj K b w (Eu r op n) (.returned (b_ 0)) (w.setCell (T_ b 5) (a_ (x:Nat))):=λx e=>by
   rw[e]
   exact⟨rfl,h.like (r':={ r with A:=x }) (i:=5) (v:=a_ (x:Nat)) hb ⟨rfl,rfl,rfl,rfl,rfl⟩ rfl (h.ps b r hb).bl,h.FI hb⟩
  have sD:Hid (∀e f,Zj K b w (Eu r op n) e f->Zj K b w (Eu r op n) e f.drew):=λe f h=>⟨h.1,h.2.1.no (p_ No f).drew,h.2.2.then (p_ No f).drew⟩
  have q:=h.ZG (i:=FB r op n) (x:=r.A) hb hn t;have r0:(op=2\/op=9)->Eu r op n=(0,0,{ r with A:=y }):=λe=>by unfold Eu;rw[if_pos j,if_pos e,k];rfl
  have L:(op=3\/op=10)->Eu r op n=(0,0,{ r with Ae:=r.Ae.set (FB r op n) r.A }):=λe=>by unfold Eu;rw[if_pos j,if_neg (by omega),if_pos e]
  have M:op=4->Eu r op n=(0,0,{ r with A:=(r.A+y) % 65536 }):=λe=>by unfold Eu;rw[if_pos j,if_neg (by omega),if_neg (by omega),if_pos e,k];rfl
  have N:op=5->Eu r op n=(0,0,{ r with A:=(r.A+65536-y) % 65536 }):=λe=>by unfold Eu;rw[if_pos j,if_neg (by omega),if_neg (by omega),if_neg (by omega),if_pos e,k];rfl
  have O:VN op->Eu r op n=(2,0,r):=λ⟨e1,e2,e3,e4,C,D⟩=>by unfold Eu;rw[if_pos j,if_neg (by omega),if_neg (by omega),if_neg (by omega),if_neg (by omega)]
  have w4:IntKind.u16.wrap ((r.A:Int)+(y:Int))=(((r.A+y) % 65536:Nat):Int):=by rw[wrap_u16];omega
  have Z:IntKind.u16.wrap ((r.A:Int)-(y:Int))=(((r.A+65536-y) % 65536:Nat):Int):=by rw[wrap_u16];omega
  have P:(op=2\/op=9\/op=3\/op=10\/op=4\/op=5)\/VN op:=by unfold VN;omega
  generalize s:Zj K b w (Eu r op n)=X at*;have Q:Hid ((op=2\/op=9)->∀e,e=.returned (b_ 0)->X e (w.setCell (T_ b 5) (a_ (y:Nat)))):=λe=>by rintro _ rfl;exact p _ (r0 e)
  have R:Hid ((op=3\/op=10)->∀e,e=.returned (b_ 0)->X e (w.setCell (T_ l (FB r op n)) (a_ (r.A:Nat)))):=λe=>by rintro _ rfl;exact(by rw[<-s,L e];exact⟨rfl,q.1,q.2⟩)
  have E:Hid (op=4->∀e (z:Int),e=.returned (b_ 0)->z=(((r.A+y) % 65536:Nat):Int)->X e (w.setCell (T_ b 5) (a_ z))):=λe=>by rintro _ _ rfl rfl;exact p _ (M e)
  have F:Hid (op=5->∀e (z:Int),e=.returned (b_ 0)->z=(((r.A+65536-y) % 65536:Nat):Int)->X e (w.setCell (T_ b 5) (a_ z))):=λe=>by rintro _ _ rfl rfl;exact p _ (N e)
  have S:Hid (VN op->∀e,e=.returned (b_ 2)->X e w):=λe=>by rintro _ rfl;exact(by rw[<-s,O e];exact no)
  clear p r0 L M N O q no s k;generalize FB r op n=a at*;gi_enter func226,ntmps226;gi_wp2_with (first|(gi_at_call 244;refine(u _).mono ?_;rintro e f ⟨rfl,c⟩;have c:=c.symm;subst c)|(gi_at_call 138;refine(GV b l ci r.Ae.length 1 a _ w J (by omega) G hL U (by omega)).mono ?_;rintro e f ⟨rfl,c⟩;have c:=c.symm;subst c;obtain(rfl|rfl|rfl|rfl|rfl|rfl)|⟨e1,e2,e3,e4,C,D⟩:=P))
  all_goals (try gi_region)
  all_goals (try gi_wp2)
  all_goals (try go_ret)
  all_goals first|exact Q.out (by simp) _ (by simp)|exact R.out (by simp) _ (by simp)|exact E.out (by simp) _ _ (by simp) (by omega)|exact F.out (by simp) _ _ (by simp) (by omega)|exact sD.out _ _ (E.out (by simp) _ _ (by simp) (by omega))|exact sD.out _ _ (F.out (by simp) _ _ (by simp) (by omega))|exact S.out ⟨e1,e2,e3,e4,C,D⟩ _ (by simp)
 .have e:Eu r op n=(2,0,r):=by unfold Eu;rw[if_neg j]
  rw[e];clear e;generalize FB r op n=a at*;have no:Hid (∀e,e=.returned (b_ 2)->Zj K b w (2,0,r) e w):=λe T=>by rw[T];exact no
  generalize Zj K b w (2,0,r)=X at*;gi_enter func226,ntmps226;gi_wp2_with (first|(gi_at_call 244;refine(u _).mono ?_;rintro e f ⟨rfl,c⟩;have c:=c.symm;subst c)|(gi_at_call 138;refine(MB b l ci r.Ae.length 1 a _ w J (by omega) (by omega) G (by omega)).mono ?_;rintro e f ⟨rfl,c⟩;have c:=c.symm;subst c))
  try go_ret
  exact no.out _ (by simp)
end
theorem Hid.in {p:Prop} (h:p):Hid p:=h
def ZR (op:Nat):Prop:=¬(op:Int)=1/\¬(op:Int)=6/\¬(op:Int)=7/\¬(op:Int)=8/\¬(op:Int)=11
section
variable (m:Nat) (w:o_)
theorem ac0 (K:KS) (b:Nat) (r:PR) (h:A8 K w) (hb:K.ps b=some r) (hn:r.en=false) (o:r.Ok) (hL:r.Ae.length<=128):
  P_ m 185 #[.pointer (some (T_ b 5))] w (uA K b w (Dq r)):=by
 obtain⟨f,ci,S,k,tgi,Y⟩:=h.qw hb hn;have jw:=k.le;have N:=o.P;by_cases z:r.P+2<=r.Ae.length
 .obtain⟨op,D⟩:∃v,r.Ae[r.P]?=some v:=⟨_,Lh (by omega)⟩;obtain⟨n,g⟩:∃v,r.Ae[r.P+1]?=some v:=⟨_,Lh (by omega)⟩;have e:Dq r=MV r op n:=by unfold Dq;rw[if_pos z,D,g];rfl
  rw[e];clear e;have Z:=(h.ps b r hb).o;have q5:=h.JK hb 5;have q6:=h.JK hb 6;have G:=h.JK hb 7;simp[PR.arr]at q5 q6 G;have z5:=h.tZ hb 5;have z6:=h.tZ hb 6;have z7:=h.tZ hb 7;have F:=o.Ae n (t_ g);have d:w.cell? (T_ f r.P)=some (a_ (op:Nat)):=(k.cell (by omega)).trans (by rw[AB,List.getElem?_map,D];rfl);have d1:w.cell? (T_ f (r.P+1))=some (a_ (n:Nat)):=(k.cell (by omega)).trans (by rw[AB,List.getElem?_map,g];rfl);clear D g;have w2:IntKind.u16.wrap ((r.P:Int)+2)=(r.P:Int)+2:=by rw[wrap_u16];omega
  have s:=h.like (r':={ r with P:=r.P+2 }) (i:=7) (v:=a_ ((r.P:Int)+2)) hb ⟨rfl,rfl,rfl,rfl,rfl⟩ rfl (h.ps b r hb).bl;have H:=h.FI hb (i:=7) (v:=a_ ((r.P:Int)+2));have Q:({ r with P:=r.P+2 }:PR).Ok:=⟨o.A,o.B,(by show r.P+2<65536;omega),o.st,o.pid,o.par,o.Ae,o.fds,o.fd,o.len,o.off⟩;have u:=s.no (p_ No _).drew;have I:=λm=>zX m _ _ b op n { r with P:=r.P+2 } u Ah hn Q hL F
  have l:((op=1/\r.A=r.A/\MV r op n=(0,0,{ r with A:=n,B:=r.B,P:=r.P+2 }))\/(op=6/\r.A=r.A/\MV r op n=(0,0,{ r with A:=r.A,B:=r.B,P:=n }))\/(op=7/\(((r.A:Int)==0)=true)/\MV r op n=(0,0,{ r with A:=r.A,B:=r.B,P:=n }))\/(op=7/\(((r.A:Int)==0)=false)/\MV r op n=(0,0,{ r with A:=r.A,B:=r.B,P:=r.P+2 }))\/(op=8/\r.A=r.A/\MV r op n=(0,0,{ r with A:=r.B,B:=r.A,P:=r.P+2 }))\/(op=11/\r.A=r.A/\MV r op n=(1,n,{ r with A:=r.A,B:=r.B,P:=r.P+2 })))\/ZR op:=by
   by_cases C:op=7
   .by_cases c:r.A=0
    .exact .inl (.inr (.inr (.inl ⟨C,by simpa using c,by simp[MV,C,c]⟩)))
    .exact .inl (.inr (.inr (.inr (.inl ⟨C,by simpa using c,by simp[MV,C,c]⟩))))
   .by_cases s:op=1
    .exact .inl (.inl ⟨s,rfl,by simp[MV,s]⟩)
    .by_cases J:op=6
     .exact .inl (.inr (.inl ⟨J,rfl,by simp[MV,J]⟩))
     .by_cases L:op=8
      .exact .inl (.inr (.inr (.inr (.inr (.inl ⟨L,rfl,by simp[MV,L]⟩)))))
      .by_cases t:op=11
       .exact .inl (.inr (.inr (.inr (.inr (.inr ⟨t,rfl,by simp[MV,t]⟩)))))
       .unfold ZR;omega
  have tail:∀{A B P R x:Nat} {e:Ending} {a:o_},MV r op n=(R,x,{ r with A:=A,B:=B,P:=P })->e=.returned (.tuple #[b_ (R:Nat),a_ (x:Nat)])/\Keep (At b) w a/\a.heap[b]?=some ({ r with A:=A,B:=B,P:=P }:PR).obj->uA K b w (MV r op n) e a:=λe ⟨y,U,E⟩=>by
   have:=tq h hb U E
   rw[e]
   exact⟨y,this.1,this.2⟩
  have tou:∀{e:Ending} {a:o_},ZR op->Zj (K.AP b { r with P:=r.P+2 }) b (w.setCell (T_ b 7) (a_ ((r.P:Int)+2))).drew (Eu { r with P:=r.P+2 } op n) e a->∃x:Nat,e=.returned (b_ (x:Nat))/\uA K b w (MV r op n) (.returned (.tuple #[b_ (x:Nat),a_ 0])) a:=fun {e a} ⟨n1,n2,n3,n4,n5⟩ ⟨y,O,V⟩=>by
   refine⟨_,y,?_⟩
   have e1:MV r op n=Eu { r with P:=r.P+2 } op n:=by unfold MV;rw[if_neg (by omega),if_neg (by omega),if_neg (by omega),if_neg (by omega),if_neg (by omega)]
   have e2:(Eu { r with P:=r.P+2 } op n).2.1=0:=by unfold Eu;(repeat' split)<;>rfl
   rw[e1]
   refine⟨by rw[e2];rfl,?_,(H.then (p_ No _).drew).trans V⟩
   rw[PS]at O
   exact O
  generalize W:uA K b w (MV r op n)=X at*;clear W;obtain(⟨rfl,c,j⟩|⟨rfl,c,j⟩|⟨rfl,c,j⟩|⟨rfl,c,j⟩|⟨rfl,c,j⟩|⟨rfl,c,j⟩)|p:=l
  all_goals first|replace d:w.cell? (T_ f r.P)=some (a_ 1):=d|replace d:w.cell? (T_ f r.P)=some (a_ 6):=d|replace d:w.cell? (T_ f r.P)=some (a_ 7):=d|replace d:w.cell? (T_ f r.P)=some (a_ 8):=d|replace d:w.cell? (T_ f r.P)=some (a_ 11):=d|skip
  all_goals first|(replace tail:=Hid.in λe a=>@tail _ _ _ _ _ e a j;clear j tou I)|skip
  all_goals first|(have c:=p;obtain⟨n1,n2,n3,n4,n5⟩:=c;replace tou:=fun {e a}=>@tou e a p;clear tail p)|skip
  all_goals (try clear s u H Q)
  all_goals gi_enter func185,ntmps185
  all_goals gi_wp2_with (gi_at_call 138;refine(GV b f ci r.Ae.length 2 r.P _ _ S (by omega) N hL jw z).mono ?_;rintro e a ⟨rfl,q⟩;have q:=q.symm;subst q)
  all_goals gi_region
  all_goals gi_wp2_with (gi_at_call 226;refine(I _).mono ?_;rintro e w3 M;obtain⟨x,rfl,T⟩:=tou M;clear M)
  all_goals (try gi_region)
  all_goals (try gi_wp2)
  all_goals (try go_ret2)
  all_goals first|(refine tail.out _ _ ⟨by simp,?_,?_⟩;(repeat (first|exact p_ (At b) _|refine Keep.drew ?_|refine Keep.setCell ?_ _ (λ_=>rfl)));(simp[World.setCell,World.drew,Array.getElem?_modify,Z,PR.obj,PR.arr];done))|exact T
 .have e:Dq r=(2,0,r):=by unfold Dq;rw[if_neg z]
  rw[e];have no:Hid (∀e,e=.returned (.tuple #[b_ 2,a_ 0])->uA K b w (2,0,r) e w):=λe y=>⟨y,by show A8 (K.AP b r) w;rw[GX hb];exact h,BV.no (p_ _ _) h.lt⟩
  clear e;have G:=h.JK hb 7;simp[PR.arr]at G;generalize uA K b w (2,0,r)=X at*;gi_enter func185,ntmps185;gi_wp2_with (gi_at_call 138;refine(MB b f ci r.Ae.length 2 r.P _ _ S (by omega) (by omega) N z).mono ?_;rintro e a ⟨rfl,q⟩;have q:=q.symm;subst q)
  try go_ret2
  exact no.out _ (by first|rfl|simp)
end
theorem CO (v:o_) (τ:Nat->Question->Nat) (d:Nat):Keep No v (v.re τ d):=⟨rfl,rfl,w_ _,λ_ _ _=>rfl⟩
theorem Xm {v v':o_} (h:Ib v v'):Keep No v v':=⟨h.2.2.1,h.2.2.2,h.1,λk a _=>h.2.1 k a⟩
theorem C9 {a:X_} {n:Nat} {l:List (Nat×n_)} (hs:a.size=n) (h:∀p∈l,a.getD p.1 undef=p.2):a=TN n (AL (λi=>a.getD i undef) l):=by
 rw[MC h];exact Wi hs
theorem zk {a:X_} {n:Nat} {l l':List (Nat×n_)} (hs:a.size=n) (h:∀p∈l,a.getD p.1 undef=p.2) (h':∀p∈l',a.getD p.1 undef=p.2):a=TN n (AL (AL (λi=>a.getD i undef) l) l'):=by
 have e:AL (λi=>a.getD i undef) l=λi=>a.getD i undef:=MC h
 rw[e,MC h'];exact Wi hs
abbrev Ev:=Nat×Nat×Nat×Nat
def xw (x:Ev):U_:=[b_ x.1,b_ x.2.1,b_ x.2.2.1,b_ x.2.2.2]
def VR:List Ev->U_
 |[]=>[]
 |x::l=>xw x++VR l
theorem fA:∀l l',VR (l++l')=VR l++VR l'
 |[],_=>rfl
 |x::l,l'=>by simp only[List.cons_append,VR,fA l l',List.append_assoc]
structure O8 (base:Nat) (T:Tag) (told:n_) (w:o_) (BA:List Ev):Prop where
 row:w.ownsRow base 59 4 told BA.length (VR BA)
 no:∀g,told.ownBlock=some g->T g=(0,0)
theorem O8.TL {base:Nat} {T T':Tag} {told:n_} {w w':o_} {BA:List Ev} (h:O8 base T told w BA) (M:BV T T' w w'):O8 base T' told w' BA:=by
 refine⟨?_,λg f=>(DY.fresh M g (h.row.lt g f).2).trans (h.no g f)⟩;obtain⟨⟨i,e⟩,j⟩:=h;refine⟨i,?_⟩;obtain e|⟨g,cap,a,rfl,b,c,d⟩:=e
 .exact .inl e
 .exact .inr ⟨g,cap,a,rfl,b,M.old c (j g rfl),d⟩
theorem GK.like {NC NS b:Nat} {K:KS} {r r':PR} (h:GK NC NS K) (hb:K.ps b=some r) (hp:r'.pid=r.pid) (_:r'.en=r.en) (Ip:r'.co=r.co) (hsw:r'.sw=r.sw) (hi:r'.Ae.length=r.Ae.length) (hf:r'.fds=r.fds) (ho:r'.Ok):GK NC NS (K.AP b r')/\Rel b K (K.AP b r'):=by
 have c:KG b K.ps (BX K.ps b r'):=KG.set;refine h.step (b:=b) (r:=r) (r':=r') rfl rfl rfl c hb Ah ho hp (h.co.same rfl (λi=>BQ λk _=>?_) λk q a=>?_) (h.sw.same rfl (λi=>BQ λk _=>?_) λk q a=>?_) ?_
 .show FX i (BX K.ps b r') k=_;by_cases e:k=b
  .subst e;rw[EF Ah,EF hb,Ip,hi]
  .unfold FX;rw[Bg e]
 .have a:BX K.ps b _ k=some q:=a;by_cases e:k=b
  .subst e;rw[Ah]at a;cases a;rw[hi,Ip];exact h.co.pl _ r hb
  .rw[Bg e]at a;exact h.co.pl k q a
 .show LP i (BX K.ps b r') k=_;by_cases e:k=b
  .subst e;rw[IM Ah,IM hb,hi,hsw]
  .unfold LP;rw[Bg e]
 .have a:BX K.ps b _ k=some q:=a;by_cases e:k=b
  .subst e;rw[Ah]at a;cases a;rw[hi,hsw];exact h.sw.pl _ r hb
  .rw[Bg e]at a;exact h.sw.pl k q a
 .have d:EH (BP K.ps K.AV) (K.AP b r'):=⟨h.Eh.ho,h.Eh.le,h.Eh.op,h.Eh.nd,h.Eh.nz,h.Eh.nm,h.Eh.dj⟩;refine d.congr λi _=>?_
  show BF (I4 (BX K.ps b r') i) K.AV=BF (I4 K.ps i) K.AV;refine BQ λk _=>?_
  by_cases e:k=b
  .subst e;rw[Gv Ah,Gv hb,hf]
  .unfold I4;rw[Bg e]
def UR (b:Nat) (K:KS) (BA:List Ev) (K':KS):Prop:=∃r s call r1,K.ps b=some r/\Dq r=(s,call,r1)/\
 ((s=0/\BA=[]/\K'=K.AP b r1)\/
  (s=1/\∃K2 x y r2,LY (K.AP b r1) b r1 call K2 x y .nilFunc/\K2.ps b=some r2/\r2.en=false/\BA=[(r2.pid,call,x,y)]/\K'=K2.AP b { r2 with A:=x,B:=y }))
def Run (b:Nat) (K:KS):Nat->List Ev->KS->Prop
 |0,BA,K'=>BA=[]/\K'=K
 |j+1,BA,K'=>∃e1 e2 K1,Run b K j e1 K1/\UR b K1 e2 K'/\BA=e1++e2
def Last (b:Nat) (K:KS) (BA:List Ev) (K':KS):Prop:=∃r s call r1,K.ps b=some r/\Dq r=(s,call,r1)/\
 ((s=2/\bn (K.AP b r1) b r1 65535 K'/\∃r2,K'.ps b=some r2/\BA=[(r2.pid,1,65535,0)])\/
  (s=1/\∃K2 x y f r2,LY (K.AP b r1) b r1 call K2 x y f/\K2.ps b=some r2/\
   ((f=.nilFunc/\r2.en=true/\BA=[(r2.pid,call,x,y)]/\K'=K2)\/((∃fn ca cb,f=.func fn ca cb)/\BA=[]/\K'=K2.AP b { r2 with bl:=f,P:=(r2.P+65534) % 65536 }))))
def OI (b:Nat) (K0 K:KS):Prop:=∃K1 r,CG K0 K1/\K1.ps b=some r/\K=K1.AP b { r with bl:=.nilFunc }
def VT (b n:Nat) (K0:KS) (BA:List Ev) (K':KS):Prop:=∃K1,OI b K0 K1/\(Run b K1 n BA K'\/∃j e1 e2 K2,j<n/\Run b K1 j e1 K2/\Last b K2 e2 K'/\BA=e1++e2)
theorem UR.len {b:Nat} {K K':KS} {BA:List Ev} (h:UR b K BA K'):BA.length<=1:=by
 obtain⟨_,_,_,_,_,_,⟨_,rfl,_⟩|⟨_,_,_,_,_,_,_,_,rfl,_⟩⟩:=h<;>simp
theorem Run.len {b:Nat} {K:KS}:∀{j:Nat} {BA:List Ev} {K':KS},Run b K j BA K'->BA.length<=j
 |0,_,_,h=>by rw[h.1];simp
 |j+1,_,_,h=>by
  obtain⟨e1,e2,d,a,c,rfl⟩:=h
  have:=Run.len a
  have:=c.len
  simp;omega
section
variable (NC NS b:Nat) (K0:KS) (v0:o_) (n:Nat)
structure UI (BA:List Ev) (told:n_) (v:o_) (K:KS) (r:PR):Prop where
 ka:A8 K v
 ok:GK NC NS K
 rel:Rel b K0 K
 mv:BV K0.T K.T v0 v
 told:O8 v0.heap.size K.T told v BA
 ps:K.ps b=some r
 z:K0.ps b≠none/\K0.EZ
def XI (j:Nat) (BA:List Ev) (K:KS):Prop:=∃K1,OI b K0 K1/\Run b K1 j BA K
def XS (j:Nat) (BA:List Ev) (s call:Nat) (K:KS) (r:PR):Prop:=∃Km rm,XI b K0 j BA Km/\Km.ps b=some rm/\Dq rm=(s,call,r)/\K=Km.AP b r
def XD (j:Nat) (BA:List Ev) (call res wr:Nat) (f:n_) (K:KS):Prop:=∃Kc rc,XS b K0 j BA 1 call Kc rc/\LY Kc b rc call K res wr f
def NR:Prop:=∀(m:Nat) (w:o_) (j:Nat) (BA:List Ev) (K:KS) (r:PR) (call:Nat),j<n->XS b K0 j BA 1 call K r->A8 K w->GK NC NS K->b∈K.AV->K.ps b=some r->r.en=false->P_ m 96 #[R_ K.kb,R_ b,a_ (call:Nat)] w (Kr (LY K b r call) NC NS b K w)
def XE (j:Nat) (BA:List Ev) (res wr:Nat) (K:KS) (r:PR):Prop:=∃e1 call,XD b K0 j e1 call res wr .nilFunc K/\BA=e1++[(r.pid,call,res,wr)]
def XL (BA:List Ev) (K:KS):Prop:=∃j call res wr f K2 r2,j<n/\XD b K0 j BA call res wr f K2/\K2.ps b=some r2/\(∃fn ca cb,f=.func fn ca cb)/\K=K2.AP b { r2 with bl:=f }
structure AnK (T:Tag) (bA res wr:Nat) (f:n_) (v:o_):Prop where
 blk:v.heap[bA]?=some (O_ #[a_ res,a_ wr,f] 206)
 t:T bA=(0,0)
 res:res<65536
 wr:wr<65536
def SO (told:n_) (v:o_):Prop:=∃r,UI NC NS b K0 v0 [] told v K0 r/\r.en=false/\b∈K0.AV
def SM (told:n_) (v:o_):Prop:=∃K r,UI NC NS b K0 v0 [] told v K r/\r.en=false/\b∈K.AV/\CG K0 K
def SI (i:Int) (told:n_) (v:o_):Prop:=∃j BA K r,i=(j:Nat)/\UI NC NS b K0 v0 BA told v K r/\r.en=false/\b∈K.AV/\XI b K0 j BA K
def SC (i:Int) (told x:n_) (v:o_):Prop:=∃j BA K r call,i=(j:Nat)/\j<n/\x=a_ (call:Nat)/\call<65536/\UI NC NS b K0 v0 BA told v K r/\r.en=false/\b∈K.AV/\XS b K0 j BA 1 call K r
def SB (told:n_) (v:o_):Prop:=∃j BA K r call,j<n/\UI NC NS b K0 v0 BA told v K r/\r.en=false/\b∈K.AV/\XS b K0 j BA 2 call K r
def SD (i:Int) (told x:n_) (bA:Nat) (v:o_):Prop:=∃j BA K r call res wr f,i=(j:Nat)/\j<n/\x=a_ (call:Nat)/\call<65536/\UI NC NS b K0 v0 BA told v K r/\(r.en=false->b∈K.AV)/\AnK K.T bA res wr f v/\Nj K.T v K.kb b f/\XD b K0 j BA call res wr f K
def SDn (i:Int) (told x:n_) (bA:Nat) (v:o_):Prop:=∃j BA K r call res wr,i=(j:Nat)/\j<n/\x=a_ (call:Nat)/\call<65536/\UI NC NS b K0 v0 BA told v K r/\(r.en=false->b∈K.AV)/\AnK K.T bA res wr .nilFunc v/\XD b K0 j BA call res wr .nilFunc K
def SDb (i:Int) (told _x:n_) (bA:Nat) (v:o_):Prop:=∃j BA K r call res wr f,i=(j:Nat)/\j<n/\UI NC NS b K0 v0 BA told v K r/\AnK K.T bA res wr f v/\Nj K.T v K.kb b f/\(∃fn ca cb,f=.func fn ca cb)/\XD b K0 j BA call res wr f K
def SBl (told:n_) (v:o_):Prop:=∃BA K r,UI NC NS b K0 v0 BA told v K r/\XL b K0 n BA K
def SBc (told:n_) (bA:Nat) (v:o_):Prop:=SBl NC NS b K0 v0 n told v/\∃res wr fn ca cb,v.heap[bA]?=some (O_ #[a_ (res:Nat),a_ (wr:Nat),.func fn ca cb] 206)
def SE0 (i:Int) (told:n_) (bA:Nat) (v:o_):Prop:=∃j BA K r res wr,i=(j:Nat)/\j<n/\UI NC NS b K0 v0 BA told v K r/\(r.en=false->b∈K.AV)/\AnK K.T bA res wr .nilFunc v/\XE b K0 j BA res wr K r
def SE (i:Int) (told:n_) (bA:Nat) (v:o_):Prop:=∃j BA K r res wr,i=(j:Nat)/\j<n/\UI NC NS b K0 v0 BA told v K r/\r.en=false/\b∈K.AV/\AnK K.T bA res wr .nilFunc v/\XE b K0 j BA res wr K r
def SA (i:Int) (told A:n_) (v:o_):Prop:=∃j BA K r res wr,i=(j:Nat)/\j<n/\UI NC NS b K0 v0 BA told v K r/\r.en=false/\b∈K.AV/\res<65536/\wr<65536/\A=.agg #[a_ (res:Nat),a_ (wr:Nat),.nilFunc]/\XE b K0 j BA res wr K r
def SF (told:n_) (v:o_):Prop:=∃BA K r,UI NC NS b K0 v0 BA told v K r/\VT b n K0 BA K
end
section
variable {NC NS b:Nat} {K0:KS} {v0:o_} {n:Nat} {BA:List Ev} {told x A:n_} {v v':o_} {K K':KS} {r r':PR} {i:Int} {bA:Nat}
theorem UI.next (h:UI NC NS b K0 v0 BA told v K r) (ka:A8 K' v') (ok:GK NC NS K') (R:Rel b K K') (M:BV K.T K'.T v v') (hb:K'.ps b=some r'):UI NC NS b K0 v0 BA told v' K' r':=
 ⟨ka,ok,h.rel.trans R h.z.1 h.z.2,h.mv.trans M,h.told.TL M,hb,h.z⟩
theorem UI.no (h:UI NC NS b K0 v0 BA told v K r) (hK:Keep No v v'):UI NC NS b K0 v0 BA told v' K r:=
 h.next (h.ka.no hK) h.ok (.refl b K) (BV.no hK h.ka.lt) h.ps
theorem AnK.no {T:Tag} {res wr:Nat} {f:n_} (h:AnK T bA res wr f v) (hK:Keep No v v'):AnK T bA res wr f v':=⟨hK.old h.blk id,h.t,h.res,h.wr⟩
theorem Nj.no {T:Tag} {kb:Nat} (h:Nj T v kb b x) (hK:Keep No v v'):Nj T v' kb b x:=h.keep (Q:=λ_=>False) hK.no (λh=>h)
theorem SO.no (h:SO NC NS b K0 v0 told v) (hK:Keep No v v'):SO NC NS b K0 v0 told v':=let ⟨r,h1,h2⟩:=h;⟨r,h1.no hK,h2⟩
theorem SM.no (h:SM NC NS b K0 v0 told v) (hK:Keep No v v'):SM NC NS b K0 v0 told v':=let ⟨K,r,h1,h2⟩:=h;⟨K,r,h1.no hK,h2⟩
theorem SI.no (h:SI NC NS b K0 v0 i told v) (hK:Keep No v v'):SI NC NS b K0 v0 i told v':=let ⟨j,e,K,r,h1,h3,h4⟩:=h;⟨j,e,K,r,h1,h3.no hK,h4⟩
theorem SC.no (h:SC NC NS b K0 v0 n i told x v) (hK:Keep No v v'):SC NC NS b K0 v0 n i told x v':=let ⟨j,e,K,r,c,h1,h2,h3,h4,h6,h7⟩:=h;⟨j,e,K,r,c,h1,h2,h3,h4,h6.no hK,h7⟩
theorem SB.no (h:SB NC NS b K0 v0 n told v) (hK:Keep No v v'):SB NC NS b K0 v0 n told v':=let ⟨j,e,K,r,c,h1,h2,h3⟩:=h;⟨j,e,K,r,c,h1,h2.no hK,h3⟩
theorem SD.no (h:SD NC NS b K0 v0 n i told x bA v) (hK:Keep No v v'):SD NC NS b K0 v0 n i told x bA v':=let ⟨j,e,K,r,c,s,w,f,h1,h2,h3,h4,h6,h7,h8,h9,h10⟩:=h;⟨j,e,K,r,c,s,w,f,h1,h2,h3,h4,h6.no hK,h7,h8.no hK,h9.no hK,h10⟩
theorem SDn.no (h:SDn NC NS b K0 v0 n i told x bA v) (hK:Keep No v v'):SDn NC NS b K0 v0 n i told x bA v':=let ⟨j,e,K,r,c,s,w,h1,h2,h3,h4,h6,h7,h8,h9⟩:=h;⟨j,e,K,r,c,s,w,h1,h2,h3,h4,h6.no hK,h7,h8.no hK,h9⟩
theorem SDb.no (h:SDb NC NS b K0 v0 n i told x bA v) (hK:Keep No v v'):SDb NC NS b K0 v0 n i told x bA v':=let ⟨j,e,K,r,c,s,w,f,h1,h2,h6,h8,h9,h10⟩:=h;⟨j,e,K,r,c,s,w,f,h1,h2,h6.no hK,h8.no hK,h9.no hK,h10⟩
theorem SBl.no (h:SBl NC NS b K0 v0 n told v) (hK:Keep No v v'):SBl NC NS b K0 v0 n told v':=let ⟨e,K,r,h2,h3⟩:=h;⟨e,K,r,h2.no hK,h3⟩
theorem SBc.no (h:SBc NC NS b K0 v0 n told bA v) (hK:Keep No v v'):SBc NC NS b K0 v0 n told bA v':=let ⟨h1,a,c,d,e,f,h2⟩:=h;⟨h1.no hK,a,c,d,e,f,hK.old h2 id⟩
theorem SE0.no (h:SE0 NC NS b K0 v0 n i told bA v) (hK:Keep No v v'):SE0 NC NS b K0 v0 n i told bA v':=let ⟨j,e,K,r,s,w,h1,h2,h4,h5,h6,h7⟩:=h;⟨j,e,K,r,s,w,h1,h2,h4.no hK,h5,h6.no hK,h7⟩
theorem SE.no (h:SE NC NS b K0 v0 n i told bA v) (hK:Keep No v v'):SE NC NS b K0 v0 n i told bA v':=let ⟨j,e,K,r,s,w,h1,h2,h4,h5,h6,h7,h8⟩:=h;⟨j,e,K,r,s,w,h1,h2,h4.no hK,h5,h6,h7.no hK,h8⟩
theorem SA.no (h:SA NC NS b K0 v0 n i told A v) (hK:Keep No v v'):SA NC NS b K0 v0 n i told A v':=let ⟨j,e,K,r,s,w,h1,h2,h4,h5⟩:=h;⟨j,e,K,r,s,w,h1,h2,h4.no hK,h5⟩
theorem SF.no (h:SF NC NS b K0 v0 n told v) (hK:Keep No v v'):SF NC NS b K0 v0 n told v':=let ⟨e,K,r,h1,h2⟩:=h;⟨e,K,r,h1.no hK,h2⟩
end
section
variable (m:Nat) (w:o_)
theorem sQ (pb pid call r x:Nat) (h0:w.cell? (S_ pb)=some (b_ pid)) (hc:call<65536) (hr:r<65536) (hx:x<65536):P_ m 98 #[R_ pb,a_ call,.agg #[a_ r,a_ x,.nilFunc]] w λe w'=>Keep No w w'/\e=.returned (.agg #[b_ pid,b_ call,b_ r,b_ x]):=by
 have a:Keep No w ((w.alloc (.cells #[a_ r,a_ x,.nilFunc] 206)).alloc (.cells #[b_ 0,b_ 0,b_ 0,b_ 0] 59)):=((p_ _ _).alloc _).alloc _;have b:=a.has h0;gi_enter func98,ntmps98;gi_wp2;gi_region
 all_goals gi_wp2
 all_goals refine bodyPost_ret (v:=.agg #[b_ pid,b_ call,b_ r,b_ x]) (by simp[results,results98,go_sem]) rfl ?_
 all_goals exact⟨by repeat (first|exact p_ _ _|refine Keep.drew ?_|refine Keep.alloc ?_ _),rfl⟩
end
def Gj (P:l_) (f:h_):Code:=match (((P.funcs[f]?).bind λf=>f.body):d_ Code)with
 |some c=>c
 |none=>Code.skip
def behind:Nat->Code->Code
 |0,c=>c
 |n+1,.seq _ c=>behind n c
 |_+1,_=>.skip
def piece:Code->Code
 |.seq c _=>c
 |c=>c
theorem PK:Gj prog 56=Tryz.f56.body.getD .skip:=by kernel_rfl
theorem ak1:Gj prog 136=Tryz.f136.body.getD .skip:=by kernel_rfl
theorem ak0:Gj prog 187=Tryz.f187.body.getD .skip:=by kernel_rfl
def gA (P:l_):Code:=match Gj P 56 with | .seq _ (.seq _ (.seq _ (.seq _ (.seq _ (.seq _ (.block _ (.loop (.block _ (.seq _ (.seq _ (.block _ (.cond _ a c))))))))))))=>.seq a c|_=>.skip
def gR2 (P:l_):Code:=match Gj P 56 with | .seq _ (.seq _ (.seq c _))=>c|_=>.skip
theorem bm1:R2 prog=gR2 prog:=by kernel_rfl
def gR3 (P:l_):Code:=match Gj P 56 with | .seq _ (.seq _ (.seq _ (.seq c _)))=>c|_=>.skip
theorem bm0:R3 prog=gR3 prog:=by kernel_rfl
def ao0 (P:l_):Code:=match Gj P 136 with | .seq (.seq _ (.block _ (.loop (.seq _ (.seq _ (.seq (.block _ (.seq c _)) _)))))) _=>c|_=>.skip
theorem ad3:Vk prog=ao0 prog:=by kernel_rfl
def ba8 (P:l_):Code:=match gA P with | .seq (.seq _ (.seq _ (.seq (.seq c _) _))) _=>c|_=>.skip
theorem ay1:R11 prog=ba8 prog:=by kernel_rfl
def ba7 (P:l_):Code:=match gA P with | .seq (.seq _ (.seq _ (.seq (.seq _ (.cond _ (.seq c _) _)) _))) _=>c|_=>.skip
theorem ay0:R12 prog=ba7 prog:=by kernel_rfl
def ba5 (P:l_):Code:=match gA P with | .seq (.seq _ (.seq _ (.seq _ (.seq _ (.seq (.seq c _) _))))) _=>c|_=>.skip
theorem ax8:R16 prog=ba5 prog:=by kernel_rfl
def QH (f:Y_) (a b c d e g h:n_):X_:=#[a,b,c,f 3,f 4,f 5,f 6,d,e,g,h,f 11,f 12,f 13,f 14,f 15,f 16,f 17,f 18,f 19,f 20,f 21,f 22,f 23,f 24,f 25,f 26,f 27,f 28,f 29,f 30,f 31,f 32,f 33,f 34,f 35,f 36,f 37,f 38,f 39,f 40,f 41,f 42,f 43,f 44,f 45,f 46,f 47,f 48,f 49,f 50,f 51,f 52,f 53,f 54,f 55,f 56,f 57,f 58,f 59,f 60,f 61,f 62,f 63,f 64,f 65,f 66,f 67,f 68,f 69,f 70,f 71,f 72,f 73,f 74,f 75]
theorem af7 {fn:Fn} {ca cb:X_} {w:o_}:(binOp .neq 32 (.func fn ca cb) .nilFunc).run prog w=.ok (.bool true) w:=by kernel_rfl
section
variable {NC NS b:Nat} {K0:KS} {v0:o_} {n:Nat} {m:Nat} {w:o_} {q:Nat} {i:Int} {told x:n_} {bA:Nat} {f:Nat->n_}
theorem Ok.am9 {r:PR} {A B P:Nat} {Ae:List Nat} (o:r.Ok) (hA:A<65536) (hB:B<65536) (hP:P<65536) (hl:Ae.length=r.Ae.length) (hi:∀x∈Ae,x<65536):({ r with A:=A,B:=B,P:=P,Ae:=Ae }:PR).Ok:=
 ⟨hA,hB,hP,o.st,o.pid,o.par,hi,o.fds,o.fd,λe=>by obtain⟨k,h⟩:=o.len e;exact⟨k,by show Ae.length=_/\_;rw[hl];exact h⟩,λe=>⟨(o.off e).1,by have:=(o.off e).2.1;rw[this]at hl;exact List.length_eq_zero_iff.1 hl,(o.off e).2.2⟩⟩
theorem Ok.ay5 {r:PR} {v:n_} (o:r.Ok):({ r with bl:=v }:PR).Ok:=⟨o.A,o.B,o.P,o.st,o.pid,o.par,o.Ae,o.fds,o.fd,o.len,o.off⟩
theorem iD (h:SO NC NS b K0 v0 CS w) (N1:Int):(R2 prog).wpIn NF m prog (Ends λtm w'=>∃f',tm=TN 76 (AL f' (jq (ptr K0.kb) (S_ b) N1 CS))/\SM NC NS b K0 v0 CS w') ⟨TN 76 (AL f (jq (ptr K0.kb) (S_ b) N1 CS)),[]⟩ w:=by
 obtain⟨r,g,p,i⟩:=h;have o:=λm=>Y9 m w K0 b NC r g.ka g.ok.th g.ps i g.ok.nd g.ok.co (by have:=g.ok.len;omega)
 rw[bm1];unfold gR2;rw[PK];dsimp only[Tryz.f56,Option.getD];show Code.wpIn (Fence.list LF none) m prog _ _ ⟨QH f (ptr K0.kb) (R_ b) (b_ N1) CS (f 8) (f 9) (f 10),[]⟩ _;unfold QH ptr;gi_wp2_with fail;refine(o _).mono ?_;rintro e w1 ⟨rfl,j,l,a,n,k,_⟩;gi_wp2;obtain⟨c,d⟩:=a.get g.ps;exact⟨rfl,rfl,_,C9 rfl (by simp[jq,pv,CS]),j,_,g.next l (g.ok.moved a n) (a.rel b) k d,p,by rw[a.AV];exact i,a⟩
theorem iC (h:SM NC NS b K0 v0 CS w) (N1:Int):(R3 prog).wpIn NF m prog (Ends λtm w'=>∃f',tm=TN 76 (AL f' (jq (ptr K0.kb) (S_ b) N1 CS))/\SI NC NS b K0 v0 0 CS w') ⟨TN 76 (AL f (jq (ptr K0.kb) (S_ b) N1 CS)),[]⟩ w:=by
 obtain⟨K,r,g,j,e,d⟩:=h;have c4:=g.ka.JK g.ps 4;have k:=g.ka.tZ g.ps 4;simp[PR.arr]at c4;rw[bm0];unfold gR3;rw[PK];dsimp only[Tryz.f56,Option.getD];show Code.wpIn (Fence.list LF none) m prog _ _ ⟨QH f (ptr K0.kb) (R_ b) (b_ N1) CS (f 8) (f 9) (f 10),[]⟩ _;unfold QH ptr;gi_wp2;have c:=g.ka.like (r':={ r with bl:=.nilFunc }) (i:=4) (v:=.nilFunc) g.ps ⟨rfl,rfl,rfl,rfl,rfl⟩ rfl (.inl rfl);have a:=g.ok.like (r':={ r with bl:=.nilFunc }) g.ps rfl rfl rfl rfl rfl rfl (Ok.ay5 (g.ok.pr b r g.ps));exact⟨rfl,rfl,_,C9 rfl (by simp[jq,pv,CS]),0,[],_,_,rfl,g.next c a.1 a.2 (g.ka.FI g.ps) Ah,j,e,_,⟨K,r,d,g.ps,rfl⟩,rfl,rfl⟩
theorem step_ok {r:PR} (o:r.Ok) (hn:r.en=false):(Dq r).2.2.Ok/\(Dq r).1<=2/\(Dq r).2.1<65536/\(Dq r).2.2.Ae.length=r.Ae.length/\(Dq r).2.2.pid=r.pid/\(Dq r).2.2.en=r.en/\(Dq r).2.2.co=r.co/\(Dq r).2.2.sw=r.sw/\(Dq r).2.2.fds=r.fds:=by
 have d:=o.A;have c:=o.B;have u:=o.P;obtain⟨k,v,_,t⟩:=o.len hn;have g:∀i:Nat,(r.Ae[i]?).getD 0<65536:=λi=>by
  cases h:r.Ae[i]? with
  |none=>decide
  |some x=>exact o.Ae x (t_ h)
 have mk:∀{A B P:Nat} {Ae:List Nat},A<65536->B<65536->P<65536->Ae.length=r.Ae.length->(∀x∈Ae,x<65536)->({ r with A:=A,B:=B,P:=P,Ae:=Ae }:PR).Ok/\True:=λj l m p q=>⟨Ok.am9 o j l m p q,trivial⟩
 unfold Dq;split
 .have b:r.P+2<65536:=by omega
  have e:=g (r.P+1);generalize (r.Ae[r.P+1]?).getD 0=n at*;generalize (r.Ae[r.P]?).getD 0=op at*;unfold MV;split
  .exact⟨(mk e c b rfl o.Ae).1,by simp,by simp,rfl,rfl,rfl,rfl,rfl,rfl⟩
  split
  .exact⟨(mk d c e rfl o.Ae).1,by simp,by simp,rfl,rfl,rfl,rfl,rfl,rfl⟩
  split
  .simp only;split
   .exact⟨(mk d c e rfl o.Ae).1,by simp,by simp,rfl,rfl,rfl,rfl,rfl,rfl⟩
   .exact⟨(mk d c b rfl o.Ae).1,by simp,by simp,rfl,rfl,rfl,rfl,rfl,rfl⟩
  split
  .exact⟨(mk c d b rfl o.Ae).1,by simp,by simp,rfl,rfl,rfl,rfl,rfl,rfl⟩
  split
  .exact⟨(mk d c b rfl o.Ae).1,by simp,e,rfl,rfl,rfl,rfl,rfl,rfl⟩
  unfold Eu;generalize FB { r with P:=r.P+2 } op n=a;have s:=g a;split
  .split
   .exact⟨(mk s c b rfl o.Ae).1,by simp,by simp,rfl,rfl,rfl,rfl,rfl,rfl⟩
   split
   .exact⟨(mk d c b (by simp) λx f=>by obtain f|rfl:=List.mem_or_eq_of_mem_set f;exact o.Ae x f;exact d).1,by simp,by simp,by simp,rfl,rfl,rfl,rfl,rfl⟩
   split
   .exact⟨(mk (Nat.mod_lt _ (by decide)) c b rfl o.Ae).1,by simp,by simp,rfl,rfl,rfl,rfl,rfl,rfl⟩
   split
   .exact⟨(mk (Nat.mod_lt _ (by decide)) c b rfl o.Ae).1,by simp,by simp,rfl,rfl,rfl,rfl,rfl,rfl⟩
   .exact⟨(mk d c b rfl o.Ae).1,by simp,by simp,rfl,rfl,rfl,rfl,rfl,rfl⟩
  .exact⟨(mk d c b rfl o.Ae).1,by simp,by simp,rfl,rfl,rfl,rfl,rfl,rfl⟩
 .exact⟨o,by simp,by simp,rfl,rfl,rfl,rfl,rfl,rfl⟩
theorem nV (h:SI NC NS b K0 v0 i told w) (hi:i<(n:Nat)):(Vk prog).wpIn NF m prog (Ends λtm w'=>∃f' oc x,tm=qy (AL f' (sl6 q (TV (S_ b)) (n:Nat) i oc x))/\((oc=0/\SI NC NS b K0 v0 (i+1) told w')\/(oc=1/\SC NC NS b K0 v0 n i told x w')\/(oc=2/\SB NC NS b K0 v0 n told w'))) ⟨qy (AL f (sl4 q (TV (S_ b)) (n:Nat) i)),[]⟩ w:=by
 obtain⟨j,p,K,r,rfl,g,L,J,t⟩:=h;have N:j<n:=by omega
 have o:=g.ok.pr b r g.ps;have S:=(g.ok.co.pl b r g.ps).1;have O:=λm=>ac0 m w K b r g.ka g.ps L o S
 obtain⟨u,x1,M,z,A,l,B,C,D⟩:=step_ok o L;obtain⟨v,oc,y,c,k⟩:∃v oc y c,v=Dq r/\v=(oc,y,c):=⟨_,_,_,_,rfl,rfl⟩;obtain⟨k,E⟩:=k;rw[<-k,E]at O u x1 M z A l B C D;simp only at u x1 M z A l B C D;have s:Dq r=(oc,y,c):=k.symm.trans E;have F:=g.ok.like (r':=c) g.ps A l B C z D u;have a:c.en=false:=l.trans L;have d:∀{w1:o_},A8 (K.AP b c) w1->BV K.T K.T w w1->(((oc:Nat):Int)=0/\SI NC NS b K0 v0 ((j:Int)+1) told w1)\/(((oc:Nat):Int)=1/\SC NC NS b K0 v0 n j told (a_ (y:Nat)) w1)\/(((oc:Nat):Int)=2/\SB NC NS b K0 v0 n told w1):=λI G=>by
  have H:=g.next I F.1 F.2 G Ah
  have Q:oc=0\/oc=1\/oc=2:=by omega
  obtain rfl|rfl|rfl:=Q
  .obtain⟨P,R,U⟩:=t;exact .inl ⟨rfl,j+1,p,_,_,by omega,H,a,J,P,R,p,[],K,U,⟨r,0,y,c,g.ps,s,.inl ⟨rfl,rfl,rfl⟩⟩,by simp⟩
  .exact .inr (.inl ⟨rfl,j,p,_,_,y,rfl,N,rfl,M,H,a,J,K,r,t,g.ps,s,rfl⟩)
  .exact .inr (.inr ⟨rfl,j,p,_,_,y,N,H,a,J,K,r,t,g.ps,s,rfl⟩)
 clear x1 z A l B C D k E s F a t u v;rw[ad3];unfold ao0;rw[ak1];dsimp only[Tryz.f136,Option.getD];show Code.wpIn (Fence.list LF none) m prog _ _ ⟨#[pr q,.pointer (some (T_ b 5)),f 2,f 3,f 4,f 5,f 6,f 7,b_ (n:Nat),b_ (j:Nat),f 10,f 11,f 12,f 13,f 14,f 15,f 16,f 17,f 18,f 19,f 20,f 21,f 22,f 23,f 24,f 25,f 26,f 27,f 28,f 29,f 30,f 31],[]⟩ _;gi_wp2_with fail;refine(O _).mono ?_;rintro e w1 ⟨rfl,I,G⟩;gi_wp2;exact⟨rfl,rfl,_,(oc:Nat),a_ (y:Nat),C9 (n:=32) rfl (by simp[sl6,TV,Addr.add]),d I G⟩
theorem iE (h:SD NC NS b K0 v0 n i told x bA w):(R11 prog).wpIn NF m prog (Ends λtm w'=>∃f' c,tm=TN 76 (AL (AL f' (Vu (ptr K0.kb) (S_ b) told q x bA)) [(39,.bool c)])/\((c=false/\SDn NC NS b K0 v0 n i told x bA w')\/(c=true/\SDb NC NS b K0 v0 n i told x bA w'))) ⟨TN 76 (AL f (Vu (ptr K0.kb) (S_ b) told q x bA)),[]⟩ w:=by
 obtain⟨j,l,K,r,call,d,wr,k,rfl,p,rfl,t,g,u,e,o,s⟩:=h;have c2:w.cell? (T_ bA 2)=some k:=by rw[Af e.blk];rfl
 rw[ay1];unfold ba8 gA;rw[PK];dsimp only[Tryz.f56,Option.getD];show Code.wpIn (Fence.list LF none) m prog _ _ ⟨QH f (ptr K0.kb) (R_ b) (f 2) told (pr q) (a_ (call:Nat)) (R_ bA),[]⟩ _;unfold QH ptr;have a:k=.nilFunc\/∃fn ca cb,k=.func fn ca cb:=by
  obtain h|⟨_,_,h,_⟩|⟨_,h|h,_⟩:=o
  .exact .inl h
  all_goals exact .inr ⟨_,_,_,h⟩
 obtain rfl|⟨fn,ca,cb,rfl⟩:=a
 .have v:=Uw w;gi_wp2;exact⟨rfl,rfl,_,false,zk rfl (by simp[Vu,pv,pr]) (by simp),.inl ⟨rfl,j,l,K,r,call,d,wr,rfl,p,rfl,t,g,u,e,s⟩⟩
 .have v:=af7 (w:=w) (fn:=fn) (ca:=ca) (cb:=cb);gi_wp2;exact⟨rfl,rfl,_,true,zk rfl (by simp[Vu,pv,pr]) (by simp),.inr ⟨rfl,j,l,K,r,call,d,wr,_,rfl,p,g,e,o,⟨_,_,_,rfl⟩,s⟩⟩
theorem ax (h:SDb NC NS b K0 v0 n i told x bA w):(R12 prog).wpIn NF m prog (Ends λtm w'=>∃f',tm=TN 76 (AL f' (qo (ptr K0.kb) (S_ b) told q bA))/\SBc NC NS b K0 v0 n told bA w') ⟨TN 76 (AL f (Vu (ptr K0.kb) (S_ b) told q x bA)),[]⟩ w:=by
 obtain⟨j,l,K,r,call,d,wr,y,rfl,s,g,e,bl,⟨fn,a,c,rfl⟩,u⟩:=h;have c2:w.cell? (T_ bA 2)=some (.func fn a c):=by rw[Af e.blk];rfl
 have z:=g.ka.tZ g.ps 4;have c4:=g.ka.JK g.ps 4;simp[PR.arr]at c4;have o:=g.ka.like (r':={ r with bl:=.func fn a c }) (i:=4) (v:=.func fn a c) g.ps ⟨rfl,rfl,rfl,rfl,rfl⟩ rfl bl;have k:=g.ok.like (r':={ r with bl:=.func fn a c }) g.ps rfl rfl rfl rfl rfl rfl (Ok.ay5 (g.ok.pr b r g.ps));have p:(w.setCell (T_ b 4) (.func fn a c)).heap[bA]?=some (O_ #[a_ (d:Nat),a_ (wr:Nat),.func fn a c] 206):=(g.ka.FI g.ps).old e.blk e.t;rw[ay0];unfold ba7 gA;rw[PK];dsimp only[Tryz.f56,Option.getD];show Code.wpIn (Fence.list LF none) m prog _ _ ⟨QH f (ptr K0.kb) (R_ b) (f 2) told (pr q) x (R_ bA),[]⟩ _;unfold QH ptr;gi_wp2;exact⟨rfl,rfl,_,C9 rfl (by simp[qo,pv,pr]),⟨l,_,_,g.next o k.1 k.2 (g.ka.FI g.ps) Ah,j,call,d,wr,_,K,r,s,u,g.ps,⟨_,_,_,rfl⟩,rfl⟩,d,wr,fn,a,c,p⟩
theorem XE.ended {j:Nat} {BA:List Ev} {res wr:Nat} {K:KS} {r:PR} (h:XE b K0 j BA res wr K r) (hj:j<n) (hb:K.ps b=some r) (hn:r.en=true):VT b n K0 BA K:=by
 obtain⟨e1,call,⟨l,rc,⟨c,k,⟨a,d,e⟩,f,g,rfl⟩,i⟩,rfl⟩:=h;exact⟨a,d,.inr ⟨j,e1,_,c,hj,e,⟨k,1,call,rc,f,g,.inr ⟨rfl,K,res,wr,.nilFunc,r,i,hb,.inl ⟨rfl,hn,rfl,rfl⟩⟩⟩,rfl⟩⟩
theorem iy (h:SE0 NC NS b K0 v0 n i told bA w):(R16 prog).wpIn NF m prog (Ends λtm w'=>∃f' c,tm=TN 76 (AL f' (ϣ (ptr K0.kb) (S_ b) told q bA c))/\((c=true/\SF NC NS b K0 v0 n told w')\/(c=false/\SE NC NS b K0 v0 n i told bA w'))) ⟨TN 76 (AL f (qo (ptr K0.kb) (S_ b) told q bA)),[]⟩ w:=by
 obtain⟨j,d,K,r,a,wr,rfl,e,g,o,l,k⟩:=h;have c2:=g.ka.JK g.ps 2;simp[PR.arr]at c2;rw[ax8];unfold ba5 gA;rw[PK];dsimp only[Tryz.f56,Option.getD];show Code.wpIn (Fence.list LF none) m prog _ _ ⟨QH f (ptr K0.kb) (R_ b) (f 2) told (pr q) (f 9) (R_ bA),[]⟩ _;unfold QH ptr;cases hn:r.en with
 |false=>
  rw[hn]at c2
  gi_wp2
  exact⟨rfl,rfl,_,false,C9 rfl (by simp[ϣ,pv,pr]),.inr ⟨rfl,j,d,K,r,a,wr,rfl,e,g,hn,o hn,l,k⟩⟩
 |true=>
  rw[hn]at c2
  gi_wp2
  exact⟨rfl,rfl,_,true,C9 rfl (by simp[ϣ,pv,pr]),.inl ⟨rfl,d,K,r,g,k.ended e g.ps hn⟩⟩
end
end Go.Fxa
