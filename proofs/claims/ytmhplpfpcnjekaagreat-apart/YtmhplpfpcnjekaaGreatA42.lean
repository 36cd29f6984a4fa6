/- A call is served. -/
import Derived.Test.YtmhplpfpcnjekaaGreatA36
import Derived.Test.YtmhplpfpcnjekaaGreatA40
import Derived.Test.YtmhplpfpcnjekaaGreatA41
import Derived.Maps.OwnIn
namespace Go.Fxa
open Conc Proofs RowKit Proofs.Tryz
set_option maxRecDepth 1000000
set_option maxHeartbeats 0
section
variable (m:Nat) (w:World)
theorem Ez (call n:Nat) (h:(call,n)∈[(1,1),(2,0),(3,1),(4,1),(5,1),(6,3),(7,3),(8,1),(9,1),(10,2),(11,1),(12,0),(13,1),(14,2)]):CallsIn NF m prog 139 #[.int .u16 (call:Nat)] w fun e w'=>e=.returned (.int .i64 n)/\w'=w:=by
 simp only[List.mem_cons,Prod.mk.injEq,List.not_mem_nil,or_false]at h;rcases h with⟨rfl,rfl⟩|⟨rfl,rfl⟩|⟨rfl,rfl⟩|⟨rfl,rfl⟩|⟨rfl,rfl⟩|⟨rfl,rfl⟩|⟨rfl,rfl⟩|⟨rfl,rfl⟩|⟨rfl,rfl⟩|⟨rfl,rfl⟩|⟨rfl,rfl⟩|⟨rfl,rfl⟩|⟨rfl,rfl⟩|⟨rfl,rfl⟩
 all_goals
  gi_enter func139,ntmps139
  gi_wp2
  go_ret
  exact⟨by simp,rfl⟩
theorem Y8 (call:Nat) (h:pz call):CallsIn NF m prog 139 #[.int .u16 (call:Nat)] w fun e w'=>e=.returned (.int .i64 0)/\w'=w:=by
 obtain⟨n1,n2,n3,n4,n5,n6,n7,n8,n9,n10,n11,n12,n13,n14⟩:=h;gi_enter func139,ntmps139;gi_wp2;go_ret;exact⟨by simp,rfl⟩
theorem um (K:KS) (NC NS b call:Nat) (r:PR) (h:AQ K w) (hO:DZ NC NS K) (hm:b∈K.AJ) (hb:K.ps b=some r) (hn:r.en=false):
  CallsIn NF m prog 96 #[R_ K.kb,R_ b,.int .u16 (call:Nat)] w (ED NC NS b K w):=by
 by_cases e1:call=1
 ·subst e1;exact J7 m w K NC NS b 1 r h hO hm hb hn (fun m w=>Ez m w 1 1 (by simp)) (by simp)
 by_cases e2:call=2
 ·subst e2;exact VI m w K NC NS b 2 r h hO hm hb hn (fun m w=>Ez m w 2 0 (by simp)) (by simp)
 by_cases e3:call=3
 ·subst e3;exact J7 m w K NC NS b 3 r h hO hm hb hn (fun m w=>Ez m w 3 1 (by simp)) (by simp)
 by_cases e4:call=4
 ·subst e4;exact J7 m w K NC NS b 4 r h hO hm hb hn (fun m w=>Ez m w 4 1 (by simp)) (by simp)
 by_cases e5:call=5
 ·subst e5;exact J7 m w K NC NS b 5 r h hO hm hb hn (fun m w=>Ez m w 5 1 (by simp)) (by simp)
 by_cases e6:call=6
 ·subst e6;exact gN m w K NC NS b 6 r h hO hm hb hn (fun m w=>Ez m w 6 3 (by simp)) (by simp)
 by_cases e7:call=7
 ·subst e7;exact gN m w K NC NS b 7 r h hO hm hb hn (fun m w=>Ez m w 7 3 (by simp)) (by simp)
 by_cases e8:call=8
 ·subst e8;exact J7 m w K NC NS b 8 r h hO hm hb hn (fun m w=>Ez m w 8 1 (by simp)) (by simp)
 by_cases e9:call=9
 ·subst e9;exact J7 m w K NC NS b 9 r h hO hm hb hn (fun m w=>Ez m w 9 1 (by simp)) (by simp)
 by_cases e10:call=10
 ·subst e10;exact gT m w K NC NS b 10 r h hO hm hb hn (fun m w=>Ez m w 10 2 (by simp)) (by simp)
 by_cases e11:call=11
 ·subst e11;exact J7 m w K NC NS b 11 r h hO hm hb hn (fun m w=>Ez m w 11 1 (by simp)) (by simp)
 by_cases e12:call=12
 ·subst e12;exact VI m w K NC NS b 12 r h hO hm hb hn (fun m w=>Ez m w 12 0 (by simp)) (by simp)
 by_cases e13:call=13
 ·subst e13;exact J7 m w K NC NS b 13 r h hO hm hb hn (fun m w=>Ez m w 13 1 (by simp)) (by simp)
 by_cases e14:call=14
 ·subst e14;exact gT m w K NC NS b 14 r h hO hm hb hn (fun m w=>Ez m w 14 2 (by simp)) (by simp)
 exact VI m w K NC NS b call r h hO hm hb hn (fun m w=>Y8 m w call ⟨by omega,by omega,by omega,by omega,by omega,by omega,by omega,by omega,by omega,by omega,by omega,by omega,by omega,by omega⟩) (.inr (.inr ⟨by omega,by omega,by omega,by omega,by omega,by omega,by omega,by omega,by omega,by omega,by omega,by omega,by omega,by omega⟩))
end
theorem BX (v:World) (τ:Nat->Question->Nat) (d:Nat):Ab No v (v.re τ d):=⟨rfl,rfl,Nat.le_refl _,fun _ _ _=>rfl⟩
theorem Tm {v v':World} (h:F5 v v'):Ab No v v':=⟨h.2.2.1,h.2.2.2,h.1,fun k hk _=>h.2.1 k hk⟩
theorem CU {a:X_} {n:Nat} {l:List (Nat×Value)} (hs:a.size=n) (h:∀p∈l,a.getD p.1 undef=p.2):a=TN n (AR (fun i=>a.getD i undef) l):=by
 rw[JM h];exact RY hs
theorem ou {a:X_} {n:Nat} {l l':List (Nat×Value)} (hs:a.size=n) (h:∀p∈l,a.getD p.1 undef=p.2) (h':∀p∈l',a.getD p.1 undef=p.2):a=TN n (AR (AR (fun i=>a.getD i undef) l) l'):=by
 have e:AR (fun i=>a.getD i undef) l=fun i=>a.getD i undef:=JM h
 rw[e,JM h'];exact RY hs
abbrev Ev:=Nat×Nat×Nat×Nat
def lW (x:Ev):U_:=[.int .i64 x.1,.int .i64 x.2.1,.int .i64 x.2.2.1,.int .i64 x.2.2.2]
def Q5:List Ev->U_
 | []=>[]
 | x::l=>lW x++Q5 l
theorem X0:∀l l',Q5 (l++l')=Q5 l++Q5 l'
 | [],_=>rfl
 | x::l,l'=>by simp only[List.cons_append,Q5,X0 l l',List.append_assoc]
structure RJ (base:Nat) (T:Tag) (told:Value) (w:World) (CR:List Ev):Prop where
 row:w.ownsRow base 59 4 told CR.length (Q5 CR)
 no:∀g,told.ownBlock=some g->T g=(0,0)
theorem RJ.Qb {base:Nat} {T T':Tag} {told:Value} {w w':World} {CR:List Ev} (h:RJ base T told w CR) (M:Bw T T' w w'):RJ base T' told w' CR:=by
 refine⟨?_,fun g hg=>(Ct.fresh M g (h.row.lt g hg).2).trans (h.no g hg)⟩;obtain⟨⟨h1,h2⟩,h3⟩:=h;refine⟨h1,?_⟩;rcases h2 with h2|⟨g,cap,cur,rfl,b,c,d⟩
 ·exact .inl h2
 ·exact .inr ⟨g,cap,cur,rfl,b,M.old c (h3 g rfl),d⟩
theorem DZ.like {NC NS b:Nat} {K:KS} {r r':PR} (h:DZ NC NS K) (hb:K.ps b=some r) (hp:r'.pid=r.pid) (he:r'.en=r.en) (GA:r'.co=r.co) (hsw:r'.sw=r.sw) (hi:r'.Ah.length=r.Ah.length) (hf:r'.fds=r.fds) (ho:r'.Ok):DZ NC NS (K.Cg b r')/\Rel b K (K.Cg b r'):=by
 have hE:Hl b K.ps (Cu K.ps b r'):=Hl.set;refine h.step (b:=b) (r:=r) (r':=r') rfl rfl rfl hE hb Al ho hp ⟨h.co.le,h.co.so,?_,fun k q hk=>?_⟩ ⟨h.sw.le,h.sw.so,?_,fun k q hk hn=>?_⟩ ?_
 ·show Dw K.core+CS (Mf (Cu K.ps b r')) K.AJ+0=NC;rw[CV (g:=Mf K.ps) fun k _=>?_]
  ·exact h.co.sum
  ·by_cases e:k=b
   ·subst e;rw[DV Al,DV hb,GA,hi]
   ·unfold Mf;rw[BI e]
 ·have hk:Cu K.ps b _ k=some q:=hk;by_cases e:k=b
  ·subst e;rw[Al]at hk;cases hk;rw[hi,GA];exact h.co.pl _ r hb
  ·rw[BI e]at hk;exact h.co.pl k q hk
 ·show Dw K.swap+CS (Vk (Cu K.ps b r')) K.AJ+0=NS;rw[CV (g:=Vk K.ps) fun k _=>?_]
  ·exact h.sw.sum
  ·by_cases e:k=b
   ·subst e;rw[GX Al,GX hb,hi]
   ·unfold Vk;rw[BI e]
 ·have hk:Cu K.ps b _ k=some q:=hk;by_cases e:k=b
  ·subst e;rw[Al]at hk;cases hk;rw[hi,hsw];exact h.sw.pl _ r hb (by rw[<-he];exact hn)
  ·rw[BI e]at hk;exact h.sw.pl k q hk hn
 ·have ht:Dx (Bi K.ps K.AJ) (K.Cg b r'):=⟨h.CY.ho,h.CY.le,h.CY.op,h.CY.nd,h.CY.nz,h.CY.nm,h.CY.dj⟩;refine ht.congr fun i _=>?_
  show CS (GJ (Cu K.ps b r') i) K.AJ=CS (GJ K.ps i) K.AJ;refine CV fun k _=>?_
  by_cases e:k=b
  ·subst e;rw[Fw Al,Fw hb,hf]
  ·unfold GJ;rw[BI e]
section
variable (bg:Bool) (NC NS b:Nat) (K0:KS) (v0:World) (n:Nat)
structure QE (CR:List Ev) (told:Value) (v:World) (K:KS) (r:PR):Prop where
 ka:AQ K v
 ok:DZ NC NS K
 rel:Rel b K0 K
 mv:Bw K0.T K.T v0 v
 told:RJ v0.heap.size K.T told v CR
 ps:K.ps b=some r
 z:K0.ps b≠none/\K0.DF
def XF (CR:List Ev) (K:KS) (r:PR):Prop:=bg=true->CR=[(1,12,1,0)]/\r.A=1/\r.P=2/\r.Ah.length=8/\r.pid=1/\r.en=false/\b∈K.AJ
def XI (j:Nat) (CR:List Ev) (K:KS) (r:PR):Prop:=(j=0->bg=true->CR=[]/\r.pid=1/\r.P=0/\r.Ah=[11,12,0,0,0,0,0,0])/\(0<j->XF bg b CR K r)
def XC (CR:List Ev) (call:Nat) (r:PR):Prop:=bg=true->CR=[]/\call=12/\r.pid=1/\r.P=2/\r.Ah.length=8
def XD (CR:List Ev) (call res wr:Nat) (f:Value) (r:PR):Prop:=bg=true->CR=[]/\call=12/\res=1/\wr=0/\f=.nilFunc/\r.pid=1/\r.P=2/\r.Ah.length=8/\r.en=false
def XE (CR:List Ev) (res:Nat) (r:PR):Prop:=bg=true->CR=[(1,12,1,0)]/\res=1/\r.pid=1/\r.P=2/\r.Ah.length=8/\r.en=false
structure xM (T:Tag) (bA res wr:Nat) (f:Value) (v:World):Prop where
 blk:v.heap[bA]?=some (.cells #[.int .u16 res,.int .u16 wr,f] 206 (0,0))
 t:T bA=(0,0)
 res:res<65536
 wr:wr<65536
def SI (i:Int) (told:Value) (v:World):Prop:=∃j CR K r,i=(j:Nat)/\CR.length<=j/\QE NC NS b K0 v0 CR told v K r/\r.en=false/\b∈K.AJ/\XI bg b j CR K r
def SC (i:Int) (told x:Value) (v:World):Prop:=∃j CR K r call,i=(j:Nat)/\j<n/\x=.int .u16 (call:Nat)/\call<65536/\CR.length<=j/\QE NC NS b K0 v0 CR told v K r/\r.en=false/\b∈K.AJ/\XC bg CR call r
def SB (told:Value) (v:World):Prop:=∃CR K r,CR.length<=n/\QE NC NS b K0 v0 CR told v K r/\r.en=false/\b∈K.AJ/\bg=false
def SD (i:Int) (told x:Value) (bA:Nat) (v:World):Prop:=∃j CR K r call res wr f,i=(j:Nat)/\j<n/\x=.int .u16 (call:Nat)/\call<65536/\CR.length<=j/\QE NC NS b K0 v0 CR told v K r/\(r.en=false->b∈K.AJ)/\xM K.T bA res wr f v/\IU K.T v K.kb b f/\XD bg CR call res wr f r
def SDn (i:Int) (told x:Value) (bA:Nat) (v:World):Prop:=∃j CR K r call res wr,i=(j:Nat)/\j<n/\x=.int .u16 (call:Nat)/\call<65536/\CR.length<=j/\QE NC NS b K0 v0 CR told v K r/\(r.en=false->b∈K.AJ)/\xM K.T bA res wr .nilFunc v/\XD bg CR call res wr .nilFunc r
def SDb (i:Int) (told _x:Value) (bA:Nat) (v:World):Prop:=∃j CR K r res wr f,i=(j:Nat)/\j<n/\CR.length<=j/\QE NC NS b K0 v0 CR told v K r/\xM K.T bA res wr f v/\IU K.T v K.kb b f/\(∃fn ca cb,f=.func fn ca cb)/\bg=false
def SBl (told:Value) (v:World):Prop:=∃CR K r,CR.length<=n/\QE NC NS b K0 v0 CR told v K r/\bg=false
def SBc (told:Value) (bA:Nat) (v:World):Prop:=SBl bg NC NS b K0 v0 n told v/\∃res wr fn ca cb,v.heap[bA]?=some (.cells #[.int .u16 (res:Nat),.int .u16 (wr:Nat),.func fn ca cb] 206 (0,0))
def SE0 (i:Int) (told:Value) (bA:Nat) (v:World):Prop:=∃j CR K r res wr,i=(j:Nat)/\j<n/\CR.length<=j+1/\QE NC NS b K0 v0 CR told v K r/\(r.en=false->b∈K.AJ)/\xM K.T bA res wr .nilFunc v/\XE bg CR res r
def SE (i:Int) (told:Value) (bA:Nat) (v:World):Prop:=∃j CR K r res wr,i=(j:Nat)/\j<n/\CR.length<=j+1/\QE NC NS b K0 v0 CR told v K r/\r.en=false/\b∈K.AJ/\xM K.T bA res wr .nilFunc v/\XE bg CR res r
def SA (i:Int) (told A:Value) (v:World):Prop:=∃j CR K r res wr,i=(j:Nat)/\j<n/\CR.length<=j+1/\QE NC NS b K0 v0 CR told v K r/\r.en=false/\b∈K.AJ/\res<65536/\wr<65536/\A=.agg #[.int .u16 (res:Nat),.int .u16 (wr:Nat),.nilFunc]/\XE bg CR res r
def SF (told:Value) (v:World):Prop:=∃CR K r,QE NC NS b K0 v0 CR told v K r/\XF bg b CR K r
end
section
variable {bg:Bool} {NC NS b:Nat} {K0:KS} {v0:World} {n:Nat} {CR:List Ev} {told x A:Value} {v v':World} {K K':KS} {r r':PR} {i:Int} {bA:Nat}
theorem QE.next (h:QE NC NS b K0 v0 CR told v K r) (ka:AQ K' v') (ok:DZ NC NS K') (R:Rel b K K') (M:Bw K.T K'.T v v') (hb:K'.ps b=some r'):QE NC NS b K0 v0 CR told v' K' r':=
 ⟨ka,ok,h.rel.trans R h.z.1 h.z.2,h.mv.trans M,h.told.Qb M,hb,h.z⟩
theorem QE.no (h:QE NC NS b K0 v0 CR told v K r) (hK:Ab No v v'):QE NC NS b K0 v0 CR told v' K r:=
 h.next (h.ka.no hK) h.ok (.refl b K) (Bw.no hK h.ka.lt) h.ps
theorem xM.no {T:Tag} {res wr:Nat} {f:Value} (h:xM T bA res wr f v) (hK:Ab No v v'):xM T bA res wr f v':=⟨hK.old h.blk id,h.t,h.res,h.wr⟩
theorem IU.no {T:Tag} {kb:Nat} (h:IU T v kb b x) (hK:Ab No v v'):IU T v' kb b x:=h.keep (Q:=fun _=>False) hK.no (fun h=>h)
theorem SI.no (h:SI bg NC NS b K0 v0 i told v) (hK:Ab No v v'):SI bg NC NS b K0 v0 i told v':=let ⟨j,e,K,r,h1,h2,h3,h4⟩:=h;⟨j,e,K,r,h1,h2,h3.no hK,h4⟩
theorem SC.no (h:SC bg NC NS b K0 v0 n i told x v) (hK:Ab No v v'):SC bg NC NS b K0 v0 n i told x v':=let ⟨j,e,K,r,c,h1,h2,h3,h4,h5,h6,h7⟩:=h;⟨j,e,K,r,c,h1,h2,h3,h4,h5,h6.no hK,h7⟩
theorem SB.no (h:SB bg NC NS b K0 v0 n told v) (hK:Ab No v v'):SB bg NC NS b K0 v0 n told v':=let ⟨e,K,r,h1,h2,h3⟩:=h;⟨e,K,r,h1,h2.no hK,h3⟩
theorem SD.no (h:SD bg NC NS b K0 v0 n i told x bA v) (hK:Ab No v v'):SD bg NC NS b K0 v0 n i told x bA v':=let ⟨j,e,K,r,c,s,w,f,h1,h2,h3,h4,h5,h6,h7,h8,h9,h10⟩:=h;⟨j,e,K,r,c,s,w,f,h1,h2,h3,h4,h5,h6.no hK,h7,h8.no hK,h9.no hK,h10⟩
theorem SDn.no (h:SDn bg NC NS b K0 v0 n i told x bA v) (hK:Ab No v v'):SDn bg NC NS b K0 v0 n i told x bA v':=let ⟨j,e,K,r,c,s,w,h1,h2,h3,h4,h5,h6,h7,h8,h9⟩:=h;⟨j,e,K,r,c,s,w,h1,h2,h3,h4,h5,h6.no hK,h7,h8.no hK,h9⟩
theorem SDb.no (h:SDb bg NC NS b K0 v0 n i told x bA v) (hK:Ab No v v'):SDb bg NC NS b K0 v0 n i told x bA v':=let ⟨j,e,K,r,s,w,f,h1,h2,h5,h6,h8,h9,h10⟩:=h;⟨j,e,K,r,s,w,f,h1,h2,h5,h6.no hK,h8.no hK,h9.no hK,h10⟩
theorem SBl.no (h:SBl bg NC NS b K0 v0 n told v) (hK:Ab No v v'):SBl bg NC NS b K0 v0 n told v':=let ⟨e,K,r,h1,h2,h3⟩:=h;⟨e,K,r,h1,h2.no hK,h3⟩
theorem SBc.no (h:SBc bg NC NS b K0 v0 n told bA v) (hK:Ab No v v'):SBc bg NC NS b K0 v0 n told bA v':=let ⟨h1,a,c,d,e,f,h2⟩:=h;⟨h1.no hK,a,c,d,e,f,hK.old h2 id⟩
theorem SE0.no (h:SE0 bg NC NS b K0 v0 n i told bA v) (hK:Ab No v v'):SE0 bg NC NS b K0 v0 n i told bA v':=let ⟨j,e,K,r,s,w,h1,h2,h3,h4,h5,h6,h7⟩:=h;⟨j,e,K,r,s,w,h1,h2,h3,h4.no hK,h5,h6.no hK,h7⟩
theorem SE.no (h:SE bg NC NS b K0 v0 n i told bA v) (hK:Ab No v v'):SE bg NC NS b K0 v0 n i told bA v':=let ⟨j,e,K,r,s,w,h1,h2,h3,h4,h5,h6,h7,h8⟩:=h;⟨j,e,K,r,s,w,h1,h2,h3,h4.no hK,h5,h6,h7.no hK,h8⟩
theorem SA.no (h:SA bg NC NS b K0 v0 n i told A v) (hK:Ab No v v'):SA bg NC NS b K0 v0 n i told A v':=let ⟨j,e,K,r,s,w,h1,h2,h3,h4,h5⟩:=h;⟨j,e,K,r,s,w,h1,h2,h3,h4.no hK,h5⟩
theorem SF.no (h:SF bg NC NS b K0 v0 told v) (hK:Ab No v v'):SF bg NC NS b K0 v0 told v':=let ⟨e,K,r,h1,h2⟩:=h;⟨e,K,r,h1.no hK,h2⟩
end
section
variable (m:Nat) (w:World)
theorem iD (pb pid call r x:Nat) (h0:w.cell? (S_ pb)=some (.int .i64 pid)) (hc:call<65536) (hr:r<65536) (hx:x<65536):CallsIn NF m prog 98 #[R_ pb,.int .u16 call,.agg #[.int .u16 r,.int .u16 x,.nilFunc]] w fun e w'=>Ab No w w'/\e=.returned (.agg #[.int .i64 pid,.int .i64 call,.int .i64 r,.int .i64 x]):=by
 have K2:Ab No w ((w.alloc (.cells #[.int .u16 r,.int .u16 x,.nilFunc] 206)).alloc (.cells #[.int .i64 0,.int .i64 0,.int .i64 0,.int .i64 0] 59)):=((Ab.refl _ _).alloc _).alloc _;have d0:=K2.has h0;gi_enter func98,ntmps98;gi_wp2;gi_region
 all_goals gi_wp2
 all_goals refine bodyPost_ret (v:=.agg #[.int .i64 pid,.int .i64 call,.int .i64 r,.int .i64 x]) (by simp[results,results98,go_sem]) rfl ?_
 all_goals exact⟨by repeat (first|exact Ab.refl _ _|refine Ab.drew ?_|refine Ab.alloc ?_ _),rfl⟩
theorem jL (kb pb ib L c A pid:Nat) (h5:w.cell? (T_ pb 5)=some (.int .u16 A)) (h8:w.cell? (T_ pb 8)=some (.slice (some (S_ ib)) L c)) (h0:w.cell? (S_ pb)=some (.int .i64 pid)) (hp:pid<65536):
  CallsIn NF m prog 96 #[R_ kb,R_ pb,.int .u16 (12:Nat)] w fun e w'=>e=.returned (.agg #[.int .u16 pid,.int .u16 0,.nilFunc])/\Ab No w w':=by
 gi_enter func96,ntmps96;obtain⟨K0,rb,_⟩:=FU w;have q5:=K0.has h5;have q8:=K0.has h8;gi_wp2;generalize hw0:w.alloc V_=w0 at*;refine AA (P:=prog) No _ rfl rfl (by kernel_rfl) 15 155 [0,1,2,3,4,5,6,7,8,9,10,11,12,13,14] [] (by kernel_rfl) (by rfl) (fun _ _ _=>True) (fun _ _ _ _ _ h _=>h) _ _ rfl rfl ?_;gi_wp2_with (first|(gi_at_call 139;refine(Ez _ w0.drew 12 0 (by simp)).mono ?_;rintro e w1 ⟨rfl,rfl⟩)|(gi_at_call 138;refine(Hq pb A _ w0.drew).mono ?_;rintro e w1 ⟨rfl,rfl⟩));refine⟨rfl,by kernel_rfl,?_,(fun i hi=>absurd hi (by simp)),?_⟩
 ·intro W hK;have d5:=hK.has (w:=w0.drew) q5;have d8:=hK.has (w:=w0.drew) q8
  repeat' (refine Ao ?_ ?_)
  all_goals first|exact trivial|gi_wp2_with (first|(gi_at_call 139;refine(Ez _ W 12 0 (by simp)).mono ?_;rintro e w1 ⟨rfl,rfl⟩)|(gi_at_call 138;refine(Hq pb A _ W).mono ?_;rintro e w1 ⟨rfl,rfl⟩))
 ·intro u W hK _;simp only[C9];have b1:=hK.old (w:=w0.drew) rb id;have KW:Ab No w W:=K0.drew.then hK;have ne:∀x,x<w.heap.size->¬At w.heap.size x:=fun x hx h=>absurd hx (by rw[show x=w.heap.size from h];exact Nat.lt_irrefl _)
  gi_wp2_with fail;refine(Qx _ W).mono ?_;rintro e w1 ⟨rfl,K1⟩;have d0:=K1.has (KW.has h0);gi_wp2_with fail;refine(Cr _ w1 pid hp).mono ?_;rintro e w2 ⟨rfl,K2⟩;obtain⟨w8,Ar,K8,b8⟩:=UQ (x:=pid) (y:=0) (K2.old (K1.old b1 id) id);gi_wp2_with (refine Ae rfl (.tmp 6) (.tmp 135) 206 rfl rfl rfl Ar ?_);refine TR pid 0 (by simp[results,results96,go_sem,Dz b8]) rfl ?_;exact⟨rfl,((KW.then K1).then K2).trans K8 (fun k hk h=>absurd h (ne k hk))⟩
theorem jJ (K:KS) (b n:Nat) (r:PR) (h:AQ K w) (hb:K.ps b=some r) (hn:r.en=false) (o:r.Ok) (hL:r.Ah.length<=128) (Dp:r.P+2<=r.Ah.length) (AO:r.Ah[r.P]?=some 11) (hn1:r.Ah[r.P+1]?=some n):
  CallsIn NF m prog 185 #[.pointer (some (T_ b 5))] w fun e w'=>e=.returned (.tuple #[.int .i64 1,.int .u16 (n:Nat)])/\AQ (K.Cg b { r with P:=r.P+2 }) w'/\Bw K.T K.T w w':=by
 obtain⟨gi,ci,q8,Jw,Zc,him⟩:=h.Uu hb hn;have TF:=Jw.le;have q7:=h.FH hb 7;simp[PR.arr]at q7;have z7:=h.WA hb 7;have hP:=o.P;have d0:w.cell? (T_ gi r.P)=some (.int .u16 11):=(Jw.cell (by omega)).trans (by rw[Aq,List.getElem?_map,AO];rfl);have d1:w.cell? (T_ gi (r.P+1))=some (.int .u16 (n:Nat)):=(Jw.cell (by omega)).trans (by rw[Aq,List.getElem?_map,hn1];rfl);clear AO hn1;have w2:IntKind.u16.wrap ((r.P:Int)+2)=(r.P:Int)+2:=by rw[wrap_u16];omega
 have h1:=h.like (r':={ r with P:=r.P+2 }) (i:=7) (v:=.int .u16 ((r.P:Int)+2)) hb ⟨rfl,rfl,rfl,rfl,rfl⟩ rfl (h.ps b r hb).bl;have M1:=h.C8 hb (i:=7) (v:=.int .u16 ((r.P:Int)+2));gi_enter func185,ntmps185;gi_wp2_with (gi_at_call 138;refine(DN b gi ci r.Ah.length 2 r.P _ _ q8 (by omega) hP hL TF Dp).mono ?_;rintro e w' ⟨rfl,hw⟩;have hw:=hw.symm;subst hw);gi_region
 all_goals gi_wp2
 all_goals (try gi_region)
 all_goals (try gi_wp2)
 all_goals go_ret2
 all_goals exact⟨by simp,h1.no (Ab.refl No _).drew,M1.then (Ab.refl No _).drew⟩
end
def Ff (P:Program) (f:FuncId):Code:=match (((P.funcs[f]?).bind fun f=>f.body):Option Code)with
 | some c=>c
 | none=>Code.skip
def behind:Nat->Code->Code
 | 0,c=>c
 | n+1,.seq _ c=>behind n c
 | _+1,_=>.skip
def piece:Code->Code
 | .seq c _=>c
 | c=>c
theorem Ms:Ff prog 56=Tryz.f56.body.getD .skip:=by kernel_rfl
theorem vY:Ff prog 136=Tryz.f136.body.getD .skip:=by kernel_rfl
theorem vX:Ff prog 187=Tryz.f187.body.getD .skip:=by kernel_rfl
def gA (P:Program):Code:=match Ff P 56 with | .seq _ (.seq _ (.seq _ (.seq _ (.seq _ (.seq _ (.block _ (.loop (.block _ (.seq _ (.seq _ (.block _ (.cond _ a c))))))))))))=>.seq a c|_=>.skip
def gR2 (P:Program):Code:=match Ff P 56 with | .seq _ (.seq _ (.seq c _))=>c|_=>.skip
theorem aq0:R2 prog=gR2 prog:=by kernel_rfl
def gR3 (P:Program):Code:=match Ff P 56 with | .seq _ (.seq _ (.seq _ (.seq c _)))=>c|_=>.skip
theorem ap7:R3 prog=gR3 prog:=by kernel_rfl
def yj (P:Program):Code:=match Ff P 136 with | .seq (.seq _ (.block _ (.loop (.seq _ (.seq _ (.seq (.block _ (.seq c _)) _)))))) _=>c|_=>.skip
theorem uH:Q3 prog=yj prog:=by kernel_rfl
def ai2 (P:Program):Code:=match gA P with | .seq (.seq _ (.seq _ (.seq (.seq c _) _))) _=>c|_=>.skip
theorem af0:sS prog=ai2 prog:=by kernel_rfl
def ai1 (P:Program):Code:=match gA P with | .seq (.seq _ (.seq _ (.seq (.seq _ (.cond _ (.seq c _) _)) _))) _=>c|_=>.skip
theorem ae9:sQ prog=ai1 prog:=by kernel_rfl
def ah9 (P:Program):Code:=match gA P with | .seq (.seq _ (.seq _ (.seq _ (.seq _ (.seq (.seq c _) _))))) _=>c|_=>.skip
theorem ae7:R16 prog=ah9 prog:=by kernel_rfl
def NN (f:Y_) (a b c d e g h:Value):X_:=#[a,b,c,f 3,f 4,f 5,f 6,d,e,g,h,f 11,f 12,f 13,f 14,f 15,f 16,f 17,f 18,f 19,f 20,f 21,f 22,f 23,f 24,f 25,f 26,f 27,f 28,f 29,f 30,f 31,f 32,f 33,f 34,f 35,f 36,f 37,f 38,f 39,f 40,f 41,f 42,f 43,f 44,f 45,f 46,f 47,f 48,f 49,f 50,f 51,f 52,f 53,f 54,f 55,f 56,f 57,f 58,f 59,f 60,f 61,f 62,f 63,f 64,f 65,f 66,f 67,f 68,f 69,f 70,f 71,f 72,f 73,f 74,f 75]
theorem uW {fn:Fn} {ca cb:X_} {w:World}:(binOp .neq 32 (.func fn ca cb) .nilFunc).run prog w=.ok (.bool true) w:=by kernel_rfl
section
variable {bg:Bool} {NC NS b:Nat} {K0:KS} {v0:World} {n:Nat} {m:Nat} {w:World} {q:Nat} {i:Int} {told x:Value} {bA:Nat} {f:Nat->Value}
theorem Ok.xW {r:PR} {A B P:Nat} {Ah:List Nat} (o:r.Ok) (hA:A<65536) (hB:B<65536) (hP:P<65536) (hl:Ah.length=r.Ah.length) (hi:∀x∈Ah,x<65536):({ r with A:=A,B:=B,P:=P,Ah:=Ah }:PR).Ok:=
 ⟨hA,hB,hP,o.st,o.pid,o.par,hi,o.fds,o.fd,fun e=>by obtain⟨k,h⟩:=o.len e;exact⟨k,by show Ah.length=_/\_;rw[hl];exact h⟩,fun e=>⟨(o.off e).1,by have:=(o.off e).2.1;rw[this]at hl;exact List.length_eq_zero_iff.1 hl,(o.off e).2.2⟩⟩
theorem Ok.ag0 {r:PR} {v:Value} (o:r.Ok):({ r with bl:=v }:PR).Ok:=⟨o.A,o.B,o.P,o.st,o.pid,o.par,o.Ah,o.fds,o.fd,o.len,o.off⟩
theorem YG (h:SI bg NC NS b K0 v0 0 Cb w) (N1:Int):(R2 prog).wpIn NF m prog (Ends fun tm w'=>∃f',tm=TN 76 (AR f' (Zi (ptr K0.kb) (S_ b) N1 Cb))/\SI bg NC NS b K0 v0 0 Cb w') ⟨TN 76 (AR f (Zi (ptr K0.kb) (S_ b) N1 Cb)),[]⟩ w:=by
 obtain⟨j,CR,K,r,hj,hl,g,hn,hm,hx⟩:=h;obtain rfl:j=0:=by omega
 have hc:=fun m=>Vh m w K b NC r g.ka g.ok.th g.ps hm g.ok.nd g.ok.co (by have:=g.ok.len;omega)
 rw[g.rel.kb]at hc;rw[aq0];unfold gR2;rw[Ms];dsimp only[Tryz.f56,Option.getD];show Code.wpIn (Fence.list LF none) m prog _ _ ⟨NN f (ptr K0.kb) (R_ b) (.int .i64 N1) Cb (f 8) (f 9) (f 10),[]⟩ _;unfold NN ptr;gi_wp2_with fail;refine(hc _).mono ?_;rintro e w1 ⟨rfl,K',h1,hM,hC,M1⟩;gi_wp2;obtain⟨c,hc'⟩:=hM.get g.ps;exact⟨rfl,rfl,_,CU rfl (by simp[Zi,pv,Cb]),0,CR,K',_,rfl,hl,g.next h1 (g.ok.moved hM hC) (hM.rel b) M1 hc',hn,by rw[hM.AJ];exact hm,hx.1,fun h=>absurd h (by omega)⟩
theorem YF (h:SI bg NC NS b K0 v0 0 Cb w) (N1:Int):(R3 prog).wpIn NF m prog (Ends fun tm w'=>∃f',tm=TN 76 (AR f' (Zi (ptr K0.kb) (S_ b) N1 Cb))/\SI bg NC NS b K0 v0 0 Cb w') ⟨TN 76 (AR f (Zi (ptr K0.kb) (S_ b) N1 Cb)),[]⟩ w:=by
 obtain⟨j,CR,K,r,hj,hl,g,hn,hm,hx⟩:=h;obtain rfl:j=0:=by omega
 have c4:=g.ka.FH g.ps 4;have z4:=g.ka.WA g.ps 4;simp[PR.arr]at c4;rw[ap7];unfold gR3;rw[Ms];dsimp only[Tryz.f56,Option.getD];show Code.wpIn (Fence.list LF none) m prog _ _ ⟨NN f (ptr K0.kb) (R_ b) (.int .i64 N1) Cb (f 8) (f 9) (f 10),[]⟩ _;unfold NN ptr;gi_wp2;have h1:=g.ka.like (r':={ r with bl:=.nilFunc }) (i:=4) (v:=.nilFunc) g.ps ⟨rfl,rfl,rfl,rfl,rfl⟩ rfl (.inl rfl);have F3:=g.ok.like (r':={ r with bl:=.nilFunc }) g.ps rfl rfl rfl rfl rfl rfl (Ok.ag0 (g.ok.pr b r g.ps));exact⟨rfl,rfl,_,CU rfl (by simp[Zi,pv,Cb]),0,CR,_,_,rfl,hl,g.next h1 F3.1 F3.2 (g.ka.C8 g.ps) Al,hn,hm,hx.1,fun h=>absurd h (by omega)⟩
theorem bY (hbg:bg=true->n=1) (h:SI bg NC NS b K0 v0 i told w) (hi:i<(n:Nat)):(Q3 prog).wpIn NF m prog (Ends fun tm w'=>∃f' oc x,tm=fH (AR f' (DT q (OV (S_ b)) (n:Nat) i oc x))/\((oc=0/\SI bg NC NS b K0 v0 (i+1) told w')\/(oc=1/\SC bg NC NS b K0 v0 n i told x w')\/(oc=2/\SB bg NC NS b K0 v0 n told w'))) ⟨fH (AR f (JY q (OV (S_ b)) (n:Nat) i)),[]⟩ w:=by
 obtain⟨j,CR,K,r,rfl,hl,g,hn,hm,hx⟩:=h;have hj:j<n:=by omega
 have o:=g.ok.pr b r g.ps;have hL:=(g.ok.co.pl b r g.ps).1;rw[uH];unfold yj;rw[vY];dsimp only[Tryz.f136,Option.getD];show Code.wpIn (Fence.list LF none) m prog _ _ ⟨#[pr q,.pointer (some (T_ b 5)),f 2,f 3,f 4,f 5,f 6,f 7,.int .i64 (n:Nat),.int .i64 (j:Nat),f 10,f 11,f 12,f 13,f 14,f 15,f 16,f 17,f 18,f 19,f 20,f 21,f 22,f 23,f 24,f 25,f 26,f 27,f 28,f 29,f 30,f 31],[]⟩ _;cases bg with
 | false=>
  have hs:=fun m=>uk m w K b r g.ka g.ps hn o hL
  gi_wp2_with fail
  refine(hs _).mono ?_
  rintro e w1 ⟨⟨oc,y,hoc,hy,rfl⟩,A,B,P,Ah,hA,hB,hP,Gl,hix,h1,M1⟩
  gi_wp2
  have F3:=g.ok.like (r':={ r with A:=A,B:=B,P:=P,Ah:=Ah }) g.ps rfl rfl rfl rfl Gl rfl (Ok.xW o hA hB hP Gl hix)
  have g1:=g.next h1 F3.1 F3.2 M1 Al
  refine⟨rfl,rfl,_,(oc:Nat),.int .u16 (y:Nat),CU (n:=32) rfl (by simp[DT,OV,Addr.add]),?_⟩
  have h3:oc=0\/oc=1\/oc=2:=by omega
  rcases h3 with rfl|rfl|rfl
  ·exact .inl ⟨rfl,j+1,CR,_,_,by omega,by omega,g1,hn,hm,fun h=>absurd h (by omega),fun _ h=>by cases h⟩
  ·exact .inr (.inl ⟨rfl,j,CR,_,_,y,rfl,hj,rfl,hy,hl,g1,hn,hm,fun h=>by cases h⟩)
  ·exact .inr (.inr ⟨rfl,CR,_,_,by omega,g1,hn,hm,rfl⟩)
 | true=>
  obtain rfl:n=1:=hbg rfl
  obtain rfl:j=0:=by omega
  clear hbg
  obtain⟨rfl,x1,x2,x3⟩:=hx.1 rfl rfl
  have hs:=fun m=>jJ m w K b 12 r g.ka g.ps hn o hL (by rw[x2,x3];decide) (by rw[x2,x3];rfl) (by rw[x2,x3];rfl)
  have hxc:XC true ([]:List Ev) 12 { r with P:=r.P+2 }:=fun _=>⟨rfl,rfl,x1,by rw[x2],by show r.Ah.length=8;rw[x3];rfl⟩
  clear x1 x2 x3 hx
  gi_wp2_with fail
  refine(hs _).mono ?_
  rintro e w1 ⟨rfl,h1,M1⟩
  gi_wp2
  have F3:=g.ok.like (r':={ r with P:=r.P+2 }) g.ps rfl rfl rfl rfl rfl rfl (by
   have hf:r.P+2<65536:=by have:=(hxc rfl).2.2.2.1;simp only at this;omega
   exact⟨o.A,o.B,hf,o.st,o.pid,o.par,o.Ah,o.fds,o.fd,o.len,o.off⟩)
  have g1:=g.next h1 F3.1 F3.2 M1 Al
  exact⟨rfl,rfl,_,1,.int .u16 12,CU (n:=32) rfl (by simp[DT,OV,Addr.add]),.inr (.inl ⟨rfl,0,[],_,_,12,rfl,hj,rfl,by omega,hl,g1,hn,hm,hxc⟩)⟩
theorem YH (h:SD bg NC NS b K0 v0 n i told x bA w):(sS prog).wpIn NF m prog (Ends fun tm w'=>∃f' c,tm=TN 76 (AR (AR f' (Rc (ptr K0.kb) (S_ b) told q x bA)) [(39,.bool c)])/\((c=false/\SDn bg NC NS b K0 v0 n i told x bA w')\/(c=true/\SDb bg NC NS b K0 v0 n i told x bA w'))) ⟨TN 76 (AR f (Rc (ptr K0.kb) (S_ b) told q x bA)),[]⟩ w:=by
 obtain⟨j,CR,K,r,call,res,wr,fv,rfl,hj,rfl,hc,hl,g,hm,an,bl,hx⟩:=h;have c2:w.cell? (T_ bA 2)=some fv:=by rw[Ag an.blk];rfl
 rw[af0];unfold ai2 gA;rw[Ms];dsimp only[Tryz.f56,Option.getD];show Code.wpIn (Fence.list LF none) m prog _ _ ⟨NN f (ptr K0.kb) (R_ b) (f 2) told (pr q) (.int .u16 (call:Nat)) (R_ bA),[]⟩ _;unfold NN ptr;have hcase:fv=.nilFunc\/∃fn ca cb,fv=.func fn ca cb:=by
  rcases bl with h|⟨_,_,h,_⟩|⟨_,h|h,_⟩
  ·exact .inl h
  all_goals exact .inr ⟨_,_,_,h⟩
 rcases hcase with rfl|⟨fn,ca,cb,rfl⟩
 ·have hq:=NB w;gi_wp2;exact⟨rfl,rfl,_,false,ou rfl (by simp[Rc,pv,pr]) (by simp),.inl ⟨rfl,j,CR,K,r,call,res,wr,rfl,hj,rfl,hc,hl,g,hm,an,hx⟩⟩
 ·have hq:=uW (w:=w) (fn:=fn) (ca:=ca) (cb:=cb);gi_wp2;refine⟨rfl,rfl,_,true,ou rfl (by simp[Rc,pv,pr]) (by simp),.inr ⟨rfl,j,CR,K,r,res,wr,_,rfl,hj,hl,g,an,bl,⟨_,_,_,rfl⟩,?_⟩⟩;cases bg
  ·rfl
  ·have:=(hx rfl).2.2.2.2.1;cases this
theorem Wl (h:SDb bg NC NS b K0 v0 n i told x bA w):(sQ prog).wpIn NF m prog (Ends fun tm w'=>∃f',tm=TN 76 (AR f' (fF (ptr K0.kb) (S_ b) told q bA))/\SBc bg NC NS b K0 v0 n told bA w') ⟨TN 76 (AR f (Rc (ptr K0.kb) (S_ b) told q x bA)),[]⟩ w:=by
 obtain⟨j,CR,K,r,res,wr,fv,rfl,hj,hl,g,an,bl,⟨fn,ca,cb,rfl⟩,hx⟩:=h;have c2:w.cell? (T_ bA 2)=some (.func fn ca cb):=by rw[Ag an.blk];rfl
 have z4:=g.ka.WA g.ps 4;have c4:=g.ka.FH g.ps 4;simp[PR.arr]at c4;have h1:=g.ka.like (r':={ r with bl:=.func fn ca cb }) (i:=4) (v:=.func fn ca cb) g.ps ⟨rfl,rfl,rfl,rfl,rfl⟩ rfl bl;have F3:=g.ok.like (r':={ r with bl:=.func fn ca cb }) g.ps rfl rfl rfl rfl rfl rfl (Ok.ag0 (g.ok.pr b r g.ps));have hb:(w.setCell (T_ b 4) (.func fn ca cb)).heap[bA]?=some (.cells #[.int .u16 (res:Nat),.int .u16 (wr:Nat),.func fn ca cb] 206 (0,0)):=(g.ka.C8 g.ps).old an.blk an.t;rw[ae9];unfold ai1 gA;rw[Ms];dsimp only[Tryz.f56,Option.getD];show Code.wpIn (Fence.list LF none) m prog _ _ ⟨NN f (ptr K0.kb) (R_ b) (f 2) told (pr q) x (R_ bA),[]⟩ _;unfold NN ptr;gi_wp2;exact⟨rfl,rfl,_,CU rfl (by simp[fF,pv,pr]),⟨CR,_,_,by omega,g.next h1 F3.1 F3.2 (g.ka.C8 g.ps) Al,hx⟩,res,wr,fn,ca,cb,hb⟩
theorem YE (h:SE0 bg NC NS b K0 v0 n i told bA w):(R16 prog).wpIn NF m prog (Ends fun tm w'=>∃f' c,tm=TN 76 (AR f' (rM (ptr K0.kb) (S_ b) told q bA c))/\((c=true/\SF bg NC NS b K0 v0 told w')\/(c=false/\SE bg NC NS b K0 v0 n i told bA w'))) ⟨TN 76 (AR f (fF (ptr K0.kb) (S_ b) told q bA)),[]⟩ w:=by
 obtain⟨j,CR,K,r,res,wr,rfl,hj,hl,g,hm,an,hx⟩:=h;have c2:=g.ka.FH g.ps 2;simp[PR.arr]at c2;rw[ae7];unfold ah9 gA;rw[Ms];dsimp only[Tryz.f56,Option.getD];show Code.wpIn (Fence.list LF none) m prog _ _ ⟨NN f (ptr K0.kb) (R_ b) (f 2) told (pr q) (f 9) (R_ bA),[]⟩ _;unfold NN ptr;cases hn:r.en with
 | false=>
  rw[hn]at c2
  gi_wp2
  exact⟨rfl,rfl,_,false,CU rfl (by simp[rM,pv,pr]),.inr ⟨rfl,j,CR,K,r,res,wr,rfl,hj,hl,g,hn,hm hn,an,hx⟩⟩
 | true=>
  rw[hn]at c2
  gi_wp2
  exact⟨rfl,rfl,_,true,CU rfl (by simp[rM,pv,pr]),.inl ⟨rfl,CR,K,r,g,fun hb=>by have:=(hx hb).2.2.2.2.2;rw[hn]at this;cases this⟩⟩
end
def ai3 (P:Program):Code:=match gA P with | .seq (.seq _ (.seq c _)) _=>c|_=>.skip
theorem af1:sU prog=ai3 prog:=by kernel_rfl
def ai0 (P:Program):Code:=match gA P with | .seq (.seq _ (.seq _ (.seq _ (.seq c _)))) _=>c|_=>.skip
theorem ae8:sP prog=ai0 prog:=by kernel_rfl
def ah8 (P:Program):Code:=match gA P with | .seq _ (.cond _ (.seq _ (.seq (.seq _ (.cond _ c _)) _)) _)=>c|_=>.skip
theorem ae6:sO prog=ah8 prog:=by kernel_rfl
def yl (P:Program):Code:=match Ff P 187 with | .seq _ (.seq _ (.seq _ (.seq _ (.block _ (.cond _ c _)))))=>c|_=>.skip
theorem wR:TV prog=yl prog:=by kernel_rfl
theorem oI:(prog.info? 59).map (fun i=>(i.zero,i.size,i.bytes))=some (some (.agg #[.int .i64 0,.int .i64 0,.int .i64 0,.int .i64 0]),4,32):=by kernel_rfl
section
variable {bg:Bool} {NC NS b:Nat} {K0:KS} {v0:World} {n:Nat} {m:Nat} {w:World} {q:Nat} {i:Int} {told x:Value} {bA:Nat} {f:Nat->Value} {K:KS} {r:PR} {CR:List Ev} {v v':World}
theorem RJ.keep {base:Nat} {T:Tag} {S:Nat->Prop} (h:RJ base T told v CR) (hK:Ab S v v') (hS:∀g,told.ownBlock=some g->¬S g):RJ base T told v' CR:=by
 obtain⟨⟨h1,h2⟩,h3⟩:=h;refine⟨⟨h1,?_⟩,h3⟩;rcases h2 with h2|⟨g,cap,cur,rfl,b,c,d⟩
 ·exact .inl h2
 ·exact .inr ⟨g,cap,cur,rfl,b,hK.old c (hS g rfl),d⟩
theorem QE.box {rb:Nat} (h:QE NC NS b K0 v0 CR told v K r) (hK:Ab (At rb) v v') (hr:K.T rb=(0,0)) (h0:v0.heap.size<=rb) (ht:∀g,told.ownBlock=some g->g≠rb):QE NC NS b K0 v0 CR told v' K r:=
 ⟨h.ka.own hK hr,h.ok,h.rel,h.mv.own hK (fun k e=>by rw[show k=rb from e];exact h0),h.told.keep hK (fun g hg e=>ht g hg e),h.ps,h.z⟩
theorem QE.push {ev:Ev} {BJ:Value} (h:QE NC NS b K0 v0 CR told v K r) (FX:v'.ownsRow v0.heap.size 59 4 BJ (CR.length+1) (Q5 CR++lW ev)) (Iq:v.grownBy v' told.ownBlock) (hat:BJ.ownBlock=told.ownBlock\/BJ.ownBlock=some v.heap.size):QE NC NS b K0 v0 (CR++[ev]) BJ v' K r:=by
 have K3:Ab (fun k=>told.ownBlock=some k) v v':=Gi Iq (fun k hk _=>hk);refine⟨h.ka.keep (K3.on fun k _ e=>h.told.no k e) fun k hk=>h.ka.lt k (Nat.le_trans K3.size hk),h.ok,h.rel,h.mv.own K3 (fun k e=>(h.told.row.lt k e).1),⟨?_,fun g hg=>?_⟩,h.ps,h.z⟩
 ·rw[X0];simpa [Q5]using FX
 ·rcases hat with e|e
  ·exact h.told.no g (by rw[<-e];exact hg)
  ·rw[e]at hg;cases hg;exact h.ka.lt _ (Nat.le_refl _)
theorem oN {w:World} {k:Nat} {ev:Ev} (h:w.heap[k]?=some (.cells #[.int .i64 ev.1,.int .i64 ev.2.1,.int .i64 ev.2.2.1,.int .i64 ev.2.2.2] 59 (0,0))):∀j u,(lW ev)[j]?=some u->w.cell? (((S_ k):Addr).add j)=some u:=by
 intro j u hj;have ea:((S_ k):Addr).add j=(T_ k j):=by rw[Addr.add_lit,Nat.zero_add]
 rw[ea];refine(Ag h j).trans ?_
 match j,hj with
 | 0,hj=>simpa [lW]using hj
 | 1,hj=>simpa [lW]using hj
 | 2,hj=>simpa [lW]using hj
 | 3,hj=>simpa [lW]using hj
def SvK (bg:Bool) (NC NS b:Nat) (K0:KS) (v0:World) (CR:List Ev) (told:Value) (call:Nat) (e:Ending) (w':World):Prop:=∃K' r' res wr fv,e=.returned (.agg #[.int .u16 (res:Nat),.int .u16 (wr:Nat),fv])/\res<65536/\wr<65536/\QE NC NS b K0 v0 CR told w' K' r'/\(r'.en=false->b∈K'.AJ)/\IU K'.T w' K'.kb b fv/\XD bg CR call res wr fv r'
theorem pX {call:Nat} (g:QE NC NS b K0 v0 CR told w K r) (hn:r.en=false) (hm:b∈K.AJ) (hx:XC bg CR call r):CallsIn NF m prog 96 #[R_ K0.kb,R_ b,.int .u16 (call:Nat)] w (SvK bg NC NS b K0 v0 CR told call):=by
 rw[<-g.rel.kb];cases bg with
 | false=>
  refine(um m w K NC NS b call r g.ka g.ok hm g.ps hn).mono ?_
  rintro e w1 ⟨K',x,y,fv,rfl,IK,hy1,hf,h1,hO,hR,M1,r',hr,FW⟩
  exact⟨K',r',x,y,fv,rfl,IK,hy1,g.next h1 hO hR M1 hr,FW,hf,fun h=>by cases h⟩
 | true=>
  obtain⟨rfl,rfl,x1,x2,x3⟩:=hx rfl
  have q5:=g.ka.FH g.ps 5
  have q0:=g.ka.FH g.ps 0
  simp[PR.arr]at q5 q0
  obtain⟨gi,ci,q8,Jw,Zc,him⟩:=g.ka.Uu g.ps hn
  refine(jL m w K.kb b gi r.Ah.length ci r.A r.pid q5 q8 q0 (by omega)).mono ?_
  rintro e w1 ⟨rfl,K1⟩
  exact⟨K,r,r.pid,0,.nilFunc,rfl,by omega,by omega,g.no K1,fun _=>hm,.inl rfl,fun _=>⟨rfl,rfl,x1,rfl,rfl,x1,x2,x3,hn⟩⟩
theorem YD (h:SC bg NC NS b K0 v0 n i told x w):(sU prog).wpIn NF m prog (Ends fun tm w'=>∃f' bA,tm=TN 76 (AR f' (Rc (ptr K0.kb) (S_ b) told q x bA))/\SD bg NC NS b K0 v0 n i told x bA w') ⟨TN 76 (AR f (slX (ptr K0.kb) (S_ b) told q x)),[]⟩ w:=by
 obtain⟨j,CR,K,r,call,rfl,hj,rfl,hc,hl,g,hn,hm,hx⟩:=h;have hsv:=fun m=>pX (m:=m) g hn hm hx
 clear hx;rw[af1];unfold ai3 gA;rw[Ms];dsimp only[Tryz.f56,Option.getD];show Code.wpIn (Fence.list LF none) m prog _ _ ⟨NN f (ptr K0.kb) (R_ b) (f 2) told (pr q) (.int .u16 (call:Nat)) (f 10),[]⟩ _;unfold NN ptr;gi_wp2_with (first|(gi_at_call 96;refine(hsv _).mono ?_;rintro e w1 ⟨K',r',res,wr,fv,rfl,h1,h2,g1,hm1,hf,IK⟩;obtain⟨w8,Ar,K8,b8⟩:=Af (w:=w1.alloc V_) (rb:=w1.heap.size) (x:=res) (y:=wr) (f:=fv) (heap_alloc_new rfl) hf.one)|refine Ae rfl _ _ _ rfl rfl rfl Ar ?_);have K2:Ab No w1 (w1.alloc V_):=(Ab.refl _ _).alloc _;have tr:K'.T w1.heap.size=(0,0):=g1.ka.lt _ (Nat.le_refl _);have g2:=(g1.no K2).box K8 tr g1.mv.keep.size (fun g hg e=>by have:=(g1.told.row.lt g hg).2;omega);exact⟨rfl,rfl,_,w1.heap.size,CU rfl (by simp[Rc,pv,pr]),j,CR,K',r',call,res,wr,fv,rfl,hj,rfl,hc,hl,g2,hm1,⟨b8,tr,h1,h2⟩,(hf.no K2).keep (K8.on (Q:=fun t=>t=(0,0)) fun k _ e=>by rw[show k=w1.heap.size from e];exact tr) (by simp),IK⟩
theorem YC (h:SDn bg NC NS b K0 v0 n i told x bA w) (hn:n<=1000):(sP prog).wpIn NF m prog (Ends fun tm w'=>∃f' BJ,tm=TN 76 (AR f' (fF (ptr K0.kb) (S_ b) BJ q bA))/\SE0 bg NC NS b K0 v0 n i BJ bA w') ⟨TN 76 (AR f (Rc (ptr K0.kb) (S_ b) told q x bA)),[]⟩ w:=by
 obtain⟨j,CR,K,r,call,res,wr,rfl,hj,rfl,hc,hl,g,hm,an,hx⟩:=h;obtain⟨i0,hi,hz0,hz1,hz2⟩:=info_parts oI;have h0:=g.ka.FH g.ps 0;simp[PR.arr]at h0;have c0:w.cell? (S_ bA)=some (.int .u16 res):=by rw[Ag an.blk];rfl
 have c1:w.cell? (T_ bA 1)=some (.int .u16 wr):=by rw[Ag an.blk];rfl
 have c2:w.cell? (T_ bA 2)=some .nilFunc:=by rw[Ag an.blk];rfl
 rw[ae8];unfold ai0 gA;rw[Ms];dsimp only[Tryz.f56,Option.getD];show Code.wpIn (Fence.list LF none) m prog _ _ ⟨NN f (ptr K0.kb) (R_ b) (f 2) told (pr q) (.int .u16 (call:Nat)) (R_ bA),[]⟩ _;unfold NN ptr;gi_wp2_with fail;refine(iD _ w b r.pid call res wr h0 hc an.res an.wr).mono ?_;rintro e w1 ⟨K1,rfl⟩;have K2:Ab No w (w1.alloc (.cells #[.int .i64 r.pid,.int .i64 call,.int .i64 res,.int .i64 wr] 59)):=K1.alloc _;have gb:=g.no K2;have b2:(w1.alloc (.cells #[.int .i64 r.pid,.int .i64 call,.int .i64 res,.int .i64 wr] 59)).heap[w1.heap.size]?=some (.cells #[.int .i64 ((r.pid,call,res,wr):Ev).1,.int .i64 ((r.pid,call,res,wr):Ev).2.1,.int .i64 ((r.pid,call,res,wr):Ev).2.2.1,.int .i64 ((r.pid,call,res,wr):Ev).2.2.2] 59 (0,0)):=heap_alloc_new rfl;gi_wp2_with (gi_at_builtin;refine wpListIn_append_own_at _ rfl (.tmp 49) (.tmp 54) 43 rfl v0.heap.size 59 i0 (.agg #[.int .i64 0,.int .i64 0,.int .i64 0,.int .i64 0]) 4 32 underlying43 hi hz0 hz1 hz2 rfl (by decide) told CR.length (Q5 CR) rfl gb.told.row (S_ w1.heap.size) 1 1 (lW (r.pid,call,res,wr)) rfl rfl (oN b2) (by simp[lW,Value.oneCell']) (by unfold maxLen;omega) (by omega) (by have:=gb.mv.keep.size;omega) ?_;intro v' w3 FX Iq _ hat);have g3:=gb.push FX Iq hat;have K3:Ab (fun k=>told.ownBlock=some k) (w1.alloc (.cells #[.int .i64 r.pid,.int .i64 call,.int .i64 res,.int .i64 wr] 59)) w3:=Gi Iq (fun k hk _=>hk);refine⟨rfl,rfl,_,v',CU rfl (by simp[fF,pv,pr]),j,_,K,r,res,wr,rfl,hj,by simp;omega,g3,hm,⟨K3.old (an.no K2).blk fun h=>?_,an.t,an.res,an.wr⟩,fun hb=>?_⟩
 ·rcases gb.told.row.2 with⟨rfl,_⟩|⟨gg,cap,cur,rfl,_,hg,_⟩
  ·cases h
  ·obtain rfl:gg=bA:=Option.some.inj h;rw[(an.no K2).blk]at hg;cases hg
 ·obtain⟨rfl,rfl,rfl,rfl,_,x1,x2,x3,x4⟩:=hx hb;exact⟨by rw[x1];rfl,rfl,x1,x2,x3,x4⟩
theorem jU (hn:n<=1000) (h:SB bg NC NS b K0 v0 n told w):(sO prog).wpIn NF m prog (Ends fun tm w'=>∃f' BJ,tm=TN 76 (AR f' [(7,BJ)])/\SF bg NC NS b K0 v0 BJ w') ⟨TN 76 (AR f (rV (ptr K0.kb) (S_ b) told q)),[]⟩ w:=by
 obtain⟨CR,K,r,hl,g,BN,hm,rfl⟩:=h;obtain⟨i0,hi,hz0,hz1,hz2⟩:=info_parts oI;have hend:=fun m=>oO m w K NC NS b 65535 r g.ka g.ok hm g.ps BN (by omega)
 rw[g.rel.kb]at hend;rw[ae6];unfold ah8 gA;rw[Ms];dsimp only[Tryz.f56,Option.getD];show Code.wpIn (Fence.list LF none) m prog _ _ ⟨NN f (ptr K0.kb) (R_ b) (f 2) told (pr q) (f 9) (f 10),[]⟩ _;unfold NN ptr;gi_wp2_with fail;refine(hend _).mono ?_;rintro e w1 ⟨rfl,K',h1,hO,hR,M1,r',FW,hen⟩;have g1:=g.next h1 hO hR M1 FW;have h0:=g1.ka.FH g1.ps 0;simp[PR.arr]at h0;gi_wp2_with fail;refine(iD _ w1 b r'.pid 1 65535 0 h0 (by decide) (by decide) (by decide)).mono ?_;rintro e w2 ⟨K1,rfl⟩;have K2:Ab No w1 (w2.alloc (.cells #[.int .i64 r'.pid,.int .i64 (1:Nat),.int .i64 (65535:Nat),.int .i64 (0:Nat)] 59)):=K1.alloc _;have gb:=g1.no K2;have b2:(w2.alloc (.cells #[.int .i64 r'.pid,.int .i64 (1:Nat),.int .i64 (65535:Nat),.int .i64 (0:Nat)] 59)).heap[w2.heap.size]?=some (.cells #[.int .i64 ((r'.pid,1,65535,0):Ev).1,.int .i64 ((r'.pid,1,65535,0):Ev).2.1,.int .i64 ((r'.pid,1,65535,0):Ev).2.2.1,.int .i64 ((r'.pid,1,65535,0):Ev).2.2.2] 59 (0,0)):=heap_alloc_new rfl;gi_wp2_with (gi_at_builtin;refine wpListIn_append_own_at _ rfl (.tmp 67) (.tmp 73) 43 rfl v0.heap.size 59 i0 (.agg #[.int .i64 0,.int .i64 0,.int .i64 0,.int .i64 0]) 4 32 underlying43 hi hz0 hz1 hz2 rfl (by decide) told CR.length (Q5 CR) rfl gb.told.row (S_ w2.heap.size) 1 1 (lW (r'.pid,1,65535,0)) rfl rfl (oN b2) (by simp[lW,Value.oneCell']) (by unfold maxLen;omega) (by omega) (by have:=gb.mv.keep.size;omega) ?_;intro v' w3 FX Iq _ hat);exact⟨rfl,rfl,_,v',CU rfl (by simp),_,K',r',gb.push FX Iq hat,fun h=>by cases h⟩
theorem ru (q1 q3:Nat) (A:Value):commResult (Fh q1 q3) .select 0 A true=.tuple #[.int .i64 0,.bool true,A,.agg #[]]:=by kernel_rfl
theorem Wy {j res wr:Nat} {X:Obj} (hres:res<65536) (hwr:wr<65536) (hl:CR.length<=j+1) (g:QE NC NS b K0 v0 CR told w K r) (hn:r.en=false) (hm:b∈K.AJ) (hx:XE bg CR res r):
  SI bg NC NS b K0 v0 ((j:Int)+1) told (((w.setCell (T_ b 5) (.int .u16 res)).setCell (T_ b 6) (.int .u16 wr)).alloc X).drew:=by
 have h1:=g.ka.like (r':={ r with A:=res }) (i:=5) (v:=.int .u16 (res:Nat)) g.ps ⟨rfl,rfl,rfl,rfl,rfl⟩ rfl (g.ka.ps b r g.ps).bl;have M1:=g.ka.C8 g.ps (i:=5) (v:=.int .u16 (res:Nat));have h2:=h1.like (b:=b) (r:={ r with A:=res }) (r':={ r with A:=res,B:=wr }) (i:=6) (v:=.int .u16 (wr:Nat)) Al ⟨rfl,rfl,rfl,rfl,rfl⟩ rfl (h1.ps b _ Al).bl;have M2:=h1.C8 (b:=b) (r:={ r with A:=res }) Al (i:=6) (v:=.int .u16 (wr:Nat));have o:=g.ok.pr b r g.ps;have F3:=g.ok.like (r':={ r with A:=res,B:=wr }) g.ps rfl rfl rfl rfl rfl rfl ⟨hres,hwr,o.P,o.st,o.pid,o.par,o.Ah,o.fds,o.fd,o.len,o.off⟩;have e2:Cu (Cu K.ps b { r with A:=res }) b { r with A:=res,B:=wr }=Cu K.ps b { r with A:=res,B:=wr }:=by
  funext k
  by_cases e:k=b
  ·subst e;rw[Al,Al]
  ·rw[BI e,BI e,BI e]
 simp only[e2]at h2;have g2:=g.next (K':=K.Cg b { r with A:=res,B:=wr }) h2 F3.1 F3.2 (M1.trans M2) Al;refine⟨j+1,CR,_,_,by omega,hl,g2.no (((Ab.refl No _).alloc X).drew),hn,hm,fun h=>absurd h (by omega),fun _ hb=>?_⟩;obtain⟨x1,x2,x3,x4,x5,x6⟩:=hx hb;exact⟨x1,x2,x4,x5,x3,x6,hm⟩
theorem Ty (q1 q3:Nat) (A:Value) (h:SA bg NC NS b K0 v0 n i told A w):(TV prog).wpIn NF m prog (Rx fun tm w'=>∃g,tm=TN 49 (AR g [(6,.bool true)])/\SI bg NC NS b K0 v0 (i+1) told w') ⟨TN 49 (AR f (slA q1 q3 (OV (S_ b)) A)),[]⟩ w:=by
 obtain⟨j,CR,K,r,res,wr,rfl,hj,hl,g,hn,hm,hres,hwr,rfl,hx⟩:=h;have c5:=(g.ka.no ((Ab.refl No w).alloc (.cells #[.int .u16 res,.int .u16 wr,.nilFunc] 206))).FH g.ps 5;have f5:=(g.ka.no ((Ab.refl No w).alloc (.cells #[.int .u16 res,.int .u16 wr,.nilFunc] 206))).WA g.ps 5;simp[PR.arr]at c5;have hp0:=(g.ka.ps b r g.ps).o;have lp:=Co hp0;have p3:=((Ab.refl No _).alloc (.cells #[.int .u16 res,.int .u16 wr,.nilFunc] 206)).old (Aj (i:=5) hp0 (.int .u16 (res:Nat))) id;have f6':=BF p3 6;have c6':((w.setCell (T_ b 5) (.int .u16 res)).alloc (.cells #[.int .u16 res,.int .u16 wr,.nilFunc] 206)).cell? (T_ b 6)=some (.int .u16 r.B):=bce p3 rfl;have hq:=NB (w.alloc (.cells #[.int .u16 res,.int .u16 wr,.nilFunc] 206));have done:=fun X=>Wy (X:=X) hres hwr hl g hn hm hx
 clear hx p3;rw[wR];unfold yl;rw[vX];dsimp only[Tryz.f187,Option.getD];unfold slA;rw[ru];show Code.wpIn (Fence.list LF none) m prog _ _ ⟨#[f 0,.pointer (some (T_ b 5)),f 2,f 3,f 4,f 5,f 6,f 7,f 8,f 9,f 10,f 11,f 12,f 13,f 14,f 15,f 16,f 17,f 18,f 19,f 20,f 21,f 22,f 23,f 24,f 25,f 26,f 27,f 28,.tuple #[.int .i64 0,.bool true,.agg #[.int .u16 res,.int .u16 wr,.nilFunc],.agg #[]],f 30,f 31,f 32,f 33,f 34,f 35,f 36,f 37,f 38,f 39,f 40,f 41,f 42,f 43,f 44,f 45,f 46,f 47,f 48],[]⟩ _;gi_wp2;gi_region
 all_goals gi_wp2
 all_goals exact⟨rfl,rfl,_,CU rfl (by simp),done _⟩
end
section
variable (bg:Bool) (NC NS b:Nat) (K0:KS) (v0:World) (n m:Nat)
theorem bL {bg:Bool} {NC NS b:Nat} {K0:KS} {v0:World} {n:Nat} {told:Value} {v:World} (h:SBl bg NC NS b K0 v0 n told v):∃cs ty p,v.heap[b]?=some (.cells cs ty (0,0))/\cs[7]?=some (.int .u16 p)/\∀v',iN (S_ b) cs ty p v v'->SF bg NC NS b K0 v0 told v':=by
 obtain⟨CR,K,r,hl,g,hx⟩:=h;refine⟨r.arr,128,r.P,(g.ka.ps b r g.ps).o,rfl,fun v' ⟨h1,h2,h3,h4,h5⟩=>?_⟩;have o:=g.ok.pr b r g.ps;obtain⟨a,ha,e⟩:=RZ ((r.P:Int)-2);have hK:Ab (At b) v v':=⟨h4,h5,h1,fun k hk hn=>h2 k hk hn⟩;have ho:v'.heap[b]?=some ({ r with A:=r.A,B:=r.B,P:=a }:PR).obj:=by
  refine h3.trans ?_
  unfold Qj PR.obj
  rw[e]
  rfl
 obtain⟨A,B,P,Ah,hA,hB,hP,Gl,hix,k1,M1⟩:=Cj.obj g.ka g.ps o o.A o.B ha hK ho;have F3:=g.ok.like (r':={ r with A:=A,B:=B,P:=P,Ah:=Ah }) g.ps rfl rfl rfl rfl Gl rfl (Ok.xW o hA hB hP Gl hix);exact⟨CR,_,_,g.next k1 F3.1 F3.2 M1 Al,fun hb=>by rw[hx]at hb;cases hb⟩
def gG (hbg:bg=true->n=1) (hn:n<=1000):N7 prog NF m (ptr K0.kb) (S_ b) (n:Nat) where
 I:=SI bg NC NS b K0 v0
 Cd:=SC bg NC NS b K0 v0 n
 Bd:=SB bg NC NS b K0 v0 n
 D:=SD bg NC NS b K0 v0 n
 E0:=SE0 bg NC NS b K0 v0 n
 E:=SE bg NC NS b K0 v0 n
 An:=SA bg NC NS b K0 v0 n
 Fin:=SF bg NC NS b K0 v0
 Dn:=SDn bg NC NS b K0 v0 n
 Db:=SDb bg NC NS b K0 v0 n
 Bc:=fun _=>SBc bg NC NS b K0 v0 n
 Bl:=fun _=>SBl bg NC NS b K0 v0 n
 tDn:=fun _ _ _ _ v τ d h=>h.no (BX v τ d)
 tDb:=fun _ _ _ _ v τ d h=>h.no (BX v τ d)
 tBc:=fun _ _ _ v τ d h=>h.no (BX v τ d)
 tBl:=fun _ _ v τ d h=>h.no (BX v τ d)
 tI:=fun _ _ v τ d h=>h.no (BX v τ d)
 tC:=fun _ _ _ v τ d h=>h.no (BX v τ d)
 tB:=fun _ v τ d h=>h.no (BX v τ d)
 tD:=fun _ _ _ _ v τ d h=>h.no (BX v τ d)
 tE0:=fun _ _ _ v τ d h=>h.no (BX v τ d)
 tE:=fun _ _ _ v τ d h=>h.no (BX v τ d)
 tA:=fun _ _ _ v τ d h=>h.no (BX v τ d)
 tF:=fun _ v τ d h=>h.no (BX v τ d)
 step:=fun _ _ _ v _ h _ hi τ d=>bY hbg (h.no (BX v τ d)) hi
 serve:=fun _ _ _ _ v _ h τ d=>YD (h.no (BX v τ d))
 asked:=fun _ _ _ _ _ v _ h τ d=>YH (h.no (BX v τ d))
 tells:=fun _ _ _ _ _ v _ h τ d=>YC (h.no (BX v τ d)) hn
 ended:=fun _ _ _ _ v _ h τ d=>YE (h.no (BX v τ d))
 answer:=fun _ _ _ _ ⟨j,CR,K,r,res,wr,h1,h2,h3,h4,h5,h6,h7,h8⟩=>⟨.int .u16 res,.int .u16 wr,.nilFunc,⟨by rw[Ag h7.blk];rfl,by rw[Ag h7.blk];rfl,by rw[Ag h7.blk];rfl,trivial⟩,j,CR,K,r,res,wr,h1,h2,h3,h4,h5,h6,h7.res,h7.wr,rfl,h8⟩
 grow:=fun _ _ _ _ _ h hg=>h.no (Tm hg)
 Yi:=fun q1 q3 _ _ A v _ h _ _ τ d=>Ty q1 q3 A (h.no (BX v τ d))
 bad:=fun _ _ v _ h τ d=>jU hn (h.no (BX v τ d))
 spent:=fun told v ⟨j,CR,K,r,h1,_,h3,_,_,h6⟩=>⟨CR,K,r,h3,fun hb=>h6.2 (by have:=hbg hb;omega) hb⟩
 blocks:=fun _ _ _ _ _ v _ h τ d=>Wl (h.no (BX v τ d))
 blocked:=fun _ _ _ _ ⟨h,res,wr,fn,ca,cb,hb⟩=>⟨res,wr,fn,ca,cb,⟨by rw[Ag hb];rfl,by rw[Ag hb];rfl,by rw[Ag hb];rfl,trivial⟩,h⟩
 yo:=fun _ _ _ h=>bL h
def ab3 (hbg:bg=true->n=1) (hn:n<=1000):iO (gG bg NC NS b K0 v0 n m hbg hn) where
 B0:=SI bg NC NS b K0 v0 0 Cb
 B2:=SI bg NC NS b K0 v0 0 Cb
 B3:=SI bg NC NS b K0 v0 0 Cb
 t2:=fun v τ d h=>h.no (BX v τ d)
 t3:=fun v τ d h=>h.no (BX v τ d)
 bring:=fun v _ h τ d=>YG (h.no (BX v τ d)) _
 clear:=fun v _ h τ d=>YF (h.no (BX v τ d)) _
 start:=fun _ _ h hg=>h.no (Tm hg)
end
def Goes (Od:Old) (P:Program) (x:Frame×Z_) (v:World) (Q:Frame×Z_->World->Prop):Prop:=
 ∀(Z:Nat->Prop) (Ac:Loc->Prop) (B:Nat) (gs:Array Goroutine) (w:World) (sl:Option (W_)) (t:Trace),EP Ac Z->Beside Od P Ac Z B v gs w t->gs[0]?=some (Bv x)->
  JI P gs w sl t fun AZ w' t'=>∃Z' KO B' y v',EP KO Z'/\Beside Od P KO Z' B' v' AZ w' t'/\AZ[0]?=some (Bv y)/\Q y v'
section
variable {P:Program} {x:Frame×Z_} {v:World} {Q R:Frame×Z_->World->Prop}
theorem Goes.now {Od:Old} (h:Q x v):Goes Od P x v Q:=fun Z Ac B _ _ _ _ hu Bs h0=>.now ⟨Z,Ac,B,x,v,hu,Bs,h0,h⟩
theorem Beside.re {Od:Old} {Ac:Loc->Prop} {Z:Nat->Prop} {B:Nat} {gs:Array Goroutine} {w:World} {t:Trace} (h:Beside Od P Ac Z B v gs w t) (τ:Nat->Question->Nat) (d:Nat):Beside Od P Ac Z B (v.re τ d) gs w t:=
 let ⟨q,T,hZ,h3⟩:=h;⟨q,T.Ot τ w.tape d w.drawn,hZ,h3⟩
theorem Goes.re {Od:Old} {τ:Nat->Question->Nat} {d:Nat} (h:Goes Od P x (v.re τ d) Q):Goes Od P x v Q:=fun Z Ac B gs w sl t hu Bs h0=>h Z Ac B gs w sl t hu (Bs.re τ d) h0
theorem Goes.Av {Od:Old} {n:Nat} (h:Av P n x=some []) (k:Goes Od P (run P n x) v Q):Goes Od P x v Q:=fun Z Ac B _ _ _ _ hu Bs h0=>
 (Bs.OO h0 (Cy h)).then fun AZ w' Cz t' _ ⟨h1,zt,_⟩=>k Z Ac B AZ w' Cz t' hu zt h1
theorem Goes.step {Od:Old} {y:Frame×Z_} (h:Nw P x=some y) (k:Goes Od P y v Q):Goes Od P x v Q:=fun Z Ac B _ _ _ _ hu Bs h0=>
 (Bs.OO (k:=1) h0 ⟨rfl,Bv y,fun w _=>quiet_step h w,rfl⟩).then fun AZ w' Cz t' _ ⟨h1,zt,_⟩=>k Z Ac B AZ w' Cz t' hu zt h1
theorem Goes.reads {Od:Old} {vs:U_} {TK:List Addr} {y:Value} (hr:EW P x vs=some (TK,y)) (hc:Cells v TK vs) (k:Goes Od P (Bj x y) v Q):Goes Od P x v Q:=fun Z Ac B gs w sl t hu Bs h0=>by
 obtain⟨q,T,hZ,hL,hP,hB⟩:=Bs;obtain⟨hcw,hnz⟩:=LJ T hc;have step1:AB P gs w sl t fun AZ w' t'=>AZ[0]?=some (Bv (Bj x y))/\Beside Od P Ac Z B v AZ w' t':=by
  refine go_mute LA h0 rfl hL hP fun d t1 hP1=>⟨_,_,_,SS hr (w:=w.at d) (LJ (T.Ot v.tape w.tape v.drawn d) hc).1,fun AZ q' _ h' hL' Cz=>.now ⟨h',q',T.Ot v.tape w.tape v.drawn d,hZ,hL',hP1.own fun e he=>?_,hB⟩⟩
  simp only[FK,List.mem_toArray,List.mem_map]at he
  obtain⟨a,ha,rfl⟩:=he
  obtain⟨z1,z2⟩:=hnz a ha
  refine⟨fun b hb hsh=>?_,by simp,by simp,?_⟩
  ·obtain rfl:=Option.some.inj hb;exact(z1 (hu.1 _ hsh)).elim
  ·show a.block<B;omega
 exact step1.then fun AZ w' Cz t' _ ⟨h1,zt⟩=>k Z Ac B AZ w' Cz t' hu zt h1
end
section
variable {Dq:FuncId} {kd:CallKind} {tmps:X_} {k:List Item} {ds:List Deferred} {cs:Z_} {c:Code} {v:World} {m:Nat} {Q:World->X_->World->Prop} {R:Frame×Z_->World->Prop}
theorem Goes.part {Od:Old} (hn:(prog.funcs[Dq]?).any (·.norace)=false) (hkd:(kd==CallKind.early)=false) (hc:c.A9 (BS prog)=true) (hw:∀v1,Ab No v v1->c.wpIn NF m prog (Ends (Q v1)) ⟨tmps,[]⟩ v1)
  (hk:∀v1 tm v',Ab No v v1->Q v1 tm v'->Goes Od prog (Frame.mk Dq tm k ds .run kd none,cs) v' R):Goes Od prog (Frame.mk Dq tmps (.code c::k) ds .run kd none,cs) v R:=fun Z Ac B gs w sl t hu Bs h0=>by
 refine(Jk LG hu Pj.Mq (Gt hn QH) hkd hc (Q:=Ends fun tm w'=>∃τ d,Q (v.re τ d) tm w') VS (fun τ d=>wpIn_mono (hw _ (BX v τ d)) fun e a w' h=>⟨h.1,h.2.1,τ,d,h.2.2⟩) Bs h0).then fun AZ w' Cz t' _ ⟨g,v',B',h1,⟨tm,τ,d,hb⟩,_,_,h2⟩=>?_
 rcases hb with⟨rfl,_,_,τ1,d1,hq⟩|⟨_,_,he,_⟩
 ·exact(hk _ tm _ (BX v τ1 d1) hq).re Z Ac B' AZ w' Cz t' hu h2 h1
 ·cases he
theorem Goes.mg {Od:Old} (hn:(prog.funcs[Dq]?).any (·.norace)=false) (hkd:(kd==CallKind.early)=false) (hc:c.A9 (BS prog)=true) (hw:∀v1,Ab No v v1->c.wpIn NF m prog (Rx (Q v1)) ⟨tmps,[]⟩ v1)
  (hk:∀v1 tm todo v',Ab No v v1->Q v1 tm v'->Goes Od prog (Frame.mk Dq tm todo ds .returning kd none,cs) v' R):Goes Od prog (Frame.mk Dq tmps (.code c::k) ds .run kd none,cs) v R:=fun Z Ac B gs w sl t hu Bs h0=>by
 refine(Jk LG hu Pj.Mq (Gt hn QH) hkd hc (Q:=Rx fun tm w'=>∃τ d,Q (v.re τ d) tm w') gY (fun τ d=>wpIn_mono (hw _ (BX v τ d)) fun e a w' h=>⟨h.1,h.2.1,τ,d,h.2.2⟩) Bs h0).then fun AZ w' Cz t' _ ⟨g,v',B',h1,⟨tm,τ,d,hb⟩,_,_,h2⟩=>?_
 rcases hb with⟨_,he,_⟩|⟨todo,rfl,_,_,τ1,d1,hq⟩
 ·cases he
 ·exact(hk _ tm todo _ (BX v τ1 d1) hq).re Z Ac B' AZ w' Cz t' hu h2 h1
theorem Goes.either {Od:Old} {Q':World->X_->World->Prop} (hn:(prog.funcs[Dq]?).any (·.norace)=false) (hkd:(kd==CallKind.early)=false) (hc:c.A9 (BS prog)=true) (hw:∀v1,Ab No v v1->c.wpIn NF m prog (fun e a w'=>a.defers=[]/\((e=.normal/\Q v1 a.tmps w')\/(e=.ret/\Q' v1 a.tmps w'))) ⟨tmps,[]⟩ v1)
  (hk:∀v1 tm v',Ab No v v1->Q v1 tm v'->Goes Od prog (Frame.mk Dq tm k ds .run kd none,cs) v' R) (hk':∀v1 tm todo v',Ab No v v1->Q' v1 tm v'->Goes Od prog (Frame.mk Dq tm todo ds .returning kd none,cs) v' R):Goes Od prog (Frame.mk Dq tmps (.code c::k) ds .run kd none,cs) v R:=fun Z Ac B gs w sl t hu Bs h0=>by
 refine(Jk LG hu Pj.Mq (Gt hn QH) hkd hc (Q:=fun e a w'=>a.defers=[]/\((e=.normal/\∃τ d,Q (v.re τ d) a.tmps w')\/(e=.ret/\∃τ d,Q' (v.re τ d) a.tmps w'))) (fun _ _ _ h=>⟨h.2.imp (·.1) (·.1),h.1⟩) (fun τ d=>wpIn_mono (hw _ (BX v τ d)) fun e a w' h=>⟨h.1,h.2.imp (fun h=>⟨h.1,τ,d,h.2⟩) (fun h=>⟨h.1,τ,d,h.2⟩)⟩) Bs h0).then fun AZ w' Cz t' _ ⟨g,v',B',h1,⟨tm,τ,d,hb⟩,_,_,h2⟩=>?_
 rcases hb with⟨rfl,_,hq⟩|⟨todo,rfl,_,hq⟩
 ·rcases hq with⟨_,τ1,d1,hq⟩|⟨e,_⟩
  ·exact(hk _ tm _ (BX v τ1 d1) hq).re Z Ac B' AZ w' Cz t' hu h2 h1
  ·cases e
 ·rcases hq with⟨e,_⟩|⟨_,τ1,d1,hq⟩
  ·cases e
  ·exact(hk' _ tm todo _ (BX v τ1 d1) hq).re Z Ac B' AZ w' Cz t' hu h2 h1
theorem Goes.seq {Od:Old} {a b:Code} (h:Goes Od prog (Frame.mk Dq tmps (.code a::.code b::k) ds .run kd none,cs) v R):Goes Od prog (Frame.mk Dq tmps (.code (a.seq b)::k) ds .run kd none,cs) v R:=Goes.step rfl h
end
theorem kG {Od:Old} {bg:Bool} {NC NS b:Nat} {K:KS} {r:PR} {v:World} {n:Nat} {c0:Frame} {cs:Z_} {R:Frame×Z_->World->Prop} (hbg:bg=true->n=1) (hn:n<=1000) (ka:AQ K v) (ok:DZ NC NS K) (hb:K.ps b=some r) (hen:r.en=false) (hm:b∈K.AJ) (hx:bg=true->r.pid=1/\r.P=0/\r.Ah=[11,12,0,0,0,0,0,0])
  (hk:∀told v',SF bg NC NS b K v told v'->Goes Od prog (c0.finish told,cs) v' R):Goes Od prog (z0 prog (ptr K.kb) (S_ b) (n:Nat) (c0::cs)) v R:=fun Z Ac B gs w sl t hu Bs h0=>by
 have h:SI bg NC NS b K v 0 Cb v:=⟨0,[],K,r,rfl,by simp,⟨ka,ok,Rel.refl b K,Bw.no (Ab.refl _ _) ka.lt,⟨World.ownsRow_nil _ _ _ _,fun g h=>by cases h⟩,hb,⟨by rw[hb];simp,ok.th⟩⟩,hen,hm,fun _ h=>⟨rfl,hx h⟩,fun h=>absurd h (by omega)⟩;refine(YU lq Pj (ky 0) (bM 0) (by omega) (by omega) (gG bg NC NS b K v n 0 hbg hn) (ab3 bg NC NS b K v n 0 hbg hn) hu h Bs h0).bind fun AZ w' Cz t' ⟨Z',KO,_,hu',told,v',B',hf,h1,Bs'⟩=>?_
 exact hk told v' hf Z' KO B' AZ w' Cz t' hu' Bs' h1
theorem jk:(prog.funcs[19]?).any (·.norace)=false:=by kernel_rfl
theorem Qi:Ff prog 19=Tryz.f19.body.getD .skip:=by kernel_rfl
def TI (P:Program) (i:Nat):Code:=piece (behind i (Ff P 19))
def pkX (P:Program):Code:=behind 2 (Ff P 19)
def pkZ (P:Program):Code:=behind 5 (Ff P 19)
theorem qp:(TI prog 1).A9 (BS prog)=true:=by kernel_rfl
theorem XJ:(TI prog 2).A9 (BS prog)=true:=by kernel_rfl
theorem XH:(TI prog 3).A9 (BS prog)=true:=by kernel_rfl
theorem qo:(TI prog 4).A9 (BS prog)=true:=by kernel_rfl
theorem uK:pkX prog=(TI prog 2).seq ((TI prog 3).seq ((TI prog 4).seq (pkZ prog))):=by kernel_rfl
section
variable (kp pid n:Value) (cs:Z_)
def pA (P:Program:=prog):Frame×Z_:=run P 6 (Frame.enter P 19 #[kp,pid,n] .normal,cs)
theorem ax2:Av prog 6 (Frame.enter prog 19 #[kp,pid,n] .normal,cs)=some []:=by kernel_rfl
theorem ax1:Ch (pA kp pid n cs)=(19,[.code (TI prog 1),.code (pkX prog)],[],.run,.normal,none,cs):=by kernel_rfl
theorem ax0:slotsOf (pA kp pid n cs) [0,1,2]=[kp,pid,n]:=by kernel_rfl
theorem aw9:(pA kp pid n cs).1.tmps.size=27:=by kernel_rfl
variable (pa:Addr) (f:Y_) (told:Value) (c0:Frame)
def pB (P:Program:=prog):Frame×Z_:=(Frame.mk 19 (TN 27 (AR f [(0,kp),(2,n),(8,pv pa)])) [.code (pkZ P)] [] .run .normal none,cs)
def pC (P:Program:=prog):Frame:=(below (run P 6 (pB kp n cs pa f P))).1
theorem aw8:Av prog 6 (pB kp n cs pa f)=some []:=by kernel_rfl
theorem aw7:run prog 6 (pB kp n cs pa f)=(Frame.enter prog 56 #[kp,pv pa,n] .normal,pC kp n cs pa f::cs):=by kernel_rfl
theorem aw6:Av prog 5 ((pC kp n (c0::cs) pa f).finish told,c0::cs)=some []:=by kernel_rfl
theorem aw5:run prog 5 ((pC kp n (c0::cs) pa f).finish told,c0::cs)=(c0.finish (.tuple #[told,.int .i64 0]),cs):=by kernel_rfl
theorem zz (e:Int) (todo:List Item):Av prog 1 (Frame.mk 19 (TN 27 (AR f [(6,told),(7,.int .i64 e)])) todo [] .returning .normal none,c0::cs)=some []:=by kernel_rfl
theorem zy (e:Int) (todo:List Item):run prog 1 (Frame.mk 19 (TN 27 (AR f [(6,told),(7,.int .i64 e)])) todo [] .returning .normal none,c0::cs)=(c0.finish (.tuple #[told,.int .i64 e]),cs):=by kernel_rfl
end
theorem am5 (kp pid n:Value) (cs:Z_):pA kp pid n cs=(Frame.mk 19 (TN 27 (AR (slot (pA kp pid n cs)) [(0,kp),(1,pid),(2,n)])) [.code (TI prog 1),.code (pkX prog)] [] .run .normal none,cs):=
 at_toldM (l:=[(0,kp),(1,pid),(2,n)]) (ax1 kp pid n cs) (ax0 kp pid n cs) (aw9 kp pid n cs)
def tX (w:World) (tm:X_) (w':World):Prop:=(∃g e,tm=TN 27 (AR g [(6,.slice none 0 0),(7,.int .i64 e)]))/\Ab No w w'
def mX (kp n p:Value) (w:World) (tm:X_) (w':World):Prop:=(∃g,tm=TN 27 (AR g [(0,kp),(2,n),(8,p)]))/\Ab No w w'
def Q0 (f:Y_) (a b c d:Value):X_:=#[a,b,c,f 3,f 4,f 5,f 6,f 7,d,f 9,f 10,f 11,f 12,f 13,f 14,f 15,f 16,f 17,f 18,f 19,f 20,f 21,f 22,f 23,f 24,f 25,f 26]
section
variable (m:Nat) (w:World) (f:Y_)
theorem Yu (pb:Nat) (h2:w.cell? (T_ pb 2)=some (.bool false)) (h4:w.cell? (T_ pb 4)=some .nilFunc):
  CallsIn NF m prog 55 #[R_ pb] w fun e w'=>e=.returned (.int .i64 0)/\w'=w:=by
 have hq:=NB w;gi_enter func55,ntmps55;gi_wp2;refine⟨(fun f h=>by cases h),?_⟩;gi_wp2;go_ret;exact⟨by simp,rfl⟩
def wX (K:KS) (pid:Int) (n:Value) (w:World) (tm:X_) (w':World):Prop:=∃v,iQ K pid v/\mX (ptr K.kb) n v w tm w'
theorem jW (K:KS) (pid:Int) (n:Value) (h:AQ K w) (hT:K.DF) (hl:K.AJ.length<=12):(TI prog 1).wpIn NF m prog (Ends (wX K pid n w)) ⟨TN 27 (AR f [(0,ptr K.kb),(1,.int .i64 pid),(2,n)]),[]⟩ w:=by
 unfold TI;rw[Qi];dsimp only[Tryz.f19,Option.getD,behind,piece];show Code.wpIn (Fence.list LF none) m prog _ _ ⟨Q0 f (ptr K.kb) (.int .i64 pid) n (f 8),[]⟩ _;unfold Q0 ptr;gi_wp2_with fail;refine(Vw _ w K pid h hT (by omega)).mono ?_;rintro e w2 ⟨hK,v,rfl,hF⟩;gi_wp2;exact⟨rfl,rfl,v,hF,⟨_,CU rfl (by simp[ptr])⟩,hK⟩
theorem qx (kp n:Value):(TI prog 2).wpIn NF m prog (Rx (tX w)) ⟨TN 27 (AR f [(0,kp),(2,n),(8,.pointer none)]),[]⟩ w:=by
 unfold TI;rw[Qi];dsimp only[Tryz.f19,Option.getD,behind,piece];show Code.wpIn (Fence.list LF none) m prog _ _ ⟨Q0 f kp (f 1) n (.pointer none),[]⟩ _;unfold Q0;gi_wp2;exact⟨rfl,rfl,⟨_,2,CU rfl (by simp)⟩,Ab.refl _ _⟩
theorem uN (kp n:Value) (pa:Addr):(TI prog 2).wpIn NF m prog (Ends (mX kp n (.pointer (some pa)) w)) ⟨TN 27 (AR f [(0,kp),(2,n),(8,.pointer (some pa))]),[]⟩ w:=by
 unfold TI;rw[Qi];dsimp only[Tryz.f19,Option.getD,behind,piece];show Code.wpIn (Fence.list LF none) m prog _ _ ⟨Q0 f kp (f 1) n (.pointer (some pa)),[]⟩ _;unfold Q0;gi_wp2;exact⟨rfl,rfl,⟨_,CU rfl (by simp)⟩,Ab.refl _ _⟩
theorem qw (kp p:Value) (n:Int) (hn:¬(1<=n/\n<=1000)):(TI prog 3).wpIn NF m prog (Rx (tX w)) ⟨TN 27 (AR f [(0,kp),(2,.int .i64 n),(8,p)]),[]⟩ w:=by
 unfold TI;rw[Qi];dsimp only[Tryz.f19,Option.getD,behind,piece];show Code.wpIn (Fence.list LF none) m prog _ _ ⟨Q0 f kp (f 1) (.int .i64 n) p,[]⟩ _;unfold Q0;by_cases h1:n<1
 ·clear hn;gi_wp2;exact⟨rfl,rfl,⟨_,4,CU rfl (by simp)⟩,Ab.refl _ _⟩
 ·have h2:1000<n:=by omega
  clear hn;gi_wp2;exact⟨rfl,rfl,⟨_,4,CU rfl (by simp)⟩,Ab.refl _ _⟩
theorem uM (kp p:Value) (n:Int) (h1:¬n<1) (h2:¬1000<n):(TI prog 3).wpIn NF m prog (Ends (mX kp (.int .i64 n) p w)) ⟨TN 27 (AR f [(0,kp),(2,.int .i64 n),(8,p)]),[]⟩ w:=by
 unfold TI;rw[Qi];dsimp only[Tryz.f19,Option.getD,behind,piece];show Code.wpIn (Fence.list LF none) m prog _ _ ⟨Q0 f kp (f 1) (.int .i64 n) p,[]⟩ _;unfold Q0;gi_wp2;exact⟨rfl,rfl,⟨_,CU rfl (by simp)⟩,Ab.refl _ _⟩
def be7 (bg:Bool) (kp n:Value) (b:Nat) (r:PR) (w:World) (e:Exit) (a:Act) (w':World):Prop:=a.defers=[]/\((e=.normal/\r.en=false/\mX kp n (ptr b) w a.tmps w')\/(e=.ret/\bg=false/\tX w a.tmps w'))
theorem uL (bg:Bool) (kp n:Value) (K:KS) (b:Nat) (r:PR) (h:AQ K w) (hT:K.DF) (hl:K.AJ.length<=12) (hb:K.ps b=some r) (hx:bg=true->r.en=false/\r.bl=.nilFunc):(TI prog 4).wpIn NF m prog (be7 bg kp n b r w) ⟨TN 27 (AR f [(0,kp),(2,n),(8,ptr b)]),[]⟩ w:=by
 unfold TI;rw[Qi];dsimp only[Tryz.f19,Option.getD,behind,piece];show Code.wpIn (Fence.list LF none) m prog _ _ ⟨Q0 f kp (f 1) n (ptr b),[]⟩ _;unfold Q0 ptr;cases bg with
 | true=>
  obtain⟨x1,x2⟩:=hx rfl
  have c2:=h.FH hb 2
  have c4:=h.FH hb 4
  simp[PR.arr]at c2 c4
  rw[x1]at c2
  rw[x2]at c4
  have hs:=fun m=>Yu m w b c2 c4
  clear hx x2 c2 c4
  gi_wp2_with fail
  refine(hs _).mono ?_
  rintro e w2 ⟨rfl,hw⟩
  have hw:=hw.symm
  subst hw
  gi_wp2
  exact⟨rfl,.inl ⟨rfl,x1,⟨_,CU rfl (by simp[ptr])⟩,Ab.refl _ _⟩⟩
 | false=>
  have hs:=fun m=>gH m w K b r h hT hb (by omega)
  clear hx
  gi_wp2_with fail
  refine(hs _).mono ?_
  rintro e w2 ⟨hK,s,rfl,hS⟩
  by_cases h0:s=0
  ·subst h0;have hen:r.en=false:=by
    cases he:r.en with
    | false=>rfl
    | true=>have:=hS.1 he;omega
   clear hS;gi_wp2;exact⟨rfl,.inl ⟨rfl,hen,⟨_,CU rfl (by simp[ptr])⟩,hK⟩⟩
  ·have h0':(s==0)=false:=(by simpa using h0);gi_wp2;exact⟨rfl,.inr ⟨rfl,rfl,⟨_,3,CU rfl (by simp)⟩,hK⟩⟩
end
def Beg (K:KS) (pid n:Int):Prop:=pid=1/\n=1/\∃b r,K.AJ=[b]/\K.ps b=some r/\r.pid=1/\r.P=0/\r.Ah=[11,12,0,0,0,0,0,0]/\r.en=false/\r.bl=.nilFunc
structure pq (bg:Bool) (NC NS:Nat) (K:KS) (pid:Int) (v:World) (told:Value) (e:Int) (v':World) (K':KS):Prop where
 ka:AQ K' v'
 ok:DZ NC NS K'
 mv:Bw K.T K'.T v v'
 rel:K'=K\/∃b r,b∈K.AJ/\K.ps b=some r/\(r.pid:Int)=pid/\Rel b K K'
 bg:bg=true->e=0/\v'.ownsRow 0 59 4 told 1 (Q5 [(1,12,1,0)])/\∃b r,b∈K'.AJ/\K'.ps b=some r/\r.A=1/\r.P=2/\r.Ah.length=8/\r.pid=1/\r.en=false
section
variable {v:World} {c0:Frame} {cs:Z_} {R:Frame×Z_->World->Prop}
theorem Qq {Od:Old} {bg:Bool} {NC NS:Nat} {K:KS} {pid n:Int} (ka:AQ K v) (ok:DZ NC NS K) (hbg:bg=true->Beg K pid n)
  (hk:∀told e v' K',pq bg NC NS K pid v told e v' K'->Goes Od prog (c0.finish (.tuple #[told,.int .i64 e]),cs) v' R):
  Goes Od prog (Frame.enter prog 19 #[ptr K.kb,.int .i64 pid,.int .i64 n] .normal,c0::cs) v R:=by
 have none_:∀{e:Int} {v':World},bg=false->Ab No v v'->Goes Od prog (c0.finish (.tuple #[.slice none 0 0,.int .i64 e]),cs) v' R:=fun {e v'} hb hK=>hk _ e v' K ⟨ka.no hK,ok,Bw.no hK ka.lt,.inl rfl,fun h=>by rw[hb]at h;cases h⟩
 refine Goes.Av (ax2 _ _ _ _) ?_;rw[show run prog 6 (Frame.enter prog 19 #[ptr K.kb,.int .i64 pid,.int .i64 n] .normal,c0::cs)=pA (ptr K.kb) (.int .i64 pid) (.int .i64 n) (c0::cs)from rfl,am5];refine Goes.part (m:=0) jk rfl qp (fun v1 K1=>jW 0 v1 _ K pid (.int .i64 n) (ka.no K1) ok.th ok.len) fun v1 tm v2 K1 ⟨p,hF,⟨g,e⟩,K2⟩=>?_
 subst e;have k2:=K1.then K2;rw[uK];rcases hF with⟨b,r,rfl,hm,hb,NQ⟩|⟨rfl,hno⟩
 ·refine Goes.seq (Goes.part (m:=0) jk rfl XJ (fun v1 _=>uN 0 v1 _ _ _ _) fun v3 tm v4 K3 ⟨⟨g4,e⟩,K4⟩=>?_);subst e;have k4:=k2.then (K3.then K4);by_cases hn:1<=n/\n<=1000
  ·refine Goes.seq (Goes.part (m:=0) jk rfl XH (fun v1 _=>uM 0 v1 _ _ _ n (by omega) (by omega)) fun v5 tm v6 K5 ⟨⟨g6,e⟩,K6⟩=>?_);subst e;have k6:=k4.then (K5.then K6);have hx:bg=true->r.pid=1/\r.P=0/\r.Ah=[11,12,0,0,0,0,0,0]/\r.en=false/\r.bl=.nilFunc:=fun h=>by
    obtain⟨_,_,b',r',h1,h2,h3⟩:=hbg h
    rw[h1]at hm
    obtain rfl:b=b':=by simpa using hm
    rw[hb]at h2
    cases h2
    exact h3
   refine Goes.seq (Goes.either (m:=0) (Q:=fun v1 tm w'=>r.en=false/\mX (ptr K.kb) (.int .i64 n) (ptr b) v1 tm w') (Q':=fun v1 tm w'=>bg=false/\tX v1 tm w') jk rfl qo (fun v1 K7=>uL 0 v1 _ bg _ _ K b r (ka.no (k6.then K7)) ok.th ok.len hb fun h=>(hx h).2.2.2) (fun v7 tm v8 K7 ⟨hen,⟨g8,e⟩,K8⟩=>?_) fun v7 tm todo v8 K7 ⟨hb0,⟨g8,e8,e⟩,K8⟩=>?_)
   ·subst e;have k8:=k6.then (K7.then K8);obtain⟨N,rfl⟩:∃N:Nat,n=N:=⟨n.toNat,by omega⟩;refine Goes.Av (x:=pB (ptr K.kb) (.int .i64 (N:Nat)) (c0::cs) (S_ b) g8) (aw8 _ _ _ _ _) ?_;rw[aw7];refine kG (bg:=bg) (NC:=NC) (NS:=NS) (fun h=>by have:=(hbg h).2.1;omega) (by omega) (ka.no k8) ok hb hen hm (fun h=>⟨(hx h).1,(hx h).2.1,(hx h).2.2.1⟩) fun told v' ⟨CR,K',r',gk,hf⟩=>?_
    refine Goes.Av (aw6 _ _ _ _ _ _ _) ?_;rw[aw5];refine hk told 0 v' K' ⟨gk.ka,gk.ok,(Bw.no k8 ka.lt).trans gk.mv,.inr ⟨b,r,hm,hb,NQ,gk.rel⟩,fun h=>?_⟩;obtain⟨rfl,x2,x3,x4,x5,x6,x7⟩:=hf h;exact⟨rfl,Qr gk.told.row (Nat.zero_le _),b,r',x7,gk.ps,x2,x3,x4,x5,x6⟩
   ·subst e;refine Goes.Av (zz _ _ _ _ _ _) ?_;rw[zy];exact none_ hb0 (k6.then (K7.then K8))
  ·refine Goes.seq (Goes.mg (m:=0) jk rfl XH (fun v1 _=>qw 0 v1 _ _ _ n hn) fun v5 tm todo v6 K5 ⟨⟨g6,e6,e⟩,K6⟩=>?_);subst e;refine Goes.Av (zz _ _ _ _ _ _) ?_;rw[zy];refine none_ ?_ (k4.then (K5.then K6));cases bg
   ·rfl
   ·have:=(hbg rfl).2.1;omega
 ·refine Goes.seq (Goes.mg (m:=0) jk rfl XJ (fun v1 _=>qx 0 v1 _ _ _) fun v3 tm todo v4 K3 ⟨⟨g4,e4,e⟩,K4⟩=>?_);subst e;refine Goes.Av (zz _ _ _ _ _ _) ?_;rw[zy];refine none_ ?_ (k2.then (K3.then K4));cases bg
  ·rfl
  ·obtain⟨h1,_,b,r,h2,h3,h4,_⟩:=hbg rfl;have:=hno b (by rw[h2];simp) r h3;omega
end
end Go.Fxa
