/- A call is served -/
import Derived.Test.YtmhplpfpcnjekaaGreatA26
import Derived.Test.YtmhplpfpcnjekaaGreatA28
import Derived.Test.YtmhplpfpcnjekaaGreatA29
namespace Go.Fxa
open Conc Proofs RowKit Proofs.Tryz
set_option maxRecDepth 1000000
set_option maxHeartbeats 0
variable {a n b x y i st j fd:Nat}{l:List Int}{T T' T1:Tag}{w w':o_}{K K':KS}{R:Nat->Nat->Prop}{o o':d_ Nat}{v v':n_}{α:Type}{d d':Nat->Nat}
section
variable (m:Nat)(w:o_)
theorem G7 (call n:Nat)(h:(call,n)∈[(1,1),(2,0),(3,1),(4,1),(5,1),(6,3),(7,3),(8,1),(9,1),(10,2),(11,1),(12,0),(13,1),(14,2)]):O_ m 139 #[a_ (call:Nat)] w λe w'=>e=.returned (b_ n)/\w'=w:=by
 simp only[r_,lQ,lG,or_false]at h;obtain⟨rfl,rfl⟩|⟨rfl,rfl⟩|⟨rfl,rfl⟩|⟨rfl,rfl⟩|⟨rfl,rfl⟩|⟨rfl,rfl⟩|⟨rfl,rfl⟩|⟨rfl,rfl⟩|⟨rfl,rfl⟩|⟨rfl,rfl⟩|⟨rfl,rfl⟩|⟨rfl,rfl⟩|⟨rfl,rfl⟩|⟨rfl,rfl⟩:=h
 all_goals
  gi_enter func139,ntmps139
  gi_wp2
  go_ret
  exact⟨sJ,rfl⟩
theorem rD (call:Nat)(h:vK call):O_ m 139 #[a_ (call:Nat)] w λe w'=>e=.returned (b_ 0)/\w'=w:=by
 obtain⟨g,i,j,k,l,n,o,p,q,a,b,c,d,f⟩:=h;gi_enter func139,ntmps139;gi_wp2;go_ret;exact⟨sJ,rfl⟩
theorem bb4 (K:KS)(NC NS b call:Nat)(r:PR)(h:AY K w)(p:DU NC NS K)(q:b∈K.Ar)(hb:K.ps b=some r)(s:r.en=false):
  O_ m 96 #[Q_ K.kb,Q_ b,a_ (call:Nat)] w (FX (UM K b r call) NC NS b K w):=by
 by_cases e1:call=1
 .subst e1;exact Ot m w K NC NS b 1 r h p q hb s (λm w=>G7 m w 1 1 sJ) sJ
 by_cases e2:call=2
 .subst e2;exact jr m w K NC NS b 2 r h p q hb s (λm w=>G7 m w 2 0 sJ) sJ
 by_cases e3:call=3
 .subst e3;exact Ot m w K NC NS b 3 r h p q hb s (λm w=>G7 m w 3 1 sJ) sJ
 by_cases e4:call=4
 .subst e4;exact Ot m w K NC NS b 4 r h p q hb s (λm w=>G7 m w 4 1 sJ) sJ
 by_cases g:call=5
 .subst g;exact Ot m w K NC NS b 5 r h p q hb s (λm w=>G7 m w 5 1 sJ) sJ
 by_cases i:call=6
 .subst i;exact zI m w K NC NS b 6 r h p q hb s (λm w=>G7 m w 6 3 sJ) sJ
 by_cases j:call=7
 .subst j;exact zI m w K NC NS b 7 r h p q hb s (λm w=>G7 m w 7 3 sJ) sJ
 by_cases k:call=8
 .subst k;exact Ot m w K NC NS b 8 r h p q hb s (λm w=>G7 m w 8 1 sJ) sJ
 by_cases l:call=9
 .subst l;exact Ot m w K NC NS b 9 r h p q hb s (λm w=>G7 m w 9 1 sJ) sJ
 by_cases a:call=10
 .subst a;exact zJ m w K NC NS b 10 r h p q hb s (λm w=>G7 m w 10 2 sJ) sJ
 by_cases c:call=11
 .subst c;exact Ot m w K NC NS b 11 r h p q hb s (λm w=>G7 m w 11 1 sJ) sJ
 by_cases d:call=12
 .subst d;exact jr m w K NC NS b 12 r h p q hb s (λm w=>G7 m w 12 0 sJ) sJ
 by_cases e:call=13
 .subst e;exact Ot m w K NC NS b 13 r h p q hb s (λm w=>G7 m w 13 1 sJ) sJ
 by_cases f:call=14
 .subst f;exact zJ m w K NC NS b 14 r h p q hb s (λm w=>G7 m w 14 2 sJ) sJ
 exact jr m w K NC NS b call r h p q hb s (λm w=>rD m w call ⟨wB,wB,wB,wB,wB,wB,wB,wB,wB,wB,wB,wB,wB,wB⟩) (.inr (.inr ⟨wB,wB,wB,wB,wB,wB,wB,wB,wB,wB,wB,wB,wB,wB⟩))
end
theorem Dh (v:o_)(τ:Nat->Question->Nat)(d:Nat):Aa No v (v.re τ d):=⟨rfl,rfl,w_,λ_ _ _=>rfl⟩
theorem ZR {v v':o_}(h:IG v v'):Aa No v v':=⟨h.2.2.1,h.2.2.2,h.1,λk a _=>h.2.1 k a⟩
theorem BH {a:X_}{l:List (Nat×n_)}(c:a.size=n)(h:∀p∈l,a.getD p.1 undef=p.2):a=TN n (AQ (λi=>a.getD i undef) l):=by
 rw[NL h];exact YK c
theorem aj0 {a:X_}{l c:List (Nat×n_)}(g:a.size=n)(h:∀p∈l,a.getD p.1 undef=p.2)(f:∀p∈c,a.getD p.1 undef=p.2):a=TN n (AQ (AQ (λi=>a.getD i undef) l) c):=by
 have e:AQ (λi=>a.getD i undef) l=λi=>a.getD i undef:=NL h
 rw[e,NL f];exact YK g
abbrev Ev:=Nat×Nat×Nat×Nat
def iC (x:Ev):U_:=[b_ x.1,b_ x.2.1,b_ x.2.2.1,b_ x.2.2.2]
def SS:List Ev->U_
 |[]=>[]
 |x::l=>iC x++SS l
theorem oC:∀l c,SS (l++c)=SS l++SS c
 |[],_=>rfl
 |x::l,c=>by simp only[List.cons_append,SS,oC l c,List.append_assoc]
structure WQ (base:Nat)(T:Tag)(told:n_)(w:o_)(CU:List Ev):Prop where
 row:w.ownsRow base 59 4 told CU.length (SS CU)
 no:∀g,told.ownBlock=some g->T g=(0,0)
theorem WQ.Xu {base:Nat}{told:n_}{CU:List Ev}(h:WQ base T told w CU)(M:BQ T T' w w'):WQ base T' told w' CU:=by
 refine⟨?_,λg f=>(CG.fresh M g (h.row.lt g f).2).trans (h.no g f)⟩;obtain⟨⟨i,e⟩,j⟩:=h;refine⟨i,?_⟩;obtain e|⟨g,cap,a,rfl,b,c,d⟩:=e
 .exact .inl e
 .exact .inr ⟨g,cap,a,rfl,b,M.old c (j g rfl),d⟩
theorem DU.GR {NC NS:Nat}{r r':PR}(h:DU NC NS K)(hb:K.ps b=some r)(s:r'.pid=r.pid)(_:r'.en=r.en)(g:r'.co=r.co)(f:r'.sw=r.sw)(hi:r'.Af.length=r.Af.length)(m:r'.fds=r.fds)(p:r'.Ok):DU NC NS (K.Bj b r')/\Rel b K (K.Bj b r'):=by
 have hE:JV b K.ps (CY K.ps b r'):=JV.set;refine h.step (b:=b) (r:=r) (r':=r') rfl rfl rfl hE hb Ag p s (h.co.same rfl (λi=>BU λk _=>?_) λk q a=>?_) (h.sw.same rfl (λi=>BU λk _=>?_) λk q a=>?_) ?_
 .show Gf i (CY K.ps b r') k=_;by_cases e:k=b
  .subst e;rw[Es Ag,Es hb,g,hi]
  .unfold Gf;rw[BB e]
 .have a:CY K.ps b _ k=some q:=a;by_cases e:k=b
  .subst e;rw[Ag]at a;cases a;rw[hi,g];exact h.co.pl _ r hb
  .rw[BB e]at a;exact h.co.pl k q a
 .show Nw i (CY K.ps b r') k=_;by_cases e:k=b
  .subst e;rw[Jh Ag,Jh hb,hi,f]
  .unfold Nw;rw[BB e]
 .have a:CY K.ps b _ k=some q:=a;by_cases e:k=b
  .subst e;rw[Ag]at a;cases a;rw[hi,f];exact h.sw.pl _ r hb
  .rw[BB e]at a;exact h.sw.pl k q a
 .have c:EP (BR K.ps K.Ar) (K.Bj b r'):=⟨h.Ei.ho,h.Ei.le,h.Ei.op,h.Ei.nd,h.Ei.nz,h.Ei.nm,h.Ei.dj⟩;refine c.congr λi _=>?_
  show BP (Jr (CY K.ps b r') i) K.Ar=BP (Jr K.ps i) K.Ar;refine BU λk _=>?_
  by_cases e:k=b
  .subst e;rw[Ht Ag,Ht hb,m]
  .unfold Jr;rw[BB e]
def Om (T T':Tag):Prop:=∀k,T k≠(0,0)->T' k=T k
theorem BQ.ext (h:BQ T T' w w'):Om T T':=CG.old h
def YB (K:KS)(b:Nat)(r:PR)(call:Nat)(K':KS)(x y:Nat)(f:n_):Prop:=UM K b r call K' x y f/\Om K.T K'.T/\(∃NC NS,DU NC NS K/\DU NC NS K')/\b∈K.Ar
def cg1 (K:KS)(b:Nat)(r:PR)(st:Nat)(K':KS):Prop:=sZ K b r st K'/\Om K.T K'.T/\(∃NC NS,DU NC NS K)/\b∈K.Ar
def InE (b:Nat)(K K':KS):Prop:=lH b K K'/\Om K.T K'.T/\∃NC NS,DU NC NS K'
def Tu (b:Nat)(K:KS)(CU:List Ev)(K':KS):Prop:=∃r s call r1,K.ps b=some r/\EO r=(s,call,r1)/\
 ((s=0/\CU=[]/\K'=K.Bj b r1)\/
  (s=1/\∃K2 x y r2,YB (K.Bj b r1) b r1 call K2 x y .nilFunc/\K2.ps b=some r2/\r2.en=false/\CU=[(r2.pid,call,x,y)]/\K'=K2.Bj b {r2 with A:=x,B:=y}))
def Run (b:Nat)(K:KS):Nat->List Ev->KS->Prop
 |0,CU,K'=>CU=[]/\K'=K
 |j+1,CU,K'=>∃e1 e2 K1,Run b K j e1 K1/\Tu b K1 e2 K'/\CU=e1++e2
def Last (b:Nat)(K:KS)(CU:List Ev)(K':KS):Prop:=∃r s call r1,K.ps b=some r/\EO r=(s,call,r1)/\
 ((s=2/\cg1 (K.Bj b r1) b r1 65535 K'/\∃r2,K'.ps b=some r2/\CU=[(r2.pid,1,65535,0)])\/
  (s=1/\∃K2 x y f r2,YB (K.Bj b r1) b r1 call K2 x y f/\K2.ps b=some r2/\
   ((f=.nilFunc/\r2.en=true/\CU=[(r2.pid,call,x,y)]/\K'=K2)\/((∃fn ca cb,f=.func fn ca cb)/\CU=[]/\K'=K2.Bj b {r2 with bl:=f,P:=(r2.P+65534) % 65536}))))
def RI (b:Nat)(K0 K:KS):Prop:=∃K1 r,BZ K0 K1/\K1.ps b=some r/\K=K1.Bj b {r with bl:=.nilFunc}/\InE b K0 K1
def ϕ (b n:Nat)(K0:KS)(CU:List Ev)(K':KS):Prop:=∃K1,RI b K0 K1/\(Run b K1 n CU K'\/∃j e1 e2 K2,j<n/\Run b K1 j e1 K2/\Last b K2 e2 K'/\CU=e1++e2)
theorem Tu.len {CU:List Ev}(h:Tu b K CU K'):CU.length<=1:=by
 obtain⟨_,_,_,_,_,_,⟨_,rfl,_⟩|⟨_,_,_,_,_,_,_,_,rfl,_⟩⟩:=h<;>simp
theorem Run.len {b:Nat}{K:KS}:∀{j:Nat} {CU:List Ev} {K':KS},Run b K j CU K'->CU.length<=j
 |0,_,_,h=>by rw[h.1];simp
 |j+1,_,_,h=>by
  obtain⟨e1,e2,d,a,c,rfl⟩:=h
  have:=Run.len a
  have:=c.len
  simp;omega
section
variable (NC NS b:Nat)(K0:KS)(v0:o_)(n:Nat)
structure WH (CU:List Ev)(told:n_)(v:o_)(K:KS)(r:PR):Prop where
 ka:AY K v
 ok:DU NC NS K
 rel:Rel b K0 K
 mv:BQ K0.T K.T v0 v
 told:WQ v0.heap.size K.T told v CU
 ps:K.ps b=some r
 z:K0.ps b≠none/\K0.ED
def XI (j:Nat)(CU:List Ev)(K:KS):Prop:=∃K1,RI b K0 K1/\Run b K1 j CU K
def XS (j:Nat)(CU:List Ev)(s call:Nat)(K:KS)(r:PR):Prop:=∃Km rm,XI b K0 j CU Km/\Km.ps b=some rm/\EO rm=(s,call,r)/\K=Km.Bj b r
def XD (j:Nat)(CU:List Ev)(call res wr:Nat)(f:n_)(K:KS):Prop:=∃Kc rc,XS b K0 j CU 1 call Kc rc/\YB Kc b rc call K res wr f
def VZ:Prop:=∀(m:Nat)(w:o_)(j:Nat)(CU:List Ev)(K:KS)(r:PR)(call:Nat),j<n->XS b K0 j CU 1 call K r->AY K w->DU NC NS K->b∈K.Ar->K.ps b=some r->r.en=false->O_ m 96 #[Q_ K.kb,Q_ b,a_ (call:Nat)] w (FX (UM K b r call) NC NS b K w)
def XE (j:Nat)(CU:List Ev)(res wr:Nat)(K:KS)(r:PR):Prop:=∃e1 call,XD b K0 j e1 call res wr .nilFunc K/\CU=e1++[(r.pid,call,res,wr)]
def XL (CU:List Ev)(K:KS):Prop:=∃j call res wr f K2 r2,j<n/\XD b K0 j CU call res wr f K2/\K2.ps b=some r2/\(∃fn ca cb,f=.func fn ca cb)/\K=K2.Bj b {r2 with bl:=f}
structure AnK (T:Tag)(bA res wr:Nat)(f:n_)(v:o_):Prop where
 blk:v.heap[bA]?=some (N_ #[a_ res,a_ wr,f] 206)
 t:T bA=(0,0)
 res:res<65536
 wr:wr<65536
def SO (told:n_)(v:o_):Prop:=∃r,WH NC NS b K0 v0 [] told v K0 r/\r.en=false/\b∈K0.Ar
def SM (told:n_)(v:o_):Prop:=∃K r,WH NC NS b K0 v0 [] told v K r/\r.en=false/\b∈K.Ar/\BZ K0 K/\InE b K0 K
def SI (i:Int)(told:n_)(v:o_):Prop:=∃j CU K r,i=(j:Nat)/\WH NC NS b K0 v0 CU told v K r/\r.en=false/\b∈K.Ar/\XI b K0 j CU K
def SC (i:Int)(told x:n_)(v:o_):Prop:=∃j CU K r call,i=(j:Nat)/\j<n/\x=a_ (call:Nat)/\call<65536/\WH NC NS b K0 v0 CU told v K r/\r.en=false/\b∈K.Ar/\XS b K0 j CU 1 call K r
def SB (told:n_)(v:o_):Prop:=∃j CU K r call,j<n/\WH NC NS b K0 v0 CU told v K r/\r.en=false/\b∈K.Ar/\XS b K0 j CU 2 call K r
def SD (i:Int)(told x:n_)(bA:Nat)(v:o_):Prop:=∃j CU K r call res wr f,i=(j:Nat)/\j<n/\x=a_ (call:Nat)/\call<65536/\WH NC NS b K0 v0 CU told v K r/\(r.en=false->b∈K.Ar)/\AnK K.T bA res wr f v/\MC K.T v K.kb b f/\XD b K0 j CU call res wr f K
def SDn (i:Int)(told x:n_)(bA:Nat)(v:o_):Prop:=∃j CU K r call res wr,i=(j:Nat)/\j<n/\x=a_ (call:Nat)/\call<65536/\WH NC NS b K0 v0 CU told v K r/\(r.en=false->b∈K.Ar)/\AnK K.T bA res wr .nilFunc v/\XD b K0 j CU call res wr .nilFunc K
def SDb (i:Int)(told _x:n_)(bA:Nat)(v:o_):Prop:=∃j CU K r call res wr f,i=(j:Nat)/\j<n/\WH NC NS b K0 v0 CU told v K r/\AnK K.T bA res wr f v/\MC K.T v K.kb b f/\(∃fn ca cb,f=.func fn ca cb)/\XD b K0 j CU call res wr f K
def SBl (told:n_)(v:o_):Prop:=∃CU K r,WH NC NS b K0 v0 CU told v K r/\XL b K0 n CU K
def SBc (told:n_)(bA:Nat)(v:o_):Prop:=SBl NC NS b K0 v0 n told v/\∃res wr fn ca cb,v.heap[bA]?=some (N_ #[a_ (res:Nat),a_ (wr:Nat),.func fn ca cb] 206)
def SE0 (i:Int)(told:n_)(bA:Nat)(v:o_):Prop:=∃j CU K r res wr,i=(j:Nat)/\j<n/\WH NC NS b K0 v0 CU told v K r/\(r.en=false->b∈K.Ar)/\AnK K.T bA res wr .nilFunc v/\XE b K0 j CU res wr K r
def SE (i:Int)(told:n_)(bA:Nat)(v:o_):Prop:=∃j CU K r res wr,i=(j:Nat)/\j<n/\WH NC NS b K0 v0 CU told v K r/\r.en=false/\b∈K.Ar/\AnK K.T bA res wr .nilFunc v/\XE b K0 j CU res wr K r
def SA (i:Int)(told A:n_)(v:o_):Prop:=∃j CU K r res wr,i=(j:Nat)/\j<n/\WH NC NS b K0 v0 CU told v K r/\r.en=false/\b∈K.Ar/\res<65536/\wr<65536/\A=.agg #[a_ (res:Nat),a_ (wr:Nat),.nilFunc]/\XE b K0 j CU res wr K r
def SF (told:n_)(v:o_):Prop:=∃CU K r,WH NC NS b K0 v0 CU told v K r/\ϕ b n K0 CU K
end
section
variable {NC NS b:Nat}{K0:KS}{v0:o_}{n:Nat}{CU:List Ev}{told x A:n_}{v v':o_}{K K':KS}{r r':PR}{i:Int}{bA:Nat}
theorem WH.next (h:WH NC NS b K0 v0 CU told v K r)(c:AY K' v')(ok:DU NC NS K')(R:Rel b K K')(M:BQ K.T K'.T v v')(hb:K'.ps b=some r'):WH NC NS b K0 v0 CU told v' K' r':=
 ⟨c,ok,h.rel.trans R h.z.1 h.z.2,h.mv.trans M,h.told.Xu M,hb,h.z⟩
theorem WH.no (h:WH NC NS b K0 v0 CU told v K r)(c:Aa No v v'):WH NC NS b K0 v0 CU told v' K r:=
 h.next (h.ka.no c) h.ok (.refl b K) (BQ.no c h.ka.lt) h.ps
theorem AnK.no {c wr:Nat}{f:n_}(h:AnK T bA c wr f v)(e:Aa No v v'):AnK T bA c wr f v':=⟨e.old h.blk id,h.t,h.res,h.wr⟩
theorem MC.no {kb:Nat}(h:MC T v kb b x)(c:Aa No v v'):MC T v' kb b x:=h.keep (Q:=λ_=>False) c.no (λh=>h)
theorem SO.no (h:SO NC NS b K0 v0 told v)(c:Aa No v v'):SO NC NS b K0 v0 told v':=let ⟨r,h1,h2⟩:=h;⟨r,h1.no c,h2⟩
theorem SM.no (h:SM NC NS b K0 v0 told v)(c:Aa No v v'):SM NC NS b K0 v0 told v':=let ⟨K,r,h1,h2⟩:=h;⟨K,r,h1.no c,h2⟩
theorem SI.no (h:SI NC NS b K0 v0 i told v)(c:Aa No v v'):SI NC NS b K0 v0 i told v':=let ⟨j,e,K,r,h1,h3,h4⟩:=h;⟨j,e,K,r,h1,h3.no c,h4⟩
theorem SC.no (h:SC NC NS b K0 v0 n i told x v)(f:Aa No v v'):SC NC NS b K0 v0 n i told x v':=let ⟨j,e,K,r,c,h1,h2,h3,h4,h6,h7⟩:=h;⟨j,e,K,r,c,h1,h2,h3,h4,h6.no f,h7⟩
theorem SB.no (h:SB NC NS b K0 v0 n told v)(f:Aa No v v'):SB NC NS b K0 v0 n told v':=let ⟨j,e,K,r,c,h1,h2,h3⟩:=h;⟨j,e,K,r,c,h1,h2.no f,h3⟩
theorem SD.no (h:SD NC NS b K0 v0 n i told x bA v)(g:Aa No v v'):SD NC NS b K0 v0 n i told x bA v':=let ⟨j,e,K,r,c,s,w,f,h1,h2,h3,h4,h6,h7,h8,h9,h10⟩:=h;⟨j,e,K,r,c,s,w,f,h1,h2,h3,h4,h6.no g,h7,h8.no g,h9.no g,h10⟩
theorem SDn.no (h:SDn NC NS b K0 v0 n i told x bA v)(f:Aa No v v'):SDn NC NS b K0 v0 n i told x bA v':=let ⟨j,e,K,r,c,s,w,h1,h2,h3,h4,h6,h7,h8,h9⟩:=h;⟨j,e,K,r,c,s,w,h1,h2,h3,h4,h6.no f,h7,h8.no f,h9⟩
theorem SDb.no (h:SDb NC NS b K0 v0 n i told x bA v)(g:Aa No v v'):SDb NC NS b K0 v0 n i told x bA v':=let ⟨j,e,K,r,c,s,w,f,h1,h2,h6,h8,h9,h10⟩:=h;⟨j,e,K,r,c,s,w,f,h1,h2,h6.no g,h8.no g,h9.no g,h10⟩
theorem SBl.no (h:SBl NC NS b K0 v0 n told v)(c:Aa No v v'):SBl NC NS b K0 v0 n told v':=let ⟨e,K,r,h2,h3⟩:=h;⟨e,K,r,h2.no c,h3⟩
theorem SBc.no (h:SBc NC NS b K0 v0 n told bA v)(g:Aa No v v'):SBc NC NS b K0 v0 n told bA v':=let ⟨h1,a,c,d,e,f,h2⟩:=h;⟨h1.no g,a,c,d,e,f,g.old h2 id⟩
theorem SE0.no (h:SE0 NC NS b K0 v0 n i told bA v)(c:Aa No v v'):SE0 NC NS b K0 v0 n i told bA v':=let ⟨j,e,K,r,s,w,h1,h2,h4,h5,h6,h7⟩:=h;⟨j,e,K,r,s,w,h1,h2,h4.no c,h5,h6.no c,h7⟩
theorem SE.no (h:SE NC NS b K0 v0 n i told bA v)(c:Aa No v v'):SE NC NS b K0 v0 n i told bA v':=let ⟨j,e,K,r,s,w,h1,h2,h4,h5,h6,h7,h8⟩:=h;⟨j,e,K,r,s,w,h1,h2,h4.no c,h5,h6,h7.no c,h8⟩
theorem SA.no (h:SA NC NS b K0 v0 n i told A v)(c:Aa No v v'):SA NC NS b K0 v0 n i told A v':=let ⟨j,e,K,r,s,w,h1,h2,h4,h5⟩:=h;⟨j,e,K,r,s,w,h1,h2,h4.no c,h5⟩
theorem SF.no (h:SF NC NS b K0 v0 n told v)(c:Aa No v v'):SF NC NS b K0 v0 n told v':=let ⟨e,K,r,h1,h2⟩:=h;⟨e,K,r,h1.no c,h2⟩
end
section
variable (m:Nat)(w:o_)
theorem Μ (pb pid call r x:Nat)(c:w.cell? (R_ pb)=some (b_ pid))(f:call<65536)(g:r<65536)(h:x<65536):O_ m 98 #[Q_ pb,a_ call,.agg #[a_ r,a_ x,.nilFunc]] w λe w'=>Aa No w w'/\e=.returned (.agg #[b_ pid,b_ call,b_ r,b_ x]):=by
 have a:Aa No w ((w.alloc (.cells #[a_ r,a_ x,.nilFunc] 206)).alloc (.cells #[b_ 0,b_ 0,b_ 0,b_ 0] 59)):=((Aa.refl _ _).alloc _).alloc _;have b:=a.has c;gi_enter func98,ntmps98;gi_wp2;gi_region
 all_goals gi_wp2
 all_goals refine bodyPost_ret (v:=.agg #[b_ pid,b_ call,b_ r,b_ x]) (by simp[results,results98,go_sem]) rfl ?_
 all_goals exact⟨by repeat (first|exact Aa.refl _ _|refine Aa.drew ?_|refine Aa.alloc ?_ _),rfl⟩
end
def LR (R:Nat->Nat->Prop):List Nat->List Nat->Prop
 |[],[]=>True
 |a::l,b::m=>R a b/\LR R l m
 |_,_=>False
def KE (R:Nat->Nat->Prop):d_ Nat->d_ Nat->Prop
 |none,none=>True
 |some a,some b=>R a b
 |_,_=>False
theorem LR.mono {R S:Nat->Nat->Prop}(h:∀a b,R a b->S a b):∀{l m:List Nat},LR R l m->LR S l m
 |[],[],_=>trivial
 |_::_,_::_,c=>⟨h _ _ c.1,LR.mono h c.2⟩
 |[],_::_,c=>c.elim
 |_::_,[],c=>c.elim
theorem KE.mono {S:Nat->Nat->Prop}(h:∀a b,R a b->S a b):∀{l m:d_ Nat},KE R l m->KE S l m
 |none,none,_=>trivial
 |some _,some _,c=>h _ _ c
 |none,some _,c=>c.elim
 |some _,none,c=>c.elim
theorem LR.len {R:Nat->Nat->Prop}:∀{l m:List Nat},LR R l m->l.length=m.length
 |[],[],_=>rfl
 |_::l,_::m,a=>by simp[LR.len a.2]
 |[],_::_,a=>a.elim
 |_::_,[],a=>a.elim
theorem LR.app {R:Nat->Nat->Prop}{e f:List Nat}(c:LR R e f):∀{l m:List Nat},LR R l m->LR R (l++e) (m++f)
 |[],[],_=>c
 |_::_,_::_,a=>⟨a.1,LR.app c a.2⟩
 |[],_::_,a=>a.elim
 |_::_,[],a=>a.elim
theorem LR.one (h:R a b):LR R [a] [b]:=⟨h,dE⟩
theorem LR.ϒ {R:Nat->Nat->Prop}{a:Nat}:∀{l m:List Nat},LR R l m->a∈l->∃b,b∈m/\R a b
 |[],_,_,h=>by cases h
 |x::l,y::m,c,h=>by
  obtain rfl|h:=r_.1 h
  .exact⟨y,sJ,c.1⟩
  .obtain⟨b,d,e⟩:=LR.ϒ c.2 h;exact⟨b,by simp[d],e⟩
 |_::_,[],c,_=>c.elim
theorem LR.ae2 {R:Nat->Nat->Prop}{b:Nat}:∀{l m:List Nat},LR R l m->b∈m->∃a,a∈l/\R a b
 |_,[],_,h=>by cases h
 |x::l,y::m,c,h=>by
  obtain rfl|h:=r_.1 h
  .exact⟨x,sJ,c.1⟩
  .obtain⟨b,d,e⟩:=LR.ae2 c.2 h;exact⟨b,by simp[d],e⟩
 |[],_::_,c,_=>c.elim
theorem LR.filter {R:Nat->Nat->Prop}{p q:Nat->Bool}(h:∀a b,R a b->p a=q b):∀{l m:List Nat},LR R l m->LR R (l.filter p) (m.filter q)
 |[],[],_=>trivial
 |x::l,y::m,c=>by
  have e:=h x y c.1
  cases hp:p x
  .rw[List.filter_cons_of_neg (by simp[hp]),List.filter_cons_of_neg (by simp[<-e,hp])];exact LR.filter h c.2
  .rw[List.filter_cons_of_pos (by simp[hp]),List.filter_cons_of_pos (by simp[<-e,hp])];exact⟨c.1,LR.filter h c.2⟩
 |[],_::_,c=>c.elim
 |_::_,[],c=>c.elim
theorem LR.find {R:Nat->Nat->Prop}{p q:Nat->Bool}(h:∀a b,R a b->p a=q b):∀{l m:List Nat},LR R l m->KE R (l.find? p) (m.find? q)
 |[],[],_=>trivial
 |x::l,y::m,c=>by
  have e:=h x y c.1
  cases hp:p x
  .rw[List.find?_cons_of_neg (by simp[hp]),List.find?_cons_of_neg (by simp[<-e,hp])];exact LR.find h c.2
  .rw[List.find?_cons_of_pos (by simp[hp]),List.find?_cons_of_pos (by simp[<-e,hp])];exact c.1
 |[],_::_,c=>c.elim
 |_::_,[],c=>c.elim
theorem LR.get {R:Nat->Nat->Prop}:∀{l m:List Nat} (i:Nat),LR R l m->KE R l[i]? m[i]?
 |[],[],_,_=>by simp[KE]
 |_::_,_::_,0,a=>by simpa [KE]using a.1
 |_::_,_::_,i+1,a=>by simpa using LR.get i a.2
 |[],_::_,_,a=>a.elim
 |_::_,[],_,a=>a.elim
theorem KE.dh (h:KE R o o')(e:o=some a):∃b,o'=some b/\R a b:=by
 subst e;cases o' with
 |none=>exact h.elim
 |some b=>exact⟨b,rfl,h⟩
theorem KE.none (h:KE R o o'):o=Option.none ↔ o'=Option.none:=by
 cases o<;>cases o'<;>simp_all [KE]
def BlR (R:Nat->Nat->Prop)(v v':n_):Prop:=(iD v).1=(iD v').1/\((iD v).1=270\/(iD v).1=265->R (iD v).2 (iD v').2)
structure Ep (c:Bool)(R:Nat->Nat->Prop)(r s:PR):Prop where
 pid:r.pid=s.pid
 par:r.par=s.par
 st:r.st=s.st
 A:r.A=s.A
 B:r.B=s.B
 P:r.P=s.P
 sw:r.sw=s.sw
 en:r.en=s.en
 Af:r.Af=s.Af
 fds:r.fds=s.fds
 co:c=true->r.co=s.co
 bl:BlR R r.bl s.bl
def TvR (t t':Tag)(R:Nat->Nat->Prop)(v v':n_):Prop:=(v=.nilIface/\v'=.nilIface)\/∃u a b,v=.iface u (ptr a)/\v'=.iface u (ptr b)/\R a b/\(u=330->(t a).1=13/\(t' b).1=13)/\(u=334->(t a).1=14/\(t' b).1=14)
structure CtR (R:Nat->Nat->Prop)(t t':W_)(c c':Ct):Prop where
 k:t.1=t'.1
 f:t.1=12->R t.2 t'.2
 ws:c.ws=c'.ws
 x:c.x=c'.x
 y:c.y=c'.y
 n:t.1≠13->t.1≠14->c.n=c'.n
 e:t.1=13\/t.1=14->R c.n c'.n
structure CJ (c:Bool)(t t':Tag)(R S:Nat->Nat->Prop)(K L:KS):Prop where
 rl:∀a b b',R a b->R a b'->b=b'
 rr:∀a a' b,R a b->R a' b->a=a'
 rd:∀a b,R a b->CtR R (t a) (t' b) (K.ct a) (L.ct b)/\K.op a=L.op b
 sl:∀a b b',S a b->S a b'->b=b'
 sr:∀a a' b,S a b->S a' b->a=a'
 sd:∀a b,S a b->∃r s,K.ps a=some r/\L.ps b=some s/\Ep c R r s
 Ar:LR S K.Ar L.Ar
 BG:K.BG=L.BG
 core:c=true->K.core=L.core
 swap:K.swap=L.swap
 nm:∀i,KE R (K.nm i) (L.nm i)
 nl:LR R K.nl L.nl
 desc:∀i,i<20->K.desc i=L.desc i
 ef:∀i,i<20->KE R (K.ef i) (L.ef i)
 tv:∀i,i<20->TvR t t' R (K.tv i) (L.tv i)
def Jo (t t':Tag)(R:Nat->Nat->Prop)(K L:KS):Prop:=∀a b,R a b->(K.T a=t a/\t a≠(0,0))/\L.T b=t' b/\t' b≠(0,0)
theorem Jo.ext {t g:Tag}{L f:KS}(h:Jo t g R K L)(k:Om K.T K'.T)(m:Om L.T f.T):Jo t g R K' f:=λa b c=>by
 obtain⟨⟨e1,d⟩,e2,e⟩:=h a b c;exact⟨⟨(k a (by rw[e1];exact d)).trans e1,d⟩,(m b (by rw[e2];exact e)).trans e2,e⟩
section
variable {c:Bool}{t t':Tag}{R S:Nat->Nat->Prop}{K L K' L':KS}{a b:Nat}{r s:PR}
theorem CJ.row (h:CJ c t t' R S K L)(f:S a b)(g:K.ps a=some r)(k:L.ps b=some s):Ep c R r s:=by
 obtain⟨d,e,e1,e2,hR⟩:=h.sd a b f;rw[g]at e1;rw[k]at e2;cases e1;cases e2;exact hR
theorem CJ.get (h:CJ c t t' R S K L)(f:S a b)(g:K.ps a=some r):∃s,L.ps b=some s/\Ep c R r s:=by
 obtain⟨e,d,e1,e2,hR⟩:=h.sd a b f;rw[g]at e1;cases e1;exact⟨d,e2,hR⟩
theorem CJ.Bj (h:CJ c t t' R S K L)(k:S a b)(hR:Ep c R r s):CJ c t t' R S (K.Bj a r) (L.Bj b s):=
 ⟨h.rl,h.rr,h.rd,h.sl,h.sr,λx y d=>by
  by_cases e:x=a
  .subst e;obtain rfl:=h.sl x y b d k;exact⟨r,s,Ag,Ag,hR⟩
  .have f:y≠b:=λe2=>by subst e2;exact e (h.sr x a y d k)
   obtain⟨i,j,e1,e2,g⟩:=h.sd x y d;exact⟨i,j,(BB e).trans e1,(BB f).trans e2,g⟩,h.Ar,h.BG,h.core,h.swap,h.nm,h.nl,h.desc,h.ef,h.tv⟩
theorem CJ.isZ (h:CJ c t t' R S K L)(pid:Nat)(e:S a b):isZ K.ps pid a=isZ L.ps pid b:=by
 obtain⟨r,s,e1,e2,hR⟩:=h.sd a b e;rw[Pz e1,Pz e2,hR.en,hR.par]
theorem CJ.PS (h:CJ c t t' R S K L)(pid:Nat):KE S (K.PS pid) (L.PS pid):=LR.find (λ_ _ a=>h.isZ pid a) h.Ar
theorem CJ.parent (h:CJ c t t' R S K L)(pid:Nat):K.parent pid ↔ L.parent pid:=by
 constructor
 .rintro⟨b,r,a,d,f⟩;obtain⟨i,m1,m2⟩:=h.Ar.ϒ a;obtain⟨s,e,hR⟩:=h.get m2 d;exact⟨i,s,m1,e,hR.par ▸ f⟩
 .rintro⟨b,s,a,d,f⟩;obtain⟨g,m1,m2⟩:=h.Ar.ae2 a;obtain⟨r,j,e1,e2,hR⟩:=h.sd g b m2;rw[d]at e2;cases e2;exact⟨g,r,m1,e1,hR.par.trans f⟩
theorem CJ.blk (h:CJ c t t' R S K L)(hR:Ep c R r s):K.blk r=L.blk s:=by
 unfold KS.blk;rw[<-hR.bl.1,<-hR.pid];by_cases e1:(iD r.bl).1=196
 .rw[rW e1,rW e1];have:=(h.PS r.pid).none;cases h1:K.PS r.pid<;>cases h2:L.PS r.pid<;>simp_all
 .rw[ru e1,ru e1];by_cases e2:(iD r.bl).1=270
  .rw[rW e2,rW e2];have:=(h.rd _ _ (hR.bl.2 (.inl e2))).1;unfold Ct.starved;rw[this.ws,this.y]
  .rw[ru e2,ru e2];by_cases e3:(iD r.bl).1=265
   .rw[rW e3,rW e3];have:=(h.rd _ _ (hR.bl.2 (.inr e3))).1;unfold Ct.JE;rw[this.ws,this.x]
   .rw[ru e3,ru e3]
theorem CJ.BV (h:CJ c t t' R S K L)(hR:Ep c R r s):K.BV r=L.BV s:=by
 unfold KS.BV;rw[hR.en,h.blk hR]
theorem CJ.gone (h:CJ c t t' R S K L)(e:S a b):QH K.ps a=QH L.ps b:=by
 obtain⟨r,s,e1,e2,hR⟩:=h.sd a b e;unfold QH;rw[e1,e2];simp only[hR.en,hR.par]
theorem CJ.PV (h:CJ c t t' R S K L):CJ c t t' R S K.PV L.PV:=
 ⟨h.rl,h.rr,h.rd,h.sl,h.sr,h.sd,h.Ar.filter λ_ _ a=>by rw[h.gone a],h.BG,h.core,h.swap,h.nm,h.nl,h.desc,h.ef,h.tv⟩
theorem CJ.cz3 (h:CJ c t t' R S K L)(u:tq K x)(z:tq L y)(A:∀a q r r',a∈K.Ar->q∈K.Ar->K.ps a=some r->K.ps q=some r'->r.pid=r'.pid->a=q):x=y:=by
 obtain⟨rfl,f,j,m1,e1,d,b⟩|⟨rfl,u⟩:=u<;>obtain⟨rfl,m,o,m2,e2,p2,g⟩|⟨rfl,z⟩:=z
 .rfl
 .exfalso;obtain⟨l,q1,i⟩:=h.Ar.ϒ m1;obtain⟨s,e,hR⟩:=h.get i e1;obtain z|⟨m,o,m2,e2,p2,g⟩:=z
  .exact z l q1 s e (hR.pid.symm.trans d)
  .obtain⟨q,m3,n⟩:=h.Ar.ae2 m2;obtain⟨r',p,e3,e4,k⟩:=h.sd _ _ n;rw[e2]at e4;cases e4;obtain rfl:=A f q j r' m1 m3 e1 e3 (by rw[d,k.pid,p2]);rw[e1]at e3;cases e3;rw[k.en,g]at b;cases b
 .exfalso;obtain⟨q,q1,i⟩:=h.Ar.ae2 m2;obtain⟨r',p,e3,e4,hR⟩:=h.sd _ _ i;rw[e2]at e4;cases e4;obtain u|⟨f,j,m1,e1,d,b⟩:=u
  .exact u q q1 r' e3 (hR.pid.trans p2)
  .obtain rfl:=A f q j r' m1 q1 e1 e3 (by rw[d,hR.pid,p2]);rw[e1]at e3;cases e3;rw[hR.en,g]at b;cases b
 .rfl
theorem Ep.coS (h:Ep c R r s){x y:Int}(e:c=true->x=y):Ep c R {r with co:=x} {s with co:=y}:=⟨h.pid,h.par,h.st,h.A,h.B,h.P,h.sw,h.en,h.Af,h.fds,e,h.bl⟩
theorem al5 {q:PR}:{q with co:=q.co}=q:=rfl
theorem CJ.maps (h:CJ c t t' R S K L){k1 k2 e f:List (W_)}{c1 c2 c3 c4 d1 d2 d3 d4:Nat}{T2:Tag}(g:c=true->k1=e)(k:k2=f):CJ c t t' R S {K with core:=k1,cg:=c1,cc:=c2,swap:=k2,sg:=c3,sc:=c4,T:=T1} {L with core:=e,cg:=d1,cc:=d2,swap:=f,sg:=d3,sc:=d4,T:=T2}:=
 ⟨h.rl,h.rr,h.rd,h.sl,h.sr,h.sd,h.Ar,h.BG,g,k,h.nm,h.nl,h.desc,h.ef,h.tv⟩
theorem CJ.tags (h:CJ c t t' R S K L){T2:Tag}:CJ c t t' R S {K with T:=T1} {L with T:=T2}:=
 ⟨h.rl,h.rr,h.rd,h.sl,h.sr,h.sd,h.Ar,h.BG,h.core,h.swap,h.nm,h.nl,h.desc,h.ef,h.tv⟩
theorem CJ.di (h:CJ c t t' R S K L){c1 c2:Ct}(k:R a b)(hC:CtR R (t a) (t' b) c1 c2):CJ c t t' R S {K with ct:=Ah K.ct a c1} {L with ct:=Ah L.ct b c2}:=by
 refine⟨h.rl,h.rr,λx y d=>?_,h.sl,h.sr,h.sd,h.Ar,h.BG,h.core,h.swap,h.nm,h.nl,h.desc,h.ef,h.tv⟩;obtain⟨g,i⟩:=h.rd x y d;refine⟨?_,i⟩;by_cases e:x=a
 .subst e;obtain rfl:=h.rl x y b d k;simpa [Ah]using hC
 .have f:y≠b:=λe2=>by subst e2;exact e (h.rr x a y d k)
  simpa [Ah,e,f]using g
theorem CJ.out (h:CJ c t t' R S K L)(k:S a b)(m:XG a K K')(p:XG b L L'):CJ c t t' R S K' L':=by
 obtain⟨r,e1,m⟩:=m;obtain⟨s,e2,p⟩:=p;have hR:=h.row k e1 e2;obtain⟨i,rfl⟩|⟨a1,f,e,i,rfl⟩:=m<;>obtain⟨j,rfl⟩|⟨a2,g,c2,j,rfl⟩:=p
 .exact h
 .rw[<-FD e1,<-al5 (q:=r)];exact CJ.Bj (K:=K') (L:=L.Hm _ g c2) (h.maps (λd=>by have:=hR.co d;omega) h.swap) k (hR.coS λd=>by have:=hR.co d;omega)
 .rw[<-FD e2,<-al5 (q:=s)];exact CJ.Bj (K:=K.Hm _ f e) (L:=L') (h.maps (λd=>by have:=hR.co d;omega) h.swap) k (hR.coS λd=>by have:=hR.co d;omega)
 .refine CJ.Bj (K:=K.Hm _ f e) (L:=L.Hm _ g c2) (h.maps (λd=>?_) h.swap) k (hR.coS λ_=>rfl);have:=hR.co d;rw[h.core d,hR.Af,show a1=a2 by omega]
theorem CJ.cb7 (h:CJ false t t' R S K L)(m:BZ K K'):CJ false t t' R S K' L:=by
 have e1:K'.Ar=K.Ar:=by rw[m.eq]
 have e2:K'.BG=K.BG:=by rw[m.eq]
 have e3:K'.swap=K.swap:=by rw[m.eq]
 have e4:K'.nm=K.nm:=by rw[m.eq]
 have d:K'.nl=K.nl:=by rw[m.eq]
 have e:K'.desc=K.desc:=by rw[m.eq]
 have g:K'.ef=K.ef:=by rw[m.eq]
 have i:K'.tv=K.tv:=by rw[m.eq]
 have j:K'.ct=K.ct:=by rw[m.eq]
 have c:K'.op=K.op:=by rw[m.eq]
 obtain⟨f,k⟩:=m.ps;refine⟨h.rl,h.rr,by rw[j,c];exact h.rd,h.sl,h.sr,λx y b=>?_,by rw[e1];exact h.Ar,by rw[e2];exact h.BG,(λa=>by cases a),by rw[e3];exact h.swap,by rw[e4];exact h.nm,by rw[d];exact h.nl,by rw[e];exact h.desc,by rw[g];exact h.ef,by rw[i];exact h.tv⟩;obtain⟨r,s,q1,l,hR⟩:=h.sd x y b;exact⟨{r with co:=f x},s,by rw[k,q1];rfl,l,hR.pid,hR.par,hR.st,hR.A,hR.B,hR.P,hR.sw,hR.en,hR.Af,hR.fds,(λa=>by cases a),hR.bl⟩
theorem KE.swap {R:Nat->Nat->Prop}:∀{o o':d_ Nat},KE R o o'->KE (λa b=>R b a) o' o
 |.none,.none,_=>trivial
 |.some _,.some _,h=>h
 |.none,.some _,h=>h.elim
 |.some _,.none,h=>h.elim
theorem LR.swap {R:Nat->Nat->Prop}:∀{l m:List Nat},LR R l m->LR (λa b=>R b a) m l
 |[],[],_=>trivial
 |_::_,_::_,h=>⟨h.1,h.2.swap⟩
 |[],_::_,h=>h.elim
 |_::_,[],h=>h.elim
theorem BlR.swap (h:BlR R v v'):BlR (λa b=>R b a) v' v:=⟨h.1.symm,λe=>h.2 (by rw[h.1];exact e)⟩
theorem Ep.swap (h:Ep c R r s):Ep c (λa b=>R b a) s r:=⟨h.pid.symm,h.par.symm,h.st.symm,h.A.symm,h.B.symm,h.P.symm,h.sw.symm,h.en.symm,h.Af.symm,h.fds.symm,λe=>(h.co e).symm,h.bl.swap⟩
theorem CtR.swap {u m:Nat×Nat}{c g:Ct}(h:CtR R u m c g):CtR (λa b=>R b a) m u g c:=⟨h.k.symm,λe=>h.f (by rw[h.k];exact e),h.ws.symm,h.x.symm,h.y.symm,λe1 e2=>(h.n (by rw[h.k];exact e1) (by rw[h.k];exact e2)).symm,λe=>h.e (by rw[h.k];exact e)⟩
theorem TvR.swap (h:TvR t t' R v v'):TvR t' t (λa b=>R b a) v' v:=by
 obtain⟨c,d⟩|⟨u,a,b,c,d,f,g,i⟩:=h
 .exact .inl ⟨d,c⟩
 .exact .inr ⟨u,b,a,d,c,f,λe=>(g e).symm,λe=>(i e).symm⟩
theorem CJ.swap' (h:CJ c t t' R S K L):CJ c t' t (λa b=>R b a) (λa b=>S b a) L K:=
 ⟨λa b g=>h.rr b g a,λa f b=>h.rl b a f,λa b d=>⟨(h.rd b a d).1.swap,(h.rd b a d).2.symm⟩,λa b g=>h.sr b g a,λa f b=>h.sl b a f,λa b d=>let ⟨r,s,e1,e2,hR⟩:=h.sd b a d;⟨s,r,e2,e1,hR.swap⟩,h.Ar.swap,h.BG.symm,λe=>(h.core e).symm,h.swap.symm,λi=>(h.nm i).swap,h.nl.swap,λi hi=>(h.desc i hi).symm,λi hi=>(h.ef i hi).swap,λi hi=>(h.tv i hi).swap⟩
theorem CJ.ae1 (h:CJ false t t' R S K L)(m:BZ L L'):CJ false t t' R S K L':=(h.swap'.cb7 m).swap'
theorem QD.back {K K':KS}{n:Nat}:∀{j:Nat} {i:Nat},QD K n j K'->i<j->∃k,QD K n i k/\(Aq k.core n).1=none/\∃b,K.Ar[i]?=some b
 |j+1,i,h,hi=>by
  obtain⟨c,b,a,d,f,g⟩:=h
  by_cases e:i=j
  .subst e;exact⟨c,a,d,b,f⟩
  .exact QD.back a wB
theorem CJ.aw8 (h:CJ c t t' R S K L){n:Nat}:∀{j:Nat} {K' L':KS},QD K n j K'->QD L n j L'->CJ c t t' R S K' L'
 |0,_,_,a,b=>by
  have a:_=K:=a
  have b:_=L:=b
  rw[a,b];exact h
 |j+1,_,_,a,b=>by
  obtain⟨i,l,x1,o,e,f⟩:=a
  obtain⟨k,m,g,p,y3,y4⟩:=b
  have d:=h.Ar.get j
  rw[e,y3]at d
  exact(CJ.aw8 h x1 g).out d f y4
theorem XG.GZ (h:XG b K K'):BZ K K':=by
 obtain⟨r,e,h⟩:=h;obtain⟨_,rfl⟩|⟨x,g,c,_,rfl⟩:=h
 .exact BZ.refl _
 .refine⟨rfl,λk=>if k=b then -1 else(match K.ps k with|some q=>q.co|none=>0),λk=>?_⟩;show CY K.ps b _ k=_;by_cases a:k=b
  .subst a;rw[Ag,e];simp
  .rw[BB a];cases hk:K.ps k with
   |none=>simp
   |some q=>simp[a,hk]
theorem QD.GZ {n:Nat}:∀{j:Nat} {K':KS},QD K n j K'->BZ K K'
 |0,_,h=>by
  have h:_=K:=h
  rw[h];exact BZ.refl K
 |j+1,_,h=>by
  obtain⟨d,b,a,_,_,c⟩:=h
  exact(QD.GZ a).trans c.GZ
theorem BZ.coreS {k1:List (W_)}(h:BZ K K'):BZ K {K' with core:=k1}:=by
 refine⟨?_,h.ps⟩;have:=h.eq;rw[this]
theorem BZ.cj0 {x:Int}(h:BZ K K')(hb:K.ps b=some r):BZ K (K'.Bj b {r with co:=x}):=by
 obtain⟨f,c⟩:=h.ps;refine⟨?_,λk=>if k=b then x else f k,λk=>?_⟩
 .have:=h.eq;rw[this];rfl
 .show CY K'.ps b _ k=_;by_cases a:k=b
  .subst a;rw[Ag,hb];simp
  .rw[BB a,c];simp[a]
theorem lH.GZ (h:lH b K K'):BZ K K':=by
 obtain⟨r,e,⟨_,rfl⟩|⟨_,j,c,a,⟨_,_,rfl⟩|⟨x,_,rfl⟩⟩⟩:=h
 .exact BZ.refl _
 .exact a.GZ.coreS
 .exact a.GZ.coreS.cj0 e
theorem CJ.in_ (h:CJ c t t' R S K L)(F:S a b)(E:lH a K K')(D:lH b L L'):CJ c t t' R S K' L':=by
 cases c
 .exact(h.cb7 E.GZ).ae1 D.GZ
 obtain⟨r,e1,E⟩:=E;obtain⟨s,e2,D⟩:=D;have hR:=h.row F e1 e2;have A:=hR.co rfl;obtain⟨w,rfl⟩|⟨w,m,j,k1,E⟩:=E<;>obtain⟨z,rfl⟩|⟨z,n,o,k2,D⟩:=D
 .exact h
 .omega
 .omega
 have v:Aj s.Af.length=Aj r.Af.length:=by rw[hR.Af]
 rw[v]at k2 D;have u:m=n:=by
  obtain i|e|i:=Nat.lt_trichotomy m n
  .obtain⟨C,k,f,p,y3⟩:=k2.back i;have hI:=h.aw8 k1 k;rw[<-hI.core rfl]at f;obtain⟨_,E,_⟩|⟨x,E,_⟩:=E
   .have:=h.Ar.len;have:=(Oc.1 y3).1;omega
   .rw[E]at f;cases f
  .exact e
  .obtain⟨B,k,f,p,y3⟩:=k1.back i;have hI:=h.aw8 k k2;rw[hI.core rfl]at f;obtain⟨_,D,_⟩|⟨x,D,_⟩:=D
   .have:=h.Ar.len;have:=(Oc.1 y3).1;omega
   .rw[D]at f;cases f
 subst u;have hI:=h.aw8 k1 k2;have q:=hI.core rfl;rw[<-q]at D;have l:CJ true t t' R S {j with core:=(Aq j.core (Aj r.Af.length)).2} {o with core:=(Aq j.core (Aj r.Af.length)).2}:=⟨hI.rl,hI.rr,hI.rd,hI.sl,hI.sr,hI.sd,hI.Ar,hI.BG,λ_=>rfl,hI.swap,hI.nm,hI.nl,hI.desc,hI.ef,hI.tv⟩;obtain⟨g,_,rfl⟩|⟨x,g,rfl⟩:=E<;>obtain⟨d,_,rfl⟩|⟨y,d,rfl⟩:=D
 .exact l
 .rw[g]at d;cases d
 .rw[g]at d;cases d
 .rw[g]at d;cases d;exact l.Bj F (hR.coS λ_=>rfl)
theorem bl1:(K.drop i).ps=K.ps/\(K.drop i).Ar=K.Ar:=by
 unfold KS.drop;split
 .split<;>exact⟨rfl,rfl⟩
 .exact⟨rfl,rfl⟩
theorem Zg:∀{l:List Int} {K:KS},(K.KO l).ps=K.ps/\(K.KO l).Ar=K.Ar
 |[],_=>⟨rfl,rfl⟩
 |n::l,K=>by
  have h:=Zg (l:=l) (K:=if n=-1 then K else K.drop n.toNat)
  have e:(if n=-1 then K else K.drop n.toNat).ps=K.ps/\(if n=-1 then K else K.drop n.toNat).Ar=K.Ar:=by
   split
   .exact⟨rfl,rfl⟩
   .exact bl1
  exact⟨h.1.trans e.1,h.2.trans e.2⟩
theorem LJ {f g:Nat->α}{x y:α}{P:α->α->Prop}(h:∀j,j<20->P (f j) (g j))(e:P x y):∀j,j<20->P (Ah f i x j) (Ah g i y j):=λj a=>by
 unfold Ah;split
 .exact e
 .exact h j a
theorem CJ.upd (h:CJ c t t' R S K L){f g:Nat->α}{u v:α}{P:α->α->Prop}(k:R a b)(q:P (f x) (g y))(p:P u v)(m:R x y):P (Ah f a u x) (Ah g b v y):=by
 by_cases e:x=a
 .subst e;obtain rfl:=h.rl x y b m k;simpa [Ah]using p
 .have d:y≠b:=λe2=>by subst e2;exact e (h.rr x a y m k)
  simpa [Ah,e,d]using q
theorem CJ.yO (h:CJ c t t' R S K L)(hi:i<20):CJ c t t' R S {K with ct:=K.yO i} {L with ct:=L.yO i}:=by
 obtain⟨e1,e2⟩|⟨u,x,y,e1,e2,d,k1,k2⟩:=h.tv i hi
 .unfold KS.yO;rw[e1,e2];exact h
 .by_cases j:u=330
  .subst j;rw[jJ e1,jJ e2];have g:=(h.rd x y d).1;have b:=g.e (.inl (k1 rfl).1);have a:=(h.rd _ _ b).1;exact h.di b ⟨a.k,a.f,a.ws,rfl,a.y,a.n,a.e⟩
  .by_cases l:u=334
   .subst l;rw[jI e1,jI e2];have g:=(h.rd x y d).1;have b:=g.e (.inr (k2 rfl).1);have a:=(h.rd _ _ b).1;exact h.di b ⟨a.k,a.f,a.ws,a.x,rfl,a.n,a.e⟩
   .have m:K.yO i=K.ct:=(by unfold KS.yO;rw[e1];simp[ptr,j,l]);have o:L.yO i=L.ct:=(by unfold KS.yO;rw[e2];simp[ptr,j,l]);rw[m,o];exact h
theorem CJ.drop (h:CJ c t t' R S K L)(hi:i<20):CJ c t t' R S (K.drop i) (L.drop i):=by
 unfold KS.drop;rw[h.desc i hi];by_cases e:L.desc i=1
 .rw[rW e,rW e];have b:=h.ef i hi;cases e1:K.ef i with
  |none=>
   cases e2:L.ef i with
   |some g=>rw[e1,e2]at b;exact b.elim
   |none=>
    have k:=h.yO hi
    exact⟨h.rl,h.rr,k.rd,h.sl,h.sr,h.sd,h.Ar,h.BG,h.core,h.swap,h.nm,h.nl,LJ h.desc rfl,LJ (P:=KE R) h.ef trivial,LJ (P:=TvR t t' R) h.tv (.inl ⟨rfl,rfl⟩)⟩
  |some f=>
   cases e2:L.ef i with
   |none=>rw[e1,e2]at b;exact b.elim
   |some g=>
    rw[e1,e2]at b
    have d:R f g:=b
    have l:=(h.rd f g d).2
    have j:∀x y,R x y->Ah K.op f (K.op f-1) x=Ah L.op g (L.op g-1) y:=λx y a=>h.upd (P:=Eq) d (h.rd x y a).2 (by rw[l]) a
    exact⟨h.rl,h.rr,λx y a=>⟨(h.rd x y a).1,j x y a⟩,h.sl,h.sr,h.sd,h.Ar,h.BG,h.core,h.swap,h.nm,h.nl.filter λx y a=>by rw[j x y a],LJ h.desc rfl,LJ (P:=KE R) h.ef trivial,LJ (P:=TvR t t' R) h.tv (.inl ⟨rfl,rfl⟩)⟩
 .rw[ru e,ru e];exact⟨h.rl,h.rr,h.rd,h.sl,h.sr,h.sd,h.Ar,h.BG,h.core,h.swap,h.nm,h.nl,LJ h.desc rfl,h.ef,h.tv⟩
theorem CJ.KO:∀{l:List Int} {K L:KS},CJ c t t' R S K L->(∀n∈l,n=-1\/∃i:Nat,n=i/\i<20)->CJ c t t' R S (K.KO l) (L.KO l)
 |[],_,_,h,_=>h
 |n::l,K,L,h,a=>by
  have b:=CJ.KO (l:=l) (K:=if n=-1 then K else K.drop n.toNat) (L:=if n=-1 then L else L.drop n.toNat)
  refine b ?_ λm d=>a m (by simp[d])
  split
  .exact h
  .rename_i f;obtain e|⟨i,rfl,hi⟩:=a n sJ
   .exact qx e f
   .exact h.drop hi
theorem CJ.ax9 (h:CJ c t t' R S K L){pid p:Nat}(u:pid=p)(z:bt7 pid K K')(C:bt7 p L L')(D:∀a q r r',a∈K.Ar->q∈K.Ar->K.ps a=some r->K.ps q=some r'->r.pid=r'.pid->a=q):CJ c t t' R S K' L':=by
 subst u;obtain⟨x,x1,rfl⟩:=z;obtain⟨y,n,rfl⟩:=C;obtain rfl:=h.cz3 x1 n D;refine⟨h.rl,h.rr,h.rd,h.sl,h.sr,λk l d=>?_,h.Ar,h.BG,h.core,h.swap,h.nm,h.nl,h.desc,h.ef,h.tv⟩;obtain⟨r,s,e1,e2,hR⟩:=h.sd k l d;have i:k∈K.Ar ↔ l∈L.Ar:=by
  constructor
  .intro b;obtain⟨m,q1,g⟩:=h.Ar.ϒ b;rw[h.sl k l m d g];exact q1
  .intro b;obtain⟨j,q1,g⟩:=h.Ar.ae2 b;rw[h.sr k j l d g];exact q1
 unfold UE;by_cases b:k∈K.Ar
 .have f:=i.1 b;simp only[rW b,rW f,e1,e2,Option.map_some];refine⟨_,_,rfl,rfl,?_⟩;rw[hR.par];split
  .exact⟨hR.pid,rfl,hR.st,hR.A,hR.B,hR.P,hR.sw,hR.en,hR.Af,hR.fds,hR.co,hR.bl⟩
  .exact hR
 .have f:l ∉ L.Ar:=λe=>b (i.2 e)
  simp only[ru b,ru f];exact⟨r,s,e1,e2,hR⟩
theorem bl2 (hR:Ep c R r s):Ep c R (EW r st) (EW s st):=⟨hR.pid,hR.par,rfl,rfl,rfl,rfl,rfl,rfl,rfl,rfl,λ_=>rfl,rfl,λh=>by simp[EW,iD]at h⟩
theorem CJ.end_ (h:CJ c t t' R S K L)(V:S a b)(W:K.ps a=some r)(Z:L.ps b=some s)(ok:∃NC NS,DU NC NS K)(X:sZ K a r st K')(Y:sZ L b s st L'):CJ c t t' R S K' L':=by
 obtain⟨NC,NS,ok⟩:=ok;have hR:=h.row V W Z;obtain⟨g,A,y,T,m1,_,rfl,M,F⟩:=X;obtain⟨n,B,c2,U,m2,_,rfl,C,G⟩:=Y;have H:=CJ.KO (l:=r.fds) h (ok.pr a r W).fd;rw[<-hR.fds]at C;have u:=H.out V M C;have I:CJ c t t' R S ((g.swap' (CE g.swap r.sw (Aj r.Af.length)) A y).Bj a (EW {r with co:=-1} st)) ((n.swap' (CE n.swap s.sw (Aj s.Af.length)) B c2).Bj b (EW {s with co:=-1} st)):=
  CJ.Bj (K:=g.swap' _ A y) (L:=n.swap' _ B c2) (u.maps u.core (by rw[u.swap,hR.sw,hR.Af])) V (bl2 (hR.coS λ_=>rfl));refine(I.ax9 hR.pid F G ?_).PV;have E:g.Ar=K.Ar:=by rw[m1.Ar];exact Zg.2
 have o:∀k q,g.ps k=some q->∃i,K.ps k=some i/\i.pid=q.pid:=λk q d=>by
  obtain⟨f,J⟩:=m1.ps
  rw[J k,Zg.1]at d
  cases hK:K.ps k with
  |none=>rw[hK]at d;cases d
  |some i=>rw[hK]at d;cases d;exact⟨i,rfl,rfl⟩
 intro x w q i m j hq v e;have key:∀k p,(CY g.ps a (EW {r with co:=-1} st)) k=some p->∃D,K.ps k=some D/\D.pid=p.pid:=λk p d=>by
  by_cases z:k=a
  .subst z;rw[Ag]at d;cases d;exact⟨r,W,rfl⟩
  .rw[BB z]at d;exact o k p d
 obtain⟨N,z1,O⟩:=key x q hq;obtain⟨p2,P,Q⟩:=key w i v;have m:x∈g.Ar:=m;have j:w∈g.Ar:=j;rw[E]at m j;exact ok.one x N w p2 m j z1 P (by rw[O,Q,e])
end
def FR (R:Nat->Nat->Prop)(f f':n_):Prop:=(f=.nilFunc/\f'=.nilFunc)\/((∃fn ca cb,f=.func fn ca cb)/\(∃fn ca cb,f'=.func fn ca cb)/\BlR R f f')
def IW (c:Bool)(S:Nat->Nat->Prop)(K L:KS)(x y:Nat)(f:n_)(x' y':Nat)(f':n_):Prop:=∃u u' R' S',CJ c u u' R' S' K L/\Jo u u' R' K L/\(∀p q,S p q->S' p q)/\x=x'/\y=y'/\FR R' f f'
section
variable {c:Bool}{t t':Tag}{R S:Nat->Nat->Prop}{K L K' L':KS}{a b:Nat}{r s:PR}{x y x' y':Nat}{f f':n_}
theorem IW.same (h:CJ c t t' R S K L)(g:Jo t t' R K L):IW c S K L x y .nilFunc x y .nilFunc:=⟨t,t',R,S,h,g,λ_ _ e=>e,rfl,rfl,.inl ⟨rfl,rfl⟩⟩
theorem IW.no (h:CJ c t t' R S K L)(g:Jo t t' R K L)(e:GY K n K' x y f)(k:GY L n L' x' y' f'):IW c S K' L' x y f x' y' f':=by
 obtain⟨rfl,rfl,rfl,rfl⟩:=e;obtain⟨rfl,rfl,rfl,rfl⟩:=k;exact IW.same h g
theorem Ep.DR (hR:Ep c R r s)(j:Nat):DR r j=DR s j:=by unfold Go.Fxa.DR;rw[hR.Af,hR.A]
theorem Ep.has (hR:Ep c R r s)(fd:Nat):r.has fd=s.has fd:=by unfold PR.has;rw[hR.fds]
theorem Ep.bs5 (hR:Ep c R r s){m:List Int}(e:l=m):Ep c R {r with fds:=l} {s with fds:=m}:=⟨hR.pid,hR.par,hR.st,hR.A,hR.B,hR.P,hR.sw,hR.en,hR.Af,e,hR.co,hR.bl⟩
theorem Ep.ax2 (hR:Ep c R r s){l m:List Nat}(e:l=m):Ep c R {r with Af:=l} {s with Af:=m}:=⟨hR.pid,hR.par,hR.st,hR.A,hR.B,hR.P,hR.sw,hR.en,e,hR.fds,hR.co,hR.bl⟩
theorem IV.one (g:IV l i)(h:IV l j):i=j:=by
 obtain e|e|e:=Nat.lt_trichotomy i j
 .exact qx g.1 (h.2 i e)
 .exact e
 .exact qx h.1 (g.2 j e)
theorem Least.one (m:∀k,k<20->d k=d' k)(hi:i<20)(p:j<20)(g:Least d i)(h:Least d' j):i=j:=by
 obtain e|e|e:=Nat.lt_trichotomy i j
 .exact qx ((m i hi).symm.trans g.1) (h.2 i e)
 .exact e
 .exact qx ((m j p).trans h.1) (g.2 j e)
theorem VR (h:r.fds[fd]?=some (i:Int)):r.has fd=true:=by
 unfold PR.has;rw[h];simp
theorem RU (h:IV l j):DF l≠0:=by
 unfold DF;have:(-1:Int)∈l.filter TL:=List.mem_filter.2 ⟨t_ h.1,rfl⟩;intro e;rw[List.eq_nil_of_length_eq_zero e]at this;cases this
theorem Xh (h:∀k,k<20->d k=d' k):Fq d 20=Fq d' 20:=by
 unfold Fq
 congr 1
 refine List.filter_congr λi hi=>?_
 rw[h i (List.mem_range.1 hi)]
theorem aa5 (h:CJ c t t' R S K L)(g:Jo t t' R K' L')(q:Jo t t' R K L)(p:S a b)(hR:Ep c R r s)(k:VY K a r fd K' x y f)(m:VY L b s fd L' x' y' f'):IW c S K' L' x y f x' y' f':=by
 obtain⟨d,k⟩|⟨i,d,p2,rfl,rfl,rfl,rfl⟩:=k<;>obtain⟨q1,m⟩|⟨j,q1,e,rfl,rfl,rfl,rfl⟩:=m
 .exact IW.no h q k m
 .rw[hR.has,VR q1]at d;cases d
 .rw[<-hR.has,VR d]at q1;cases q1
 .rw[<-hR.fds,d]at q1;obtain rfl:i=j:=by injection q1 with q1;exact Int.ofNat.inj q1
  exact IW.same (CJ.Bj (h.drop p2) p (hR.bs5 (by rw[hR.fds]))) g
theorem bh9 (h:CJ c t t' R S K L)(g:Jo t t' R K' L')(z:Jo t t' R K L)(u:S a b)(hR:Ep c R r s)(p:ϔ K a r fd K' x y f)(q:ϔ L b s fd L' x' y' f'):IW c S K' L' x y f x' y' f':=by
 obtain⟨d,p⟩|⟨d,p2,p⟩|⟨i,j,d,p2,p3,rfl,rfl,rfl,rfl⟩:=p<;>obtain⟨q1,q⟩|⟨q1,e,q⟩|⟨l,m,q1,e,k,rfl,rfl,rfl,rfl⟩:=q
 .exact IW.no h z p q
 .rw[hR.has,q1]at d;cases d
 .rw[hR.has,VR q1]at d;cases d
 .rw[hR.has,q1]at d;cases d
 .exact IW.no h z p q
 .rw[hR.fds]at p2;exact qx p2 (RU k)
 .rw[<-hR.has,VR d]at q1;cases q1
 .rw[<-hR.fds]at e;exact qx e (RU p3)
 .rw[<-hR.fds]at q1 k;obtain rfl:=p3.one k;rw[d]at q1;obtain rfl:i=l:=by injection q1 with q1;exact Int.ofNat.inj q1
  refine IW.same (CJ.Bj (K:={K with desc:=_}) (L:={L with desc:=_}) ⟨h.rl,h.rr,h.rd,h.sl,h.sr,h.sd,h.Ar,h.BG,h.core,h.swap,h.nm,h.nl,LJ h.desc (by rw[h.desc i p2]),h.ef,h.tv⟩ u (hR.bs5 (by rw[hR.fds]))) g
theorem uD {F I:Nat->Nat->KS->Nat->Nat->n_->Prop}{G H J M:Nat->KS->Nat->Nat->n_->Prop}(h:CJ c t t' R S K L)(N:Jo t t' R K L)(hR:Ep c R r s)(D:XFd K r fd F G H K' x y f)(E:XFd L s fd I J M L' x' y' f')
  (O:∀e C k k',R e C->(t e).1=12->R k k'->F e k K' x y f->I C k' L' x' y' f'->IW c S K' L' x y f x' y' f') (fr:∀e C,R e C->R (K.ct e).n (L.ct C).n->G e K' x y f->J C L' x' y' f'->IW c S K' L' x y f x' y' f') (P:∀e C,R e C->R (K.ct e).n (L.ct C).n->H e K' x y f->M C L' x' y' f'->IW c S K' L' x y f x' y' f'):IW c S K' L' x y f x' y' f':=by
 obtain⟨l,D⟩|⟨i,l,p2,D⟩:=D<;>obtain⟨q1,E⟩|⟨j,q1,B,E⟩:=E
 .exact IW.no h N D E
 .rw[hR.has,VR q1]at l;cases l
 .rw[<-hR.has,VR l]at q1;cases q1
 .rw[<-hR.fds,l]at q1;obtain rfl:i=j:=by injection q1 with q1;exact Int.ofNat.inj q1
  have z:=h.tv i p2;have key:∀{u v e C:Nat},K.tv i=.iface u (ptr e)->L.tv i=.iface v (ptr C)->u=v/\R e C:=fun {u v e C} D E=>by
   obtain⟨z1,o⟩|⟨w,a,b,z1,o,A,_⟩:=z
   .rw[D]at z1;cases z1
   .rw[D]at z1;rw[E]at o;cases z1;cases o;exact⟨rfl,A⟩
  obtain⟨e,k,v1,v2,D⟩|⟨e,v1,v2,D⟩|⟨e,v1,v2,D⟩:=D<;>obtain⟨C,k',w1,w2,E⟩|⟨C,w1,w2,E⟩|⟨C,w1,w2,E⟩:=E<;>obtain⟨q,g⟩:=key v1 w1<;>try (exfalso;revert q;decide)
  all_goals
   obtain⟨⟨d,_⟩,p,_⟩:=N e C g
   have m:=(h.rd e C g).1
   rw[v2]at d
   rw[w2]at p
  .have:=m.f (by rw[<-d]);rw[<-d,<-p]at this;exact O e C k k' g (by rw[<-d]) this D E
  .exact fr e C g (m.e (.inl (by rw[<-d]))) D E
  .exact P e C g (m.e (.inr (by rw[<-d]))) D E
end
end Go.Fxa
