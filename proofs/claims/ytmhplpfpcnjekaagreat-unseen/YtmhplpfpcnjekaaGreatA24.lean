/- Descriptors of a process; room -/
import Derived.Test.YtmhplpfpcnjekaaGreatA23
namespace Go.Fxa
open Conc Proofs RowKit Proofs.Tryz
set_option maxRecDepth 1000000
set_option maxHeartbeats 0
variable {l:List Int} {k b g c i rb N NC NS st:Nat} {n:Int} {d H:Nat->Nat} {w w':o_} {x:Nat×Nat}
def SN (n:Int):Bool:=n==-1
def DC (l:List Int):Nat:=(l.filter SN).length
def Ff (d:Nat->Nat) (k:Nat):Nat:=((List.range k).filter λi=>d i==0).length
theorem nD (h:l[k]?=some n):DC (l.take (k+1))=DC (l.take k)+(if SN n then 1 else 0):=by
 unfold DC;rw[List.take_add_one,h,List.filter_append,jR];cases h':SN n<;>simp[h']
theorem Ψ (l:List Int):DC l<=l.length:=List.length_filter_le _ _
theorem YQ (h:1<=DC l):∃i:Nat,l[i]?=some (-1):=by
 unfold DC at h;obtain⟨x,d⟩:=List.exists_mem_of_length_pos (l:=l.filter SN) zD;obtain⟨b,a⟩:=List.mem_filter.1 d;obtain⟨i,c⟩:=List.getElem?_of_mem b;exact⟨i,by rw[c];simp[SN]at a;rw[a]⟩
theorem uO:Ff d (k+1)=Ff d k+(if d k==0 then 1 else 0):=by
 unfold Ff;rw[List.range_succ,List.filter_append,jR];cases h:d k==0<;>simp[h]
theorem Vy (h:1<=Ff d 20):∃i,i<20/\d i=0:=by
 unfold Ff at h;obtain⟨x,c⟩:=List.exists_mem_of_length_pos (l:=(List.range 20).filter λi=>d i==0) zD;obtain⟨a,b⟩:=List.mem_filter.1 c;exact⟨x,List.mem_range.1 a,by simpa using b⟩
theorem ak6 (d:Nat->Nat) (k:Nat):Ff d k<=k:=by
 unfold Ff;have:=List.length_filter_le (λi=>d i==0) (List.range k);simpa using this
theorem AV.pX {K:KS} {r:PR} (h:AV K w) (f:K.ps b=some r) (j:r.en=false):∃g c,w.cell? (S_ b 9)=some (P_ g r.fds.length c)/\Rw 3 1 w g r.fds.length c (FM r.fds)/\K.T g=(8,b)/\r.fd=P_ g r.fds.length c:=by
 obtain⟨g,c,a,d,e⟩:=(h.ps b r f).fd j;exact⟨g,c,by rw[h.Il f];simp[PR.arr,a],d,e,a⟩
theorem Rw.OZ {n:Nat} (h:Rw 3 1 w g n c (FM l)) (e:n=l.length) {x:Int} (a:l[i]?=some x):w.cell? (S_ g i)=some (b_ x):=by
 have:=(KT.1 a).1;rw[h.cell zD];simp[FM,a]
theorem AV.bi1 {K:KS} {r:PR} {x:Int} (h:AV K w) (u:K.ps b=some r) (v:r.en=false) (q:r.fd=P_ g r.fds.length c) (s:Rw 3 1 w g r.fds.length c (FM r.fds)) (p:K.T g=(8,b)):AV (K.Bi b { r with fds:=r.fds.set i x }) (w.setCell (S_ g i) (b_ x))/\BN K.T K.T w (w.setCell (S_ g i) (b_ x)):=by
 have d:Ac (At g) w (w.setCell (S_ g i) (b_ x)):=(Ac.refl _ _).setCell _ λ_=>rfl
 have M:Dh K.T K.T (λt=>t=(6,b)\/t=(7,b)\/t=(8,b)\/t=(9,b)) (λt=>t=(6,b)\/t=(7,b)\/t=(8,b)\/t=(9,b)) w (w.setCell (S_ g i) (b_ x)):=Dh.of (d.on λk _ e=>by subst e;exact .inr (.inr (.inl p))) h.lt;have a:=h.ps b r u;have f:Ac (On K.T λt=>t=(8,b)) w (w.setCell (S_ g i) (b_ x)):=d.on λk _ e=>by subst e;exact p
 refine⟨h.jF M ⟨a.t,d.old a.o (λe=>?_),λe=>?_,λ_=>?_,a.bl.keep f zF,λe=>ql e (by simp[v])⟩,M.WB (by rintro t (rfl|rfl|rfl|rfl)<;>simp)⟩
 .have:=a.t;rw[show b=g from e,p]at this;simp at this
 .obtain⟨m,l,a1,a2,j⟩:=a.im e;exact⟨m,l,a1,a2.keep f (by unfold On;rw[j];simp),j⟩
 .have:=s.set (i:=i) (b_ x) rfl;refine⟨g,c,by rw[q];simp,?_,p⟩;simpa [FM,List.map_set]using this
def PR.has (r:PR) (fd:Nat):Bool:=match r.fds[fd]? with|some n=>n !=-1|none=>false
theorem ap8 {r:PR} {a:Nat} (h:r.fds[a]?=some n):r.has a=(n !=-1):=by unfold PR.has;rw[h]
def IK (l:List Int) (i:Nat):Prop:=l[i]?=some (-1)/\∀j,j<i->l[j]?≠some (-1)
section
variable (m:Nat) (w:o_)
theorem XV (K:KS) (b p:Nat) (r:PR) (h:AV K w) (q:K.ps b=some r) (s:r.en=false) (t:p<65536):
  O_ m 202 #[Q_ b,a_ (p:Nat)] w λe w'=>Ac No w w'/\∃x:Bool,e=.returned (.bool x)/\(x=true->∃n:Int,r.fds[p]?=some n/\n≠-1)/\ag (x=r.has p):=by
 obtain⟨g,c,o,l,_,_⟩:=h.pX q s;by_cases j:p<r.fds.length
 .have k:(p:Int)<(r.fds.length:Int):=zD
  have a:r.fds[p]?=some r.fds[p]:=IG j;generalize r.fds[p]=n at a;have d:=l.OZ rfl a;have f:=ap8 a;obtain i|i:(n !=-1)=true\/(n !=-1)=false:=by cases n !=-1<;>simp
  .gi_enter func202,ntmps202;gi_wp2;go_ret;exact⟨Ac.refl _ _,true,zF,λ_=>⟨n,a,by simpa using i⟩,by unfold ag;rw[f,i]⟩
  .obtain rfl:n=-1:=(by simpa using i);gi_enter func202,ntmps202;gi_wp2;go_ret;exact⟨Ac.refl _ _,false,zF,λe=>(by cases e),by unfold ag;rw[f];rfl⟩
 .have k:¬(p:Int)<(r.fds.length:Int):=zD
  gi_enter func202,ntmps202;gi_wp2;go_ret;have f:r.has p=false:=by unfold PR.has;rw[List.getElem?_eq_none zD]
  exact⟨Ac.refl _ _,zF,f⟩
theorem kN (K:KS) (b:Nat) (r:PR) (h:AV K w) (z:K.ps b=some r) (A:r.en=false) (B:r.fds.length<=1000):
  O_ m 204 #[Q_ b] w λe w'=>Ac No w w'/\e=.returned (b_ (DC r.fds)):=by
 obtain⟨g,c,x,u,_,_⟩:=h.pX z A;gi_enter func204,ntmps204;gi_wp2;gi_loopw [3,11] (λa i wr=>∃k:Nat,k<=r.fds.length/\a=b_ (DC (r.fds.take k))/\i=b_ k/\Ac No w wr) (λ_ i _=>r.fds.length-(intOf i).toNat)
 case atStart=>exact⟨0,zD,rfl,rfl,Ac.refl _ _⟩
 case round=>
  obtain⟨k,v,rfl,rfl,KK⟩:=hrel
  have l:=Ψ (r.fds.take k)
  have q:(r.fds.take k).length<=k:=List.length_take_le _ _
  by_cases t:k<r.fds.length
  .have j:r.fds[k]?=some r.fds[k]:=IG t;generalize r.fds[k]=n at j;have d:=(u.keep KK id).OZ rfl j;have f:=nD j;generalize DC (r.fds.take k)=s at f l;generalize p:DC (r.fds.take (k+1))=y at f;obtain o|o:(n==-1)=true\/(n==-1)=false:=by cases n==-1<;>simp
   .simp only[SN,o,if_true]at f;gi_wp2;go_roundw
    case rel=>exact⟨k+1,zD,by rw[p,f];go_num,by go_num,KK⟩
    case measure=>simp[intOf];omega
   .simp only[SN,o]at f;gi_wp2;go_roundw
    case rel=>exact⟨k+1,zD,by rw[p,f];go_num,by go_num,KK⟩
    case measure=>simp[intOf];omega
  .obtain rfl:k=r.fds.length:=zD;gi_wp2;go_ret;exact⟨KK,zF⟩
theorem ap4 (g c:Nat) (l:List Int) (u:Rw 3 1 w g l.length c (FM l)) (v:∃i:Nat,l[i]?=some (-1)) (y:l.length<=1000):
  O_ m 232 #[P_ g l.length c,b_ (-1)] w λe w'=>Ac No w w'/\∃i:Nat,e=.returned (b_ i)/\IK l i:=by
 obtain⟨z,f⟩:=v;have r:=(KT.1 f).1;gi_enter func232,ntmps232;gi_wp2;gi_loopw [8] (λi wr=>∃k:Nat,k<=z/\i=b_ k/\Ac No w wr/\∀j,j<k->l[j]?≠some (-1)) (λi _=>z-(intOf i).toNat)
 case atStart=>exact⟨0,zD,rfl,Ac.refl _ _,λj h=>ql h zD⟩
 case round=>
  obtain⟨k,t,rfl,KK,o⟩:=hrel
  have p:k<l.length:=zD
  have a:l[k]?=some l[k]:=IG p
  generalize l[k]=n at a
  have d:=(u.keep KK id).OZ rfl a
  by_cases b:n=-1
  .subst b;gi_wp2;go_ret;exact⟨KK,k,zF,a,o⟩
  .have q:(-1==n)=false:=(by simpa using(λe=>b e.symm:¬-1=n));have:k≠z:=(by rintro rfl;rw[a]at f;exact b (by simpa using f));gi_wp2;go_roundw
   case rel=>exact⟨k+1,zD,by go_num,KK,λj s=>by by_cases e:j=k;subst e;rw[a];simpa using b;exact o j zD⟩
   case measure=>simp[intOf];omega
theorem Ul (K:KS) (b:Nat) (x:Int) (r:PR) (h:AV K w) (t:K.ps b=some r) (u:r.en=false) (v:r.fds.length<=1000) (y:1<=DC r.fds):
  O_ m 200 #[Q_ b,b_ x] w λe w'=>∃i:Nat,IK r.fds i/\e=.returned (b_ i)/\AV (K.Bi b { r with fds:=r.fds.set i x }) w'/\BN K.T K.T w w':=by
 obtain⟨g,c,n,j,o,k⟩:=h.pX t u;have ci:=λm=>ap4 m w g c r.fds j (YQ y) v
 gi_enter func200,ntmps200;gi_wp2_with (gi_at_call 232;refine(ci _).mono ?_;rintro e w1 ⟨a,i,rfl,f⟩;have l:=f.1;have n:=a.has n;have p:=(KT.1 l).1;have q:(i:Int)<(r.fds.length:Int):=zD;have d:=(j.keep a id).OZ rfl l;have s:=(j.keep a id).fz i);go_ret;have:=(h.no a).bi1 (i:=i) (x:=x) t u k (j.keep a id) o;exact⟨i,f,zF,this.1,(BN.no a h.lt).trans this.2⟩
theorem bb7 {K:KS} {w:o_} (h:AV K w):∃es:X_,(Instr.loadAt 110 (.pointer (some (S_ K.kb 21)))).run prog w=.ok (.agg es) w/\∀i,i<20->∃v,v.oneCell'=true/\∀w,(Instr.index 110 (.agg es) (b_ (i:Nat))).run prog w=.ok (.agg #[v,b_ (K.desc i)]) w:=by
 obtain⟨a,t,d⟩:=h.k;have y:60<a.size:=by
  obtain⟨_,h,_⟩:=d.en 19 zD
  exact(y_.1 h).1
 have b:((a.toList.drop 21).take 40).length=40:=by simp;omega
 have f:=run_loadCells_list (P:=prog) w (S_ K.kb 21) ((a.toList.drop 21).take 40) (λj v c=>by
  have l:((S_ K.kb 21):f_).add j=(S_ K.kb (21+j)):=by unfold Addr.add;split<;>simp_all
  rw[l,Ah t]
  rw[List.getElem?_take]at c
  split at c
  .simpa using c
  .cases c)
 rw[b]at f;have a1:∀w,(isAgg 110).run prog w=.ok true w:=λw=>sJ
 have a2:∀w,(sizeOf 110).run prog w=.ok 40 w:=λw=>sJ
 have m:∀w,(isAgg 109).run prog w=.ok true w:=λw=>sJ
 have n:∀w,(sizeOf 109).run prog w=.ok 2 w:=λw=>sJ
 refine⟨((a.toList.drop 21).take 40).toArray,by simp[Instr.loadAt,loadVar,Instr.sureAddr,a1,a2,f],λi s=>?_⟩;obtain⟨p,q,r,_⟩:=d.en i s;generalize K.tv i=v at*;refine⟨v,r,λw=>?_⟩;have e:((a.toList.drop 21).take 40).toArray.extract (i*2) (i*2+2)=#[v,b_ (K.desc i)]:=by
  apply Array.ext_getElem?
  intro j
  rw[Array.getElem?_extract]
  simp only[List.size_toArray,b,List.getElem?_toArray,List.getElem?_take,List.getElem?_drop,Array.getElem?_toList]
  have u:min (i*2+2) 40-i*2=2:=zD
  rw[u]
  match j with
  |0=>simp;exact⟨zD,p⟩
  |1=>simp;exact⟨zD,q⟩
  |j+2=>rw[ru zD];simp
 have o:∀w:o_,(asIntOf (b_ (i:Nat))).run prog w=.ok (.i64,(i:Int)) w:=λ_=>rfl
 have x:∀w,(underlying 110).run prog w=.ok (.array 20 109) w:=run_underlying underlying110;generalize ((a.toList.drop 21).take 40).toArray=es at e;have g:(i:Int)<20:=zD
 simp[Instr.index,o,x,part,m,n,e,g]
theorem Τ {w:o_} {a b v u:n_} (h:w.heap[rb]?=some (N_ #[a,b] 109)) (o:v.oneCell'=true) (j:u.oneCell'=true):∃w',(Instr.storeAt 109 (Q_ rb) (.agg #[v,u])).run prog w=.ok () w'/\Ac (At rb) w w'/\w'.heap[rb]?=some (N_ #[v,u] 109):=by
 have e:(Instr.storeAt 109 (Q_ rb) (.agg #[v,u])).run prog w=(OE rb 0 [v,u] (.pure ())).run prog w:=sJ
 obtain⟨w',c,d,f⟩:=G7 (P:=prog) (k:=Sem.pure ()) [v,u] 0 _ w h zF (by simp[o,j]);refine⟨w',?_,d,?_⟩
 .rw[e,c];rfl
 .rw[f];simp[TY]
theorem ay7 (K:KS) (h:AV K w):
  O_ m 231 #[.pointer (some (S_ K.kb 21))] w λe w'=>Ac No w w'/\e=.returned (b_ (Ff K.desc 20)):=by
 obtain⟨E,j,g⟩:=bb7 h;gi_enter func231,ntmps231;gi_wp2_with (refine VF rfl (.tmp 8) 110 rfl rfl j ?_);gi_loopw [3,10] (λa i wr=>∃k:Nat,k<=20/\a=b_ (Ff K.desc k)/\i=b_ k/\Ac No w wr) (λ_ i _=>20-(intOf i).toNat)
 case atStart=>exact⟨0,zD,rfl,rfl,Ac.refl _ _⟩
 case round=>
  obtain⟨k,F,rfl,rfl,KK⟩:=hrel
  have l:=ak6 K.desc k
  by_cases z:k<20
  .have t:(k:Int)<20:=zD;obtain⟨v,o,c⟩:=g k z;have c:=c wr;have f:(wr.alloc (.cells #[.nilIface,b_ 0] 109)).heap[wr.heap.size]?=some (N_ #[.nilIface,b_ 0] 109):=Y7 rfl;obtain⟨w4,p,A,B⟩:=Τ (v:=v) (u:=b_ (K.desc k)) f o rfl;have r:Ac No w w4:=(KK.alloc _).trans A λx C e=>ql C (by rw[show x=wr.heap.size from e];have:=KK.size;omega)
   have D:w4.cell? (S_ wr.heap.size 1)=some (b_ (K.desc k)):=(Ah B 1).trans rfl;have b:=uO (d:=K.desc) (k:=k);generalize Ff K.desc k=s at b l;generalize q:Ff K.desc (k+1)=y at b;obtain n|n:((K.desc k:Int)==0)=true\/((K.desc k:Int)==0)=false:=by cases (K.desc k:Int)==0<;>simp
   .have b:y=s+1:=(by simpa [show K.desc k=0 by simpa using n]using b);gi_wp2_with (first|refine QX rfl (.tmp 9) (.tmp 10) 110 rfl rfl rfl c ?_|refine Dw rfl (.tmp 5) (.tmp 12) 109 rfl rfl rfl p ?_);go_roundw
    case rel=>exact⟨k+1,zD,by rw[q,b];go_num,by go_num,r⟩
    case measure=>simp[intOf];omega
   .have b:y=s:=(by simpa [show ¬K.desc k=0 by simpa using n]using b);gi_wp2_with (first|refine QX rfl (.tmp 9) (.tmp 10) 110 rfl rfl rfl c ?_|refine Dw rfl (.tmp 5) (.tmp 12) 109 rfl rfl rfl p ?_);go_roundw
    case rel=>exact⟨k+1,zD,by rw[q,b],by go_num,r⟩
    case measure=>simp[intOf];omega
  .obtain rfl:k=20:=zD;gi_wp2;go_ret;exact⟨KK,zF⟩
end
def KS.xy (K:KS) (i:Nat):Nat->Ct:=match K.tv i with
 |.iface t (.pointer (some a))=>if t=330 then Ag K.ct (K.ct a.block).n { K.ct (K.ct a.block).n with x:=false } else if t=334 then Ag K.ct (K.ct a.block).n { K.ct (K.ct a.block).n with y:=false } else K.ct
 |_=>K.ct
theorem iq {K:KS} (h:K.tv i=.iface 330 (ptr b)):K.xy i=Ag K.ct (K.ct b).n { K.ct (K.ct b).n with x:=false }:=by unfold KS.xy;rw[h];rfl
theorem ig {K:KS} (h:K.tv i=.iface 334 (ptr b)):K.xy i=Ag K.ct (K.ct b).n { K.ct (K.ct b).n with y:=false }:=by unfold KS.xy;rw[h];rfl
def KS.drop (K:KS) (i:Nat):KS:=
 if K.desc i=1 then match K.ef i with
  |some f=>{ K with desc:=Ag K.desc i 0,ef:=Ag K.ef i none,op:=Ag K.op f (K.op f-1),nl:=K.nl.filter λk=>!(Ag K.op f (K.op f-1) k==0),tv:=Ag K.tv i .nilIface }
  |none=>{ K with desc:=Ag K.desc i 0,ef:=Ag K.ef i none,tv:=Ag K.tv i .nilIface,ct:=K.xy i }
 else { K with desc:=Ag K.desc i (K.desc i-1) }
theorem Ya {α:Type} {f:Nat->α} {a b:α}:Ag (Ag f i a) i b=Ag f i b:=by funext k;unfold Ag;split<;>rfl
theorem ba8 (b:Nat):∀w:World,(method 468 337 (.pointer (some ⟨b,0,none⟩)) "ferry/files.close").run prog w=.ok (280,.pointer (some ⟨b,0,none⟩)) w:=λw=>by kernel_rfl
theorem bb4 (b:Nat):∀w:World,(method 468 330 (.pointer (some ⟨b,0,none⟩)) "ferry/files.close").run prog w=.ok (269,.pointer (some ⟨b,0,none⟩)) w:=λw=>by kernel_rfl
theorem ba9 (b:Nat):∀w:World,(method 468 334 (.pointer (some ⟨b,0,none⟩)) "ferry/files.close").run prog w=.ok (276,.pointer (some ⟨b,0,none⟩)) w:=λw=>by kernel_rfl
section
variable (m:Nat) (w:o_)
theorem yZ (K:KS) (i:Nat) (h:AV K w) (O:i<20) (P:0<K.desc i) (S:K.desc i<=1000) (R:K.nl.length<=100000) (Q:∀f,K.ef i=some f->1<=K.op f/\K.op f<=100000):
  O_ m 155 #[.pointer (some (S_ K.kb 21)),b_ (i:Nat)] w λe w'=>e=.returned (.tuple #[])/\AV (K.drop i) w'/\BN K.T K.T w w':=by
 obtain⟨v,x,L,M,F⟩:=h.ϻ O;have q:K.tv i=v:=x_ ((h.au2 O).symm.trans x);have G:=F P;have H:(i:Int)<20:=zD
 have J:=h.ϳ (21+i*2+1);by_cases k:K.desc i=1
 .have g:=h.aa2 (n:=0) O P;simp only[Int.natCast_zero]at g;obtain⟨b,⟨rfl,f,u,a⟩|⟨rfl,u,a⟩|⟨rfl,u,a⟩⟩:=G
  .clear q;have c:=λm=>π m _ _ b f g.1 u R (Q f a).1 (Q f a).2
   have C:=ba8 b;simp only[ptr]at x;gi_enter func155,ntmps155;gi_wp2_with (gi_at_call 280;refine(c _).mono ?_;rintro e w2 ⟨rfl,d,r⟩;obtain⟨D,y,z,_⟩:=d.ϻ O;have A:=d.ϳ (21+i*2);have B:=d.ϳ (21+i*2+1));go_end0;unfold KS.drop;rw[rC k,a];have j:=d.qm (i:=i) (n:=0) (v:=.nilIface) (o:=none) O rfl (λh=>ql h zD) (w':=(w2.setCell (S_ K.kb (21+i*2)) .nilIface).setCell (S_ K.kb (21+i*2+1)) (b_ 0)) (Ac.setCell (Ac.setCell (Ac.refl (At K.kb) w2) _ (p:=(S_ K.kb (21+i*2))) λ_=>rfl) _ (p:=(S_ K.kb (21+i*2+1))) λ_=>rfl) (λs t=>Ap (Ap t _) _);rw[Ya]at j;exact⟨zF,j.1,(g.2.trans r).trans j.2⟩
  .have l:=iq q;clear q;have c:=λm=>ζ m _ _ b g.1 u
   have C:=bb4 b;simp only[ptr]at x;gi_enter func155,ntmps155;gi_wp2_with (gi_at_call 269;refine(c _).mono ?_;rintro e w2 ⟨rfl,d,r⟩;obtain⟨D,y,z,_⟩:=d.ϻ O;have A:=d.ϳ (21+i*2);have B:=d.ϳ (21+i*2+1));go_end0;unfold KS.drop;rw[rC k,a,l];have j:=d.qm (i:=i) (n:=0) (v:=.nilIface) (o:=none) O rfl (λh=>ql h zD) (w':=(w2.setCell (S_ K.kb (21+i*2)) .nilIface).setCell (S_ K.kb (21+i*2+1)) (b_ 0)) (Ac.setCell (Ac.setCell (Ac.refl (At K.kb) w2) _ (p:=(S_ K.kb (21+i*2))) λ_=>rfl) _ (p:=(S_ K.kb (21+i*2+1))) λ_=>rfl) (λs t=>Ap (Ap t _) _);rw[Ya]at j;exact⟨zF,j.1,(g.2.trans r).trans j.2⟩
  .have l:=ig q;clear q;have c:=λm=>Ζ m _ _ b g.1 u
   have C:=ba9 b;simp only[ptr]at x;gi_enter func155,ntmps155;gi_wp2_with (gi_at_call 276;refine(c _).mono ?_;rintro e w2 ⟨rfl,d,r⟩;obtain⟨D,y,z,_⟩:=d.ϻ O;have A:=d.ϳ (21+i*2);have B:=d.ϳ (21+i*2+1));go_end0;unfold KS.drop;rw[rC k,a,l];have j:=d.qm (i:=i) (n:=0) (v:=.nilIface) (o:=none) O rfl (λh=>ql h zD) (w':=(w2.setCell (S_ K.kb (21+i*2)) .nilIface).setCell (S_ K.kb (21+i*2+1)) (b_ 0)) (Ac.setCell (Ac.setCell (Ac.refl (At K.kb) w2) _ (p:=(S_ K.kb (21+i*2))) λ_=>rfl) _ (p:=(S_ K.kb (21+i*2+1))) λ_=>rfl) (λs t=>Ap (Ap t _) _);rw[Ya]at j;exact⟨zF,j.1,(g.2.trans r).trans j.2⟩
 .clear q;have g:=h.aa2 (n:=K.desc i-1) O P;have E:((K.desc i-1:Nat):Int)=(K.desc i:Int)-1:=zD
  rw[E]at g;have I:((K.desc i:Int)-1==0)=false:=by simp;omega
  gi_enter func155,ntmps155;gi_wp2;go_end0;unfold KS.drop;rw[ru k];exact⟨zF,g.1,g.2⟩
theorem YF (K:KS) (b n:Nat) (r:PR) (h:AV K w) (p:K.ps b=some r) (u:r.en=false) (q:r.fds.length<=1000):
  O_ m 198 #[Q_ K.kb,Q_ b,b_ (n:Nat)] w λe w'=>((e=.returned (a_ 0)/\n<=DC r.fds/\n<=Ff K.desc 20)\/∃x:Nat,e=.returned (a_ x)/\((x:Int) !=0)=true/\x<65536/\ag ((DC r.fds<n/\x=7)\/(n<=DC r.fds/\Ff K.desc 20<n/\x=8)))/\Ac No w w':=by
 have c:=λm=>kN m w K b r h p u q
 have c2:=λm w1 (i:Ac No w w1)=>ay7 m w1 K (h.no i)
 generalize l:DC r.fds=s at c;generalize o:Ff K.desc 20=t at c2;gi_enter func198,ntmps198;by_cases j:s<n
 .have f:(s:Int)<n:=zD
  gi_wp2_with (gi_at_call 204;refine(c _).mono ?_;rintro e w1 ⟨a,rfl⟩);go_ret;exact⟨.inr ⟨7,zF,wB,zD,.inl ⟨zD,rfl⟩⟩,a⟩
 .have f:¬(s:Int)<n:=zD
  by_cases k:t<n
  .have g:(t:Int)<n:=zD;gi_wp2_with (first|(gi_at_call 204;refine(c _).mono ?_;rintro e w1 ⟨a,rfl⟩)|(gi_at_call 231;refine(c2 _ _ a).mono ?_;rintro e w2 ⟨d,rfl⟩));go_ret;exact⟨.inr ⟨8,zF,wB,zD,.inr ⟨zD,zD,rfl⟩⟩,a.then d⟩
  .have g:¬(t:Int)<n:=zD;gi_wp2_with (first|(gi_at_call 204;refine(c _).mono ?_;rintro e w1 ⟨a,rfl⟩)|(gi_at_call 231;refine(c2 _ _ a).mono ?_;rintro e w2 ⟨d,rfl⟩));go_ret;exact⟨.inl ⟨zF,zD,zD⟩,a.then d⟩
end
def DI (d:Nat->Nat) (e:Nat->d_ Nat) (f:Nat):Nat:=BK (λi=>if 0<d i/\e i=some f then 1 else 0) (List.range 20)
theorem YL {f:Nat->Nat}:∀{l:List Nat},(∀b∈l,f b<=1)->BK f l<=l.length
 |[],_=>by simp[BK]
 |b::l,h=>by
  have c:=h b zF
  have d:=YL (f:=f) (l:=l) λx a=>h x (by simp[a])
  simp only[BK,List.length_cons];omega
theorem TB (d:Nat->Nat) (e:Nat->d_ Nat) (f:Nat):DI d e f<=20:=by
 have:=YL (f:=λi=>if 0<d i/\e i=some f then 1 else 0) (l:=List.range 20) (λb _=>by split<;>omega);simpa [DI]using this
theorem Qz {f:Nat->Nat}:∀{l:List Nat},1<=BK f l->∃b∈l,1<=f b
 |[],h=>by simp[BK]at h
 |b::l,h=>by
  simp only[BK]at h
  by_cases c:1<=f b
  .exact⟨b,zF,c⟩
  .obtain⟨x,d,a⟩:=Qz (f:=f) (l:=l) zD;exact⟨x,by simp[d],a⟩
theorem VC {α:Type} [DecidableEq α]:∀{l m:List α},l.Nodup->(∀x∈l,x∈m)->l.length<=m.length
 |[],_,_,_=>Nat.zero_le _
 |a::l,m,g,c=>by
  obtain⟨e,f⟩:=List.nodup_cons.1 g
  have b:a∈m:=c a zF
  have:=VC (l:=l) (m:=m.erase a) f λx d=>(List.mem_erase_of_ne (by rintro rfl;exact e d)).2 (c x (by simp[d]))
  rw[List.length_erase_of_mem b]at this
  have h:=List.length_pos_of_mem b
  simp only[List.length_cons];omega
structure EK (H:Nat->Nat) (K:KS):Prop where
 ho:∀i,i<20->K.desc i=H i
 le:∀i,i<20->H i<=1000
 op:∀f,K.op f=DI K.desc K.ef f
 nd:K.nl.Nodup
 nz:∀f∈K.nl,1<=K.op f
 nm:∀i j f,i<16->j<16->K.nm i=some f->K.nm j=some f->i=j
 dj:∀i f,i<16->K.nm i=some f->f ∉ K.nl
theorem EK.nl {K:KS} (h:EK H K):K.nl.length<=20:=by
 have:=VC (l:=K.nl.map some) (m:=(List.range 20).map K.ef) (by
  have:=h.nd
  rw[List.Nodup,List.pairwise_map]
  exact this.imp (by intro a b c e;exact c (by simpa using e))) (λx o=>by
  obtain⟨f,j,rfl⟩:=List.mem_map.1 o
  have d:=h.nz f j
  rw[h.op f]at d
  obtain⟨i,n,g⟩:=Qz d
  refine List.mem_map.2 ⟨i,n,?_⟩
  split at g
  .rename_i k;exact k.2
  .omega)
 simpa using this
theorem EK.eff {K:KS} (h:EK H K) {f:Nat} (j:i<20) (a:0<K.desc i) (e:K.ef i=some f):1<=K.op f/\K.op f<=100000:=by
 rw[h.op f];refine⟨?_,pV (TB _ _ _) zD⟩;have:=Oe (f:=λi=>if 0<K.desc i/\K.ef i=some f then 1 else 0) (List.mem_range.2 j);simp only[a,e]at this;simpa [DI]using this
theorem EK.congr {f:Nat->Nat} {K:KS} (h:EK H K) (e:∀i,i<20->f i=H i):EK f K:=⟨λi a=>(h.ho i a).trans (e i a).symm,λi a=>by rw[e i a];exact h.le i a,h.op,h.nd,h.nz,h.nm,h.dj⟩
theorem EK.drop {K:KS} (h:EK H K) (s:i<20) (t:0<H i):EK (Ag H i (H i-1)) (K.drop i):=by
 have r:=h.ho i s;have c:∀j,j<20->Ag H i (H i-1) j<=1000:=λj b=>by unfold Ag;split;have:=h.le i s;omega;exact h.le j b
 unfold KS.drop;by_cases l:K.desc i=1
 .rw[rC l];have n:∀j,j<20->Ag K.desc i 0 j=Ag H i (H i-1) j:=λj b=>by
   unfold Ag;split
   .omega
   .exact h.ho j b
  have d:∀g,DI (Ag K.desc i 0) (Ag K.ef i none) g+(if K.ef i=some g then 1 else 0)=DI K.desc K.ef g:=λg=>by
   have:=Jt (f:=λj=>if 0<Ag K.desc i 0 j/\Ag K.ef i none j=some g then 1 else 0) (g:=λj=>if 0<K.desc j/\K.ef j=some g then 1 else 0) List.nodup_range (List.mem_range.2 s) (λk p=>by simp only[Ag,ru p])
   have o:¬(0<Ag K.desc i 0 i/\Ag K.ef i none i=some g):=by simp[Ag]
   simp only[ru o,l]at this
   simp only[DI]
   simpa using this
  cases he:K.ef i with
  |none=>
   refine⟨n,c,λf=>?_,h.nd,h.nz,h.nm,h.dj⟩
   have:=d f
   rw[he]at this
   simp only[h.op f]
   simpa using this.symm
  |some f=>
   refine⟨n,c,λg=>?_,h.nd.filter _,λg a=>?_,h.nm,λj g b a q=>h.dj j g b a (List.mem_filter.1 q).1⟩
   .have a:=d g;rw[he]at a;show Ag K.op f (K.op f-1) g=DI (Ag K.desc i 0) (Ag K.ef i none) g;by_cases e:g=f
    .subst e;rw[rC rfl]at a;simp only[Ag,if_true,h.op]at a ⊢;omega
    .rw[ru (by simpa using ik e)]at a;have e2:Ag K.op f (K.op f-1) g=K.op g:=ru e;rw[e2,h.op g];omega
   .have:=(List.mem_filter.1 a).2;show 1<=Ag K.op f (K.op f-1) g;simp only[Bool.not_eq_true',beq_eq_false_iff_ne]at this;omega
 .rw[ru l];refine⟨λj b=>?_,c,λf=>?_,h.nd,h.nz,h.nm,h.dj⟩
  .show Ag K.desc i (K.desc i-1) j=_;unfold Ag;split
   .omega
   .exact h.ho j b
  .rw[h.op f];unfold DI;refine BO λj _=>?_
   show _=if 0<Ag K.desc i (K.desc i-1) j/\K.ef j=some f then 1 else 0
   unfold Ag;split
   .rename_i m;split
    .rename_i e;subst e;rw[rC ⟨zD,m.2⟩]
    .rfl
   .rename_i m;split
    .rename_i e;subst e;rw[ru (λh=>m ⟨zD,h.2⟩)]
    .rfl
def Ji (ps:Nat->d_ PR) (i b:Nat):Nat:=match ps b with|some r=>r.fds.count (i:Int)|none=>0
def BM (ps:Nat->d_ PR) (l:List Nat) (i:Nat):Nat:=BK (Ji ps i) l
theorem G8 {ps:Nat->d_ PR} {r:PR} (h:ps b=some r):Ji ps i b=r.fds.count (i:Int):=by unfold Ji;rw[h]
structure Iq (N:Nat) (x:W_) (K:KS):Prop where
 le:N<=1000
 so:Sound N K.swap
 ϱ:Zu K.swap
 xl:x.1+x.2<=N
 cnt:∀i,i<N->D5 i K.swap+BK (Nr i K.ps) K.Aw+OU i x.1 x.2=1
 pl:∀b r,K.ps b=some r->r.sw+Ai r.Af.length<=N
theorem Iq.sum {K:KS} (h:Iq N x K):Ht K.swap+BK (onS K.ps) K.Aw+x.2=N:=mZ h.so h.pl h.xl h.cnt
theorem Iq.fit {K:KS} (h:Iq N x K):Fit N K.swap:=h.so.fit (by have:=h.sum;omega)
theorem Iq.same {K K':KS} (h:Iq N x K) (e:K'.swap=K.swap) (j:∀i,BK (Nr i K'.ps) K'.Aw=BK (Nr i K.ps) K.Aw) (f:∀b r,K'.ps b=some r->r.sw+Ai r.Af.length<=N):Iq N x K':=
 ⟨h.le,by rw[e];exact h.so,by rw[e];exact h.ϱ,h.xl,λi a=>by rw[e,j];exact h.cnt i a,f⟩
structure PR.Ok (r:PR):Prop where
 A:r.A<65536
 B:r.B<65536
 P:r.P<65536
 st:r.st<65536
 pid:r.pid<=60000
 par:r.par<=60000
 Af:∀x∈r.Af,x<65536
 fds:r.en=false->r.fds.length=6
 fd:∀n∈r.fds,n=-1\/∃i:Nat,n=i/\i<20
 len:r.en=false->∃k,r.Af.length=8*k/\1<=k/\k<=16
 off:r.en=true->r.fds=[]/\r.Af=[]/\r.co=-1
def VY (ps:Nat->d_ PR) (b b':Nat):Prop:=∀r r',ps b=some r->ps b'=some r'->r.pid<r'.pid
structure Eo (NC NS:Nat) (K:KS):Prop where
 th:K.EJ
 nd:K.Aw.Nodup
 len:K.Aw.length<=12
 co:BU NC (0,0) K
 sw:Iq NS (0,0) K
 pr:∀b r,K.ps b=some r->r.Ok
 pid:∀b r,K.ps b=some r->1<=r.pid/\r.pid<=K.BD
 asc:K.Aw.Pairwise (VY K.ps)
 BD:K.BD<=60000
 Ef:EK (BM K.ps K.Aw) K
theorem Eo.one {K:KS} (h:Eo NC NS K) (b:Nat) (r:PR) (j:Nat) (r':PR) (q:b∈K.Aw) (m:j∈K.Aw) (p:K.ps b=some r) (o:K.ps j=some r') (e:r.pid=r'.pid):b=j:=by
 have key:∀l:List Nat,l.Pairwise (VY K.ps)->b∈l->j∈l->b=j:=λl=>by
  induction l with
  |nil=>intro _ h;cases h
  |cons c l i=>
   intro g f a
   obtain⟨d,p2⟩:=List.pairwise_cons.1 g
   obtain e1|e1:=r_.1 f
   .obtain e2|e2:=r_.1 a
    .rw[e1,e2]
    .subst e1;have:=d _ e2 _ _ p o;omega
   .obtain e2|e2:=r_.1 a
    .subst e2;have:=d _ e1 _ _ o p;omega
    .exact i p2 e1 e2
 exact key K.Aw h.asc q m
theorem VY.imp {ps j:Nat->d_ PR} {l:List Nat} (h:l.Pairwise (VY ps)) (m:∀b r',b∈l->j b=some r'->∃r,ps b=some r/\r'.pid=r.pid):l.Pairwise (VY j):=
 List.Pairwise.imp_of_mem (fun {a b} f g c r r' d e=>by
  obtain⟨q,e1,e2⟩:=m a r f d
  obtain⟨i,e3,e4⟩:=m b r' g e
  rw[e2,e4];exact c q i e1 e3) h
structure PR.Same (r r':PR):Prop where
 pid:r'.pid=r.pid
 st:r'.st=r.st
 en:r'.en=r.en
 A:r'.A=r.A
 B:r'.B=r.B
 P:r'.P=r.P
 Af:r'.Af=r.Af
 fds:r'.fds=r.fds
theorem PR.Same.refl (r:PR):r.Same r:=⟨rfl,rfl,rfl,rfl,rfl,rfl,rfl,rfl⟩
theorem PR.Same.trans {r r' e:PR} (h:r.Same r') (a:r'.Same e):r.Same e:=⟨a.pid.trans h.pid,a.st.trans h.st,a.en.trans h.en,a.A.trans h.A,a.B.trans h.B,a.P.trans h.P,a.Af.trans h.Af,a.fds.trans h.fds⟩
structure Rel (b:Nat) (K K':KS):Prop where
 keep:∀k r,k∈K.Aw->K.ps k=some r->k≠b->(k∈K'.Aw/\∃r',K'.ps k=some r'/\r.Same r')\/(k ∉ K'.Aw/\r.en=true)
 come:∀k,k∈K'.Aw->k∈K.Aw\/(K.ps k=none/\∀r,K'.ps k=some r->K.BD<r.pid)
 mono:∀k,K.ps k≠none->K'.ps k≠none
 me:∀r,K.ps b=some r->∃r',K'.ps b=some r'/\r'.pid=r.pid
 BD:K.BD<=K'.BD
 kb:K'.kb=K.kb
 th:K.EJ->K'.EJ
theorem Rel.refl (b:Nat) (K:KS):Rel b K K:=⟨λ_ r a c _=>.inl ⟨a,r,c,.refl r⟩,λ_ h=>.inl h,λ_ h=>h,λr h=>⟨r,h,rfl⟩,w_ _,rfl,id⟩
theorem Rel.trans {K K' K'':KS} (h:Rel b K K') (t:Rel b K' K'') (v:K.ps b≠none) (u:K.EJ):Rel b K K'':=by
 refine⟨λk r g l q=>?_,λk j=>?_,λk j=>t.mono k (h.mono k j),λr m=>?_,pV h.BD t.BD,t.kb.trans h.kb,λu=>t.th (h.th u)⟩
 .obtain⟨a1,i,a2,p⟩|⟨a1,a2⟩:=h.keep k r g l q
  .obtain⟨f,n,a,o⟩|⟨f,a⟩:=t.keep k i a1 a2 q
   .exact .inl ⟨f,n,a,p.trans o⟩
   .exact .inr ⟨f,by rw[<-p.en];exact a⟩
  .refine .inr ⟨λj=>?_,a2⟩;obtain c|⟨c,_⟩:=t.come k j
   .exact a1 c
   .exact h.mono k (by rw[l];simp) c
 .obtain c|⟨s,c2⟩:=t.come k j
  .obtain d|⟨d1,d2⟩:=h.come k c
   .exact .inl d
   .refine .inr ⟨d1,λr m=>?_⟩;by_cases e:k=b
    .subst e;exact ql d1 v
    .cases g:K'.ps k with
     |none=>obtain⟨i,l⟩:=h.th u k c;rw[g]at l;cases l
     |some i=>
      obtain⟨_,n,a,o⟩|⟨f,_⟩:=t.keep k i c g e
      .rw[m]at a;cases a;rw[o.pid];exact d2 i g
      .exact ql j f
  .refine .inr ⟨?_,λr m=>Nat.lt_of_le_of_lt h.BD (c2 r m)⟩;cases g:K.ps k with
   |none=>rfl
   |some r=>exact ql s (h.mono k (by rw[g];simp))
 .obtain⟨i,a1,a2⟩:=h.me r m;obtain⟨n,f,a⟩:=t.me i a1;exact⟨n,f,a.trans a2⟩
structure Maps (K K':KS) (g:Nat->PR->PR):Prop where
 ps:∀b,K'.ps b=(K.ps b).map (g b)
 Aw:K'.Aw=K.Aw
 swap:K'.swap=K.swap
 desc:K'.desc=K.desc
 op:K'.op=K.op
 ef:K'.ef=K.ef
 nl:K'.nl=K.nl
 nm:K'.nm=K.nm
 BD:K'.BD=K.BD
 kb:K'.kb=K.kb
 pid:∀b r,(g b r).pid=r.pid
 en:∀b r,(g b r).en=r.en
 Af:∀b r,(g b r).Af=r.Af
 fds:∀b r,(g b r).fds=r.fds
 sw:∀b r,(g b r).sw=r.sw
theorem Maps.get {K K':KS} {g:Nat->PR->PR} (m:Maps K K' g) {r:PR} (h:K.ps b=some r):K'.ps b=some (g b r):=by rw[m.ps,h];rfl
theorem Maps.back {K K':KS} {g:Nat->PR->PR} (m:Maps K K' g) {r':PR} (h:K'.ps b=some r'):∃r,K.ps b=some r/\r'=g b r:=by
 rw[m.ps]at h;cases h1:K.ps b with
 |none=>rw[h1]at h;cases h
 |some r=>rw[h1]at h;exact⟨r,rfl,by simpa using h.symm⟩
theorem Maps.Ef {K K':KS} {g:Nat->PR->PR} (m:Maps K K' g) (h:EK (BM K.ps K.Aw) K):EK (BM K'.ps K'.Aw) K':=by
 have e:∀i,BM K'.ps K'.Aw i=BM K.ps K.Aw i:=λi=>by
  unfold BM
  rw[m.Aw]
  refine BO λb _=>?_
  unfold Ji
  rw[m.ps]
  cases K.ps b with
  |none=>rfl
  |some r=>simp[m.fds]
 exact⟨λi a=>by rw[e,m.desc];exact h.ho i a,λi a=>by rw[e];exact h.le i a,by rw[m.op,m.desc,m.ef];exact h.op,by rw[m.nl];exact h.nd,by rw[m.nl,m.op];exact h.nz,by rw[m.nm];exact h.nm,by rw[m.nm,m.nl];exact h.dj⟩
theorem Maps.bo3 {K K':KS} {g:Nat->PR->PR} (m:Maps K K' g) (h:Iq N x K):Iq N x K':=by
 refine h.same m.swap (λi=>?_) λb r c=>?_
 .rw[m.Aw];refine BO λb _=>?_
  unfold Nr;rw[m.ps];cases K.ps b with
  |none=>rfl
  |some r=>simp[m.Af,m.sw]
 .obtain⟨r0,a,rfl⟩:=m.back c;rw[m.sw,m.Af];exact h.pl b r0 a
theorem Eo.maps {K K':KS} {g:Nat->PR->PR} (h:Eo NC NS K) (m:Maps K K' g) (o:∀b r,K.ps b=some r->(g b r).Ok) (j:BU NC (0,0) K'):Eo NC NS K':=by
 refine⟨λb a=>?_,by rw[m.Aw];exact h.nd,by rw[m.Aw];exact h.len,j,m.bo3 h.sw,λb r a=>?_,λb r a=>?_,?_,by rw[m.BD];exact h.BD,m.Ef h.Ef⟩
 .rw[m.Aw]at a;obtain⟨r,e⟩:=h.th b a;exact⟨_,m.get e⟩
 .obtain⟨r0,c,rfl⟩:=m.back a;exact o b r0 c
 .obtain⟨r0,c,rfl⟩:=m.back a;rw[m.pid,m.BD];exact h.pid b r0 c
 .rw[m.Aw];refine VY.imp h.asc λb f _ a=>?_
  obtain⟨r0,d,rfl⟩:=m.back a;exact⟨r0,d,m.pid b r0⟩
theorem Maps.rel {K K':KS} {g:Nat->PR->PR} (m:Maps K K' g) (b:Nat) (j:∀(k:Nat) (r:PR),k≠b->r.Same (g k r)):Rel b K K':=by
 refine⟨λk r d e f=>.inl ⟨by rw[m.Aw];exact d,_,m.get e,j k r f⟩,λk a=>.inl (by rw[m.Aw]at a;exact a),λk a=>?_,λr c=>⟨_,m.get c,m.pid b r⟩,by rw[m.BD];exact w_ _,m.kb,λi k a=>?_⟩
 .cases h:K.ps k with
  |none=>exact ql h a
  |some r=>rw[m.get h];simp
 .rw[m.Aw]at a;obtain⟨r,c⟩:=i k a;exact⟨_,m.get c⟩
theorem BR.maps {K K':KS} (m:BR K K'):∃f:Nat->Int,Maps K K' λb r=>{ r with co:=f b }:=by
 obtain⟨f,a⟩:=m.ps;exact⟨f,a,by rw[m.eq],by rw[m.eq],by rw[m.eq],by rw[m.eq],by rw[m.eq],by rw[m.eq],by rw[m.eq],by rw[m.eq],by rw[m.eq],λ_ _=>rfl,λ_ _=>rfl,λ_ _=>rfl,λ_ _=>rfl,λ_ _=>rfl⟩
theorem Eo.Ku {K K':KS} (h:Eo NC NS K) (m:BR K K') (j:BU NC (0,0) K'):Eo NC NS K':=by
 obtain⟨f,m⟩:=m.maps;refine h.maps m (λb r c=>?_) j;have o:=h.pr b r c;refine⟨o.A,o.B,o.P,o.st,o.pid,o.par,o.Af,o.fds,o.fd,o.len,λe=>⟨(o.off e).1,(o.off e).2.1,?_⟩⟩;obtain a|⟨_,_,_,a⟩:=(j.pl b _ (m.get c)).2
 .exact a
 .have:=(o.off e).2.1;simp only[this,Ai]at a;simp at a
theorem BR.rel {K K':KS} (m:BR K K') (b:Nat):Rel b K K':=by
 obtain⟨f,m⟩:=m.maps;exact m.rel b λ_ _ _=>⟨rfl,rfl,rfl,rfl,rfl,rfl,rfl,rfl⟩
theorem BR.get {K K':KS} (m:BR K K') {r:PR} (h:K.ps b=some r):∃c,K'.ps b=some { r with co:=c }:=by
 obtain⟨f,m⟩:=m.maps;exact⟨_,m.get h⟩
theorem Nu.maps {K K':KS} (m:Nu K K'):∃f:Nat->Nat,Maps K K' λb r=>{ r with par:=f b }:=by
 obtain⟨f,a⟩:=m.ps;exact⟨f,a,by rw[m.eq],by rw[m.eq],by rw[m.eq],by rw[m.eq],by rw[m.eq],by rw[m.eq],by rw[m.eq],by rw[m.eq],by rw[m.eq],λ_ _=>rfl,λ_ _=>rfl,λ_ _=>rfl,λ_ _=>rfl,λ_ _=>rfl⟩
theorem Maps.br1 {K K':KS} {g:Nat->PR->PR} (m:Maps K K' g) (f:K'.core=K.core) (e:∀b r,(g b r).co=r.co) (h:BU N x K):BU N x K':=by
 refine h.same f (λi=>?_) λb r c=>?_
 .rw[m.Aw];refine BO λb _=>?_
  unfold FX;rw[m.ps];cases K.ps b with
  |none=>rfl
  |some r=>simp[m.Af,e]
 .obtain⟨r0,a,rfl⟩:=m.back c;rw[m.Af,e];exact h.pl b r0 a
theorem Eo.au1 {K K':KS} (h:Eo NC NS K) (m:Nu K K') (e:∀b r,K'.ps b=some r->K.ps b=some r\/r.par<=1):Eo NC NS K':=by
 have a:K'.core=K.core:=by rw[m.eq]
 obtain⟨f,m⟩:=m.maps;refine h.maps m (λb r d=>?_) (m.br1 a (λ_ _=>rfl) h.co);have o:=h.pr b r d;refine⟨o.A,o.B,o.P,o.st,o.pid,?_,o.Af,o.fds,o.fd,o.len,o.off⟩;obtain c|c:=e b _ (m.get d)
 .exact(h.pr b _ c).par
 .exact pV c zD
theorem Nu.rel {K K':KS} (m:Nu K K') (b:Nat):Rel b K K':=by
 obtain⟨f,m⟩:=m.maps;exact m.rel b λ_ _ _=>⟨rfl,rfl,rfl,rfl,rfl,rfl,rfl,rfl⟩
theorem Ou {f:Nat->Nat} {p:Nat->Bool}:∀{l:List Nat},(∀b∈l,p b=false->f b=0)->BK f (l.filter p)=BK f l
 |[],_=>rfl
 |b::l,h=>by
  have a:=Ou (f:=f) (p:=p) (l:=l) λx c=>h x (by simp[c])
  cases hb:p b with
  |true=>rw[List.filter_cons_of_pos hb];simp only[BK,a]
  |false=>rw[List.filter_cons_of_neg (by simp[hb])];simp only[BK,a,h b zF hb];omega
theorem lM {ps:Nat->d_ PR} (h:(!Ua ps b)=false):∃r,ps b=some r/\r.en=true:=by
 unfold Ua at h;cases hb:ps b with
 |none=>rw[hb]at h;simp at h
 |some r=>rw[hb]at h;simp at h;exact⟨r,rfl,h.1⟩
theorem Eo.Qg {K:KS} (h:Eo NC NS K):Eo NC NS K.Qg:=by
 have d:∀b,b∈K.Qg.Aw->b∈K.Aw:=λb a=>(List.mem_filter.1 a).1
 have f:∀b,(!Ua K.ps b)=false->∃r,K.ps b=some r/\r.fds=[]/\r.Af=[]/\r.co=-1:=λb a=>by
  obtain⟨r,c,e⟩:=lM a
  exact⟨r,c,(h.pr b r c).off e⟩
 refine⟨λb a=>h.th b (d b a),h.nd.filter _,pV (List.length_filter_le _ _) h.len,h.co.same rfl (λi=>?_) h.co.pl,h.sw.same rfl (λi=>?_) h.sw.pl,h.pr,h.pid,h.asc.filter _,h.BD,?_⟩
 .show BK (FX i K.ps) (K.Aw.filter λb=>!Ua K.ps b)=_;exact Ou λb _ a=>by obtain⟨r,c,_,_,j⟩:=f b a;rw[Ej c,rC j]
 .show BK (Nr i K.ps) (K.Aw.filter λb=>!Ua K.ps b)=_;exact Ou λb _ a=>by obtain⟨r,c,_,g,_⟩:=f b a;rw[Jc c,g];exact SY _ _
 .refine EK.congr (K:=K.Qg) (H:=BM K.ps K.Aw) ⟨h.Ef.ho,h.Ef.le,h.Ef.op,h.Ef.nd,h.Ef.nz,h.Ef.nm,h.Ef.dj⟩ λi _=>?_
  show BK (Ji K.ps i) (K.Aw.filter λb=>!Ua K.ps b)=_;exact Ou λb _ a=>by obtain⟨r,c,e,_⟩:=f b a;rw[G8 c,e];rfl
theorem kU (K:KS) (b:Nat):Rel b K K.Qg:=by
 refine⟨λk r e c _=>?_,λk a=>.inl (List.mem_filter.1 a).1,λ_ h=>h,λr i=>⟨r,i,rfl⟩,w_ _,rfl,λg k a=>g k (List.mem_filter.1 a).1⟩;cases hg:Ua K.ps k with
 |false=>exact .inl ⟨List.mem_filter.2 ⟨e,by simp[hg]⟩,r,c,.refl r⟩
 |true=>
  obtain⟨j,d,f⟩:=lM (ps:=K.ps) (b:=k) (by simp[hg])
  rw[c]at d;cases d
  exact .inr ⟨λa=>by have:=(List.mem_filter.1 a).2;simp[hg]at this,f⟩
def JL (b:Nat) (ps ps':Nat->d_ PR):Prop:=∀k,k≠b->∃c:Int,ps' k=(ps k).map λq=>{ q with co:=c }
theorem JL.refl (b:Nat) (ps:Nat->d_ PR):JL b ps ps:=λk _=>match h:ps k with
 |none=>⟨0,zF⟩
 |some q=>⟨q.co,zF⟩
theorem JL.trans {p q r:Nat->d_ PR} (h:JL b p q) (j:JL b q r):JL b p r:=λk a=>by
 obtain⟨c,e⟩:=h k a;obtain⟨d,f⟩:=j k a;exact⟨d,by rw[f,e];cases p k<;>rfl⟩
theorem JL.set {ps:Nat->d_ PR} {r:PR}:JL b ps (C9 ps b r):=λk a=>by rw[BH a];exact JL.refl b ps k a
theorem BR.else {K K':KS} (m:BR K K') (b:Nat):JL b K.ps K'.ps:=λk _=>by
 obtain⟨f,a⟩:=m.ps;exact⟨f k,a k⟩
theorem JL.back {p q:Nat->d_ PR} (h:JL b p q) (f:k≠b) {r':PR} (e:q k=some r'):∃r c,p k=some r/\r'={ r with co:=c }:=by
 obtain⟨c,a⟩:=h k f;rw[a]at e;cases h1:p k with
 |none=>rw[h1]at e;cases e
 |some r=>rw[h1]at e;exact⟨r,c,rfl,by simpa using e.symm⟩
theorem JL.get {p q:Nat->d_ PR} (h:JL b p q) (e:k≠b) {r:PR} (f:p k=some r):∃c,q k=some { r with co:=c }:=by
 obtain⟨c,a⟩:=h k e;exact⟨c,by rw[a,f];rfl⟩
theorem Eo.step {K K':KS} {r r':PR} (h:Eo NC NS K) (u:K'.Aw=K.Aw) (y:K'.BD=K.BD) (v:K'.kb=K.kb) (s:JL b K.ps K'.ps) (C:K.ps b=some r) (p:K'.ps b=some r') (D:r'.Ok) (z:r'.pid=r.pid) (t:BU NC (0,0) K') (E:Iq NS (0,0) K') (F:EK (BM K'.ps K'.Aw) K'):Eo NC NS K'/\Rel b K K':=by
 have f:∀k q,K'.ps k=some q->∃g,K.ps k=some g/\q.pid=g.pid:=λk q a=>by
  by_cases e:k=b
  .subst e;rw[p]at a;cases a;exact⟨r,C,z⟩
  .obtain⟨g,c,d,rfl⟩:=s.back e a;exact⟨g,d,rfl⟩
 have l:K.EJ->K'.EJ:=λn k a=>by
  rw[u]at a
  by_cases e:k=b
  .subst e;exact⟨_,p⟩
  .obtain⟨q,i⟩:=n k a;obtain⟨c,t⟩:=s.get e i;exact⟨_,t⟩
 refine⟨⟨l h.th,by rw[u];exact h.nd,by rw[u];exact h.len,t,E,λk q a=>?_,λk q a=>?_,?_,by rw[y];exact h.BD,F⟩,⟨λk q d j m=>?_,λk a=>.inl (by rw[u]at a;exact a),λk a=>?_,λq i=>?_,by rw[y];exact w_ _,v,l⟩⟩
 .by_cases e:k=b
  .subst e;rw[p]at a;cases a;exact D
  .obtain⟨g,c,d,rfl⟩:=s.back e a;have o:=h.pr k g d;refine⟨o.A,o.B,o.P,o.st,o.pid,o.par,o.Af,o.fds,o.fd,o.len,λe=>⟨(o.off e).1,(o.off e).2.1,?_⟩⟩;obtain d|⟨_,_,_,d⟩:=(t.pl k _ a).2
   .exact d
   .have:=(o.off e).2.1;simp only[this,Ai]at d;simp at d
 .obtain⟨g,d,j⟩:=f k q a;rw[j,y];exact h.pid k g d
 .rw[u];exact VY.imp h.asc λk q _ a=>f k q a
 .obtain⟨c,t⟩:=s.get m j;exact .inl ⟨by rw[u];exact d,_,t,⟨rfl,rfl,rfl,rfl,rfl,rfl,rfl,rfl⟩⟩
 .by_cases e:k=b
  .subst e;rw[p];simp
  .cases d:K.ps k with
   |none=>exact ql d a
   |some q=>obtain⟨c,t⟩:=s.get e d;rw[t];simp
 .rw[C]at i;cases i;exact⟨r',p,z⟩
theorem QN {p q:Nat->d_ PR} {l:List Nat} {r r':PR} (h:l.Nodup) (o:b∈l) (m:JL b p q) (j:p b=some r) (e:q b=some r'):BM q l i+r.fds.count (i:Int)=BM p l i+r'.fds.count (i:Int):=by
 have:=Jt (f:=Ji q i) (g:=Ji p i) h o λk d=>by
  obtain⟨c,a⟩:=m k d
  unfold Ji
  rw[a];cases p k<;>rfl
 rw[G8 j,G8 e]at this;exact this
theorem TE {p:Nat->d_ PR} {l:List Nat} {r:PR} (e:b∈l) (a:p b=some r):r.fds.count (i:Int)<=BM p l i:=by
 have:=Oe (f:=Ji p i) e;rw[G8 a]at this;exact this
theorem Iq.step {y:Nat×Nat} {K K':KS} {r r':PR} (h:Iq N x K) (D:K'.Aw=K.Aw) (v:K.Aw.Nodup) (A:b∈K.Aw) (p:JL b K.ps K'.ps) (z:K.ps b=some r) (o:K'.ps b=some r') (t:Sound N K'.swap) (u:Zu K'.swap) (C:y.1+y.2<=N) (B:r'.sw+Ai r'.Af.length<=N) (s:∀i,D5 i K'.swap+OU i r'.sw (Ai r'.Af.length)+OU i y.1 y.2=D5 i K.swap+OU i r.sw (Ai r.Af.length)+OU i x.1 x.2):Iq N y K':=by
 refine⟨h.le,t,u,C,λi l=>?_,λk q a=>?_⟩
 .have:=Jt (f:=Nr i K'.ps) (g:=Nr i K.ps) v A λk a=>by
   obtain⟨c,j⟩:=p k a
   unfold Nr
   rw[j];cases K.ps k<;>rfl
  rw[Jc z,Jc o]at this;have n:=h.cnt i l;have:=s i;rw[D];omega
 .by_cases e:k=b
  .subst e;rw[o]at a;cases a;exact B
  .obtain⟨m,c,d,rfl⟩:=p.back e a;exact h.pl k m d
theorem Iq.mine {K:KS} {r:PR} (h:Iq N x K) (o:b∈K.Aw) (e:K.ps b=some r) (y:Nat) (j:r.sw<=y) (m:y<r.sw+Ai r.Af.length):D5 y K.swap=0:=by
 have c:=h.cnt y (by have:=h.pl b r e;omega);have a:=Oe (f:=Nr y K.ps) o;rw[Jc e,rW j m]at a;omega
theorem BN.own {T T':Tag} {f:o_} {S:Nat->Prop} (h:BN T T' w w') (j:Ac S w' f) (m:∀k,S k->w.heap.size<=k):BN T T' w f:=by
 refine⟨h.keep.trans j λk c e=>ql (m k e) zD,Dh.old h,Dh.new h,λb a=>Dh.lt h b (pV j.size a),Dh.fresh h⟩
theorem AV.own {K:KS} (h:AV K w) (f:Ac (At rb) w w') (j:K.T rb=(0,0)):AV K w':=
 h.keep (f.on λk _ e=>by subst e;exact j) λb a=>h.lt b (pV f.size a)
def EP (r:PR) (st:Nat):PR:=⟨r.pid,r.par,st,0,0,0,0,true,-1,.nilFunc,.slice none 0 0,.slice none 0 0,[],[]⟩
theorem aq8 {r:PR} (h:r.Ok) (a:st<65536):(EP r st).Ok:=by
 refine⟨?_,?_,?_,a,h.pid,h.par,?_,?_,?_,?_,λ_=>⟨rfl,rfl,rfl⟩⟩<;>simp[EP]
theorem uw {r r':PR} (h:w.heap[b]?=some r.obj) (f:r'.bl.oneCell'=true) (j:r'.im.oneCell'=true) (m:r'.fd.oneCell'=true):∃w',(Instr.storeAt 128 (Q_ b) (.agg r'.arr)).run prog w=.ok () w'/\Ac (At b) w w'/\w'.heap[b]?=some r'.obj:=by
 have e:(Instr.storeAt 128 (Q_ b) (.agg r'.arr)).run prog w=(OE b 0 r'.arr.toList (.pure ())).run prog w:=sJ
 obtain⟨w',a,c,d⟩:=G7 (P:=prog) (k:=Sem.pure ()) r'.arr.toList 0 _ w h (by show 0+12<=12;omega) (by simp[PR.arr,Value.oneCell']at *;simp[f,j,m]);refine⟨w',?_,c,?_⟩
 .rw[e,a];rfl
 .rw[d];simp[TY,PR.arr,PR.obj]
theorem AV.dead {K:KS} {r:PR} (h:AV K w) (j:K.ps b=some r) (f:Ac (At b) w w') (m:w'.heap[b]?=some (EP r st).obj):AV (K.Bi b (EP r st)) w'/\BN K.T K.T w w':=by
 have a:=h.ps b r j;have M:Dh K.T K.T (λt=>t=(6,b)\/t=(7,b)\/t=(8,b)\/t=(9,b)) (λt=>t=(6,b)\/t=(7,b)\/t=(8,b)\/t=(9,b)) w w':=Dh.of (f.on λk _ e=>by subst e;exact .inl a.t) h.lt;exact⟨h.jF M ⟨a.t,m,λe=>by simp[EP]at e,λe=>by simp[EP]at e,.inl rfl,λ_=>⟨rfl,rfl,rfl,rfl⟩⟩,M.WB (by rintro t (rfl|rfl|rfl|rfl)<;>simp)⟩
end Go.Fxa
