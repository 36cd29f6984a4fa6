/- Descriptors of a process; room -/
import Derived.Test.YtmhplpfpcnjekaaGreatA23
namespace Go.Fxa
open Conc Proofs RowKit Proofs.Tryz
set_option maxRecDepth 1000000
set_option maxHeartbeats 0
def aY (n:Int):Bool:=n==-1
def EI (l:List Int):Nat:=(l.filter aY).length
def Ia (d:Nat->Nat) (k:Nat):Nat:=((List.range k).filter λi=>d i==0).length
theorem gJ {l:List Int} {k:Nat} {n:Int} (h:l[k]?=some n):EI (l.take (k+1))=EI (l.take k)+(if aY n then 1 else 0):=by
 unfold EI;rw[List.take_add_one,h,List.filter_append,List.length_append];cases h':aY n<;>simp[h']
theorem uN (l:List Int):EI l<=l.length:=List.length_filter_le _ _
theorem nC {l:List Int} (h:1<=EI l):∃i:Nat,l[i]?=some (-1):=by
 unfold EI at h;obtain⟨x,d⟩:=List.exists_mem_of_length_pos (l:=l.filter aY) (by omega);obtain⟨b,a⟩:=List.mem_filter.1 d;obtain⟨i,c⟩:=List.getElem?_of_mem b;exact⟨i,by rw[c];simp[aY]at a;rw[a]⟩
theorem nH {d:Nat->Nat} {k:Nat}:Ia d (k+1)=Ia d k+(if d k==0 then 1 else 0):=by
 unfold Ia;rw[List.range_succ,List.filter_append,List.length_append];cases h:d k==0<;>simp[h]
theorem uS {d:Nat->Nat} (h:1<=Ia d 20):∃i,i<20/\d i=0:=by
 unfold Ia at h;obtain⟨x,c⟩:=List.exists_mem_of_length_pos (l:=(List.range 20).filter λi=>d i==0) (by omega);obtain⟨a,b⟩:=List.mem_filter.1 c;exact⟨x,List.mem_range.1 a,by simpa using b⟩
theorem Ο (d:Nat->Nat) (k:Nat):Ia d k<=k:=by
 unfold Ia;have:=List.length_filter_le (λi=>d i==0) (List.range k);simpa using this
theorem A8.qx {K:KS} {w:o_} {b:Nat} {r:PR} (h:A8 K w) (hb:K.ps b=some r) (hn:r.en=false):∃g c,w.cell? (T_ b 9)=some (Q_ g r.fds.length c)/\Rw 3 1 w g r.fds.length c (Fh r.fds)/\K.T g=(8,b)/\r.fd=Q_ g r.fds.length c:=by
 obtain⟨g,c,a,d,e⟩:=(h.ps b r hb).fd hn;exact⟨g,c,by rw[h.JK hb];simp[PR.arr,a],d,e,a⟩
theorem Rw.O7 {w:o_} {g n c:Nat} {l:List Int} (h:Rw 3 1 w g n c (Fh l)) (hn:n=l.length) {i:Nat} {x:Int} (hi:l[i]?=some x):w.cell? (T_ g i)=some (b_ x):=by
 have:=(O5.1 hi).1;rw[h.cell (by omega)];simp[Fh,hi]
theorem A8.am8 {K:KS} {w:o_} {b g c i:Nat} {r:PR} {x:Int} (h:A8 K w) (hb:K.ps b=some r) (hn:r.en=false) (h1:r.fd=Q_ g r.fds.length c) (h2:Rw 3 1 w g r.fds.length c (Fh r.fds)) (h3:K.T g=(8,b)):A8 (K.AP b { r with fds:=r.fds.set i x }) (w.setCell (T_ g i) (b_ x))/\BV K.T K.T w (w.setCell (T_ g i) (b_ x)):=by
 have d:Keep (At g) w (w.setCell (T_ g i) (b_ x)):=(p_ _ _).setCell _ λ_=>rfl
 have M:DY K.T K.T (λt=>t=(6,b)\/t=(7,b)\/t=(8,b)\/t=(9,b)) (λt=>t=(6,b)\/t=(7,b)\/t=(8,b)\/t=(9,b)) w (w.setCell (T_ g i) (b_ x)):=DY.of (d.on λk _ e=>by subst e;exact .inr (.inr (.inl h3))) h.lt;have a:=h.ps b r hb;have f:Keep (On K.T λt=>t=(8,b)) w (w.setCell (T_ g i) (b_ x)):=d.on λk _ e=>by subst e;exact h3
 refine⟨h.um M ⟨a.t,d.old a.o (λe=>?_),λe=>?_,λ_=>?_,a.bl.keep f (by simp),λe=>absurd e (by simp[hn])⟩,M.TL (by rintro t (rfl|rfl|rfl|rfl)<;>simp)⟩
 .have:=a.t;rw[show b=g from e,h3]at this;simp at this
 .obtain⟨m,l,a1,a2,j⟩:=a.im e;exact⟨m,l,a1,a2.keep f (by unfold On;rw[j];simp),j⟩
 .have:=h2.set (i:=i) (b_ x) rfl;refine⟨g,c,by rw[h1];simp,?_,h3⟩;simpa [Fh,List.map_set]using this
def PR.has (r:PR) (fd:Nat):Bool:=match r.fds[fd]? with|some n=>n !=-1|none=>false
theorem ϑ {r:PR} {fd:Nat} {n:Int} (h:r.fds[fd]?=some n):r.has fd=(n !=-1):=by unfold PR.has;rw[h]
def OH (l:List Int) (i:Nat):Prop:=l[i]?=some (-1)/\∀j,j<i->l[j]?≠some (-1)
section
variable (m:Nat) (w:o_)
theorem kG (K:KS) (b fd:Nat) (r:PR) (h:A8 K w) (hb:K.ps b=some r) (hn:r.en=false) (hf:fd<65536):
  P_ m 202 #[R_ b,a_ (fd:Nat)] w λe w'=>Keep No w w'/\∃x:Bool,e=.returned (.bool x)/\(x=true->∃n:Int,r.fds[fd]?=some n/\n≠-1)/\Hid (x=r.has fd):=by
 obtain⟨g,c,o,l,_,_⟩:=h.qx hb hn;by_cases j:fd<r.fds.length
 .have k:(fd:Int)<(r.fds.length:Int):=by omega
  have a:r.fds[fd]?=some r.fds[fd]:=Lh j;generalize r.fds[fd]=n at a;have d:=l.O7 rfl a;have f:=ϑ a;obtain i|i:(n !=-1)=true\/(n !=-1)=false:=by cases n !=-1<;>simp
  .gi_enter func202,ntmps202;gi_wp2;go_ret;exact⟨p_ _ _,true,by simp,λ_=>⟨n,a,by simpa using i⟩,by unfold Hid;rw[f,i]⟩
  .obtain rfl:n=-1:=(by simpa using i);gi_enter func202,ntmps202;gi_wp2;go_ret;exact⟨p_ _ _,false,by simp,λe=>(by cases e),by unfold Hid;rw[f];rfl⟩
 .have k:¬(fd:Int)<(r.fds.length:Int):=by omega
  gi_enter func202,ntmps202;gi_wp2;go_ret;have f:r.has fd=false:=by unfold PR.has;rw[List.getElem?_eq_none (by omega)]
  exact⟨p_ _ _,by simp,f⟩
theorem Ι (K:KS) (b:Nat) (r:PR) (h:A8 K w) (hb:K.ps b=some r) (hn:r.en=false) (hl:r.fds.length<=1000):
  P_ m 204 #[R_ b] w λe w'=>Keep No w w'/\e=.returned (b_ (EI r.fds)):=by
 obtain⟨g,c,x,u,_,_⟩:=h.qx hb hn;gi_enter func204,ntmps204;gi_wp2;gi_loopw [3,11] (λa i wr=>∃k:Nat,k<=r.fds.length/\a=b_ (EI (r.fds.take k))/\i=b_ k/\Keep No w wr) (λ_ i _=>r.fds.length-(intOf i).toNat)
 case atStart=>exact⟨0,by omega,rfl,rfl,p_ _ _⟩
 case round=>
  obtain⟨k,v,rfl,rfl,KK⟩:=hrel
  have l:=uN (r.fds.take k)
  have q:(r.fds.take k).length<=k:=List.length_take_le _ _
  by_cases t:k<r.fds.length
  .have j:r.fds[k]?=some r.fds[k]:=Lh t;generalize r.fds[k]=n at j;have d:=(u.keep KK id).O7 rfl j;have f:=gJ j;generalize EI (r.fds.take k)=s at f l;generalize p:EI (r.fds.take (k+1))=y at f;obtain o|o:(n==-1)=true\/(n==-1)=false:=by cases n==-1<;>simp
   .simp only[aY,o,if_true]at f;gi_wp2;go_roundw
    case rel=>exact⟨k+1,by omega,by rw[p,f];go_num,by go_num,KK⟩
    case measure=>simp[intOf];omega
   .simp only[aY,o]at f;gi_wp2;go_roundw
    case rel=>exact⟨k+1,by omega,by rw[p,f];go_num,by go_num,KK⟩
    case measure=>simp[intOf];omega
  .obtain rfl:k=r.fds.length:=(by omega);gi_wp2;go_ret;exact⟨KK,by simp⟩
theorem ύ (g c:Nat) (l:List Int) (hR:Rw 3 1 w g l.length c (Fh l)) (hs:∃i:Nat,l[i]?=some (-1)) (hl:l.length<=1000):
  P_ m 232 #[Q_ g l.length c,b_ (-1)] w λe w'=>Keep No w w'/\∃i:Nat,e=.returned (b_ i)/\OH l i:=by
 obtain⟨z,f⟩:=hs;have r:=(O5.1 f).1;gi_enter func232,ntmps232;gi_wp2;gi_loopw [8] (λi wr=>∃k:Nat,k<=z/\i=b_ k/\Keep No w wr/\∀j,j<k->l[j]?≠some (-1)) (λi _=>z-(intOf i).toNat)
 case atStart=>exact⟨0,by omega,rfl,p_ _ _,λj h=>absurd h (by omega)⟩
 case round=>
  obtain⟨k,t,rfl,KK,o⟩:=hrel
  have p:k<l.length:=by omega
  have a:l[k]?=some l[k]:=Lh p
  generalize l[k]=n at a
  have d:=(hR.keep KK id).O7 rfl a
  by_cases b:n=-1
  .subst b;gi_wp2;go_ret;exact⟨KK,k,by simp,a,o⟩
  .have q:(-1==n)=false:=(by simpa using(λe=>b e.symm:¬-1=n));have:k≠z:=(by rintro rfl;rw[a]at f;exact b (by simpa using f));gi_wp2;go_roundw
   case rel=>exact⟨k+1,by omega,by go_num,KK,λj s=>by by_cases e:j=k;subst e;rw[a];simpa using b;exact o j (by omega)⟩
   case measure=>simp[intOf];omega
theorem sK (K:KS) (b:Nat) (x:Int) (r:PR) (h:A8 K w) (hb:K.ps b=some r) (hn:r.en=false) (hl:r.fds.length<=1000) (hs:1<=EI r.fds):
  P_ m 200 #[R_ b,b_ x] w λe w'=>∃i:Nat,OH r.fds i/\e=.returned (b_ i)/\A8 (K.AP b { r with fds:=r.fds.set i x }) w'/\BV K.T K.T w w':=by
 obtain⟨g,c,n,j,o,k⟩:=h.qx hb hn;have ci:=λm=>ύ m w g c r.fds j (nC hs) hl
 gi_enter func200,ntmps200;gi_wp2_with (gi_at_call 232;refine(ci _).mono ?_;rintro e w1 ⟨a,i,rfl,f⟩;have l:=f.1;have n:=a.has n;have p:=(O5.1 l).1;have q:(i:Int)<(r.fds.length:Int):=(by omega);have d:=(j.keep a id).O7 rfl l;have s:=(j.keep a id).fz i);go_ret;have:=(h.no a).am8 (i:=i) (x:=x) hb hn k (j.keep a id) o;exact⟨i,f,by simp,this.1,(BV.no a h.lt).trans this.2⟩
theorem ag5 {K:KS} {w:o_} (h:A8 K w):∃es:X_,(Instr.loadAt 110 (.pointer (some (T_ K.kb 21)))).run prog w=.ok (.agg es) w/\∀i,i<20->∃v,v.oneCell'=true/\∀w,(Instr.index 110 (.agg es) (b_ (i:Nat))).run prog w=.ok (.agg #[v,b_ (K.desc i)]) w:=by
 obtain⟨a,t,d⟩:=h.k;have y:60<a.size:=by
  obtain⟨_,h,_⟩:=d.en 19 (by omega)
  exact(y_.1 h).1
 have b:((a.toList.drop 21).take 40).length=40:=by simp;omega
 have f:=run_loadCells_list (P:=prog) w (T_ K.kb 21) ((a.toList.drop 21).take 40) (λj v c=>by
  have l:((T_ K.kb 21):f_).add j=(T_ K.kb (21+j)):=by unfold Addr.add;split<;>simp_all
  rw[l,Af t]
  rw[List.getElem?_take]at c
  split at c
  .simpa using c
  .cases c)
 rw[b]at f;have a1:∀w,(isAgg 110).run prog w=.ok true w:=λw=>by kernel_rfl
 have a2:∀w,(sizeOf 110).run prog w=.ok 40 w:=λw=>by kernel_rfl
 have m:∀w,(isAgg 109).run prog w=.ok true w:=λw=>by kernel_rfl
 have n:∀w,(sizeOf 109).run prog w=.ok 2 w:=λw=>by kernel_rfl
 refine⟨((a.toList.drop 21).take 40).toArray,by simp[Instr.loadAt,loadVar,Instr.sureAddr,a1,a2,f],λi s=>?_⟩;obtain⟨p,q,r,_⟩:=d.en i s;generalize K.tv i=v at*;refine⟨v,r,λw=>?_⟩;have e:((a.toList.drop 21).take 40).toArray.extract (i*2) (i*2+2)=#[v,b_ (K.desc i)]:=by
  apply Array.ext_getElem?
  intro j
  rw[Array.getElem?_extract]
  simp only[List.size_toArray,b,List.getElem?_toArray,List.getElem?_take,List.getElem?_drop,Array.getElem?_toList]
  have u:min (i*2+2) 40-i*2=2:=by omega
  rw[u]
  match j with
  |0=>simp;exact⟨by omega,p⟩
  |1=>simp;exact⟨by omega,q⟩
  |j+2=>rw[if_neg (by omega)];simp
 have o:∀w:o_,(asIntOf (b_ (i:Nat))).run prog w=.ok (.i64,(i:Int)) w:=λ_=>rfl
 have x:∀w,(underlying 110).run prog w=.ok (.array 20 109) w:=run_underlying underlying110;generalize ((a.toList.drop 21).take 40).toArray=es at e;have g:(i:Int)<20:=by omega
 simp[Instr.index,o,x,part,m,n,e,g]
theorem uK {w:o_} {rb:Nat} {a b v u:n_} (h:w.heap[rb]?=some (O_ #[a,b] 109)) (hv:v.oneCell'=true) (hu:u.oneCell'=true):∃w',(Instr.storeAt 109 (R_ rb) (.agg #[v,u])).run prog w=.ok () w'/\Keep (At rb) w w'/\w'.heap[rb]?=some (O_ #[v,u] 109):=by
 have e:(Instr.storeAt 109 (R_ rb) (.agg #[v,u])).run prog w=(stores rb 0 [v,u] (.pure ())).run prog w:=by kernel_rfl
 obtain⟨w',c,d,f⟩:=Iy (P:=prog) (k:=Sem.pure ()) [v,u] 0 _ w h (by simp) (by simp[hv,hu]);refine⟨w',?_,d,?_⟩
 .rw[e,c];rfl
 .rw[f];simp[UJ]
theorem ad2 (K:KS) (h:A8 K w):
  P_ m 231 #[.pointer (some (T_ K.kb 21))] w λe w'=>Keep No w w'/\e=.returned (b_ (Ia K.desc 20)):=by
 obtain⟨E,j,g⟩:=ag5 h;gi_enter func231,ntmps231;gi_wp2_with (refine YX rfl (.tmp 8) 110 rfl rfl j ?_);gi_loopw [3,10] (λa i wr=>∃k:Nat,k<=20/\a=b_ (Ia K.desc k)/\i=b_ k/\Keep No w wr) (λ_ i _=>20-(intOf i).toNat)
 case atStart=>exact⟨0,by omega,rfl,rfl,p_ _ _⟩
 case round=>
  obtain⟨k,F,rfl,rfl,KK⟩:=hrel
  have l:=Ο K.desc k
  by_cases z:k<20
  .have t:(k:Int)<20:=(by omega);obtain⟨v,o,c⟩:=g k z;have c:=c wr;have f:(wr.alloc (.cells #[.nilIface,b_ 0] 109)).heap[wr.heap.size]?=some (O_ #[.nilIface,b_ 0] 109):=heap_alloc_new rfl;obtain⟨w4,p,A,B⟩:=uK (v:=v) (u:=b_ (K.desc k)) f o rfl;have r:Keep No w w4:=(KK.alloc _).trans A λx C e=>absurd C (by rw[show x=wr.heap.size from e];have:=KK.size;omega)
   have D:w4.cell? (T_ wr.heap.size 1)=some (b_ (K.desc k)):=(Af B 1).trans rfl;have b:=nH (d:=K.desc) (k:=k);generalize Ia K.desc k=s at b l;generalize q:Ia K.desc (k+1)=y at b;obtain n|n:((K.desc k:Int)==0)=true\/((K.desc k:Int)==0)=false:=by cases (K.desc k:Int)==0<;>simp
   .have b:y=s+1:=(by simpa [show K.desc k=0 by simpa using n]using b);gi_wp2_with (first|refine VF rfl (.tmp 9) (.tmp 10) 110 rfl rfl rfl c ?_|refine DU rfl (.tmp 5) (.tmp 12) 109 rfl rfl rfl p ?_);go_roundw
    case rel=>exact⟨k+1,by omega,by rw[q,b];go_num,by go_num,r⟩
    case measure=>simp[intOf];omega
   .have b:y=s:=(by simpa [show ¬K.desc k=0 by simpa using n]using b);gi_wp2_with (first|refine VF rfl (.tmp 9) (.tmp 10) 110 rfl rfl rfl c ?_|refine DU rfl (.tmp 5) (.tmp 12) 109 rfl rfl rfl p ?_);go_roundw
    case rel=>exact⟨k+1,by omega,by rw[q,b],by go_num,r⟩
    case measure=>simp[intOf];omega
  .obtain rfl:k=20:=(by omega);gi_wp2;go_ret;exact⟨KK,by simp⟩
end
def KS.clo (K:KS) (i:Nat):Nat->Ct:=match K.tv i with
 |.iface t (.pointer (some a))=>if t=330 then Aj K.ct (K.ct a.block).n { K.ct (K.ct a.block).n with x:=false } else if t=334 then Aj K.ct (K.ct a.block).n { K.ct (K.ct a.block).n with y:=false } else K.ct
 |_=>K.ct
theorem tJ {K:KS} {i b:Nat} (h:K.tv i=.iface 330 (ptr b)):K.clo i=Aj K.ct (K.ct b).n { K.ct (K.ct b).n with x:=false }:=by unfold KS.clo;rw[h];rfl
theorem ZQ {K:KS} {i b:Nat} (h:K.tv i=.iface 334 (ptr b)):K.clo i=Aj K.ct (K.ct b).n { K.ct (K.ct b).n with y:=false }:=by unfold KS.clo;rw[h];rfl
def KS.drop (K:KS) (i:Nat):KS:=
 if K.desc i=1 then match K.ef i with
  |some f=>{ K with desc:=Aj K.desc i 0,ef:=Aj K.ef i none,op:=Aj K.op f (K.op f-1),nl:=K.nl.filter λk=>!(Aj K.op f (K.op f-1) k==0),tv:=Aj K.tv i .nilIface }
  |none=>{ K with desc:=Aj K.desc i 0,ef:=Aj K.ef i none,tv:=Aj K.tv i .nilIface,ct:=K.clo i }
 else { K with desc:=Aj K.desc i (K.desc i-1) }
theorem Wl {α:Type} {f:Nat->α} {i:Nat} {a b:α}:Aj (Aj f i a) i b=Aj f i b:=by funext k;unfold Aj;split<;>rfl
theorem ag1 (b:Nat):∀w:World,(method 468 337 (.pointer (some ⟨b,0,none⟩)) "ferry/files.close").run prog w=.ok (280,.pointer (some ⟨b,0,none⟩)) w:=λw=>by kernel_rfl
theorem ag3 (b:Nat):∀w:World,(method 468 330 (.pointer (some ⟨b,0,none⟩)) "ferry/files.close").run prog w=.ok (269,.pointer (some ⟨b,0,none⟩)) w:=λw=>by kernel_rfl
theorem ag2 (b:Nat):∀w:World,(method 468 334 (.pointer (some ⟨b,0,none⟩)) "ferry/files.close").run prog w=.ok (276,.pointer (some ⟨b,0,none⟩)) w:=λw=>by kernel_rfl
section
variable (m:Nat) (w:o_)
theorem sS (K:KS) (i:Nat) (h:A8 K w) (hi:i<20) (hd:0<K.desc i) (JL:K.desc i<=1000) (hu:K.nl.length<=100000) (ho:∀f,K.ef i=some f->1<=K.op f/\K.op f<=100000):
  P_ m 155 #[.pointer (some (T_ K.kb 21)),b_ (i:Nat)] w λe w'=>e=.returned (.tuple #[])/\A8 (K.drop i) w'/\BV K.T K.T w w':=by
 obtain⟨v,x,L,M,F⟩:=h.xy hi;have q:K.tv i=v:=x_ ((h.xY hi).symm.trans x);have G:=F hd;have H:(i:Int)<20:=by omega
 have J:=h.Ϥ (21+i*2+1);by_cases k:K.desc i=1
 .have g:=h.xN (n:=0) hi hd;simp only[Int.natCast_zero]at g;obtain⟨b,⟨rfl,f,u,a⟩|⟨rfl,u,a⟩|⟨rfl,u,a⟩⟩:=G
  .clear q;have c:=λm=>vg m _ _ b f g.1 u hu (ho f a).1 (ho f a).2
   have C:=ag1 b;simp only[ptr]at x;gi_enter func155,ntmps155;gi_wp2_with (gi_at_call 280;refine(c _).mono ?_;rintro e w2 ⟨rfl,d,r⟩;obtain⟨D,y,z,_⟩:=d.xy hi;have A:=d.Ϥ (21+i*2);have B:=d.Ϥ (21+i*2+1));go_end0;unfold KS.drop;rw[if_pos k,a];have j:=d.jI (i:=i) (n:=0) (v:=.nilIface) (o:=none) hi rfl (λh=>absurd h (by omega)) (w':=(w2.setCell (T_ K.kb (21+i*2)) .nilIface).setCell (T_ K.kb (21+i*2+1)) (b_ 0)) (Keep.setCell (Keep.setCell (p_ (At K.kb) w2) _ (p:=(T_ K.kb (21+i*2))) λ_=>rfl) _ (p:=(T_ K.kb (21+i*2+1))) λ_=>rfl) (λt s=>Ak (Ak s _) _);rw[Wl]at j;exact⟨by simp,j.1,(g.2.trans r).trans j.2⟩
  .have l:=tJ q;clear q;have c:=λm=>uT m _ _ b g.1 u
   have C:=ag3 b;simp only[ptr]at x;gi_enter func155,ntmps155;gi_wp2_with (gi_at_call 269;refine(c _).mono ?_;rintro e w2 ⟨rfl,d,r⟩;obtain⟨D,y,z,_⟩:=d.xy hi;have A:=d.Ϥ (21+i*2);have B:=d.Ϥ (21+i*2+1));go_end0;unfold KS.drop;rw[if_pos k,a,l];have j:=d.jI (i:=i) (n:=0) (v:=.nilIface) (o:=none) hi rfl (λh=>absurd h (by omega)) (w':=(w2.setCell (T_ K.kb (21+i*2)) .nilIface).setCell (T_ K.kb (21+i*2+1)) (b_ 0)) (Keep.setCell (Keep.setCell (p_ (At K.kb) w2) _ (p:=(T_ K.kb (21+i*2))) λ_=>rfl) _ (p:=(T_ K.kb (21+i*2+1))) λ_=>rfl) (λt s=>Ak (Ak s _) _);rw[Wl]at j;exact⟨by simp,j.1,(g.2.trans r).trans j.2⟩
  .have l:=ZQ q;clear q;have c:=λm=>uC m _ _ b g.1 u
   have C:=ag2 b;simp only[ptr]at x;gi_enter func155,ntmps155;gi_wp2_with (gi_at_call 276;refine(c _).mono ?_;rintro e w2 ⟨rfl,d,r⟩;obtain⟨D,y,z,_⟩:=d.xy hi;have A:=d.Ϥ (21+i*2);have B:=d.Ϥ (21+i*2+1));go_end0;unfold KS.drop;rw[if_pos k,a,l];have j:=d.jI (i:=i) (n:=0) (v:=.nilIface) (o:=none) hi rfl (λh=>absurd h (by omega)) (w':=(w2.setCell (T_ K.kb (21+i*2)) .nilIface).setCell (T_ K.kb (21+i*2+1)) (b_ 0)) (Keep.setCell (Keep.setCell (p_ (At K.kb) w2) _ (p:=(T_ K.kb (21+i*2))) λ_=>rfl) _ (p:=(T_ K.kb (21+i*2+1))) λ_=>rfl) (λt s=>Ak (Ak s _) _);rw[Wl]at j;exact⟨by simp,j.1,(g.2.trans r).trans j.2⟩
 .clear q;have g:=h.xN (n:=K.desc i-1) hi hd;have E:((K.desc i-1:Nat):Int)=(K.desc i:Int)-1:=by omega
  rw[E]at g;have I:((K.desc i:Int)-1==0)=false:=by simp;omega
  gi_enter func155,ntmps155;gi_wp2;go_end0;unfold KS.drop;rw[if_neg k];exact⟨by simp,g.1,g.2⟩
theorem lU (K:KS) (b n:Nat) (r:PR) (h:A8 K w) (hb:K.ps b=some r) (hn:r.en=false) (hl:r.fds.length<=1000):
  P_ m 198 #[R_ K.kb,R_ b,b_ (n:Nat)] w λe w'=>((e=.returned (a_ 0)/\n<=EI r.fds/\n<=Ia K.desc 20)\/∃x:Nat,e=.returned (a_ x)/\((x:Int) !=0)=true/\x<65536/\Hid ((EI r.fds<n/\x=7)\/(n<=EI r.fds/\Ia K.desc 20<n/\x=8)))/\Keep No w w':=by
 have c:=λm=>Ι m w K b r h hb hn hl
 have c2:=λm w1 (i:Keep No w w1)=>ad2 m w1 K (h.no i)
 generalize l:EI r.fds=s at c;generalize o:Ia K.desc 20=t at c2;gi_enter func198,ntmps198;by_cases j:s<n
 .have f:(s:Int)<n:=by omega
  gi_wp2_with (gi_at_call 204;refine(c _).mono ?_;rintro e w1 ⟨a,rfl⟩);go_ret;exact⟨.inr ⟨7,by simp,by decide,by omega,.inl ⟨by omega,rfl⟩⟩,a⟩
 .have f:¬(s:Int)<n:=by omega
  by_cases k:t<n
  .have g:(t:Int)<n:=(by omega);gi_wp2_with (first|(gi_at_call 204;refine(c _).mono ?_;rintro e w1 ⟨a,rfl⟩)|(gi_at_call 231;refine(c2 _ _ a).mono ?_;rintro e w2 ⟨d,rfl⟩));go_ret;exact⟨.inr ⟨8,by simp,by decide,by omega,.inr ⟨by omega,by omega,rfl⟩⟩,a.then d⟩
  .have g:¬(t:Int)<n:=(by omega);gi_wp2_with (first|(gi_at_call 204;refine(c _).mono ?_;rintro e w1 ⟨a,rfl⟩)|(gi_at_call 231;refine(c2 _ _ a).mono ?_;rintro e w2 ⟨d,rfl⟩));go_ret;exact⟨.inl ⟨by simp,by omega,by omega⟩,a.then d⟩
end
def EM (d:Nat->Nat) (e:Nat->d_ Nat) (f:Nat):Nat:=BF (λi=>if 0<d i/\e i=some f then 1 else 0) (List.range 20)
theorem WS {f:Nat->Nat}:∀{l:List Nat},(∀b∈l,f b<=1)->BF f l<=l.length
 |[],_=>by simp[BF]
 |b::l,h=>by
  have c:=h b (by simp)
  have d:=WS (f:=f) (l:=l) λx a=>h x (by simp[a])
  simp only[BF,List.length_cons];omega
theorem nY (d:Nat->Nat) (e:Nat->d_ Nat) (f:Nat):EM d e f<=20:=by
 have:=WS (f:=λi=>if 0<d i/\e i=some f then 1 else 0) (l:=List.range 20) (λb _=>by split<;>omega);simpa [EM]using this
theorem Ws {f:Nat->Nat}:∀{l:List Nat},1<=BF f l->∃b∈l,1<=f b
 |[],h=>by simp[BF]at h
 |b::l,h=>by
  simp only[BF]at h
  by_cases c:1<=f b
  .exact⟨b,by simp,c⟩
  .obtain⟨x,d,a⟩:=Ws (f:=f) (l:=l) (by omega);exact⟨x,by simp[d],a⟩
theorem Uu {α:Type} [DecidableEq α]:∀{l m:List α},l.Nodup->(∀x∈l,x∈m)->l.length<=m.length
 |[],_,_,_=>Nat.zero_le _
 |a::l,m,g,c=>by
  obtain⟨e,f⟩:=List.nodup_cons.1 g
  have b:a∈m:=c a (by simp)
  have:=Uu (l:=l) (m:=m.erase a) f λx d=>(List.mem_erase_of_ne (by rintro rfl;exact e d)).2 (c x (by simp[d]))
  rw[List.length_erase_of_mem b]at this
  have h:=List.length_pos_of_mem b
  simp only[List.length_cons];omega
structure EH (H:Nat->Nat) (K:KS):Prop where
 ho:∀i,i<20->K.desc i=H i
 le:∀i,i<20->H i<=1000
 op:∀f,K.op f=EM K.desc K.ef f
 nd:K.nl.Nodup
 nz:∀f∈K.nl,1<=K.op f
 nm:∀i j f,i<16->j<16->K.nm i=some f->K.nm j=some f->i=j
 dj:∀i f,i<16->K.nm i=some f->f ∉ K.nl
theorem EH.nl {H:Nat->Nat} {K:KS} (h:EH H K):K.nl.length<=20:=by
 have:=Uu (l:=K.nl.map some) (m:=(List.range 20).map K.ef) (by
  have:=h.nd
  rw[List.Nodup,List.pairwise_map]
  exact this.imp (by intro a b c e;exact c (by simpa using e))) (λx o=>by
  obtain⟨f,j,rfl⟩:=List.mem_map.1 o
  have d:=h.nz f j
  rw[h.op f]at d
  obtain⟨i,n,g⟩:=Ws d
  refine List.mem_map.2 ⟨i,n,?_⟩
  split at g
  .rename_i k;exact k.2
  .omega)
 simpa using this
theorem EH.eff {H:Nat->Nat} {K:KS} (h:EH H K) {i f:Nat} (hi:i<20) (hd:0<K.desc i) (he:K.ef i=some f):1<=K.op f/\K.op f<=100000:=by
 rw[h.op f];refine⟨?_,Nat.le_trans (nY _ _ _) (by omega)⟩;have:=Ox (f:=λi=>if 0<K.desc i/\K.ef i=some f then 1 else 0) (List.mem_range.2 hi);simp only[hd,he]at this;simpa [EM]using this
theorem EH.congr {H H':Nat->Nat} {K:KS} (h:EH H K) (e:∀i,i<20->H' i=H i):EH H' K:=⟨λi a=>(h.ho i a).trans (e i a).symm,λi a=>by rw[e i a];exact h.le i a,h.op,h.nd,h.nz,h.nm,h.dj⟩
theorem EH.drop {H:Nat->Nat} {K:KS} (h:EH H K) {i:Nat} (hi:i<20) (hd:0<H i):EH (Aj H i (H i-1)) (K.drop i):=by
 have r:=h.ho i hi;have c:∀j,j<20->Aj H i (H i-1) j<=1000:=λj b=>by unfold Aj;split;have:=h.le i hi;omega;exact h.le j b
 unfold KS.drop;by_cases l:K.desc i=1
 .rw[if_pos l];have n:∀j,j<20->Aj K.desc i 0 j=Aj H i (H i-1) j:=λj b=>by
   unfold Aj;split
   .omega
   .exact h.ho j b
  have d:∀g,EM (Aj K.desc i 0) (Aj K.ef i none) g+(if K.ef i=some g then 1 else 0)=EM K.desc K.ef g:=λg=>by
   have:=Jb (f:=λj=>if 0<Aj K.desc i 0 j/\Aj K.ef i none j=some g then 1 else 0) (g:=λj=>if 0<K.desc j/\K.ef j=some g then 1 else 0) List.nodup_range (List.mem_range.2 hi) (λk p=>by simp only[Aj,if_neg p])
   have o:¬(0<Aj K.desc i 0 i/\Aj K.ef i none i=some g):=by simp[Aj]
   simp only[if_neg o,l]at this
   simp only[EM]
   simpa using this
  cases he:K.ef i with
  |none=>
   refine⟨n,c,λf=>?_,h.nd,h.nz,h.nm,h.dj⟩
   have:=d f
   rw[he]at this
   simp only[h.op f]
   simpa using this.symm
  |some f=>
   refine⟨n,c,λg=>?_,h.nd.filter _,λg a=>?_,h.nm,λj g b a q=>h.dj j g b a (List.mem_filter.1 q).1⟩
   .have a:=d g;rw[he]at a;show Aj K.op f (K.op f-1) g=EM (Aj K.desc i 0) (Aj K.ef i none) g;by_cases e:g=f
    .subst e;rw[if_pos rfl]at a;simp only[Aj,if_true,h.op]at a ⊢;omega
    .rw[if_neg (by simpa using Ne.symm e)]at a;have e2:Aj K.op f (K.op f-1) g=K.op g:=if_neg e;rw[e2,h.op g];omega
   .have:=(List.mem_filter.1 a).2;show 1<=Aj K.op f (K.op f-1) g;simp only[Bool.not_eq_true',beq_eq_false_iff_ne]at this;omega
 .rw[if_neg l];refine⟨λj b=>?_,c,λf=>?_,h.nd,h.nz,h.nm,h.dj⟩
  .show Aj K.desc i (K.desc i-1) j=_;unfold Aj;split
   .omega
   .exact h.ho j b
  .rw[h.op f];unfold EM;refine BQ λj _=>?_
   show _=if 0<Aj K.desc i (K.desc i-1) j/\K.ef j=some f then 1 else 0
   unfold Aj;split
   .rename_i m;split
    .rename_i e;subst e;rw[if_pos ⟨by omega,m.2⟩]
    .rfl
   .rename_i m;split
    .rename_i e;subst e;rw[if_neg (λh=>m ⟨by omega,h.2⟩)]
    .rfl
def I4 (ps:Nat->d_ PR) (i b:Nat):Nat:=match ps b with|some r=>r.fds.count (i:Int)|none=>0
def BP (ps:Nat->d_ PR) (l:List Nat) (i:Nat):Nat:=BF (I4 ps i) l
theorem Gv {ps:Nat->d_ PR} {i b:Nat} {r:PR} (h:ps b=some r):I4 ps i b=r.fds.count (i:Int):=by unfold I4;rw[h]
structure Hu (N:Nat) (x:W_) (K:KS):Prop where
 le:N<=1000
 so:Sound N K.swap
 Ϣ:XM K.swap
 xl:x.1+x.2<=N
 cnt:∀i,i<N->D5 i K.swap+BF (LP i K.ps) K.AV+NY i x.1 x.2=1
 pl:∀b r,K.ps b=some r->r.sw+Am r.Ae.length<=N
theorem Hu.sum {N:Nat} {x:Nat×Nat} {K:KS} (h:Hu N x K):GL K.swap+BF (onS K.ps) K.AV+x.2=N:=gu h.so h.pl h.xl h.cnt
theorem Hu.fit {N:Nat} {x:Nat×Nat} {K:KS} (h:Hu N x K):Fit N K.swap:=h.so.fit (by have:=h.sum;omega)
theorem Hu.same {N:Nat} {x:Nat×Nat} {K K':KS} (h:Hu N x K) (hc:K'.swap=K.swap) (hs:∀i,BF (LP i K'.ps) K'.AV=BF (LP i K.ps) K.AV) (hp:∀b r,K'.ps b=some r->r.sw+Am r.Ae.length<=N):Hu N x K':=
 ⟨h.le,by rw[hc];exact h.so,by rw[hc];exact h.Ϣ,h.xl,λi a=>by rw[hc,hs];exact h.cnt i a,hp⟩
structure PR.Ok (r:PR):Prop where
 A:r.A<65536
 B:r.B<65536
 P:r.P<65536
 st:r.st<65536
 pid:r.pid<=60000
 par:r.par<=60000
 Ae:∀x∈r.Ae,x<65536
 fds:r.en=false->r.fds.length=6
 fd:∀n∈r.fds,n=-1\/∃i:Nat,n=i/\i<20
 len:r.en=false->∃k,r.Ae.length=8*k/\1<=k/\k<=16
 off:r.en=true->r.fds=[]/\r.Ae=[]/\r.co=-1
def UT (ps:Nat->d_ PR) (b b':Nat):Prop:=∀r r',ps b=some r->ps b'=some r'->r.pid<r'.pid
structure GK (NC NS:Nat) (K:KS):Prop where
 th:K.EZ
 nd:K.AV.Nodup
 len:K.AV.length<=12
 co:BU NC (0,0) K
 sw:Hu NS (0,0) K
 pr:∀b r,K.ps b=some r->r.Ok
 pid:∀b r,K.ps b=some r->1<=r.pid/\r.pid<=K.BK
 asc:K.AV.Pairwise (UT K.ps)
 BK:K.BK<=60000
 Eh:EH (BP K.ps K.AV) K
theorem GK.one {NC NS:Nat} {K:KS} (h:GK NC NS K) (b:Nat) (r:PR) (b':Nat) (r':PR) (hm:b∈K.AV) (hm':b'∈K.AV) (hr:K.ps b=some r) (Gq:K.ps b'=some r') (e:r.pid=r'.pid):b=b':=by
 have key:∀l:List Nat,l.Pairwise (UT K.ps)->b∈l->b'∈l->b=b':=λl=>by
  induction l with
  |nil=>intro _ h;cases h
  |cons c l i=>
   intro g f a
   obtain⟨d,p2⟩:=List.pairwise_cons.1 g
   obtain e1|e1:=r_.1 f
   .obtain e2|e2:=r_.1 a
    .rw[e1,e2]
    .subst e1;have:=d _ e2 _ _ hr Gq;omega
   .obtain e2|e2:=r_.1 a
    .subst e2;have:=d _ e1 _ _ Gq hr;omega
    .exact i p2 e1 e2
 exact key K.AV h.asc hm hm'
theorem UT.imp {ps ps':Nat->d_ PR} {l:List Nat} (h:l.Pairwise (UT ps)) (hp:∀b r',b∈l->ps' b=some r'->∃r,ps b=some r/\r'.pid=r.pid):l.Pairwise (UT ps'):=
 List.Pairwise.imp_of_mem (fun {a b} f g c r r' d e=>by
  obtain⟨q,e1,e2⟩:=hp a r f d
  obtain⟨i,e3,e4⟩:=hp b r' g e
  rw[e2,e4];exact c q i e1 e3) h
structure PR.Same (r r':PR):Prop where
 pid:r'.pid=r.pid
 st:r'.st=r.st
 en:r'.en=r.en
 A:r'.A=r.A
 B:r'.B=r.B
 P:r'.P=r.P
 Ae:r'.Ae=r.Ae
 fds:r'.fds=r.fds
theorem PR.Same.refl (r:PR):r.Same r:=⟨rfl,rfl,rfl,rfl,rfl,rfl,rfl,rfl⟩
theorem PR.Same.trans {r r' r'':PR} (h:r.Same r') (h':r'.Same r''):r.Same r'':=⟨h'.pid.trans h.pid,h'.st.trans h.st,h'.en.trans h.en,h'.A.trans h.A,h'.B.trans h.B,h'.P.trans h.P,h'.Ae.trans h.Ae,h'.fds.trans h.fds⟩
structure Rel (b:Nat) (K K':KS):Prop where
 keep:∀k r,k∈K.AV->K.ps k=some r->k≠b->(k∈K'.AV/\∃r',K'.ps k=some r'/\r.Same r')\/(k ∉ K'.AV/\r.en=true)
 come:∀k,k∈K'.AV->k∈K.AV\/(K.ps k=none/\∀r,K'.ps k=some r->K.BK<r.pid)
 mono:∀k,K.ps k≠none->K'.ps k≠none
 me:∀r,K.ps b=some r->∃r',K'.ps b=some r'/\r'.pid=r.pid
 BK:K.BK<=K'.BK
 kb:K'.kb=K.kb
 th:K.EZ->K'.EZ
theorem Rel.refl (b:Nat) (K:KS):Rel b K K:=⟨λ_ r a c _=>.inl ⟨a,r,c,.refl r⟩,λ_ h=>.inl h,λ_ h=>h,λr h=>⟨r,h,rfl⟩,w_ _,rfl,id⟩
theorem Rel.trans {b:Nat} {K K' K'':KS} (h:Rel b K K') (h':Rel b K' K'') (hb:K.ps b≠none) (hT:K.EZ):Rel b K K'':=by
 refine⟨λk r g l q=>?_,λk j=>?_,λk j=>h'.mono k (h.mono k j),λr m=>?_,Nat.le_trans h.BK h'.BK,h'.kb.trans h.kb,λhT=>h'.th (h.th hT)⟩
 .obtain⟨a1,i,a2,p⟩|⟨a1,a2⟩:=h.keep k r g l q
  .obtain⟨f,n,a,o⟩|⟨f,a⟩:=h'.keep k i a1 a2 q
   .exact .inl ⟨f,n,a,p.trans o⟩
   .exact .inr ⟨f,by rw[<-p.en];exact a⟩
  .refine .inr ⟨λj=>?_,a2⟩;obtain c|⟨c,_⟩:=h'.come k j
   .exact a1 c
   .exact h.mono k (by rw[l];simp) c
 .obtain c|⟨s,c2⟩:=h'.come k j
  .obtain d|⟨d1,d2⟩:=h.come k c
   .exact .inl d
   .refine .inr ⟨d1,λr m=>?_⟩;by_cases e:k=b
    .subst e;exact absurd d1 hb
    .cases g:K'.ps k with
     |none=>obtain⟨i,l⟩:=h.th hT k c;rw[g]at l;cases l
     |some i=>
      obtain⟨_,n,a,o⟩|⟨f,_⟩:=h'.keep k i c g e
      .rw[m]at a;cases a;rw[o.pid];exact d2 i g
      .exact absurd j f
  .refine .inr ⟨?_,λr m=>Nat.lt_of_le_of_lt h.BK (c2 r m)⟩;cases g:K.ps k with
   |none=>rfl
   |some r=>exact absurd s (h.mono k (by rw[g];simp))
 .obtain⟨i,a1,a2⟩:=h.me r m;obtain⟨n,f,a⟩:=h'.me i a1;exact⟨n,f,a.trans a2⟩
structure Maps (K K':KS) (g:Nat->PR->PR):Prop where
 ps:∀b,K'.ps b=(K.ps b).map (g b)
 AV:K'.AV=K.AV
 swap:K'.swap=K.swap
 desc:K'.desc=K.desc
 op:K'.op=K.op
 ef:K'.ef=K.ef
 nl:K'.nl=K.nl
 nm:K'.nm=K.nm
 BK:K'.BK=K.BK
 kb:K'.kb=K.kb
 pid:∀b r,(g b r).pid=r.pid
 en:∀b r,(g b r).en=r.en
 Ae:∀b r,(g b r).Ae=r.Ae
 fds:∀b r,(g b r).fds=r.fds
 sw:∀b r,(g b r).sw=r.sw
theorem Maps.get {K K':KS} {g:Nat->PR->PR} (m:Maps K K' g) {b:Nat} {r:PR} (h:K.ps b=some r):K'.ps b=some (g b r):=by rw[m.ps,h];rfl
theorem Maps.back {K K':KS} {g:Nat->PR->PR} (m:Maps K K' g) {b:Nat} {r':PR} (h:K'.ps b=some r'):∃r,K.ps b=some r/\r'=g b r:=by
 rw[m.ps]at h;cases h1:K.ps b with
 |none=>rw[h1]at h;cases h
 |some r=>rw[h1]at h;exact⟨r,rfl,by simpa using h.symm⟩
theorem Maps.Eh {K K':KS} {g:Nat->PR->PR} (m:Maps K K' g) (h:EH (BP K.ps K.AV) K):EH (BP K'.ps K'.AV) K':=by
 have e:∀i,BP K'.ps K'.AV i=BP K.ps K.AV i:=λi=>by
  unfold BP
  rw[m.AV]
  refine BQ λb _=>?_
  unfold I4
  rw[m.ps]
  cases K.ps b with
  |none=>rfl
  |some r=>simp[m.fds]
 exact⟨λi a=>by rw[e,m.desc];exact h.ho i a,λi a=>by rw[e];exact h.le i a,by rw[m.op,m.desc,m.ef];exact h.op,by rw[m.nl];exact h.nd,by rw[m.nl,m.op];exact h.nz,by rw[m.nm];exact h.nm,by rw[m.nm,m.nl];exact h.dj⟩
theorem Maps.as8 {K K':KS} {g:Nat->PR->PR} (m:Maps K K' g) {N:Nat} {x:Nat×Nat} (h:Hu N x K):Hu N x K':=by
 refine h.same m.swap (λi=>?_) λb r c=>?_
 .rw[m.AV];refine BQ λb _=>?_
  unfold LP;rw[m.ps];cases K.ps b with
  |none=>rfl
  |some r=>simp[m.Ae,m.sw]
 .obtain⟨r0,a,rfl⟩:=m.back c;rw[m.sw,m.Ae];exact h.pl b r0 a
theorem GK.maps {NC NS:Nat} {K K':KS} {g:Nat->PR->PR} (h:GK NC NS K) (m:Maps K K' g) (hg:∀b r,K.ps b=some r->(g b r).Ok) (hc:BU NC (0,0) K'):GK NC NS K':=by
 refine⟨λb a=>?_,by rw[m.AV];exact h.nd,by rw[m.AV];exact h.len,hc,m.as8 h.sw,λb r a=>?_,λb r a=>?_,?_,by rw[m.BK];exact h.BK,m.Eh h.Eh⟩
 .rw[m.AV]at a;obtain⟨r,e⟩:=h.th b a;exact⟨_,m.get e⟩
 .obtain⟨r0,c,rfl⟩:=m.back a;exact hg b r0 c
 .obtain⟨r0,c,rfl⟩:=m.back a;rw[m.pid,m.BK];exact h.pid b r0 c
 .rw[m.AV];refine UT.imp h.asc λb f _ a=>?_
  obtain⟨r0,d,rfl⟩:=m.back a;exact⟨r0,d,m.pid b r0⟩
theorem Maps.rel {K K':KS} {g:Nat->PR->PR} (m:Maps K K' g) (b:Nat) (hs:∀(k:Nat) (r:PR),k≠b->r.Same (g k r)):Rel b K K':=by
 refine⟨λk r d e f=>.inl ⟨by rw[m.AV];exact d,_,m.get e,hs k r f⟩,λk a=>.inl (by rw[m.AV]at a;exact a),λk a=>?_,λr c=>⟨_,m.get c,m.pid b r⟩,by rw[m.BK];exact w_ _,m.kb,λi k a=>?_⟩
 .cases h:K.ps k with
  |none=>exact absurd h a
  |some r=>rw[m.get h];simp
 .rw[m.AV]at a;obtain⟨r,c⟩:=i k a;exact⟨_,m.get c⟩
theorem CG.maps {K K':KS} (m:CG K K'):∃f:Nat->Int,Maps K K' λb r=>{ r with co:=f b }:=by
 obtain⟨f,a⟩:=m.ps;exact⟨f,a,by rw[m.eq],by rw[m.eq],by rw[m.eq],by rw[m.eq],by rw[m.eq],by rw[m.eq],by rw[m.eq],by rw[m.eq],by rw[m.eq],λ_ _=>rfl,λ_ _=>rfl,λ_ _=>rfl,λ_ _=>rfl,λ_ _=>rfl⟩
theorem GK.moved {NC NS:Nat} {K K':KS} (h:GK NC NS K) (m:CG K K') (hc:BU NC (0,0) K'):GK NC NS K':=by
 obtain⟨f,m⟩:=m.maps;refine h.maps m (λb r c=>?_) hc;have o:=h.pr b r c;refine⟨o.A,o.B,o.P,o.st,o.pid,o.par,o.Ae,o.fds,o.fd,o.len,λe=>⟨(o.off e).1,(o.off e).2.1,?_⟩⟩;obtain a|⟨_,_,_,a⟩:=(hc.pl b _ (m.get c)).2
 .exact a
 .have:=(o.off e).2.1;simp only[this,Am]at a;simp at a
theorem CG.rel {K K':KS} (m:CG K K') (b:Nat):Rel b K K':=by
 obtain⟨f,m⟩:=m.maps;exact m.rel b λ_ _ _=>⟨rfl,rfl,rfl,rfl,rfl,rfl,rfl,rfl⟩
theorem CG.get {K K':KS} (m:CG K K') {b:Nat} {r:PR} (h:K.ps b=some r):∃c,K'.ps b=some { r with co:=c }:=by
 obtain⟨f,m⟩:=m.maps;exact⟨_,m.get h⟩
theorem Nc.maps {K K':KS} (m:Nc K K'):∃f:Nat->Nat,Maps K K' λb r=>{ r with par:=f b }:=by
 obtain⟨f,a⟩:=m.ps;exact⟨f,a,by rw[m.eq],by rw[m.eq],by rw[m.eq],by rw[m.eq],by rw[m.eq],by rw[m.eq],by rw[m.eq],by rw[m.eq],by rw[m.eq],λ_ _=>rfl,λ_ _=>rfl,λ_ _=>rfl,λ_ _=>rfl,λ_ _=>rfl⟩
theorem Maps.ax1 {K K':KS} {g:Nat->PR->PR} (m:Maps K K' g) (hc:K'.core=K.core) (Ip:∀b r,(g b r).co=r.co) {N:Nat} {x:Nat×Nat} (h:BU N x K):BU N x K':=by
 refine h.same hc (λi=>?_) λb r c=>?_
 .rw[m.AV];refine BQ λb _=>?_
  unfold FX;rw[m.ps];cases K.ps b with
  |none=>rfl
  |some r=>simp[m.Ae,Ip]
 .obtain⟨r0,a,rfl⟩:=m.back c;rw[m.Ae,Ip];exact h.pl b r0 a
theorem GK.bu4 {NC NS:Nat} {K K':KS} (h:GK NC NS K) (m:Nc K K') (hp:∀b r,K'.ps b=some r->K.ps b=some r\/r.par<=1):GK NC NS K':=by
 have a:K'.core=K.core:=by rw[m.eq]
 obtain⟨f,m⟩:=m.maps;refine h.maps m (λb r d=>?_) (m.ax1 a (λ_ _=>rfl) h.co);have o:=h.pr b r d;refine⟨o.A,o.B,o.P,o.st,o.pid,?_,o.Ae,o.fds,o.fd,o.len,o.off⟩;obtain c|c:=hp b _ (m.get d)
 .exact(h.pr b _ c).par
 .exact Nat.le_trans c (by omega)
theorem Nc.rel {K K':KS} (m:Nc K K') (b:Nat):Rel b K K':=by
 obtain⟨f,m⟩:=m.maps;exact m.rel b λ_ _ _=>⟨rfl,rfl,rfl,rfl,rfl,rfl,rfl,rfl⟩
theorem Nw {f:Nat->Nat} {p:Nat->Bool}:∀{l:List Nat},(∀b∈l,p b=false->f b=0)->BF f (l.filter p)=BF f l
 |[],_=>rfl
 |b::l,h=>by
  have a:=Nw (f:=f) (p:=p) (l:=l) λx c=>h x (by simp[c])
  cases hb:p b with
  |true=>rw[List.filter_cons_of_pos hb];simp only[BF,a]
  |false=>rw[List.filter_cons_of_neg (by simp[hb])];simp only[BF,a,h b (by simp) hb];omega
theorem eU {ps:Nat->d_ PR} {b:Nat} (h:(!RQ ps b)=false):∃r,ps b=some r/\r.en=true:=by
 unfold RQ at h;cases hb:ps b with
 |none=>rw[hb]at h;simp at h
 |some r=>rw[hb]at h;simp at h;exact⟨r,rfl,h.1⟩
theorem GK.Zi {NC NS:Nat} {K:KS} (h:GK NC NS K):GK NC NS K.Zi:=by
 have d:∀b,b∈K.Zi.AV->b∈K.AV:=λb a=>(List.mem_filter.1 a).1
 have f:∀b,(!RQ K.ps b)=false->∃r,K.ps b=some r/\r.fds=[]/\r.Ae=[]/\r.co=-1:=λb a=>by
  obtain⟨r,c,e⟩:=eU a
  exact⟨r,c,(h.pr b r c).off e⟩
 refine⟨λb a=>h.th b (d b a),h.nd.filter _,Nat.le_trans (List.length_filter_le _ _) h.len,h.co.same rfl (λi=>?_) h.co.pl,h.sw.same rfl (λi=>?_) h.sw.pl,h.pr,h.pid,h.asc.filter _,h.BK,?_⟩
 .show BF (FX i K.ps) (K.AV.filter λb=>!RQ K.ps b)=_;exact Nw λb _ a=>by obtain⟨r,c,_,_,j⟩:=f b a;rw[EF c,if_pos j]
 .show BF (LP i K.ps) (K.AV.filter λb=>!RQ K.ps b)=_;exact Nw λb _ a=>by obtain⟨r,c,_,g,_⟩:=f b a;rw[IM c,g];exact Q8 _ _
 .refine EH.congr (K:=K.Zi) (H:=BP K.ps K.AV) ⟨h.Eh.ho,h.Eh.le,h.Eh.op,h.Eh.nd,h.Eh.nz,h.Eh.nm,h.Eh.dj⟩ λi _=>?_
  show BF (I4 K.ps i) (K.AV.filter λb=>!RQ K.ps b)=_;exact Nw λb _ a=>by obtain⟨r,c,e,_⟩:=f b a;rw[Gv c,e];rfl
theorem Ρ (K:KS) (b:Nat):Rel b K K.Zi:=by
 refine⟨λk r e c _=>?_,λk a=>.inl (List.mem_filter.1 a).1,λ_ h=>h,λr i=>⟨r,i,rfl⟩,w_ _,rfl,λg k a=>g k (List.mem_filter.1 a).1⟩;cases hg:RQ K.ps k with
 |false=>exact .inl ⟨List.mem_filter.2 ⟨e,by simp[hg]⟩,r,c,.refl r⟩
 |true=>
  obtain⟨j,d,f⟩:=eU (ps:=K.ps) (b:=k) (by simp[hg])
  rw[c]at d;cases d
  exact .inr ⟨λa=>by have:=(List.mem_filter.1 a).2;simp[hg]at this,f⟩
def KG (b:Nat) (ps ps':Nat->d_ PR):Prop:=∀k,k≠b->∃c:Int,ps' k=(ps k).map λq=>{ q with co:=c }
theorem KG.refl (b:Nat) (ps:Nat->d_ PR):KG b ps ps:=λk _=>match h:ps k with
 |none=>⟨0,by simp⟩
 |some q=>⟨q.co,by simp⟩
theorem KG.trans {b:Nat} {p q r:Nat->d_ PR} (h:KG b p q) (h':KG b q r):KG b p r:=λk a=>by
 obtain⟨c,e⟩:=h k a;obtain⟨d,f⟩:=h' k a;exact⟨d,by rw[f,e];cases p k<;>rfl⟩
theorem KG.set {b:Nat} {ps:Nat->d_ PR} {r:PR}:KG b ps (BX ps b r):=λk a=>by rw[Bg a];exact KG.refl b ps k a
theorem CG.else {K K':KS} (m:CG K K') (b:Nat):KG b K.ps K'.ps:=λk _=>by
 obtain⟨f,a⟩:=m.ps;exact⟨f k,a k⟩
theorem KG.back {b k:Nat} {p q:Nat->d_ PR} (h:KG b p q) (hk:k≠b) {r':PR} (hr:q k=some r'):∃r c,p k=some r/\r'={ r with co:=c }:=by
 obtain⟨c,a⟩:=h k hk;rw[a]at hr;cases h1:p k with
 |none=>rw[h1]at hr;cases hr
 |some r=>rw[h1]at hr;exact⟨r,c,rfl,by simpa using hr.symm⟩
theorem KG.get {b k:Nat} {p q:Nat->d_ PR} (h:KG b p q) (hk:k≠b) {r:PR} (hr:p k=some r):∃c,q k=some { r with co:=c }:=by
 obtain⟨c,a⟩:=h k hk;exact⟨c,by rw[a,hr];rfl⟩
theorem GK.step {NC NS b:Nat} {K K':KS} {r r':PR} (h:GK NC NS K) (aZ:K'.AV=K.AV) (qO:K'.BK=K.BK) (hkb:K'.kb=K.kb) (hps:KG b K.ps K'.ps) (hb:K.ps b=some r) (hb':K'.ps b=some r') (ho:r'.Ok) (HY:r'.pid=r.pid) (hc:BU NC (0,0) K') (hs:Hu NS (0,0) K') (ht:EH (BP K'.ps K'.AV) K'):GK NC NS K'/\Rel b K K':=by
 have f:∀k q,K'.ps k=some q->∃g,K.ps k=some g/\q.pid=g.pid:=λk q a=>by
  by_cases e:k=b
  .subst e;rw[hb']at a;cases a;exact⟨r,hb,HY⟩
  .obtain⟨g,c,d,rfl⟩:=hps.back e a;exact⟨g,d,rfl⟩
 have l:K.EZ->K'.EZ:=λn k a=>by
  rw[aZ]at a
  by_cases e:k=b
  .subst e;exact⟨_,hb'⟩
  .obtain⟨q,i⟩:=n k a;obtain⟨c,hc⟩:=hps.get e i;exact⟨_,hc⟩
 refine⟨⟨l h.th,by rw[aZ];exact h.nd,by rw[aZ];exact h.len,hc,hs,λk q a=>?_,λk q a=>?_,?_,by rw[qO];exact h.BK,ht⟩,⟨λk q d j m=>?_,λk a=>.inl (by rw[aZ]at a;exact a),λk a=>?_,λq i=>?_,by rw[qO];exact w_ _,hkb,l⟩⟩
 .by_cases e:k=b
  .subst e;rw[hb']at a;cases a;exact ho
  .obtain⟨g,c,d,rfl⟩:=hps.back e a;have o:=h.pr k g d;refine⟨o.A,o.B,o.P,o.st,o.pid,o.par,o.Ae,o.fds,o.fd,o.len,λe=>⟨(o.off e).1,(o.off e).2.1,?_⟩⟩;obtain d|⟨_,_,_,d⟩:=(hc.pl k _ a).2
   .exact d
   .have:=(o.off e).2.1;simp only[this,Am]at d;simp at d
 .obtain⟨g,d,j⟩:=f k q a;rw[j,qO];exact h.pid k g d
 .rw[aZ];exact UT.imp h.asc λk q _ a=>f k q a
 .obtain⟨c,hc⟩:=hps.get m j;exact .inl ⟨by rw[aZ];exact d,_,hc,⟨rfl,rfl,rfl,rfl,rfl,rfl,rfl,rfl⟩⟩
 .by_cases e:k=b
  .subst e;rw[hb'];simp
  .cases d:K.ps k with
   |none=>exact absurd d a
   |some q=>obtain⟨c,hc⟩:=hps.get e d;rw[hc];simp
 .rw[hb]at i;cases i;exact⟨r',hb',HY⟩
theorem Vb {b i:Nat} {p q:Nat->d_ PR} {l:List Nat} {r r':PR} (hN:l.Nodup) (hm:b∈l) (he:KG b p q) (hb:p b=some r) (hb':q b=some r'):BP q l i+r.fds.count (i:Int)=BP p l i+r'.fds.count (i:Int):=by
 have:=Jb (f:=I4 q i) (g:=I4 p i) hN hm λk d=>by
  obtain⟨c,a⟩:=he k d
  unfold I4
  rw[a];cases p k<;>rfl
 rw[Gv hb,Gv hb']at this;exact this
theorem Rz {b i:Nat} {p:Nat->d_ PR} {l:List Nat} {r:PR} (hm:b∈l) (hb:p b=some r):r.fds.count (i:Int)<=BP p l i:=by
 have:=Ox (f:=I4 p i) hm;rw[Gv hb]at this;exact this
theorem Hu.step {N b:Nat} {x y:Nat×Nat} {K K':KS} {r r':PR} (h:Hu N x K) (aZ:K'.AV=K.AV) (hN:K.AV.Nodup) (hm:b∈K.AV) (hps:KG b K.ps K'.ps) (hb:K.ps b=some r) (hb':K'.ps b=some r') (hso:Sound N K'.swap) (hsr:XM K'.swap) (hy:y.1+y.2<=N) (hn:r'.sw+Am r'.Ae.length<=N) (hsum:∀i,D5 i K'.swap+NY i r'.sw (Am r'.Ae.length)+NY i y.1 y.2=D5 i K.swap+NY i r.sw (Am r.Ae.length)+NY i x.1 x.2):Hu N y K':=by
 refine⟨h.le,hso,hsr,hy,λi l=>?_,λk q a=>?_⟩
 .have:=Jb (f:=LP i K'.ps) (g:=LP i K.ps) hN hm λk a=>by
   obtain⟨c,j⟩:=hps k a
   unfold LP
   rw[j];cases K.ps k<;>rfl
  rw[IM hb,IM hb']at this;have n:=h.cnt i l;have:=hsum i;rw[aZ];omega
 .by_cases e:k=b
  .subst e;rw[hb']at a;cases a;exact hn
  .obtain⟨m,c,d,rfl⟩:=hps.back e a;exact h.pl k m d
theorem Hu.mine {N b:Nat} {x:Nat×Nat} {K:KS} {r:PR} (h:Hu N x K) (hm:b∈K.AV) (hb:K.ps b=some r) (y:Nat) (h1:r.sw<=y) (h2:y<r.sw+Am r.Ae.length):D5 y K.swap=0:=by
 have c:=h.cnt y (by have:=h.pl b r hb;omega);have a:=Ox (f:=LP y K.ps) hm;rw[IM hb,kX h1 h2]at a;omega
theorem BV.own {T T':Tag} {w w' KY:o_} {S:Nat->Prop} (h:BV T T' w w') (hK:Keep S w' KY) (hS:∀k,S k->w.heap.size<=k):BV T T' w KY:=by
 refine⟨h.keep.trans hK λk c e=>absurd (hS k e) (by omega),DY.old h,DY.new h,λb a=>DY.lt h b (Nat.le_trans hK.size a),DY.fresh h⟩
theorem A8.own {K:KS} {w w':o_} {rb:Nat} (h:A8 K w) (hK:Keep (At rb) w w') (ht:K.T rb=(0,0)):A8 K w':=
 h.keep (hK.on λk _ e=>by subst e;exact ht) λb a=>h.lt b (Nat.le_trans hK.size a)
def FQ (r:PR) (st:Nat):PR:=⟨r.pid,r.par,st,0,0,0,0,true,-1,.nilFunc,.slice none 0 0,.slice none 0 0,[],[]⟩
theorem Ϛ {r:PR} {st:Nat} (h:r.Ok) (hs:st<65536):(FQ r st).Ok:=by
 refine⟨?_,?_,?_,hs,h.pid,h.par,?_,?_,?_,?_,λ_=>⟨rfl,rfl,rfl⟩⟩<;>simp[FQ]
theorem mV {w:o_} {b:Nat} {r r':PR} (h:w.heap[b]?=some r.obj) (h4:r'.bl.oneCell'=true) (h8:r'.im.oneCell'=true) (h9:r'.fd.oneCell'=true):∃w',(Instr.storeAt 128 (R_ b) (.agg r'.arr)).run prog w=.ok () w'/\Keep (At b) w w'/\w'.heap[b]?=some r'.obj:=by
 have e:(Instr.storeAt 128 (R_ b) (.agg r'.arr)).run prog w=(stores b 0 r'.arr.toList (.pure ())).run prog w:=by kernel_rfl
 obtain⟨w',a,c,d⟩:=Iy (P:=prog) (k:=Sem.pure ()) r'.arr.toList 0 _ w h (by show 0+12<=12;omega) (by simp[PR.arr,Value.oneCell']at *;simp[h4,h8,h9]);refine⟨w',?_,c,?_⟩
 .rw[e,a];rfl
 .rw[d];simp[UJ,PR.arr,PR.obj]
theorem A8.dead {K:KS} {w w':o_} {b st:Nat} {r:PR} (h:A8 K w) (hb:K.ps b=some r) (hK:Keep (At b) w w') (ho:w'.heap[b]?=some (FQ r st).obj):A8 (K.AP b (FQ r st)) w'/\BV K.T K.T w w':=by
 have a:=h.ps b r hb;have M:DY K.T K.T (λt=>t=(6,b)\/t=(7,b)\/t=(8,b)\/t=(9,b)) (λt=>t=(6,b)\/t=(7,b)\/t=(8,b)\/t=(9,b)) w w':=DY.of (hK.on λk _ e=>by subst e;exact .inl a.t) h.lt;exact⟨h.um M ⟨a.t,ho,λe=>by simp[FQ]at e,λe=>by simp[FQ]at e,.inl rfl,λ_=>⟨rfl,rfl,rfl,rfl⟩⟩,M.TL (by rintro t (rfl|rfl|rfl|rfl)<;>simp)⟩
end Go.Fxa
