/- A region with two operations t -/
import Derived.Test.YtmhplpfpcnjekaaGreatA30
namespace Go.Fxa
open Conc Proofs RowKit Proofs.Tryz
set_option maxRecDepth 1000000
set_option maxHeartbeats 0
def TY (S:Nat->Prop) (w1:World) (e1 e2:Nat) (P1:Value->World->Prop) (P2:Value->Value->World->Prop) (L:Nat->Bool) (u:Y_) (W:World):Prop:=
 Ab S w1 W/\(L e1=false->W=w1/\L e2=false)/\(L e1=true->L e2=false->P1 (u e1) W)/\(L e2=true->P2 (u e1) (u e2) W)
section
variable {S:Nat->Prop} {w1:World} {e1 e2:Nat} {P1:Value->World->Prop} {P2:Value->Value->World->Prop} {ss:List Nat}
theorem Po (h1:e1∈ss) (h2:e2∈ss):∀L L' u u' W,(∀i∈ss,L i=L' i/\u i=u' i)->TY S w1 e1 e2 P1 P2 L u W->TY S w1 e1 e2 P1 P2 L' u' W:=by
 rintro L L' u u' W h ⟨a,b,c,d⟩;obtain⟨p1,p2⟩:=h e1 h1;obtain⟨q1,q2⟩:=h e2 h2;exact⟨a,fun x=>by rw[<-q1];exact b (p1.trans x),fun x y=>p2 ▸ c (p1.trans x) (q1.trans y),fun x=>p2 ▸ q2 ▸ d (q1.trans x)⟩
theorem Lv (u:Y_):TY S w1 e1 e2 P1 P2 (fun _=>false) u w1:=⟨Ab.refl _ _,fun _=>⟨rfl,rfl⟩,fun h=>absurd h (by simp),fun h=>absurd h (by simp)⟩
theorem Pn {L:Nat->Bool} {u:Nat->Value} {W W':World} {v:Value} (h:TY S w1 e1 e2 P1 P2 L u W) (BN:e1≠e2) (hL:L e1=false) (hK:Ab S w1 W') (hv:P1 v W'):TY S w1 e1 e2 P1 P2 (JE L e1) (Ii u e1 v) W':=by
 obtain⟨_,b,_,_⟩:=h;have h2:=(b hL).2;refine⟨hK,fun x=>absurd x (by simp[JE]),fun _ _=>by simp only[Ii,if_true];exact hv,fun x=>?_⟩;simp only[JE,if_neg BN.symm,h2]at x;cases x
theorem Pm {L:Nat->Bool} {u:Nat->Value} {W':World} {v:Value} (BN:e1≠e2) (hL:L e1=true) (hK:Ab S w1 W') (hv:P2 (u e1) v W'):TY S w1 e1 e2 P1 P2 (JE L e2) (Ii u e2 v) W':=by
 refine⟨hK,fun x=>?_,fun _ y=>absurd y (by simp[JE]),fun _=>?_⟩
 ·simp only[JE,if_neg BN,hL]at x;cases x
 ·simp only[Ii,if_true,if_neg BN];exact hv
end
section
variable (m:Nat) (w:World)
theorem AQ.xu {K:KS} {w:World} {i:Nat} (h:AQ K w) (hi:i<16):w.cell? (T_ K.kb (4+i))=some (Ut (K.nm i))/\∀b,K.nm i=some b->K.T b=(10,0):=by
 obtain⟨ks,hk,hc⟩:=h.k;exact⟨(Ag hk _).trans (hc.nm i hi).1,(hc.nm i hi).2⟩
theorem ac8 (K:KS) (i:Nat) (h:AQ K w) (hi:i<16):CallsIn NF m prog 233 #[.pointer (some (T_ K.kb 4)),.int .i64 (i:Nat)] w fun e w'=>Ab No w w'/\e=.returned (.bool (K.nm i).isSome):=by
 have q:=(h.xu hi).1;have f1:(i:Int)<16:=by omega
 cases hn:K.nm i with
 | none=>
  rw[hn]at q
  simp only[Ut]at q
  gi_enter func233,ntmps233
  gi_wp2
  go_ret
  exact⟨Ab.refl _ _,by simp⟩
 | some f=>
  rw[hn]at q
  simp only[Ut,ptr]at q
  gi_enter func233,ntmps233
  gi_wp2
  go_ret
  exact⟨Ab.refl _ _,by simp⟩
def af2 (K:KS) (i:Nat) (x:Nat):Prop:=(x=0/\i<16/\∃f,K.nm i=some f)\/(x=6/\i<16/\K.nm i=none)\/(x=13/\16<=i)
theorem MQ (K:KS) (i:Nat) (h:AQ K w) (hi:i<65536):CallsIn NF m prog 205 #[R_ K.kb,.int .u16 (i:Nat)] w fun e w'=>Ab No w w'/\∃x:Nat,e=.returned (.int .u16 x)/\af2 K i x:=by
 by_cases h16:i<16
 ·have f1:¬(16:Int)<=(i:Int):=by omega
  have c:=fun m=>ac8 m w K i h h16
  cases hn:K.nm i with
  | none=>
   rw[hn]at c
   simp only[Option.isSome_none]at c
   gi_enter func205,ntmps205
   gi_wp2_with (gi_at_call 233;refine(c _).mono ?_;rintro e w1 ⟨K1,rfl⟩)
   go_ret
   exact⟨K1,6,by simp,.inr (.inl ⟨rfl,h16,hn⟩)⟩
  | some f=>
   rw[hn]at c
   simp only[Option.isSome_some]at c
   gi_enter func205,ntmps205
   gi_wp2_with (gi_at_call 233;refine(c _).mono ?_;rintro e w1 ⟨K1,rfl⟩)
   go_ret
   exact⟨K1,0,by simp,.inl ⟨rfl,h16,f,hn⟩⟩
 ·have f1:(16:Int)<=(i:Int):=by omega
  gi_enter func205,ntmps205;gi_wp2;go_ret;exact⟨Ab.refl _ _,13,by simp,.inr (.inr ⟨rfl,by omega⟩)⟩
def yx (T:Tag) (w:World) (l:List Nat) (v:Value) (W:World):Prop:=∃g c,v=.slice (some (S_ g)) l.length c/\Rw 101 1 W g l.length c (Bf l)/\(T g=(5,0)\/w.heap.size<=g)
theorem bd8 {T:Tag} {w:World} {l:List Nat} {v:Value} {f vb c2:Nat} {ty:TypeId} (hN:jf T w l v) (hb:w.cell? (S_ vb)=some (ptr f)) (hl:l.length<=1000):∃v' W,(Builtin.append_ #[103,103] ty #[v,.slice (some (S_ vb)) 1 c2]).run prog w=.ok v' W/\yx T w (l++[f]) v' W/\Ab (On T fun t=>t=(5,0)) w W:=by
 have hs:∀j u,(Bf [f])[j]?=some u->w.cell? (((S_ vb):Addr).add j)=some u:=fun j u hj=>by
  match j,hj with
  | 0,hj=>
   simp[Bf]at hj;subst hj
   have JA:((S_ vb):Addr).add 0=(S_ vb):=by unfold Addr.add;split<;>simp_all
   rw[JA];exact hb
 have ho:∀u∈Bf [f],u.oneCell'=true:=fun u hu=>by simp[Bf]at hu;subst hu;rfl
 have el:(l++[f]).length=l.length+1:=by simp
 have ep:Bf (l++[f])=Bf l++Bf [f]:=by simp[Bf]
 rcases hN with⟨⟨rfl,rfl⟩|⟨g,c,rfl,hR,tg⟩,_⟩
 ·obtain⟨ii,hi,hz,FD,hby⟩:=Xi.parts;have Fq:=run_append_nil (P:=prog) w 103 ty 101 ii (.pointer none) Xi.und hi hz (S_ vb) 1 c2 (Bf [f]) (by rw[FD];rfl) hs (by omega) (by omega) (by rw[hby];omega);have hge:=grownCap_ge w 1 0 101;refine⟨_,_,Fq,⟨w.heap.size,_,rfl,⟨⟨_,heap_alloc_new rfl,?_,?_⟩,hge,grownCap_le_maxLen w 1 0 101 (by simp only[maxLen];omega),rfl,ho⟩,.inr (Nat.le_refl _)⟩,((Ab.refl No w).drew.alloc _).no⟩
  ·simp only[Array.size_append,List.size_toArray,size_zeroCells,Xi.zs];show 1+_=_;omega
  ·simp only[Array.toList_append];exact List.take_left (l₁:=Bf [f])
 ·obtain⟨g',BK,w',hr,Fb,hg⟩:=WV (ty:=ty) (sCap:=c2) (m:=1) Xi hR (ys:=Bf [f]) rfl hs ho (by omega) (by omega);refine⟨_,_,hr,⟨g',BK,by rw[el],by rw[el,ep];exact Fb,?_⟩,?_⟩
  ·rcases hg with⟨rfl,_⟩|⟨rfl,_⟩
   ·exact .inl tg
   ·exact .inr (Nat.le_refl _)
  ·rcases hg with⟨rfl,hK⟩|⟨rfl,hK⟩
   ·exact hK.on fun x _ e=>by subst e;exact tg
   ·exact hK.no
end
section
variable (m:Nat) (w:World)
theorem jC (K:KS) (i f:Nat) (h:AQ K w) (hi:i<16) (hf:K.nm i=some f) (hnl:K.nl.length<=900):
  CallsIn NF m prog 208 #[.pointer (some (T_ K.kb 4)),.int .i64 (i:Nat)] w fun e w'=>e=.returned (.tuple #[])/\∃T',AQ { K with nl:=(K.nl++[f]).filter (fun b=>!(K.op b==0)),nm:=Az K.nm i none,T:=T' } w'/\Bw K.T T' w w':=by
 obtain⟨l',hh⟩:∃l',Nonempty (PLift (l'=K.nl++[f])):=⟨_,⟨⟨rfl⟩⟩⟩;obtain⟨ks,hk,hC⟩:=h.k;obtain⟨v,hv,hN⟩:=hC.nl;have q20:=(Ag hk 20).trans hv;have qn:=(h.xu hi).1;have tf:=(h.xu hi).2 f hf;rw[hf]at qn;simp only[Ut,ptr]at qn;have f1:(i:Int)<16:=by omega
 have lk:=Co hk;gi_enter func208,ntmps208;gi_wp2;refine BZ (P:=prog) _ rfl rfl (by kernel_rfl) 13 26 [0,1,2,3,4,5,6,7,8,9,10] [11,12] (by kernel_rfl) (by rfl)
  (TY (On K.T fun t=>t=(5,0)) w.drew 11 12 (fun v W=>v=.slice (some (S_ w.heap.size)) 1 1/\W.cell? (S_ w.heap.size)=some (ptr f)/\Ab No w.drew W) (fun _ v W=>yx K.T w l' v W)) (Po (by simp) (by simp)) _ _ rfl rfl ?_;gi_wp2;refine⟨rfl,by kernel_rfl,Lv,?_,?_,?_⟩
 ·intro L' u W hI;have d20:=(hI.1.cell (w:=w.drew) (p:=(T_ K.kb 20)) lk (by unfold On;rw[h.tk];simp)).trans q20;have dn:=(hI.1.cell (w:=w.drew) (p:=(T_ K.kb (4+i))) lk (by unfold On;rw[h.tk];simp)).trans qn
  repeat' (refine Ao ?_ ?_)
  all_goals first|exact trivial|gi_wp2
 ·intro j hj L' u W hI Uv hu;rcases(by simpa using hj:j=11\/j=12)with rfl|rfl
  ·obtain⟨rfl,_⟩:=hI.2.1 Uv;refine Bh rfl fun KK Ko=>?_
   show wpListIn NF m prog _ _ _ (Act.put (Act.put _ (some 15) (u 11)) (some 16) (u 12)) _;gi_wp2;refine⟨_,rfl,Pn hI (by decide) Uv ((Ab.refl _ _).alloc _) ⟨by simp,?_,(Ab.refl _ _).alloc _⟩⟩;have:=heap_alloc_new (w:=w.drew) (o:=.cells #[R_ f] 101) rfl;exact(Ag this 0).trans rfl
  ·have h11:=hu 11 (by simp) (by decide);obtain⟨e11,hcell,KW⟩:=hI.2.2.1 h11 Uv;refine Bh rfl fun KK Ko=>?_
   show wpListIn NF m prog _ _ _ (Act.put (Act.put _ (some 15) (u 11)) (some 16) (u 12)) _;rw[e11];have KW0:Ab No w W:=(Ab.refl No w).drew.then KW;have hNW:jf K.T W K.nl v:=jf.keep (Q:=fun t=>t=(0,0)) hN KW0.no (by simp);obtain⟨v',W',Fq,hP,hK'⟩:=bd8 (ty:=103) (c2:=1) hNW hcell (by omega);gi_wp2_with (refine BL rfl (.tmp 8) (.tmp 15) _ rfl rfl rfl Fq ?_);rw[<-e11];refine⟨_,rfl,Pm (by decide) h11 ((KW.no).then hK') ?_⟩;obtain⟨⟨hl'⟩⟩:=hh;rw[hl'];obtain⟨g,c,e,hR,hg⟩:=hP;exact⟨g,c,e,hR,hg.imp id fun x=>Nat.le_trans KW0.size x⟩
 ·intro L' u W hI hL;obtain⟨g,c,e12,hR,hg⟩:=hI.2.2.2 (hL 12 (by simp));show wpListIn NF m prog _ _ _ (Act.put (Act.put _ (some 15) (u 11)) (some 16) (u 12)) _;rw[e12];have KW:Ab (On K.T fun t=>t=(5,0)) w W:=(Ab.refl _ w).drew.then hI.1;have G8:=KW.old hk (by unfold On;rw[h.tk];simp);have z20:=BF G8 20;have zn:=BF G8 (4+i);have c20:=(Ag G8 20).trans hv;have cn:W.cell? (T_ K.kb (4+i))=some (R_ f):=(KW.cell (p:=(T_ K.kb (4+i))) lk (by unfold On;rw[h.tk];simp)).trans qn;have hgk:K.kb≠g:=fun e=>by
   rcases hg with hg|hg
   ·rw[<-e,h.tk]at hg;simp at hg
   ·omega
  have hgW:g<W.heap.size:=hR.lt;have Ks:Ab (At K.kb) W ((W.setCell (T_ K.kb 20) (.slice (some (S_ g)) l'.length c)).setCell (T_ K.kb (4+i)) (.pointer none)):=Ab.setCell (Ab.setCell (Ab.refl (At K.kb) W) _ (p:=(T_ K.kb 20)) fun _=>rfl) _ (p:=(T_ K.kb (4+i))) fun _=>rfl
  have K2:Ab (On K.T fun t=>t=(1,0)\/t=(5,0)) w ((W.setCell (T_ K.kb 20) (.slice (some (S_ g)) l'.length c)).setCell (T_ K.kb (4+i)) (.pointer none)):=(KW.on fun k _ e=>.inr e).trans Ks fun k _ e=>by rw[show k=K.kb from e];exact .inl h.tk
  have M':Ct K.T (A8 K.T g (5,0)) (fun t=>t=(1,0)\/t=(5,0)) (fun t=>t=(5,0)) w ((W.setCell (T_ K.kb 20) (.slice (some (S_ g)) l'.length c)).setCell (T_ K.kb (4+i)) (.pointer none)):=Ct.row K2 h.lt hg (Nat.lt_of_lt_of_le hgW Ks.size) rfl;have M:Ct K.T (A8 K.T g (5,0)) (fun t=>t=(1,0)\/t=(5,0)\/10<=t.1) (fun t=>t=(5,0)\/10<=t.1) w _:=M'.weak (fun t e=>by rcases e with e|e;exact .inl e;exact .inr (.inl e)) (fun t e=>.inl e);have hNN:jf (A8 K.T g (5,0)) ((W.setCell (T_ K.kb 20) (.slice (some (S_ g)) l'.length c)).setCell (T_ K.kb (4+i)) (.pointer none)) l' (.slice (some (S_ g)) l'.length c):=⟨.inr ⟨g,c,rfl,hR.keep Ks (fun e=>hgk e.symm),BB⟩,fun b hb=>by
   obtain⟨⟨hl'⟩⟩:=hh
   rw[hl']at hb
   rcases List.mem_append.1 hb with hb|hb
   ·exact M'.tag (hN.2 b hb) (by simp)
   ·rw[List.mem_singleton.1 hb];exact M'.tag tf (by simp)⟩
  have h1:AQ { K with nl:=l',nm:=Az K.nm i none,T:=A8 K.T g (5,0) } _:=h.TP M (Aj (Aj G8 _) _) ((KC.ag2 hC M' hNN).af9 (o:=none) hi (fun b e=>by cases e)) (h.fl.IY M' (by rintro t (rfl|rfl)<;>simp) (by rintro t rfl;simp));have cf:=fun m=>U9 m _ _ h1 (by obtain⟨⟨hl'⟩⟩:=hh;show l'.length<=100000;rw[hl'];simp;omega)
  gi_wp2_with (gi_at_call 234;refine(cf _).mono ?_;rintro e w9 ⟨rfl,h9,M9⟩);go_end0;obtain⟨⟨hl'⟩⟩:=hh;rw[hl']at h9;exact⟨by simp,_,h9,(M'.Qb (by rintro t (rfl|rfl)<;>simp)).trans M9⟩
theorem DZ.unlink {NC NS b i f:Nat} {K:KS} {T':Tag} {r:PR} (h:DZ NC NS K) (hm:b∈K.AJ) (hb:K.ps b=some r) (hi:i<16) (hf:K.nm i=some f):DZ NC NS { K with nl:=(K.nl++[f]).filter (fun b=>!(K.op b==0)),nm:=Az K.nm i none,T:=T' }/\Rel b K { K with nl:=(K.nl++[f]).filter (fun b=>!(K.op b==0)),nm:=Az K.nm i none,T:=T' }:=by
 have:=h.fds (K1:={ K with nl:=(K.nl++[f]).filter (fun b=>!(K.op b==0)),nm:=Az K.nm i none,T:=T' }) (r':=r) (H:=Bi K.ps K.AJ) ⟨rfl⟩ hm hb rfl rfl rfl rfl rfl (h.pr b r hb) ⟨h.CY.ho,h.CY.le,h.CY.op,?_,?_,?_,?_⟩ fun _ _=>rfl
 ·rwa [EJ (K:={ K with nl:=(K.nl++[f]).filter (fun b=>!(K.op b==0)),nm:=Az K.nm i none,T:=T' }) hb]at this
 ·refine List.Pairwise.filter _ ?_;show(K.nl++[f]).Nodup;rw[List.nodup_append];exact⟨h.CY.nd,by simp,fun x hx y hy e=>h.CY.dj i f hi hf (by rw[List.mem_singleton.1 hy]at e;rw[<-e];exact hx)⟩
 ·intro g hg;have:=(List.mem_filter.1 hg).2;simp only[Bool.not_eq_true',beq_eq_false_iff_ne]at this;show 1<=K.op g;omega
 ·intro j k g hj hk h1 h2;simp only[Az]at h1 h2;split at h1
  ·cases h1
  ·split at h2
   ·cases h2
   ·exact h.CY.nm j k g hj hk h1 h2
 ·intro j g hj h1 h2;simp only[Az]at h1;split at h1
  ·cases h1
  ·rename_i BN;rcases List.mem_append.1 (List.mem_filter.1 h2).1 with h3|h3
   ·exact h.CY.dj j g hj h1 h3
   ·rw[List.mem_singleton.1 h3]at h1;exact BN (h.CY.nm j i f hj hi h1 hf)
theorem jD (K:KS) (NC NS b name:Nat) (r:PR) (h:AQ K w) (hO:DZ NC NS K) (hm:b∈K.AJ) (hb:K.ps b=some r) (hname:name<65536):
  CallsIn NF m prog 153 #[R_ K.kb,.int .u16 (name:Nat)] w (ED NC NS b K w):=by
 obtain⟨K0,rb,BA⟩:=FU w;have h0:=h.no K0;have E8:K.T w.heap.size=(0,0):=h.lt _ (Nat.le_refl _);have cn:=fun m=>MQ m _ K name h0 hname
 gi_enter func153,ntmps153;gi_wp2_with (gi_at_call 205;refine(cn _).mono ?_;rintro e w1 ⟨K1,x,rfl,hx⟩;generalize hw0:w.alloc V_=w0 at *;rcases hx with⟨rfl,hi,f,hf⟩|⟨rfl,_⟩|⟨rfl,_⟩)
 ·have h1:=h0.no K1;have hnl:=hO.CY.nl;have cu:=fun m=>jC m w1 K name f h1 hi hf (by omega)
  gi_wp2_with (gi_at_call 208;refine(cu _).mono ?_;rintro e w2 ⟨rfl,T',h2,M2⟩);obtain⟨J5,Fb⟩:=hO.unlink (T':=T') hm hb hi hf;have hV2:Bw K.T T' w0 w2:=(Bw.no K1 h0.lt).trans M2;gi_wp2_with (first|(gi_at_call 152;refine(Cr _ _ 0 (by omega)).mono ?_;rintro e wz ⟨rfl,Kz⟩;obtain⟨w8,Ar,K8,b8⟩:=Af (x:=0) (y:=0) (f:=.nilFunc) (Kz.old (hV2.old rb E8) id) rfl)|refine Ae rfl _ _ _ rfl rfl rfl Ar ?_);refine TR 0 0 (by simp[results,results153,go_sem,Dz b8]) rfl ?_;exact AV (K':={ K with nl:=(K.nl++[f]).filter (fun b=>!(K.op b==0)),nm:=Az K.nm name none,T:=T' }) (x:=0) (y:=0) h.lt K0 BA ((hV2).then Kz) ((h2).no Kz) K8 (by omega) (by omega) (.inl rfl) (J5) (Fb) hb (fun _=>hm)
 ·skip
  gi_wp2_with (first|(gi_at_call 140;refine(AL _ _ 6).mono ?_;rintro e wz ⟨rfl,Kz⟩;obtain⟨w8,Ar,K8,b8⟩:=Af (x:=0) (y:=6) (f:=.nilFunc) (Kz.old (K1.old rb id) id) rfl)|refine Ae rfl _ _ _ rfl rfl rfl Ar ?_);refine TR 0 6 (by simp[results,results153,go_sem,Dz b8]) rfl ?_;exact Br h hO hm hb K0 BA (K1.then Kz) K8 (by decide) (by decide)
 ·skip
  gi_wp2_with (first|(gi_at_call 140;refine(AL _ _ 13).mono ?_;rintro e wz ⟨rfl,Kz⟩;obtain⟨w8,Ar,K8,b8⟩:=Af (x:=0) (y:=13) (f:=.nilFunc) (Kz.old (K1.old rb id) id) rfl)|refine Ae rfl _ _ _ rfl rfl rfl Ar ?_);refine TR 0 13 (by simp[results,results153,go_sem,Dz b8]) rfl ?_;exact Br h hO hm hb K0 BA (K1.then Kz) K8 (by decide) (by decide)
end
def UC (op:Nat->Nat):Option Nat->Nat->Nat
 | none=>op
 | some f=>Az op f (op f+1)
theorem Yk (op:Nat->Nat) (o:Option Nat) (g:Nat):UC op o g=op g+(if o=some g then 1 else 0):=by
 cases o with
 | none=>simp[UC]
 | some f=>
  simp only[UC,Az]
  by_cases e:g=f
  ·subst e;simp
  ·rw[if_neg e,if_neg (by simpa using Ne.symm e)];rfl
theorem jZ {d:Nat->Nat} {e:Nat->Option Nat} {i0:Nat} {o:Option Nat} (hi:i0<20) (hd:d i0=0) (g:Nat):Dj (Az d i0 1) (Az e i0 o) g=Dj d e g+(if o=some g then 1 else 0):=by
 have:=JN (f:=fun j=>if 0<Az d i0 1 j/\Az e i0 o j=some g then 1 else 0) (g:=fun j=>if 0<d j/\e j=some g then 1 else 0) List.nodup_range (List.mem_range.2 hi) (fun k hk=>by simp only[Az,if_neg hk]);have e1:(if 0<Az d i0 1 i0/\Az e i0 o i0=some g then 1 else 0)=(if o=some g then 1 else 0):=by simp[Az]
 have e2:(if 0<d i0/\e i0=some g then 1 else 0)=0:=by simp[hd]
 rw[e1,e2]at this;unfold Dj;omega
theorem Dx.add {H:Nat->Nat} {K:KS} {i0:Nat} {o:Option Nat} {nm:Nat->Option Nat} {T:Tag} (h:Dx H K) (hi:i0<20) (hd:K.desc i0=0) (hnm:∀i j f,i<16->j<16->nm i=some f->nm j=some f->i=j) (hdj:∀i f,i<16->nm i=some f->f ∉ K.nl):Dx (Az H i0 1) { K with desc:=Az K.desc i0 1,ef:=Az K.ef i0 o,op:=UC K.op o,nm:=nm,T:=T }:=by
 refine⟨fun i Gz=>?_,fun i Gz=>?_,fun g=>?_,h.nd,fun g hg=>?_,hnm,hdj⟩
 ·show Az K.desc i0 1 i=Az H i0 1 i;unfold Az;split
  ·rfl
  ·exact h.ho i Gz
 ·unfold Az;split
  ·omega
  ·exact h.le i Gz
 ·show UC K.op o g=Dj (Az K.desc i0 1) (Az K.ef i0 o) g;rw[jZ hi hd,Yk,h.op g]
 ·have:=h.nz g hg;show 1<=UC K.op o g;rw[Yk];omega
theorem ab4 {H:Nat->Nat} {K:KS} {w:World} {b:Nat} (h:AQ K w) (ht:Dx H K) (hb:w.heap.size<=b):K.op b=0:=by
 rw[ht.op b];cases hz:Dj K.desc K.ef b with
 | zero=>rfl
 | succ n=>
  exfalso
  obtain⟨i,hi,h1⟩:=Pt (f:=fun i=>if 0<K.desc i/\K.ef i=some b then 1 else 0) (l:=List.range 20) (by unfold Dj at hz;omega)
  split at h1
  ·rename_i hh;obtain⟨v,_,_,_,h4⟩:=h.iZ (List.mem_range.1 hi);obtain⟨e,⟨_,f,te,hf⟩|⟨_,_,hf⟩|⟨_,_,hf⟩⟩:=h4 hh.1
   ·rw[hh.2]at hf;obtain rfl:b=f:=(by simpa using hf);obtain⟨_,_,tf,_⟩:=h.fl.Fs e b te;rw[h.lt b hb]at tf;simp at tf
   ·rw[hh.2]at hf;cases hf
   ·rw[hh.2]at hf;cases hf
  ·omega
theorem AQ.mo {K:KS} {w w':World} {b:Nat} {t:Nat×Nat} (h:AQ K w) (hK:Ab No w w') (hb:w.heap.size<=b) (hb':b<w'.heap.size) (ht:10<=t.1) (hp:Dk (A8 K.T b t) K.op w' K.kb b):AQ { K with T:=A8 K.T b t } w'/\Bw K.T (A8 K.T b t) w w':=by
 obtain⟨ks,hk,hc⟩:=h.k;have M:Ct K.T (A8 K.T b t) (fun t=>t=(1,0)\/t=(5,0)\/10<=t.1) (fun t=>t=(5,0)\/10<=t.1) w w':=Ct.row hK.no h.lt (.inr hb) hb' (.inr ht);have M':Ct K.T (A8 K.T b t) (fun t=>10<=t.1) (fun t=>10<=t.1) w w':=Ct.row hK.no h.lt (.inr hb) hb' ht;refine⟨h.TP (ks':=ks) M (hK.old hk id) (hc.IY M' (by simp)) (Uw.of fun k=>?_),M.Qb ?_⟩
 ·by_cases e:k=b
  ·subst e;exact hp
  ·have ho:=(h.fl.one k).keep hK id (fun _ _=>id);have hT:∀x,x≠b->A8 K.T b t x=K.T x:=fun x hx=>AY hx
   have hW:∀{Mx v},OP K.T w' k Mx v->OP (A8 K.T b t) w' k Mx v:=fun h'=>by
    rcases h' with h' | ⟨g,c,ws,a1,a2,a3,a4,a5⟩
    ·exact .inl h'
    ·exact .inr ⟨g,c,ws,a1,a2,a3,a4,by rw[hT g (fun e=>by rw[e,h.lt b hb]at a5;simp at a5)];exact a5⟩
   refine⟨fun e'=>?_,fun e'=>?_,fun f e'=>?_,fun e'=>?_,fun e'=>?_⟩<;>rw[hT k e]at e'
   ·obtain⟨v,a1,a2⟩:=ho.file e';exact⟨v,a1,hW a2⟩
   ·obtain⟨v,x,y,a1,a2⟩:=ho.pipe e';exact⟨v,x,y,a1,hW a2⟩
   ·obtain⟨n,a1,a2,a3⟩:=ho.Fs f e';exact⟨n,a1,by rw[hT f (fun e=>by rw[e,h.lt b hb]at a2;simp at a2)];exact a2,a3⟩
   ·obtain⟨p,a1,a2⟩:=ho.rend e';exact⟨p,a1,by rw[hT p (fun e=>by rw[e,h.lt b hb]at a2;simp at a2)];exact a2⟩
   ·obtain⟨p,a1,a2⟩:=ho.Oo e';exact⟨p,a1,by rw[hT p (fun e=>by rw[e,h.lt b hb]at a2;simp at a2)];exact a2⟩
 ·rintro t (rfl|rfl|h)<;>try simp
  rintro rfl;simp at h
theorem AQ.am1 {K:KS} {w:World} {i:Nat} {o:Option Nat} (h:AQ K w) (hi:i<16) (ho:∀b,o=some b->K.T b=(10,0)):AQ { K with nm:=Az K.nm i o } (w.setCell (T_ K.kb (4+i)) (Ut o))/\Bw K.T K.T w (w.setCell (T_ K.kb (4+i)) (Ut o)):=by
 obtain⟨ks,hk,hc⟩:=h.k;have hK:Ab (At K.kb) w (w.setCell (T_ K.kb (4+i)) (Ut o)):=(Ab.refl _ _).setCell _ fun _=>rfl
 have M:Ct K.T K.T (fun t=>t=(1,0)\/t=(5,0)\/10<=t.1) (fun t=>t=(5,0)\/10<=t.1) w (w.setCell (T_ K.kb (4+i)) (Ut o)):=Ct.of (hK.on fun k _ e=>by subst e;exact .inl h.tk) h.lt;have M':Ct K.T K.T (fun t=>t=(1,0)) (fun t=>t=(1,0)) w (w.setCell (T_ K.kb (4+i)) (Ut o)):=Ct.of (hK.on fun k _ e=>by subst e;exact h.tk) h.lt;exact⟨h.TP M (Aj hk _) ((hc.IY M' (by simp)).af9 hi ho) (h.fl.IY M' (by rintro t rfl;simp) (by rintro t rfl;simp)),M'.Qb (by rintro t rfl;simp)⟩
section
variable (m:Nat) (w:World)
theorem ac2 (K:KS) (i:Nat) (h:AQ K w) (hi:i<16) (AO:K.op w.heap.size=0):
  CallsIn NF m prog 44 #[.pointer (some (T_ K.kb 4)),.int .i64 (i:Nat),.slice none 0 0] w fun e w'=>e=.returned (.tuple #[])/\AQ { K with nm:=Az K.nm i (some w.heap.size),T:=A8 K.T w.heap.size (10,0) } w'/\Bw K.T (A8 K.T w.heap.size (10,0)) w w':=by
 have f1:(i:Int)<16:=by omega
 have hK:Ab No w (w.alloc (.cells #[.slice none 0 0,.int .i64 0] 191)):=(Ab.refl _ _).alloc _;have hal:(w.alloc (.cells #[.slice none 0 0,.int .i64 0] 191)).heap[w.heap.size]?=some (.cells #[.slice none 0 0,.int .i64 0] 191 (0,0)):=heap_alloc_new rfl;obtain⟨h1,M1⟩:=h.mo (t:=(10,0)) hK (Nat.le_refl _) (Co hal) (by simp) (Dk.file' (v:=.slice none 0 0) BB (by rw[hal,AO];rfl) (.inl rfl));obtain⟨h2,M2⟩:=AQ.am1 (i:=i) (o:=some w.heap.size) h1 hi (fun b e=>by cases e;exact BB);have c1:=(h1.xu hi).1;have z1:=h1.lK (4+i);simp only[Ut,ptr]at h2 M2;gi_enter func44,ntmps44;gi_wp2;go_end0;exact⟨by simp,h2,M1.trans M2⟩
theorem VL (K:KS) (i f:Nat) (h:AQ K w) (hi:i<16) (hf:K.nm i=some f) (AO:K.op f<=1000):
  CallsIn NF m prog 206 #[.pointer (some (T_ K.kb 4)),.int .i64 (i:Nat)] w fun e w'=>∃pb,e=.returned (.iface 337 (ptr pb))/\AQ { K with op:=Az K.op f (K.op f+1),T:=A8 K.T pb (12,f) } w'/\Bw K.T (A8 K.T pb (12,f)) w w':=by
 have f1:(i:Int)<16:=by omega
 obtain⟨qn,tf⟩:=h.xu hi;have tf:=tf f hf;rw[hf]at qn;simp only[Ut,ptr]at qn;obtain⟨v,hfb,_⟩:=h.fl.file f tf;have q1:w.cell? (T_ f 1)=some (.int .i64 (K.op f)):=(Ag hfb 1).trans rfl;have z1:=BF hfb 1;obtain⟨h1,M1⟩:=h.xU (n:=K.op f+1) tf;push_cast at h1 M1;have hK:Ab No (w.setCell (T_ f 1) (.int .i64 ((K.op f:Int)+1))) ((w.setCell (T_ f 1) (.int .i64 ((K.op f:Int)+1))).alloc (.cells #[.pointer (some (T_ K.kb 4)),R_ f,.int .i64 0] 339)):=(Ab.refl _ _).alloc _;have hal:((w.setCell (T_ f 1) (.int .i64 ((K.op f:Int)+1))).alloc (.cells #[.pointer (some (T_ K.kb 4)),R_ f,.int .i64 0] 339)).heap[(w.setCell (T_ f 1) (.int .i64 ((K.op f:Int)+1))).heap.size]?=some (.cells #[.pointer (some (T_ K.kb 4)),R_ f,.int .i64 0] 339 (0,0)):=heap_alloc_new rfl;have az8:f≠(w.setCell (T_ f 1) (.int .i64 ((K.op f:Int)+1))).heap.size:=fun e=>by have:=h1.lt f (Nat.le_of_eq e.symm);simp only at this;rw[tf]at this;simp at this
 obtain⟨h2,M2⟩:=AQ.mo (t:=(12,f)) h1 hK (Nat.le_refl _) (Co hal) (by simp) (Dk.GQ (n:=0) BB hal (by rw[AY az8];exact tf) (by omega));gi_enter func206,ntmps206;gi_wp2;go_ret;refine⟨(w.setCell (T_ f 1) (.int .i64 ((K.op f:Int)+1))).heap.size,by simp[ptr],h2,M1.trans M2⟩
end
end Go.Fxa
