/- A kernel of many processes: or -/
import Derived.Test.YtmhplpfpcnjekaaGreatA22
namespace Go.Fxa
open Conc Proofs RowKit Proofs.Tryz
set_option maxRecDepth 1000000
set_option maxHeartbeats 0
structure Nc (K K':KS):Prop where
 eq:K'={ K with ps:=K'.ps }
 ps:∃f:Nat->Nat,∀b,K'.ps b=(K.ps b).map λr=>{ r with par:=f b }
theorem Nc.refl (K:KS):Nc K K:=⟨rfl,λb=>match K.ps b with|some r=>r.par|none=>0,λb=>by cases h:K.ps b<;>simp[h]⟩
theorem Nc.trans {K K' K'':KS} (h:Nc K K') (h':Nc K' K''):Nc K K'':=by
 obtain⟨e1,f,a⟩:=h;obtain⟨e2,g,p2⟩:=h';refine⟨?_,g,λb=>?_⟩
 .rw[e2,e1]
 .rw[p2,a];cases K.ps b<;>rfl
theorem Nc.set {K:KS} {b:Nat} {r:PR} (hb:K.ps b=some r) (c:Nat):Nc K (K.AP b { r with par:=c }):=by
 refine⟨rfl,λk=>if k=b then c else match K.ps k with|some r=>r.par|none=>0,λk=>?_⟩;show BX K.ps b _ k=_;by_cases e:k=b
 .subst e;rw[Ah,hb];simp
 .rw[Bg e];cases h:K.ps k<;>simp[e,h]
theorem Nc.get {K K':KS} (h:Nc K K') {b:Nat} {r:PR} (hb:K.ps b=some r):∃c,K'.ps b=some { r with par:=c }:=by
 obtain⟨f,a⟩:=h.ps;exact⟨f b,by rw[a,hb];rfl⟩
theorem Nc.there {K K':KS} (h:Nc K K') (hT:K.EZ):K'.EZ:=by
 intro b a;rw[h.eq]at a;obtain⟨r,e⟩:=hT b a;obtain⟨c,d⟩:=h.get e;exact⟨_,d⟩
section
variable (m:Nat) (w:o_)
def zg (K:KS) (w wr:o_):Prop:=∃K1,A8 K1 wr/\Nc K K1/\BV K.T K1.T w wr/\(∀b r,K1.ps b=some r->K.ps b=some r\/r.par<=1)
theorem Y1 {K K1:KS} {w W:o_} {b:Nat} {r:PR} (hr k:Nat) (Bv:k<K.AV.length) (hW:A8 K1 W) (Gq:K1.ps b=some r) (hF:Nc K K1) (hv:BV K.T K1.T w W) (Zd:∀b r,K1.ps b=some r->K.ps b=some r\/r.par<=1) (hhr:hr<=1):
  ∃j:Nat,Value.int .i64 ((k:Int)+1)=b_ j/\j<=K.AV.length/\zg K w (W.setCell (T_ b 1) (b_ hr)):=by
 refine⟨k+1,by simp,by omega,K1.AP b { r with par:=hr },hW.like (r':={ r with par:=hr }) Gq ⟨rfl,rfl,rfl,rfl,rfl⟩ rfl (hW.ps b r Gq).bl,hF.trans (Nc.set Gq hr),hv.trans (hW.FI Gq),λx q a=>?_⟩;have a:BX K1.ps b { r with par:=hr } x=some q:=a;by_cases e:x=b
 .subst e;rw[Ah]at a;cases a;exact .inr hhr
 .rw[Bg e]at a;exact Zd x q a
theorem oU (K:KS) (h:A8 K w) (hT:K.EZ) (hl:K.AV.length<=100):P_ m 54 #[R_ K.kb,b_ 1] w λe w'=>((∃b r,e=.returned (R_ b)/\K.ps b=some r/\w'.cell? (T_ b 2)=some (.bool r.en))\/e=.returned (.pointer none))/\Keep No w w':=by
 refine(Zr m w K 1 h hT hl).mono ?_;rintro e w' ⟨a,v,rfl,⟨b,r,rfl,_,c,_⟩|⟨rfl,_⟩⟩
 .have q:=(h.no a).JK c 2;simp[PR.arr]at q;exact⟨.inl ⟨b,r,rfl,c,q⟩,a⟩
 .exact⟨.inr rfl,a⟩
theorem vk (K:KS) (pb:Nat) (p:PR) (h:A8 K w) (hT:K.EZ) (hp:K.ps pb=some p) (hl:K.AV.length<=100):
  P_ m 157 #[R_ K.kb,R_ pb] w λe w'=>e=.returned (.tuple #[])/\zg K w w':=by
 have c:=λm=>oU m w K h hT hl
 have A:=h.kc2;gi_enter func157,ntmps157;gi_wp2_with (gi_at_call 54;refine(c _).mono ?_;rintro e w1 ⟨⟨E,C,rfl,D,d1⟩|rfl,d⟩<;>have A:=d.has A<;>try (cases hn:C.en<;>rw[hn]at d1))
 all_goals
  gi_loopw [24] (λi wr=>∃(k:Nat),i=b_ k/\k<=K.AV.length/\zg K w wr) (λi _=>K.AV.length-(intOf i).toNat)
  case atStart=>exact⟨0,rfl,by omega,K,h.no d,Nc.refl K,BV.no d h.lt,λ_ _ h=>.inl h⟩
  case round=>
   obtain⟨k,rfl,G,f,g,a,q,n⟩:=hrel
   have B:f.AV=K.AV:=by rw[a.eq]
   have t:f.pg=K.pg:=by rw[a.eq]
   by_cases s:k<K.AV.length
   .have y:K.AV[k]?=some K.AV[k]:=Lh s;generalize K.AV[k]=b at y;have j:f.AV[k]?=some b:=(by rw[B];exact y);obtain⟨r,l⟩:=A8.mem (a.there hT) j;obtain⟨H,u⟩:=a.get hp;have x:=g.qJ j;rw[t]at x;have d1:=g.JK l 1;have d2:=g.JK u 0;simp only[ptr]at x;simp[PR.arr]at d1 d2;gi_wp2;refine CV 8 42 ?_;gi_wp2;refine Fg ?_ ?_
    .intro W d;have e1:=d.has (w:=wr.drew) d1;have e2:=d.has (w:=wr.drew) d2
     repeat' (refine Az ?_ ?_)
     all_goals first|exact trivial|gi_wp2
    .intro W d;have KW:Keep No wr W:=(p_ No wr).drew.then d;have e1:=KW.has d1;have o:=g.no KW;have F:=o.tZ l 1;by_cases z:(r.par:Int)=p.pid
     .have v:((r.par:Int)==(p.pid:Int))=true:=(by simpa using z);gi_wp2;go_roundw
      case rel=>
       first|exact Y1 1 k s o l a (q.then KW) n (by omega)|exact Y1 0 k s o l a (q.then KW) n (by omega)
      case measure=>simp[intOf];omega
     .have v:((r.par:Int)==(p.pid:Int))=false:=(by simpa using z);gi_wp2;go_roundw
      case rel=>exact⟨k+1,by go_num,by omega,f,o,a,q.then KW,n⟩
      case measure=>simp[intOf];omega
   .obtain rfl:k=K.AV.length:=(by omega);gi_wp2;go_end0;exact⟨by simp,f,g,a,q,n⟩
end
theorem ao2:Nh prog 100 119 (.pointer none) 1 8:=⟨underlying100,by kernel_rfl,by rfl,by decide,by intro x a;simp[Value.cells]at a;subst a;rfl⟩
def Yy (gn:Nat->Bool) (g:Nat) (w:o_) (b:Nat):Prop:=b≠g/\∃(p:Nat) (e:Bool),w.cell? (T_ b 1)=some (b_ p)/\w.cell? (T_ b 2)=some (.bool e)/\gn b=(e && p==0)
theorem Yy.keep {gn:Nat->Bool} {g b:Nat} {w w':o_} (h:Yy gn g w b) (hK:Keep (At g) w w'):Yy gn g w' b:=by
 obtain⟨a,h⟩:=h;refine⟨a,?_⟩;obtain⟨p,e,c,d,f⟩:=h;exact⟨p,e,(hK.cell (World.block_lt_of_cell? _ _ c) a).trans c,(hK.cell (World.block_lt_of_cell? _ _ d) a).trans d,f⟩
section
variable (m:Nat) (w:o_)
theorem ό (g cap:Nat) (l:List Nat) (gn:Nat->Bool) (hR:Rw 119 1 w g l.length cap (BH l)) (hc:∀b∈l,Yy gn g w b) (hl:l.length<=100000):
  P_ m 238 #[Q_ g l.length cap,.func (.func 213) #[] #[]] w λe w'=>Keep No w w'/\((e=.returned (b_ (-1))/\∀b∈l,gn b=false)\/∃k b,e=.returned (b_ (k:Nat))/\l[k]?=some b/\gn b=true/\∀(j:Nat) b,j<k->l[j]?=some b->gn b=false):=by
 gi_enter func238,ntmps238;gi_wp2;gi_loopw [8] (λi wr=>∃k:Nat,k<=l.length/\i=b_ k/\Keep No w wr/\∀(j:Nat) b,j<k->l[j]?=some b->gn b=false) (λi _=>l.length-(intOf i).toNat)
 case atStart=>exact⟨0,by omega,rfl,p_ _ _,λj b h=>absurd h (by omega)⟩
 case round=>
  obtain⟨k,z,rfl,KK,n⟩:=hrel
  by_cases s:k<l.length
  .have c:l[k]?=some l[k]:=Lh s;generalize l[k]=b at c;have x:wr.cell? (T_ g k)=some (R_ b):=(by rw[Rw.cell (hR.keep KK id) (by omega)];simp[BH,c,ptr]);obtain⟨_,u⟩:=(hc b (t_ c)).keep KK.no;obtain⟨p,e,d1,d2,a⟩:=u;obtain⟨d,r⟩|⟨d,r⟩|d:(e=true/\((p:Int)==0)=true)\/(e=true/\((p:Int)==0)=false)\/e=false:=by cases e<;>simp[Decidable.em]
   all_goals
    subst d
    simp only[Bool.true_and,Bool.false_and]at a
    try (have v:(p==0)=((p:Int)==0):=by(rw[Bool.eq_iff_iff];simp))
    try rw[v,r]at a
   .gi_wp2_with gi_in;go_ret;exact⟨KK,.inr ⟨k,b,by simp,c,a,n⟩⟩
   all_goals
    gi_wp2_with gi_in
    go_roundw
    case rel=>
     refine⟨k+1,by omega,by go_num,KK,λj q y f=>?_⟩
     by_cases e:j=k
     .subst e;rw[c]at f;cases f;exact a
     .exact n j q (by omega) f
    case measure=>simp[intOf];omega
  .obtain rfl:k=l.length:=(by omega);gi_wp2;go_ret;refine⟨KK,.inl ⟨by simp,λb t=>?_⟩⟩;obtain⟨i,o⟩:=List.getElem?_of_mem t;exact n i b (O5.1 o).1 o
theorem wo (g cap:Nat) (l:List Nat) (gn:Nat->Bool) (hR:Rw 119 1 w g l.length cap (BH l)) (hc:∀b∈l,Yy gn g w b) (hl:l.length<=100000):
  P_ m 212 #[Q_ g l.length cap,.func (.func 213) #[] #[]] w λe w'=>e=.returned (Q_ g (l.filter λb=>!gn b).length cap)/\Keep (At g) w w'/\Rw 119 1 w' g (l.filter λb=>!gn b).length cap (BH (l.filter λb=>!gn b)):=by
 have c:=λm=>ό m w g cap l gn hR hc hl
 gi_enter func212,ntmps212;gi_wp2_with (gi_at_call 238;refine(c _).mono ?_;rintro e w1 ⟨u,⟨rfl,X⟩|⟨t,b0,rfl,o,E,r⟩⟩<;>try (have f0:((t:Int)==-1)=false:=(by simp);have V:=(O5.1 o).1))
 .go_ret;have e:l.filter (λb=>!gn b)=l:=List.filter_eq_self.2 λb D=>by simp[X b D]
  rw[e];exact⟨by simp,u.no,hR.keep u id⟩
 .gi_loopw [5,6] (λQ B wr=>∃(i j:Nat) (h:U_),Q=b_ i/\B=b_ j/\i<j/\j<=l.length/\Keep (At g) w wr/\Rw 119 1 wr g l.length cap h/\i=((l.take j).filter λb=>!gn b).length/\h.take i=BH ((l.take j).filter λb=>!gn b)/\h.drop j=BH (l.drop j)) (λ_ B _=>l.length-(intOf B).toNat)
  case atStart=>
   have e:(l.take (t+1)).filter (λb=>!gn b)=l.take t:=by
    rw[List.take_add_one,o,List.filter_append]
    simp only[Option.toList_some,List.filter_cons,E,Bool.not_true,List.filter_nil]
    simp only[Bool.false_eq_true,if_false,List.append_nil]
    refine List.filter_eq_self.2 λb D=>?_
    obtain⟨j,z⟩:=List.getElem?_of_mem D
    rw[List.getElem?_take]at z
    split at z
    .rename_i H;simp[r j b H z]
    .cases z
   refine⟨t,t+1,BH l,rfl,by go_num,by omega,by omega,u.no,hR.keep u id,?_,?_,?_⟩
   .rw[e,List.length_take];omega
   .rw[e];simp[BH]
   .simp[BH]
  case round=>
   obtain⟨i,j,h,rfl,rfl,T,U,KK,f,d,s,K⟩:=hrel
   have k:Nonempty (PLift (i=((l.take j).filter λb=>!gn b).length)):=⟨⟨d⟩⟩
   clear d
   have W:=f.le
   have Z:=f.len
   by_cases N:j<l.length
   .have y:l[j]?=some l[j]:=Lh N;generalize l[j]=b at y;have I:h[j]?=some (ptr b):=by
     have:(h.drop j)[0]?=some (ptr b):=by rw[K];simp[BH,y]
     simpa using this
    have d0:wr.cell? (T_ g j)=some (R_ b):=(by rw[f.cell (by omega),I];rfl);have A:l.take (j+1)=l.take j++[b]:=(by rw[List.take_add_one,y];rfl);have J:h.drop (j+1)=BH (l.drop (j+1)):=by
     have:=congrArg (List.drop 1) K
     simpa [BH,List.drop_drop]using this
    have fz:=f.fz i;have R:(i:Int)<(l.length:Int):=(by omega);have ci:∃v,wr.cell? (T_ g i)=some v:=by
     rw[f.cell (by omega)]
     exact⟨_,Lh (by omega)⟩
    obtain⟨vi,ci⟩:=ci;obtain⟨_,Y⟩:=(hc b (t_ y)).keep KK;obtain⟨p,e,d1,d2,a⟩:=Y;obtain⟨G,L⟩|⟨G,L⟩|G:(e=true/\((p:Int)==0)=true)\/(e=true/\((p:Int)==0)=false)\/e=false:=by cases e<;>simp[Decidable.em]
    all_goals
     subst G
     simp only[Bool.true_and,Bool.false_and]at a
     try (have hz:(p==0)=((p:Int)==0):=by(rw[Bool.eq_iff_iff];simp))
     try rw[hz,L]at a
    .gi_wp2_with gi_in;go_roundw
     case rel=>
      refine⟨i,j+1,h,rfl,by go_num,by omega,by omega,KK,f,?_,?_,J⟩
      .obtain⟨⟨d⟩⟩:=k;rw[A,List.filter_append];simp[a,<-d]
      .rw[A,List.filter_append];simp[a,s]
     case measure=>simp[intOf];omega
    all_goals
     gi_wp2_with gi_in
     go_roundw
     case rel=>
      refine⟨i+1,j+1,h.set i (ptr b),by go_num,by go_num,by omega,by omega,KK.setCell _ λ_=>rfl,f.set _ rfl,?_,?_,?_⟩
      .obtain⟨⟨d⟩⟩:=k;rw[A,List.filter_append];simp[a,<-d]
      .rw[A,List.filter_append,List.take_add_one,List.take_set_of_le (w_ i),s,List.getElem?_set_self (by omega)];simp[a,BH]
      .rw[List.drop_set_of_lt (by omega)];exact J
     case measure=>simp[intOf];omega
   .obtain rfl:j=l.length:=(by omega);rw[List.take_length]at k s;obtain⟨⟨d⟩⟩:=k;have n:Rw 119 1 wr g i cap (BH (l.filter λb=>!gn b)):=by
     obtain⟨C,a1,a2,P⟩:=f.blk
     refine⟨⟨C,a1,a2,?_⟩,by omega,f.max,by simp[BH,<-d],?_⟩
     .rw[<-s,<-P,List.take_take];congr 1;omega
     .intro x M;rw[<-s]at M;exact f.one x (List.mem_of_mem_take M)
    have k:Nonempty (PLift (i=(l.filter λb=>!gn b).length)):=⟨⟨d⟩⟩;clear d;have f5:¬cap=i:=(by omega);obtain⟨w2,F,O,S⟩:=PV (c:=cap-i) (q:=l.length-i) (ty:=0) ao2 n (by omega);simp only[Nat.mul_one]at F;have R:¬(l.length:Int)<(i:Int):=(by omega);gi_wp2;go_ret;obtain⟨⟨d⟩⟩:=k;rw[<-d];exact⟨by simp,KK.then O,S⟩
end
def RQ (ps:Nat->d_ PR) (b:Nat):Bool:=match ps b with|some r=>r.en && r.par==0|none=>false
def KS.Zi (K:KS):KS:={ K with AV:=K.AV.filter λb=>!RQ K.ps b }
section
variable (m:Nat) (w:o_)
theorem aj7 (K:KS) (h:A8 K w) (hT:K.EZ) (hl:K.AV.length<=100):
  P_ m 158 #[R_ K.kb] w λe w'=>e=.returned (.tuple #[])/\A8 K.Zi w'/\BV K.T K.T w w':=by
 obtain⟨p,n,d⟩:=h.k;have q:=h.kc2;have l:∀b∈K.AV,Yy (RQ K.ps) K.pg w b:=by
  intro b j
  obtain⟨r,a⟩:=hT b j
  refine⟨λe=>?_,r.par,r.en,?_,?_,?_⟩
  .have:=(h.ps b r a).t;rw[e,h.tp]at this;simp at this
  .rw[h.JK a];simp[PR.arr]
  .rw[h.JK a];simp[PR.arr]
  .unfold RQ;rw[a]
 have c:=λm=>wo m w K.pg K.pc K.AV (RQ K.ps) h.pr l (by omega)
 have f:K.kb≠K.pg:=λe=>by have:=h.tk;rw[e,h.tp]at this;simp at this
 gi_enter func158,ntmps158;gi_wp2_with (gi_at_call 212;refine(c _).mono ?_;rintro e w1 ⟨rfl,g,i⟩;have k1:=g.old n f;have o:=BN k1 2;have c2:=(Af k1 2).trans d.c2);go_end0;have M:DY K.T K.T (λt=>t=(1,0)\/t=(4,0)) (λt=>t=(4,0)) w (w1.setCell (T_ K.kb 2) (Q_ K.pg (K.AV.filter λb=>!RQ K.ps b).length K.pc)):=DY.of ((g.on (by rintro k _ rfl;exact .inr h.tp)).setCell _ λ_=>.inl h.tk) h.lt;refine⟨by simp,h.Wu (BK:=K.BK) M d (Ak k1 _) ?_ (i.keep ((p_ (At K.kb) _).setCell _ λ_=>rfl) f.symm) h.tp,M.TL (by rintro t (rfl|rfl)<;>simp)⟩;rw[PQ d.c3]
end
structure FOne (T:Tag) (op:Nat->Nat) (ct:Nat->Ct) (w:o_) (kb b:Nat):Prop where
 file:T b=(10,0)->∃v,w.heap[b]?=some (O_ #[v,b_ (op b)] 191)/\RJ T w b 64 v (ct b).ws
 pipe:T b=(11,0)->∃v,w.heap[b]?=some (O_ #[v,.bool (ct b).x,.bool (ct b).y] 329)/\RJ T w b 16 v (ct b).ws
 Iu:∀f,T b=(12,f)->w.heap[b]?=some (O_ #[.pointer (some (T_ kb 4)),ptr f,b_ ((ct b).n:Nat)] 339)/\T f=(10,0)/\(ct b).n<=64
 rend:T b=(13,0)->w.heap[b]?=some (O_ #[ptr (ct b).n] 333)/\T (ct b).n=(11,0)
 TU:T b=(14,0)->w.heap[b]?=some (O_ #[ptr (ct b).n] 335)/\T (ct b).n=(11,0)
theorem FOne.ct {T:Tag} {op:Nat->Nat} {ct QL:Nat->Ct} {w:o_} {kb b:Nat} (h:FOne T op ct w kb b) (e:QL b=ct b):FOne T op QL w kb b:=by
 obtain⟨a,c,d,f,g⟩:=h;rw[<-e]at a c d f g;exact⟨a,c,d,f,g⟩
theorem Yq.one {T:Tag} {op:Nat->Nat} {ct:Nat->Ct} {w:o_} {kb:Nat} (h:Yq T op ct w kb) (b:Nat):FOne T op ct w kb b:=⟨h.file b,h.pipe b,h.Iu b,h.rend b,h.TU b⟩
theorem Yq.of {T:Tag} {op:Nat->Nat} {ct:Nat->Ct} {w:o_} {kb:Nat} (h:∀b,FOne T op ct w kb b):Yq T op ct w kb:=⟨λb=>(h b).file,λb=>(h b).pipe,λb=>(h b).Iu,λb=>(h b).rend,λb=>(h b).TU⟩
section
variable {T T':Tag} {op:Nat->Nat} {ct QL:Nat->Ct} {w w':o_} {kb p:Nat}
theorem FOne.file' (ht:T p=(10,0)) {v:n_} (h1:w.heap[p]?=some (O_ #[v,b_ (op p)] 191)) (h2:RJ T w p 64 v (ct p).ws):FOne T op ct w kb p:=by
 refine⟨λ_=>⟨v,h1,h2⟩,λe=>?_,λd e=>?_,λe=>?_,λe=>?_⟩
 all_goals rw[ht]at e;simp at e
theorem FOne.UK (ht:T p=(11,0)) {v:n_} (h1:w.heap[p]?=some (O_ #[v,.bool (ct p).x,.bool (ct p).y] 329)) (h2:RJ T w p 16 v (ct p).ws):FOne T op ct w kb p:=by
 refine⟨λe=>?_,λ_=>⟨v,h1,h2⟩,λd e=>?_,λe=>?_,λe=>?_⟩
 all_goals rw[ht]at e;simp at e
theorem FOne.ad7 {f:Nat} (ht:T p=(12,f)) (h1:w.heap[p]?=some (O_ #[.pointer (some (T_ kb 4)),ptr f,b_ ((ct p).n:Nat)] 339)) (h2:T f=(10,0)) (h3:(ct p).n<=64):FOne T op ct w kb p:=by
 refine⟨λe=>?_,λe=>?_,λd e=>?_,λe=>?_,λe=>?_⟩
 rotate_left 2
 .rw[ht]at e;obtain rfl:f=d:=by simpa using e
  exact⟨h1,h2,h3⟩
 all_goals rw[ht]at e;simp at e
theorem FOne.rend' (ht:T p=(13,0)) (h1:w.heap[p]?=some (O_ #[ptr (ct p).n] 333)) (h2:T (ct p).n=(11,0)):FOne T op ct w kb p:=by
 refine⟨λe=>?_,λe=>?_,λd e=>?_,λ_=>⟨h1,h2⟩,λe=>?_⟩
 all_goals rw[ht]at e;simp at e
theorem FOne.bc7 (ht:T p=(14,0)) (h1:w.heap[p]?=some (O_ #[ptr (ct p).n] 335)) (h2:T (ct p).n=(11,0)):FOne T op ct w kb p:=by
 refine⟨λe=>?_,λe=>?_,λd e=>?_,λe=>?_,λ_=>⟨h1,h2⟩⟩
 all_goals rw[ht]at e;simp at e
theorem FOne.no (ht:(T p).1<10):FOne T op ct w kb p:=by
 refine⟨λe=>?_,λe=>?_,λd e=>?_,λe=>?_,λe=>?_⟩
 all_goals rw[e]at ht;simp at ht
theorem FOne.keep {b:Nat} (h:FOne T op ct w kb b) {S:Nat->Prop} (hK:Keep S w w') (hb:¬S b) (hw:∀g,T g=(15,b)->¬S g):FOne T op ct w' kb b:=by
 have d:∀{M v l},RJ T w b M v l->RJ T w' b M v l:=λh=>by
  obtain h|⟨g,c,a1,a2,f,i,a⟩:=h
  .exact .inl h
  .exact .inr ⟨g,c,a1,a2.keep hK (hw g a),f,i,a⟩
 refine⟨λe=>?_,λe=>?_,λc e=>?_,λe=>?_,λe=>?_⟩
 .obtain⟨x,a1,a2⟩:=h.file e;exact⟨x,hK.old a1 hb,d a2⟩
 .obtain⟨x,a1,a2⟩:=h.pipe e;exact⟨x,hK.old a1 hb,d a2⟩
 .obtain⟨a1,a2⟩:=h.Iu c e;exact⟨hK.old a1 hb,a2⟩
 .obtain⟨a1,a2⟩:=h.rend e;exact⟨hK.old a1 hb,a2⟩
 .obtain⟨a1,a2⟩:=h.TU e;exact⟨hK.old a1 hb,a2⟩
theorem KC.ap4 {K:KS} {ks:X_} (h:KC K w ks) (f:Nat->Ct):KC { K with ct:=f } w ks:=⟨h.c0,h.c1,h.c2,h.c3,h.nm,h.nl,h.en⟩
theorem Yq.set {b0:Nat} (h:Yq T op ct w kb) {S:Nat->Prop} (hK:Keep S w w') (hS:∀k,S k->(k=b0/\(T k).1≠15)\/T k=(15,b0)) (h0:10<=(T b0).1) (h0':(T b0).1<15) (hp:FOne T op QL w' kb b0) (hc:∀b,b≠b0->QL b=ct b):Yq T op QL w' kb:=Yq.of λb=>by
 by_cases e:b=b0
 .subst e;exact hp
 .by_cases d:(T b).1<10\/(T b).1=15
  .obtain d|d:=d
   .exact FOne.no d
   .refine⟨λe=>?_,λe=>?_,λc e=>?_,λe=>?_,λe=>?_⟩<;>rw[e]at d<;>simp at d
  .refine FOne.ct ((h.one b).keep hK (λf=>?_) (λg i f=>?_)) (hc b e)
   .obtain⟨a,_⟩|a:=hS b f
    .exact e a
    .exact d (.inr (by rw[a]))
   .obtain⟨a,j⟩|a:=hS g f
    .exact j (by rw[i])
    .rw[i]at a;exact e (by simpa using a)
theorem A8.bF {K:KS} {b0:Nat} (h:A8 K w) {S:Nat->Prop} (hK:Keep S w w') (hS:∀k,S k->(k=b0/\(K.T k).1≠15)\/K.T k=(15,b0)) (h0:10<=(K.T b0).1) (h0':(K.T b0).1<15) (hp:FOne K.T K.op QL w' K.kb b0) (Es:∀b,b≠b0->QL b=K.ct b) (hln:K.T b0=(10,0)->¬S b0):A8 { K with ct:=QL } w'/\BV K.T K.T w w':=by
 obtain⟨m,d,j⟩:=h.k;have a:∀k,S k->10<=(K.T k).1:=λk d=>by
  obtain⟨rfl,_⟩|c:=hS k d
  .exact h0
  .rw[c];simp
 have M:DY K.T K.T (λt=>t=(1,0)\/t=(5,0)\/10<=t.1) (λt=>t=(5,0)\/10<=t.1) w w':=DY.of (hK.on λk _ e=>.inr (.inr (a k e))) h.lt;have i:DY K.T K.T (λt=>10<=t.1) (λt=>10<=t.1) w w':=DY.of (hK.on λk _ e=>a k e) h.lt;have f:¬S K.kb:=λe=>by have:=a _ e;rw[h.tk]at this;simp at this
 refine⟨h.aX (ks':=m) M (hK.old d f) (KC.ap4 (j.Jl i (by simp)) QL) (h.fl.set hK hS h0 h0' hp Es) (h.dk.to λb n e=>⟨e,λl=>l.keep hK λg=>?_⟩),M.TL ?_⟩
 .obtain⟨rfl,_⟩|c:=hS b g
  .exact hln e g
  .rw[e]at c;simp at c
 rintro t (rfl|rfl|h)<;>try simp
 rintro rfl;simp at h
theorem A8.yA {K:KS} (h:A8 K w) (hK:Keep (At p) w w') (ht:10<=(K.T p).1) (ht':(K.T p).1<15) (h10:(K.T p).1≠10) (hp:FOne K.T K.op QL w' K.kb p) (Es:∀b,b≠p->QL b=K.ct b):A8 { K with ct:=QL } w'/\BV K.T K.T w w':=
 h.bF hK (λk e=>by subst e;exact .inl ⟨rfl,by omega⟩) ht ht' hp Es λe=>absurd (by rw[e]) h10
theorem RJ.set {b M:Nat} {v:n_} {ws:List Nat} (h:RJ T w b M v ws) {S:Nat->Prop} (hK:Keep S w w') (hw:∀g,T g=(15,b)->¬S g):RJ T w' b M v ws:=by
 obtain h|⟨g,c,a1,a2,d,e,a⟩:=h
 .exact .inl h
 .exact .inr ⟨g,c,a1,a2.keep hK (hw g a),d,e,a⟩
end
theorem KC.br5 {K:KS} {w w':o_} {T':Tag} {Q N:Nat×Nat->Prop} {ks:X_} (h:KC K w ks) (M:DY K.T T' Q N w w') {l:List Nat} {v:n_} (hv:ϻ T' w' l v):KC { K with nl:=l,T:=T' } w' (ks.setIfInBounds 20 v):=by
 obtain⟨_,a,_⟩:=h.nl;have g:20<ks.size:=(y_.1 a).1;refine⟨?_,?_,?_,?_,λi f=>?_,⟨v,by simp[g],hv⟩,λi f=>?_⟩
 .rw[IB (by omega)];exact h.c0
 .rw[IB (by omega)];exact h.c1
 .rw[IB (by omega)];exact h.c2
 .rw[IB (by omega)];exact h.c3
 .rw[IB (by omega)];exact⟨(h.nm i f).1,λb e=>M.tag ((h.nm i f).2 b e) (by simp)⟩
 .rw[IB (by omega),IB (by omega)];exact let ⟨a,b,c,d⟩:=h.en i f;⟨a,b,c,λe=>(d e).Jl M⟩
section
variable (m:Nat) (w:o_)
theorem uT (K:KS) (b:Nat) (h:A8 K w) (hb:K.T b=(13,0)):P_ m 269 #[R_ b] w λe w'=>e=.returned (.tuple #[])/\A8 { K with ct:=Aj K.ct (K.ct b).n { K.ct (K.ct b).n with x:=false } } w'/\BV K.T K.T w w':=by
 obtain⟨f,a⟩:=h.fl.rend b hb;generalize (K.ct b).n=p at*;obtain⟨v,c,i⟩:=h.fl.pipe p a;have j:w.cell? (S_ b)=some (R_ p):=(Af f 0).trans rfl;have d1:w.cell? (T_ p 1)=some (.bool (K.ct p).x):=(Af c 1).trans rfl;have k:=BN c 1;gi_enter func269,ntmps269;gi_wp2;go_end0;have:=h.yA (p:=p) (QL:=Aj K.ct p { K.ct p with x:=false }) (w':=w.setCell (T_ p 1) (.bool false)) ((p_ _ _).setCell _ λ_=>rfl) (by rw[a];simp) (by rw[a];simp) (by rw[a];simp) (FOne.UK (v:=v) a ((Ak c _).trans (by simp[Aj])) (by have:=i.set (Keep.Jo (b:=p) (o:=1) (.bool false)) (λg d e=>by rw[show g=p from e,a]at d;simp at d);simpa [Aj]using this)) (λb hb=>if_neg hb);exact⟨by simp,this.1,this.2⟩
theorem uC (K:KS) (b:Nat) (h:A8 K w) (hb:K.T b=(14,0)):P_ m 276 #[R_ b] w λe w'=>e=.returned (.tuple #[])/\A8 { K with ct:=Aj K.ct (K.ct b).n { K.ct (K.ct b).n with y:=false } } w'/\BV K.T K.T w w':=by
 obtain⟨f,a⟩:=h.fl.TU b hb;generalize (K.ct b).n=p at*;obtain⟨v,c,i⟩:=h.fl.pipe p a;have j:w.cell? (S_ b)=some (R_ p):=(Af f 0).trans rfl;have d1:w.cell? (T_ p 2)=some (.bool (K.ct p).y):=(Af c 2).trans rfl;have k:=BN c 2;gi_enter func276,ntmps276;gi_wp2;go_end0;have:=h.yA (p:=p) (QL:=Aj K.ct p { K.ct p with y:=false }) (w':=w.setCell (T_ p 2) (.bool false)) ((p_ _ _).setCell _ λ_=>rfl) (by rw[a];simp) (by rw[a];simp) (by rw[a];simp) (FOne.UK (v:=v) a ((Ak c _).trans (by simp[Aj])) (by have:=i.set (Keep.Jo (b:=p) (o:=2) (.bool false)) (λg d e=>by rw[show g=p from e,a]at d;simp at d);simpa [Aj]using this)) (λb hb=>if_neg hb);exact⟨by simp,this.1,this.2⟩
end
theorem bl4:Nh prog 103 101 (.pointer none) 1 8:=⟨underlying103,by kernel_rfl,by rfl,by decide,by intro x a;simp[Value.cells]at a;subst a;rfl⟩
def Yz (gn:Nat->Bool) (g:Nat) (w:o_) (b:Nat):Prop:=b≠g/\∃n:Int,w.cell? (T_ b 1)=some (b_ n)/\gn b=(n==0)
theorem Yz.keep {gn:Nat->Bool} {g b:Nat} {w w':o_} (h:Yz gn g w b) (hK:Keep (At g) w w'):Yz gn g w' b:=by
 obtain⟨a,h⟩:=h;refine⟨a,?_⟩;obtain⟨n,c,d⟩:=h;exact⟨n,(hK.cell (World.block_lt_of_cell? _ _ c) a).trans c,d⟩
section
variable (m:Nat) (w:o_)
theorem ϋ (g cap:Nat) (l:List Nat) (gn:Nat->Bool) (hR:Rw 101 1 w g l.length cap (BH l)) (hc:∀b∈l,Yz gn g w b) (hl:l.length<=100000):
  P_ m 248 #[Q_ g l.length cap,.func (.func 246) #[] #[]] w λe w'=>Keep No w w'/\((e=.returned (b_ (-1))/\∀b∈l,gn b=false)\/∃k b,e=.returned (b_ (k:Nat))/\l[k]?=some b/\gn b=true/\∀(j:Nat) b,j<k->l[j]?=some b->gn b=false):=by
 gi_enter func248,ntmps248;gi_wp2;gi_loopw [8] (λi wr=>∃k:Nat,k<=l.length/\i=b_ k/\Keep No w wr/\∀(j:Nat) b,j<k->l[j]?=some b->gn b=false) (λi _=>l.length-(intOf i).toNat)
 case atStart=>exact⟨0,by omega,rfl,p_ _ _,λj b h=>absurd h (by omega)⟩
 case round=>
  obtain⟨k,x,rfl,KK,f⟩:=hrel
  by_cases r:k<l.length
  .have c:l[k]?=some l[k]:=Lh r;generalize l[k]=b at c;have u:wr.cell? (T_ g k)=some (R_ b):=(by rw[Rw.cell (hR.keep KK id) (by omega)];simp[BH,c,ptr]);obtain⟨_,t⟩:=(hc b (t_ c)).keep KK.no;obtain⟨n,d1,a⟩:=t;obtain p|p:(n==0)=true\/(n==0)=false:=by cases n==0<;>simp
   all_goals rw[p]at a
   .gi_wp2_with gi_in;go_ret;exact⟨KK,.inr ⟨k,b,by simp,c,a,f⟩⟩
   all_goals
    gi_wp2_with gi_in
    go_roundw
    case rel=>
     refine⟨k+1,by omega,by go_num,KK,λj q v d=>?_⟩
     by_cases e:j=k
     .subst e;rw[c]at d;cases d;exact a
     .exact f j q (by omega) d
    case measure=>simp[intOf];omega
  .obtain rfl:k=l.length:=(by omega);gi_wp2;go_ret;refine⟨KK,.inl ⟨by simp,λb s=>?_⟩⟩;obtain⟨i,o⟩:=List.getElem?_of_mem s;exact f i b (O5.1 o).1 o
theorem vZ (g cap:Nat) (l:List Nat) (gn:Nat->Bool) (hR:Rw 101 1 w g l.length cap (BH l)) (hc:∀b∈l,Yz gn g w b) (hl:l.length<=100000):
  P_ m 245 #[Q_ g l.length cap,.func (.func 246) #[] #[]] w λe w'=>e=.returned (Q_ g (l.filter λb=>!gn b).length cap)/\Keep (At g) w w'/\Rw 101 1 w' g (l.filter λb=>!gn b).length cap (BH (l.filter λb=>!gn b)):=by
 have c:=λm=>ϋ m w g cap l gn hR hc hl
 gi_enter func245,ntmps245;gi_wp2_with (gi_at_call 248;refine(c _).mono ?_;rintro e w1 ⟨u,⟨rfl,W⟩|⟨t,Z,rfl,p,E,r⟩⟩<;>try (have f0:((t:Int)==-1)=false:=(by simp);have U:=(O5.1 p).1))
 .go_ret;have e:l.filter (λb=>!gn b)=l:=List.filter_eq_self.2 λb D=>by simp[W b D]
  rw[e];exact⟨by simp,u.no,hR.keep u id⟩
 .gi_loopw [5,6] (λP B wr=>∃(i j:Nat) (h:U_),P=b_ i/\B=b_ j/\i<j/\j<=l.length/\Keep (At g) w wr/\Rw 101 1 wr g l.length cap h/\i=((l.take j).filter λb=>!gn b).length/\h.take i=BH ((l.take j).filter λb=>!gn b)/\h.drop j=BH (l.drop j)) (λ_ B _=>l.length-(intOf B).toNat)
  case atStart=>
   have e:(l.take (t+1)).filter (λb=>!gn b)=l.take t:=by
    rw[List.take_add_one,p,List.filter_append]
    simp only[Option.toList_some,List.filter_cons,E,Bool.not_true,List.filter_nil]
    simp only[Bool.false_eq_true,if_false,List.append_nil]
    refine List.filter_eq_self.2 λb D=>?_
    obtain⟨j,z⟩:=List.getElem?_of_mem D
    rw[List.getElem?_take]at z
    split at z
    .rename_i G;simp[r j b G z]
    .cases z
   refine⟨t,t+1,BH l,rfl,by go_num,by omega,by omega,u.no,hR.keep u id,?_,?_,?_⟩
   .rw[e,List.length_take];omega
   .rw[e];simp[BH]
   .simp[BH]
  case round=>
   obtain⟨i,j,h,rfl,rfl,S,T,KK,f,a,s,J⟩:=hrel
   have k:Nonempty (PLift (i=((l.take j).filter λb=>!gn b).length)):=⟨⟨a⟩⟩
   clear a
   have V:=f.le
   have Y:=f.len
   by_cases M:j<l.length
   .have y:l[j]?=some l[j]:=Lh M;generalize l[j]=b at y;have H:h[j]?=some (ptr b):=by
     have:(h.drop j)[0]?=some (ptr b):=by rw[J];simp[BH,y]
     simpa using this
    have d0:wr.cell? (T_ g j)=some (R_ b):=(by rw[f.cell (by omega),H];rfl);have A:l.take (j+1)=l.take j++[b]:=(by rw[List.take_add_one,y];rfl);have I:h.drop (j+1)=BH (l.drop (j+1)):=by
     have:=congrArg (List.drop 1) J
     simpa [BH,List.drop_drop]using this
    have fz:=f.fz i;have Q:(i:Int)<(l.length:Int):=(by omega);have ci:∃v,wr.cell? (T_ g i)=some v:=by
     rw[f.cell (by omega)]
     exact⟨_,Lh (by omega)⟩
    obtain⟨vi,ci⟩:=ci;obtain⟨_,X⟩:=(hc b (t_ y)).keep KK;obtain⟨n,d1,d⟩:=X;obtain K|K:(n==0)=true\/(n==0)=false:=by cases n==0<;>simp
    all_goals rw[K]at d
    .gi_wp2_with gi_in;go_roundw
     case rel=>
      refine⟨i,j+1,h,rfl,by go_num,by omega,by omega,KK,f,?_,?_,I⟩
      .obtain⟨⟨a⟩⟩:=k;rw[A,List.filter_append];simp[d,<-a]
      .rw[A,List.filter_append];simp[d,s]
     case measure=>simp[intOf];omega
    all_goals
     gi_wp2_with gi_in
     go_roundw
     case rel=>
      refine⟨i+1,j+1,h.set i (ptr b),by go_num,by go_num,by omega,by omega,KK.setCell _ λ_=>rfl,f.set _ rfl,?_,?_,?_⟩
      .obtain⟨⟨a⟩⟩:=k;rw[A,List.filter_append];simp[d,<-a]
      .rw[A,List.filter_append,List.take_add_one,List.take_set_of_le (w_ i),s,List.getElem?_set_self (by omega)];simp[d,BH]
      .rw[List.drop_set_of_lt (by omega)];exact I
     case measure=>simp[intOf];omega
   .obtain rfl:j=l.length:=(by omega);rw[List.take_length]at k s;obtain⟨⟨a⟩⟩:=k;have o:Rw 101 1 wr g i cap (BH (l.filter λb=>!gn b)):=by
     obtain⟨C,a1,a2,O⟩:=f.blk
     refine⟨⟨C,a1,a2,?_⟩,by omega,f.max,by simp[BH,<-a],?_⟩
     .rw[<-s,<-O,List.take_take];congr 1;omega
     .intro x L;rw[<-s]at L;exact f.one x (List.mem_of_mem_take L)
    have k:Nonempty (PLift (i=(l.filter λb=>!gn b).length)):=⟨⟨a⟩⟩;clear a;have f5:¬cap=i:=(by omega);obtain⟨w2,F,N,R⟩:=PV (c:=cap-i) (q:=l.length-i) (ty:=0) bl4 o (by omega);simp only[Nat.mul_one]at F;have Q:¬(l.length:Int)<(i:Int):=(by omega);gi_wp2;go_ret;obtain⟨⟨a⟩⟩:=k;rw[<-a];exact⟨by simp,KK.then N,R⟩
end
section
variable (m:Nat) (w:o_)
theorem aI:P_ m 248 #[.slice none 0 0,.func (.func 246) #[] #[]] w λe w'=>e=.returned (b_ (-1))/\w'=w:=by
 gi_enter func248,ntmps248;gi_wp2;refine wpIn_loop_once ?_;gi_wp2;go_ret;exact⟨by simp,rfl⟩
theorem Yl:P_ m 245 #[.slice none 0 0,.func (.func 246) #[] #[]] w λe w'=>e=.returned (.slice none 0 0)/\w'=w:=by
 have c:=λm=>aI m w
 gi_enter func245,ntmps245;gi_wp2_with (gi_at_call 248;refine(c _).mono ?_;rintro e w1 ⟨rfl,rfl⟩);go_ret;exact⟨by simp,rfl⟩
theorem vS (K:KS) (h:A8 K w) (hu:K.nl.length<=100000):P_ m 234 #[.pointer (some (T_ K.kb 4))] w λe w'=>e=.returned (.tuple #[])/\A8 { K with nl:=K.nl.filter λb=>!(K.op b==0) } w'/\BV K.T K.T w w':=by
 obtain⟨N,o,s⟩:=h.k;obtain⟨v,C,F,A⟩:=s.nl;have q:=(Af o 20).trans C;have L:=BN o 20;obtain⟨rfl,B⟩|⟨g,j,rfl,G,n⟩:=F
 .have c:=λm=>Yl m w
  gi_enter func234,ntmps234;gi_wp2_with (gi_at_call 245;refine(c _).mono ?_;rintro e w1 ⟨rfl,rfl⟩);go_end0;have M:DY K.T K.T (λt=>t=(1,0)\/t=(5,0)\/10<=t.1) (λt=>t=(5,0)\/10<=t.1) w1 (w1.setCell (T_ K.kb 20) (.slice none 0 0)):=DY.of ((p_ _ _).setCell _ λ_=>.inl h.tk) h.lt;have a:DY K.T K.T (λt=>t=(1,0)) (λt=>t=(5,0)) w1 (w1.setCell (T_ K.kb 20) (.slice none 0 0)):=DY.of ((p_ _ _).setCell _ λ_=>h.tk) h.lt;exact⟨by simp,h.aX M (Ak o _) ((s.Jl a (by simp)).bo8 ⟨.inl ⟨rfl,by rw[B];rfl⟩,by rw[B];simp⟩) (h.fl.Jl a (by rintro t rfl;simp) (by rintro t rfl;simp)) ((h.dk.Jl a (by simp) (by simp)).sub λI _=>Nat.add_le_add_left MN _),a.TL (by rintro t rfl;simp)⟩
 .have H:∀b∈K.nl,Yz (λb=>K.op b==0) g w b:=by
   intro b i
   have y:=A b i
   obtain⟨x,E,_⟩:=h.fl.file b y
   refine⟨λe=>(by rw[e,n]at y;simp at y),K.op b,(Af E 1).trans rfl,?_⟩
   rw[Bool.eq_iff_iff];simp
  have c:=λm=>vZ m w g j K.nl (λb=>K.op b==0) G H (by omega)
  have z:K.kb≠g:=λe=>by have:=h.tk;rw[e,n]at this;simp at this
  have d:∀b∈K.nl.filter (λb=>!(K.op b==0)),K.T b=(10,0):=λb i=>A b (List.mem_filter.1 i).1
  have l:∀f,BF f (K.nl.filter (λb=>!(K.op b==0)))<=BF f K.nl:=λf=>MN
  generalize K.nl.filter (λb=>!(K.op b==0))=u at c d l;gi_enter func234,ntmps234;gi_wp2_with (gi_at_call 245;refine(c _).mono ?_;rintro e w1 ⟨rfl,r,D⟩;have k1:=r.old o z;have J:=BN k1 20;have c2:=(Af k1 20).trans C);go_end0;have M:DY K.T K.T (λt=>t=(1,0)\/t=(5,0)\/10<=t.1) (λt=>t=(5,0)\/10<=t.1) w (w1.setCell (T_ K.kb 20) (Q_ g u.length j)):=DY.of ((r.on (by rintro k _ rfl;exact .inr (.inl n))).setCell _ λ_=>.inl h.tk) h.lt;have a:DY K.T K.T (λt=>t=(1,0)\/t=(5,0)) (λt=>t=(5,0)) w (w1.setCell (T_ K.kb 20) (Q_ g u.length j)):=DY.of ((r.on (by rintro k _ rfl;exact .inr n)).setCell _ λ_=>.inl h.tk) h.lt;have R2:=D.keep ((p_ (At K.kb) w1).setCell (p:=(T_ K.kb 20)) (Q_ g u.length j) λ_=>rfl) z.symm;exact⟨by simp,h.aX M (Ak k1 _) (KC.br5 s a ⟨.inr ⟨g,j,rfl,R2,n⟩,d⟩) (h.fl.Jl a (by rintro t (rfl|rfl)<;>simp) (by rintro t rfl;simp)) ((h.dk.Jl a (by simp) (by simp)).sub λI _=>Nat.add_le_add_left (l _) _),a.TL (by rintro t (rfl|rfl)<;>simp)⟩
theorem A8.bc8 {K:KS} {w:o_} {f n:Nat} (h:A8 K w) (hf:K.T f=(10,0)):A8 { K with op:=Aj K.op f n } (w.setCell (T_ f 1) (b_ n))/\BV K.T K.T w (w.setCell (T_ f 1) (b_ n)):=by
 obtain⟨C,B,A⟩:=h.k;have i:Keep (At f) w (w.setCell (T_ f 1) (b_ n)):=(p_ _ _).setCell _ λ_=>rfl
 have M:DY K.T K.T (λt=>t=(1,0)\/t=(5,0)\/10<=t.1) (λt=>t=(5,0)\/10<=t.1) w (w.setCell (T_ f 1) (b_ n)):=DY.of (i.on λk _ e=>by subst e;exact .inr (.inr (by rw[hf];simp))) h.lt;have p:DY K.T K.T (λt=>t=(10,0)) (λt=>t=(10,0)) w (w.setCell (T_ f 1) (b_ n)):=DY.of (i.on λk _ e=>by subst e;exact hf) h.lt;have l:K.kb≠f:=λe=>by rw[<-e,h.tk]at hf;simp at hf
 refine⟨h.aX (ks':=C) M (i.old B l) ((A.Jl p (by simp)).op _) (Yq.of λb=>?_) (h.dk.to λb m e=>⟨e,λu=>?_⟩),p.TL (by rintro t rfl;simp)⟩
 rotate_left
 .by_cases r:b=f
  .subst r;obtain⟨a,c,o,d⟩:=u;exact⟨a,c,b_ n,by rw[Ak d];simp⟩
  .exact u.keep i r
 have x:=h.fl.one b;have j:∀q g,K.T g=(15,q)->¬At f g:=λq g s e=>by rw[show g=f from e,hf]at s;simp at s
 by_cases e:b=f
 .subst e;obtain⟨v,y,z⟩:=x.file hf;exact FOne.file' hf (by rw[Ak y];simp[Aj]) (z.set i (j b))
 .have d:=x.keep i e (j b);refine⟨λt=>?_,d.pipe,d.Iu,d.rend,d.TU⟩;simpa [Aj,e]using d.file t
theorem vg (K:KS) (b f:Nat) (h:A8 K w) (hb:K.T b=(12,f)) (hu:K.nl.length<=100000) (ho:1<=K.op f) (ho':K.op f<=100000):P_ m 280 #[R_ b] w λe w'=>e=.returned (.tuple #[])/\A8 { K with op:=Aj K.op f (K.op f-1),nl:=K.nl.filter λk=>!(Aj K.op f (K.op f-1) k==0) } w'/\BV K.T K.T w w':=by
 obtain⟨g,d,_⟩:=h.fl.Iu b f hb;obtain⟨v,i,s⟩:=h.fl.file f d;have q:w.cell? (S_ b)=some (.pointer (some (T_ K.kb 4))):=(Af g 0).trans rfl;have d1:w.cell? (T_ b 1)=some (R_ f):=(Af g 1).trans rfl;have d2:w.cell? (T_ f 1)=some (b_ (K.op f)):=(Af i 1).trans rfl;have r:=BN i 1;have p:b≠f:=λe=>by rw[e,d]at hb;simp at hb
 have a:=h.bc8 (n:=K.op f-1) d;have l:((K.op f-1:Nat):Int)=(K.op f:Int)-1:=by omega
 have c:=λm=>vS m _ _ a.1 hu
 rw[l]at c a;simp only at c;gi_enter func280,ntmps280;gi_wp2_with (gi_at_call 234;refine(c _).mono ?_;rintro e w1 ⟨rfl,o,j⟩);go_end0;exact⟨by simp,o,a.2.trans j⟩
end
section
variable {K:KS} {w:o_} {i n:Nat} {v:n_} {o:d_ Nat} {ks:X_}
theorem KC.xN (h:KC K w ks) (hi:i<20) (hd:0<K.desc i):KC { K with desc:=Aj K.desc i n } w (ks.setIfInBounds (21+i*2+1) (b_ n)):=by
 obtain⟨a,d,b,c⟩:=h.en i hi;have:=h.jI (n:=n) (v:=K.tv i) (o:=K.ef i) hi b λ_=>c hd
 rw[PQ a]at this;have e:∀{α:Type} (f:Nat->α),Aj f i (f i)=f:=λf=>by funext k;unfold Aj;split;subst_vars;rfl;rfl
 rw[e,e]at this;exact this
theorem A8.xN (h:A8 K w) (hi:i<20) (hd:0<K.desc i):A8 { K with desc:=Aj K.desc i n } (w.setCell (T_ K.kb (21+i*2+1)) (b_ n))/\BV K.T K.T w (w.setCell (T_ K.kb (21+i*2+1)) (b_ n)):=by
 obtain⟨f,d,c⟩:=h.k;have b:Keep (At K.kb) w (w.setCell (T_ K.kb (21+i*2+1)) (b_ n)):=(p_ _ _).setCell _ λ_=>rfl
 have M:DY K.T K.T (λt=>t=(1,0)\/t=(5,0)\/10<=t.1) (λt=>t=(5,0)\/10<=t.1) w (w.setCell (T_ K.kb (21+i*2+1)) (b_ n)):=DY.of (b.on λk _ e=>by subst e;exact .inl h.tk) h.lt;have a:DY K.T K.T (λt=>t=(1,0)) (λt=>t=(1,0)) w (w.setCell (T_ K.kb (21+i*2+1)) (b_ n)):=DY.of (b.on λk _ e=>by subst e;exact h.tk) h.lt;exact⟨h.aX M (Ak d _) ((c.Jl a (by simp)).xN hi hd) (h.fl.Jl a (by rintro t rfl;simp) (by rintro t rfl;simp)) (h.dk.Jl a (by simp) (by simp)),a.TL (by rintro t rfl;simp)⟩
theorem A8.jI (h:A8 K w) (hi:i<20) (h1:v.oneCell'=true) (hv:0<n->Px K.T v o) {w':o_} (hK:Keep (At K.kb) w w') (hk':∀ks,w.heap[K.kb]?=some (O_ ks 114)->w'.heap[K.kb]?=some (.cells ((ks.setIfInBounds (21+i*2) v).setIfInBounds (21+i*2+1) (b_ n)) 114 (0,0))):A8 { K with desc:=Aj K.desc i n,ef:=Aj K.ef i o,tv:=Aj K.tv i v } w'/\BV K.T K.T w w':=by
 obtain⟨ks,c,b⟩:=h.k;have M:DY K.T K.T (λt=>t=(1,0)\/t=(5,0)\/10<=t.1) (λt=>t=(5,0)\/10<=t.1) w w':=DY.of (hK.on λk _ e=>by subst e;exact .inl h.tk) h.lt;have a:DY K.T K.T (λt=>t=(1,0)) (λt=>t=(1,0)) w w':=DY.of (hK.on λk _ e=>by subst e;exact h.tk) h.lt;exact⟨h.aX M (hk' ks c) ((b.Jl a (by simp)).jI hi h1 hv) (h.fl.Jl a (by rintro t rfl;simp) (by rintro t rfl;simp)) (h.dk.Jl a (by simp) (by simp)),a.TL (by rintro t rfl;simp)⟩
theorem A8.xy (h:A8 K w) (hi:i<20):∃v,w.cell? (T_ K.kb (21+i*2))=some v/\w.cell? (T_ K.kb (21+i*2+1))=some (b_ (K.desc i))/\v.oneCell'=true/\(0<K.desc i->Px K.T v (K.ef i)):=by
 obtain⟨g,a,f⟩:=h.k;obtain⟨b,c,d,e⟩:=f.en i hi;exact⟨K.tv i,(Af a _).trans b,(Af a _).trans c,d,e⟩
theorem A8.xY (h:A8 K w) (hi:i<20):w.cell? (T_ K.kb (21+i*2))=some (K.tv i):=let ⟨_,hk,hc⟩:=h.k;(Af hk _).trans (hc.en i hi).1
theorem A8.Ϥ (h:A8 K w) (j:Nat):w.frozen? (T_ K.kb j)=false:=let ⟨_,hk,_⟩:=h.k;BN hk j
end
theorem Px.shape {T:Tag} {v:n_} {o:d_ Nat} (h:Px T v o):∃t b,v=.iface t (R_ b):=by
 obtain⟨b,⟨h,_⟩|⟨h,_⟩|⟨h,_⟩⟩:=h
 all_goals exact⟨_,b,h⟩
section
variable (m:Nat) (w:o_)
theorem bx5 (K:KS) (i:Nat) (h:A8 K w) (hi:i<20) (hd:0<K.desc i):
  P_ m 203 #[.pointer (some (T_ K.kb 21)),b_ (i:Nat)] w λe w'=>Keep No w w'/\∃v,e=.returned v/\Px K.T v (K.ef i):=by
 obtain⟨v,c,d,f,a⟩:=h.xy hi;have b:(i:Int)<20:=by omega
 gi_enter func203,ntmps203;gi_wp2;go_ret;exact⟨p_ _ _,v,by simp,a hd⟩
theorem Κ (K:KS) (i:Nat) (h:A8 K w) (hi:i<20) (hd:0<K.desc i) (JL:K.desc i<=1000):
  P_ m 193 #[.pointer (some (T_ K.kb 21)),b_ (i:Nat)] w λe w'=>e=.returned (.tuple #[])/\A8 { K with desc:=Aj K.desc i (K.desc i+1) } w'/\BV K.T K.T w w':=by
 obtain⟨v,g,b,j,k⟩:=h.xy hi;have d:(i:Int)<20:=by omega
 gi_enter func193,ntmps193;gi_wp2;refine CV 10 16 ?_;gi_wp2;refine Fg ?_ ?_
 .intro W a;have d2:=a.has (w:=w.drew) b
  repeat' (refine Az ?_ ?_)
  all_goals first|exact trivial|gi_wp2
 .intro W a;have KW:Keep No w W:=(p_ No w).drew.then a;have c:=h.no KW;have d2:=KW.has b;have f:=c.Ϥ (21+i*2+1);gi_wp2;go_end0;have:=c.xN (n:=K.desc i+1) hi hd;push_cast at this;exact⟨by simp,this.1,(BV.no KW h.lt).trans this.2⟩
theorem zM (K:KS) (v:n_) (o:d_ Nat) (h:A8 K w) (hv:Px K.T v o) (hr:∃i,i<20/\K.desc i=0):
  P_ m 201 #[.pointer (some (T_ K.kb 21)),v] w λe w'=>∃i,i<20/\(K.desc i=0/\∀j,j<i->K.desc j≠0)/\e=.returned (b_ (i:Nat))/\A8 { K with desc:=Aj K.desc i 1,ef:=Aj K.ef i o,tv:=Aj K.tv i v } w'/\BV K.T K.T w w':=by
 obtain⟨z,A,c⟩:=hr;obtain⟨t,b,rfl⟩:=hv.shape;gi_enter func201,ntmps201;gi_wp2;gi_loopw [5] (λi wr=>∃k:Nat,k<=z/\i=b_ k/\Keep No w wr/\∀j,j<k->K.desc j≠0) (λi _=>z-(intOf i).toNat)
 case atStart=>exact⟨0,by omega,rfl,p_ _ _,λj h=>absurd h (by omega)⟩
 case round=>
  obtain⟨k,q,rfl,KK,d⟩:=hrel
  have hr:=h.no KK
  obtain⟨u,d1,d2,d3,d4⟩:=hr.xy (i:=k) (by omega)
  have x:(k:Int)<20:=by omega
  by_cases a:K.desc k=0
  .have f:¬(0:Int)<(K.desc k:Int):=(by omega);have g:=hr.Ϥ (21+k*2);have l:=hr.Ϥ (21+k*2+1);gi_wp2;go_ret;have:=hr.jI (i:=k) (n:=1) (v:=.iface t (R_ b)) (o:=o) (by omega) rfl (λ_=>hv) (w':=(wr.setCell (T_ K.kb (21+k*2)) (.iface t (R_ b))).setCell (T_ K.kb (21+k*2+1)) (b_ 1)) (Keep.setCell (Keep.setCell (p_ (At K.kb) wr) _ (p:=(T_ K.kb (21+k*2))) λ_=>rfl) _ (p:=(T_ K.kb (21+k*2+1))) λ_=>rfl) (λs r=>Ak (Ak r _) _);exact⟨k,by omega,⟨a,d⟩,by simp,this.1,(BV.no KK h.lt).trans this.2⟩
  .have f:(0:Int)<(K.desc k:Int):=(by omega);have:k≠z:=(by rintro rfl;exact a c);gi_wp2;go_roundw
   case rel=>exact⟨k+1,by omega,by go_num,KK,λj y=>by by_cases e:j=k;exact e ▸ a;exact d j (by omega)⟩
   case measure=>simp[intOf];omega
end
end Go.Fxa
