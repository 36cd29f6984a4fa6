/- A kernel of many processes: or -/
import Derived.Test.YtmhplpfpcnjekaaGreatA22
namespace Go.Fxa
open Conc Proofs RowKit Proofs.Tryz
set_option maxRecDepth 1000000
set_option maxHeartbeats 0
variable {b pid h g kb f b0:Nat} {r:PR} {ps:Nat->d_ PR} {l:List Nat} {gn:Nat->Bool} {w w':o_} {T:Tag} {op:Nat->Nat} {v:n_} {S:Nat->Prop} {ks:X_}
structure Nu (K K':KS):Prop where
 eq:K'={ K with ps:=K'.ps }
 ps:∃f:Nat->Nat,∀b,K'.ps b=(K.ps b).map λr=>{ r with par:=f b }
theorem Nu.refl (K:KS):Nu K K:=⟨rfl,λb=>match K.ps b with|some r=>r.par|none=>0,λb=>by cases h:K.ps b<;>simp[h]⟩
theorem Nu.trans {K K' K'':KS} (h:Nu K K') (c:Nu K' K''):Nu K K'':=by
 obtain⟨e1,f,a⟩:=h;obtain⟨e2,g,p2⟩:=c;refine⟨?_,g,λb=>?_⟩
 .rw[e2,e1]
 .rw[p2,a];cases K.ps b<;>rfl
theorem Nu.set {K:KS} (a:K.ps b=some r) (c:Nat):Nu K (K.Bi b { r with par:=c }):=by
 refine⟨rfl,λk=>if k=b then c else match K.ps k with|some r=>r.par|none=>0,λk=>?_⟩;show C9 K.ps b _ k=_;by_cases e:k=b
 .subst e;rw[Aj,a];simp
 .rw[BH e];cases h:K.ps k<;>simp[e,h]
theorem Nu.get {K K':KS} (h:Nu K K') (d:K.ps b=some r):∃c,K'.ps b=some { r with par:=c }:=by
 obtain⟨f,a⟩:=h.ps;exact⟨f b,by rw[a,d];rfl⟩
theorem Nu.there {K K':KS} (h:Nu K K') (i:K.EJ):K'.EJ:=by
 intro b a;rw[h.eq]at a;obtain⟨r,e⟩:=i b a;obtain⟨c,d⟩:=h.get e;exact⟨_,d⟩
section
variable (m:Nat) (w:o_)
def TP (ps:Nat->d_ PR) (l:List Nat) (pid h:Nat):Nat->d_ PR:=λb=>if b∈l then(ps b).map λr=>if r.par=pid then { r with par:=h } else r else ps b
def qC (K:KS) (h:Nat):Prop:=(h=1/\∃b r,b∈K.Aw/\K.ps b=some r/\r.pid=1/\r.en=false)\/(h=0/\((∀b∈K.Aw,∀r,K.ps b=some r->r.pid≠1)\/∃b r,b∈K.Aw/\K.ps b=some r/\r.pid=1/\r.en=true))
def bn8 (pid:Nat) (K K':KS):Prop:=∃h,qC K h/\K'={ K with ps:=TP K.ps K.Aw pid h }
theorem aq1:TP ps [] pid h=ps:=by funext b;unfold TP;simp
theorem bd3 (c:ps b=some r) (i:r.par≠pid) (d:b ∉ l):TP ps (l++[b]) pid h=TP ps l pid h:=by
 funext k;unfold TP;by_cases e:k=b
 .subst e;rw[rC zF,ru d,c];simp[i]
 .by_cases a:k∈l
  .rw[rC (by simp[a]),rC a]
  .rw[ru (by simp[a,e]),ru a]
theorem aq0 (c:ps b=some r) (d:r.par=pid):TP ps (l++[b]) pid h=C9 (TP ps l pid h) b { r with par:=h }:=by
 funext k;by_cases e:k=b
 .subst e;rw[Aj];unfold TP;rw[rC zF,c];simp[d]
 .rw[BH e];unfold TP;by_cases a:k∈l
  .rw[rC (by simp[a]),rC a]
  .rw[ru (by simp[a,e]),ru a]
theorem lT (a:b ∉ l):TP ps l pid h b=ps b:=ru a
theorem Ye {k:Nat} (j:l.Nodup) (h:l[k]?=some b):b ∉ l.take k:=λg=>by
 obtain⟨i,c,e⟩:=List.mem_iff_getElem.1 g;rw[List.getElem_take]at e;have f:k<l.length:=by
  obtain a|a:=Nat.lt_or_ge k l.length
  .exact a
  .rw[List.getElem?_eq_none a]at h;cases h
 rw[List.getElem?_eq_getElem f]at h;have d:i<k:=by simp at c;omega
 exact ql ((List.getElem_inj j).1 (e.trans (x_ h).symm)) zD
def af5 (K:KS) (pid h k:Nat) (w wr:o_):Prop:=∃K1,AV K1 wr/\Nu K K1/\BN K.T K1.T w wr/\(∀b r,K1.ps b=some r->K.ps b=some r\/r.par<=1)/\ag (K1.ps=TP K.ps (K.Aw.take k) pid h)
theorem bV {K K1:KS} {w W:o_} (d k:Nat) (B:k<K.Aw.length) (n:AV K1 W) (i:K1.ps b=some r) (y:Nu K K1) (A:BN K.T K1.T w W) (u:∀b r,K1.ps b=some r->K.ps b=some r\/r.par<=1) (o:d<=1) (s:ag (K1.ps=TP K.ps (K.Aw.take k) pid d)) (t:K.Aw[k]?=some b) (z:K.Aw.Nodup) (p:r.par=pid):
  ∃j:Nat,Value.int .i64 ((k:Int)+1)=b_ j/\j<=K.Aw.length/\af5 K pid d j w (W.setCell (S_ b 1) (b_ d)):=by
 refine⟨k+1,zF,zD,K1.Bi b { r with par:=d },n.GH (r':={ r with par:=d }) i ⟨rfl,rfl,rfl,rfl,rfl⟩ rfl (n.ps b r i).bl,y.trans (Nu.set i d),A.trans (n.Ez i),λx q a=>?_,?_⟩
 rotate_left
 .show C9 K1.ps b _=_;have c:K.ps b=some r:=by rw[<-i,s.out,lT (Ye z t)]
  rw[List.take_add_one,t,s.out];exact(aq0 c p).symm
 have a:C9 K1.ps b { r with par:=d } x=some q:=a;by_cases e:x=b
 .subst e;rw[Aj]at a;cases a;exact .inr o
 .rw[BH e]at a;exact u x q a
theorem vU (K:KS) (h:AV K w) (j:K.EJ) (k:K.Aw.length<=100):O_ m 54 #[Q_ K.kb,b_ 1] w λe w'=>((∃b r,e=.returned (Q_ b)/\K.ps b=some r/\w'.cell? (S_ b 2)=some (.bool r.en)/\ag (b∈K.Aw/\r.pid=1))\/(e=.returned (.pointer none)/\ag (∀b∈K.Aw,∀r,K.ps b=some r->r.pid≠1)))/\Ac No w w':=by
 refine(fD m w K 1 h j k).mono ?_;rintro e w' ⟨c,v,rfl,⟨b,r,rfl,f,a,g⟩|⟨rfl,d⟩⟩
 .have q:=(h.no c).Il a 2;simp[PR.arr]at q;exact⟨.inl ⟨b,r,rfl,a,q,f,zD⟩,c⟩
 .exact⟨.inr ⟨rfl,λb a r i e=>d b a r i zD⟩,c⟩
theorem σ (K:KS) (pb:Nat) (p:PR) (h:AV K w) (Q:K.EJ) (U:K.ps pb=some p) (R:K.Aw.length<=100) (P:K.Aw.Nodup):
  O_ m 157 #[Q_ K.kb,Q_ pb] w λe w'=>e=.returned (.tuple #[])/\∃h,ag (qC K h)/\af5 K p.pid h K.Aw.length w w':=by
 have c:=λm=>vU m w K h Q R
 have I:=h.kc2;gi_enter func157,ntmps157;gi_wp2_with (gi_at_call 54;refine(c _).mono ?_;rintro e w1 ⟨⟨F,D,rfl,E,d1,a⟩|⟨rfl,u⟩,g⟩<;>have I:=g.has I<;>try (cases hn:D.en<;>rw[hn]at d1))
 all_goals
  first|(have q:∃d,ag (qC K d)/\ag (d=1):=⟨1,.inl ⟨rfl,F,D,a.out.1,E,a.out.2,hn⟩,rfl⟩;clear a)|(have q:∃d,ag (qC K d)/\ag (d=0):=⟨0,.inr ⟨rfl,.inr ⟨F,D,a.out.1,E,a.out.2,hn⟩⟩,rfl⟩;clear a)|(have q:∃d,ag (qC K d)/\ag (d=0):=⟨0,.inr ⟨rfl,.inl u.out⟩,rfl⟩;clear u)
  obtain⟨d,q,J⟩:=q
  gi_loopw [24] (λi wr=>∃(k:Nat),i=b_ k/\k<=K.Aw.length/\af5 K p.pid d k w wr) (λi _=>K.Aw.length-(intOf i).toNat)
  case atStart=>exact⟨0,rfl,zD,K,h.no g,Nu.refl K,BN.no g h.lt,λ_ _ h=>.inl h,aq1.symm⟩
  case round=>
   obtain⟨k,rfl,N,l,o,f,y,v,s⟩:=hrel
   have L:l.Aw=K.Aw:=by rw[f.eq]
   have A:l.pg=K.pg:=by rw[f.eq]
   by_cases z:k<K.Aw.length
   .have j:K.Aw[k]?=some K.Aw[k]:=IG z;generalize K.Aw[k]=b at j;have t:l.Aw[k]?=some b:=(by rw[L];exact j);obtain⟨r,n⟩:=AV.mem (f.there Q) t;obtain⟨O,B⟩:=f.get U;have G:=o.jS t;rw[A]at G;have d1:=o.Il n 1;have d2:=o.Il B 0;simp only[ptr]at G;simp[PR.arr]at d1 d2;gi_wp2;refine BP 8 42 ?_;gi_wp2;refine Eb ?_ ?_
    .intro W g;have e1:=g.has (w:=wr.drew) d1;have e2:=g.has (w:=wr.drew) d2
     repeat' (refine Au ?_ ?_)
     all_goals first|exact eu|gi_wp2
    .intro W g;have KW:Ac No wr W:=(Ac.refl No wr).drew.then g;have e1:=KW.has d1;have x:=o.no KW;have M:=x.jy n 1;by_cases H:(r.par:Int)=p.pid
     .have C:((r.par:Int)==(p.pid:Int))=true:=(by simpa using H);gi_wp2;go_roundw
      case rel=>
       obtain rfl:=J.out
       first|exact bV 1 k z x n f (y.then KW) v zD s j P zD|exact bV 0 k z x n f (y.then KW) v zD s j P zD
      case measure=>simp[intOf];omega
     .have C:((r.par:Int)==(p.pid:Int))=false:=(by simpa using H);gi_wp2;go_roundw
      case rel=>exact⟨k+1,by go_num,zD,l,x,f,y.then KW,v,by show l.ps=_;rw[List.take_add_one,j,s.out];exact(bd3 (r:=r) (by rw[<-n,s.out,lT (Ye P j)]) zD (Ye P j)).symm⟩
      case measure=>simp[intOf];omega
   .obtain rfl:k=K.Aw.length:=zD;gi_wp2;go_end0;exact⟨zF,d,q,l,o,f,y,v,s⟩
end
theorem bj3:Ob prog 100 119 (.pointer none) 1 8:=⟨underlying100,sJ,by rfl,wB,by intro x a;simp[Value.cells]at a;subst a;rfl⟩
def aK (gn:Nat->Bool) (g:Nat) (w:o_) (b:Nat):Prop:=b≠g/\∃(p:Nat) (e:Bool),w.cell? (S_ b 1)=some (b_ p)/\w.cell? (S_ b 2)=some (.bool e)/\gn b=(e && p==0)
theorem aK.keep (h:aK gn g w b) (i:Ac (At g) w w'):aK gn g w' b:=by
 obtain⟨a,h⟩:=h;refine⟨a,?_⟩;obtain⟨p,e,c,d,f⟩:=h;exact⟨p,e,(i.cell (qy _ _ c) a).trans c,(i.cell (qy _ _ d) a).trans d,f⟩
section
variable (m:Nat) (w:o_)
theorem ap3 (g cap:Nat) (l:List Nat) (gn:Nat->Bool) (A:Rw 119 1 w g l.length cap (Bj l)) (B:∀b∈l,aK gn g w b) (C:l.length<=100000):
  O_ m 238 #[P_ g l.length cap,.func (.func 213) #[] #[]] w λe w'=>Ac No w w'/\((e=.returned (b_ (-1))/\∀b∈l,gn b=false)\/∃k b,e=.returned (b_ (k:Nat))/\l[k]?=some b/\gn b=true/\∀(j:Nat) b,j<k->l[j]?=some b->gn b=false):=by
 gi_enter func238,ntmps238;gi_wp2;gi_loopw [8] (λi wr=>∃k:Nat,k<=l.length/\i=b_ k/\Ac No w wr/\∀(j:Nat) b,j<k->l[j]?=some b->gn b=false) (λi _=>l.length-(intOf i).toNat)
 case atStart=>exact⟨0,zD,rfl,Ac.refl _ _,λj b h=>ql h zD⟩
 case round=>
  obtain⟨k,z,rfl,KK,n⟩:=hrel
  by_cases s:k<l.length
  .have c:l[k]?=some l[k]:=IG s;generalize l[k]=b at c;have x:wr.cell? (S_ g k)=some (Q_ b):=(by rw[Rw.cell (A.keep KK id) zD];simp[Bj,c,ptr]);obtain⟨_,u⟩:=(B b (t_ c)).keep KK.no;obtain⟨p,e,d1,d2,a⟩:=u;obtain⟨d,r⟩|⟨d,r⟩|d:(e=true/\((p:Int)==0)=true)\/(e=true/\((p:Int)==0)=false)\/e=false:=by cases e<;>simp[Decidable.em]
   all_goals
    subst d
    simp only[Bool.true_and,Bool.false_and]at a
    try (have v:(p==0)=((p:Int)==0):=by(rw[Bool.eq_iff_iff];simp))
    try rw[v,r]at a
   .gi_wp2_with gi_in;go_ret;exact⟨KK,.inr ⟨k,b,zF,c,a,n⟩⟩
   all_goals
    gi_wp2_with gi_in
    go_roundw
    case rel=>
     refine⟨k+1,zD,by go_num,KK,λj q y f=>?_⟩
     by_cases e:j=k
     .subst e;rw[c]at f;cases f;exact a
     .exact n j q zD f
    case measure=>simp[intOf];omega
  .obtain rfl:k=l.length:=zD;gi_wp2;go_ret;refine⟨KK,.inl ⟨zF,λb t=>?_⟩⟩;obtain⟨i,o⟩:=List.getElem?_of_mem t;exact n i b (KT.1 o).1 o
theorem ϝ (g cap:Nat) (l:List Nat) (gn:Nat->Bool) (hR:Rw 119 1 w g l.length cap (Bj l)) (hc:∀b∈l,aK gn g w b) (hl:l.length<=100000):
  O_ m 212 #[P_ g l.length cap,.func (.func 213) #[] #[]] w λe w'=>e=.returned (P_ g (l.filter λb=>!gn b).length cap)/\Ac (At g) w w'/\Rw 119 1 w' g (l.filter λb=>!gn b).length cap (Bj (l.filter λb=>!gn b)):=by
 have c:=λm=>ap3 m w g cap l gn hR hc hl
 gi_enter func212,ntmps212;gi_wp2_with (gi_at_call 238;refine(c _).mono ?_;rintro e w1 ⟨u,⟨rfl,X⟩|⟨t,b0,rfl,o,E,r⟩⟩<;>try (have f0:((t:Int)==-1)=false:=zF;have V:=(KT.1 o).1))
 .go_ret;have e:l.filter (λb=>!gn b)=l:=List.filter_eq_self.2 λb D=>by simp[X b D]
  rw[e];exact⟨zF,u.no,hR.keep u id⟩
 .gi_loopw [5,6] (λQ B wr=>∃(i j:Nat) (h:U_),Q=b_ i/\B=b_ j/\i<j/\j<=l.length/\Ac (At g) w wr/\Rw 119 1 wr g l.length cap h/\i=((l.take j).filter λb=>!gn b).length/\h.take i=Bj ((l.take j).filter λb=>!gn b)/\h.drop j=Bj (l.drop j)) (λ_ B _=>l.length-(intOf B).toNat)
  case atStart=>
   have e:(l.take (t+1)).filter (λb=>!gn b)=l.take t:=by
    rw[List.take_add_one,o,List.filter_append]
    simp only[Option.toList_some,List.filter_cons,E,Bool.not_true,List.filter_nil]
    simp only[jH,if_false,List.append_nil]
    refine List.filter_eq_self.2 λb D=>?_
    obtain⟨j,z⟩:=List.getElem?_of_mem D
    rw[List.getElem?_take]at z
    split at z
    .rename_i H;simp[r j b H z]
    .cases z
   refine⟨t,t+1,Bj l,rfl,by go_num,zD,zD,u.no,hR.keep u id,?_,?_,?_⟩
   .rw[e,ed];omega
   .rw[e];simp[Bj]
   .simp[Bj]
  case round=>
   obtain⟨i,j,h,rfl,rfl,T,U,KK,f,d,s,K⟩:=hrel
   have k:Nonempty (PLift (i=((l.take j).filter λb=>!gn b).length)):=⟨⟨d⟩⟩
   clear d
   have W:=f.le
   have Z:=f.len
   by_cases N:j<l.length
   .have y:l[j]?=some l[j]:=IG N;generalize l[j]=b at y;have I:h[j]?=some (ptr b):=by
     have:(h.drop j)[0]?=some (ptr b):=by rw[K];simp[Bj,y]
     simpa using this
    have d0:wr.cell? (S_ g j)=some (Q_ b):=(by rw[f.cell zD,I];rfl);have A:l.take (j+1)=l.take j++[b]:=(by rw[List.take_add_one,y];rfl);have J:h.drop (j+1)=Bj (l.drop (j+1)):=by
     have:=congrArg (List.drop 1) K
     simpa [Bj,List.drop_drop]using this
    have fz:=f.fz i;have R:(i:Int)<(l.length:Int):=zD;have ci:∃v,wr.cell? (S_ g i)=some v:=by
     rw[f.cell zD]
     exact⟨_,IG zD⟩
    obtain⟨vi,ci⟩:=ci;obtain⟨_,Y⟩:=(hc b (t_ y)).keep KK;obtain⟨p,e,d1,d2,a⟩:=Y;obtain⟨G,L⟩|⟨G,L⟩|G:(e=true/\((p:Int)==0)=true)\/(e=true/\((p:Int)==0)=false)\/e=false:=by cases e<;>simp[Decidable.em]
    all_goals
     subst G
     simp only[Bool.true_and,Bool.false_and]at a
     try (have hz:(p==0)=((p:Int)==0):=by(rw[Bool.eq_iff_iff];simp))
     try rw[hz,L]at a
    .gi_wp2_with gi_in;go_roundw
     case rel=>
      refine⟨i,j+1,h,rfl,by go_num,zD,zD,KK,f,?_,?_,J⟩
      .obtain⟨⟨d⟩⟩:=k;rw[A,List.filter_append];simp[a,<-d]
      .rw[A,List.filter_append];simp[a,s]
     case measure=>simp[intOf];omega
    all_goals
     gi_wp2_with gi_in
     go_roundw
     case rel=>
      refine⟨i+1,j+1,h.set i (ptr b),by go_num,by go_num,zD,zD,KK.setCell _ λ_=>rfl,f.set _ rfl,?_,?_,?_⟩
      .obtain⟨⟨d⟩⟩:=k;rw[A,List.filter_append];simp[a,<-d]
      .rw[A,List.filter_append,List.take_add_one,List.take_set_of_le (w_ i),s,List.getElem?_set_self zD];simp[a,Bj]
      .rw[List.drop_set_of_lt zD];exact J
     case measure=>simp[intOf];omega
   .obtain rfl:j=l.length:=zD;rw[List.take_length]at k s;obtain⟨⟨d⟩⟩:=k;have n:Rw 119 1 wr g i cap (Bj (l.filter λb=>!gn b)):=by
     obtain⟨C,a1,a2,P⟩:=f.blk
     refine⟨⟨C,a1,a2,?_⟩,zD,f.max,by simp[Bj,<-d],?_⟩
     .rw[<-s,<-P,List.take_take];congr 1;omega
     .intro x M;rw[<-s]at M;exact f.one x (List.mem_of_mem_take M)
    have k:Nonempty (PLift (i=(l.filter λb=>!gn b).length)):=⟨⟨d⟩⟩;clear d;have f5:¬cap=i:=zD;obtain⟨w2,F,O,S⟩:=QF (c:=cap-i) (q:=l.length-i) (ty:=0) bj3 n zD;simp only[Nat.mul_one]at F;have R:¬(l.length:Int)<(i:Int):=zD;gi_wp2;go_ret;obtain⟨⟨d⟩⟩:=k;rw[<-d];exact⟨zF,KK.then O,S⟩
end
def Ua (ps:Nat->d_ PR) (b:Nat):Bool:=match ps b with|some r=>r.en && r.par==0|none=>false
def KS.Qg (K:KS):KS:={ K with Aw:=K.Aw.filter λb=>!Ua K.ps b }
section
variable (m:Nat) (w:o_)
theorem zx (K:KS) (h:AV K w) (s:K.EJ) (u:K.Aw.length<=100):
  O_ m 158 #[Q_ K.kb] w λe w'=>e=.returned (.tuple #[])/\AV K.Qg w'/\BN K.T K.T w w':=by
 obtain⟨p,n,d⟩:=h.k;have q:=h.kc2;have l:∀b∈K.Aw,aK (Ua K.ps) K.pg w b:=by
  intro b j
  obtain⟨r,a⟩:=s b j
  refine⟨λe=>?_,r.par,r.en,?_,?_,?_⟩
  .have:=(h.ps b r a).t;rw[e,h.tp]at this;simp at this
  .rw[h.Il a];simp[PR.arr]
  .rw[h.Il a];simp[PR.arr]
  .unfold Ua;rw[a]
 have c:=λm=>ϝ m w K.pg K.pc K.Aw (Ua K.ps) h.pr l zD
 have f:K.kb≠K.pg:=λe=>by have:=h.tk;rw[e,h.tp]at this;simp at this
 gi_enter func158,ntmps158;gi_wp2_with (gi_at_call 212;refine(c _).mono ?_;rintro e w1 ⟨rfl,g,i⟩;have k1:=g.old n f;have o:=BQ k1 2;have c2:=(Ah k1 2).trans d.c2);go_end0;have M:Dh K.T K.T (λt=>t=(1,0)\/t=(4,0)) (λt=>t=(4,0)) w (w1.setCell (S_ K.kb 2) (P_ K.pg (K.Aw.filter λb=>!Ua K.ps b).length K.pc)):=Dh.of ((g.on (by rintro k _ rfl;exact .inr h.tp)).setCell _ λ_=>.inl h.tk) h.lt;refine⟨zF,h.Yk (BD:=K.BD) M d (Ap k1 _) ?_ (i.keep ((Ac.refl (At K.kb) _).setCell _ λ_=>rfl) f.symm) h.tp,M.WB (by rintro t (rfl|rfl)<;>simp)⟩;rw[QB d.c3]
end
structure EI (T:Tag) (op:Nat->Nat) (ct:Nat->Ct) (w:o_) (kb b:Nat):Prop where
 file:T b=(10,0)->∃v,w.heap[b]?=some (N_ #[v,b_ (op b)] 191)/\RU T w b 64 v (ct b).ws
 pipe:T b=(11,0)->∃v,w.heap[b]?=some (N_ #[v,.bool (ct b).x,.bool (ct b).y] 329)/\RU T w b 16 v (ct b).ws
 GI:∀f,T b=(12,f)->w.heap[b]?=some (N_ #[.pointer (some (S_ kb 4)),ptr f,b_ ((ct b).n:Nat)] 339)/\T f=(10,0)/\(ct b).n<=64
 rend:T b=(13,0)->w.heap[b]?=some (N_ #[ptr (ct b).n] 333)/\T (ct b).n=(11,0)
 TM:T b=(14,0)->w.heap[b]?=some (N_ #[ptr (ct b).n] 335)/\T (ct b).n=(11,0)
theorem EI.ct {ct Qe:Nat->Ct} (h:EI T op ct w kb b) (e:Qe b=ct b):EI T op Qe w kb b:=by
 obtain⟨a,c,d,f,g⟩:=h;rw[<-e]at a c d f g;exact⟨a,c,d,f,g⟩
theorem ae.one {ct:Nat->Ct} (h:ae T op ct w kb) (b:Nat):EI T op ct w kb b:=⟨h.file b,h.pipe b,h.GI b,h.rend b,h.TM b⟩
theorem ae.of {ct:Nat->Ct} (h:∀b,EI T op ct w kb b):ae T op ct w kb:=⟨λb=>(h b).file,λb=>(h b).pipe,λb=>(h b).GI,λb=>(h b).rend,λb=>(h b).TM⟩
section
variable {T T':Tag} {op:Nat->Nat} {ct Qe:Nat->Ct} {w w':o_} {kb p:Nat}
theorem EI.ax (i:T p=(10,0)) (a:w.heap[p]?=some (N_ #[v,b_ (op p)] 191)) (c:RU T w p 64 v (ct p).ws):EI T op ct w kb p:=by
 refine⟨λ_=>⟨v,a,c⟩,λe=>?_,λd e=>?_,λe=>?_,λe=>?_⟩
 all_goals rw[i]at e;simp at e
theorem EI.VR (i:T p=(11,0)) (a:w.heap[p]?=some (N_ #[v,.bool (ct p).x,.bool (ct p).y] 329)) (c:RU T w p 16 v (ct p).ws):EI T op ct w kb p:=by
 refine⟨λe=>?_,λ_=>⟨v,a,c⟩,λd e=>?_,λe=>?_,λe=>?_⟩
 all_goals rw[i]at e;simp at e
theorem EI.yK (a:T p=(12,f)) (c:w.heap[p]?=some (N_ #[.pointer (some (S_ kb 4)),ptr f,b_ ((ct p).n:Nat)] 339)) (i:T f=(10,0)) (j:(ct p).n<=64):EI T op ct w kb p:=by
 refine⟨λe=>?_,λe=>?_,λd e=>?_,λe=>?_,λe=>?_⟩
 rotate_left 2
 .rw[a]at e;obtain rfl:f=d:=by simpa using e
  exact⟨c,i,j⟩
 all_goals rw[a]at e;simp at e
theorem EI.rend' (i:T p=(13,0)) (a:w.heap[p]?=some (N_ #[ptr (ct p).n] 333)) (c:T (ct p).n=(11,0)):EI T op ct w kb p:=by
 refine⟨λe=>?_,λe=>?_,λd e=>?_,λ_=>⟨a,c⟩,λe=>?_⟩
 all_goals rw[i]at e;simp at e
theorem EI.bx5 (i:T p=(14,0)) (a:w.heap[p]?=some (N_ #[ptr (ct p).n] 335)) (c:T (ct p).n=(11,0)):EI T op ct w kb p:=by
 refine⟨λe=>?_,λe=>?_,λd e=>?_,λe=>?_,λ_=>⟨a,c⟩⟩
 all_goals rw[i]at e;simp at e
theorem EI.no (a:(T p).1<10):EI T op ct w kb p:=by
 refine⟨λe=>?_,λe=>?_,λd e=>?_,λe=>?_,λe=>?_⟩
 all_goals rw[e]at a;simp at a
theorem EI.keep (h:EI T op ct w kb b) (j:Ac S w w') (k:¬S b) (m:∀g,T g=(15,b)->¬S g):EI T op ct w' kb b:=by
 have d:∀{M v l},RU T w b M v l->RU T w' b M v l:=λh=>by
  obtain h|⟨g,c,a1,a2,f,i,a⟩:=h
  .exact .inl h
  .exact .inr ⟨g,c,a1,a2.keep j (m g a),f,i,a⟩
 refine⟨λe=>?_,λe=>?_,λc e=>?_,λe=>?_,λe=>?_⟩
 .obtain⟨x,a1,a2⟩:=h.file e;exact⟨x,j.old a1 k,d a2⟩
 .obtain⟨x,a1,a2⟩:=h.pipe e;exact⟨x,j.old a1 k,d a2⟩
 .obtain⟨a1,a2⟩:=h.GI c e;exact⟨j.old a1 k,a2⟩
 .obtain⟨a1,a2⟩:=h.rend e;exact⟨j.old a1 k,a2⟩
 .obtain⟨a1,a2⟩:=h.TM e;exact⟨j.old a1 k,a2⟩
theorem KC.bl0 {K:KS} (h:KC K w ks) (f:Nat->Ct):KC { K with ct:=f } w ks:=⟨h.c0,h.c1,h.c2,h.c3,h.nm,h.nl,h.en⟩
theorem ae.set (h:ae T op ct w kb) (o:Ac S w w') (m:∀k,S k->(k=b0/\(T k).1≠15)\/T k=(15,b0)) (t:10<=(T b0).1) (n:(T b0).1<15) (s:EI T op Qe w' kb b0) (q:∀b,b≠b0->Qe b=ct b):ae T op Qe w' kb:=ae.of λb=>by
 by_cases e:b=b0
 .subst e;exact s
 .by_cases d:(T b).1<10\/(T b).1=15
  .obtain d|d:=d
   .exact EI.no d
   .refine⟨λe=>?_,λe=>?_,λc e=>?_,λe=>?_,λe=>?_⟩<;>rw[e]at d<;>simp at d
  .refine EI.ct ((h.one b).keep o (λf=>?_) (λg i f=>?_)) (q b e)
   .obtain⟨a,_⟩|a:=m b f
    .exact e a
    .exact d (.inr (by rw[a]))
   .obtain⟨a,j⟩|a:=m g f
    .exact j (by rw[i])
    .rw[i]at a;exact e (by simpa using a)
theorem AV.jO {K:KS} (h:AV K w) (o:Ac S w w') (s:∀k,S k->(k=b0/\(K.T k).1≠15)\/K.T k=(15,b0)) (x:10<=(K.T b0).1) (q:(K.T b0).1<15) (z:EI K.T K.op Qe w' K.kb b0) (y:∀b,b≠b0->Qe b=K.ct b) (u:K.T b0=(10,0)->¬S b0):AV { K with ct:=Qe } w'/\BN K.T K.T w w':=by
 obtain⟨m,d,j⟩:=h.k;have a:∀k,S k->10<=(K.T k).1:=λk d=>by
  obtain⟨rfl,_⟩|c:=s k d
  .exact x
  .rw[c];simp
 have M:Dh K.T K.T (λt=>t=(1,0)\/t=(5,0)\/10<=t.1) (λt=>t=(5,0)\/10<=t.1) w w':=Dh.of (o.on λk _ e=>.inr (.inr (a k e))) h.lt;have i:Dh K.T K.T (λt=>10<=t.1) (λt=>10<=t.1) w w':=Dh.of (o.on λk _ e=>a k e) h.lt;have f:¬S K.kb:=λe=>by have:=a _ e;rw[h.tk]at this;simp at this
 refine⟨h.ZB (ks':=m) M (o.old d f) (KC.bl0 (j.IX i zF) Qe) (h.fl.set o s x q z y) (h.dk.to λb n e=>⟨e,λl=>l.keep o λg=>?_⟩),M.WB ?_⟩
 .obtain⟨rfl,_⟩|c:=s b g
  .exact u e g
  .rw[e]at c;simp at c
 rintro t (rfl|rfl|h)<;>try simp
 rintro rfl;simp at h
theorem AV.ac7 {K:KS} (h:AV K w) (i:Ac (At p) w w') (m:10<=(K.T p).1) (c:(K.T p).1<15) (a:(K.T p).1≠10) (j:EI K.T K.op Qe w' K.kb p) (d:∀b,b≠p->Qe b=K.ct b):AV { K with ct:=Qe } w'/\BN K.T K.T w w':=
 h.jO i (λk e=>by subst e;exact .inl ⟨rfl,zD⟩) m c j d λe=>ql (by rw[e]) a
theorem RU.set {M:Nat} {ws:List Nat} (h:RU T w b M v ws) (i:Ac S w w') (j:∀g,T g=(15,b)->¬S g):RU T w' b M v ws:=by
 obtain h|⟨g,c,a1,a2,d,e,a⟩:=h
 .exact .inl h
 .exact .inr ⟨g,c,a1,a2.keep i (j g a),d,e,a⟩
end
theorem KC.bt2 {K:KS} {T':Tag} {Q N:Nat×Nat->Prop} (h:KC K w ks) (M:Dh K.T T' Q N w w') (j:zM T' w' l v):KC { K with nl:=l,T:=T' } w' (ks.setIfInBounds 20 v):=by
 obtain⟨_,a,_⟩:=h.nl;have g:20<ks.size:=(y_.1 a).1;refine⟨?_,?_,?_,?_,λi f=>?_,⟨v,by simp[g],j⟩,λi f=>?_⟩
 .rw[Hr zD];exact h.c0
 .rw[Hr zD];exact h.c1
 .rw[Hr zD];exact h.c2
 .rw[Hr zD];exact h.c3
 .rw[Hr zD];exact⟨(h.nm i f).1,λb e=>M.tag ((h.nm i f).2 b e) zF⟩
 .rw[Hr zD,Hr zD];exact let ⟨a,b,c,d⟩:=h.en i f;⟨a,b,c,λe=>(d e).IX M⟩
section
variable (m:Nat) (w:o_)
theorem ζ (K:KS) (b:Nat) (h:AV K w) (q:K.T b=(13,0)):O_ m 269 #[Q_ b] w λe w'=>e=.returned (.tuple #[])/\AV { K with ct:=Ag K.ct (K.ct b).n { K.ct (K.ct b).n with x:=false } } w'/\BN K.T K.T w w':=by
 obtain⟨f,a⟩:=h.fl.rend b q;generalize (K.ct b).n=p at*;obtain⟨v,c,i⟩:=h.fl.pipe p a;have j:w.cell? (R_ b)=some (Q_ p):=(Ah f 0).trans rfl;have d1:w.cell? (S_ p 1)=some (.bool (K.ct p).x):=(Ah c 1).trans rfl;have k:=BQ c 1;gi_enter func269,ntmps269;gi_wp2;go_end0;have:=h.ac7 (p:=p) (Qe:=Ag K.ct p { K.ct p with x:=false }) (w':=w.setCell (S_ p 1) (.bool false)) ((Ac.refl _ _).setCell _ λ_=>rfl) (by rw[a];simp) (by rw[a];simp) (by rw[a];simp) (EI.VR (v:=v) a ((Ap c _).trans (by simp[Ag])) (by have:=i.set (Ac.NZ (b:=p) (o:=1) (.bool false)) (λg d e=>by rw[show g=p from e,a]at d;simp at d);simpa [Ag]using this)) (λb q=>ru q);exact⟨zF,this.1,this.2⟩
theorem Ζ (K:KS) (b:Nat) (h:AV K w) (q:K.T b=(14,0)):O_ m 276 #[Q_ b] w λe w'=>e=.returned (.tuple #[])/\AV { K with ct:=Ag K.ct (K.ct b).n { K.ct (K.ct b).n with y:=false } } w'/\BN K.T K.T w w':=by
 obtain⟨f,a⟩:=h.fl.TM b q;generalize (K.ct b).n=p at*;obtain⟨v,c,i⟩:=h.fl.pipe p a;have j:w.cell? (R_ b)=some (Q_ p):=(Ah f 0).trans rfl;have d1:w.cell? (S_ p 2)=some (.bool (K.ct p).y):=(Ah c 2).trans rfl;have k:=BQ c 2;gi_enter func276,ntmps276;gi_wp2;go_end0;have:=h.ac7 (p:=p) (Qe:=Ag K.ct p { K.ct p with y:=false }) (w':=w.setCell (S_ p 2) (.bool false)) ((Ac.refl _ _).setCell _ λ_=>rfl) (by rw[a];simp) (by rw[a];simp) (by rw[a];simp) (EI.VR (v:=v) a ((Ap c _).trans (by simp[Ag])) (by have:=i.set (Ac.NZ (b:=p) (o:=2) (.bool false)) (λg d e=>by rw[show g=p from e,a]at d;simp at d);simpa [Ag]using this)) (λb q=>ru q);exact⟨zF,this.1,this.2⟩
end
theorem jX:Ob prog 103 101 (.pointer none) 1 8:=⟨underlying103,sJ,by rfl,wB,by intro x a;simp[Value.cells]at a;subst a;rfl⟩
def aN (gn:Nat->Bool) (g:Nat) (w:o_) (b:Nat):Prop:=b≠g/\∃n:Int,w.cell? (S_ b 1)=some (b_ n)/\gn b=(n==0)
theorem aN.keep (h:aN gn g w b) (e:Ac (At g) w w'):aN gn g w' b:=by
 obtain⟨a,h⟩:=h;refine⟨a,?_⟩;obtain⟨n,c,d⟩:=h;exact⟨n,(e.cell (qy _ _ c) a).trans c,d⟩
section
variable (m:Nat) (w:o_)
theorem ap2 (g cap:Nat) (l:List Nat) (gn:Nat->Bool) (y:Rw 101 1 w g l.length cap (Bj l)) (z:∀b∈l,aN gn g w b) (A:l.length<=100000):
  O_ m 248 #[P_ g l.length cap,.func (.func 246) #[] #[]] w λe w'=>Ac No w w'/\((e=.returned (b_ (-1))/\∀b∈l,gn b=false)\/∃k b,e=.returned (b_ (k:Nat))/\l[k]?=some b/\gn b=true/\∀(j:Nat) b,j<k->l[j]?=some b->gn b=false):=by
 gi_enter func248,ntmps248;gi_wp2;gi_loopw [8] (λi wr=>∃k:Nat,k<=l.length/\i=b_ k/\Ac No w wr/\∀(j:Nat) b,j<k->l[j]?=some b->gn b=false) (λi _=>l.length-(intOf i).toNat)
 case atStart=>exact⟨0,zD,rfl,Ac.refl _ _,λj b h=>ql h zD⟩
 case round=>
  obtain⟨k,x,rfl,KK,f⟩:=hrel
  by_cases r:k<l.length
  .have c:l[k]?=some l[k]:=IG r;generalize l[k]=b at c;have u:wr.cell? (S_ g k)=some (Q_ b):=(by rw[Rw.cell (y.keep KK id) zD];simp[Bj,c,ptr]);obtain⟨_,t⟩:=(z b (t_ c)).keep KK.no;obtain⟨n,d1,a⟩:=t;obtain p|p:(n==0)=true\/(n==0)=false:=by cases n==0<;>simp
   all_goals rw[p]at a
   .gi_wp2_with gi_in;go_ret;exact⟨KK,.inr ⟨k,b,zF,c,a,f⟩⟩
   all_goals
    gi_wp2_with gi_in
    go_roundw
    case rel=>
     refine⟨k+1,zD,by go_num,KK,λj q v d=>?_⟩
     by_cases e:j=k
     .subst e;rw[c]at d;cases d;exact a
     .exact f j q zD d
    case measure=>simp[intOf];omega
  .obtain rfl:k=l.length:=zD;gi_wp2;go_ret;refine⟨KK,.inl ⟨zF,λb s=>?_⟩⟩;obtain⟨i,o⟩:=List.getElem?_of_mem s;exact f i b (KT.1 o).1 o
theorem Ϝ (g cap:Nat) (l:List Nat) (gn:Nat->Bool) (hR:Rw 101 1 w g l.length cap (Bj l)) (hc:∀b∈l,aN gn g w b) (hl:l.length<=100000):
  O_ m 245 #[P_ g l.length cap,.func (.func 246) #[] #[]] w λe w'=>e=.returned (P_ g (l.filter λb=>!gn b).length cap)/\Ac (At g) w w'/\Rw 101 1 w' g (l.filter λb=>!gn b).length cap (Bj (l.filter λb=>!gn b)):=by
 have c:=λm=>ap2 m w g cap l gn hR hc hl
 gi_enter func245,ntmps245;gi_wp2_with (gi_at_call 248;refine(c _).mono ?_;rintro e w1 ⟨u,⟨rfl,W⟩|⟨t,Z,rfl,p,E,r⟩⟩<;>try (have f0:((t:Int)==-1)=false:=zF;have U:=(KT.1 p).1))
 .go_ret;have e:l.filter (λb=>!gn b)=l:=List.filter_eq_self.2 λb D=>by simp[W b D]
  rw[e];exact⟨zF,u.no,hR.keep u id⟩
 .gi_loopw [5,6] (λP B wr=>∃(i j:Nat) (h:U_),P=b_ i/\B=b_ j/\i<j/\j<=l.length/\Ac (At g) w wr/\Rw 101 1 wr g l.length cap h/\i=((l.take j).filter λb=>!gn b).length/\h.take i=Bj ((l.take j).filter λb=>!gn b)/\h.drop j=Bj (l.drop j)) (λ_ B _=>l.length-(intOf B).toNat)
  case atStart=>
   have e:(l.take (t+1)).filter (λb=>!gn b)=l.take t:=by
    rw[List.take_add_one,p,List.filter_append]
    simp only[Option.toList_some,List.filter_cons,E,Bool.not_true,List.filter_nil]
    simp only[jH,if_false,List.append_nil]
    refine List.filter_eq_self.2 λb D=>?_
    obtain⟨j,z⟩:=List.getElem?_of_mem D
    rw[List.getElem?_take]at z
    split at z
    .rename_i G;simp[r j b G z]
    .cases z
   refine⟨t,t+1,Bj l,rfl,by go_num,zD,zD,u.no,hR.keep u id,?_,?_,?_⟩
   .rw[e,ed];omega
   .rw[e];simp[Bj]
   .simp[Bj]
  case round=>
   obtain⟨i,j,h,rfl,rfl,S,T,KK,f,a,s,J⟩:=hrel
   have k:Nonempty (PLift (i=((l.take j).filter λb=>!gn b).length)):=⟨⟨a⟩⟩
   clear a
   have V:=f.le
   have Y:=f.len
   by_cases M:j<l.length
   .have y:l[j]?=some l[j]:=IG M;generalize l[j]=b at y;have H:h[j]?=some (ptr b):=by
     have:(h.drop j)[0]?=some (ptr b):=by rw[J];simp[Bj,y]
     simpa using this
    have d0:wr.cell? (S_ g j)=some (Q_ b):=(by rw[f.cell zD,H];rfl);have A:l.take (j+1)=l.take j++[b]:=(by rw[List.take_add_one,y];rfl);have I:h.drop (j+1)=Bj (l.drop (j+1)):=by
     have:=congrArg (List.drop 1) J
     simpa [Bj,List.drop_drop]using this
    have fz:=f.fz i;have Q:(i:Int)<(l.length:Int):=zD;have ci:∃v,wr.cell? (S_ g i)=some v:=by
     rw[f.cell zD]
     exact⟨_,IG zD⟩
    obtain⟨vi,ci⟩:=ci;obtain⟨_,X⟩:=(hc b (t_ y)).keep KK;obtain⟨n,d1,d⟩:=X;obtain K|K:(n==0)=true\/(n==0)=false:=by cases n==0<;>simp
    all_goals rw[K]at d
    .gi_wp2_with gi_in;go_roundw
     case rel=>
      refine⟨i,j+1,h,rfl,by go_num,zD,zD,KK,f,?_,?_,I⟩
      .obtain⟨⟨a⟩⟩:=k;rw[A,List.filter_append];simp[d,<-a]
      .rw[A,List.filter_append];simp[d,s]
     case measure=>simp[intOf];omega
    all_goals
     gi_wp2_with gi_in
     go_roundw
     case rel=>
      refine⟨i+1,j+1,h.set i (ptr b),by go_num,by go_num,zD,zD,KK.setCell _ λ_=>rfl,f.set _ rfl,?_,?_,?_⟩
      .obtain⟨⟨a⟩⟩:=k;rw[A,List.filter_append];simp[d,<-a]
      .rw[A,List.filter_append,List.take_add_one,List.take_set_of_le (w_ i),s,List.getElem?_set_self zD];simp[d,Bj]
      .rw[List.drop_set_of_lt zD];exact I
     case measure=>simp[intOf];omega
   .obtain rfl:j=l.length:=zD;rw[List.take_length]at k s;obtain⟨⟨a⟩⟩:=k;have o:Rw 101 1 wr g i cap (Bj (l.filter λb=>!gn b)):=by
     obtain⟨C,a1,a2,O⟩:=f.blk
     refine⟨⟨C,a1,a2,?_⟩,zD,f.max,by simp[Bj,<-a],?_⟩
     .rw[<-s,<-O,List.take_take];congr 1;omega
     .intro x L;rw[<-s]at L;exact f.one x (List.mem_of_mem_take L)
    have k:Nonempty (PLift (i=(l.filter λb=>!gn b).length)):=⟨⟨a⟩⟩;clear a;have f5:¬cap=i:=zD;obtain⟨w2,F,N,R⟩:=QF (c:=cap-i) (q:=l.length-i) (ty:=0) jX o zD;simp only[Nat.mul_one]at F;have Q:¬(l.length:Int)<(i:Int):=zD;gi_wp2;go_ret;obtain⟨⟨a⟩⟩:=k;rw[<-a];exact⟨zF,KK.then N,R⟩
theorem jf:O_ m 248 #[.slice none 0 0,.func (.func 246) #[] #[]] w λe w'=>e=.returned (b_ (-1))/\w'=w:=by
 gi_enter func248,ntmps248;gi_wp2;refine wpIn_loop_once ?_;gi_wp2;go_ret;exact⟨zF,rfl⟩
theorem Z7:O_ m 245 #[.slice none 0 0,.func (.func 246) #[] #[]] w λe w'=>e=.returned (.slice none 0 0)/\w'=w:=by
 have c:=λm=>jf m w
 gi_enter func245,ntmps245;gi_wp2_with (gi_at_call 248;refine(c _).mono ?_;rintro e w1 ⟨rfl,rfl⟩);go_ret;exact⟨zF,rfl⟩
theorem bW (K:KS) (h:AV K w) (O:K.nl.length<=100000):O_ m 234 #[.pointer (some (S_ K.kb 4))] w λe w'=>e=.returned (.tuple #[])/\AV { K with nl:=K.nl.filter λb=>!(K.op b==0) } w'/\BN K.T K.T w w':=by
 obtain⟨N,o,s⟩:=h.k;obtain⟨v,C,F,A⟩:=s.nl;have q:=(Ah o 20).trans C;have L:=BQ o 20;obtain⟨rfl,B⟩|⟨g,j,rfl,G,n⟩:=F
 .have c:=λm=>Z7 m w
  gi_enter func234,ntmps234;gi_wp2_with (gi_at_call 245;refine(c _).mono ?_;rintro e w1 ⟨rfl,rfl⟩);go_end0;have M:Dh K.T K.T (λt=>t=(1,0)\/t=(5,0)\/10<=t.1) (λt=>t=(5,0)\/10<=t.1) w1 (w1.setCell (S_ K.kb 20) (.slice none 0 0)):=Dh.of ((Ac.refl _ _).setCell _ λ_=>.inl h.tk) h.lt;have a:Dh K.T K.T (λt=>t=(1,0)) (λt=>t=(5,0)) w1 (w1.setCell (S_ K.kb 20) (.slice none 0 0)):=Dh.of ((Ac.refl _ _).setCell _ λ_=>h.tk) h.lt;exact⟨zF,h.ZB M (Ap o _) ((s.IX a zF).cg9 ⟨.inl ⟨rfl,by rw[B];rfl⟩,by rw[B];simp⟩) (h.fl.IX a (by rintro t rfl;simp) (by rintro t rfl;simp)) ((h.dk.IX a zF zF).sub λI _=>Nat.add_le_add_left NQ _),a.WB (by rintro t rfl;simp)⟩
 .have H:∀b∈K.nl,aN (λb=>K.op b==0) g w b:=by
   intro b i
   have y:=A b i
   obtain⟨x,E,_⟩:=h.fl.file b y
   refine⟨λe=>(by rw[e,n]at y;simp at y),K.op b,(Ah E 1).trans rfl,?_⟩
   rw[Bool.eq_iff_iff];simp
  have c:=λm=>Ϝ m w g j K.nl (λb=>K.op b==0) G H zD
  have z:K.kb≠g:=λe=>by have:=h.tk;rw[e,n]at this;simp at this
  have d:∀b∈K.nl.filter (λb=>!(K.op b==0)),K.T b=(10,0):=λb i=>A b (List.mem_filter.1 i).1
  have l:∀f,BK f (K.nl.filter (λb=>!(K.op b==0)))<=BK f K.nl:=λf=>NQ
  generalize K.nl.filter (λb=>!(K.op b==0))=u at c d l;gi_enter func234,ntmps234;gi_wp2_with (gi_at_call 245;refine(c _).mono ?_;rintro e w1 ⟨rfl,r,D⟩;have k1:=r.old o z;have J:=BQ k1 20;have c2:=(Ah k1 20).trans C);go_end0;have M:Dh K.T K.T (λt=>t=(1,0)\/t=(5,0)\/10<=t.1) (λt=>t=(5,0)\/10<=t.1) w (w1.setCell (S_ K.kb 20) (P_ g u.length j)):=Dh.of ((r.on (by rintro k _ rfl;exact .inr (.inl n))).setCell _ λ_=>.inl h.tk) h.lt;have a:Dh K.T K.T (λt=>t=(1,0)\/t=(5,0)) (λt=>t=(5,0)) w (w1.setCell (S_ K.kb 20) (P_ g u.length j)):=Dh.of ((r.on (by rintro k _ rfl;exact .inr n)).setCell _ λ_=>.inl h.tk) h.lt;have R2:=D.keep ((Ac.refl (At K.kb) w1).setCell (p:=(S_ K.kb 20)) (P_ g u.length j) λ_=>rfl) z.symm;exact⟨zF,h.ZB M (Ap k1 _) (KC.bt2 s a ⟨.inr ⟨g,j,rfl,R2,n⟩,d⟩) (h.fl.IX a (by rintro t (rfl|rfl)<;>simp) (by rintro t rfl;simp)) ((h.dk.IX a zF zF).sub λI _=>Nat.add_le_add_left (l _) _),a.WB (by rintro t (rfl|rfl)<;>simp)⟩
theorem AV.bi0 {K:KS} {w:o_} {n:Nat} (h:AV K w) (D:K.T f=(10,0)):AV { K with op:=Ag K.op f n } (w.setCell (S_ f 1) (b_ n))/\BN K.T K.T w (w.setCell (S_ f 1) (b_ n)):=by
 obtain⟨C,B,A⟩:=h.k;have i:Ac (At f) w (w.setCell (S_ f 1) (b_ n)):=(Ac.refl _ _).setCell _ λ_=>rfl
 have M:Dh K.T K.T (λt=>t=(1,0)\/t=(5,0)\/10<=t.1) (λt=>t=(5,0)\/10<=t.1) w (w.setCell (S_ f 1) (b_ n)):=Dh.of (i.on λk _ e=>by subst e;exact .inr (.inr (by rw[D];simp))) h.lt;have p:Dh K.T K.T (λt=>t=(10,0)) (λt=>t=(10,0)) w (w.setCell (S_ f 1) (b_ n)):=Dh.of (i.on λk _ e=>by subst e;exact D) h.lt;have l:K.kb≠f:=λe=>by rw[<-e,h.tk]at D;simp at D
 refine⟨h.ZB (ks':=C) M (i.old B l) ((A.IX p zF).op _) (ae.of λb=>?_) (h.dk.to λb m e=>⟨e,λu=>?_⟩),p.WB (by rintro t rfl;simp)⟩
 rotate_left
 .by_cases r:b=f
  .subst r;obtain⟨a,c,o,d⟩:=u;exact⟨a,c,b_ n,by rw[Ap d];simp⟩
  .exact u.keep i r
 have x:=h.fl.one b;have j:∀q g,K.T g=(15,q)->¬At f g:=λq g s e=>by rw[show g=f from e,D]at s;simp at s
 by_cases e:b=f
 .subst e;obtain⟨v,y,z⟩:=x.file D;exact EI.ax D (by rw[Ap y];simp[Ag]) (z.set i (j b))
 .have d:=x.keep i e (j b);refine⟨λt=>?_,d.pipe,d.GI,d.rend,d.TM⟩;simpa [Ag,e]using d.file t
theorem π (K:KS) (b f:Nat) (h:AV K w) (t:K.T b=(12,f)) (x:K.nl.length<=100000) (y:1<=K.op f) (u:K.op f<=100000):O_ m 280 #[Q_ b] w λe w'=>e=.returned (.tuple #[])/\AV { K with op:=Ag K.op f (K.op f-1),nl:=K.nl.filter λk=>!(Ag K.op f (K.op f-1) k==0) } w'/\BN K.T K.T w w':=by
 obtain⟨g,d,_⟩:=h.fl.GI b f t;obtain⟨v,i,s⟩:=h.fl.file f d;have q:w.cell? (R_ b)=some (.pointer (some (S_ K.kb 4))):=(Ah g 0).trans rfl;have d1:w.cell? (S_ b 1)=some (Q_ f):=(Ah g 1).trans rfl;have d2:w.cell? (S_ f 1)=some (b_ (K.op f)):=(Ah i 1).trans rfl;have r:=BQ i 1;have p:b≠f:=λe=>by rw[e,d]at t;simp at t
 have a:=h.bi0 (n:=K.op f-1) d;have l:((K.op f-1:Nat):Int)=(K.op f:Int)-1:=zD
 have c:=λm=>bW m _ _ a.1 x
 rw[l]at c a;simp only at c;gi_enter func280,ntmps280;gi_wp2_with (gi_at_call 234;refine(c _).mono ?_;rintro e w1 ⟨rfl,o,j⟩);go_end0;exact⟨zF,o,a.2.trans j⟩
end
section
variable {K:KS} {w:o_} {i n:Nat} {v:n_} {o:d_ Nat} {ks:X_}
theorem KC.aa2 (h:KC K w ks) (j:i<20) (m:0<K.desc i):KC { K with desc:=Ag K.desc i n } w (ks.setIfInBounds (21+i*2+1) (b_ n)):=by
 obtain⟨a,d,b,c⟩:=h.en i j;have:=h.qm (n:=n) (v:=K.tv i) (o:=K.ef i) j b λ_=>c m
 rw[QB a]at this;have e:∀{α:Type} (f:Nat->α),Ag f i (f i)=f:=λf=>by funext k;unfold Ag;split;subst_vars;rfl;rfl
 rw[e,e]at this;exact this
theorem AV.aa2 (h:AV K w) (m:i<20) (j:0<K.desc i):AV { K with desc:=Ag K.desc i n } (w.setCell (S_ K.kb (21+i*2+1)) (b_ n))/\BN K.T K.T w (w.setCell (S_ K.kb (21+i*2+1)) (b_ n)):=by
 obtain⟨f,d,c⟩:=h.k;have b:Ac (At K.kb) w (w.setCell (S_ K.kb (21+i*2+1)) (b_ n)):=(Ac.refl _ _).setCell _ λ_=>rfl
 have M:Dh K.T K.T (λt=>t=(1,0)\/t=(5,0)\/10<=t.1) (λt=>t=(5,0)\/10<=t.1) w (w.setCell (S_ K.kb (21+i*2+1)) (b_ n)):=Dh.of (b.on λk _ e=>by subst e;exact .inl h.tk) h.lt;have a:Dh K.T K.T (λt=>t=(1,0)) (λt=>t=(1,0)) w (w.setCell (S_ K.kb (21+i*2+1)) (b_ n)):=Dh.of (b.on λk _ e=>by subst e;exact h.tk) h.lt;exact⟨h.ZB M (Ap d _) ((c.IX a zF).aa2 m j) (h.fl.IX a (by rintro t rfl;simp) (by rintro t rfl;simp)) (h.dk.IX a zF zF),a.WB (by rintro t rfl;simp)⟩
theorem AV.qm (h:AV K w) (p:i<20) (m:v.oneCell'=true) (q:0<n->O3 K.T v o) (j:Ac (At K.kb) w w') (d:∀ks,w.heap[K.kb]?=some (N_ ks 114)->w'.heap[K.kb]?=some (.cells ((ks.setIfInBounds (21+i*2) v).setIfInBounds (21+i*2+1) (b_ n)) 114 (0,0))):AV { K with desc:=Ag K.desc i n,ef:=Ag K.ef i o,tv:=Ag K.tv i v } w'/\BN K.T K.T w w':=by
 obtain⟨ks,c,b⟩:=h.k;have M:Dh K.T K.T (λt=>t=(1,0)\/t=(5,0)\/10<=t.1) (λt=>t=(5,0)\/10<=t.1) w w':=Dh.of (j.on λk _ e=>by subst e;exact .inl h.tk) h.lt;have a:Dh K.T K.T (λt=>t=(1,0)) (λt=>t=(1,0)) w w':=Dh.of (j.on λk _ e=>by subst e;exact h.tk) h.lt;exact⟨h.ZB M (d ks c) ((b.IX a zF).qm p m q) (h.fl.IX a (by rintro t rfl;simp) (by rintro t rfl;simp)) (h.dk.IX a zF zF),a.WB (by rintro t rfl;simp)⟩
theorem AV.ϻ (h:AV K w) (j:i<20):∃v,w.cell? (S_ K.kb (21+i*2))=some v/\w.cell? (S_ K.kb (21+i*2+1))=some (b_ (K.desc i))/\v.oneCell'=true/\(0<K.desc i->O3 K.T v (K.ef i)):=by
 obtain⟨g,a,f⟩:=h.k;obtain⟨b,c,d,e⟩:=f.en i j;exact⟨K.tv i,(Ah a _).trans b,(Ah a _).trans c,d,e⟩
theorem AV.au2 (h:AV K w) (a:i<20):w.cell? (S_ K.kb (21+i*2))=some (K.tv i):=let ⟨_,hk,hc⟩:=h.k;(Ah hk _).trans (hc.en i a).1
theorem AV.ϳ (h:AV K w) (j:Nat):w.frozen? (S_ K.kb j)=false:=let ⟨_,hk,_⟩:=h.k;BQ hk j
end
theorem O3.shape {o:d_ Nat} (h:O3 T v o):∃t b,v=.iface t (Q_ b):=by
 obtain⟨b,⟨h,_⟩|⟨h,_⟩|⟨h,_⟩⟩:=h
 all_goals exact⟨_,b,h⟩
section
variable (m:Nat) (w:o_)
theorem cr0 (K:KS) (i:Nat) (h:AV K w) (k:i<20) (j:0<K.desc i):
  O_ m 203 #[.pointer (some (S_ K.kb 21)),b_ (i:Nat)] w λe w'=>Ac No w w'/\∃v,e=.returned v/\O3 K.T v (K.ef i):=by
 obtain⟨v,c,d,f,a⟩:=h.ϻ k;have b:(i:Int)<20:=zD
 gi_enter func203,ntmps203;gi_wp2;go_ret;exact⟨Ac.refl _ _,v,zF,a j⟩
theorem kP (K:KS) (i:Nat) (h:AV K w) (o:i<20) (p:0<K.desc i) (q:K.desc i<=1000):
  O_ m 193 #[.pointer (some (S_ K.kb 21)),b_ (i:Nat)] w λe w'=>e=.returned (.tuple #[])/\AV { K with desc:=Ag K.desc i (K.desc i+1) } w'/\BN K.T K.T w w':=by
 obtain⟨v,g,b,j,k⟩:=h.ϻ o;have d:(i:Int)<20:=zD
 gi_enter func193,ntmps193;gi_wp2;refine BP 10 16 ?_;gi_wp2;refine Eb ?_ ?_
 .intro W a;have d2:=a.has (w:=w.drew) b
  repeat' (refine Au ?_ ?_)
  all_goals first|exact eu|gi_wp2
 .intro W a;have KW:Ac No w W:=(Ac.refl No w).drew.then a;have c:=h.no KW;have d2:=KW.has b;have f:=c.ϳ (21+i*2+1);gi_wp2;go_end0;have:=c.aa2 (n:=K.desc i+1) o p;push_cast at this;exact⟨zF,this.1,(BN.no KW h.lt).trans this.2⟩
theorem fE (K:KS) (v:n_) (o:d_ Nat) (h:AV K w) (C:O3 K.T v o) (B:∃i,i<20/\K.desc i=0):
  O_ m 201 #[.pointer (some (S_ K.kb 21)),v] w λe w'=>∃i,i<20/\(K.desc i=0/\∀j,j<i->K.desc j≠0)/\e=.returned (b_ (i:Nat))/\AV { K with desc:=Ag K.desc i 1,ef:=Ag K.ef i o,tv:=Ag K.tv i v } w'/\BN K.T K.T w w':=by
 obtain⟨z,A,c⟩:=B;obtain⟨t,b,rfl⟩:=C.shape;gi_enter func201,ntmps201;gi_wp2;gi_loopw [5] (λi wr=>∃k:Nat,k<=z/\i=b_ k/\Ac No w wr/\∀j,j<k->K.desc j≠0) (λi _=>z-(intOf i).toNat)
 case atStart=>exact⟨0,zD,rfl,Ac.refl _ _,λj h=>ql h zD⟩
 case round=>
  obtain⟨k,q,rfl,KK,d⟩:=hrel
  have B:=h.no KK
  obtain⟨u,d1,d2,d3,d4⟩:=B.ϻ (i:=k) zD
  have x:(k:Int)<20:=zD
  by_cases a:K.desc k=0
  .have f:¬(0:Int)<(K.desc k:Int):=zD;have g:=B.ϳ (21+k*2);have l:=B.ϳ (21+k*2+1);gi_wp2;go_ret;have:=B.qm (i:=k) (n:=1) (v:=.iface t (Q_ b)) (o:=o) zD rfl (λ_=>C) (w':=(wr.setCell (S_ K.kb (21+k*2)) (.iface t (Q_ b))).setCell (S_ K.kb (21+k*2+1)) (b_ 1)) (Ac.setCell (Ac.setCell (Ac.refl (At K.kb) wr) _ (p:=(S_ K.kb (21+k*2))) λ_=>rfl) _ (p:=(S_ K.kb (21+k*2+1))) λ_=>rfl) (λr s=>Ap (Ap s _) _);exact⟨k,zD,⟨a,d⟩,zF,this.1,(BN.no KK h.lt).trans this.2⟩
  .have f:(0:Int)<(K.desc k:Int):=zD;have:k≠z:=(by rintro rfl;exact a c);gi_wp2;go_roundw
   case rel=>exact⟨k+1,zD,by go_num,KK,λj y=>by by_cases e:j=k;exact e ▸ a;exact d j zD⟩
   case measure=>simp[intOf];omega
end
end Go.Fxa
