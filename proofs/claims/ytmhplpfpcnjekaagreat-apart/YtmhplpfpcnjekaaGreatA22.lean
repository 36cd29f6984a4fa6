/- A kernel of many processes: or -/
import Derived.Test.YtmhplpfpcnjekaaGreatA21
namespace Go.Fxa
open Conc Proofs RowKit Proofs.Tryz
set_option maxRecDepth 1000000
set_option maxHeartbeats 0
structure J3 (K K':KS):Prop where
 eq:K'={ K with ps:=K'.ps }
 ps:∃f:Nat->Nat,∀b,K'.ps b=(K.ps b).map fun r=>{ r with par:=f b }
theorem J3.refl (K:KS):J3 K K:=⟨rfl,fun b=>match K.ps b with|some r=>r.par|none=>0,fun b=>by cases h:K.ps b<;>simp[h]⟩
theorem J3.trans {K K' K'':KS} (h:J3 K K') (h':J3 K' K''):J3 K K'':=by
 obtain⟨e1,f,p1⟩:=h;obtain⟨e2,g,p2⟩:=h';refine⟨?_,g,fun b=>?_⟩
 ·rw[e2,e1]
 ·rw[p2,p1];cases K.ps b<;>rfl
theorem J3.set {K:KS} {b:Nat} {r:PR} (hb:K.ps b=some r) (c:Nat):J3 K (K.Cg b { r with par:=c }):=by
 refine⟨rfl,fun k=>if k=b then c else match K.ps k with|some r=>r.par|none=>0,fun k=>?_⟩;show Cu K.ps b _ k=_;by_cases e:k=b
 ·subst e;rw[Al,hb];simp
 ·rw[BI e];cases h:K.ps k<;>simp[e,h]
theorem J3.get {K K':KS} (h:J3 K K') {b:Nat} {r:PR} (hb:K.ps b=some r):∃c,K'.ps b=some { r with par:=c }:=by
 obtain⟨f,hf⟩:=h.ps;exact⟨f b,by rw[hf,hb];rfl⟩
theorem J3.there {K K':KS} (h:J3 K K') (hT:K.DF):K'.DF:=by
 intro b hb;rw[h.eq]at hb;obtain⟨r,hr⟩:=hT b hb;obtain⟨c,hc⟩:=h.get hr;exact⟨_,hc⟩
section
variable (m:Nat) (w:World)
def oq (K:KS) (w wr:World):Prop:=∃K1,AQ K1 wr/\J3 K K1/\Bw K.T K1.T w wr/\(∀b r,K1.ps b=some r->K.ps b=some r\/r.par<=1)
theorem U8 {K K1:KS} {w W:World} {b:Nat} {r:PR} (hr k:Nat) (BC:k<K.AJ.length) (hW:AQ K1 W) (FW:K1.ps b=some r) (hF:J3 K K1) (hv:Bw K.T K1.T w W) (WQ:∀b r,K1.ps b=some r->K.ps b=some r\/r.par<=1) (hhr:hr<=1):
  ∃j:Nat,Value.int .i64 ((k:Int)+1)=.int .i64 j/\j<=K.AJ.length/\oq K w (W.setCell (T_ b 1) (.int .i64 hr)):=by
 refine⟨k+1,by simp,by omega,K1.Cg b { r with par:=hr },hW.like (r':={ r with par:=hr }) FW ⟨rfl,rfl,rfl,rfl,rfl⟩ rfl (hW.ps b r FW).bl,hF.trans (J3.set FW hr),hv.trans (hW.C8 FW),fun x q hx=>?_⟩;have hx:Cu K1.ps b { r with par:=hr } x=some q:=hx;by_cases e:x=b
 ·subst e;rw[Al]at hx;cases hx;exact .inr hhr
 ·rw[BI e]at hx;exact WQ x q hx
theorem dN (K:KS) (h:AQ K w) (hT:K.DF) (hl:K.AJ.length<=100):CallsIn NF m prog 54 #[R_ K.kb,.int .i64 1] w fun e w'=>((∃b r,e=.returned (R_ b)/\K.ps b=some r/\w'.cell? (T_ b 2)=some (.bool r.en))\/e=.returned (.pointer none))/\Ab No w w':=by
 refine(Vw m w K 1 h hT hl).mono ?_;rintro e w' ⟨hK,v,rfl,⟨b,r,rfl,_,hb,_⟩|⟨rfl,_⟩⟩
 ·have q:=(h.no hK).FH hb 2;simp[PR.arr]at q;exact⟨.inl ⟨b,r,rfl,hb,q⟩,hK⟩
 ·exact⟨.inr rfl,hK⟩
theorem jY (K:KS) (pb:Nat) (p:PR) (h:AQ K w) (hT:K.DF) (hp:K.ps pb=some p) (hl:K.AJ.length<=100):
  CallsIn NF m prog 157 #[R_ K.kb,R_ pb] w fun e w'=>e=.returned (.tuple #[])/\oq K w w':=by
 have c:=fun m=>dN m w K h hT hl
 have q2:=h.xy;gi_enter func157,ntmps157;gi_wp2_with (gi_at_call 54;refine(c _).mono ?_;rintro e w1 ⟨⟨b1,r1,rfl,Jv,d1⟩|rfl,hK⟩<;>have q2:=hK.has q2<;>try (cases hn:r1.en<;>rw[hn]at d1))
 all_goals
  gi_loopw [24] (fun i wr=>∃(k:Nat),i=.int .i64 k/\k<=K.AJ.length/\oq K w wr) (fun i _=>K.AJ.length-(intOf i).toNat)
  case atStart=>exact⟨0,rfl,by omega,K,h.no hK,J3.refl K,Bw.no hK h.lt,fun _ _ h=>.inl h⟩
  case round=>
   obtain⟨k,rfl,hk,K1,h1,hF,hv,WQ⟩:=hrel
   have Zx:K1.AJ=K.AJ:=by rw[hF.eq]
   have epg:K1.pg=K.pg:=by rw[hF.eq]
   by_cases BC:k<K.AJ.length
   ·have hg:K.AJ[k]?=some K.AJ[k]:=HZ BC;generalize K.AJ[k]=b at hg;have hg1:K1.AJ[k]?=some b:=(by rw[Zx];exact hg);obtain⟨r,FW⟩:=AQ.mem (hF.there hT) hg1;obtain⟨pc,hp1⟩:=hF.get hp;have d0:=h1.Xd hg1;rw[epg]at d0;have d1:=h1.FH FW 1;have d2:=h1.FH hp1 0;simp only[ptr]at d0;simp[PR.arr]at d1 d2;gi_wp2;refine AA (P:=prog) No _ rfl rfl (by kernel_rfl) 8 42 [0,1,2,3,4,5,6,7] [] (by kernel_rfl) (by rfl) (fun _ _ _=>True) (fun _ _ _ _ _ h _=>h) _ _ rfl rfl ?_;gi_wp2;refine⟨rfl,by kernel_rfl,?_,(fun i hi=>absurd hi (by simp)),?_⟩
    ·intro W hK;have e1:=hK.has (w:=wr.drew) d1;have e2:=hK.has (w:=wr.drew) d2
     repeat' (refine Ao ?_ ?_)
     all_goals first|exact trivial|gi_wp2
    ·intro u W hK _;simp only[C9];have KW:Ab No wr W:=(Ab.refl No wr).drew.then hK;have e1:=KW.has d1;have hW:=h1.no KW;have f1:=hW.WA FW 1;by_cases hq:(r.par:Int)=p.pid
     ·have hq':((r.par:Int)==(p.pid:Int))=true:=(by simpa using hq);gi_wp2;go_roundw
      case rel=>
       first|exact U8 1 k BC hW FW hF (hv.then KW) WQ (by omega)|exact U8 0 k BC hW FW hF (hv.then KW) WQ (by omega)
      case measure=>simp[intOf];omega
     ·have hq':((r.par:Int)==(p.pid:Int))=false:=(by simpa using hq);gi_wp2;go_roundw
      case rel=>exact⟨k+1,by go_num,by omega,K1,hW,hF,hv.then KW,WQ⟩
      case measure=>simp[intOf];omega
   ·obtain rfl:k=K.AJ.length:=(by omega);gi_wp2;go_end0;exact⟨by simp,K1,h1,hF,hv,WQ⟩
end
theorem ym:J4 prog 100 119 (.pointer none) 1 8:=⟨underlying100,by kernel_rfl,by rfl,by decide,by intro x hx;simp[Value.cells]at hx;subst hx;rfl⟩
def UD (gn:Nat->Bool) (g:Nat) (w:World) (b:Nat):Prop:=b≠g/\∃(p:Nat) (e:Bool),w.cell? (T_ b 1)=some (.int .i64 p)/\w.cell? (T_ b 2)=some (.bool e)/\gn b=(e && p==0)
theorem UD.keep {gn:Nat->Bool} {g b:Nat} {w w':World} (h:UD gn g w b) (hK:Ab (At g) w w'):UD gn g w' b:=by
 obtain⟨h1,h⟩:=h;refine⟨h1,?_⟩;obtain⟨p,e,h2,h3,h4⟩:=h;exact⟨p,e,(hK.cell (World.block_lt_of_cell? _ _ h2) h1).trans h2,(hK.cell (World.block_lt_of_cell? _ _ h3) h1).trans h3,h4⟩
section
variable (m:Nat) (w:World)
theorem qP (g cap:Nat) (l:List Nat) (gn:Nat->Bool) (hR:Rw 119 1 w g l.length cap (Bf l)) (hc:∀b∈l,UD gn g w b) (hl:l.length<=100000):
  CallsIn NF m prog 238 #[.slice (some (S_ g)) l.length cap,.func (.func 213) #[] #[]] w fun e w'=>Ab No w w'/\((e=.returned (.int .i64 (-1))/\∀b∈l,gn b=false)\/∃k b,e=.returned (.int .i64 (k:Nat))/\l[k]?=some b/\gn b=true/\∀(j:Nat) b,j<k->l[j]?=some b->gn b=false):=by
 gi_enter func238,ntmps238;gi_wp2;gi_loopw [8] (fun i wr=>∃k:Nat,k<=l.length/\i=.int .i64 k/\Ab No w wr/\∀(j:Nat) b,j<k->l[j]?=some b->gn b=false) (fun i _=>l.length-(intOf i).toNat)
 case atStart=>exact⟨0,by omega,rfl,Ab.refl _ _,fun j b h=>absurd h (by omega)⟩
 case round=>
  obtain⟨k,hk,rfl,KK,rr⟩:=hrel
  by_cases BC:k<l.length
  ·have hg:l[k]?=some l[k]:=HZ BC;generalize l[k]=b at hg;have d0:wr.cell? (T_ g k)=some (R_ b):=(by rw[Rw.cell (hR.keep KK id) (by omega)];simp[Bf,hg,ptr]);obtain⟨_,hs⟩:=(hc b (List.mem_of_getElem? hg)).keep KK.no;obtain⟨p,e,d1,d2,hgn⟩:=hs;obtain⟨he,hp⟩|⟨he,hp⟩|he:(e=true/\((p:Int)==0)=true)\/(e=true/\((p:Int)==0)=false)\/e=false:=by cases e<;>simp[Decidable.em]
   all_goals
    subst he
    simp only[Bool.true_and,Bool.false_and]at hgn
    try (have hz:(p==0)=((p:Int)==0):=by(rw[Bool.eq_iff_iff];simp))
    try rw[hz,hp]at hgn
   ·gi_wp2_with gi_in;go_ret;exact⟨KK,.inr ⟨k,b,by simp,hg,hgn,rr⟩⟩
   all_goals
    gi_wp2_with gi_in
    go_roundw
    case rel=>
     refine⟨k+1,by omega,by go_num,KK,fun j q hj hq=>?_⟩
     by_cases e:j=k
     ·subst e;rw[hg]at hq;cases hq;exact hgn
     ·exact rr j q (by omega) hq
    case measure=>simp[intOf];omega
  ·obtain rfl:k=l.length:=(by omega);gi_wp2;go_ret;refine⟨KK,.inl ⟨by simp,fun b hb=>?_⟩⟩;obtain⟨i,hi⟩:=List.getElem?_of_mem hb;exact rr i b (KH.1 hi).1 hi
theorem kQ (g cap:Nat) (l:List Nat) (gn:Nat->Bool) (hR:Rw 119 1 w g l.length cap (Bf l)) (hc:∀b∈l,UD gn g w b) (hl:l.length<=100000):
  CallsIn NF m prog 212 #[.slice (some (S_ g)) l.length cap,.func (.func 213) #[] #[]] w fun e w'=>e=.returned (.slice (some (S_ g)) (l.filter fun b=>!gn b).length cap)/\Ab (At g) w w'/\Rw 119 1 w' g (l.filter fun b=>!gn b).length cap (Bf (l.filter fun b=>!gn b)):=by
 have c:=fun m=>qP m w g cap l gn hR hc hl
 gi_enter func212,ntmps212;gi_wp2_with (gi_at_call 238;refine(c _).mono ?_;rintro e w1 ⟨K1,⟨rfl,hn⟩|⟨k0,b0,rfl,hk0,hb0,zP⟩⟩<;>try (have f0:((k0:Int)==-1)=false:=(by simp);have hkl:=(KH.1 hk0).1))
 ·go_ret;have e:l.filter (fun b=>!gn b)=l:=List.filter_eq_self.2 fun b hb=>by simp[hn b hb]
  rw[e];exact⟨by simp,K1.no,hR.keep K1 id⟩
 ·gi_loopw [5,6] (fun a5 a6 wr=>∃(i j:Nat) (ys:U_),a5=.int .i64 i/\a6=.int .i64 j/\i<j/\j<=l.length/\Ab (At g) w wr/\Rw 119 1 wr g l.length cap ys/\i=((l.take j).filter fun b=>!gn b).length/\ys.take i=Bf ((l.take j).filter fun b=>!gn b)/\ys.drop j=Bf (l.drop j)) (fun _ a6 _=>l.length-(intOf a6).toNat)
  case atStart=>
   have e:(l.take (k0+1)).filter (fun b=>!gn b)=l.take k0:=by
    rw[List.take_add_one,hk0,List.filter_append]
    simp only[Option.toList_some,List.filter_cons,hb0,Bool.not_true,List.filter_nil]
    simp only[Bool.false_eq_true,if_false,List.append_nil]
    refine List.filter_eq_self.2 fun b hb=>?_
    obtain⟨j,hj⟩:=List.getElem?_of_mem hb
    rw[List.getElem?_take]at hj
    split at hj
    ·rename_i hjk;simp[zP j b hjk hj]
    ·cases hj
   refine⟨k0,k0+1,Bf l,rfl,by go_num,by omega,by omega,K1.no,hR.keep K1 id,?_,?_,?_⟩
   ·rw[e,List.length_take];omega
   ·rw[e];simp[Bf]
   ·simp[Bf]
  case round=>
   obtain⟨i,j,ys,rfl,rfl,hij,hjn,KK,hY,hi,ht,hd⟩:=hrel
   have hh:Nonempty (PLift (i=((l.take j).filter fun b=>!gn b).length)):=⟨⟨hi⟩⟩
   clear hi
   have hle:=hY.le
   have hyl:=hY.len
   by_cases BC:j<l.length
   ·have hg:l[j]?=some l[j]:=HZ BC;generalize l[j]=b at hg;have hyj:ys[j]?=some (ptr b):=by
     have:(ys.drop j)[0]?=some (ptr b):=by rw[hd];simp[Bf,hg]
     simpa using this
    have d0:wr.cell? (T_ g j)=some (R_ b):=(by rw[hY.cell (by omega),hyj];rfl);have tk:l.take (j+1)=l.take j++[b]:=(by rw[List.take_add_one,hg];rfl);have dk:ys.drop (j+1)=Bf (l.drop (j+1)):=by
     have:=congrArg (List.drop 1) hd
     simpa [Bf,List.drop_drop]using this
    have fz:=hY.fz i;have f6:(i:Int)<(l.length:Int):=(by omega);have ci:∃v,wr.cell? (T_ g i)=some v:=by
     rw[hY.cell (by omega)]
     exact⟨_,HZ (by omega)⟩
    obtain⟨vi,ci⟩:=ci;obtain⟨_,hs⟩:=(hc b (List.mem_of_getElem? hg)).keep KK;obtain⟨p,e,d1,d2,hgn⟩:=hs;obtain⟨he,hp⟩|⟨he,hp⟩|he:(e=true/\((p:Int)==0)=true)\/(e=true/\((p:Int)==0)=false)\/e=false:=by cases e<;>simp[Decidable.em]
    all_goals
     subst he
     simp only[Bool.true_and,Bool.false_and]at hgn
     try (have hz:(p==0)=((p:Int)==0):=by(rw[Bool.eq_iff_iff];simp))
     try rw[hz,hp]at hgn
    ·gi_wp2_with gi_in;go_roundw
     case rel=>
      refine⟨i,j+1,ys,rfl,by go_num,by omega,by omega,KK,hY,?_,?_,dk⟩
      ·obtain⟨⟨hi⟩⟩:=hh;rw[tk,List.filter_append];simp[hgn,<-hi]
      ·rw[tk,List.filter_append];simp[hgn,ht]
     case measure=>simp[intOf];omega
    all_goals
     gi_wp2_with gi_in
     go_roundw
     case rel=>
      refine⟨i+1,j+1,ys.set i (ptr b),by go_num,by go_num,by omega,by omega,KK.setCell _ fun _=>rfl,hY.set _ rfl,?_,?_,?_⟩
      ·obtain⟨⟨hi⟩⟩:=hh;rw[tk,List.filter_append];simp[hgn,<-hi]
      ·rw[tk,List.filter_append,List.take_add_one,List.take_set_of_le (Nat.le_refl i),ht,List.getElem?_set_self (by omega)];simp[hgn,Bf]
      ·rw[List.drop_set_of_lt (by omega)];exact dk
     case measure=>simp[intOf];omega
   ·obtain rfl:j=l.length:=(by omega);rw[List.take_length]at hh ht;obtain⟨⟨hi⟩⟩:=hh;have hcut:Rw 119 1 wr g i cap (Bf (l.filter fun b=>!gn b)):=by
     obtain⟨cur,a1,a2,a3⟩:=hY.blk
     refine⟨⟨cur,a1,a2,?_⟩,by omega,hY.max,by simp[Bf,<-hi],?_⟩
     ·rw[<-ht,<-a3,List.take_take];congr 1;omega
     ·intro x hx;rw[<-ht]at hx;exact hY.one x (List.mem_of_mem_take hx)
    have hh:Nonempty (PLift (i=(l.filter fun b=>!gn b).length)):=⟨⟨hi⟩⟩;clear hi;have f5:¬cap=i:=(by omega);obtain⟨w2,hcl,Fe,h2⟩:=MJ (c:=cap-i) (q:=l.length-i) (ty:=0) ym hcut (by omega);simp only[Nat.mul_one]at hcl;have f6:¬(l.length:Int)<(i:Int):=(by omega);gi_wp2;go_ret;obtain⟨⟨hi⟩⟩:=hh;rw[<-hi];exact⟨by simp,KK.then Fe,h2⟩
end
def UB (ps:Nat->Option PR) (b:Nat):Bool:=match ps b with|some r=>r.en && r.par==0|none=>false
def KS.Ru (K:KS):KS:={ K with AJ:=K.AJ.filter fun b=>!UB K.ps b }
section
variable (m:Nat) (w:World)
theorem iL (K:KS) (h:AQ K w) (hT:K.DF) (hl:K.AJ.length<=100):
  CallsIn NF m prog 158 #[R_ K.kb] w fun e w'=>e=.returned (.tuple #[])/\AQ K.Ru w'/\Bw K.T K.T w w':=by
 obtain⟨ks,hk,hC⟩:=h.k;have q2:=h.xy;have hc:∀b∈K.AJ,UD (UB K.ps) K.pg w b:=by
  intro b hb
  obtain⟨r,hr⟩:=hT b hb
  refine⟨fun e=>?_,r.par,r.en,?_,?_,?_⟩
  ·have:=(h.ps b r hr).t;rw[e,h.tp]at this;simp at this
  ·rw[h.FH hr];simp[PR.arr]
  ·rw[h.FH hr];simp[PR.arr]
  ·unfold UB;rw[hr]
 have c:=fun m=>kQ m w K.pg K.pc K.AJ (UB K.ps) h.pr hc (by omega)
 have BN:K.kb≠K.pg:=fun e=>by have:=h.tk;rw[e,h.tp]at this;simp at this
 gi_enter func158,ntmps158;gi_wp2_with (gi_at_call 212;refine(c _).mono ?_;rintro e w1 ⟨rfl,K1,R1⟩;have k1:=K1.old hk BN;have f2:=BF k1 2;have c2:=(Ag k1 2).trans hC.c2);go_end0;have M:Ct K.T K.T (fun t=>t=(1,0)\/t=(4,0)) (fun t=>t=(4,0)) w (w1.setCell (T_ K.kb 2) (.slice (some (S_ K.pg)) (K.AJ.filter fun b=>!UB K.ps b).length K.pc)):=Ct.of ((K1.on (by rintro k _ rfl;exact .inr h.tp)).setCell _ fun _=>.inl h.tk) h.lt;refine⟨by simp,h.R8 (BM:=K.BM) M hC (Aj k1 _) ?_ (R1.keep ((Ab.refl (At K.kb) _).setCell _ fun _=>rfl) BN.symm) h.tp,M.Qb (by rintro t (rfl|rfl)<;>simp)⟩;rw[MG hC.c3]
end
end Go.Fxa
