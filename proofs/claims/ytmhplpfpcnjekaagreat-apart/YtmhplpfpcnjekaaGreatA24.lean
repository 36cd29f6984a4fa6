/- Files and pipes: one block cha -/
import Derived.Test.YtmhplpfpcnjekaaGreatA21
namespace Go.Fxa
open Conc Proofs RowKit Proofs.Tryz
set_option maxRecDepth 1000000
set_option maxHeartbeats 0
structure Dk (T:Tag) (op:Nat->Nat) (w:World) (kb b:Nat):Prop where
 file:T b=(10,0)->∃v,w.heap[b]?=some (.cells #[v,.int .i64 (op b)] 191 (0,0))/\OP T w b 64 v
 pipe:T b=(11,0)->∃v x y,w.heap[b]?=some (.cells #[v,.bool x,.bool y] 329 (0,0))/\OP T w b 16 v
 Fs:∀f,T b=(12,f)->∃n:Nat,w.heap[b]?=some (.cells #[.pointer (some (T_ kb 4)),ptr f,.int .i64 n] 339 (0,0))/\T f=(10,0)/\n<=64
 rend:T b=(13,0)->∃p,w.heap[b]?=some (.cells #[ptr p] 333 (0,0))/\T p=(11,0)
 Oo:T b=(14,0)->∃p,w.heap[b]?=some (.cells #[ptr p] 335 (0,0))/\T p=(11,0)
theorem Uw.one {T:Tag} {op:Nat->Nat} {w:World} {kb:Nat} (h:Uw T op w kb) (b:Nat):Dk T op w kb b:=⟨h.file b,h.pipe b,h.Fs b,h.rend b,h.Oo b⟩
theorem Uw.of {T:Tag} {op:Nat->Nat} {w:World} {kb:Nat} (h:∀b,Dk T op w kb b):Uw T op w kb:=⟨fun b=>(h b).file,fun b=>(h b).pipe,fun b=>(h b).Fs,fun b=>(h b).rend,fun b=>(h b).Oo⟩
section
variable {T T':Tag} {op:Nat->Nat} {w w':World} {kb p:Nat}
theorem Dk.file' (ht:T p=(10,0)) {v:Value} (h1:w.heap[p]?=some (.cells #[v,.int .i64 (op p)] 191 (0,0))) (h2:OP T w p 64 v):Dk T op w kb p:=by
 refine⟨fun _=>⟨v,h1,h2⟩,fun e=>?_,fun d e=>?_,fun e=>?_,fun e=>?_⟩
 all_goals rw[ht]at e;simp at e
theorem Dk.QG (ht:T p=(11,0)) {v:Value} {x y:Bool} (h1:w.heap[p]?=some (.cells #[v,.bool x,.bool y] 329 (0,0))) (h2:OP T w p 16 v):Dk T op w kb p:=by
 refine⟨fun e=>?_,fun _=>⟨v,x,y,h1,h2⟩,fun d e=>?_,fun e=>?_,fun e=>?_⟩
 all_goals rw[ht]at e;simp at e
theorem Dk.GQ {f n:Nat} (ht:T p=(12,f)) (h1:w.heap[p]?=some (.cells #[.pointer (some (T_ kb 4)),ptr f,.int .i64 n] 339 (0,0))) (h2:T f=(10,0)) (h3:n<=64):Dk T op w kb p:=by
 refine⟨fun e=>?_,fun e=>?_,fun d e=>?_,fun e=>?_,fun e=>?_⟩
 rotate_left 2
 ·rw[ht]at e;obtain rfl:f=d:=by simpa using e
  exact⟨n,h1,h2,h3⟩
 all_goals rw[ht]at e;simp at e
theorem Dk.rend' (ht:T p=(13,0)) {q:Nat} (h1:w.heap[p]?=some (.cells #[ptr q] 333 (0,0))) (h2:T q=(11,0)):Dk T op w kb p:=by
 refine⟨fun e=>?_,fun e=>?_,fun d e=>?_,fun _=>⟨q,h1,h2⟩,fun e=>?_⟩
 all_goals rw[ht]at e;simp at e
theorem Dk.am0 (ht:T p=(14,0)) {q:Nat} (h1:w.heap[p]?=some (.cells #[ptr q] 335 (0,0))) (h2:T q=(11,0)):Dk T op w kb p:=by
 refine⟨fun e=>?_,fun e=>?_,fun d e=>?_,fun e=>?_,fun _=>⟨q,h1,h2⟩⟩
 all_goals rw[ht]at e;simp at e
theorem Dk.no (ht:(T p).1<10):Dk T op w kb p:=by
 refine⟨fun e=>?_,fun e=>?_,fun d e=>?_,fun e=>?_,fun e=>?_⟩
 all_goals rw[e]at ht;simp at ht
theorem Dk.keep {b:Nat} (h:Dk T op w kb b) {S:Nat->Prop} (hK:Ab S w w') (hb:¬S b) (hw:∀g,T g=(15,b)->¬S g):Dk T op w' kb b:=by
 have ws:∀{M v},OP T w b M v->OP T w' b M v:=fun h=>by
  rcases h with h|⟨g,c,ws,a1,a2,a3,a4,a5⟩
  ·exact .inl h
  ·exact .inr ⟨g,c,ws,a1,a2.keep hK (hw g a5),a3,a4,a5⟩
 refine⟨fun e=>?_,fun e=>?_,fun c e=>?_,fun e=>?_,fun e=>?_⟩
 ·obtain⟨x,a1,a2⟩:=h.file e;exact⟨x,hK.old a1 hb,ws a2⟩
 ·obtain⟨x,y,z,a1,a2⟩:=h.pipe e;exact⟨x,y,z,hK.old a1 hb,ws a2⟩
 ·obtain⟨n,a1,a2⟩:=h.Fs c e;exact⟨n,hK.old a1 hb,a2⟩
 ·obtain⟨x,a1,a2⟩:=h.rend e;exact⟨x,hK.old a1 hb,a2⟩
 ·obtain⟨x,a1,a2⟩:=h.Oo e;exact⟨x,hK.old a1 hb,a2⟩
theorem Uw.set {b0:Nat} (h:Uw T op w kb) {S:Nat->Prop} (hK:Ab S w w') (hS:∀k,S k->(k=b0/\(T k).1≠15)\/T k=(15,b0)) (h0:10<=(T b0).1) (h0':(T b0).1<15) (hp:Dk T op w' kb b0):Uw T op w' kb:=Uw.of fun b=>by
 by_cases e:b=b0
 ·subst e;exact hp
 ·by_cases hb:(T b).1<10\/(T b).1=15
  ·rcases hb with hb|hb
   ·exact Dk.no hb
   ·refine⟨fun e=>?_,fun e=>?_,fun c e=>?_,fun e=>?_,fun e=>?_⟩<;>rw[e]at hb<;>simp at hb
  ·refine(h.one b).keep hK (fun hs=>?_) (fun g hg hs=>?_)
   ·rcases hS b hs with⟨h1,_⟩|h1
    ·exact e h1
    ·exact hb (.inr (by rw[h1]))
   ·rcases hS g hs with⟨h1,h2⟩|h1
    ·exact h2 (by rw[hg])
    ·rw[hg]at h1;exact e (by simpa using h1)
theorem AQ.WU {K:KS} {b0:Nat} (h:AQ K w) {S:Nat->Prop} (hK:Ab S w w') (hS:∀k,S k->(k=b0/\(K.T k).1≠15)\/K.T k=(15,b0)) (h0:10<=(K.T b0).1) (h0':(K.T b0).1<15) (hp:Dk K.T K.op w' K.kb b0):AQ K w'/\Bw K.T K.T w w':=by
 obtain⟨ks,hk,hc⟩:=h.k;have hS':∀k,S k->10<=(K.T k).1:=fun k hk=>by
  rcases hS k hk with⟨rfl,_⟩|h1
  ·exact h0
  ·rw[h1];simp
 have M:Ct K.T K.T (fun t=>t=(1,0)\/t=(5,0)\/10<=t.1) (fun t=>t=(5,0)\/10<=t.1) w w':=Ct.of (hK.on fun k _ e=>.inr (.inr (hS' k e))) h.lt;have M':Ct K.T K.T (fun t=>10<=t.1) (fun t=>10<=t.1) w w':=Ct.of (hK.on fun k _ e=>hS' k e) h.lt;have hkp:¬S K.kb:=fun e=>by have:=hS' _ e;rw[h.tk]at this;simp at this
 refine⟨h.TP (ks':=ks) M (hK.old hk hkp) (hc.IY M' (by simp)) (h.fl.set hK hS h0 h0' hp),M.Qb ?_⟩;rintro t (rfl|rfl|h)<;>try simp
 rintro rfl;simp at h
theorem AQ.Ma {K:KS} (h:AQ K w) (hK:Ab (At p) w w') (ht:10<=(K.T p).1) (ht':(K.T p).1<15) (hp:Dk K.T K.op w' K.kb p):AQ K w'/\Bw K.T K.T w w':=
 h.WU hK (fun k e=>by subst e;exact .inl ⟨rfl,by omega⟩) ht ht' hp
theorem OP.set {b M:Nat} {v:Value} (h:OP T w b M v) {S:Nat->Prop} (hK:Ab S w w') (hw:∀g,T g=(15,b)->¬S g):OP T w' b M v:=by
 rcases h with h|⟨g,c,ws,a1,a2,a3,a4,a5⟩
 ·exact .inl h
 ·exact .inr ⟨g,c,ws,a1,a2.keep hK (hw g a5),a3,a4,a5⟩
end
theorem KC.ag2 {K:KS} {w w':World} {T':Tag} {Q N:Nat×Nat->Prop} {ks:X_} (h:KC K w ks) (M:Ct K.T T' Q N w w') {l:List Nat} {v:Value} (hv:jf T' w' l v):KC { K with nl:=l,T:=T' } w' (ks.setIfInBounds 20 v):=by
 obtain⟨_,a,_⟩:=h.nl;have hs:20<ks.size:=(Array.getElem?_eq_some_iff.1 a).1;refine⟨?_,?_,?_,?_,fun i hi=>?_,⟨v,by simp[hs],hv⟩,fun i hi=>?_⟩
 ·rw[FE (by omega)];exact h.c0
 ·rw[FE (by omega)];exact h.c1
 ·rw[FE (by omega)];exact h.c2
 ·rw[FE (by omega)];exact h.c3
 ·rw[FE (by omega)];exact⟨(h.nm i hi).1,fun b e=>M.tag ((h.nm i hi).2 b e) (by simp)⟩
 ·rw[FE (by omega),FE (by omega)];exact let ⟨v,a,b,c,d⟩:=h.en i hi;⟨v,a,b,c,fun e=>(d e).IY M⟩
section
variable (m:Nat) (w:World)
theorem jP (K:KS) (b:Nat) (h:AQ K w) (hb:K.T b=(13,0)):CallsIn NF m prog 269 #[R_ b] w fun e w'=>e=.returned (.tuple #[])/\AQ K w'/\Bw K.T K.T w w':=by
 obtain⟨p,h1,tp⟩:=h.fl.rend b hb;obtain⟨v,x,y,h2,hv⟩:=h.fl.pipe p tp;have d0:w.cell? (S_ b)=some (R_ p):=(Ag h1 0).trans rfl;have d1:w.cell? (T_ p 1)=some (.bool x):=(Ag h2 1).trans rfl;have f1:=BF h2 1;gi_enter func269,ntmps269;gi_wp2;go_end0;have:=h.Ma (p:=p) (w':=w.setCell (T_ p 1) (.bool false)) ((Ab.refl _ _).setCell _ fun _=>rfl) (by rw[tp];simp) (by rw[tp];simp) (Dk.QG (v:=v) (x:=false) (y:=y) tp (Aj h2 _) (hv.set (Ab.Kq (b:=p) (o:=1) (.bool false)) (fun g hg e=>by rw[show g=p from e,tp]at hg;simp at hg)));exact⟨by simp,this.1,this.2⟩
theorem jy (K:KS) (b:Nat) (h:AQ K w) (hb:K.T b=(14,0)):CallsIn NF m prog 276 #[R_ b] w fun e w'=>e=.returned (.tuple #[])/\AQ K w'/\Bw K.T K.T w w':=by
 obtain⟨p,h1,tp⟩:=h.fl.Oo b hb;obtain⟨v,x,y,h2,hv⟩:=h.fl.pipe p tp;have d0:w.cell? (S_ b)=some (R_ p):=(Ag h1 0).trans rfl;have d1:w.cell? (T_ p 2)=some (.bool y):=(Ag h2 2).trans rfl;have f1:=BF h2 2;gi_enter func276,ntmps276;gi_wp2;go_end0;have:=h.Ma (p:=p) (w':=w.setCell (T_ p 2) (.bool false)) ((Ab.refl _ _).setCell _ fun _=>rfl) (by rw[tp];simp) (by rw[tp];simp) (Dk.QG (v:=v) (x:=x) (y:=false) tp (Aj h2 _) (hv.set (Ab.Kq (b:=p) (o:=2) (.bool false)) (fun g hg e=>by rw[show g=p from e,tp]at hg;simp at hg)));exact⟨by simp,this.1,this.2⟩
end
theorem Xi:J4 prog 103 101 (.pointer none) 1 8:=⟨underlying103,by kernel_rfl,by rfl,by decide,by intro x hx;simp[Value.cells]at hx;subst hx;rfl⟩
def UE (gn:Nat->Bool) (g:Nat) (w:World) (b:Nat):Prop:=b≠g/\∃n:Int,w.cell? (T_ b 1)=some (.int .i64 n)/\gn b=(n==0)
theorem UE.keep {gn:Nat->Bool} {g b:Nat} {w w':World} (h:UE gn g w b) (hK:Ab (At g) w w'):UE gn g w' b:=by
 obtain⟨h1,h⟩:=h;refine⟨h1,?_⟩;obtain⟨n,h2,h3⟩:=h;exact⟨n,(hK.cell (World.block_lt_of_cell? _ _ h2) h1).trans h2,h3⟩
section
variable (m:Nat) (w:World)
theorem qO (g cap:Nat) (l:List Nat) (gn:Nat->Bool) (hR:Rw 101 1 w g l.length cap (Bf l)) (hc:∀b∈l,UE gn g w b) (hl:l.length<=100000):
  CallsIn NF m prog 248 #[.slice (some (S_ g)) l.length cap,.func (.func 246) #[] #[]] w fun e w'=>Ab No w w'/\((e=.returned (.int .i64 (-1))/\∀b∈l,gn b=false)\/∃k b,e=.returned (.int .i64 (k:Nat))/\l[k]?=some b/\gn b=true/\∀(j:Nat) b,j<k->l[j]?=some b->gn b=false):=by
 gi_enter func248,ntmps248;gi_wp2;gi_loopw [8] (fun i wr=>∃k:Nat,k<=l.length/\i=.int .i64 k/\Ab No w wr/\∀(j:Nat) b,j<k->l[j]?=some b->gn b=false) (fun i _=>l.length-(intOf i).toNat)
 case atStart=>exact⟨0,by omega,rfl,Ab.refl _ _,fun j b h=>absurd h (by omega)⟩
 case round=>
  obtain⟨k,hk,rfl,KK,rr⟩:=hrel
  by_cases BC:k<l.length
  ·have hg:l[k]?=some l[k]:=HZ BC;generalize l[k]=b at hg;have d0:wr.cell? (T_ g k)=some (R_ b):=(by rw[Rw.cell (hR.keep KK id) (by omega)];simp[Bf,hg,ptr]);obtain⟨_,hs⟩:=(hc b (List.mem_of_getElem? hg)).keep KK.no;obtain⟨n,d1,hgn⟩:=hs;obtain hp|hp:(n==0)=true\/(n==0)=false:=by cases n==0<;>simp
   all_goals rw[hp]at hgn
   ·gi_wp2_with gi_in;go_ret;exact⟨KK,.inr ⟨k,b,by simp,hg,hgn,rr⟩⟩
   all_goals
    gi_wp2_with gi_in
    go_roundw
    case rel=>
     refine⟨k+1,by omega,by go_num,KK,fun j q hj hq=>?_⟩
     by_cases e:j=k
     ·subst e;rw[hg]at hq;cases hq;exact hgn
     ·exact rr j q (by omega) hq
    case measure=>simp[intOf];omega
  ·obtain rfl:k=l.length:=(by omega);gi_wp2;go_ret;refine⟨KK,.inl ⟨by simp,fun b hb=>?_⟩⟩;obtain⟨i,hi⟩:=List.getElem?_of_mem hb;exact rr i b (KH.1 hi).1 hi
theorem kP (g cap:Nat) (l:List Nat) (gn:Nat->Bool) (hR:Rw 101 1 w g l.length cap (Bf l)) (hc:∀b∈l,UE gn g w b) (hl:l.length<=100000):
  CallsIn NF m prog 245 #[.slice (some (S_ g)) l.length cap,.func (.func 246) #[] #[]] w fun e w'=>e=.returned (.slice (some (S_ g)) (l.filter fun b=>!gn b).length cap)/\Ab (At g) w w'/\Rw 101 1 w' g (l.filter fun b=>!gn b).length cap (Bf (l.filter fun b=>!gn b)):=by
 have c:=fun m=>qO m w g cap l gn hR hc hl
 gi_enter func245,ntmps245;gi_wp2_with (gi_at_call 248;refine(c _).mono ?_;rintro e w1 ⟨K1,⟨rfl,hn⟩|⟨k0,b0,rfl,hk0,hb0,zP⟩⟩<;>try (have f0:((k0:Int)==-1)=false:=(by simp);have hkl:=(KH.1 hk0).1))
 ·go_ret;have e:l.filter (fun b=>!gn b)=l:=List.filter_eq_self.2 fun b hb=>by simp[hn b hb]
  rw[e];exact⟨by simp,K1.no,hR.keep K1 id⟩
 ·gi_loopw [5,6] (fun a5 a6 wr=>∃(i j:Nat) (ys:U_),a5=.int .i64 i/\a6=.int .i64 j/\i<j/\j<=l.length/\Ab (At g) w wr/\Rw 101 1 wr g l.length cap ys/\i=((l.take j).filter fun b=>!gn b).length/\ys.take i=Bf ((l.take j).filter fun b=>!gn b)/\ys.drop j=Bf (l.drop j)) (fun _ a6 _=>l.length-(intOf a6).toNat)
  case atStart=>
   have e:(l.take (k0+1)).filter (fun b=>!gn b)=l.take k0:=by
    rw[List.take_add_one,hk0,List.filter_append]
    simp only[Option.toList_some,List.filter_cons,hb0,Bool.not_true,List.filter_nil]
    simp only[Bool.false_eq_true,if_false,List.append_nil]
    refine List.filter_eq_self.2 fun b hb=>?_
    obtain⟨j,hj⟩:=List.getElem?_of_mem hb
    rw[List.getElem?_take]at hj
    split at hj
    ·rename_i hjk;simp[zP j b hjk hj]
    ·cases hj
   refine⟨k0,k0+1,Bf l,rfl,by go_num,by omega,by omega,K1.no,hR.keep K1 id,?_,?_,?_⟩
   ·rw[e,List.length_take];omega
   ·rw[e];simp[Bf]
   ·simp[Bf]
  case round=>
   obtain⟨i,j,ys,rfl,rfl,hij,hjn,KK,hY,hi,ht,hd⟩:=hrel
   have hh:Nonempty (PLift (i=((l.take j).filter fun b=>!gn b).length)):=⟨⟨hi⟩⟩
   clear hi
   have hle:=hY.le
   have hyl:=hY.len
   by_cases BC:j<l.length
   ·have hg:l[j]?=some l[j]:=HZ BC;generalize l[j]=b at hg;have hyj:ys[j]?=some (ptr b):=by
     have:(ys.drop j)[0]?=some (ptr b):=by rw[hd];simp[Bf,hg]
     simpa using this
    have d0:wr.cell? (T_ g j)=some (R_ b):=(by rw[hY.cell (by omega),hyj];rfl);have tk:l.take (j+1)=l.take j++[b]:=(by rw[List.take_add_one,hg];rfl);have dk:ys.drop (j+1)=Bf (l.drop (j+1)):=by
     have:=congrArg (List.drop 1) hd
     simpa [Bf,List.drop_drop]using this
    have fz:=hY.fz i;have f6:(i:Int)<(l.length:Int):=(by omega);have ci:∃v,wr.cell? (T_ g i)=some v:=by
     rw[hY.cell (by omega)]
     exact⟨_,HZ (by omega)⟩
    obtain⟨vi,ci⟩:=ci;obtain⟨_,hs⟩:=(hc b (List.mem_of_getElem? hg)).keep KK;obtain⟨n,d1,hgn⟩:=hs;obtain hp|hp:(n==0)=true\/(n==0)=false:=by cases n==0<;>simp
    all_goals rw[hp]at hgn
    ·gi_wp2_with gi_in;go_roundw
     case rel=>
      refine⟨i,j+1,ys,rfl,by go_num,by omega,by omega,KK,hY,?_,?_,dk⟩
      ·obtain⟨⟨hi⟩⟩:=hh;rw[tk,List.filter_append];simp[hgn,<-hi]
      ·rw[tk,List.filter_append];simp[hgn,ht]
     case measure=>simp[intOf];omega
    all_goals
     gi_wp2_with gi_in
     go_roundw
     case rel=>
      refine⟨i+1,j+1,ys.set i (ptr b),by go_num,by go_num,by omega,by omega,KK.setCell _ fun _=>rfl,hY.set _ rfl,?_,?_,?_⟩
      ·obtain⟨⟨hi⟩⟩:=hh;rw[tk,List.filter_append];simp[hgn,<-hi]
      ·rw[tk,List.filter_append,List.take_add_one,List.take_set_of_le (Nat.le_refl i),ht,List.getElem?_set_self (by omega)];simp[hgn,Bf]
      ·rw[List.drop_set_of_lt (by omega)];exact dk
     case measure=>simp[intOf];omega
   ·obtain rfl:j=l.length:=(by omega);rw[List.take_length]at hh ht;obtain⟨⟨hi⟩⟩:=hh;have hcut:Rw 101 1 wr g i cap (Bf (l.filter fun b=>!gn b)):=by
     obtain⟨cur,a1,a2,a3⟩:=hY.blk
     refine⟨⟨cur,a1,a2,?_⟩,by omega,hY.max,by simp[Bf,<-hi],?_⟩
     ·rw[<-ht,<-a3,List.take_take];congr 1;omega
     ·intro x hx;rw[<-ht]at hx;exact hY.one x (List.mem_of_mem_take hx)
    have hh:Nonempty (PLift (i=(l.filter fun b=>!gn b).length)):=⟨⟨hi⟩⟩;clear hi;have f5:¬cap=i:=(by omega);obtain⟨w2,hcl,Fe,h2⟩:=MJ (c:=cap-i) (q:=l.length-i) (ty:=0) Xi hcut (by omega);simp only[Nat.mul_one]at hcl;have f6:¬(l.length:Int)<(i:Int):=(by omega);gi_wp2;go_ret;obtain⟨⟨hi⟩⟩:=hh;rw[<-hi];exact⟨by simp,KK.then Fe,h2⟩
end
section
variable (m:Nat) (w:World)
theorem Wt:CallsIn NF m prog 248 #[.slice none 0 0,.func (.func 246) #[] #[]] w fun e w'=>e=.returned (.int .i64 (-1))/\w'=w:=by
 gi_enter func248,ntmps248;gi_wp2;refine wpIn_loop_once ?_;gi_wp2;go_ret;exact⟨by simp,rfl⟩
theorem Ur:CallsIn NF m prog 245 #[.slice none 0 0,.func (.func 246) #[] #[]] w fun e w'=>e=.returned (.slice none 0 0)/\w'=w:=by
 have c:=fun m=>Wt m w
 gi_enter func245,ntmps245;gi_wp2_with (gi_at_call 248;refine(c _).mono ?_;rintro e w1 ⟨rfl,rfl⟩);go_ret;exact⟨by simp,rfl⟩
theorem U9 (K:KS) (h:AQ K w) (hu:K.nl.length<=100000):CallsIn NF m prog 234 #[.pointer (some (T_ K.kb 4))] w fun e w'=>e=.returned (.tuple #[])/\AQ { K with nl:=K.nl.filter fun b=>!(K.op b==0) } w'/\Bw K.T K.T w w':=by
 obtain⟨ks,hk,hC⟩:=h.k;obtain⟨v,hv,hN,hb⟩:=hC.nl;have q:=(Ag hk 20).trans hv;have fz:=BF hk 20;rcases hN with⟨rfl,hl⟩|⟨g,cp,rfl,hR,tg⟩
 ·have c:=fun m=>Ur m w
  gi_enter func234,ntmps234;gi_wp2_with (gi_at_call 245;refine(c _).mono ?_;rintro e w1 ⟨rfl,rfl⟩);go_end0;have M:Ct K.T K.T (fun t=>t=(1,0)\/t=(5,0)\/10<=t.1) (fun t=>t=(5,0)\/10<=t.1) w1 (w1.setCell (T_ K.kb 20) (.slice none 0 0)):=Ct.of ((Ab.refl _ _).setCell _ fun _=>.inl h.tk) h.lt;have M':Ct K.T K.T (fun t=>t=(1,0)) (fun t=>t=(5,0)) w1 (w1.setCell (T_ K.kb 20) (.slice none 0 0)):=Ct.of ((Ab.refl _ _).setCell _ fun _=>h.tk) h.lt;exact⟨by simp,h.TP M (Aj hk _) ((hC.IY M' (by simp)).aw1 ⟨.inl ⟨rfl,by rw[hl];rfl⟩,by rw[hl];simp⟩) (h.fl.IY M' (by rintro t rfl;simp) (by rintro t rfl;simp)),M'.Qb (by rintro t rfl;simp)⟩
 ·have hc:∀b∈K.nl,UE (fun b=>K.op b==0) g w b:=by
   intro b hb'
   have tb:=hb b hb'
   obtain⟨x,h1,_⟩:=h.fl.file b tb
   refine⟨fun e=>(by rw[e,tg]at tb;simp at tb),K.op b,(Ag h1 1).trans rfl,?_⟩
   rw[Bool.eq_iff_iff];simp
  have c:=fun m=>kP m w g cp K.nl (fun b=>K.op b==0) hR hc (by omega)
  have BN:K.kb≠g:=fun e=>by have:=h.tk;rw[e,tg]at this;simp at this
  have hmem:∀b∈K.nl.filter (fun b=>!(K.op b==0)),K.T b=(10,0):=fun b hb'=>hb b (List.mem_filter.1 hb').1
  generalize K.nl.filter (fun b=>!(K.op b==0))=l' at c hmem;gi_enter func234,ntmps234;gi_wp2_with (gi_at_call 245;refine(c _).mono ?_;rintro e w1 ⟨rfl,K1,R1⟩;have k1:=K1.old hk BN;have f2:=BF k1 20;have c2:=(Ag k1 20).trans hv);go_end0;have M:Ct K.T K.T (fun t=>t=(1,0)\/t=(5,0)\/10<=t.1) (fun t=>t=(5,0)\/10<=t.1) w (w1.setCell (T_ K.kb 20) (.slice (some (S_ g)) l'.length cp)):=Ct.of ((K1.on (by rintro k _ rfl;exact .inr (.inl tg))).setCell _ fun _=>.inl h.tk) h.lt;have M':Ct K.T K.T (fun t=>t=(1,0)\/t=(5,0)) (fun t=>t=(5,0)) w (w1.setCell (T_ K.kb 20) (.slice (some (S_ g)) l'.length cp)):=Ct.of ((K1.on (by rintro k _ rfl;exact .inr tg)).setCell _ fun _=>.inl h.tk) h.lt;have R2:=R1.keep ((Ab.refl (At K.kb) w1).setCell (p:=(T_ K.kb 20)) (.slice (some (S_ g)) l'.length cp) fun _=>rfl) BN.symm;exact⟨by simp,h.TP M (Aj k1 _) (KC.ag2 hC M' ⟨.inr ⟨g,cp,rfl,R2,tg⟩,hmem⟩) (h.fl.IY M' (by rintro t (rfl|rfl)<;>simp) (by rintro t rfl;simp)),M'.Qb (by rintro t (rfl|rfl)<;>simp)⟩
theorem AQ.xU {K:KS} {w:World} {f n:Nat} (h:AQ K w) (hf:K.T f=(10,0)):AQ { K with op:=Az K.op f n } (w.setCell (T_ f 1) (.int .i64 n))/\Bw K.T K.T w (w.setCell (T_ f 1) (.int .i64 n)):=by
 obtain⟨ks,hk,hc⟩:=h.k;have hK:Ab (At f) w (w.setCell (T_ f 1) (.int .i64 n)):=(Ab.refl _ _).setCell _ fun _=>rfl
 have M:Ct K.T K.T (fun t=>t=(1,0)\/t=(5,0)\/10<=t.1) (fun t=>t=(5,0)\/10<=t.1) w (w.setCell (T_ f 1) (.int .i64 n)):=Ct.of (hK.on fun k _ e=>by subst e;exact .inr (.inr (by rw[hf];simp))) h.lt;have M':Ct K.T K.T (fun t=>t=(10,0)) (fun t=>t=(10,0)) w (w.setCell (T_ f 1) (.int .i64 n)):=Ct.of (hK.on fun k _ e=>by subst e;exact hf) h.lt;have hkf:K.kb≠f:=fun e=>by rw[<-e,h.tk]at hf;simp at hf
 refine⟨h.TP (ks':=ks) M (hK.old hk hkf) ((hc.IY M' (by simp)).op _) (Uw.of fun b=>?_),M'.Qb (by rintro t rfl;simp)⟩;have ho:=h.fl.one b;have hnw:∀b' g,K.T g=(15,b')->¬At f g:=fun b' g hg e=>by rw[show g=f from e,hf]at hg;simp at hg
 by_cases e:b=f
 ·subst e;obtain⟨v,h1,h2⟩:=ho.file hf;exact Dk.file' hf (by rw[Aj h1];simp[Az]) (h2.set hK (hnw b))
 ·have hb:=ho.keep hK e (hnw b);refine⟨fun t=>?_,hb.pipe,hb.Fs,hb.rend,hb.Oo⟩;simpa [Az,e]using hb.file t
theorem jX (K:KS) (b f:Nat) (h:AQ K w) (hb:K.T b=(12,f)) (hu:K.nl.length<=100000) (ho:1<=K.op f) (ho':K.op f<=100000):CallsIn NF m prog 280 #[R_ b] w fun e w'=>e=.returned (.tuple #[])/\AQ { K with op:=Az K.op f (K.op f-1),nl:=K.nl.filter fun k=>!(Az K.op f (K.op f-1) k==0) } w'/\Bw K.T K.T w w':=by
 obtain⟨n,h1,tf,_⟩:=h.fl.Fs b f hb;obtain⟨v,h2,hv⟩:=h.fl.file f tf;have d0:w.cell? (S_ b)=some (.pointer (some (T_ K.kb 4))):=(Ag h1 0).trans rfl;have d1:w.cell? (T_ b 1)=some (R_ f):=(Ag h1 1).trans rfl;have d2:w.cell? (T_ f 1)=some (.int .i64 (K.op f)):=(Ag h2 1).trans rfl;have f1:=BF h2 1;have BN:b≠f:=fun e=>by rw[e,tf]at hb;simp at hb
 have s1:=h.xU (n:=K.op f-1) tf;have ev:((K.op f-1:Nat):Int)=(K.op f:Int)-1:=by omega
 have c:=fun m=>U9 m _ _ s1.1 hu
 rw[ev]at c s1;simp only at c;gi_enter func280,ntmps280;gi_wp2_with (gi_at_call 234;refine(c _).mono ?_;rintro e w1 ⟨rfl,h3,M3⟩);go_end0;exact⟨by simp,h3,s1.2.trans M3⟩
end
section
variable {K:KS} {w:World} {i n:Nat} {v:Value} {o:Option Nat} {ks:X_}
theorem KC.mf (h:KC K w ks) (hi:i<20) (hd:0<K.desc i):KC { K with desc:=Az K.desc i n } w (ks.setIfInBounds (21+i*2+1) (.int .i64 n)):=by
 obtain⟨v,h1,h2,h3,h4⟩:=h.en i hi;have:=h.Zt (n:=n) (v:=v) (o:=K.ef i) hi h3 fun _=>h4 hd
 rw[MG h1]at this;have e:Az K.ef i (K.ef i)=K.ef:=by funext k;unfold Az;split;subst_vars;rfl;rfl
 rw[e]at this;exact this
theorem AQ.mf (h:AQ K w) (hi:i<20) (hd:0<K.desc i):AQ { K with desc:=Az K.desc i n } (w.setCell (T_ K.kb (21+i*2+1)) (.int .i64 n))/\Bw K.T K.T w (w.setCell (T_ K.kb (21+i*2+1)) (.int .i64 n)):=by
 obtain⟨ks,hk,hc⟩:=h.k;have hK:Ab (At K.kb) w (w.setCell (T_ K.kb (21+i*2+1)) (.int .i64 n)):=(Ab.refl _ _).setCell _ fun _=>rfl
 have M:Ct K.T K.T (fun t=>t=(1,0)\/t=(5,0)\/10<=t.1) (fun t=>t=(5,0)\/10<=t.1) w (w.setCell (T_ K.kb (21+i*2+1)) (.int .i64 n)):=Ct.of (hK.on fun k _ e=>by subst e;exact .inl h.tk) h.lt;have M':Ct K.T K.T (fun t=>t=(1,0)) (fun t=>t=(1,0)) w (w.setCell (T_ K.kb (21+i*2+1)) (.int .i64 n)):=Ct.of (hK.on fun k _ e=>by subst e;exact h.tk) h.lt;exact⟨h.TP M (Aj hk _) ((hc.IY M' (by simp)).mf hi hd) (h.fl.IY M' (by rintro t rfl;simp) (by rintro t rfl;simp)),M'.Qb (by rintro t rfl;simp)⟩
theorem AQ.Zt (h:AQ K w) (hi:i<20) (h1:v.oneCell'=true) (hv:0<n->KP K.T v o) {w':World} (hK:Ab (At K.kb) w w') (hk':∀ks,w.heap[K.kb]?=some (.cells ks 114 (0,0))->w'.heap[K.kb]?=some (.cells ((ks.setIfInBounds (21+i*2) v).setIfInBounds (21+i*2+1) (.int .i64 n)) 114 (0,0))):AQ { K with desc:=Az K.desc i n,ef:=Az K.ef i o } w'/\Bw K.T K.T w w':=by
 obtain⟨ks,hk,hc⟩:=h.k;have M:Ct K.T K.T (fun t=>t=(1,0)\/t=(5,0)\/10<=t.1) (fun t=>t=(5,0)\/10<=t.1) w w':=Ct.of (hK.on fun k _ e=>by subst e;exact .inl h.tk) h.lt;have M':Ct K.T K.T (fun t=>t=(1,0)) (fun t=>t=(1,0)) w w':=Ct.of (hK.on fun k _ e=>by subst e;exact h.tk) h.lt;exact⟨h.TP M (hk' ks hk) ((hc.IY M' (by simp)).Zt hi h1 hv) (h.fl.IY M' (by rintro t rfl;simp) (by rintro t rfl;simp)),M'.Qb (by rintro t rfl;simp)⟩
theorem AQ.iZ (h:AQ K w) (hi:i<20):∃v,w.cell? (T_ K.kb (21+i*2))=some v/\w.cell? (T_ K.kb (21+i*2+1))=some (.int .i64 (K.desc i))/\v.oneCell'=true/\(0<K.desc i->KP K.T v (K.ef i)):=by
 obtain⟨ks,hk,hc⟩:=h.k;obtain⟨v,h1,h2,h3,h4⟩:=hc.en i hi;exact⟨v,(Ag hk _).trans h1,(Ag hk _).trans h2,h3,h4⟩
theorem AQ.lK (h:AQ K w) (j:Nat):w.frozen? (T_ K.kb j)=false:=let ⟨_,hk,_⟩:=h.k;BF hk j
end
theorem KP.shape {T:Tag} {v:Value} {o:Option Nat} (h:KP T v o):∃t b,v=.iface t (R_ b):=by
 obtain⟨b,⟨h,_⟩|⟨h,_⟩|⟨h,_⟩⟩:=h
 all_goals exact⟨_,b,h⟩
section
variable (m:Nat) (w:World)
theorem bf3 (K:KS) (i:Nat) (h:AQ K w) (hi:i<20) (hd:0<K.desc i):
  CallsIn NF m prog 203 #[.pointer (some (T_ K.kb 21)),.int .i64 (i:Nat)] w fun e w'=>Ab No w w'/\∃v,e=.returned v/\KP K.T v (K.ef i):=by
 obtain⟨v,h1,h2,h3,h4⟩:=h.iZ hi;have f1:(i:Int)<20:=by omega
 gi_enter func203,ntmps203;gi_wp2;go_ret;exact⟨Ab.refl _ _,v,by simp,h4 hd⟩
theorem Xv (K:KS) (i:Nat) (h:AQ K w) (hi:i<20) (hd:0<K.desc i) (Ih:K.desc i<=1000):
  CallsIn NF m prog 193 #[.pointer (some (T_ K.kb 21)),.int .i64 (i:Nat)] w fun e w'=>e=.returned (.tuple #[])/\AQ { K with desc:=Az K.desc i (K.desc i+1) } w'/\Bw K.T K.T w w':=by
 obtain⟨v,h1,h2,h3,h4⟩:=h.iZ hi;have f1:(i:Int)<20:=by omega
 gi_enter func193,ntmps193;gi_wp2;refine AA (P:=prog) No _ rfl rfl (by kernel_rfl) 10 16 [0,1,2,3,4,5,6,7,8,9] [] (by kernel_rfl) (by rfl) (fun _ _ _=>True) (fun _ _ _ _ _ h _=>h) _ _ rfl rfl ?_;gi_wp2;refine⟨rfl,by kernel_rfl,?_,(fun i hi=>absurd hi (by simp)),?_⟩
 ·intro W hK;have d2:=hK.has (w:=w.drew) h2
  repeat' (refine Ao ?_ ?_)
  all_goals first|exact trivial|gi_wp2
 ·intro u W hK _;simp only[C9];have KW:Ab No w W:=(Ab.refl No w).drew.then hK;have hW:=h.no KW;have d2:=KW.has h2;have fz:=hW.lK (21+i*2+1);gi_wp2;go_end0;have:=hW.mf (n:=K.desc i+1) hi hd;push_cast at this;exact⟨by simp,this.1,(Bw.no KW h.lt).trans this.2⟩
theorem RX (K:KS) (v:Value) (o:Option Nat) (h:AQ K w) (hv:KP K.T v o) (hr:∃i,i<20/\K.desc i=0):
  CallsIn NF m prog 201 #[.pointer (some (T_ K.kb 21)),v] w fun e w'=>∃i,i<20/\K.desc i=0/\e=.returned (.int .i64 (i:Nat))/\AQ { K with desc:=Az K.desc i 1,ef:=Az K.ef i o } w'/\Bw K.T K.T w w':=by
 obtain⟨z,hz,hz0⟩:=hr;obtain⟨t,b,rfl⟩:=hv.shape;gi_enter func201,ntmps201;gi_wp2;gi_loopw [5] (fun i wr=>∃k:Nat,k<=z/\i=.int .i64 k/\Ab No w wr) (fun i _=>z-(intOf i).toNat)
 case atStart=>exact⟨0,by omega,rfl,Ab.refl _ _⟩
 case round=>
  obtain⟨k,hkz,rfl,KK⟩:=hrel
  have hr:=h.no KK
  obtain⟨u,d1,d2,d3,d4⟩:=hr.iZ (i:=k) (by omega)
  have f1:(k:Int)<20:=by omega
  by_cases hd:K.desc k=0
  ·have f2:¬(0:Int)<(K.desc k:Int):=(by omega);have fz0:=hr.lK (21+k*2);have fz1:=hr.lK (21+k*2+1);gi_wp2;go_ret;have:=hr.Zt (i:=k) (n:=1) (v:=.iface t (R_ b)) (o:=o) (by omega) rfl (fun _=>hv) (w':=(wr.setCell (T_ K.kb (21+k*2)) (.iface t (R_ b))).setCell (T_ K.kb (21+k*2+1)) (.int .i64 1)) (Ab.setCell (Ab.setCell (Ab.refl (At K.kb) wr) _ (p:=(T_ K.kb (21+k*2))) fun _=>rfl) _ (p:=(T_ K.kb (21+k*2+1))) fun _=>rfl) (fun ks' Zv=>Aj (Aj Zv _) _);exact⟨k,by omega,hd,by simp,this.1,(Bw.no KK h.lt).trans this.2⟩
  ·have f2:(0:Int)<(K.desc k:Int):=(by omega);have:k≠z:=(by rintro rfl;exact hd hz0);gi_wp2;go_roundw
   case rel=>exact⟨k+1,by omega,by go_num,KK⟩
   case measure=>simp[intOf];omega
end
def WM (n:Int):Bool:=n==-1
def EA (l:List Int):Nat:=(l.filter WM).length
def GH (d:Nat->Nat) (k:Nat):Nat:=((List.range k).filter fun i=>d i==0).length
theorem Yw {l:List Int} {k:Nat} {n:Int} (h:l[k]?=some n):EA (l.take (k+1))=EA (l.take k)+(if WM n then 1 else 0):=by
 unfold EA;rw[List.take_add_one,h,List.filter_append,List.length_append];cases h':WM n<;>simp[h']
theorem jK (l:List Int):EA l<=l.length:=List.length_filter_le _ _
theorem SL {l:List Int} (h:1<=EA l):∃i:Nat,l[i]?=some (-1):=by
 unfold EA at h;obtain⟨x,hx⟩:=List.exists_mem_of_length_pos (l:=l.filter WM) (by omega);obtain⟨h1,h2⟩:=List.mem_filter.1 hx;obtain⟨i,hi⟩:=List.getElem?_of_mem h1;exact⟨i,by rw[hi];simp[WM]at h2;rw[h2]⟩
theorem bR {d:Nat->Nat} {k:Nat}:GH d (k+1)=GH d k+(if d k==0 then 1 else 0):=by
 unfold GH;rw[List.range_succ,List.filter_append,List.length_append];cases h:d k==0<;>simp[h]
theorem Nu {d:Nat->Nat} (h:1<=GH d 20):∃i,i<20/\d i=0:=by
 unfold GH at h;obtain⟨x,hx⟩:=List.exists_mem_of_length_pos (l:=(List.range 20).filter fun i=>d i==0) (by omega);obtain⟨h1,h2⟩:=List.mem_filter.1 hx;exact⟨x,List.mem_range.1 h1,by simpa using h2⟩
theorem qh (d:Nat->Nat) (k:Nat):GH d k<=k:=by
 unfold GH;have:=List.length_filter_le (fun i=>d i==0) (List.range k);simpa using this
theorem AQ.WH {K:KS} {w:World} {b:Nat} {r:PR} (h:AQ K w) (hb:K.ps b=some r) (hn:r.en=false):∃g c,w.cell? (T_ b 9)=some (.slice (some (S_ g)) r.fds.length c)/\Rw 3 1 w g r.fds.length c (Ep r.fds)/\K.T g=(8,b)/\r.fd=.slice (some (S_ g)) r.fds.length c:=by
 obtain⟨g,c,h1,h2,h3⟩:=(h.ps b r hb).fd hn;exact⟨g,c,by rw[h.FH hb];simp[PR.arr,h1],h2,h3,h1⟩
theorem Rw.JH {w:World} {g n c:Nat} {l:List Int} (h:Rw 3 1 w g n c (Ep l)) (hn:n=l.length) {i:Nat} {x:Int} (hi:l[i]?=some x):w.cell? (T_ g i)=some (.int .i64 x):=by
 have:=(KH.1 hi).1;rw[h.cell (by omega)];simp[Ep,hi]
theorem AQ.xV {K:KS} {w:World} {b g c i:Nat} {r:PR} {x:Int} (h:AQ K w) (hb:K.ps b=some r) (hn:r.en=false) (h1:r.fd=.slice (some (S_ g)) r.fds.length c) (h2:Rw 3 1 w g r.fds.length c (Ep r.fds)) (h3:K.T g=(8,b)):AQ (K.Cg b { r with fds:=r.fds.set i x }) (w.setCell (T_ g i) (.int .i64 x))/\Bw K.T K.T w (w.setCell (T_ g i) (.int .i64 x)):=by
 have hK:Ab (At g) w (w.setCell (T_ g i) (.int .i64 x)):=(Ab.refl _ _).setCell _ fun _=>rfl
 have M:Ct K.T K.T (fun t=>t=(6,b)\/t=(7,b)\/t=(8,b)\/t=(9,b)) (fun t=>t=(6,b)\/t=(7,b)\/t=(8,b)\/t=(9,b)) w (w.setCell (T_ g i) (.int .i64 x)):=Ct.of (hK.on fun k _ e=>by subst e;exact .inr (.inr (.inl h3))) h.lt;have hp:=h.ps b r hb;have K8:Ab (On K.T fun t=>t=(8,b)) w (w.setCell (T_ g i) (.int .i64 x)):=hK.on fun k _ e=>by subst e;exact h3
 refine⟨h.WJ M ⟨hp.t,hK.old hp.o (fun e=>?_),fun e=>?_,fun _=>?_,hp.bl.keep K8 (by simp),fun e=>absurd e (by simp[hn])⟩,M.Qb (by rintro t (rfl|rfl|rfl|rfl)<;>simp)⟩
 ·have:=hp.t;rw[show b=g from e,h3]at this;simp at this
 ·obtain⟨g',c',a1,a2,a3⟩:=hp.im e;exact⟨g',c',a1,a2.keep K8 (by unfold On;rw[a3];simp),a3⟩
 ·have:=h2.set (i:=i) (.int .i64 x) rfl;refine⟨g,c,by rw[h1];simp,?_,h3⟩;simpa [Ep,List.map_set]using this
section
variable (m:Nat) (w:World)
theorem RU (K:KS) (b fd:Nat) (r:PR) (h:AQ K w) (hb:K.ps b=some r) (hn:r.en=false) (hf:fd<65536):
  CallsIn NF m prog 202 #[R_ b,.int .u16 (fd:Nat)] w fun e w'=>Ab No w w'/\∃x:Bool,e=.returned (.bool x)/\(x=true->∃n:Int,r.fds[fd]?=some n/\n≠-1):=by
 obtain⟨g,c,q9,hR,_,_⟩:=h.WH hb hn;by_cases BC:fd<r.fds.length
 ·have f1:(fd:Int)<(r.fds.length:Int):=by omega
  have hg:r.fds[fd]?=some r.fds[fd]:=HZ BC;generalize r.fds[fd]=n at hg;have d:=hR.JH rfl hg;obtain hp|hp:(n !=-1)=true\/(n !=-1)=false:=by cases n !=-1<;>simp
  ·gi_enter func202,ntmps202;gi_wp2;go_ret;exact⟨Ab.refl _ _,true,by simp,fun _=>⟨n,hg,by simpa using hp⟩⟩
  ·obtain rfl:n=-1:=(by simpa using hp);gi_enter func202,ntmps202;gi_wp2;go_ret;exact⟨Ab.refl _ _,false,by simp,fun e=>by cases e⟩
 ·have f1:¬(fd:Int)<(r.fds.length:Int):=by omega
  gi_enter func202,ntmps202;gi_wp2;go_ret;exact⟨Ab.refl _ _,by simp⟩
theorem Xu (K:KS) (b:Nat) (r:PR) (h:AQ K w) (hb:K.ps b=some r) (hn:r.en=false) (hl:r.fds.length<=1000):
  CallsIn NF m prog 204 #[R_ b] w fun e w'=>Ab No w w'/\e=.returned (.int .i64 (EA r.fds)):=by
 obtain⟨g,c,q9,hR,_,_⟩:=h.WH hb hn;gi_enter func204,ntmps204;gi_wp2;gi_loopw [3,11] (fun a i wr=>∃k:Nat,k<=r.fds.length/\a=.int .i64 (EA (r.fds.take k))/\i=.int .i64 k/\Ab No w wr) (fun _ i _=>r.fds.length-(intOf i).toNat)
 case atStart=>exact⟨0,by omega,rfl,rfl,Ab.refl _ _⟩
 case round=>
  obtain⟨k,hk,rfl,rfl,KK⟩:=hrel
  have hle:=jK (r.fds.take k)
  have hle2:(r.fds.take k).length<=k:=List.length_take_le _ _
  by_cases BC:k<r.fds.length
  ·have hg:r.fds[k]?=some r.fds[k]:=HZ BC;generalize r.fds[k]=n at hg;have d:=(hR.keep KK id).JH rfl hg;have ht:=Yw hg;generalize EA (r.fds.take k)=s at ht hle;generalize FD:EA (r.fds.take (k+1))=s' at ht;obtain hp|hp:(n==-1)=true\/(n==-1)=false:=by cases n==-1<;>simp
   ·simp only[WM,hp,if_true]at ht;gi_wp2;go_roundw
    case rel=>exact⟨k+1,by omega,by rw[FD,ht];go_num,by go_num,KK⟩
    case measure=>simp[intOf];omega
   ·simp only[WM,hp]at ht;gi_wp2;go_roundw
    case rel=>exact⟨k+1,by omega,by rw[FD,ht];go_num,by go_num,KK⟩
    case measure=>simp[intOf];omega
  ·obtain rfl:k=r.fds.length:=(by omega);gi_wp2;go_ret;exact⟨KK,by simp⟩
theorem qQ (g c:Nat) (l:List Int) (hR:Rw 3 1 w g l.length c (Ep l)) (hs:∃i:Nat,l[i]?=some (-1)) (hl:l.length<=1000):
  CallsIn NF m prog 232 #[.slice (some (S_ g)) l.length c,.int .i64 (-1)] w fun e w'=>Ab No w w'/\∃i:Nat,e=.returned (.int .i64 i)/\l[i]?=some (-1):=by
 obtain⟨z,hz⟩:=hs;have hzl:=(KH.1 hz).1;gi_enter func232,ntmps232;gi_wp2;gi_loopw [8] (fun i wr=>∃k:Nat,k<=z/\i=.int .i64 k/\Ab No w wr) (fun i _=>z-(intOf i).toNat)
 case atStart=>exact⟨0,by omega,rfl,Ab.refl _ _⟩
 case round=>
  obtain⟨k,hk,rfl,KK⟩:=hrel
  have BC:k<l.length:=by omega
  have hg:l[k]?=some l[k]:=HZ BC
  generalize l[k]=n at hg
  have d:=(hR.keep KK id).JH rfl hg
  by_cases hp:n=-1
  ·subst hp;gi_wp2;go_ret;exact⟨KK,k,by simp,hg⟩
  ·have hp':(-1==n)=false:=(by simpa using(fun e=>hp e.symm:¬-1=n));have:k≠z:=(by rintro rfl;rw[hg]at hz;exact hp (by simpa using hz));gi_wp2;go_roundw
   case rel=>exact⟨k+1,by omega,by go_num,KK⟩
   case measure=>simp[intOf];omega
theorem Nk (K:KS) (b:Nat) (x:Int) (r:PR) (h:AQ K w) (hb:K.ps b=some r) (hn:r.en=false) (hl:r.fds.length<=1000) (hs:1<=EA r.fds):
  CallsIn NF m prog 200 #[R_ b,.int .i64 x] w fun e w'=>∃i:Nat,r.fds[i]?=some (-1)/\e=.returned (.int .i64 i)/\AQ (K.Cg b { r with fds:=r.fds.set i x }) w'/\Bw K.T K.T w w':=by
 obtain⟨g,c,q9,hR,tg,Zn⟩:=h.WH hb hn;have ci:=fun m=>qQ m w g c r.fds hR (SL hs) hl
 gi_enter func200,ntmps200;gi_wp2_with (gi_at_call 232;refine(ci _).mono ?_;rintro e w1 ⟨K1,i,rfl,hi⟩;have q9:=K1.has q9;have Gl:=(KH.1 hi).1;have f1:(i:Int)<(r.fds.length:Int):=(by omega);have d:=(hR.keep K1 id).JH rfl hi;have fz:=(hR.keep K1 id).fz i);go_ret;have:=(h.no K1).xV (i:=i) (x:=x) hb hn Zn (hR.keep K1 id) tg;exact⟨i,hi,by simp,this.1,(Bw.no K1 h.lt).trans this.2⟩
theorem vz {K:KS} {w:World} (h:AQ K w):∃es:X_,(Instr.loadAt 110 (.pointer (some (T_ K.kb 21)))).run prog w=.ok (.agg es) w/\∀i,i<20->∃v,v.oneCell'=true/\∀w,(Instr.index 110 (.agg es) (.int .i64 (i:Nat))).run prog w=.ok (.agg #[v,.int .i64 (K.desc i)]) w:=by
 obtain⟨ks,hk,hc⟩:=h.k;have hs:60<ks.size:=by
  obtain⟨_,_,h,_⟩:=hc.en 19 (by omega)
  exact(Array.getElem?_eq_some_iff.1 h).1
 have hll:((ks.toList.drop 21).take 40).length=40:=by simp;omega
 have hl:=run_loadCells_list (P:=prog) w (T_ K.kb 21) ((ks.toList.drop 21).take 40) (fun j v hv=>by
  have JA:((T_ K.kb 21):Addr).add j=(T_ K.kb (21+j)):=by unfold Addr.add;split<;>simp_all
  rw[JA,Ag hk]
  rw[List.getElem?_take]at hv
  split at hv
  ·simpa using hv
  ·cases hv)
 rw[hll]at hl;have a1:∀w,(isAgg 110).run prog w=.ok true w:=fun w=>by kernel_rfl
 have a2:∀w,(sizeOf 110).run prog w=.ok 40 w:=fun w=>by kernel_rfl
 have b1:∀w,(isAgg 109).run prog w=.ok true w:=fun w=>by kernel_rfl
 have b2:∀w,(sizeOf 109).run prog w=.ok 2 w:=fun w=>by kernel_rfl
 refine⟨((ks.toList.drop 21).take 40).toArray,by simp[Instr.loadAt,loadVar,Instr.sureAddr,a1,a2,hl],fun i hi=>?_⟩;obtain⟨v,h1,h2,h3,_⟩:=hc.en i hi;refine⟨v,h3,fun w=>?_⟩;have e:((ks.toList.drop 21).take 40).toArray.extract (i*2) (i*2+2)=#[v,.int .i64 (K.desc i)]:=by
  apply Array.ext_getElem?
  intro j
  rw[Array.getElem?_extract]
  simp only[List.size_toArray,hll,List.getElem?_toArray,List.getElem?_take,List.getElem?_drop,Array.getElem?_toList]
  have hm:min (i*2+2) 40-i*2=2:=by omega
  rw[hm]
  match j with
  | 0=>simp;exact⟨by omega,h1⟩
  | 1=>simp;exact⟨by omega,h2⟩
  | j+2=>rw[if_neg (by omega)];simp
 have eu:∀w:World,(asIntOf (.int .i64 (i:Nat))).run prog w=.ok (.i64,(i:Int)) w:=fun _=>rfl
 have hu:∀w,(underlying 110).run prog w=.ok (.array 20 109) w:=run_underlying underlying110;generalize ((ks.toList.drop 21).take 40).toArray=es at e;have FZ:(i:Int)<20:=by omega
 simp[Instr.index,eu,hu,part,b1,b2,e,FZ]
theorem jI {w:World} {rb:Nat} {a b v u:Value} (h:w.heap[rb]?=some (.cells #[a,b] 109 (0,0))) (hv:v.oneCell'=true) (hu:u.oneCell'=true):∃w',(Instr.storeAt 109 (R_ rb) (.agg #[v,u])).run prog w=.ok () w'/\Ab (At rb) w w'/\w'.heap[rb]?=some (.cells #[v,u] 109 (0,0)):=by
 have e:(Instr.storeAt 109 (R_ rb) (.agg #[v,u])).run prog w=(stores rb 0 [v,u] (.pure ())).run prog w:=by kernel_rfl
 obtain⟨w',h1,h2,h3⟩:=Hr (P:=prog) (k:=Sem.pure ()) [v,u] 0 _ w h (by simp) (by simp[hv,hu]);refine⟨w',?_,h2,?_⟩
 ·rw[e,h1];rfl
 ·rw[h3];simp[RD]
theorem uG (K:KS) (h:AQ K w):
  CallsIn NF m prog 231 #[.pointer (some (T_ K.kb 21))] w fun e w'=>Ab No w w'/\e=.returned (.int .i64 (GH K.desc 20)):=by
 obtain⟨es,hld,hix⟩:=vz h;gi_enter func231,ntmps231;gi_wp2_with (refine U4 rfl (.tmp 8) 110 rfl rfl hld ?_);gi_loopw [3,10] (fun a i wr=>∃k:Nat,k<=20/\a=.int .i64 (GH K.desc k)/\i=.int .i64 k/\Ab No w wr) (fun _ i _=>20-(intOf i).toNat)
 case atStart=>exact⟨0,by omega,rfl,rfl,Ab.refl _ _⟩
 case round=>
  obtain⟨k,hk,rfl,rfl,KK⟩:=hrel
  have hle:=qh K.desc k
  by_cases BC:k<20
  ·have hlt':(k:Int)<20:=(by omega);obtain⟨v,hv1,hv⟩:=hix k BC;have hv:=hv wr;have hal:(wr.alloc (.cells #[.nilIface,.int .i64 0] 109)).heap[wr.heap.size]?=some (.cells #[.nilIface,.int .i64 0] 109 (0,0)):=heap_alloc_new rfl;obtain⟨w4,BH,K4,b4⟩:=jI (v:=v) (u:=.int .i64 (K.desc k)) hal hv1 rfl;have K5:Ab No w w4:=(KK.alloc _).trans K4 fun x hx e=>absurd hx (by rw[show x=wr.heap.size from e];have:=KK.size;omega)
   have c5:w4.cell? (T_ wr.heap.size 1)=some (.int .i64 (K.desc k)):=(Ag b4 1).trans rfl;have ht:=bR (d:=K.desc) (k:=k);generalize GH K.desc k=s at ht hle;generalize FD:GH K.desc (k+1)=s' at ht;obtain hp|hp:((K.desc k:Int)==0)=true\/((K.desc k:Int)==0)=false:=by cases (K.desc k:Int)==0<;>simp
   ·have ht:s'=s+1:=(by simpa [show K.desc k=0 by simpa using hp]using ht);gi_wp2_with (first|refine Rn rfl (.tmp 9) (.tmp 10) 110 rfl rfl rfl hv ?_|refine Ae rfl (.tmp 5) (.tmp 12) 109 rfl rfl rfl BH ?_);go_roundw
    case rel=>exact⟨k+1,by omega,by rw[FD,ht];go_num,by go_num,K5⟩
    case measure=>simp[intOf];omega
   ·have ht:s'=s:=(by simpa [show ¬K.desc k=0 by simpa using hp]using ht);gi_wp2_with (first|refine Rn rfl (.tmp 9) (.tmp 10) 110 rfl rfl rfl hv ?_|refine Ae rfl (.tmp 5) (.tmp 12) 109 rfl rfl rfl BH ?_);go_roundw
    case rel=>exact⟨k+1,by omega,by rw[FD,ht],by go_num,K5⟩
    case measure=>simp[intOf];omega
  ·obtain rfl:k=20:=(by omega);gi_wp2;go_ret;exact⟨KK,by simp⟩
end
def KS.drop (K:KS) (i:Nat):KS:=
 if K.desc i=1 then match K.ef i with
  | some f=>{ K with desc:=Az K.desc i 0,ef:=Az K.ef i none,op:=Az K.op f (K.op f-1),nl:=K.nl.filter fun k=>!(Az K.op f (K.op f-1) k==0) }
  | none=>{ K with desc:=Az K.desc i 0,ef:=Az K.ef i none }
 else { K with desc:=Az K.desc i (K.desc i-1) }
theorem R4 {α:Type} {f:Nat->α} {i:Nat} {a b:α}:Az (Az f i a) i b=Az f i b:=by funext k;unfold Az;split<;>rfl
theorem ve (b:Nat):∀w:World,(method 468 337 (.pointer (some ⟨b,0,none⟩)) "ferry/files.close").run prog w=.ok (280,.pointer (some ⟨b,0,none⟩)) w:=fun w=>by kernel_rfl
theorem vk (b:Nat):∀w:World,(method 468 330 (.pointer (some ⟨b,0,none⟩)) "ferry/files.close").run prog w=.ok (269,.pointer (some ⟨b,0,none⟩)) w:=fun w=>by kernel_rfl
theorem vg (b:Nat):∀w:World,(method 468 334 (.pointer (some ⟨b,0,none⟩)) "ferry/files.close").run prog w=.ok (276,.pointer (some ⟨b,0,none⟩)) w:=fun w=>by kernel_rfl
section
variable (m:Nat) (w:World)
theorem iE (K:KS) (i:Nat) (h:AQ K w) (hi:i<20) (hd:0<K.desc i) (Ih:K.desc i<=1000) (hu:K.nl.length<=100000) (ho:∀f,K.ef i=some f->1<=K.op f/\K.op f<=100000):
  CallsIn NF m prog 155 #[.pointer (some (T_ K.kb 21)),.int .i64 (i:Nat)] w fun e w'=>e=.returned (.tuple #[])/\AQ (K.drop i) w'/\Bw K.T K.T w w':=by
 obtain⟨v,h1,h2,h3,h4⟩:=h.iZ hi;have hv:=h4 hd;have f1:(i:Int)<20:=by omega
 have fz:=h.lK (21+i*2+1);by_cases hd1:K.desc i=1
 ·have s1:=h.mf (n:=0) hi hd;simp only[Int.natCast_zero]at s1;obtain⟨b,⟨rfl,f,tb,hef⟩|⟨rfl,tb,hef⟩|⟨rfl,tb,hef⟩⟩:=hv
  ·have c:=fun m=>jX m _ _ b f s1.1 tb hu (ho f hef).1 (ho f hef).2
   have hm:=ve b;simp only[ptr]at h1;gi_enter func155,ntmps155;gi_wp2_with (gi_at_call 280;refine(c _).mono ?_;rintro e w2 ⟨rfl,h5,M5⟩;obtain⟨v5,c0,c1,_⟩:=h5.iZ hi;have g0:=h5.lK (21+i*2);have g1:=h5.lK (21+i*2+1));go_end0;unfold KS.drop;rw[if_pos hd1,hef];have s6:=h5.Zt (i:=i) (n:=0) (v:=.nilIface) (o:=none) hi rfl (fun h=>absurd h (by omega)) (w':=(w2.setCell (T_ K.kb (21+i*2)) .nilIface).setCell (T_ K.kb (21+i*2+1)) (.int .i64 0)) (Ab.setCell (Ab.setCell (Ab.refl (At K.kb) w2) _ (p:=(T_ K.kb (21+i*2))) fun _=>rfl) _ (p:=(T_ K.kb (21+i*2+1))) fun _=>rfl) (fun ks' Zv=>Aj (Aj Zv _) _);rw[R4]at s6;exact⟨by simp,s6.1,(s1.2.trans M5).trans s6.2⟩
  ·have c:=fun m=>jP m _ _ b s1.1 tb
   have hm:=vk b;simp only[ptr]at h1;gi_enter func155,ntmps155;gi_wp2_with (gi_at_call 269;refine(c _).mono ?_;rintro e w2 ⟨rfl,h5,M5⟩;obtain⟨v5,c0,c1,_⟩:=h5.iZ hi;have g0:=h5.lK (21+i*2);have g1:=h5.lK (21+i*2+1));go_end0;unfold KS.drop;rw[if_pos hd1,hef];have s6:=h5.Zt (i:=i) (n:=0) (v:=.nilIface) (o:=none) hi rfl (fun h=>absurd h (by omega)) (w':=(w2.setCell (T_ K.kb (21+i*2)) .nilIface).setCell (T_ K.kb (21+i*2+1)) (.int .i64 0)) (Ab.setCell (Ab.setCell (Ab.refl (At K.kb) w2) _ (p:=(T_ K.kb (21+i*2))) fun _=>rfl) _ (p:=(T_ K.kb (21+i*2+1))) fun _=>rfl) (fun ks' Zv=>Aj (Aj Zv _) _);rw[R4]at s6;exact⟨by simp,s6.1,(s1.2.trans M5).trans s6.2⟩
  ·have c:=fun m=>jy m _ _ b s1.1 tb
   have hm:=vg b;simp only[ptr]at h1;gi_enter func155,ntmps155;gi_wp2_with (gi_at_call 276;refine(c _).mono ?_;rintro e w2 ⟨rfl,h5,M5⟩;obtain⟨v5,c0,c1,_⟩:=h5.iZ hi;have g0:=h5.lK (21+i*2);have g1:=h5.lK (21+i*2+1));go_end0;unfold KS.drop;rw[if_pos hd1,hef];have s6:=h5.Zt (i:=i) (n:=0) (v:=.nilIface) (o:=none) hi rfl (fun h=>absurd h (by omega)) (w':=(w2.setCell (T_ K.kb (21+i*2)) .nilIface).setCell (T_ K.kb (21+i*2+1)) (.int .i64 0)) (Ab.setCell (Ab.setCell (Ab.refl (At K.kb) w2) _ (p:=(T_ K.kb (21+i*2))) fun _=>rfl) _ (p:=(T_ K.kb (21+i*2+1))) fun _=>rfl) (fun ks' Zv=>Aj (Aj Zv _) _);rw[R4]at s6;exact⟨by simp,s6.1,(s1.2.trans M5).trans s6.2⟩
 ·have s1:=h.mf (n:=K.desc i-1) hi hd;have ev:((K.desc i-1:Nat):Int)=(K.desc i:Int)-1:=by omega
  rw[ev]at s1;have f2:((K.desc i:Int)-1==0)=false:=by simp;omega
  gi_enter func155,ntmps155;gi_wp2;go_end0;unfold KS.drop;rw[if_neg hd1];exact⟨by simp,s1.1,s1.2⟩
theorem Sq (K:KS) (b n:Nat) (r:PR) (h:AQ K w) (hb:K.ps b=some r) (hn:r.en=false) (hl:r.fds.length<=1000):
  CallsIn NF m prog 198 #[R_ K.kb,R_ b,.int .i64 (n:Nat)] w fun e w'=>((e=.returned (.int .u16 0)/\n<=EA r.fds/\n<=GH K.desc 20)\/∃x:Nat,e=.returned (.int .u16 x)/\((x:Int) !=0)=true/\x<65536)/\Ab No w w':=by
 have c1:=fun m=>Xu m w K b r h hb hn hl
 have c2:=fun m w1 (hK:Ab No w w1)=>uG m w1 K (h.no hK)
 generalize hs:EA r.fds=s at c1;generalize ht:GH K.desc 20=t at c2;gi_enter func198,ntmps198;by_cases h1:s<n
 ·have f1:(s:Int)<n:=by omega
  gi_wp2_with (gi_at_call 204;refine(c1 _).mono ?_;rintro e w1 ⟨K1,rfl⟩);go_ret;exact⟨.inr ⟨7,by simp,by decide,by omega⟩,K1⟩
 ·have f1:¬(s:Int)<n:=by omega
  by_cases h2:t<n
  ·have f2:(t:Int)<n:=(by omega);gi_wp2_with (first|(gi_at_call 204;refine(c1 _).mono ?_;rintro e w1 ⟨K1,rfl⟩)|(gi_at_call 231;refine(c2 _ _ K1).mono ?_;rintro e w2 ⟨K2,rfl⟩));go_ret;exact⟨.inr ⟨8,by simp,by decide,by omega⟩,K1.then K2⟩
  ·have f2:¬(t:Int)<n:=(by omega);gi_wp2_with (first|(gi_at_call 204;refine(c1 _).mono ?_;rintro e w1 ⟨K1,rfl⟩)|(gi_at_call 231;refine(c2 _ _ K1).mono ?_;rintro e w2 ⟨K2,rfl⟩));go_ret;exact⟨.inl ⟨by simp,by omega,by omega⟩,K1.then K2⟩
end
end Go.Fxa
