/- A kernel whose one process tel -/
import Derived.Test.YtmhplpfpcnjekaaGreatA28
import Derived.Test.YtmhplpfpcnjekaaGreatA42
import Derived.ProofKit
import Derived.ChangeStays
open Go.Proofs.Tryz
namespace Go.Fxa
open Go.Conc Go.Proofs Go.RowKit
set_option maxRecDepth 1000000
set_option maxHeartbeats 0
theorem zG:(prog.funcs[13]?).any (·.norace)=false:=by kernel_rfl
theorem au:Ff prog 13=Tryz.f13.body.getD .skip:=by kernel_rfl
def bq (P:Program) (i:Nat):Code:=piece (behind i (Ff P 13))
def bX (P:Program) (i:Nat):Code:=behind i (Ff P 13)
theorem vW:(bq prog 1).A9 (BS prog)=true:=by kernel_rfl
theorem vV:(bq prog 2).A9 (BS prog)=true:=by kernel_rfl
theorem wo:(bX prog 4).A9 (BS prog)=true:=by kernel_rfl
theorem wu:bX prog 2=(bq prog 2).seq (bX prog 3):=by kernel_rfl
section
variable (kp told er:Value) (cs:Z_) (f:Y_) (c0:Frame)
def bA (P:Program:=prog):Frame×Z_:=run P 5 (Frame.enter P 13 #[] .normal,cs)
theorem bd7:Av prog 5 (Frame.enter prog 13 #[] .normal,cs)=some []:=by kernel_rfl
theorem bd6:Ch (bA cs)=(13,[.code (bq prog 1),.code (bX prog 2)],[],.run,.normal,none,cs):=by kernel_rfl
theorem bd5:(bA cs).1.tmps.size=63:=by kernel_rfl
def bB (P:Program:=prog):Frame×Z_:=(Frame.mk 13 (TN 63 (AR f [(1,kp)])) [.code (bX P 3)] [] .run .normal none,cs)
theorem bd4:Av prog 4 (bB kp cs f)=some []:=by kernel_rfl
def bC (P:Program:=prog):Frame:=(below (run P 4 (bB kp cs f P))).1
theorem bd3:run prog 4 (bB kp cs f)=(Frame.enter prog 19 #[kp,.int .i64 1,.int .i64 1] .normal,bC kp cs f::cs):=by kernel_rfl
def bD (P:Program:=prog):Frame×Z_:=run P 6 ((bC kp cs f P).finish (.tuple #[told,er]),cs)
theorem bd2:Av prog 6 ((bC kp cs f).finish (.tuple #[told,er]),cs)=some []:=by kernel_rfl
theorem bd1:Ch (bD kp told er cs f)=(13,[.code (bX prog 4)],[],.run,.normal,none,cs):=by kernel_rfl
theorem bd0:slotsOf (bD kp told er cs f) [1,3,4]=[kp,told,er]:=by kernel_rfl
theorem bc9:(bD kp told er cs f).1.tmps.size=63:=by kernel_rfl
theorem bc8 (b:Bool) (todo:List Item):Av prog 1 (Frame.mk 13 (TN 63 (AR f [(0,.bool b)])) todo [] .returning .normal none,c0::cs)=some []:=by kernel_rfl
theorem bc7 (b:Bool) (todo:List Item):run prog 1 (Frame.mk 13 (TN 63 (AR f [(0,.bool b)])) todo [] .returning .normal none,c0::cs)=(c0.finish (.bool b),cs):=by kernel_rfl
end
def bf2 (w:World) (tm:X_) (w':World):Prop:=Ab No w w'/\∃K C M g,tm=TN 63 (AR g [(1,ptr K.kb)])/\tm=TN 63 (AR g [(1,ptr K.kb),(2,.int .i64 0)])/\AQ K w'/\DZ C M K/\Beg K 1 1/\∀k,K.T k≠(0,0)->w.heap.size<=k
def fQ (i:Nat):Int:=if i=0 then 11 else 12
def jg (f:Y_) (a b c d e:Value):X_:=#[a,b,c,d,e,f 5,f 6,f 7,f 8,f 9,f 10,f 11,f 12,f 13,f 14,f 15,f 16,f 17,f 18,f 19,f 20,f 21,f 22,f 23,f 24,f 25,f 26,f 27,f 28,f 29,f 30,f 31,f 32,f 33,f 34,f 35,f 36,f 37,f 38,f 39,f 40,f 41,f 42,f 43,f 44,f 45,f 46,f 47,f 48,f 49,f 50,f 51,f 52,f 53,f 54,f 55,f 56,f 57,f 58,f 59,f 60,f 61,f 62]
theorem aw4:(WL 2 (8*Ap 2) fun i=>(fQ i).toNat)=[11,12,0,0,0,0,0,0]:=by decide
section
variable (m:Nat) (w:World) (f:Y_)
theorem af5 {g:Nat}:(Instr.build 25 #[(0,.int .i64 16),(1,.int .i64 20),(2,.slice (some (S_ g)) 2 2)]).run prog w=.ok (.agg #[.int .i64 16,.int .i64 20,.slice (some (S_ g)) 2 2,.slice none 0 0]) w:=by kernel_rfl
theorem vZ:(bq prog 1).wpIn NF m prog (Ends (bf2 w)) ⟨TN 63 (AR f []),[]⟩ w:=by
 unfold bq;rw[au];dsimp only[Tryz.f13,Option.getD,behind,piece];show Code.wpIn (Fence.list LF none) m prog _ _ ⟨jg f (f 0) (f 1) (f 2) (f 3) (f 4),[]⟩ _;unfold jg;have K1:Ab No w (w.alloc (.cells #[.int .i64 11,.int .i64 12] 3)):=(Ab.refl _ _).alloc _;have b1:(w.alloc (.cells #[.int .i64 11,.int .i64 12] 3)).heap[w.heap.size]?=some (.cells #[.int .i64 11,.int .i64 12] 3 (0,0)):=heap_alloc_new rfl;have hP:Zp (w.alloc (.cells #[.int .i64 11,.int .i64 12] 3)) (.slice (some (S_ w.heap.size)) 2 2) 2 fQ:=⟨⟨_,_,rfl⟩,fun _=>⟨by omega,_,_,rfl,fun _=>⟨_,_,rfl,fun i hi=>by
  have:i=0\/i=1:=by omega
  rcases this with rfl|rfl<;>rw[Ag b1]<;>rfl⟩⟩⟩;have hF:Qc (w.alloc (.cells #[.int .i64 11,.int .i64 12] 3)) (.slice none 0 0) 0 (fun _=>(.slice none 0 0,0,fun _=>0)):=⟨_,_,rfl,fun h=>absurd h (by omega)⟩;gi_wp2_with fail;refine(xY _ (w.alloc (.cells #[.int .i64 11,.int .i64 12] 3)) 16 20 _ _ 2 0 fQ _ hP hF).mono ?_;rintro e w1 ⟨K2,⟨_,hno⟩|⟨K,b,ib,fb,C,M,rfl,ka,ok,hp,hb,ht⟩⟩
 ·exact(hno rfl ⟨by omega,⟨by omega,by omega,fun i hi=>by unfold fQ;split<;>omega⟩,by unfold Ap;omega⟩).elim
 ·rw[aw4]at hb;unfold ptr;gi_wp2;exact⟨rfl,rfl,K1.then K2,K,C,M,_,CU rfl (by simp[ptr]),CU rfl (by simp[ptr]),ka,ok,⟨rfl,rfl,b,_,hp,hb,rfl,rfl,rfl,rfl,rfl⟩,fun k hk=>Nat.le_trans K1.size (ht k hk)⟩
theorem wm (kb:Nat):(bq prog 2).wpIn NF m prog (Ends fun tm w'=>(∃g,tm=TN 63 (AR g [(1,ptr kb)]))/\Ab No w w') ⟨TN 63 (AR f [(1,ptr kb),(2,.int .i64 0)]),[]⟩ w:=by
 unfold bq;rw[au];dsimp only[Tryz.f13,Option.getD,behind,piece];show Code.wpIn (Fence.list LF none) m prog _ _ ⟨jg f (f 0) (ptr kb) (.int .i64 0) (f 3) (f 4),[]⟩ _;unfold jg ptr;gi_wp2;exact⟨rfl,rfl,⟨_,CU rfl (by simp)⟩,Ab.refl _ _⟩
theorem bi1:(binOp .eql 59 (.agg #[.int .i64 1,.int .i64 12,.int .i64 1,.int .i64 0]) (.agg #[.int .i64 1,.int .i64 12,.int .i64 1,.int .i64 0])).run prog w=.ok (.bool true) w:=by kernel_rfl
theorem aq9:(Instr.build 59 #[(0,.int .i64 1),(1,.int .i64 12),(2,.int .i64 1)]).run prog w=.ok (.agg #[.int .i64 1,.int .i64 12,.int .i64 1,.int .i64 0]) w:=by kernel_rfl
theorem wh (NC NS:Nat) (K:KS) (told:Value) (b:Nat) (r:PR) (h:AQ K w) (ok:DZ NC NS K) (ht:w.ownsRow 0 59 4 told 1 (Q5 [(1,12,1,0)])) (hm:b∈K.AJ) (hb:K.ps b=some r) (hA:r.A=1) (hP:r.P=2) (hi:r.Ah.length=8) (NQ:r.pid=1):
  (bX prog 4).wpIn NF m prog (Rx fun tm w'=>(∃g,tm=TN 63 (AR g [(0,.bool true)]))/\Ab No w w') ⟨TN 63 (AR f [(1,ptr K.kb),(3,told),(4,.int .i64 0)]),[]⟩ w:=by
 obtain⟨k,hg⟩:=List.mem_iff_getElem?.1 hm;have hlk:=fun m=>(ZV m w NC NS K r.pid h ok).mono fun e w2 h=>VN ok hg hb h
 rw[NQ]at hlk;obtain⟨tg,tc,hv⟩:∃g c,told=.slice (some (S_ g)) 1 c:=by
  rcases ht.2 with⟨_,e⟩|⟨g,cap,cur,e,_⟩
  ·omega
  ·exact⟨g,cap,e⟩
 subst hv;have t0:w.cell? (S_ tg)=some (.int .i64 1):=ht.cellAt 0 (by omega);have t1:w.cell? (T_ tg 1)=some (.int .i64 12):=ht.cellAt 1 (by omega);have t2:w.cell? (T_ tg 2)=some (.int .i64 1):=ht.cellAt 2 (by omega);have t3:w.cell? (T_ tg 3)=some (.int .i64 0):=ht.cellAt 3 (by omega);unfold bX;rw[au];dsimp only[Tryz.f13,Option.getD,behind];show Code.wpIn (Fence.list LF none) m prog _ _ ⟨jg f (f 0) (ptr K.kb) (f 2) (.slice (some (S_ tg)) 1 tc) (.int .i64 0),[]⟩ _;unfold jg ptr;gi_upto_region 6 with(first|(gi_at_call 20;refine(hlk _).mono ?_;rintro e w2 ⟨K2,st,a7,n7,c7,a8,n8,c8,rfl,hS,i7,i8⟩;obtain⟨w3,WN,K3,b3⟩:=Gg (w:=w2.alloc (.cells EO 48)) (rb:=w2.heap.size) (a:=r.pid) (b:=r.par) (c:=st) (d:=r.A) (e:=r.B) (f:=r.P) (g:=r.st) (n7:=n7) (c7:=c7) (n8:=n8) (c8:=c8) (a7:=a7) (a8:=a8) (heap_alloc_new rfl))|refine Ae rfl (.tmp 5) (.tmp 27) 48 rfl rfl rfl WN ?_);have KA:Ab No w2 w3:=((Ab.refl No w2).alloc (.cells EO 48)).trans K3 (fun x hx e=>absurd (show x=w2.heap.size from e) (by omega));have n8':n7=8:=by
  obtain⟨s,c,e,_⟩:=i7
  cases e
  simp[ints,hi]
 subst n8';have K23:=K2.then KA;have d0:=K23.has t0;have d1:=K23.has t1;have d2:=K23.has t2;have d3:=K23.has t3;have g3:w3.cell? (T_ w2.heap.size 3)=some (.int .i64 1):=by rw[Ag b3];simp[F4,hA]
 have g5:w3.cell? (T_ w2.heap.size 5)=some (.int .i64 2):=by rw[Ag b3];simp[F4,hP]
 have g7:w3.cell? (T_ w2.heap.size 7)=some (.slice a7 8 c7):=bce b3 rfl;clear hA hP hi NQ WN b3 K3 i7 i8 hS;gi_wp2;exact⟨rfl,rfl,⟨_,CU rfl (by simp)⟩,K23⟩
end
theorem Bw.low {T T':Tag} {v0 v v':World} (M:Bw T T' v v') (h0:Ab No v0 v) (ht:∀k,T k≠(0,0)->v0.heap.size<=k):Ab No v0 v'/\∀k,T' k≠(0,0)->v0.heap.size<=k:=by
 refine⟨h0.trans M.keep (fun k hk e=>absurd (ht k e) (by omega)),fun k hk=>?_⟩;by_cases e:k<v.heap.size
 ·exact ht k (by rw[<-Ct.fresh M k e];exact hk)
 ·exact Nat.le_trans h0.size (by omega)
theorem eY {Od:Old} {v:World} {c0:Frame} {cs:Z_} {R:Frame×Z_->World->Prop} (hk:∀v',Ab No v v'->Goes Od prog (c0.finish (.bool true),cs) v' R):Goes Od prog (Frame.enter prog 13 #[] .normal,c0::cs) v R:=by
 refine Goes.Av (bd7 _) ?_;rw[show run prog 5 (Frame.enter prog 13 #[] .normal,c0::cs)=bA (c0::cs)from rfl,at_toldM (l:=[]) (bd6 _) rfl (bd5 _)];refine Goes.part (m:=0) zG rfl vW (fun v1 _=>vZ 0 v1 _) fun v1 tm v2 K1 ⟨K2,K,C,M,g,_,e,ka,ok,hB,ht⟩=>?_
 subst e;rw[wu];refine Goes.seq (Goes.part (m:=0) zG rfl vV (fun v1 _=>wm 0 v1 _ _) fun v3 tm v4 K3 ⟨⟨g4,e⟩,K4⟩=>?_);subst e;have k4:=K3.then K4;refine Goes.Av (x:=bB (ptr K.kb) (c0::cs) g4) (bd4 _ _ _) ?_;rw[bd3];refine Qq (bg:=true) (ka.no k4) ok (fun _=>hB) fun told e v5 K' hP=>?_
 obtain⟨rfl,hrow,b,r,hm,hb,hA,hPP,hi,NQ,_⟩:=hP.bg rfl;have hkb:K'.kb=K.kb:=by
  rcases hP.rel with e|⟨_,_,_,_,_,hR⟩
  ·rw[e]
  ·exact hR.kb
 refine Goes.Av (bd2 _ _ _ _ _) ?_;rw[show run prog 6 ((bC (ptr K.kb) (c0::cs) g4).finish (.tuple #[told,.int .i64 0]),c0::cs)=bD (ptr K.kb) told (.int .i64 0) (c0::cs) g4 from rfl,at_toldM (l:=[(1,ptr K.kb),(3,told),(4,.int .i64 0)]) (bd1 _ _ _ _ _) (bd0 _ _ _ _ _) (bc9 _ _ _ _ _),<-hkb];refine Goes.mg (m:=0) zG rfl wo (fun v6 K6=>wh 0 v6 _ C M K' told b r (hP.ka.no K6) hP.ok (O5 hrow K6) hm hb hA hPP hi NQ) fun v6 tm todo v7 K6 ⟨⟨g7,e⟩,K7⟩=>?_
 subst e;refine Goes.Av (bc8 _ _ _ _ _) ?_;rw[bc7];refine hk v7 ?_;have h4:Ab No v v4:=(K1.then K2).then k4;have h5:=(hP.mv.low h4 (fun k hk=>Nat.le_trans K1.size (ht k hk))).1;exact h5.then (K6.then K7)
theorem iV:(prog.funcs[5]?).any (·.norace)=false:=by kernel_rfl
theorem KM:Ff prog 5=Tryz.f5.body.getD .skip:=by kernel_rfl
def aq (P:Program) (i:Nat):Code:=piece (behind i (Ff P 5))
def aX (P:Program) (i:Nat):Code:=behind i (Ff P 5)
def aL (P:Program:=prog):Code:=match aq P 5 with | .seq _ (.block _ (.loop b))=>b|_=>.skip
def aI (P:Program:=prog):Code:=match aL P with | .seq _ (.seq (.block _ c) _)=>c|_=>.skip
def aW (P:Program:=prog):Code:=match aI P with | .seq _ (.seq _ (.seq _ c))=>c|_=>.skip
def aZ (P:Program:=prog):Code:=match aI P with | .seq _ (.seq _ (.seq c _))=>c|_=>.skip
theorem ae2:(aW prog).A9 (BS prog)=true:=by kernel_rfl
theorem ae1:(aZ prog).A9 (BS prog)=true:=by kernel_rfl
def QF (f:Y_) (a b c d e:Value):X_:=#[f 0,a,f 2,f 3,f 4,f 5,b,f 7,c,d,e,f 11,f 12,f 13,f 14,f 15,f 16,f 17,f 18,f 19,f 20,f 21,f 22,f 23,f 24,f 25,f 26,f 27,f 28,f 29,f 30,f 31,f 32,f 33,f 34,f 35,f 36,f 37,f 38,f 39,f 40,f 41,f 42,f 43,f 44,f 45,f 46,f 47,f 48,f 49,f 50,f 51,f 52,f 53,f 54,f 55,f 56,f 57,f 58,f 59,f 60,f 61,f 62,f 63,f 64,f 65,f 66,f 67,f 68,f 69,f 70,f 71,f 72,f 73,f 74,f 75,f 76,f 77,f 78,f 79,f 80,f 81,f 82,f 83,f 84,f 85,f 86,f 87,f 88,f 89,f 90,f 91,f 92,f 93,f 94,f 95,f 96,f 97,f 98,f 99,f 100,f 101,f 102,f 103,f 104,f 105,f 106,f 107,f 108,f 109,f 110,f 111,f 112,f 113,f 114,f 115,f 116,f 117,f 118,f 119,f 120,f 121,f 122,f 123,f 124,f 125,f 126,f 127,f 128,f 129,f 130,f 131,f 132,f 133,f 134,f 135,f 136,f 137,f 138,f 139,f 140,f 141,f 142,f 143,f 144,f 145,f 146,f 147]
def Q6 (K K':KS) (pid:Int) (pk:Prop):Prop:=∀(i b:Nat) (r:PR),K.AJ[i]?=some b->K.ps b=some r->¬((r.pid:Int)=pid/\pk)->(∃(i':Nat) (r':PR),K'.AJ[i']?=some b/\K'.ps b=some r'/\r.Same r')\/(r.en=true/\∀b'∈K'.AJ,∀r',K'.ps b'=some r'->(r'.pid:Int)≠r.pid)
theorem Q6.moved {K K':KS} {pid:Int} {pk:Prop} (m:Ci K K'):Q6 K K' pid pk:=fun i b r hi hr _=>by
 obtain⟨c,hc⟩:=m.get hr;exact .inl ⟨i,_,by rw[m.AJ];exact hi,hc,rfl,rfl,rfl,rfl,rfl,rfl,rfl,rfl⟩
theorem Q6.same {K:KS} {pid:Int} {pk:Prop}:Q6 K K pid pk:=fun i _ r hi hr _=>.inl ⟨i,r,hi,hr,.refl r⟩
theorem Q6.rel {NC NS b0:Nat} {K K':KS} {r0:PR} {pid:Int} {pk:Prop} (ok:DZ NC NS K) (hm:b0∈K.AJ) (h0:K.ps b0=some r0) (hp:(r0.pid:Int)=pid) (hpk:pk) (R:Rel b0 K K'):Q6 K K' pid pk:=fun i b r hi hr hn=>by
 have hb:b∈K.AJ:=List.mem_of_getElem? hi;have ne:b≠b0:=fun e=>by subst e;rw[hr]at h0;cases h0;exact hn ⟨hp,hpk⟩
 rcases R.keep b r hb hr ne with⟨h1,r',h2,h3⟩|⟨h1,h2⟩
 ·obtain⟨i',Gz⟩:=List.mem_iff_getElem?.1 h1;exact .inl ⟨i',r',Gz,h2,h3⟩
 ·refine .inr ⟨h2,fun b' hb' r' FW e=>?_⟩;rcases R.come b' hb' with c|⟨_,c⟩
  ·obtain⟨q,hq⟩:=ok.th b' c;have NQ:r'.pid=q.pid:=by
    by_cases e0:b'=b0
    ·subst e0;obtain⟨r1,h5,h6⟩:=R.me q hq;rw[FW]at h5;cases h5;exact h6
    ·rcases R.keep b' q c hq e0 with⟨_,r1,h5,h6⟩|⟨h5,_⟩
     ·rw[FW]at h5;cases h5;exact h6.pid
     ·exact absurd hb' h5
   have:=ok.one b' q b r c hb hq hr (by omega);subst this;exact h1 hb'
  ·have:=c r' FW;have:=(ok.pid b r hr).2;omega
def LkD (r:PR) (base:Nat) (x2 x3 x4 x5 x6 er:Int) (v7 v8:Value) (w':World):Prop:=(er=0/\x3=r.A/\x4=r.B/\x5=r.P/\x6=r.st/\EX r.en x2/\QZ base v7 (ints r.Ah) w'/\QZ base v8 r.fds w')\/(er=2/\r.en=true)
theorem lv {NC NS i b:Nat} {K K':KS} {r:PR} {pid:Int} {pk:Prop} {w w':World} {e:Ending} (ok':DZ NC NS K') (hA:Q6 K K' pid pk) (hi:K.AJ[i]?=some b) (hr:K.ps b=some r) (hn:¬((r.pid:Int)=pid/\pk)) (h:Ab No w w'/\aK K' r.pid w.heap.size e w'):
  Ab No w w'/\∃x0 x1 x2 x3 x4 x5 x6 a7 n7 c7 a8 n8 c8 er,e=.returned (.tuple #[.agg (F4 x0 x1 x2 x3 x4 x5 x6 (.slice a7 n7 c7) (.slice a8 n8 c8)),.int .i64 er])/\LkD r w.heap.size x2 x3 x4 x5 x6 er (.slice a7 n7 c7) (.slice a8 n8 c8) w':=by
 rcases hA i b r hi hr hn with⟨i',r',h1,h2,h3⟩|⟨h1,h2⟩
 ·have hp:r'.pid=r.pid:=h3.pid;rw[<-hp]at h;obtain⟨hK,st,a7,n7,c7,a8,n8,c8,q1,q2,q3,q4⟩:=VN ok' h1 h2 h;exact⟨hK,_,_,_,_,_,_,_,a7,n7,c7,a8,n8,c8,_,q1,.inl ⟨rfl,by rw[h3.A],by rw[h3.B],by rw[h3.P],by rw[h3.st],by rw[<-h3.en];exact q2,by rw[<-h3.Ah];exact q3,by rw[<-h3.fds];exact q4⟩⟩
 ·obtain⟨hK,⟨b',r',_,_,_,hm',hb',hp',_⟩|⟨e1,_⟩⟩:=h
  ·exact absurd hp' (h2 b' hm' r' hb')
  ·exact⟨hK,0,0,0,0,0,0,0,none,0,0,none,0,0,2,e1,.inr ⟨rfl,h1⟩⟩
section
variable (m:Nat) (w:World) (f:Y_)
theorem wJ (NC NS base:Nat) (K K':KS) (CO iv Gc:Value) (sb r4:Nat) (kd pid nn:Int) (G8:-9223372036854775808<=kd) (Kn:kd<=9223372036854775807) (hr4:NU kd 4=r4) (hs:w.heap[sb]?=some (.cells #[.int .i64 kd,.int .i64 pid,.int .i64 nn] 38 (0,0))) (h:AQ K' w) (ok':DZ NC NS K') (GG:Vq K base Gc K.AJ.length w) (hl:K.AJ.length<=12) (Nf:∀b r,K.ps b=some r->r.Ah.length<=128/\r.fds.length<=6) (hA:Q6 K K' pid (r4<2)):
  (aW prog).wpIn NF m prog (Ends fun tm w'=>(∃g,tm=TN 148 (AR g [(1,CO),(6,ptr K'.kb),(8,iv)]))/\Ab No w w') ⟨TN 148 (AR f [(1,CO),(6,ptr K'.kb),(8,iv),(9,ptr sb),(10,Gc)]),[]⟩ w:=by
 obtain⟨xs,hox,BH⟩:=GG;obtain⟨s,c,hv⟩:∃s c,Gc=.slice s K.AJ.length c:=by
  rcases hox.2 with⟨e,e2⟩|⟨g,cap,cur,e,_⟩
  ·exact⟨none,0,by rw[e,e2]⟩
  ·exact⟨_,_,e⟩
 subst hv;have s0:w.cell? (S_ sb)=some (.int .i64 kd):=bce hs rfl;have s1:w.cell? (T_ sb 1)=some (.int .i64 pid):=bce hs rfl;unfold aW aI aL aq;rw[KM];dsimp only[Tryz.f5,Option.getD,behind,piece];show Code.wpIn (Fence.list LF none) m prog _ _ ⟨QF f CO (ptr K'.kb) iv (ptr sb) (.slice s K.AJ.length c),[]⟩ _;unfold QF ptr;gi_wp2;gi_loopw [11] (fun i wr=>∃k:Nat,k<=K.AJ.length/\i=.int .i64 k/\Ab No w wr) (fun i _=>K.AJ.length-(intOf i).toNat)
 case atStart=>exact⟨0,by omega,rfl,Ab.refl _ _⟩
 case round=>
  obtain⟨k,hk,rfl,KK⟩:=hrel
  by_cases BC:k<K.AJ.length
  ·have hg:K.AJ[k]?=some K.AJ[k]:=HZ BC;generalize K.AJ[k]=b at hg;obtain⟨r,st,v7,v8,hr,hS,i7,i8,hx⟩:=BH k b BC hg;obtain⟨g,hsg⟩:∃g,s=some (S_ g):=by
    rcases hox.2 with⟨_,e2⟩|⟨g,cap,cur,e,_⟩
    ·omega
    ·cases e;exact⟨g,rfl⟩
   subst hsg;have NY:∀j x,(Mj r st v7 v8)[j]?=some x->wr.cell? (T_ g (k*9+j))=some x:=fun j x hj=>KK.has ((hox.cellAt (k*9+j) (by have:=(Array.getElem?_eq_some_iff.1 hj).1;simp[F4]at this;omega)).trans (hx j x hj))
   obtain⟨a7,c7,e7,_⟩:=id i7;obtain⟨a8,c8,e8,_⟩:=id i8;generalize hn7:(ints r.Ah).length=n7 at e7;generalize hn8:r.fds.length=n8 at e8;subst e7 e8;have hL7:(ints r.Ah).length<=1000:=(by have:=(Nf b r hr).1;simp[ints];omega);have hL8:r.fds.length<=1000:=(by have:=(Nf b r hr).2;omega);clear hn7 hn8;have d0:wr.cell? (T_ g (k*9))=some (.int .i64 r.pid):=NY 0 _ rfl;have d1:wr.cell? (T_ g (k*9+1))=some (.int .i64 r.par):=NY 1 _ rfl;have d2:wr.cell? (T_ g (k*9+2))=some (.int .i64 st):=NY 2 _ rfl;have d3:wr.cell? (T_ g (k*9+3))=some (.int .i64 r.A):=NY 3 _ rfl;have d4:wr.cell? (T_ g (k*9+4))=some (.int .i64 r.B):=NY 4 _ rfl;have d5:wr.cell? (T_ g (k*9+5))=some (.int .i64 r.P):=NY 5 _ rfl;have d6:wr.cell? (T_ g (k*9+6))=some (.int .i64 r.st):=NY 6 _ rfl;have d7:wr.cell? (T_ g (k*9+7))=some (.slice a7 n7 c7):=NY 7 _ rfl;have d8:wr.cell? (T_ g (k*9+8))=some (.slice a8 n8 c8):=NY 8 _ rfl;obtain⟨w3,WN,K3,b3⟩:=Gg (w:=wr.alloc (.cells EO 48)) (rb:=wr.heap.size) (a:=r.pid) (b:=r.par) (c:=st) (d:=r.A) (e:=r.B) (f:=r.P) (g:=r.st) (n7:=n7) (c7:=c7) (n8:=n8) (c8:=c8) (a7:=a7) (a8:=a8) (heap_alloc_new rfl);clear NY hx;gi_upto_region 22 with(refine Ae rfl (.tmp 12) (.tmp 71) 48 rfl rfl rfl WN ?_);have KA:Ab No wr w3:=((Ab.refl No wr).alloc (.cells EO 48)).trans K3 (fun x hx e=>absurd (show x=wr.heap.size from e) (by omega));have zm:Ab No w w3:=KK.then KA;have t0:=zm.has s0;have t1:=zm.has s1;have e0:w3.cell? (S_ wr.heap.size)=some (.int .i64 r.pid):=bce b3 rfl;have e2:w3.cell? (T_ wr.heap.size 2)=some (.int .i64 st):=bce b3 rfl;have e3:w3.cell? (T_ wr.heap.size 3)=some (.int .i64 r.A):=bce b3 rfl;have e4:w3.cell? (T_ wr.heap.size 4)=some (.int .i64 r.B):=bce b3 rfl;have e5:w3.cell? (T_ wr.heap.size 5)=some (.int .i64 r.P):=bce b3 rfl;have e6:w3.cell? (T_ wr.heap.size 6)=some (.int .i64 r.st):=bce b3 rfl;have e7:w3.cell? (T_ wr.heap.size 7)=some (.slice a7 n7 c7):=bce b3 rfl;have e8:w3.cell? (T_ wr.heap.size 8)=some (.slice a8 n8 c8):=bce b3 rfl;have hpk:=fun m=>ZT m w3 kd 4 r4 G8 Kn (by omega) (by omega) hr4
   clear WN K3 b3 d0 d1 d2 d3 d4 d5 d6 d7 d8;have hcase:((r.pid:Int)=pid/\(r4:Int)<2)\/((r.pid:Int)=pid/\¬(r4:Int)<2)\/¬(r.pid:Int)=pid:=(by omega);rcases hcase with⟨hp,h2⟩|⟨hp,h2⟩|hp
   ·subst hp;gi_wp2_with (gi_at_call 16;refine(hpk _).mono ?_;rintro e w' ⟨rfl,hw⟩;have hw:=hw.symm;subst hw);go_roundw
    case rel=>exact⟨k+1,by omega,by go_num,zm⟩
    case measure=>simp[intOf];omega
   all_goals
    have hn:¬((r.pid:Int)=pid/\r4<2):=by omega
    have hlk:=fun m=>(ZV m w3 NC NS K' r.pid (h.no zm) ok').mono fun e w2 h=>lv ok' hA hg hr hn h
    clear hn
    first|subst hp|(have hpb:((r.pid:Int)==pid)=false:=(by simpa using hp))
    gi_upto_region 24 with(first|(gi_at_call 16;refine(hpk _).mono ?_;rintro e w' ⟨rfl,hw⟩;have hw:=hw.symm;subst hw)|(gi_at_call 20;refine(hlk _).mono ?_;rintro e w4 ⟨K4,x0,x1,x2,x3,x4,x5,x6,a7',n7',zh,a8',n8',xJ,er,rfl,hD⟩;obtain⟨w5,Zu,K5,b5⟩:=Gg (w:=w4.alloc (.cells EO 48)) (rb:=w4.heap.size) (a:=x0) (b:=x1) (c:=x2) (d:=x3) (e:=x4) (f:=x5) (g:=x6) (n7:=n7') (c7:=zh) (n8:=n8') (c8:=xJ) (a7:=a7') (a8:=a8') (heap_alloc_new rfl))|refine Ae rfl (.tmp 13) (.tmp 88) 48 rfl rfl rfl Zu ?_|refine Qw rfl rfl rfl ?_)
    have K45:Ab No w4 w5:=((Ab.refl No w4).alloc (.cells EO 48)).trans K5 (fun x hx e=>absurd (show x=w4.heap.size from e) (by omega))
    have K35:Ab No w3 w5:=K4.then K45
    have K05:Ab No w w5:=zm.then K35
    have f2:=K35.has e2
    clear Zu K5 hpk hlk t0 t1
    rcases hD with⟨rfl,rfl,rfl,rfl,rfl,hS',j7,j8⟩|⟨rfl,hen⟩
    ·have sI:=fun m=>SQ m w5 (.slice a7 n7 c7) (.slice a7' n7' zh) _ _ ((i7.no K05).sl hL7) ((j7.no K45).sl hL7)
     have f7:=K35.has e7;have y7:w5.cell? (T_ w4.heap.size 7)=some (.slice a7' n7' zh):=bce b5 rfl;gi_upto_region 28 with(gi_at_call 21;refine(sI _).mono ?_;rintro e w6 ⟨rfl,K6⟩);have xL:=K35.then K6;have sF:=fun m=>SQ m w6 (.slice a8 n8 c8) (.slice a8' n8' xJ) _ _ ((i8.no (zm.then xL)).sl hL8) ((j8.no (K45.then K6)).sl hL8)
     have b6:=K6.old b5 id;have f8:=xL.has e8;have y8:w6.cell? (T_ w4.heap.size 8)=some (.slice a8' n8' xJ):=bce b6 rfl;clear sI f7 y7 f2;gi_upto_region 29 with(gi_at_call 21;refine(sF _).mono ?_;rintro e w7 ⟨rfl,K7⟩);have K37:=xL.then K7;have b7:=K7.old b6 id;have z2:=K37.has e2;have z3:=K37.has e3;have z4:=K37.has e4;have z5:=K37.has e5;have z6:=K37.has e6;have y2:w7.cell? (T_ w4.heap.size 2)=some (.int .i64 x2):=bce b7 rfl;have y3:w7.cell? (T_ w4.heap.size 3)=some (.int .i64 r.A):=bce b7 rfl;have y4:w7.cell? (T_ w4.heap.size 4)=some (.int .i64 r.B):=bce b7 rfl;have y5:w7.cell? (T_ w4.heap.size 5)=some (.int .i64 r.P):=bce b7 rfl;have y6:w7.cell? (T_ w4.heap.size 6)=some (.int .i64 r.st):=bce b7 rfl;have ay6:∃q:Bool,(st==2)=q/\(x2==2)=q:=by
      cases hen:r.en with
      | true=>exact⟨true,by simpa using hS.1 hen,by simpa using hS'.1 hen⟩
      | false=>
       refine⟨false,?_,?_⟩
       ·rcases hS.2 hen with e|e<;>subst e<;>rfl
       ·rcases hS'.2 hen with e|e<;>subst e<;>rfl
     obtain⟨q,hq1,hq2⟩:=ay6;clear sF f8 y8 b5 b6 b7 i7 i8 j7 j8 hS hS';cases q
     all_goals gi_wp2
     all_goals go_roundw
     all_goals first|exact⟨k+1,by omega,by go_num,zm.then K37⟩|(simp[intOf];omega)
    ·have hs2:st=2:=hS.1 hen;subst hs2;clear hS i7 i8;gi_wp2;go_roundw
     case rel=>exact⟨k+1,by omega,by go_num,K05⟩
     case measure=>simp[intOf];omega
  ·obtain rfl:k=K.AJ.length:=(by omega);gi_wp2;exact⟨rfl,rfl,⟨_,CU rfl (by simp)⟩,KK⟩
end
def ap8 (P:Program:=prog):Code:=match aL P with | .seq (.seq a _) _=>a|_=>.skip
def apR (P:Program:=prog):Code:=match aL P with | .seq _ r=>r|_=>.skip
def lY (P:Program:=prog):Code:=match aL P with | .seq _ (.seq _ r)=>r|_=>.skip
def tV (P:Program:=prog):Code:=match aI P with | .seq c _=>c|_=>.skip
def tT (P:Program:=prog):Code:=match aI P with | .seq _ (.seq c _)=>c|_=>.skip
def tQ (P:Program:=prog):Code:=match aZ P with | .seq c _=>c|_=>.skip
def apY (P:Program:=prog):Code:=match aZ P with | .seq _ c=>c|_=>.skip
def apC:Code:=Code.cond (Operand.tmp 32) Code.skip (Code.exit 0)
theorem ae3:aI prog=(tV prog).seq ((tT prog).seq ((aZ prog).seq (aW prog))):=by kernel_rfl
theorem ae0:aZ prog=(tQ prog).seq (apY prog):=by kernel_rfl
theorem ax (i:Nat) (h:i=1\/i=2\/i=3\/i=4):aX prog i=(aq prog i).seq (aX prog (i+1)):=by rcases h with rfl|rfl|rfl|rfl<;>kernel_rfl
theorem wP:(ap8 prog).A9 (BS prog)=true:=by kernel_rfl
theorem wO:(lY prog).A9 (BS prog)=true:=by kernel_rfl
theorem rH:(tV prog).A9 (BS prog)=true:=by kernel_rfl
theorem rG:(tT prog).A9 (BS prog)=true:=by kernel_rfl
theorem rF:(tQ prog).A9 (BS prog)=true:=by kernel_rfl
theorem wF:(aq prog 0).A9 (BS prog)=true:=by kernel_rfl
theorem wC:(aq prog 2).A9 (BS prog)=true:=by kernel_rfl
theorem wy:(aq prog 3).A9 (BS prog)=true:=by kernel_rfl
theorem iM:(aq prog 4).A9 (BS prog)=true:=by kernel_rfl
theorem wU:(aX prog 6).A9 (BS prog)=true:=by kernel_rfl
section
variable (cv CO kp iv told er Gc bx:Value) (cs:Z_) (f:Y_) (sb:Nat) (pid nn:Int)
def xA (P:Program:=prog):Frame×Z_:=run P 1 (Frame.enter P 5 #[cv,CO] .normal,cs)
theorem au5:Av prog 1 (Frame.enter prog 5 #[cv,CO] .normal,cs)=some []:=by kernel_rfl
theorem au4:Ch (xA cv CO cs)=(5,[.code (aq prog 0),.code (aX prog 1)],[],.run,.normal,none,cs):=by kernel_rfl
theorem au3:slotsOf (xA cv CO cs) [0,1]=[cv,CO]:=by kernel_rfl
theorem au2:(xA cv CO cs).1.tmps.size=148:=by kernel_rfl
def xB (P:Program:=prog):Frame×Z_:=(Frame.mk 5 (TN 148 (AR f [(1,CO),(2,bx)])) [.code (aX P 1)] [] .run .normal none,cs)
theorem au1:Av prog 3 (xB CO bx cs f)=some []:=by kernel_rfl
def xC (P:Program:=prog):Frame:=(below (run P 3 (xB CO bx cs f P))).1
theorem au0:run prog 3 (xB CO bx cs f)=(Frame.enter prog 13 #[] .normal,xC CO bx cs f::cs):=by kernel_rfl
def xD (P:Program:=prog):Frame×Z_:=run P 2 ((xC CO bx cs f P).finish (.bool true),cs)
theorem at7:Av prog 2 ((xC CO bx cs f).finish (.bool true),cs)=some []:=by kernel_rfl
theorem at6:Ch (xD CO bx cs f)=(5,[.code (aX prog 2)],[],.run,.normal,none,cs):=by kernel_rfl
theorem at5:slotsOf (xD CO bx cs f) [1,2,5]=[CO,bx,.bool true]:=by kernel_rfl
theorem at0:(xD CO bx cs f).1.tmps.size=148:=by kernel_rfl
def xE (P:Program:=prog):Frame×Z_:=run P 7 (Frame.mk 5 (TN 148 (AR f [(1,CO),(6,kp)])) [.code (aX P 5)] [] .run .normal none,cs)
theorem as9:Av prog 7 (Frame.mk 5 (TN 148 (AR f [(1,CO),(6,kp)])) [.code (aX prog 5)] [] .run .normal none,cs)=some []:=by kernel_rfl
theorem as8:Ch (xE CO kp cs f)=(5,.code (aL prog)::[.inLoop (aL prog),.inBlock 0,.code (aX prog 6)],[],.run,.normal,none,cs):=by kernel_rfl
theorem as7:slotsOf (xE CO kp cs f) [1,6,8]=[CO,kp,.int .i64 (0:Nat)]:=by kernel_rfl
theorem as6:(xE CO kp cs f).1.tmps.size=148:=by kernel_rfl
def yA (P:Program:=prog):Frame×Z_:=(Frame.mk 5 (TN 148 (AR f [(1,CO),(6,kp),(8,iv)])) (.code (aL P)::[.inLoop (aL P),.inBlock 0,.code (aX P 6)]) [] .run .normal none,cs)
def yB (P:Program:=prog):Frame×Z_:=run P 2 (yA CO kp iv cs f P)
theorem as0:Av prog 2 (yA CO kp iv cs f)=some []:=by kernel_rfl
theorem ar9:Ch (yB CO kp iv cs f)=(5,.code (ap8 prog)::.code apC::.code (apR prog)::[.inLoop (aL prog),.inBlock 0,.code (aX prog 6)],[],.run,.normal,none,cs):=by kernel_rfl
theorem ar8:slotsOf (yB CO kp iv cs f) [1,6,8]=[CO,kp,iv]:=by kernel_rfl
theorem ar7:(yB CO kp iv cs f).1.tmps.size=148:=by kernel_rfl
def yC (b:Bool) (P:Program:=prog):Frame×Z_:=(Frame.mk 5 (TN 148 (AR f [(1,CO),(6,kp),(8,iv),(32,.bool b)])) (.code apC::.code (apR P)::[.inLoop (aL P),.inBlock 0,.code (aX P 6)]) [] .run .normal none,cs)
def yD (P:Program:=prog):Frame×Z_:=run P 4 (yC CO kp iv cs f true P)
theorem ar6:Av prog 4 (yC CO kp iv cs f true)=some []:=by kernel_rfl
theorem ar5:Ch (yD CO kp iv cs f)=(5,.code (aI prog)::.inBlock 1::.code (lY prog)::[.inLoop (aL prog),.inBlock 0,.code (aX prog 6)],[],.run,.normal,none,cs):=by kernel_rfl
theorem ar4:slotsOf (yD CO kp iv cs f) [1,6,8]=[CO,kp,iv]:=by kernel_rfl
theorem ar3:(yD CO kp iv cs f).1.tmps.size=148:=by kernel_rfl
def yE (P:Program:=prog):Frame×Z_:=run P 2 (yC CO kp iv cs f false P)
theorem ar2:Av prog 2 (yC CO kp iv cs f false)=some []:=by kernel_rfl
theorem ar1:Ch (yE CO kp iv cs f)=(5,[.code (aX prog 6)],[],.run,.normal,none,cs):=by kernel_rfl
theorem ar0:(yE CO kp iv cs f).1.tmps.size=148:=by kernel_rfl
def zA (q:Int) (P:Program:=prog):Frame×Z_:=(Frame.mk 5 (TN 148 (AR f [(1,CO),(6,kp),(8,iv),(9,ptr sb),(10,Gc),(43,.int .i64 q)])) (.code (apY P)::.code (aW P)::.inBlock 1::.code (lY P)::[.inLoop (aL P),.inBlock 0,.code (aX P 6)]) [] .run .normal none,cs)
theorem al8:Av prog 16 (zA CO kp iv Gc cs f sb 0)=some []:=by kernel_rfl
theorem al7:Av prog 16 (zA CO kp iv Gc cs f sb 1)=some []:=by kernel_rfl
def zB (q:Int) (P:Program:=prog):Frame×Z_:=run P 16 (zA CO kp iv Gc cs f sb q P)
theorem al6:EW prog (zB CO kp iv Gc cs f sb 0) [.int .i64 pid]=some ([(T_ sb 1)],.int .i64 pid):=by kernel_rfl
theorem al5:EW prog (zB CO kp iv Gc cs f sb 1) [.int .i64 pid]=some ([(T_ sb 1)],.int .i64 pid):=by kernel_rfl
def zC (q:Int) (P:Program:=prog):Frame×Z_:=run P 1 (Bj (zB CO kp iv Gc cs f sb q P) (.int .i64 pid))
theorem al4:Av prog 1 (Bj (zB CO kp iv Gc cs f sb 0) (.int .i64 pid))=some []:=by kernel_rfl
theorem al2:Av prog 1 (Bj (zB CO kp iv Gc cs f sb 1) (.int .i64 pid))=some []:=by kernel_rfl
theorem al3:EW prog (zC CO kp iv Gc cs f sb pid 0) [.int .i64 nn]=some ([(T_ sb 2)],.int .i64 nn):=by kernel_rfl
theorem al1:EW prog (zC CO kp iv Gc cs f sb pid 1) [.int .i64 nn]=some ([(T_ sb 2)],.int .i64 nn):=by kernel_rfl
def zD (q:Int) (P:Program:=prog):Frame:=(below (run P 1 (Bj (zC CO kp iv Gc cs f sb pid q P) (.int .i64 nn)))).1
theorem al0:Av prog 1 (Bj (zC CO kp iv Gc cs f sb pid 0) (.int .i64 nn))=some []:=by kernel_rfl
theorem ak8:Av prog 1 (Bj (zC CO kp iv Gc cs f sb pid 1) (.int .i64 nn))=some []:=by kernel_rfl
theorem ak9:run prog 1 (Bj (zC CO kp iv Gc cs f sb pid 0) (.int .i64 nn))=(Frame.enter prog 19 #[kp,.int .i64 pid,.int .i64 nn] .normal,zD CO kp iv Gc cs f sb pid nn 0::cs):=by kernel_rfl
theorem ak7:run prog 1 (Bj (zC CO kp iv Gc cs f sb pid 1) (.int .i64 nn))=(Frame.enter prog 19 #[kp,.int .i64 pid,.int .i64 nn] .normal,zD CO kp iv Gc cs f sb pid nn 1::cs):=by kernel_rfl
def zE (q:Int) (P:Program:=prog):Frame×Z_:=run P 2 ((zD CO kp iv Gc cs f sb pid nn q P).finish (.tuple #[told,er]),cs)
theorem ak6:Av prog 2 ((zD CO kp iv Gc cs f sb pid nn 0).finish (.tuple #[told,er]),cs)=some []:=by kernel_rfl
theorem ak2:Av prog 2 ((zD CO kp iv Gc cs f sb pid nn 1).finish (.tuple #[told,er]),cs)=some []:=by kernel_rfl
theorem ak5:Ch (zE CO kp iv told er Gc cs f sb pid nn 0)=(5,.code (aW prog)::.inBlock 1::.code (lY prog)::[.inLoop (aL prog),.inBlock 0,.code (aX prog 6)],[],.run,.normal,none,cs):=by kernel_rfl
theorem ak1:Ch (zE CO kp iv told er Gc cs f sb pid nn 1)=(5,.code (aW prog)::.inBlock 1::.code (lY prog)::[.inLoop (aL prog),.inBlock 0,.code (aX prog 6)],[],.run,.normal,none,cs):=by kernel_rfl
theorem ak4:slotsOf (zE CO kp iv told er Gc cs f sb pid nn 0) [1,6,8,9,10]=[CO,kp,iv,ptr sb,Gc]:=by kernel_rfl
theorem ak0:slotsOf (zE CO kp iv told er Gc cs f sb pid nn 1) [1,6,8,9,10]=[CO,kp,iv,ptr sb,Gc]:=by kernel_rfl
theorem ak3:(zE CO kp iv told er Gc cs f sb pid nn 0).1.tmps.size=148:=by kernel_rfl
theorem aj9:(zE CO kp iv told er Gc cs f sb pid nn 1).1.tmps.size=148:=by kernel_rfl
def uA (P:Program:=prog):Frame×Z_:=(Frame.mk 5 (TN 148 (AR f [(1,CO),(6,kp),(8,iv)])) (.inBlock 1::.code (lY P)::[.inLoop (aL P),.inBlock 0,.code (aX P 6)]) [] .run .normal none,cs)
theorem av5:Av prog 1 (uA CO kp iv cs f)=some []:=by kernel_rfl
theorem av4:run prog 1 (uA CO kp iv cs f)=(Frame.mk 5 (TN 148 (AR f [(1,CO),(6,kp),(8,iv)])) (.code (lY prog)::[.inLoop (aL prog),.inBlock 0,.code (aX prog 6)]) [] .run .normal none,cs):=by kernel_rfl
def uB (P:Program:=prog):Frame×Z_:=(Frame.mk 5 (TN 148 (AR f [(1,CO),(6,kp),(8,iv)])) [.inLoop (aL P),.inBlock 0,.code (aX P 6)] [] .run .normal none,cs)
theorem av3:Av prog 1 (uB CO kp iv cs f)=some []:=by kernel_rfl
theorem av2:run prog 1 (uB CO kp iv cs f)=yA CO kp iv cs f:=by kernel_rfl
theorem kL (g:Y_) (todo:List Item) (w:World):stepG prog true (G (Frame.mk 5 (TN 148 (AR g [(4,.bool true)])) todo [] .returning .normal none) []) w=.ended (.done (.bool true)) w #[]:=by kernel_rfl
end
def Wz (f:Y_) (a b c d e g h i:Value):X_:=#[a,b,c,f 3,f 4,d,e,g,h,f 9,f 10,f 11,f 12,f 13,f 14,f 15,f 16,f 17,f 18,f 19,f 20,f 21,f 22,f 23,f 24,f 25,f 26,f 27,f 28,f 29,f 30,f 31,f 32,f 33,f 34,f 35,f 36,f 37,f 38,f 39,f 40,f 41,f 42,i,f 44,f 45,f 46,f 47,f 48,f 49,f 50,f 51,f 52,f 53,f 54,f 55,f 56,f 57,f 58,f 59,f 60,f 61,f 62,f 63,f 64,f 65,f 66,f 67,f 68,f 69,f 70,f 71,f 72,f 73,f 74,f 75,f 76,f 77,f 78,f 79,f 80,f 81,f 82,f 83,f 84,f 85,f 86,f 87,f 88,f 89,f 90,f 91,f 92,f 93,f 94,f 95,f 96,f 97,f 98,f 99,f 100,f 101,f 102,f 103,f 104,f 105,f 106,f 107,f 108,f 109,f 110,f 111,f 112,f 113,f 114,f 115,f 116,f 117,f 118,f 119,f 120,f 121,f 122,f 123,f 124,f 125,f 126,f 127,f 128,f 129,f 130,f 131,f 132,f 133,f 134,f 135,f 136,f 137,f 138,f 139,f 140,f 141,f 142,f 143,f 144,f 145,f 146,f 147]
theorem Vq.Qb {K:KS} {T T':Tag} {base n:Nat} {v:Value} {w w':World} (h:Vq K base v n w) (M:Bw T T' w w') (ht:∀k,base<=k->T k=(0,0)):Vq K base v n w':=by
 obtain⟨xs,h1,h2⟩:=h;refine⟨xs,?_,fun i b hi hb=>?_⟩
 ·obtain⟨a,b⟩:=h1;refine⟨a,?_⟩;rcases b with b|⟨g,cap,cur,rfl,b1,b2,b3⟩
  ·exact .inl b
  ·exact .inr ⟨g,cap,cur,rfl,b1,M.old b2 (ht g b1),b3⟩
 ·obtain⟨r,st,v7,v8,q1,q2,q3,q4,q5⟩:=h2 i b hi hb;have no:∀k cs,base<=k->w.heap[k]?=some (.cells cs 3 (0,0))->¬On T (fun t=>t≠(0,0)) k:=fun k _ hk _ e=>e (ht k hk)
  exact⟨r,st,v7,v8,q1,q2,q3.keep M.keep no,q4.keep M.keep no,q5⟩
def Ky (w:World) (b o i:Nat) (kd pid nn:Int):Prop:=-9223372036854775808<=kd/\kd<=9223372036854775807/\w.cell? (T_ b (o+i*3))=some (.int .i64 kd)/\w.cell? (T_ b (o+i*3+1))=some (.int .i64 pid)/\w.cell? (T_ b (o+i*3+2))=some (.int .i64 nn)
theorem Ky.no {w w':World} {b o i:Nat} {kd pid nn:Int} (h:Ky w b o i kd pid nn) (hK:Ab No w w'):Ky w' b o i kd pid nn:=⟨h.1,h.2.1,hK.has h.2.2.1,hK.has h.2.2.2.1,hK.has h.2.2.2.2⟩
def NewAt (CO:Value) (w:World) (tm:X_) (w':World):Prop:=Ab No w w'/\((∃g,tm=TN 148 (AR g [(1,CO),(6,.pointer none),(7,.int .i64 1)]))\/∃g K C M,tm=TN 148 (AR g [(1,CO),(6,ptr K.kb)])/\AQ K w'/\DZ C M K/\∀k,K.T k≠(0,0)->w.heap.size<=k)
def wZ (CO iv Gc:Value) (sb:Nat) (K:KS) (C M:Nat) (w:World) (tm:X_) (w':World):Prop:=∃g K',tm=TN 148 (AR g [(1,CO),(6,ptr K.kb),(8,iv),(9,ptr sb),(10,Gc)])/\AQ K' w'/\DZ C M K'/\Ci K K'/\Bw K.T K'.T w w'
section
variable (m:Nat) (w:World) (f:Y_)
theorem be6 (core swap:Int) (v fv CO:Value):(aq prog 0).wpIn NF m prog (Ends fun tm w'=>(∃g,tm=TN 148 (AR g [(1,CO),(2,ptr w.heap.size)]))/\Ab No w w'/\w'.heap[w.heap.size]?=some (.cells #[.int .i64 core,.int .i64 swap,v,fv] 25 (0,0))) ⟨TN 148 (AR f [(0,.agg #[.int .i64 core,.int .i64 swap,v,fv]),(1,CO)]),[]⟩ w:=by
 unfold aq;rw[KM];dsimp only[Tryz.f5,Option.getD,behind,piece];show Code.wpIn (Fence.list LF none) m prog _ _ ⟨Wz f (.agg #[.int .i64 core,.int .i64 swap,v,fv]) CO (f 2) (f 5) (f 6) (f 7) (f 8) (f 43),[]⟩ _;unfold Wz;gi_wp2;exact⟨rfl,rfl,⟨_,CU rfl (by simp[ptr])⟩,(Ab.refl _ _).alloc _,heap_alloc_new rfl⟩
theorem be5 (CO bx:Value):(aq prog 2).wpIn NF m prog (Ends fun tm w'=>(∃g,tm=TN 148 (AR g [(1,CO),(2,bx)]))/\Ab No w w') ⟨TN 148 (AR f [(1,CO),(2,bx),(5,.bool true)]),[]⟩ w:=by
 unfold aq;rw[KM];dsimp only[Tryz.f5,Option.getD,behind,piece];show Code.wpIn (Fence.list LF none) m prog _ _ ⟨Wz f (f 0) CO bx (.bool true) (f 6) (f 7) (f 8) (f 43),[]⟩ _;unfold Wz;gi_wp2;exact⟨rfl,rfl,⟨_,CU rfl (by simp)⟩,Ab.refl _ _⟩
theorem be4 (core swap:Int) (v fv CO:Value) (X n nf:Nat) (fn:Nat->Int) (ff:Nat->Value×Nat×(Nat->Int)) (hP:Zp w v n fn) (hF:Qc w fv nf ff) (hX:w.heap[X]?=some (.cells #[.int .i64 core,.int .i64 swap,v,fv] 25 (0,0))):(aq prog 3).wpIn NF m prog (Ends (NewAt CO w)) ⟨TN 148 (AR f [(1,CO),(2,ptr X)]),[]⟩ w:=by
 have hc:=fun m=>xY m w core swap v fv n nf fn ff hP hF
 obtain⟨⟨s,c,rfl⟩,_⟩:=hP;obtain⟨fa,fc,rfl,_⟩:=hF;have c0:w.cell? (S_ X)=some (.int .i64 core):=bce hX rfl;have c1:w.cell? (T_ X 1)=some (.int .i64 swap):=bce hX rfl;have c2:w.cell? (T_ X 2)=some (.slice s n c):=bce hX rfl;have c3:w.cell? (T_ X 3)=some (.slice fa nf fc):=bce hX rfl;unfold aq;rw[KM];dsimp only[Tryz.f5,Option.getD,behind,piece];show Code.wpIn (Fence.list LF none) m prog _ _ ⟨Wz f (f 0) CO (ptr X) (f 5) (f 6) (f 7) (f 8) (f 43),[]⟩ _;unfold Wz ptr;gi_wp2_with fail;refine(hc _).mono ?_;rintro e w1 ⟨K2,⟨rfl,_⟩|⟨K,b,ib,fb,C,M,rfl,ka,ok,_,_,ht⟩⟩
 ·gi_wp2;exact⟨rfl,rfl,K2,.inl ⟨_,CU rfl (by simp)⟩⟩
 ·unfold ptr;gi_wp2;exact⟨rfl,rfl,K2,.inr ⟨_,K,C,M,CU rfl (by simp[ptr]),ka,ok,ht⟩⟩
theorem ap0 (CO:Value):(aq prog 4).wpIn NF m prog (Rx fun tm w'=>(∃g,tm=TN 148 (AR g [(4,.bool true)]))/\Ab No w w') ⟨TN 148 (AR f [(1,CO),(6,.pointer none),(7,.int .i64 1)]),[]⟩ w:=by
 unfold aq;rw[KM];dsimp only[Tryz.f5,Option.getD,behind,piece];show Code.wpIn (Fence.list LF none) m prog _ _ ⟨Wz f (f 0) CO (f 2) (f 5) (.pointer none) (.int .i64 1) (f 8) (f 43),[]⟩ _;unfold Wz;gi_wp2;exact⟨rfl,rfl,⟨_,CU rfl (by simp)⟩,Ab.refl _ _⟩
theorem be3 (CO:Value) (kb:Nat):(aq prog 4).wpIn NF m prog (Ends fun tm w'=>(∃g,tm=TN 148 (AR g [(1,CO),(6,ptr kb)]))/\Ab No w w') ⟨TN 148 (AR f [(1,CO),(6,ptr kb)]),[]⟩ w:=by
 unfold aq;rw[KM];dsimp only[Tryz.f5,Option.getD,behind,piece];show Code.wpIn (Fence.list LF none) m prog _ _ ⟨Wz f (f 0) CO (f 2) (f 5) (ptr kb) (f 7) (f 8) (f 43),[]⟩ _;unfold Wz ptr;gi_wp2;exact⟨rfl,rfl,⟨_,CU rfl (by simp)⟩,Ab.refl _ _⟩
theorem be2:(aX prog 6).wpIn NF m prog (Rx fun tm w'=>(∃g,tm=TN 148 (AR g [(4,.bool true)]))/\Ab No w w') ⟨TN 148 (AR f []),[]⟩ w:=by
 unfold aX;rw[KM];dsimp only[Tryz.f5,Option.getD,behind];show Code.wpIn (Fence.list LF none) m prog _ _ ⟨Wz f (f 0) (f 1) (f 2) (f 5) (f 6) (f 7) (f 8) (f 43),[]⟩ _;unfold Wz;gi_wp2;exact⟨rfl,rfl,⟨_,CU rfl (by simp)⟩,Ab.refl _ _⟩
theorem be1 (kp:Value) (s:Option Addr) (n c i:Nat):(ap8 prog).wpIn NF m prog (Ends fun tm w'=>(∃g,tm=TN 148 (AR g [(1,.slice s n c),(6,kp),(8,.int .i64 i),(32,.bool (decide (i<n)))]))/\Ab No w w') ⟨TN 148 (AR f [(1,.slice s n c),(6,kp),(8,.int .i64 i)]),[]⟩ w:=by
 unfold ap8 aL aq;rw[KM];dsimp only[Tryz.f5,Option.getD,behind,piece];show Code.wpIn (Fence.list LF none) m prog _ _ ⟨Wz f (f 0) (.slice s n c) (f 2) (f 5) kp (f 7) (.int .i64 i) (f 43),[]⟩ _;unfold Wz;by_cases h:i<n
 ·have h':(i:Int)<n:=by omega
  gi_wp2;exact⟨rfl,rfl,⟨_,CU rfl (by simp[h])⟩,Ab.refl _ _⟩
 ·have h':¬(i:Int)<n:=by omega
  gi_wp2;exact⟨rfl,rfl,⟨_,CU rfl (by simp)⟩,Ab.refl _ _⟩
theorem be0 (CO kp:Value) (i:Nat) (hi:i<9223372036854775807):(lY prog).wpIn NF m prog (Ends fun tm w'=>(∃g,tm=TN 148 (AR g [(1,CO),(6,kp),(8,.int .i64 (i+1:Nat))]))/\Ab No w w') ⟨TN 148 (AR f [(1,CO),(6,kp),(8,.int .i64 i)]),[]⟩ w:=by
 unfold lY aL aq;rw[KM];dsimp only[Tryz.f5,Option.getD,behind,piece];show Code.wpIn (Fence.list LF none) m prog _ _ ⟨Wz f (f 0) CO (f 2) (f 5) kp (f 7) (.int .i64 i) (f 43),[]⟩ _;unfold Wz;gi_wp2;exact⟨rfl,rfl,⟨_,CU rfl (by simp)⟩,Ab.refl _ _⟩
theorem ap3 (kp:Value) (b o n c i:Nat) (kd pid nn:Int) (hi:i<n) (h:Ky w b o i kd pid nn):(tV prog).wpIn NF m prog (Ends fun tm w'=>(∃g,tm=TN 148 (AR g [(1,.slice (some (T_ b o)) n c),(6,kp),(8,.int .i64 i),(9,ptr w.heap.size)]))/\Ab No w w'/\w'.heap[w.heap.size]?=some (.cells #[.int .i64 kd,.int .i64 pid,.int .i64 nn] 38 (0,0))) ⟨TN 148 (AR f [(1,.slice (some (T_ b o)) n c),(6,kp),(8,.int .i64 i)]),[]⟩ w:=by
 obtain⟨_,_,c0,c1,c2⟩:=h;have h':(i:Int)<n:=by omega
 unfold tV aI aL aq;rw[KM];dsimp only[Tryz.f5,Option.getD,behind,piece];show Code.wpIn (Fence.list LF none) m prog _ _ ⟨Wz f (f 0) (.slice (some (T_ b o)) n c) (f 2) (f 5) kp (f 7) (.int .i64 i) (f 43),[]⟩ _;unfold Wz;gi_wp2;exact⟨rfl,rfl,⟨_,CU rfl (by simp[ptr])⟩,(Ab.refl _ _).alloc _,heap_alloc_new rfl⟩
theorem ap2 (CO iv:Value) (C M sb:Nat) (K:KS) (h:AQ K w) (ok:DZ C M K):(tT prog).wpIn NF m prog (Ends fun tm w'=>∃g Gc,tm=TN 148 (AR g [(1,CO),(6,ptr K.kb),(8,iv),(9,ptr sb),(10,Gc)])/\Ab No w w'/\Vq K w.heap.size Gc K.AJ.length w') ⟨TN 148 (AR f [(1,CO),(6,ptr K.kb),(8,iv),(9,ptr sb)]),[]⟩ w:=by
 unfold tT aI aL aq;rw[KM];dsimp only[Tryz.f5,Option.getD,behind,piece];show Code.wpIn (Fence.list LF none) m prog _ _ ⟨QF f CO (ptr K.kb) iv (ptr sb) (f 10),[]⟩ _;unfold QF ptr;gi_wp2_with fail;refine(ap4 _ w C M K h ok).mono ?_;rintro e w1 ⟨K1,v,rfl,hv⟩;gi_wp2;exact⟨rfl,rfl,_,v,CU rfl (by simp),K1,hv⟩
theorem ap1 (CO kp iv Gc:Value) (sb r4:Nat) (kd:Int) (G8:-9223372036854775808<=kd) (Kn:kd<=9223372036854775807) (hr4:NU kd 4=r4) (hs:w.cell? (S_ sb)=some (.int .i64 kd)):(tQ prog).wpIn NF m prog (Ends fun tm w'=>(∃g,tm=TN 148 (AR g [(1,CO),(6,kp),(8,iv),(9,ptr sb),(10,Gc),(43,.int .i64 r4)]))/\Ab No w w') ⟨TN 148 (AR f [(1,CO),(6,kp),(8,iv),(9,ptr sb),(10,Gc)]),[]⟩ w:=by
 unfold tQ aZ aI aL aq;rw[KM];dsimp only[Tryz.f5,Option.getD,behind,piece];show Code.wpIn (Fence.list LF none) m prog _ _ ⟨QF f CO kp iv (ptr sb) Gc,[]⟩ _;unfold QF ptr;gi_wp2_with fail;refine(ZT _ w kd 4 r4 G8 Kn (by omega) (by omega) hr4).mono ?_;rintro e w1 ⟨rfl,hw⟩;have hw:=hw.symm;subst hw;gi_wp2;exact⟨rfl,rfl,⟨_,CU rfl (by simp)⟩,Ab.refl _ _⟩
theorem bd9 (CO iv Gc:Value) (C M sb r4:Nat) (kd pid nn:Int) (K:KS) (h:AQ K w) (ok:DZ C M K) (G8:-9223372036854775808<=kd) (Kn:kd<=9223372036854775807) (hr4:NU kd 4=r4) (h2:r4=2\/r4=3) (hs:w.heap[sb]?=some (.cells #[.int .i64 kd,.int .i64 pid,.int .i64 nn] 38 (0,0))):
  (aZ prog).wpIn NF m prog (Ends (wZ CO iv Gc sb K C M w)) ⟨TN 148 (AR f [(1,CO),(6,ptr K.kb),(8,iv),(9,ptr sb),(10,Gc)]),[]⟩ w:=by
 have s0:w.cell? (S_ sb)=some (.int .i64 kd):=bce hs rfl;have s1:w.cell? (T_ sb 1)=some (.int .i64 pid):=bce hs rfl;have hpk:=fun m=>ZT m w kd 4 r4 G8 Kn (by omega) (by omega) hr4
 have hO:=fun m=>am6 m w K C pid h ok.th ok.nd ok.co (by have:=ok.len;omega)
 have hI:=fun m=>ay1 m w K C pid h ok.th ok.nd ok.co (by have:=ok.len;omega)
 unfold aZ aI aL aq;rw[KM];dsimp only[Tryz.f5,Option.getD,behind,piece];show Code.wpIn (Fence.list LF none) m prog _ _ ⟨QF f CO (ptr K.kb) iv (ptr sb) Gc,[]⟩ _;unfold QF ptr;rcases h2 with rfl|rfl
 all_goals
  clear hr4
  gi_wp2_with (first|(gi_at_call 16;refine(hpk _).mono ?_;rintro e w' ⟨rfl,hw⟩;have hw:=hw.symm;subst hw)|(gi_at_call 17;refine(hO _).mono ?_;rintro e w1 ⟨⟨s,rfl⟩,K',ka,hM,hC,M1⟩)|(gi_at_call 18;refine(hI _).mono ?_;rintro e w1 ⟨⟨s,rfl⟩,K',ka,hM,hC,M1⟩))
  exact⟨rfl,rfl,_,K',CU rfl (by simp[ptr]),ka,ok.moved hM hC,hM,M1⟩
end
section
variable {Od:Old} {v0:World} {cs:Z_} {R:Frame×Z_->World->Prop} {s:Option Addr} {b o n c C M:Nat}
theorem Y9 {i sb r4 base:Nat} {kd pid nn:Int} {K K':KS} {Gc:Value} {g:Nat->Value} {v v':World} (hn:n<9223372036854775808) (hi:i<n)
  (next:∀(f:Y_) (K:KS) (v:World),AQ K v->DZ C M K->Ab No v0 v->(∀k,K.T k≠(0,0)->v0.heap.size<=k)->Goes Od prog (yA (.slice s n c) (ptr K.kb) (.int .i64 (i+1:Nat)) cs f) v R)
  (G8:-9223372036854775808<=kd) (Kn:kd<=9223372036854775807) (hr4:NU kd 4=r4) (ok:DZ C M K) (h0:Ab No v0 v) (ht:∀k,K.T k≠(0,0)->v0.heap.size<=k) (hb:∀k,base<=k->K.T k=(0,0)) (hsb:base<=sb)
  (hs:v.heap[sb]?=some (.cells #[.int .i64 kd,.int .i64 pid,.int .i64 nn] 38 (0,0))) (GG:Vq K base Gc K.AJ.length v) (yN:AQ K' v') (ok':DZ C M K') (Mv:Bw K.T K'.T v v') (hA:Q6 K K' pid (r4<2)) (hkb:K'.kb=K.kb):
  Goes Od prog (Frame.mk 5 (TN 148 (AR g [(1,.slice s n c),(6,ptr K.kb),(8,.int .i64 i),(9,ptr sb),(10,Gc)])) (.code (aW prog)::.inBlock 1::.code (lY prog)::[.inLoop (aL prog),.inBlock 0,.code (aX prog 6)]) [] .run .normal none,cs) v' R:=by
 rw[<-hkb];obtain⟨l0,lt⟩:=Mv.low h0 ht;have FD:=Mv.old hs (hb sb hsb);have ao2:=GG.Qb Mv hb;refine Goes.part (m:=0) iV rfl ae2 (fun v1 K1=>wJ 0 v1 _ C M base K K' _ (.int .i64 i) Gc sb r4 kd pid nn G8 Kn hr4 (K1.old FD id) (yN.no K1) ok' (let ⟨xs,q1,q2⟩:=ao2;⟨xs,O5 q1 K1,q2.no K1⟩) ok.len (fun x r hr=>⟨(ok.co.pl x r hr).1,by
   have o:=ok.pr x r hr
   cases hen:r.en with
   | true=>rw[(o.off hen).1];simp
   | false=>rw[o.fds hen];exact Nat.le_refl _⟩) hA) fun v1 tm v2 K1 ⟨⟨g2,e⟩,K2⟩=>?_
 subst e;have k2:=K1.then K2;refine Goes.Av (x:=uA (.slice s n c) (ptr K'.kb) (.int .i64 i) cs g2) (av5 _ _ _ _ _) ?_;rw[av4];refine Goes.part (m:=0) iV rfl wO (fun v1 _=>be0 0 v1 _ _ _ i (by omega)) fun v3 tm v4 K3 ⟨⟨g4,e⟩,K4⟩=>?_
 subst e;have k4:=k2.then (K3.then K4);refine Goes.Av (x:=uB (.slice s n c) (ptr K'.kb) (.int .i64 (i+1:Nat)) cs g4) (av3 _ _ _ _ _) ?_;rw[av2];exact next g4 K' v4 (yN.no k4) ok' (l0.then k4) lt
theorem QY (hn:n<9223372036854775808) (hs:0<n->s=some (T_ b o)) (BH:∀i,i<n->∃kd pid nn,Ky v0 b o i kd pid nn)
  (hk:∀v' g todo,Ab No v0 v'->Goes Od prog (Frame.mk 5 (TN 148 (AR g [(4,.bool true)])) todo [] .returning .normal none,cs) v' R) {i:Nat} {f:Nat->Value} {K:KS} {v:World} (ka:AQ K v) (ok:DZ C M K) (h0:Ab No v0 v) (ht:∀k,K.T k≠(0,0)->v0.heap.size<=k)
  (next:i<n->∀(f:Y_) (K:KS) (v:World),AQ K v->DZ C M K->Ab No v0 v->(∀k,K.T k≠(0,0)->v0.heap.size<=k)->Goes Od prog (yA (.slice s n c) (ptr K.kb) (.int .i64 (i+1:Nat)) cs f) v R):Goes Od prog (yA (.slice s n c) (ptr K.kb) (.int .i64 (i:Nat)) cs f) v R:=by
  refine Goes.Av (as0 _ _ _ _ _) ?_;rw[show run prog 2 (yA (.slice s n c) (ptr K.kb) (.int .i64 (i:Nat)) cs f)=yB (.slice s n c) (ptr K.kb) (.int .i64 (i:Nat)) cs f from rfl,at_toldM (l:=[(1,.slice s n c),(6,ptr K.kb),(8,.int .i64 (i:Nat))]) (ar9 _ _ _ _ _) (ar8 _ _ _ _ _) (ar7 _ _ _ _ _)];refine Goes.part (m:=0) iV rfl wP (fun v1 _=>be1 0 v1 _ _ s n c i) fun v1 tm v2 K1 ⟨⟨g2,e⟩,K2⟩=>?_
  subst e;have k2:=K1.then K2;by_cases hi:i<n
  ·obtain rfl:=hs (by omega);rw[decide_eq_true hi];refine Goes.Av (x:=yC (.slice (some (T_ b o)) n c) (ptr K.kb) (.int .i64 (i:Nat)) cs g2 true) (ar6 _ _ _ _ _) ?_;rw[show run prog 4 (yC (.slice (some (T_ b o)) n c) (ptr K.kb) (.int .i64 (i:Nat)) cs g2 true)=yD (.slice (some (T_ b o)) n c) (ptr K.kb) (.int .i64 (i:Nat)) cs g2 from rfl,at_toldM (l:=[(1,.slice (some (T_ b o)) n c),(6,ptr K.kb),(8,.int .i64 (i:Nat))]) (ar5 _ _ _ _ _) (ar4 _ _ _ _ _) (ar3 _ _ _ _ _),ae3];obtain⟨kd,pid,nn,hS⟩:=BH i hi;refine Goes.seq (Goes.part (m:=0) iV rfl rH (fun v1 K3=>ap3 0 v1 _ (ptr K.kb) b o n c i kd pid nn hi (hS.no ((h0.then k2).then K3))) fun v3 tm v4 K3 ⟨⟨g4,e⟩,K4,hb4⟩=>?_);subst e;have k3:=k2.then K3;have k4:=k3.then K4;have tb:∀k,v3.heap.size<=k->K.T k=(0,0):=fun k hk=>ka.lt k (Nat.le_trans k3.size hk)
   refine Goes.seq (Goes.part (m:=0) iV rfl rG (fun v1 K5=>ap2 0 v1 _ _ (.int .i64 (i:Nat)) C M v3.heap.size K (ka.no (k4.then K5)) ok) fun v5 tm v6 K5 ⟨g6,Gc,e,K6,GG⟩=>?_);subst e;have k5:=k4.then K5;have k6:=k5.then K6;have hb6:=K6.old (K5.old hb4 id) id;have GG:Vq K v3.heap.size Gc K.AJ.length v6:=let ⟨xs,q1,q2⟩:=GG;⟨xs,Qr q1 (Nat.le_trans K4.size K5.size),fun i b hi hb=>let ⟨r,st,v7,v8,p1,p2,p3,p4,p5⟩:=q2 i b hi hb;⟨r,st,v7,v8,p1,p2,p3.mono (Nat.le_trans K4.size K5.size),p4.mono (Nat.le_trans K4.size K5.size),p5⟩⟩
   have next:=next hi
   have h6:=ka.no k6;have l6:=h0.then k6;have hr4:NU kd 4<4:=qy kd (by omega);generalize hq:NU kd 4=r4 at hr4;have after:=fun(K':KS) (g:Y_) (v v':World) (hK:Ab No v6 v)=>Y9 (Od:=Od) (K':=K') (g:=g) (v':=v') hn hi next hS.1 hS.2.1 hq ok (l6.then hK) ht tb (Nat.le_refl _) (hK.old hb6 id) (let ⟨xs,q1,q2⟩:=GG;⟨xs,O5 q1 hK,q2.no hK⟩)
   by_cases h2:r4=2\/r4=3
   ·refine Goes.seq (Goes.part (m:=0) iV rfl ae1 (fun v1 K7=>bd9 0 v1 _ _ (.int .i64 (i:Nat)) Gc C M v3.heap.size r4 kd pid nn K (h6.no K7) ok hS.1 hS.2.1 hq h2 (K7.old hb6 id)) fun v7 tm v8 K7 ⟨g8,K',e,yN,ok',hM,M1⟩=>?_);subst e;exact after K' g8 v7 v8 K7 yN ok' M1 (Q6.moved hM) hM.kb
   ·rw[ae0];refine Goes.seq (Goes.seq (Goes.part (m:=0) iV rfl rF (fun v1 K7=>ap1 0 v1 _ _ (ptr K.kb) (.int .i64 (i:Nat)) Gc v3.heap.size r4 kd hS.1 hS.2.1 hq (by rw[Ag (K7.old hb6 id)];rfl)) fun v7 tm v8 K7 ⟨⟨g8,e⟩,K8⟩=>?_));subst e;have k8:=K7.then K8;have hb8:=k8.old hb6 id;have c1:v8.cell? (T_ v3.heap.size 1)=some (.int .i64 pid):=bce hb8 rfl;have c2:v8.cell? (T_ v3.heap.size 2)=some (.int .i64 nn):=bce hb8 rfl;have fin:∀(g:Y_) (K':KS) (told:Value) (e:Int) (v':World),pq false C M K pid v8 told e v' K'->Goes Od prog (Frame.mk 5 (TN 148 (AR g [(1,.slice (some (T_ b o)) n c),(6,ptr K.kb),(8,.int .i64 i),(9,ptr v3.heap.size),(10,Gc)])) (.code (aW prog)::.inBlock 1::.code (lY prog)::[.inLoop (aL prog),.inBlock 0,.code (aX prog 6)]) [] .run .normal none,cs) v' R:=fun g K' told e v' hP=>by
     rcases hP.rel with e|⟨x,r,hm,hx,NQ,hR⟩
     ·have mv:=hP.mv;have yN:=hP.ka;rw[e]at mv yN;exact after K g v8 v' k8 yN ok mv Q6.same rfl
     ·exact after K' g v8 v' k8 hP.ka hP.ok hP.mv (Q6.rel ok hm hx NQ (by omega) hR) hR.kb
    have hr:r4=0\/r4=1:=(by omega);rcases hr with rfl|rfl
    ·refine Goes.Av (x:=zA (.slice (some (T_ b o)) n c) (ptr K.kb) (.int .i64 (i:Nat)) Gc cs g8 v3.heap.size 0) (al8 _ _ _ _ _ _ _) ?_;show Goes Od prog (zB _ _ _ _ _ _ _ 0) v8 R;refine Goes.reads (al6 _ _ _ _ _ _ _ pid) ⟨c1,trivial⟩ ?_;refine Goes.Av (al4 _ _ _ _ _ _ _ _) ?_;show Goes Od prog (zC _ _ _ _ _ _ _ _ 0) v8 R;refine Goes.reads (al3 _ _ _ _ _ _ _ _ nn) ⟨c2,trivial⟩ ?_;refine Goes.Av (al0 _ _ _ _ _ _ _ _ _) ?_;rw[ak9];refine Qq (bg:=false) (NC:=C) (NS:=M) (h6.no k8) ok (fun h=>by cases h) fun told e v' K' hP=>?_
     refine Goes.Av (ak6 _ _ _ _ _ _ _ _ _ _ _) ?_;rw[show run prog 2 ((zD (.slice (some (T_ b o)) n c) (ptr K.kb) (.int .i64 (i:Nat)) Gc cs g8 v3.heap.size pid nn 0).finish (.tuple #[told,.int .i64 e]),cs)=zE (.slice (some (T_ b o)) n c) (ptr K.kb) (.int .i64 (i:Nat)) told (.int .i64 e) Gc cs g8 v3.heap.size pid nn 0 from rfl,at_toldM (l:=[(1,.slice (some (T_ b o)) n c),(6,ptr K.kb),(8,.int .i64 (i:Nat)),(9,ptr v3.heap.size),(10,Gc)]) (ak5 _ _ _ _ _ _ _ _ _ _ _) (ak4 _ _ _ _ _ _ _ _ _ _ _) (ak3 _ _ _ _ _ _ _ _ _ _ _)];exact fin _ K' told e v' hP
    ·refine Goes.Av (x:=zA (.slice (some (T_ b o)) n c) (ptr K.kb) (.int .i64 (i:Nat)) Gc cs g8 v3.heap.size 1) (al7 _ _ _ _ _ _ _) ?_;show Goes Od prog (zB _ _ _ _ _ _ _ 1) v8 R;refine Goes.reads (al5 _ _ _ _ _ _ _ pid) ⟨c1,trivial⟩ ?_;refine Goes.Av (al2 _ _ _ _ _ _ _ _) ?_;show Goes Od prog (zC _ _ _ _ _ _ _ _ 1) v8 R;refine Goes.reads (al1 _ _ _ _ _ _ _ _ nn) ⟨c2,trivial⟩ ?_;refine Goes.Av (ak8 _ _ _ _ _ _ _ _ _) ?_;rw[ak7];refine Qq (bg:=false) (NC:=C) (NS:=M) (h6.no k8) ok (fun h=>by cases h) fun told e v' K' hP=>?_
     refine Goes.Av (ak2 _ _ _ _ _ _ _ _ _ _ _) ?_;rw[show run prog 2 ((zD (.slice (some (T_ b o)) n c) (ptr K.kb) (.int .i64 (i:Nat)) Gc cs g8 v3.heap.size pid nn 1).finish (.tuple #[told,.int .i64 e]),cs)=zE (.slice (some (T_ b o)) n c) (ptr K.kb) (.int .i64 (i:Nat)) told (.int .i64 e) Gc cs g8 v3.heap.size pid nn 1 from rfl,at_toldM (l:=[(1,.slice (some (T_ b o)) n c),(6,ptr K.kb),(8,.int .i64 (i:Nat)),(9,ptr v3.heap.size),(10,Gc)]) (ak1 _ _ _ _ _ _ _ _ _ _ _) (ak0 _ _ _ _ _ _ _ _ _ _ _) (aj9 _ _ _ _ _ _ _ _ _ _ _)];exact fin _ K' told e v' hP
  ·rw[decide_eq_false hi];refine Goes.Av (x:=yC (.slice s n c) (ptr K.kb) (.int .i64 (i:Nat)) cs g2 false) (ar2 _ _ _ _ _) ?_;rw[show run prog 2 (yC (.slice s n c) (ptr K.kb) (.int .i64 (i:Nat)) cs g2 false)=yE (.slice s n c) (ptr K.kb) (.int .i64 (i:Nat)) cs g2 from rfl,at_toldM (l:=[]) (ar1 _ _ _ _ _) rfl (ar0 _ _ _ _ _)];refine Goes.mg (m:=0) iV rfl wU (fun v1 _=>be2 0 v1 _) fun v3 tm todo v4 K3 ⟨⟨g4,e⟩,K4⟩=>?_
   subst e;exact hk v4 g4 todo ((h0.then k2).then (K3.then K4))
theorem fu (hn:n<9223372036854775808) (hs:0<n->s=some (T_ b o)) (BH:∀i,i<n->∃kd pid nn,Ky v0 b o i kd pid nn)
  (hk:∀v' g todo,Ab No v0 v'->Goes Od prog (Frame.mk 5 (TN 148 (AR g [(4,.bool true)])) todo [] .returning .normal none,cs) v' R) (d:Nat):
  ∀(i:Nat) (f:Y_) (K:KS) (v:World),n-i=d->AQ K v->DZ C M K->Ab No v0 v->(∀k,K.T k≠(0,0)->v0.heap.size<=k)->Goes Od prog (yA (.slice s n c) (ptr K.kb) (.int .i64 (i:Nat)) cs f) v R:=by
 induction d with
 | zero=>exact fun i f K v hd ka ok h0 ht=>QY hn hs BH hk ka ok h0 ht fun h=>absurd h (by omega)
 | succ d ih=>exact fun i f K v hd ka ok h0 ht=>QY hn hs BH hk ka ok h0 ht fun _ f K v h1 h2 h3 h4=>ih (i+1) f K v (by omega) h1 h2 h3 h4
theorem fw {core swap:Int} {v fv:Value} {np nf:Nat} {fn:Nat->Int} {ff:Nat->Value×Nat×(Nat->Int)} (hP:Zp v0 v np fn) (hF:Qc v0 fv nf ff) (hn:n<9223372036854775808) (hs:0<n->s=some (T_ b o)) (BH:∀i,i<n->∃kd pid nn,Ky v0 b o i kd pid nn)
  (hk:∀v' g todo,Ab No v0 v'->Goes Od prog (Frame.mk 5 (TN 148 (AR g [(4,.bool true)])) todo [] .returning .normal none,cs) v' R):
  Goes Od prog (Frame.enter prog 5 #[.agg #[.int .i64 core,.int .i64 swap,v,fv],.slice s n c] .normal,cs) v0 R:=by
 refine Goes.Av (au5 _ _ _) ?_;rw[show run prog 1 (Frame.enter prog 5 #[.agg #[.int .i64 core,.int .i64 swap,v,fv],.slice s n c] .normal,cs)=xA (.agg #[.int .i64 core,.int .i64 swap,v,fv]) (.slice s n c) cs from rfl,at_toldM (l:=[(0,.agg #[.int .i64 core,.int .i64 swap,v,fv]),(1,.slice s n c)]) (au4 _ _ _) (au3 _ _ _) (au2 _ _ _)];refine Goes.part (m:=0) iV rfl wF (fun v1 _=>be6 0 v1 _ core swap v fv _) fun v1 tm v2 K1 ⟨⟨g2,e⟩,K2,hX⟩=>?_
 subst e;have k2:=K1.then K2;refine Goes.Av (x:=xB (.slice s n c) (ptr v1.heap.size) cs g2) (au1 _ _ _ _) ?_;rw[au0];refine eY fun v3 K3=>?_
 have k3:=k2.then K3;have hX3:=K3.old hX id;refine Goes.Av (at7 _ _ _ _) ?_;rw[show run prog 2 ((xC (.slice s n c) (ptr v1.heap.size) cs g2).finish (.bool true),cs)=xD (.slice s n c) (ptr v1.heap.size) cs g2 from rfl,at_toldM (l:=[(1,.slice s n c),(2,ptr v1.heap.size),(5,.bool true)]) (at6 _ _ _ _) (at5 _ _ _ _) (at0 _ _ _ _),ax 2 (by omega)];refine Goes.seq (Goes.part (m:=0) iV rfl wC (fun v1 _=>be5 0 v1 _ _ _) fun v4 tm v5 K4 ⟨⟨g5,e⟩,K5⟩=>?_);subst e;have k5:=k3.then (K4.then K5);have hX5:=K5.old (K4.old hX3 id) id;rw[ax 3 (by omega)];refine Goes.seq (Goes.part (m:=0) iV rfl wy (fun v1 K6=>be4 0 v1 _ core swap v fv (.slice s n c) _ np nf fn ff (hP.kp (k5.then K6)) (hF.kp (k5.then K6)) (K6.old hX5 id)) fun v6 tm v7 K6 ⟨K7,hN⟩=>?_);have k6:=k5.then K6;have k7:=k6.then K7;rw[ax 4 (by omega)];rcases hN with⟨g7,e⟩|⟨g7,K,C,M,e,ka,ok,ht⟩
 ·subst e;refine Goes.seq (Goes.mg (m:=0) iV rfl iM (fun v1 _=>ap0 0 v1 _ _) fun v8 tm todo v9 K8 ⟨⟨g9,e⟩,K9⟩=>?_);subst e;exact hk v9 g9 todo (k7.then (K8.then K9))
 ·subst e;refine Goes.seq (Goes.part (m:=0) iV rfl iM (fun v1 _=>be3 0 v1 _ _ _) fun v8 tm v9 K8 ⟨⟨g9,e⟩,K9⟩=>?_);subst e;have k89:=K8.then K9;refine Goes.Av (as9 _ _ _ _) ?_;rw[show run prog 7 (Frame.mk 5 (TN 148 (AR g9 [(1,.slice s n c),(6,ptr K.kb)])) [.code (aX prog 5)] [] .run .normal none,cs)=xE (.slice s n c) (ptr K.kb) cs g9 from rfl,at_toldM (l:=[(1,.slice s n c),(6,ptr K.kb),(8,.int .i64 (0:Nat))]) (as8 _ _ _ _) (as7 _ _ _ _) (as6 _ _ _ _)];exact fu hn hs BH hk n 0 _ K v9 (by omega) (ka.no k89) ok (k7.then k89) (fun k hk=>Nat.le_trans k6.size (ht k hk))
end
end Go.Fxa
namespace Go.Fxa
open Go.Conc Go.Proofs Go.RowKit Go.ChangeShapes
def mi:Obj->Bool
 | .view ..=>true
 | o=>!o.plain
def Odd (W:World) (r:Nat):Prop:=∃o,W.heap[r]?=some o/\mi o=true
abbrev nG (W:World):Old:=⟨Odd W,fun r=>(W.heap[r]?).getD CB⟩
section
def EU (W:World):World:={ W with heap:=W.heap.map fun o=>if mi o then CB else o }
theorem Jh (W:World):(EU W).heap.size=W.heap.size:=by simp[EU]
theorem QN {W:World} {r:Nat} (h:Odd W r):(EU W).heap[r]?=some CB:=by
 obtain⟨o,h1,h2⟩:=h;simp[EU,h1,h2]
theorem Ji {W:World} {r:Nat} (h:¬Odd W r):(EU W).heap[r]?=W.heap[r]?:=by
 cases e:W.heap[r]? with
 | none=>simp[EU,e]
 | some o=>
  have h2:mi o=false:=by
   cases h3:mi o with
   | false=>rfl
   | true=>exact(h ⟨o,e,h3⟩).elim
  simp[EU,e,h2]
theorem bN (W:World):Twin (nG W) (fun _=>False) (EU W) W:=by
 refine⟨Jh W,fun r _ ho=>Ji ho,fun _ h=>h.elim,fun r o ho=>?_,rfl,rfl,fun r ho=>QN ho,fun r ho=>?_,fun _ _ h=>h⟩
 ·by_cases h:Odd W r
  ·rw[QN h]at ho;cases ho
   rfl
  ·rw[Ji h]at ho;cases e:o.plain with
   | true=>rfl
   | false=>exact(h ⟨o,ho,by cases o<;>first|rfl|simp[mi,e]⟩).elim
 ·obtain⟨o,h1,_⟩:=ho;show W.heap[r]?=some ((W.heap[r]?).getD CB);rw[h1]
  rfl
theorem JP {W:World} {a:Addr} {x:Value} (h:W.cell? a=some x):(EU W).cell? a=some x:=by
 have ne:¬Odd W a.block:=by
  rintro⟨o,h1,h2⟩
  unfold World.cell? at h
  rw[h1]at h
  cases o with
  | cells c t f=>cases h2
  | _=>cases h
 unfold World.cell? at h ⊢;rw[Ji ne];exact h
theorem qC {W v' w':World} {Z:Nat->Prop} (T:Twin (nG W) Z v' w') (K:Ab No (EU W) v'):∀r,r<W.heap.size->w'.heap[r]?=W.heap[r]?:=fun r hr=>by
 by_cases h:Odd W r
 ·have e:=T.kept r h;obtain⟨o,h1,_⟩:=h;rw[e];show some ((W.heap[r]?).getD CB)=W.heap[r]?;rw[h1]
  rfl
 ·have e1:v'.heap[r]?=W.heap[r]?:=(K.block r (by rw[Jh];exact hr) id).trans (Ji h);have nz:¬Z r:=fun hz=>by
   have e2:=T.dead r hz (Nat.lt_of_lt_of_le hr (by have:=K.size;rw[Jh]at this;exact this))
   exact h ⟨CB,e1.symm.trans e2,rfl⟩
  exact(T.same r nz h).symm.trans e1
end
def Stood (W:World) (x:Value) (w':World):Prop:=x=.bool true/\(∀r,r<W.heap.size->w'.heap[r]?=W.heap[r]?)/\W.heap.size<=w'.heap.size/\w'.os=W.os/\w'.output=W.output
theorem fq (W:World) {core swap:Int} {v fv:Value} {np nf:Nat} {fn:Nat->Int} {ff:Nat->Value×Nat×(Nat->Int)} {s:Option Addr} {n c b o:Nat} (hP:Zp W v np fn) (hF:Qc W fv nf ff) (hn:n<9223372036854775808) (hs:0<n->s=some (T_ b o)) (BH:∀i,i<n->∃kd pid nn,Ky W b o i kd pid nn):
  ∃N last x w' t',runNT prog (N+1) (solo (G (Frame.enter prog 5 #[.agg #[.int .i64 core,.int .i64 swap,v,fv],.slice s n c] .normal) []) W) #[]=(.ended x w',t')/\
   runN prog N (solo (G (Frame.enter prog 5 #[.agg #[.int .i64 core,.int .i64 swap,v,fv],.slice s n c] .normal) []) W)=.next last/\step prog last=.ended x w'/\Conc.Good prog (Stood W) last x w' t':=by
 have sl:∀{v:Value} {n:Nat} {f:Nat->Int},Zp W v n f->Zp (EU W) v n f:=fun h=>⟨h.1,fun hn=>let ⟨h1,s,c,e,h2⟩:=h.2 hn;⟨h1,s,c,e,fun hp=>let ⟨b,o,e',h3⟩:=h2 hp;⟨b,o,e',fun i hi=>JP (h3 i hi)⟩⟩⟩
 have hF':Qc (EU W) fv nf ff:=let ⟨s,c,e,h2⟩:=hF;⟨s,c,e,fun hp=>let ⟨b,o,e',h3⟩:=h2 hp;⟨b,o,e',fun i hi=>⟨JP (h3 i hi).1,sl (h3 i hi).2⟩⟩⟩
 have hst':∀i,i<n->∃kd pid nn,Ky (EU W) b o i kd pid nn:=fun i hi=>let ⟨kd,pid,nn,h1,h2,h3,h4,h5⟩:=BH i hi;⟨kd,pid,nn,h1,h2,JP h3,JP h4,JP h5⟩
 have G0:=fw (Od:=nG W) (v0:=EU W) (cs:=[]) (core:=core) (swap:=swap) (c:=c) (R:=fun y v'=>(∃g todo,y=(Frame.mk 5 (TN 148 (AR g [(4,.bool true)])) todo [] .returning .normal none,[]))/\Ab No (EU W) v') (sl hP) hF' hn hs hst' (fun v' g todo K=>.now ⟨⟨g,todo,rfl⟩,K⟩);obtain⟨N,AZ,w',Cz,t',Bg,Z',KO,B',y,v',hu,⟨q,T,hZ,hL,hP,hB⟩,h0,⟨g,todo,rfl⟩,K⟩:=G0 (fun _=>False) (fun _=>False) W.heap.size #[Bv (Frame.enter prog 5 #[.agg #[.int .i64 core,.int .i64 swap,v,fv],.slice s n c] .normal,[])] W none #[] ⟨fun _ h=>h.elim,fun _ h=>h.elim⟩
  ⟨fun _=>0,bN W,fun _ h=>h.elim,leavers_one _ _,past_nil.mono (Nat.zero_le _),Nat.le_refl _⟩ rfl;have at':∀d,Stood W (.bool true) (w'.at d):=fun d=>⟨rfl,(show ∀r,r<W.heap.size->w'.heap[r]?=W.heap[r]? from qC T K),by
  have a:=K.size
  rw[Jh,T.size]at a
  exact a,T.os.symm.trans K.os,T.output.symm.trans K.output⟩
 obtain⟨N2,last,x,w2,t2,r1,r2,r3,r4⟩:=beside_ends (P:=prog) (Shun:=KO) (B:=B') (D:=fun _ _ _=>False) (Post:=Stood W) (fun _ _ _ h=>h.elim) (sl:=Cz) (n:=0) h0 hL hP (show ∀w1,AtRel w' w1->Conc.AtEnd prog KO B' (Stood W) _ w1 from fun w1 ⟨d,e⟩=>by
  subst e
  exact⟨rfl,_,_,kL g todo _,by simp,at' d⟩);refine⟨N+N2,last,x,w2,t2,?_,?_,r3,r4⟩
 ·rw[solo_eq_crowd,Nat.add_assoc,runNT_add];erw [Bg];exact r1
 ·rw[solo_eq_crowd,runN_add];have e:runN prog N (crowd #[Bv (Frame.enter prog 5 #[.agg #[.int .i64 core,.int .i64 swap,v,fv],.slice s n c] .normal,[])] W none)=.next (crowd AZ w' Cz):=by rw[<-runNT_fst _ _ _ #[],Bg]
  erw [e];exact r2
theorem cells3:prog.cellsOf 3=1:=by kernel_rfl
theorem iK:prog.cellsOf 22=1:=by kernel_rfl
theorem vU:prog.cellsOf 23=1:=by kernel_rfl
theorem vT:prog.cellsOf 25=4:=by kernel_rfl
theorem vS:prog.cellsOf 38=3:=by kernel_rfl
section
variable {H:Type} {enc:TypeId×Value->H} {W:World} {sp:Nat->Bool}
theorem R6 {t e:TypeId} (ht:prog.underlying t=some (.slice e)) {fuel:Nat} {c:Value} {x:DataW H×List MemPlace} (h:DataW.trod enc prog W 0 sp true fuel t [c]=some x):∃s n k,c=.slice s n k:=by
 rcases DataW.trod_slice ht h with⟨h1,_⟩|⟨a,len,cap,_,_,_,_,h1,_⟩
 ·cases h1;exact⟨none,0,0,rfl⟩
 ·cases h1;exact⟨some a,len,cap,rfl⟩
theorem UY {fuel:Nat} {s:Option Addr} {n k:Nat} {x:DataW H×List MemPlace} (hsp:∀r,sp r=true) (h:DataW.trod enc prog W 0 sp true fuel 22 [.slice s n k]=some x):∃fn,Zp W (.slice s n k) n fn:=by
 rcases open_ints underlying22 underlying3 cells3 h with⟨h1,_⟩|⟨a,len,cap,zs,h1,_,hlc,_,hz,_,hc,_⟩
 ·cases h1;exact⟨fun _=>0,⟨_,_,rfl⟩,fun _=>⟨by omega,none,0,rfl,fun h=>absurd h (by omega)⟩⟩
 ·cases h1;rw[hsp,if_pos rfl]at hz;refine⟨fun i=>zs.getD i 0,⟨_,_,rfl⟩,fun hn=>⟨by omega,some a,k,rfl,fun hp=>?_⟩⟩;have e0:=hc 0 (by omega);have e:a.spot=none:=by simpa [Addr.add]using World.cell?_spot e0
  obtain⟨ab,ao,asp⟩:=a;simp only at e;subst e;exact⟨ab,ao,rfl,fun i hi=>by have:=hc i (by omega);rw[Addr.add_lit]at this;exact this⟩
theorem cB {fuel:Nat} {s:Option Addr} {n k:Nat} {x:DataW H×List MemPlace} (hsp:∀r,sp r=true) (h:DataW.trod enc prog W 0 sp true fuel 23 [.slice s n k]=some x):∃ff,Qc W (.slice s n k) n ff:=by
 rcases DataW.trod_slice underlying23 h with⟨h1,_⟩|⟨a,len,cap,elems,rest,m,_,h1,h2,_,_,_,hlen,hel,_⟩
 ·cases h1;exact⟨fun _=>(.slice none 0 0,0,fun _=>0),_,_,rfl,fun h=>absurd h (by omega)⟩
 ·cases h1;rw[iK]at hel;have spot:0<n->a.spot=none:=fun hp=>by
   have e:=hel 0 hp
   rw[HZ (by omega)]at e
   obtain⟨cs,h3,_⟩:=Option.bind_eq_some_iff.1 e
   obtain⟨_,hl,hc⟩:=World.cells?_some h3
   have e0:=hc 0 (by omega)
   rw[HZ (by omega)]at e0
   simpa [Addr.add]using World.cell?_spot e0
  have each:∀i,i<n->∃q:Value×Nat×(Nat->Int),W.cell? (T_ a.block (a.off+i))=some q.1/\Zp W q.1 q.2.1 q.2.2/\a.spot=none:=fun i hi=>by
   have e:=hel i hi
   rw[HZ (by omega)]at e
   obtain⟨cs,h3,h4⟩:=Option.bind_eq_some_iff.1 e
   obtain⟨_,hl,hc⟩:=World.cells?_some h3
   match cs,hl with
   | [c0],_=>
    obtain⟨s',n',k',rfl⟩:=R6 underlying22 h4
    obtain⟨fn,hf⟩:=UY hsp h4
    have e0:=hc 0 (by omega)
    have sp0:a.spot=none:=spot (by omega)
    obtain⟨ab,ao,asp⟩:=a
    simp only at sp0
    subst sp0
    rw[Addr.add_lit,Addr.add_lit]at e0
    exact⟨(.slice s' n' k',n',fn),by simpa using e0,hf,rfl⟩
  refine⟨fun i=>if hi:i<n then Classical.choose (each i hi)else(.slice none 0 0,0,fun _=>0),some a,k,rfl,fun hp=>⟨a.block,a.off,?_,fun i hi=>?_⟩⟩
  ·obtain⟨_,_,_,e⟩:=each 0 hp;obtain⟨ab,ao,asp⟩:=a;simp only at e;rw[e]
  ·simp only[dif_pos hi];exact⟨(Classical.choose_spec (each i hi)).1,(Classical.choose_spec (each i hi)).2.1⟩
theorem YJ {fuel:Nat} {c0 c1 c2 c3:Value} {x:DataW H×List MemPlace} (hsp:∀r,sp r=true) (h:DataW.trod enc prog W 0 sp true fuel 25 [c0,c1,c2,c3]=some x):
  ∃co sw np nf fn ff,c0=.int .i64 co/\c1=.int .i64 sw/\Zp W c2 np fn/\Qc W c3 nf ff:=by
 obtain⟨xs,m,rfl,rfl,_,hl,hf⟩:=DataW.trod_struct underlying25 h;have hl4:xs.length=4:=hl
 match xs,hl4 with
 | [y0,y1,y2,y3],_=>
  have t0:DataW.trod enc prog W 0 sp true m 3 [c0]=some y0:=by simpa [cells3]using hf 0 _ rfl
  have t1:DataW.trod enc prog W 0 sp true m 3 [c1]=some y1:=by simpa [cells3]using hf 1 _ rfl
  have t2:DataW.trod enc prog W 0 sp true m 22 [c2]=some y2:=by simpa [iK]using hf 2 _ rfl
  have t3:DataW.trod enc prog W 0 sp true m 23 [c3]=some y3:=by simpa [vU]using hf 3 _ rfl
  obtain⟨co,e0,_⟩:=DataW.trod_int underlying3 t0
  obtain⟨sw,e1,_⟩:=DataW.trod_int underlying3 t1
  obtain⟨s,n,k,rfl⟩:=R6 underlying22 t2
  obtain⟨s',n',k',rfl⟩:=R6 underlying23 t3
  cases e0
  cases e1
  obtain⟨fn,hP⟩:=UY hsp t2
  obtain⟨ff,hF⟩:=cB hsp t3
  exact⟨co,sw,n,n',fn,ff,rfl,rfl,hP,hF⟩
theorem cz {fuel:Nat} {v:Value} {x:DataW H×List MemPlace} (h:DataW.trod enc prog W 0 sp true fuel 31 [v]=some x):
  ∃t k d b o,v=.slice t k d/\k<9223372036854775808/\(0<k->t=some (T_ b o))/\∀i,i<k->∃kd pid nn,Ky W b o i kd pid nn:=by
 rcases DataW.trod_slice underlying31 h with⟨h1,_⟩|⟨a,len,cap,elems,rest,n,_,h1,h2,_,hlc,hcm,hlen,hel,_⟩
 ·cases h1;exact⟨none,0,0,0,0,rfl,by omega,fun h=>absurd h (by omega),fun i hi=>absurd hi (by omega)⟩
 ·cases h1;rw[vS]at hel;have each:∀i,i<len->∃cs y,W.cells? 0 (a.add (i*3)) 3=some cs/\DataW.trod enc prog W 0 sp true n 38 cs=some y:=fun i hi=>by
   have e:=hel i hi
   rw[HZ (by omega)]at e
   obtain⟨cs,h3,h4⟩:=Option.bind_eq_some_iff.1 e
   exact⟨cs,_,h3,h4⟩
  have spot:0<len->a.spot=none:=fun hp=>by
   obtain⟨cs,y,h3,h4⟩:=each 0 hp
   obtain⟨_,hl,hc⟩:=World.cells?_some h3
   have e0:=hc 0 (by omega)
   rw[HZ (by omega)]at e0
   have e1:=World.cell?_spot e0
   simpa [Addr.add]using e1
  refine⟨some a,len,cap,a.block,a.off,rfl,by unfold maxLen at hcm;omega,fun hp=>?_,fun i hi=>?_⟩
  ·have e:=spot hp;obtain⟨ab,ao,asp⟩:=a;simp only at e;rw[e]
  ·obtain⟨cs,y,h3,h4⟩:=each i hi;obtain⟨_,hl,hc⟩:=World.cells?_some h3;have e:=spot (by omega);obtain⟨ab,ao,asp⟩:=a;simp only at e;subst e
   match cs,hl with
   | [c0,c1,c2],_=>
    obtain⟨xs,m,rfl,rfl,_,hl,hf⟩:=DataW.trod_struct underlying38 h4
    have hl3:xs.length=3:=hl
    match xs,hl3 with
    | [y0,y1,y2],_=>
     have t0:DataW.trod enc prog W 0 sp true m 3 [c0]=some y0:=by simpa [cells3]using hf 0 _ rfl
     have t1:DataW.trod enc prog W 0 sp true m 3 [c1]=some y1:=by simpa [cells3]using hf 1 _ rfl
     have t2:DataW.trod enc prog W 0 sp true m 3 [c2]=some y2:=by simpa [cells3]using hf 2 _ rfl
     obtain⟨kd,e0,_,won⟩:=DataW.trod_int underlying3 t0
     obtain⟨pid,e1,_⟩:=DataW.trod_int underlying3 t1
     obtain⟨nn,e2,_⟩:=DataW.trod_int underlying3 t2
     cases e0
     cases e1
     cases e2
     have wr:(IntKind.i64).min<=kd/\kd<=(IntKind.i64).max:=by simpa [Lit.wf]using won
     have mn:(IntKind.i64).min=-9223372036854775808:=by decide
     have mx:(IntKind.i64).max=9223372036854775807:=by decide
     have go:∀q,q<3->W.cell? (T_ ab (ao+i*3+q))=([.int .i64 kd,.int .i64 pid,.int .i64 nn]:U_)[q]?:=fun q hq=>by
      have:=hc q hq
      rw[Addr.add_lit,Addr.add_lit]at this
      exact this
     exact⟨kd,pid,nn,by omega,by omega,go 0 (by omega),go 1 (by omega),go 2 (by omega)⟩
end
end Go.Fxa
