/- What is told of a process that goes on: the predicates. The pieces of goOn, walked: opening, step, asked, ended. The pieces of goOn, walked: a call is served, told, answered; the bad end. -/
import Derived.Test.YtmhplpfpcnjekaaGreatK20
namespace Go.Fxa
open Go.Conc
open Go.Proofs
open Go.RowKit
theorem ad1 {w w':World} {base:Nat} {e:TypeId} {size:Nat} {v:Value} {n:Nat} {xs:List Value} {S:Nat→Prop} (h:w.ownsRow base e size v n xs) (hK:Keep S w w') (hn:∀g,base≤g→¬S g):w'.ownsRow base e size v n xs:=by
 obtain⟨h1,h2⟩:=h
 refine⟨h1,?_⟩
 rcases h2 with h2|⟨g,cap,cur,a,b,c,d⟩
 ·exact .inl h2
 ·exact .inr ⟨g,cap,cur,a,b,hK.old c (hn g b),d⟩
theorem ac7 {c:Code} {Q:Exit→Act→World→Prop} {m n:Nat} {f:Nat→Value} {w:World} {A:Array Value} (h:TN n f=A) (k:Code.wpIn (Fence.list LF none) m Tryz.prog c Q ⟨A,[]⟩ w):c.wpIn NF m Tryz.prog Q ⟨TN n f,[]⟩ w:=by
 rw[h]
 exact k
def ToldE (base:Nat) (told:Value) (w:World) (evs:List (Nat×Nat×Nat)):Prop:=w.ownsRow base 59 4 told evs.length (evsC evs)
section
variable (b:KB) (s0:Nat×Nat×Nat) (v0:World) (n:Nat)
abbrev KB.r (b:KB) (s:Nat×Nat×Nat):Nat×Nat×Nat×Nat×Nat:=ai2 b.L b.img s.1 s.2.1 s.2.2
abbrev KB.e (b:KB) (s:Nat×Nat×Nat):Option (Nat×Nat×Nat)×List (Nat×Nat×Nat):=ac8 b.L b.img s
abbrev KB.at (b:KB) (s0:Nat×Nat×Nat) (j:Nat):KB:=b.im (imgE b.L b.img s0 j)
structure Going (j:Nat) (s:Nat×Nat×Nat) (evs:List (Nat×Nat×Nat)) (told:Value) (v:World) (A B P:Nat):Prop where
 run:runE b.L b.img s0 j=(some s,evs)
 on:(b.at s0 j).on true A B P v
 keep:Keep b.foot v0 v
 told:ToldE v0.heap.size told v evs
 fit:(b.at s0 j).Fit
def SI (i:Int) (told:Value) (v:World):Prop:=∃j s evs,i=(j:Nat)∧Going b s0 v0 j s evs told v s.1 s.2.1 s.2.2
def SC (i:Int) (told x:Value) (v:World):Prop:=∃j s evs,i=(j:Nat)∧j<n∧((b.at s0 j).r s).1=1∧x=.int .u16 ((b.at s0 j).r s).2.1∧Going b s0 v0 j s evs told v ((b.at s0 j).r s).2.2.1 ((b.at s0 j).r s).2.2.2.1 ((b.at s0 j).r s).2.2.2.2
def SB (told:Value) (v:World):Prop:=∃j s evs,j<n∧((b.at s0 j).r s).1=2∧¬IsPut b.L (imgE b.L b.img s0 j) s∧Going b s0 v0 j s evs told v ((b.at s0 j).r s).2.2.1 ((b.at s0 j).r s).2.2.2.1 ((b.at s0 j).r s).2.2.2.2
def Res (s:Nat×Nat×Nat) (res wr:Nat) (v:World):Prop:=
 (∃A B P,b.on true A B P v∧(b.e s).1=some (res,wr,P))∨(b.off v∧(∃st,v.heap[b.pb]?=some (dead st))∧(b.e s).1=none)
structure Answ (bA res wr:Nat) (v:World):Prop where
 blk:v.heap[bA]?=some (.cells #[.int .u16 res,.int .u16 wr,.nilFunc] 206 (0,0))
 new:v0.heap.size≤bA
 res:res<65536
 wr:wr<65536
def Same (j:Nat):Prop:=imgE b.L b.img s0 (j+1)=imgE b.L b.img s0 j∧(b.at s0 j).Fit
def SD (i:Int) (told x:Value) (bA:Nat) (v:World):Prop:=∃j s evs call res wr,i=(j:Nat)∧j<n∧x=.int .u16 (call:Nat)∧call<65536∧runE b.L b.img s0 j=(some s,evs)∧((b.at s0 j).e s).2=[(call,res,wr)]∧Keep b.foot v0 v∧ToldE v0.heap.size told v evs∧Answ v0 bA res wr v∧Res (b.at s0 j) s res wr v∧Same b s0 j
def SE0 (i:Int) (told:Value) (bA:Nat) (v:World):Prop:=∃j s evs res wr,i=(j:Nat)∧j<n∧runE b.L b.img s0 (j+1)=(((b.at s0 j).e s).1,evs)∧Keep b.foot v0 v∧ToldE v0.heap.size told v evs∧Answ v0 bA res wr v∧Res (b.at s0 j) s res wr v∧Same b s0 j
def SE (i:Int) (told:Value) (bA:Nat) (v:World):Prop:=∃j evs res wr A B P,i=(j:Nat)∧j<n∧runE b.L b.img s0 (j+1)=(some (res,wr,P),evs)∧Keep b.foot v0 v∧ToldE v0.heap.size told v evs∧Answ v0 bA res wr v∧(b.at s0 j).on true A B P v∧Same b s0 j
def SA (i:Int) (told A:Value) (v:World):Prop:=∃j evs res wr A' B P,i=(j:Nat)∧j<n∧res<65536∧wr<65536∧A=.agg #[.int .u16 (res:Nat),.int .u16 (wr:Nat),.nilFunc]∧runE b.L b.img s0 (j+1)=(some (res,wr,P),evs)∧Keep b.foot v0 v∧ToldE v0.heap.size told v evs∧(b.at s0 j).on true A' B P v∧Same b s0 j
def SF (told:Value) (v:World):Prop:=∃r evs,runE b.L b.img s0 n=(r,evs)∧Keep b.foot v0 v∧ToldE v0.heap.size told v evs∧(∀s,r=some s→(b.at s0 n).on true s.1 s.2.1 s.2.2 v∧(b.at s0 n).Fit)∧(r=none→b.off v)
def SO (v:World):Prop:=Keep No v0 v∧∃co,b.on co s0.1 s0.2.1 s0.2.2 v
def SO2 (v:World):Prop:=Keep b.foot v0 v∧b.on true s0.1 s0.2.1 s0.2.2 v
variable {b s0 v0 n}
theorem ToldE.more {base:Nat} {told:Value} {v v':World} {evs:List (Nat×Nat×Nat)} (h:ToldE base told v evs) (hK:Keep No v v'):ToldE base told v' evs:=ad1 h hK fun _ _ x=>x
theorem Going.more {j:Nat} {s:Nat×Nat×Nat} {evs:List (Nat×Nat×Nat)} {told:Value} {v v':World} {A B P:Nat} (h:Going b s0 v0 j s evs told v A B P) (hK:Keep No v v'):Going b s0 v0 j s evs told v' A B P:=
 ⟨h.run,h.on.keep hK fun _ _ x=>x,h.keep.then hK.no,h.told.more hK,h.fit⟩
theorem Answ.more {bA res wr:Nat} {v v':World} (h:Answ v0 bA res wr v) (hK:Keep No v v'):Answ v0 bA res wr v':=⟨hK.old h.blk id,h.new,h.res,h.wr⟩
theorem Res.more {s:Nat×Nat×Nat} {res wr:Nat} {v v':World} (h:Res b s res wr v) (hK:Keep No v v'):Res b s res wr v':=by
 rcases h with⟨A,B,P,h1,h2⟩|⟨h1,⟨st,h2⟩,h3⟩
 ·exact .inl ⟨A,B,P,h1.keep hK fun _ _ x=>x,h2⟩
 ·exact .inr ⟨h1.keep hK id,⟨st,hK.old h2 id⟩,h3⟩
theorem SI.more {i:Int} {told:Value} {v v':World} (h:SI b s0 v0 i told v) (hK:Keep No v v'):SI b s0 v0 i told v':=let ⟨j,s,evs,h1,h2⟩:=h;⟨j,s,evs,h1,h2.more hK⟩
theorem SC.more {i:Int} {told x:Value} {v v':World} (h:SC b s0 v0 n i told x v) (hK:Keep No v v'):SC b s0 v0 n i told x v':=let ⟨j,s,evs,h1,h2,h3,h4,h5⟩:=h;⟨j,s,evs,h1,h2,h3,h4,h5.more hK⟩
theorem SB.more {told:Value} {v v':World} (h:SB b s0 v0 n told v) (hK:Keep No v v'):SB b s0 v0 n told v':=let ⟨j,s,evs,h1,h2,h3,h5⟩:=h;⟨j,s,evs,h1,h2,h3,h5.more hK⟩
theorem SD.more {i:Int} {told x:Value} {bA:Nat} {v v':World} (h:SD b s0 v0 n i told x bA v) (hK:Keep No v v'):SD b s0 v0 n i told x bA v':=by
 obtain⟨j,s,evs,call,res,wr,h1,h2,h3,h4,h5,h6,h7,h8,h9,h10,h11⟩:=h
 exact⟨j,s,evs,call,res,wr,h1,h2,h3,h4,h5,h6,h7.then hK.no,h8.more hK,h9.more hK,h10.more hK,h11⟩
theorem SE0.more {i:Int} {told:Value} {bA:Nat} {v v':World} (h:SE0 b s0 v0 n i told bA v) (hK:Keep No v v'):SE0 b s0 v0 n i told bA v':=by
 obtain⟨j,s,evs,res,wr,h1,h2,h6,h7,h8,h9,h10,h11⟩:=h
 exact⟨j,s,evs,res,wr,h1,h2,h6,h7.then hK.no,h8.more hK,h9.more hK,h10.more hK,h11⟩
theorem SE.more {i:Int} {told:Value} {bA:Nat} {v v':World} (h:SE b s0 v0 n i told bA v) (hK:Keep No v v'):SE b s0 v0 n i told bA v':=by
 obtain⟨j,evs,res,wr,A,B,P,h1,h2,h6,h7,h8,h9,h10,h11⟩:=h
 exact⟨j,evs,res,wr,A,B,P,h1,h2,h6,h7.then hK.no,h8.more hK,h9.more hK,h10.keep hK fun _ _ x=>x,h11⟩
theorem SA.more {i:Int} {told A:Value} {v v':World} (h:SA b s0 v0 n i told A v) (hK:Keep No v v'):SA b s0 v0 n i told A v':=by
 obtain⟨j,evs,res,wr,A',B,P,h1,h2,h3,h4,h5,h6,h7,h8,h9,h10⟩:=h
 exact⟨j,evs,res,wr,A',B,P,h1,h2,h3,h4,h5,h6,h7.then hK.no,h8.more hK,h9.keep hK fun _ _ x=>x,h10⟩
theorem SF.more {told:Value} {v v':World} (h:SF b s0 v0 n told v) (hK:Keep No v v'):SF b s0 v0 n told v':=by
 obtain⟨r,evs,h1,h2,h3,h4,h5⟩:=h
 exact⟨r,evs,h1,h2.then hK.no,h3.more hK,fun s hs=>⟨(h4 s hs).1.keep hK fun _ _ x=>x,(h4 s hs).2⟩,fun hr=>(h5 hr).keep hK id⟩
theorem SO.more {v v':World} (h:SO b s0 v0 v) (hK:Keep No v v'):SO b s0 v0 v':=let ⟨h1,co,h2⟩:=h;⟨h1.then hK,co,h2.keep hK fun _ _ x=>x⟩
theorem SO2.more {v v':World} (h:SO2 b s0 v0 v) (hK:Keep No v v'):SO2 b s0 v0 v':=⟨h.1.then hK.no,h.2.keep hK fun _ _ x=>x⟩
end
section
variable {b:KB} {w:World} {co:Bool} {A B P:Nat} {ks prs:Array Value} {v0 v1:Value}
theorem KB.At.off3 (h:b.At w co A B P ks prs v0 v1) {k:Nat} (hk:k=b.prb∨k=b.ib∨k=b.fb∨k=b.sb):¬(k=b.kb∨k=b.cb∨k=b.pb):=by
 obtain⟨n1,n2,n3,n4,n5,n6,n7,n8,n9,n10,n11,n12,n13,n14,n15,n16,n17,n18,n19,n20,n21⟩:=h.ne
 rcases hk with rfl|rfl|rfl|rfl
 ·rintro(e|e|e)
  ·exact n12 e.symm
  ·exact n18 e
  ·exact n15 e.symm
 ·rintro(e|e|e)
  ·exact n2 e
  ·exact n3 e
  ·exact n1 e
 ·rintro(e|e|e)
  ·exact n7 e
  ·exact n8 e
  ·exact n6 e
 ·rintro(e|e|e)
  ·exact n14 e.symm
  ·exact n20 e.symm
  ·exact n17 e.symm
theorem KB.At.off1 (h:b.At w co A B P ks prs v0 v1) {k:Nat} (hk:k=b.kb∨k=b.prb∨k=b.cb∨k=b.sb∨k=b.ib∨k=b.fb):¬Go.Fxa.At b.pb k:=by
 obtain⟨n1,n2,n3,n4,n5,n6,n7,n8,n9,n10,n11,n12,n13,n14,n15,n16,n17,n18,n19,n20,n21⟩:=h.ne
 intro e
 have e:k=b.pb:=e
 rcases hk with rfl|rfl|rfl|rfl|rfl|rfl
 ·exact n11 e
 ·exact n15 e.symm
 ·exact n16 e.symm
 ·exact n17 e.symm
 ·exact n1 e
 ·exact n6 e
end
theorem af3 (v:World) (τ:Nat→Question→Nat) (d:Nat):Keep No v (v.re τ d):=⟨rfl,rfl,Nat.le_refl _,fun _ _ _=>rfl⟩
theorem grows_keep {v v':World} (h:Grows v v'):Keep No v v':=⟨h.2.2.1,h.2.2.2,h.1,fun k hk _=>h.2.1 k hk⟩
theorem af1 {a:Array Value} {n:Nat} {l:List (Nat×Value)} (hs:a.size=n) (h:∀p∈l,a.getD p.1 undef=p.2):a=TN n (ups (fun i=>a.getD i undef) l):=by
 rw[ao9 h];exact TN_eta hs
theorem tn_eq2 {a:Array Value} {n:Nat} {l l':List (Nat×Value)} (hs:a.size=n) (h:∀p∈l,a.getD p.1 undef=p.2) (h':∀p∈l',a.getD p.1 undef=p.2):a=TN n (ups (ups (fun i=>a.getD i undef) l) l'):=by
 have e:ups (fun i=>a.getD i undef) l=fun i=>a.getD i undef:=ao9 h
 rw[e,ao9 h'];exact TN_eta hs
theorem stepM_call {L:Nat} {img:Nat→Nat} {A B P:Nat} (h:(ai2 L img A B P).1=1):P+2≤L∧img P=11∧ai2 L img A B P=(1,img (P+1),A,B,P+2):=by
 unfold ai2 at h ⊢
 split at h
 ·rename_i h1
  rw[if_pos h1]
  split at h
  ·cases h
  rename_i a1
  split at h
  ·cases h
  rename_i a2
  split at h
  ·cases h
  rename_i a3
  split at h
  ·cases h
  rename_i a4
  split at h
  ·rename_i h11
   rw[if_neg a1,if_neg a2,if_neg a3,if_neg a4,if_pos h11]
   exact⟨h1,h11,rfl⟩
  ·exfalso
   simp only at h
   unfold ai5 at h
   split at h
   ·split at h
    ·cases h
    split at h
    ·cases h
    split at h
    ·cases h
    ·cases h
   ·cases h
 ·cases h
end Go.Fxa
namespace Go.Fxa
open Go.Conc
open Go.Proofs
open Go.RowKit
set_option maxRecDepth 1000000
theorem R2_eq:R2 Tryz.prog=Code.region 2 #[{ dst:=some 12,op:=Op.move (Operand.tmp 0),type:=33,pos:= "pick.go:13",after:=#[],guard:=none },{ dst:=some 13,op:=Op.move (Operand.tmp 1),type:=119,pos:= "pick.go:13",after:=#[],guard:=none },{ dst:=some 14,op:=Op.call { callee:=Callee.value (Operand.func 53),args:=#[Operand.tmp 12,Operand.tmp 13],argTypes:=#[33,119] },type:=0,pos:= "pick.go:13",after:=#[{ on:=0,ground:=Ground.data },{ on:=1,ground:=Ground.data }],guard:=none }] false:=by kernel_rfl
theorem R3_eq:R3 Tryz.prog=Code.region 3 #[{ dst:=some 15,op:=Op.move (Operand.tmp 1),type:=119,pos:= "pick.go:14",after:=#[],guard:=none },{ dst:=some 16,op:=Op.nilCheck (Operand.tmp 15),type:=0,pos:= "pick.go:14",after:=#[{ on:=0,ground:=Ground.data },{ on:=0,ground:=Ground.phase }],guard:=none },{ dst:=some 17,op:=Op.fieldAddr 128 (Operand.tmp 16) 4,type:=0,pos:= "pick.go:14",after:=#[{ on:=1,ground:=Ground.data },{ on:=0,ground:=Ground.phase }],guard:=none },{ dst:=none,op:=Op.store 32 (Operand.tmp 17) (Operand.const Value.nilFunc),type:=0,pos:= "pick.go:14",after:=#[{ on:=2,ground:=Ground.data },{ on:=0,ground:=Ground.phase }],guard:=none }] false:=by kernel_rfl
theorem reg2_eq:reg2 Tryz.prog=Code.region 2 #[{ dst:=some 12,op:=Op.move (Operand.tmp 1),type:=202,pos:= "run.go:53",after:=#[],guard:=none },{ dst:=some 13,op:=Op.call { callee:=Callee.value (Operand.func 185),args:=#[Operand.tmp 12],argTypes:=#[202] },type:=293,pos:= "run.go:53",after:=#[{ on:=0,ground:=Ground.data }],guard:=none },{ dst:=some 11,op:=Op.move (Operand.tmp 13),type:=293,pos:= "run.go:53",after:=#[{ on:=1,ground:=Ground.data }],guard:=none },{ dst:=some 14,op:=Op.extract (Operand.tmp 11) 0,type:=210,pos:= "run.go:53",after:=#[{ on:=2,ground:=Ground.data }],guard:=none },{ dst:=some 15,op:=Op.extract (Operand.tmp 11) 1,type:=123,pos:= "run.go:53",after:=#[{ on:=2,ground:=Ground.data },{ on:=5,ground:=Ground.gcOnly Departure.lateStores }],guard:=none },{ dst:=some 6,op:=Op.assign (Operand.tmp 14),type:=210,pos:= "run.go:53",after:=#[{ on:=3,ground:=Ground.data },{ on:=1,ground:=Ground.chain },{ on:=0,ground:=Ground.phase },{ on:=1,ground:=Ground.phase },{ on:=2,ground:=Ground.phase },{ on:=3,ground:=Ground.phase },{ on:=4,ground:=Ground.textOnly Departure.lateStores }],guard:=none },{ dst:=some 7,op:=Op.assign (Operand.tmp 15),type:=123,pos:= "run.go:53",after:=#[{ on:=4,ground:=Ground.data },{ on:=5,ground:=Ground.chain },{ on:=0,ground:=Ground.phase },{ on:=1,ground:=Ground.phase },{ on:=2,ground:=Ground.phase },{ on:=3,ground:=Ground.phase },{ on:=4,ground:=Ground.phase },{ on:=5,ground:=Ground.phase }],guard:=none }] false:=by kernel_rfl
theorem R11_eq:R11 Tryz.prog=Code.region 11 #[{ dst:=some 37,op:=Op.fieldAddr 206 (Operand.tmp 10) 2,type:=0,pos:= "pick.go:21",after:=#[],guard:=none },{ dst:=some 38,op:=Op.load 32 (Operand.tmp 37),type:=32,pos:= "pick.go:21",after:=#[{ on:=0,ground:=Ground.data }],guard:=none },{ dst:=some 39,op:=Op.binOp BinOp.neq 32 (Operand.tmp 38) (Operand.const Value.nilFunc) 32,type:=4,pos:= "pick.go:21",after:=#[{ on:=1,ground:=Ground.data }],guard:=none }] false:=by kernel_rfl
theorem R16_eq:R16 Tryz.prog=Code.region 16 #[{ dst:=some 56,op:=Op.move (Operand.tmp 1),type:=119,pos:= "pick.go:27",after:=#[],guard:=none },{ dst:=some 57,op:=Op.nilCheck (Operand.tmp 56),type:=0,pos:= "pick.go:27",after:=#[{ on:=0,ground:=Ground.data }],guard:=none },{ dst:=some 58,op:=Op.fieldAddr 128 (Operand.tmp 57) 2,type:=0,pos:= "pick.go:27",after:=#[{ on:=1,ground:=Ground.data }],guard:=none },{ dst:=some 59,op:=Op.load 4 (Operand.tmp 58),type:=4,pos:= "pick.go:27",after:=#[{ on:=2,ground:=Ground.data }],guard:=none }] false:=by kernel_rfl
section
variable {b:KB} {s0:Nat×Nat×Nat} {v0:World} {n:Nat} {m:Nat} {w:World} {r:Nat} {i:Int} {told x:Value} {bA:Nat} {f:Nat→Value}
theorem piece_bring (ok:b.Ok) (h:SO b s0 v0 w) (N1:Int):(R2 Tryz.prog).wpIn NF m Tryz.prog (Ends fun tm w'=>∃f',tm=TN 76 (ups f' (sk4 (.pointer (some ⟨b.kb,0,none⟩)) ⟨b.pb,0,none⟩ N1 ag0))∧SO2 b s0 v0 w') ⟨TN 76 (ups f (sk4 (.pointer (some ⟨b.kb,0,none⟩)) ⟨b.pb,0,none⟩ N1 ag0)),[]⟩ w:=by
 obtain⟨hK0,co,ks,prs,x0,x1,h⟩:=h
 rw[R2_eq]
 show Code.wpIn (Fence.list LF none) m Tryz.prog _ _ ⟨#[.pointer (some ⟨b.kb,0,none⟩),.pointer (some ⟨b.pb,0,none⟩),.int .i64 N1,f 3,f 4,f 5,f 6,ag0,f 8,f 9,f 10,f 11,f 12,f 13,f 14,f 15,f 16,f 17,f 18,f 19,f 20,f 21,f 22,f 23,f 24,f 25,f 26,f 27,f 28,f 29,f 30,f 31,f 32,f 33,f 34,f 35,f 36,f 37,f 38,f 39,f 40,f 41,f 42,f 43,f 44,f 45,f 46,f 47,f 48,f 49,f 50,f 51,f 52,f 53,f 54,f 55,f 56,f 57,f 58,f 59,f 60,f 61,f 62,f 63,f 64,f 65,f 66,f 67,f 68,f 69,f 70,f 71,f 72,f 73,f 74,f 75],[]⟩ _
 have m0:=h.m0
 have hp:=h.p
 cases co
 ·simp only[Bool.false_eq_true,if_false]at m0 hp
  gi_wp2_with fail
  refine(bringIn_out _ w b.kb b.pb b.cb b.N s0.1 s0.2.1 s0.2.2 b.ib b.L b.fb ks x0 hp h.k h.k0 m0 ok.nN ok.L1 ok.L2 ok.N5).mono ?_
  rintro e w1 ⟨rfl,K1,p1,x0',k1,t1⟩
  gi_wp2
  refine⟨rfl,rfl,_,af1 rfl (by simp[sk4,pv,ag0]),(hK0.no.trans K1 ?_),_,prs,x0',x1,k1,aj6 h.k0,(ac0 (by decide)).trans h.k1,(ac0 (by decide)).trans h.k2,K1.old h.r ?_,h.r0,p1,h.i.keep K1 ?_,h.f.keep K1 ?_,t1,h.m1.keep K1 ?_,h.a,h.bb,h.pp⟩
  ·rintro k _ (e|e|e)<;>simp[KB.foot,e]
  all_goals exact h.off3 (by simp)
 ·simp only[if_true]at m0 hp
  gi_wp2_with fail
  refine(bringIn_in _ w b.kb b.pb s0.1 s0.2.1 s0.2.2 b.ib b.L b.fb hp).mono ?_
  rintro e w1 ⟨rfl,hw⟩
  have hw:=hw.symm
  subst hw
  gi_wp2
  exact⟨rfl,rfl,_,af1 rfl (by simp[sk4,pv,ag0]),hK0.no,ks,prs,x0,x1,h⟩
theorem piece_clear (h:SO2 b s0 v0 w) (N1:Int):(R3 Tryz.prog).wpIn NF m Tryz.prog (Ends fun tm w'=>∃f',tm=TN 76 (ups f' (sk4 (.pointer (some ⟨b.kb,0,none⟩)) ⟨b.pb,0,none⟩ N1 ag0))∧SO2 b s0 v0 w') ⟨TN 76 (ups f (sk4 (.pointer (some ⟨b.kb,0,none⟩)) ⟨b.pb,0,none⟩ N1 ag0)),[]⟩ w:=by
 obtain⟨hK0,ks,prs,x0,x1,h⟩:=h
 rw[R3_eq]
 show Code.wpIn (Fence.list LF none) m Tryz.prog _ _ ⟨#[.pointer (some ⟨b.kb,0,none⟩),.pointer (some ⟨b.pb,0,none⟩),.int .i64 N1,f 3,f 4,f 5,f 6,ag0,f 8,f 9,f 10,f 11,f 12,f 13,f 14,f 15,f 16,f 17,f 18,f 19,f 20,f 21,f 22,f 23,f 24,f 25,f 26,f 27,f 28,f 29,f 30,f 31,f 32,f 33,f 34,f 35,f 36,f 37,f 38,f 39,f 40,f 41,f 42,f 43,f 44,f 45,f 46,f 47,f 48,f 49,f 50,f 51,f 52,f 53,f 54,f 55,f 56,f 57,f 58,f 59,f 60,f 61,f 62,f 63,f 64,f 65,f 66,f 67,f 68,f 69,f 70,f 71,f 72,f 73,f 74,f 75],[]⟩ _
 have c4:w.cell? ⟨b.pb,4,none⟩=some .nilFunc:=by rw[aa0 h.p];rfl
 have f4:=ab3 h.p 4
 gi_wp2
 have K1:Keep (At b.pb) w (w.setCell ⟨b.pb,4,none⟩ .nilFunc):=Keep.set1 _
 refine⟨rfl,rfl,_,af1 rfl (by simp[sk4,pv,ag0]),hK0.trans K1 ?_,ks,prs,x0,x1,K1.old h.k ?_,h.k0,h.k1,h.k2,K1.old h.r ?_,h.r0,(aa2 h.p _).trans rfl,h.i.keep K1 ?_,h.f.keep K1 ?_,Took.keep h.m0 K1 ?_,h.m1.keep K1 ?_,h.a,h.bb,h.pp⟩
 ·intro k _ e;exact .inr (.inr (.inl e))
 all_goals exact h.off1 (by simp)
theorem piece_step (ok:b.Ok) (sf:∀j s evs,j<n→runE b.L b.img s0 j=(some s,evs)→Safe b.L (imgE b.L b.img s0 j) s) (old:∀k,b.foot k→k<v0.heap.size) (h:SI b s0 v0 i told w) (hi:i<(n:Nat)):(reg2 Tryz.prog).wpIn NF m Tryz.prog (Ends fun tm w'=>∃f' oc x,tm=T32 (ups f' (sl6 r (svOf ⟨b.pb,0,none⟩) (n:Nat) i oc x))∧((oc=0∧SI b s0 v0 (i+1) told w')∨(oc=1∧SC b s0 v0 n i told x w')∨(oc=2∧SB b s0 v0 n told w'))) ⟨T32 (ups f (sl4 r (svOf ⟨b.pb,0,none⟩) (n:Nat) i)),[]⟩ w:=by
 obtain⟨j,s,evs,rfl,hrun,⟨ks,prs,x0,x1,h⟩,hkeep,htold,hfit⟩:=h
 have hj:j<n:=by omega
 have hsf:=sf j s evs hj hrun
 rw[reg2_eq]
 show Code.wpIn (Fence.list LF none) m Tryz.prog _ _ ⟨#[pr r,.pointer (some ⟨b.pb,5,none⟩),f 2,f 3,f 4,f 5,f 6,f 7,.int .i64 (n:Nat),.int .i64 (j:Nat),f 10,f 11,f 12,f 13,f 14,f 15,f 16,f 17,f 18,f 19,f 20,f 21,f 22,f 23,f 24,f 25,f 26,f 27,f 28,f 29,f 30,f 31],[]⟩ _
 have pP:=h.pp
 by_cases hp:IsPut b.L (imgE b.L b.img s0 j) s
 ·obtain⟨cs,hi1,hcs,hci⟩:=h.i
  have hcs:cs.size=b.L:=hcs
  have hci:∀i,i<b.L→cs[i]?=some (.int .u16 (imgE b.L b.img s0 j i)):=hci
  gi_wp2_with fail
  refine(stepP_calls b.pb b.ib b.L b.L _ w 128 _ _ _ _ _ _ _ _ s.1 s.2.1 s.2.2 (imgE b.L b.img s0 j) h.p 123 cs hi1 hcs hci hfit h.pp ok.L2 (Nat.le_refl _) hp.1 hp.2.1 hp.2.2 h.ne.1).mono ?_
  rintro e w1 ⟨rfl,K1,p1,i1⟩
  gi_wp2
  have off2:∀{k},(k=b.kb∨k=b.prb∨k=b.cb∨k=b.sb∨k=b.fb)→¬(k=b.pb∨k=b.ib):=fun {k} hk e=>by
   obtain⟨n1,n2,n3,n4,n5,n6,n7,n8,n9,n10,n11,n12,n13,n14,n15,n16,n17,n18,n19,n20,n21⟩:=h.ne
   rcases e with e|e
   ·exact h.off1 (k:=k) (by rcases hk with q|q|q|q|q<;>simp[q,KB.im]) e
   ·subst e
    rcases hk with q|q|q|q|q
    ·exact n2 q
    ·exact n5 q
    ·exact n3 q
    ·exact n4 q
    ·exact n21 q
  have L2:=ok.L2
  have hP2:=hp.1
  have im1:imgE b.L b.img s0 (j+1)=fun q=>if q=imgE b.L b.img s0 j (s.2.2+1)then s.1 else imgE b.L b.img s0 j q:=by rw[ak9 hrun];unfold putI;rw[if_pos hp]
  have r1:RowT 123 .u16 w1 b.ib b.L (fun q=>imgE b.L b.img s0 (j+1) q):=by
   refine⟨_,i1,by simpa using hcs,fun q hq=>?_⟩
   rw[im1,Array.getElem?_setIfInBounds]
   by_cases e:imgE b.L b.img s0 j (s.2.2+1)=q
   ·subst e
    have hq':imgE b.L b.img s0 j (s.2.2+1)<cs.size:=by rw[hcs];exact hq
    simp[hq']
   ·rw[if_neg e,hci q hq]
    simp[Ne.symm e]
  have hon:(b.at s0 (j+1)).on true s.1 s.2.1 (s.2.2+2) w1:=⟨ks,prs,x0,x1,K1.old h.k (off2 (by simp[KB.im])),h.k0,h.k1,h.k2,K1.old h.r (off2 (by simp[KB.im])),h.r0,p1,r1,h.f.keep K1 (off2 (by simp[KB.im])),Took.keep h.m0 K1 (off2 (by simp[KB.im])),h.m1.keep K1 (off2 (by simp[KB.im])),h.a,h.bb,by omega⟩
  have hk1:Keep b.foot v0 w1:=hkeep.trans K1 (fun k _ e=>by rcases e with e|e<;>simp[KB.foot,e])
  have ht1:ToldE v0.heap.size told w1 evs:=ad1 htold K1 (fun g hg e=>by
   rcases e with e|e
   ·have:=old b.pb (.inr (.inr (.inl rfl)));omega
   ·have:=old b.ib (by simp[KB.foot]);omega)
  refine⟨rfl,rfl,_,0,.int .u16 0,af1 (n:=32) rfl (by simp[sl6,svOf,Addr.add]),.inl ⟨rfl,j+1,(s.1,s.2.1,s.2.2+2),evs,by omega,?_,hon,hk1,ht1,?_⟩⟩
  ·rw[ai7 hrun]
   unfold ac8
   rw[if_pos hp]
   simp
  ·intro q hq
   show imgE b.L b.img s0 (j+1) q<65536
   rw[im1]
   by_cases e:q=imgE b.L b.img s0 j (s.2.2+1)
   ·simp only[if_pos e];exact h.a
   ·simp only[if_neg e];exact hfit q hq
 have im1:imgE b.L b.img s0 (j+1)=imgE b.L b.img s0 j:=by rw[ak9 hrun];unfold putI;rw[if_neg hp]
 have fit:=stepM_fit (L:=b.L) (img:=imgE b.L b.img s0 j) (A:=s.1) (B:=s.2.1) (P:=s.2.2) ok.L2 hfit h.a h.bb h.pp
 gi_wp2_with fail
 refine(step_calls b.pb b.ib b.L b.L _ w 128 _ _ _ _ _ _ _ _ s.1 s.2.1 s.2.2 (imgE b.L b.img s0 j) ((b.at s0 j).r s) rfl h.p (fun q hq=>h.i.cell hq) hfit h.a h.pp ok.L2 (Nat.le_refl _) (fun q e=>hp ⟨q,e,(hsf q).2.1 e⟩) (fun q=>(hsf q).1) h.ne.1).mono ?_
 rintro e w1 ⟨rfl,K1,p1⟩
 gi_wp2
 have hon:(b.at s0 j).on true ((b.at s0 j).r s).2.2.1 ((b.at s0 j).r s).2.2.2.1 ((b.at s0 j).r s).2.2.2.2 w1:=⟨ks,prs,x0,x1,K1.old h.k (h.off1 (by simp)),h.k0,h.k1,h.k2,K1.old h.r (h.off1 (by simp)),h.r0,p1,h.i.keep K1 (h.off1 (by simp)),h.f.keep K1 (h.off1 (by simp)),Took.keep h.m0 K1 (h.off1 (by simp)),h.m1.keep K1 (h.off1 (by simp)),fit.2.2.1,fit.2.2.2.1,fit.2.2.2.2⟩
 have hk1:Keep b.foot v0 w1:=hkeep.trans K1 (fun k _ e=>.inr (.inr (.inl e)))
 have ht1:ToldE v0.heap.size told w1 evs:=ad1 htold K1 (fun g hg e=>by
  have e:g=b.pb:=e
  have:=old b.pb (.inr (.inr (.inl rfl)))
  omega)
 refine⟨rfl,rfl,_,(((b.at s0 j).r s).1:Nat),.int .u16 ((b.at s0 j).r s).2.1,af1 (n:=32) rfl (by simp[sl6,svOf,Addr.add]),?_⟩
 have h3:((b.at s0 j).r s).1=0∨((b.at s0 j).r s).1=1∨((b.at s0 j).r s).1=2:=by have:=fit.1;simp only[KB.r,KB.at,KB.im];omega
 rcases h3 with h3|h3|h3
 ·refine .inl ⟨by rw[h3];rfl,j+1,(((b.at s0 j).r s).2.2.1,((b.at s0 j).r s).2.2.2.1,((b.at s0 j).r s).2.2.2.2),evs,by omega,?_,?_,hk1,ht1,?_⟩
  ·have e1:ac8 b.L (imgE b.L b.img s0 j) s=(some (((b.at s0 j).r s).2.2.1,((b.at s0 j).r s).2.2.2.1,((b.at s0 j).r s).2.2.2.2),[]):=by unfold ac8;rw[if_neg hp];simp only;rw[if_pos (show(ai2 b.L (imgE b.L b.img s0 j) s.1 s.2.1 s.2.2).1=0 from h3)];rfl
   rw[ai7 hrun,e1];simp
  ·show(b.im (imgE b.L b.img s0 (j+1))).on _ _ _ _ _
   rw[im1]
   exact hon
  ·show(b.im (imgE b.L b.img s0 (j+1))).Fit
   rw[im1]
   exact hfit
 ·exact .inr (.inl ⟨by rw[h3];rfl,j,s,evs,rfl,hj,h3,rfl,hrun,hon,hk1,ht1,hfit⟩)
 ·exact .inr (.inr ⟨by rw[h3];rfl,j,s,evs,hj,h3,hp,hrun,hon,hk1,ht1,hfit⟩)
theorem piece_asked (h:SD b s0 v0 n i told x bA w):(R11 Tryz.prog).wpIn NF m Tryz.prog (Ends fun tm w'=>∃f',tm=TN 76 (ups (ups f' (slB (.pointer (some ⟨b.kb,0,none⟩)) ⟨b.pb,0,none⟩ told r x bA)) [(39,.bool false)])∧SD b s0 v0 n i told x bA w') ⟨TN 76 (ups f (slB (.pointer (some ⟨b.kb,0,none⟩)) ⟨b.pb,0,none⟩ told r x bA)),[]⟩ w:=by
 have hc:∃y z,w.heap[bA]?=some (.cells #[y,z,.nilFunc] 206 (0,0)):=by
  obtain⟨j,s,evs,call,res,wr,_,_,_,_,_,_,_,_,h9,_,_⟩:=h
  exact⟨_,_,h9.blk⟩
 obtain⟨y,z,hc⟩:=hc
 have c2:w.cell? ⟨bA,2,none⟩=some .nilFunc:=by rw[aa0 hc];rfl
 have hq:=neq_nil w
 rw[R11_eq]
 show Code.wpIn (Fence.list LF none) m Tryz.prog _ _ ⟨#[.pointer (some ⟨b.kb,0,none⟩),.pointer (some ⟨b.pb,0,none⟩),f 2,f 3,f 4,f 5,f 6,told,pr r,x,.pointer (some ⟨bA,0,none⟩),f 11,f 12,f 13,f 14,f 15,f 16,f 17,f 18,f 19,f 20,f 21,f 22,f 23,f 24,f 25,f 26,f 27,f 28,f 29,f 30,f 31,f 32,f 33,f 34,f 35,f 36,f 37,f 38,f 39,f 40,f 41,f 42,f 43,f 44,f 45,f 46,f 47,f 48,f 49,f 50,f 51,f 52,f 53,f 54,f 55,f 56,f 57,f 58,f 59,f 60,f 61,f 62,f 63,f 64,f 65,f 66,f 67,f 68,f 69,f 70,f 71,f 72,f 73,f 74,f 75],[]⟩ _
 gi_wp2
 exact⟨rfl,rfl,_,tn_eq2 rfl (by simp[slB,pv,pr]) (by simp),h⟩
theorem piece_ended (h:SE0 b s0 v0 n i told bA w):(R16 Tryz.prog).wpIn NF m Tryz.prog (Ends fun tm w'=>∃f' c,tm=TN 76 (ups f' (slG (.pointer (some ⟨b.kb,0,none⟩)) ⟨b.pb,0,none⟩ told r bA c))∧((c=true∧SF b s0 v0 n told w')∨(c=false∧SE b s0 v0 n i told bA w'))) ⟨TN 76 (ups f (slC (.pointer (some ⟨b.kb,0,none⟩)) ⟨b.pb,0,none⟩ told r bA)),[]⟩ w:=by
 obtain⟨j,s,evs,res,wr,rfl,hj,hrun,hkeep,htold,hans,hres,hsm⟩:=h
 rw[R16_eq]
 show Code.wpIn (Fence.list LF none) m Tryz.prog _ _ ⟨#[.pointer (some ⟨b.kb,0,none⟩),.pointer (some ⟨b.pb,0,none⟩),f 2,f 3,f 4,f 5,f 6,told,pr r,f 9,.pointer (some ⟨bA,0,none⟩),f 11,f 12,f 13,f 14,f 15,f 16,f 17,f 18,f 19,f 20,f 21,f 22,f 23,f 24,f 25,f 26,f 27,f 28,f 29,f 30,f 31,f 32,f 33,f 34,f 35,f 36,f 37,f 38,f 39,f 40,f 41,f 42,f 43,f 44,f 45,f 46,f 47,f 48,f 49,f 50,f 51,f 52,f 53,f 54,f 55,f 56,f 57,f 58,f 59,f 60,f 61,f 62,f 63,f 64,f 65,f 66,f 67,f 68,f 69,f 70,f 71,f 72,f 73,f 74,f 75],[]⟩ _
 rcases hres with⟨A,B,P,hon,he⟩|⟨hoff,⟨st,hd⟩,he⟩
 ·obtain⟨ks,prs,x0,x1,ho⟩:=hon
  have c2:w.cell? ⟨b.pb,2,none⟩=some (.bool false):=(aa0 (k:=b.pb) ho.p 2).trans rfl
  gi_wp2
  exact⟨rfl,rfl,_,false,af1 rfl (by simp[slG,pv,pr]),.inr ⟨rfl,j,evs,res,wr,A,B,P,rfl,hj,by rw[hrun,he],hkeep,htold,hans,⟨ks,prs,x0,x1,ho⟩,hsm⟩⟩
 ·have c2:w.cell? ⟨b.pb,2,none⟩=some (.bool true):=(aa0 (k:=b.pb) hd 2).trans rfl
  gi_wp2
  rw[he]at hrun
  exact⟨rfl,rfl,_,true,af1 rfl (by simp[slG,pv,pr]),.inl ⟨rfl,none,evs,runE_over hrun (by omega),hkeep,htold,(fun s hs=>by cases hs),fun _=>hoff⟩⟩
end
theorem R10_eq:R10 Tryz.prog=Code.region 10 #[{ dst:=some 33,op:=Op.move (Operand.tmp 0),type:=33,pos:= "pick.go:20",after:=#[],guard:=none },{ dst:=some 34,op:=Op.move (Operand.tmp 1),type:=119,pos:= "pick.go:20",after:=#[],guard:=none },{ dst:=some 35,op:=Op.move (Operand.tmp 9),type:=123,pos:= "pick.go:20",after:=#[],guard:=none },{ dst:=some 36,op:=Op.call { callee:=Callee.value (Operand.func 96),args:=#[Operand.tmp 33,Operand.tmp 34,Operand.tmp 35],argTypes:=#[33,119,123] },type:=206,pos:= "pick.go:20",after:=#[{ on:=0,ground:=Ground.data },{ on:=1,ground:=Ground.data },{ on:=2,ground:=Ground.data }],guard:=none },{ dst:=some 10,op:=Op.alloc 206,type:=0,pos:= "pick.go:20",after:=#[],guard:=none },{ dst:=none,op:=Op.store 206 (Operand.tmp 10) (Operand.tmp 36),type:=0,pos:= "pick.go:20",after:=#[{ on:=4,ground:=Ground.data },{ on:=3,ground:=Ground.data },{ on:=3,ground:=Ground.chain },{ on:=0,ground:=Ground.phase },{ on:=1,ground:=Ground.phase },{ on:=2,ground:=Ground.phase },{ on:=3,ground:=Ground.phase },{ on:=4,ground:=Ground.phase }],guard:=none }] false:=by kernel_rfl
theorem R15_eq:R15 Tryz.prog=Code.region 15 #[{ dst:=some 49,op:=Op.move (Operand.tmp 7),type:=43,pos:= "pick.go:26",after:=#[],guard:=none },{ dst:=some 50,op:=Op.move (Operand.tmp 1),type:=119,pos:= "pick.go:26",after:=#[],guard:=none },{ dst:=some 51,op:=Op.move (Operand.tmp 9),type:=123,pos:= "pick.go:26",after:=#[],guard:=none },{ dst:=some 52,op:=Op.load 206 (Operand.tmp 10),type:=206,pos:= "pick.go:26",after:=#[],guard:=none },{ dst:=some 53,op:=Op.call { callee:=Callee.value (Operand.func 98),args:=#[Operand.tmp 50,Operand.tmp 51,Operand.tmp 52],argTypes:=#[119,123,206] },type:=59,pos:= "pick.go:26",after:=#[{ on:=1,ground:=Ground.data },{ on:=2,ground:=Ground.data },{ on:=3,ground:=Ground.data }],guard:=none },{ dst:=some 54,op:=Op.buildSlice 43 1 #[(0,Operand.tmp 53)],type:=43,pos:= "pick.go:26",after:=#[{ on:=4,ground:=Ground.data }],guard:=none },{ dst:=some 55,op:=Op.call { callee:=Callee.builtin Builtin.append,args:=#[Operand.tmp 49,Operand.tmp 54],argTypes:=#[43,43] },type:=43,pos:= "pick.go:26",after:=#[{ on:=0,ground:=Ground.data },{ on:=5,ground:=Ground.data },{ on:=4,ground:=Ground.chain }],guard:=none },{ dst:=some 7,op:=Op.assign (Operand.tmp 55),type:=43,pos:= "pick.go:26",after:=#[{ on:=6,ground:=Ground.data },{ on:=6,ground:=Ground.chain },{ on:=0,ground:=Ground.phase },{ on:=1,ground:=Ground.phase },{ on:=2,ground:=Ground.phase },{ on:=3,ground:=Ground.phase },{ on:=4,ground:=Ground.phase },{ on:=5,ground:=Ground.phase },{ on:=6,ground:=Ground.phase }],guard:=none }] false:=by kernel_rfl
theorem R21_eq:R21 Tryz.prog=Code.region 21 #[{ dst:=some 67,op:=Op.move (Operand.tmp 7),type:=43,pos:= "pick.go:33",after:=#[],guard:=none },{ dst:=some 68,op:=Op.move (Operand.tmp 1),type:=119,pos:= "pick.go:33",after:=#[],guard:=none },{ dst:=some 69,op:=Op.move (Operand.tmp 0),type:=33,pos:= "pick.go:33",after:=#[],guard:=none },{ dst:=some 70,op:=Op.move (Operand.tmp 1),type:=119,pos:= "pick.go:33",after:=#[],guard:=none },{ dst:=some 71,op:=Op.call { callee:=Callee.value (Operand.func 100),args:=#[Operand.tmp 69,Operand.tmp 70,Operand.const (Value.int IntKind.u16 65535)],argTypes:=#[33,119,123] },type:=206,pos:= "pick.go:33",after:=#[{ on:=2,ground:=Ground.data },{ on:=3,ground:=Ground.data }],guard:=none },{ dst:=some 72,op:=Op.call { callee:=Callee.value (Operand.func 98),args:=#[Operand.tmp 68,Operand.const (Value.int IntKind.u16 1),Operand.tmp 71],argTypes:=#[119,123,206] },type:=59,pos:= "pick.go:33",after:=#[{ on:=1,ground:=Ground.data },{ on:=4,ground:=Ground.data },{ on:=4,ground:=Ground.chain }],guard:=none },{ dst:=some 73,op:=Op.buildSlice 43 1 #[(0,Operand.tmp 72)],type:=43,pos:= "pick.go:33",after:=#[{ on:=5,ground:=Ground.data }],guard:=none },{ dst:=some 74,op:=Op.call { callee:=Callee.builtin Builtin.append,args:=#[Operand.tmp 67,Operand.tmp 73],argTypes:=#[43,43] },type:=43,pos:= "pick.go:33",after:=#[{ on:=0,ground:=Ground.data },{ on:=6,ground:=Ground.data },{ on:=5,ground:=Ground.chain }],guard:=none },{ dst:=some 7,op:=Op.assign (Operand.tmp 74),type:=43,pos:= "pick.go:33",after:=#[{ on:=7,ground:=Ground.data },{ on:=7,ground:=Ground.chain },{ on:=0,ground:=Ground.phase },{ on:=1,ground:=Ground.phase },{ on:=2,ground:=Ground.phase },{ on:=3,ground:=Ground.phase },{ on:=4,ground:=Ground.phase },{ on:=5,ground:=Ground.phase },{ on:=6,ground:=Ground.phase },{ on:=7,ground:=Ground.phase }],guard:=none }] false:=by kernel_rfl
theorem ansC_eq:ansC Tryz.prog=((Code.region 9 #[{ dst:=some 33,op:=Op.extract (Operand.tmp 29) 2,type:=206,pos:= "run.go:73",after:=#[],guard:=none },{ dst:=some 7,op:=Op.alloc 206,type:=0,pos:= "run.go:73",after:=#[],guard:=none },{ dst:=none,op:=Op.store 206 (Operand.tmp 7) (Operand.tmp 33),type:=0,pos:= "run.go:73",after:=#[{ on:=1,ground:=Ground.data },{ on:=0,ground:=Ground.data },{ on:=0,ground:=Ground.phase },{ on:=1,ground:=Ground.phase }],guard:=none }] false).seq (((Code.region 10 #[{ dst:=some 34,op:=Op.fieldAddr 206 (Operand.tmp 7) 2,type:=0,pos:= "run.go:74",after:=#[],guard:=none },{ dst:=some 35,op:=Op.load 32 (Operand.tmp 34),type:=32,pos:= "run.go:74",after:=#[{ on:=0,ground:=Ground.data }],guard:=none },{ dst:=some 36,op:=Op.binOp BinOp.neq 32 (Operand.tmp 35) (Operand.const Value.nilFunc) 32,type:=4,pos:= "run.go:74",after:=#[{ on:=1,ground:=Ground.data }],guard:=none }] false).seq (Code.cond (Operand.tmp 36) ((Code.region 11 #[{ dst:=some 37,op:=Op.move (Operand.tmp 1),type:=202,pos:= "run.go:75",after:=#[],guard:=none },{ dst:=some 38,op:=Op.call { callee:=Callee.value (Operand.func 227),args:=#[Operand.tmp 37],argTypes:=#[202] },type:=0,pos:= "run.go:75",after:=#[{ on:=0,ground:=Ground.data }],guard:=none }] false).seq ((Code.region 12 #[{ dst:=some 6,op:=Op.assign (Operand.const (Value.bool false)),type:=4,pos:= "run.go:76",after:=#[],guard:=none }] false).seq Code.ret)) Code.skip)).seq ((Code.region 13 #[{ dst:=some 39,op:=Op.move (Operand.tmp 1),type:=202,pos:= "run.go:78",after:=#[],guard:=none },{ dst:=some 40,op:=Op.move (Operand.tmp 1),type:=202,pos:= "run.go:78",after:=#[{ on:=8,ground:=Ground.gcOnly Departure.lateStores }],guard:=none },{ dst:=some 41,op:=Op.fieldAddr 206 (Operand.tmp 7) 0,type:=0,pos:= "run.go:78",after:=#[],guard:=none },{ dst:=some 42,op:=Op.load 123 (Operand.tmp 41),type:=123,pos:= "run.go:78",after:=#[{ on:=2,ground:=Ground.data }],guard:=none },{ dst:=some 43,op:=Op.fieldAddr 206 (Operand.tmp 7) 1,type:=0,pos:= "run.go:78",after:=#[{ on:=8,ground:=Ground.gcOnly Departure.lateStores }],guard:=none },{ dst:=some 44,op:=Op.load 123 (Operand.tmp 43),type:=123,pos:= "run.go:78",after:=#[{ on:=4,ground:=Ground.data },{ on:=8,ground:=Ground.gcOnly Departure.lateStores }],guard:=none },{ dst:=some 45,op:=Op.nilCheck (Operand.tmp 39),type:=0,pos:= "run.go:78",after:=#[{ on:=0,ground:=Ground.data },{ on:=0,ground:=Ground.phase },{ on:=1,ground:=Ground.textOnly Departure.lateStores },{ on:=2,ground:=Ground.phase },{ on:=3,ground:=Ground.phase },{ on:=4,ground:=Ground.textOnly Departure.lateStores },{ on:=5,ground:=Ground.textOnly Departure.lateStores }],guard:=none },{ dst:=some 46,op:=Op.fieldAddr 125 (Operand.tmp 45) 0,type:=0,pos:= "run.go:78",after:=#[{ on:=6,ground:=Ground.data },{ on:=0,ground:=Ground.phase },{ on:=1,ground:=Ground.textOnly Departure.lateStores },{ on:=2,ground:=Ground.phase },{ on:=3,ground:=Ground.phase },{ on:=4,ground:=Ground.textOnly Departure.lateStores },{ on:=5,ground:=Ground.textOnly Departure.lateStores }],guard:=none },{ dst:=none,op:=Op.store 123 (Operand.tmp 46) (Operand.tmp 42),type:=0,pos:= "run.go:78",after:=#[{ on:=7,ground:=Ground.data },{ on:=3,ground:=Ground.data },{ on:=0,ground:=Ground.phase },{ on:=1,ground:=Ground.textOnly Departure.lateStores },{ on:=2,ground:=Ground.phase },{ on:=3,ground:=Ground.phase },{ on:=4,ground:=Ground.textOnly Departure.lateStores },{ on:=5,ground:=Ground.textOnly Departure.lateStores }],guard:=none },{ dst:=some 47,op:=Op.nilCheck (Operand.tmp 40),type:=0,pos:= "run.go:78",after:=#[{ on:=1,ground:=Ground.data },{ on:=0,ground:=Ground.phase },{ on:=1,ground:=Ground.phase },{ on:=2,ground:=Ground.phase },{ on:=3,ground:=Ground.phase },{ on:=4,ground:=Ground.phase },{ on:=5,ground:=Ground.phase },{ on:=6,ground:=Ground.phase },{ on:=7,ground:=Ground.phase },{ on:=8,ground:=Ground.phase }],guard:=none },{ dst:=some 48,op:=Op.fieldAddr 125 (Operand.tmp 47) 1,type:=0,pos:= "run.go:78",after:=#[{ on:=9,ground:=Ground.data },{ on:=0,ground:=Ground.phase },{ on:=1,ground:=Ground.phase },{ on:=2,ground:=Ground.phase },{ on:=3,ground:=Ground.phase },{ on:=4,ground:=Ground.phase },{ on:=5,ground:=Ground.phase },{ on:=6,ground:=Ground.phase },{ on:=7,ground:=Ground.phase },{ on:=8,ground:=Ground.phase }],guard:=none },{ dst:=none,op:=Op.store 123 (Operand.tmp 48) (Operand.tmp 44),type:=0,pos:= "run.go:78",after:=#[{ on:=10,ground:=Ground.data },{ on:=5,ground:=Ground.data },{ on:=8,ground:=Ground.chain },{ on:=0,ground:=Ground.phase },{ on:=1,ground:=Ground.phase },{ on:=2,ground:=Ground.phase },{ on:=3,ground:=Ground.phase },{ on:=4,ground:=Ground.phase },{ on:=5,ground:=Ground.phase },{ on:=6,ground:=Ground.phase },{ on:=7,ground:=Ground.phase },{ on:=8,ground:=Ground.phase }],guard:=none }] true).seq ((Code.region 14 #[{ dst:=some 6,op:=Op.assign (Operand.const (Value.bool true)),type:=4,pos:= "run.go:79",after:=#[],guard:=none }] false).seq Code.ret)))):=by kernel_rfl
theorem info59:(Tryz.prog.info? 59).map (fun i=>(i.zero,i.size,i.bytes))=some (some (.agg #[.int .i64 0,.int .i64 0,.int .i64 0,.int .i64 0]),4,32):=by kernel_rfl
section
variable {b:KB} {s0:Nat×Nat×Nat} {v0:World} {n:Nat} {m:Nat} {w:World} {r:Nat} {i:Int} {told x:Value} {bA:Nat} {f:Nat→Value}
theorem five_foot {k:Nat} (h:Five b.kb b.prb b.pb b.cb b.sb k):b.foot k:=by
 rcases h with e|e|e|e|e<;>simp[KB.foot,e]
theorem serve_any (ok:b.Ok) (fit:b.Fit) (s:Nat×Nat×Nat) (sf:Safe b.L b.img s) (call:Nat) (hcl:(b.r s).2.1=call) (hs:s.1<65536) (hr:(b.r s).1=1) (hon:b.on true (b.r s).2.2.1 (b.r s).2.2.2.1 (b.r s).2.2.2.2 w):CallsIn NF m Tryz.prog 96 #[.pointer (some ⟨b.kb,0,none⟩),.pointer (some ⟨b.pb,0,none⟩),.int .u16 call] w fun e w'=>∃res wr,e=.returned (.agg #[.int .u16 (res:Nat),.int .u16 (wr:Nat),.nilFunc])∧res<65536∧wr<65536∧Keep b.foot w w'∧(b.e s).2=[(call,res,wr)]∧Res b s res wr w':=by
 subst hcl
 obtain⟨hP,h11,hst⟩:=stepM_call hr
 have hst:b.r s=(1,b.img (s.2.2+1),s.1,s.2.1,s.2.2+2):=hst
 rw[hst]at hon ⊢
 simp only at hon ⊢
 obtain⟨ks,prs,x0,x1,h⟩:=hon
 have h5:w.cell? ⟨b.pb,5,none⟩=some (.int .u16 s.1):=by rw[aa0 h.p];rfl
 have h8:w.cell? ⟨b.pb,8,none⟩=some (.slice (some ⟨b.ib,0,none⟩) b.L b.L):=by rw[aa0 h.p];rfl
 have h0:w.cell? ⟨b.pb,0,none⟩=some (.int .i64 1):=by rw[aa0 h.p];rfl
 have e0:b.e s=if b.img (s.2.2+1)=12 then(some (1,0,s.2.2+2),[(12,1,0)])else if s.1+1≤b.L then(none,[(1,b.img s.1,0)])else(some (0,1,s.2.2+2),[(1,0,1)]):=by
  show ac8 b.L b.img s=_
  unfold ac8
  rw[if_neg (fun q=>by have:=q.2.1;omega)]
  simp only
  rw[show ai2 b.L b.img s.1 s.2.1 s.2.2=_ from hst]
  simp
 rcases(sf hP).2.2 h11 with hc|hc
 ·rw[hc]at e0 ⊢
  rw[if_neg (by decide)]at e0
  by_cases hA:s.1+1≤b.L
  ·rw[if_pos hA]at e0
   have hw:=fit s.1 (by omega)
   refine(serve_exit m w b.kb b.prb b.pc b.pb b.cb b.sb b.N b.M s.1 s.2.1 (s.2.2+2) b.ib b.L b.fb (b.img s.1) ks prs x0 x1 h.p h.k h.k0 h.k1 h.k2 ok.pc h.r h.r0 h.m0 h.m1 (fun q hq=>h.f.cell hq) ok.L1 ok.L2 ok.N5 ok.M5 h.c0 h.m1.blk hs hA (h.i.cell (by omega))).mono ?_
   rintro e w1 ⟨rfl,K1,p1,ks',k1,k1'⟩
   exact⟨b.img s.1,0,rfl,hw,by decide,K1.mono (fun k _ hk=>five_foot hk),by rw[e0],.inr ⟨⟨ks',_,_,k1,k1'⟩,⟨_,p1⟩,by rw[e0]⟩⟩
  ·rw[if_neg hA]at e0
   refine(serve_fault m w b.kb b.pb b.ib b.L b.L s.1 h5 h8 hs hA).mono ?_
   rintro e w1 ⟨rfl,K1⟩
   exact⟨0,1,rfl,by decide,by decide,K1.no,by rw[e0],.inl ⟨s.1,s.2.1,s.2.2+2,⟨ks,prs,x0,x1,h.keep K1 (fun _ _ y=>y)⟩,by rw[e0]⟩⟩
 ·rw[hc]at e0 ⊢
  rw[if_pos rfl]at e0
  refine(serve_pid m w b.kb b.pb b.ib b.L b.L s.1 h5 h8 h0).mono ?_
  rintro e w1 ⟨rfl,K1⟩
  exact⟨1,0,rfl,by decide,by decide,K1.no,by rw[e0],.inl ⟨s.1,s.2.1,s.2.2+2,⟨ks,prs,x0,x1,h.keep K1 (fun _ _ y=>y)⟩,by rw[e0]⟩⟩
set_option maxHeartbeats 2000000 in
theorem piece_serve (ok:b.Ok) (sf:∀j s evs,j<n→runE b.L b.img s0 j=(some s,evs)→Safe b.L (imgE b.L b.img s0 j) s) (old:∀k,b.foot k→k<v0.heap.size) (h:SC b s0 v0 n i told x w):(R10 Tryz.prog).wpIn NF m Tryz.prog (Ends fun tm w'=>∃f' bA,tm=TN 76 (ups f' (slB (.pointer (some ⟨b.kb,0,none⟩)) ⟨b.pb,0,none⟩ told r x bA))∧SD b s0 v0 n i told x bA w') ⟨TN 76 (ups f (slX (.pointer (some ⟨b.kb,0,none⟩)) ⟨b.pb,0,none⟩ told r x)),[]⟩ w:=by
 obtain⟨j,s,evs,rfl,hj,hr,rfl,hrun,hon,hkeep,htold,hfit⟩:=h
 have hsf:=sf j s evs hj hrun
 have fit:=(stepM_call hr).2.2
 have fitA:s.1<65536∧((b.at s0 j).r s).2.1<65536:=by
  obtain⟨_,_,_,_,ho⟩:=hon
  have h1:=ho.a
  have h2:=hfit (s.2.2+1) (by have:=(stepM_call hr).1;omega)
  rw[show(b.at s0 j).r s=_ from fit]at h1 ⊢
  exact⟨h1,h2⟩
 have hnp:¬IsPut b.L (imgE b.L b.img s0 j) s:=fun q=>by have:=(stepM_call hr).2.1;have:=q.2.1;simp only[KB.at,KB.im]at *;omega
 have hsm:Same b s0 j:=⟨by rw[ak9 hrun];unfold putI;rw[if_neg hnp],hfit⟩
 generalize hcl:((b.at s0 j).r s).2.1=call at*
 have hsv:=fun m=>serve_any (b:=b.at s0 j) (m:=m) (ok.im _) hfit s hsf call hcl fitA.1 hr hon
 have hc:=fitA.2
 clear hon hr fitA hcl fit
 rw[R10_eq]
 show Code.wpIn (Fence.list LF none) m Tryz.prog _ _ ⟨#[.pointer (some ⟨b.kb,0,none⟩),.pointer (some ⟨b.pb,0,none⟩),f 2,f 3,f 4,f 5,f 6,told,pr r,.int .u16 call,f 10,f 11,f 12,f 13,f 14,f 15,f 16,f 17,f 18,f 19,f 20,f 21,f 22,f 23,f 24,f 25,f 26,f 27,f 28,f 29,f 30,f 31,f 32,f 33,f 34,f 35,f 36,f 37,f 38,f 39,f 40,f 41,f 42,f 43,f 44,f 45,f 46,f 47,f 48,f 49,f 50,f 51,f 52,f 53,f 54,f 55,f 56,f 57,f 58,f 59,f 60,f 61,f 62,f 63,f 64,f 65,f 66,f 67,f 68,f 69,f 70,f 71,f 72,f 73,f 74,f 75],[]⟩ _
 gi_wp2_with fail
 refine(hsv _).mono ?_
 rintro e w1 ⟨res,wr,rfl,h1,h2,K1,e1,hres⟩
 gi_wp2
 have K2:Keep No w1 (w1.alloc (.cells #[.int .u16 res,.int .u16 wr,.nilFunc] 206)):=(Keep.refl _ _).alloc _
 exact⟨rfl,rfl,_,w1.heap.size,af1 rfl (by simp[slB,pv,pr]),j,s,evs,call,res,wr,rfl,hj,rfl,hc,hrun,e1,(hkeep.then K1).then K2.no,(show ToldE v0.heap.size told w1 evs from ad1 htold K1 (fun g hg hf=>by have:=old g hf;omega)).more K2,⟨aa4 rfl,Nat.le_trans hkeep.size K1.size,h1,h2⟩,hres.more K2,hsm⟩
theorem told_push {base:Nat} {w1:World} {evs:List (Nat×Nat×Nat)} {ev:Nat×Nat×Nat} {v:Value} (h:w1.ownsRow base 59 4 v (evs.length+1) (evsC evs++evC ev)):ToldE base v w1 (evs++[ev]):=by
 unfold ToldE
 rw[evsC_app]
 simpa [evsC]using h
set_option maxHeartbeats 1000000 in
theorem piece_tells (old:∀k,b.foot k→k<v0.heap.size) (h:SD b s0 v0 n i told x bA w) (hn:n≤1000):(R15 Tryz.prog).wpIn NF m Tryz.prog (Ends fun tm w'=>∃f' told',tm=TN 76 (ups f' (slC (.pointer (some ⟨b.kb,0,none⟩)) ⟨b.pb,0,none⟩ told' r bA))∧SE0 b s0 v0 n i told' bA w') ⟨TN 76 (ups f (slB (.pointer (some ⟨b.kb,0,none⟩)) ⟨b.pb,0,none⟩ told r x bA)),[]⟩ w:=by
 obtain⟨j,s,evs,call,res,wr,rfl,hj,rfl,hcall,hrun,hev,hkeep,htold,hans,hres,hsm⟩:=h
 obtain⟨i0,hi,hz0,hz1,hz2⟩:=info_parts info59
 rw[R15_eq]
 show Code.wpIn (Fence.list LF none) m Tryz.prog _ _ ⟨#[.pointer (some ⟨b.kb,0,none⟩),.pointer (some ⟨b.pb,0,none⟩),f 2,f 3,f 4,f 5,f 6,told,pr r,.int .u16 call,.pointer (some ⟨bA,0,none⟩),f 11,f 12,f 13,f 14,f 15,f 16,f 17,f 18,f 19,f 20,f 21,f 22,f 23,f 24,f 25,f 26,f 27,f 28,f 29,f 30,f 31,f 32,f 33,f 34,f 35,f 36,f 37,f 38,f 39,f 40,f 41,f 42,f 43,f 44,f 45,f 46,f 47,f 48,f 49,f 50,f 51,f 52,f 53,f 54,f 55,f 56,f 57,f 58,f 59,f 60,f 61,f 62,f 63,f 64,f 65,f 66,f 67,f 68,f 69,f 70,f 71,f 72,f 73,f 74,f 75],[]⟩ _
 have h0:w.cell? ⟨b.pb,0,none⟩=some (.int .i64 1):=by
  rcases hres with⟨A,B,P,⟨ks,prs,x0,x1,ho⟩,he⟩|⟨hoff,⟨st,hd⟩,he⟩
  ·exact(aa0 (k:=b.pb) ho.p 0).trans rfl
  ·exact(aa0 (k:=b.pb) hd 0).trans rfl
 have c0:w.cell? ⟨bA,0,none⟩=some (.int .u16 res):=by rw[aa0 hans.blk];rfl
 have c1:w.cell? ⟨bA,1,none⟩=some (.int .u16 wr):=by rw[aa0 hans.blk];rfl
 have c2:w.cell? ⟨bA,2,none⟩=some .nilFunc:=by rw[aa0 hans.blk];rfl
 have hlen:=runE_len (L:=b.L) (img:=b.img) (s:=s0) j
 rw[hrun]at hlen
 simp only at hlen
 gi_wp2_with fail
 refine(event_calls _ w b.pb call res wr h0 hcall hans.res hans.wr).mono ?_
 rintro e w1 ⟨K1,rfl⟩
 have K2:Keep No w (w1.alloc (.cells #[.int .i64 1,.int .i64 call,.int .i64 res,.int .i64 wr] 59)):=K1.alloc _
 have t2:(w1.alloc (.cells #[.int .i64 1,.int .i64 call,.int .i64 res,.int .i64 wr] 59)).ownsRow v0.heap.size 59 4 told evs.length (evsC evs):=htold.more K2
 have b2:(w1.alloc (.cells #[.int .i64 1,.int .i64 call,.int .i64 res,.int .i64 wr] 59)).heap[w1.heap.size]?=some (.cells #[.int .i64 1,.int .i64 call,.int .i64 res,.int .i64 wr] 59 (0,0)):=aa4 rfl
 gi_wp2_with (gi_at_builtin;refine wpListIn_append_own _ rfl (.tmp 49) (.tmp 54) 43 rfl v0.heap.size 59 i0 (.agg #[.int .i64 0,.int .i64 0,.int .i64 0,.int .i64 0]) 4 32 Tryz.underlying43 hi hz0 hz1 hz2 rfl (by decide) told evs.length (evsC evs) rfl t2 ⟨w1.heap.size,0,none⟩ 1 1 (evC (call,res,wr)) rfl rfl ?_ ?_ ?_ ?_ ?_ ?_)
 ·intro q u hq
  have ea:(⟨w1.heap.size,0,none⟩:Addr).add q=⟨w1.heap.size,q,none⟩:=by rw[Addr.add_lit,Nat.zero_add]
  rw[ea]
  refine(aa0 b2 q).trans ?_
  match q,hq with
  | 0,hq=>simpa [evC]using hq
  | 1,hq=>simpa [evC]using hq
  | 2,hq=>simpa [evC]using hq
  | 3,hq=>simpa [evC]using hq
 ·simp[evC,Value.oneCell']
 ·unfold maxLen;omega
 ·omega
 ·have:=hkeep.size;have:=K2.size;omega
 ·intro v' w3 hown hgrow _
  have K3:Keep (fun k=>told.ownBlock=some k) (w1.alloc (.cells #[.int .i64 1,.int .i64 call,.int .i64 res,.int .i64 wr] 59)) w3:=ae7 hgrow (fun k hk _=>hk)
  gi_wp2
  have ht:ToldE v0.heap.size v' w3 (evs++[(call,res,wr)]):=told_push hown
  have lo:∀k,k<v0.heap.size→¬told.ownBlock=some k:=fun k hk h=>absurd (t2.lt k h).1 (by omega)
  have hres2:=hres.more K2
  refine⟨rfl,rfl,_,v',af1 rfl (by simp[slC,pv,pr]),j,s,evs++[(call,res,wr)],res,wr,rfl,hj,?_,(hkeep.then K2.no).trans K3 (fun k hk h=>absurd h (lo k hk)),ht,⟨?_,hans.new,hans.res,hans.wr⟩,?_,hsm⟩
  ·rw[ai7 hrun,show(ac8 b.L (imgE b.L b.img s0 j) s).2=_ from hev];rfl
  ·refine K3.old (hans.more K2).blk (fun h=>?_)
   obtain⟨_,h2⟩:=t2
   rcases h2 with⟨rfl,_⟩|⟨g,cap,cur,rfl,_,hg,_⟩
   ·cases h
   ·obtain rfl:g=bA:=Option.some.inj h
    rw[(hans.more K2).blk]at hg
    cases hg
  ·rcases hres2 with⟨A,B,P,ho,he⟩|⟨hoff,⟨st,hd⟩,he⟩
   ·exact .inl ⟨A,B,P,ho.keep K3 (fun k hk=>lo k (old k hk)),he⟩
   ·exact .inr ⟨hoff.keep K3 (lo _ (old _ (.inl rfl))),⟨st,K3.old hd (lo _ (old _ (.inr (.inr (.inl rfl)))))⟩,he⟩
end
end Go.Fxa
