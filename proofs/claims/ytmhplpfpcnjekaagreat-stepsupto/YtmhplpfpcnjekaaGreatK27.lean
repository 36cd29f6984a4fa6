/- The Book and what it keeps. Are they words? By the document, by the program. New of the program: words, an image, maps. New of the program: maps, descriptors. slices.Repeat, of one number, six times. May there be such a machine? By the program. A process is admitted. -/
import Derived.Test.YtmhplpfpcnjekaaGreatK26
namespace Go.Fxa
open Go.Conc
open Go.Proofs
open Go.RowKit
def Book (T:Nat→Nat) (w:World) (bk:Nat) (tl:Nat→Value) (m:Nat) (es fs:List (Value×Int)):Prop:=
 ∃v1 v2 v3 v4,BookRaw T w bk tl m v1 v2 v3 v4 (es.map (·.1)) (es.map fun x=>.int .i64 x.2) (fs.map (·.1)) (fs.map fun x=>.int .i64 x.2)∧(∀x∈es,∃N,N≤100000000∧ReadsN T w x.2 N x.1)∧(∀x∈fs,∃N,N≤100000000∧ReadsEN T w x.2 N x.1)
theorem ReadsN.keep6 {T T':Nat→Nat} {w w':World} {mark:Int} {N:Nat} {x:Value} {S:Nat→Prop} (h:ReadsN T w mark N x) (hK:Keep S w w') (hn:∀k,T k=6→¬S k) (hT:∀k,k<w.heap.size→T k=6→T' k=T k):ReadsN T' w' mark N x:=by
 obtain⟨a,n,c,h1,h0,h2⟩:=h
 refine⟨a,n,c,h1,h0,fun hp=>?_⟩
 obtain⟨rb,h3,h4,h5⟩:=h2 hp
 have lt:rb<w.heap.size:=World.block_lt_of_cell? _ _ (h5 0 hp)
 exact⟨rb,h3,(hT rb lt h4).trans h4,fun i hi=>(hK.cell (p:=⟨rb,i,none⟩) lt (hn rb h4)).trans (h5 i hi)⟩
theorem ReadsEN.keep6 {T T':Nat→Nat} {w w':World} {mark:Int} {N:Nat} {x:Value} {S:Nat→Prop} (h:ReadsEN T w mark N x) (hK:Keep S w w') (hn:∀k,T k=6→¬S k) (hT:∀k,k<w.heap.size→T k=6→T' k=T k):ReadsEN T' w' mark N x:=by
 obtain⟨a,n,c,h1,h0,h2⟩:=h
 refine⟨a,n,c,h1,h0,fun hp=>?_⟩
 obtain⟨rb,h3,h4,lt,h5⟩:=h2 hp
 exact⟨rb,h3,(hT rb lt h4).trans h4,Nat.lt_of_lt_of_le lt hK.size,fun i hi q hq=>(hK.cell (p:=⟨rb,i*4+q,none⟩) lt (hn rb h4)).trans (h5 i hi q hq)⟩
theorem BookRaw.retag6 {T T':Nat→Nat} {w w':World} {bk:Nat} {tl:Nat→Value} {m:Int} {v1 v2 v3 v4:Value} {l1 l2 l3 l4:List Value} (h':BookRaw T w' bk tl m v1 v2 v3 v4 l1 l2 l3 l4) (h:BookRaw T w bk tl m v1 v2 v3 v4 l1 l2 l3 l4) (hT:∀k,k<w.heap.size→Bk T k→T' k=T k):BookRaw T' w' bk tl m v1 v2 v3 v4 l1 l2 l3 l4:=
 have r:=h.retag (T':=T') fun k hk a b=>hT k hk ⟨a,by omega⟩
 ⟨h'.blk,r.tag,h'.o1,h'.o2,h'.o3,h'.o4,r.t1,r.t2,r.t3,r.t4⟩
theorem Book.keep {T T':Nat→Nat} {w w':World} {bk m:Nat} {tl:Nat→Value} {es fs:List (Value×Int)} {S:Nat→Prop} (h:Book T w bk tl m es fs) (hK:Keep S w w') (hn:∀k,Bk T k→¬S k) (hT:∀k,k<w.heap.size→Bk T k→T' k=T k):Book T' w' bk tl m es fs:=by
 obtain⟨v1,v2,v3,v4,h1,h2,h3⟩:=h
 refine⟨v1,v2,v3,v4,(h1.keep hK fun k a b=>hn k ⟨a,by omega⟩).retag6 h1 hT,fun x hx=>?_,fun x hx=>?_⟩
 ·obtain⟨N,hN,h⟩:=h2 x hx
  exact⟨N,hN,h.keep6 hK (fun k hk=>hn k ⟨by omega,by omega⟩) (fun k hk h6=>hT k hk ⟨by omega,by omega⟩)⟩
 ·obtain⟨N,hN,h⟩:=h3 x hx
  exact⟨N,hN,h.keep6 hK (fun k hk=>hn k ⟨by omega,by omega⟩) (fun k hk h6=>hT k hk ⟨by omega,by omega⟩)⟩
theorem keepInts_book (m:Nat) (w:World) (T:Nat→Nat) (bk mm:Nat) (tl:Nat→Value) (es fs:List (Value×Int)) (h:Book T w bk tl mm es fs) (v:Value) (n:Nat) (xs:List Value) (hv:w.ownsRow 0 3 1 v n xs) (hnt:∀g,v.ownBlock=some g→¬Bk T g) (hl:es.length≤1000000000) (hn:n≤10000000) (hmm:mm≤1000000000):
  CallsIn NF m Tryz.prog 79 #[.pointer (some ⟨bk,0,none⟩),v] w fun e w'=>e=.returned (.tuple #[])∧Keep (KeepS T v) w w'∧∃T' es',es'.length=4∧Book T' w' bk tl (mm+1) (es++es') fs∧(∀k,k<w.heap.size→T' k=ad4 T v 6 k):=by
 obtain⟨v1,v2,v3,v4,h1,h2,h3⟩:=h
 refine(keepInts_calls m w T bk mm tl v1 v2 v3 v4 _ _ _ _ h1 v n xs hv hnt (by simpa using hl) (by simpa using hl) hn hmm).mono ?_
 rintro e w' ⟨rfl,K,T',u1,u2,new,hnew,R,hr,hT⟩
 have hn6:∀k,T k=6→¬((1≤T k∧T k≤5)∨v.ownBlock=some k):=fun k hk e=>by
  rcases e with e|e
  ·omega
  ·exact hnt k e ⟨by omega,by omega⟩
 have hT6:∀k,k<w.heap.size→T k=6→T' k=T k:=fun k hk h6=>by
  rw[hT k hk]
  exact if_neg fun e=>hnt k e ⟨by omega,by omega⟩
 have em:(new.map fun x=>(x,-((mm:Int)+1))).map (·.1)=new:=by simp[Function.comp_def]
 have ek:(new.map fun x=>(x,-((mm:Int)+1))).map (fun x=>Value.int .i64 x.2)=List.replicate 4 (.int .i64 (-((mm:Int)+1))):=by
  rw[List.map_map,←hnew,←List.map_const']
  rfl
 have rn:∀x∈new.map (fun x=>(x,-((mm:Int)+1))),∃N,N≤100000000∧ReadsN T' w' x.2 N x.1:=fun x hx=>by
  obtain⟨y,hy,rfl⟩:=List.mem_map.mp hx
  exact⟨_,by omega,hr y hy⟩
 refine⟨rfl,K,T',new.map fun x=>(x,-((mm:Int)+1)),by simpa using hnew,⟨u1,u2,v3,v4,?_,fun x hx=>?_,fun x hx=>?_⟩,hT⟩
 ·rw[List.map_append,List.map_append,em,ek]
  exact R
 ·rcases List.mem_append.mp hx with hx|hx
  ·obtain⟨N,hN,q⟩:=h2 x hx
   exact⟨N,hN,q.keep6 K hn6 hT6⟩
  ·exact rn x hx
 ·obtain⟨N,hN,q⟩:=h3 x hx
  exact⟨N,hN,q.keep6 K hn6 hT6⟩
theorem keepEvents_book (m:Nat) (w:World) (T:Nat→Nat) (bk mm:Nat) (tl:Nat→Value) (es fs:List (Value×Int)) (h:Book T w bk tl mm es fs) (v:Value) (n:Nat) (xs:List Value) (hv:w.ownsRow 0 59 4 v n xs) (hnt:∀g,v.ownBlock=some g→¬Bk T g) (hl:fs.length≤1000000000) (hn:n≤10000000) (hmm:mm≤1000000000):
  CallsIn NF m Tryz.prog 119 #[.pointer (some ⟨bk,0,none⟩),v] w fun e w'=>e=.returned (.tuple #[])∧Keep (KeepS T v) w w'∧∃T' es',es'.length=4∧Book T' w' bk tl (mm+1) es (fs++es')∧(∀k,k<w.heap.size→T' k=ad4 T v 6 k):=by
 obtain⟨v1,v2,v3,v4,h1,h2,h3⟩:=h
 refine(keepEvents_calls m w T bk mm tl v1 v2 v3 v4 _ _ _ _ h1 v n xs hv hnt (by simpa using hl) (by simpa using hl) hn hmm).mono ?_
 rintro e w' ⟨rfl,K,T',u1,u2,new,hnew,R,hr,hT⟩
 have hn6:∀k,T k=6→¬((1≤T k∧T k≤5)∨v.ownBlock=some k):=fun k hk e=>by
  rcases e with e|e
  ·omega
  ·exact hnt k e ⟨by omega,by omega⟩
 have hT6:∀k,k<w.heap.size→T k=6→T' k=T k:=fun k hk h6=>by
  rw[hT k hk]
  exact if_neg fun e=>hnt k e ⟨by omega,by omega⟩
 have em:(new.map fun x=>(x,-((mm:Int)+1))).map (·.1)=new:=by simp[Function.comp_def]
 have ek:(new.map fun x=>(x,-((mm:Int)+1))).map (fun x=>Value.int .i64 x.2)=List.replicate 4 (.int .i64 (-((mm:Int)+1))):=by
  rw[List.map_map,←hnew,←List.map_const']
  rfl
 have rn:∀x∈new.map (fun x=>(x,-((mm:Int)+1))),∃N,N≤100000000∧ReadsEN T' w' x.2 N x.1:=fun x hx=>by
  obtain⟨y,hy,rfl⟩:=List.mem_map.mp hx
  exact⟨_,by omega,hr y hy⟩
 refine⟨rfl,K,T',new.map fun x=>(x,-((mm:Int)+1)),by simpa using hnew,⟨v1,v2,u1,u2,?_,fun x hx=>?_,fun x hx=>?_⟩,hT⟩
 ·rw[List.map_append,List.map_append,em,ek]
  exact R
 ·obtain⟨N,hN,q⟩:=h2 x hx
  exact⟨N,hN,q.keep6 K hn6 hT6⟩
 ·rcases List.mem_append.mp hx with hx|hx
  ·obtain⟨N,hN,q⟩:=h3 x hx
   exact⟨N,hN,q.keep6 K hn6 hT6⟩
  ·exact rn x hx
end Go.Fxa
namespace Go.Fxa
open Go.Conc
open Go.Proofs
open Go.RowKit
set_option maxRecDepth 1000000
def Words (n:Nat) (f:Nat→Int):Prop:=∀i,i<n→0≤f i∧f i≤65535
def AnsW (n:Nat) (f:Nat→Int) (e:Ending):Prop:=∃r:Bool,e=.returned (.bool r)∧(r=true ↔ Words n f)
theorem AnsW.yes {n:Nat} {f:Nat→Int} (h:Words n f):AnsW n f (.returned (.bool true)):=⟨true,rfl,by simpa using h⟩
theorem AnsW.no {n:Nat} {f:Nat→Int} (h:¬Words n f):AnsW n f (.returned (.bool false)):=⟨false,rfl,by simpa using h⟩
section
variable (m:Nat) (w:World)
theorem rwords_calls (v:Value) (n:Nat) (f:Nat→Int) (h:SlI w v n f):CallsIn NF m Tryz.prog 108 #[v] w fun e w'=>AnsW n f e∧w'=w:=by
 obtain⟨hn,s,c,rfl,hs⟩:=h
 by_cases h0:n=0
 ·subst h0
  gi_enter Tryz.func108,Tryz.ntmps108
  gi_wp2
  refine wpIn_loop_once ?_
  gi_wp2
  go_ret
  exact⟨AnsW.yes (fun i hi=>absurd hi (by omega)),rfl⟩
 ·obtain⟨b,o,rfl,hc⟩:=hs (by omega)
  clear hs
  gi_enter Tryz.func108,Tryz.ntmps108
  gi_wp2
  gi_loopw [3] (fun i wr=>wr=w∧∃k:Nat,k≤n∧i=.int .i64 k∧Words k f) (fun i _=>n-(intOf i).toNat)
  case atStart=>exact⟨rfl,0,Nat.zero_le _,rfl,fun i hi=>absurd hi (by omega)⟩
  case round=>
   obtain⟨hw,k,hk,rfl,hW⟩:=hrel
   subst hw
   by_cases hlt:k<n
   ·have g1:=hc k hlt
    by_cases c1:f k<0
    ·gi_wp2
     go_ret
     exact⟨AnsW.no (fun hx=>by have:=hx k hlt;omega),rfl⟩
    ·by_cases c2:65535<f k
     ·gi_wp2
      go_ret
      exact⟨AnsW.no (fun hx=>by have:=hx k hlt;omega),rfl⟩
     ·gi_wp2
      go_roundw
      case rel=>
       refine⟨trivial,k+1,by omega,by go_num,fun i hi=>?_⟩
       by_cases e:i=k
       ·subst e;omega
       ·exact hW i (by omega)
      case measure=>simp[intOf];omega
   ·obtain rfl:k=n:=by omega
    gi_wp2
    go_ret
    exact⟨AnsW.yes hW,rfl⟩
theorem kwords_calls (v:Value) (n:Nat) (f:Nat→Int) (h:SlI w v n f):CallsIn NF m Tryz.prog 87 #[v] w fun e w'=>AnsW n f e∧w'=w:=by
 obtain⟨hn,s,c,rfl,hs⟩:=h
 by_cases h0:n=0
 ·subst h0
  gi_enter Tryz.func87,Tryz.ntmps87
  gi_wp2
  refine wpIn_loop_once ?_
  gi_wp2
  go_ret
  exact⟨AnsW.yes (fun i hi=>absurd hi (by omega)),rfl⟩
 ·obtain⟨b,o,rfl,hc⟩:=hs (by omega)
  clear hs
  gi_enter Tryz.func87,Tryz.ntmps87
  gi_wp2
  gi_loopw [7] (fun i wr=>wr=w∧∃k:Nat,k≤n∧i=.int .i64 k∧Words k f) (fun i _=>n-(intOf i).toNat)
  case atStart=>exact⟨rfl,0,Nat.zero_le _,rfl,fun i hi=>absurd hi (by omega)⟩
  case round=>
   obtain⟨hw,k,hk,rfl,hW⟩:=hrel
   subst hw
   by_cases hlt:k<n
   ·have g1:=hc k hlt
    have hwr:wrap64 (IntKind.u16.wrap (f k))=f k % 65536:=by rw[wrap_u16];unfold wrap64;omega
    by_cases c1:f k % 65536=f k
    ·have hb:(f k !=wrap64 (IntKind.u16.wrap (f k)))=false:=by rw[hwr,c1];simp
     gi_wp2
     go_roundw
     case rel=>
      refine⟨trivial,k+1,by omega,by go_num,fun i hi=>?_⟩
      by_cases e:i=k
      ·subst e;omega
      ·exact hW i (by omega)
     case measure=>simp[intOf];omega
    ·have hb:(f k !=wrap64 (IntKind.u16.wrap (f k)))=true:=by rw[hwr];simp only[bne_iff_ne,ne_eq];exact fun e=>c1 e.symm
     gi_wp2
     go_ret
     exact⟨AnsW.no (fun hx=>by have:=hx k hlt;omega),rfl⟩
   ·obtain rfl:k=n:=by omega
    gi_wp2
    go_ret
    exact⟨AnsW.yes hW,rfl⟩
end
theorem Keep.setRow {S:Nat→Prop} {a w:World} (h:Keep S a w) {g:Nat} (cs:Array Value) (hp:g<a.heap.size→S g):Keep S a (w.setRow g cs):=
 ⟨h.os,h.output,by rw[setRow_size];exact h.size,fun k hk hn=>(setRow_other w g k cs (fun e=>hn (e ▸ hp (e ▸ hk)))).trans (h.block k hk hn)⟩
section
variable (m:Nat) (w:World)
theorem made_words (n:Nat):RowT 123 .u16 (w.alloc (.cells (madeCells #[.int .u16 0] n) 123)) w.heap.size n (fun _=>0):=by
 refine⟨madeCells #[.int .u16 0] n,aa4 rfl,by simp[madeCells],fun i hi=>?_⟩
 simp[madeCells,hi,Nat.mod_one]
set_option maxHeartbeats 2000000 in
theorem toWords_calls (b o L c:Nat) (img:Nat→Nat) (hc:∀i,i<L→w.cell? ⟨b,o+i,none⟩=some (.int .i64 (img i))) (hw:∀i,i<L→img i<65536) (hL1:1≤L) (hL:L≤128):CallsIn NF m Tryz.prog 45 #[.slice (some ⟨b,o,none⟩) L c] w fun e w'=>Keep No w w'∧e=.returned (.slice (some ⟨w.heap.size,0,none⟩) L L)∧RowT 123 .u16 w' w.heap.size L (fun i=>img i):=by
 obtain⟨i0,hi,hz0,hz1,hz2⟩:=info_parts info123
 have hmk:=run_make (P:=Tryz.prog) w 116 123 i0 (.int .u16 0) Tryz.underlying116 hi hz0 .i64 .i64 L L (by omega) (by omega) (by rw[hz2];omega) (by omega)
 rw[hz1]at hmk
 simp only[Int.toNat_natCast,Nat.mul_one,Value.cells]at hmk
 have r0:=made_words w L
 have K0:Keep No w (w.alloc (.cells (madeCells #[.int .u16 0] L) 123)):=(Keep.refl _ _).alloc _
 generalize w.alloc (.cells (madeCells #[.int .u16 0] L) 123)=w1 at*
 gi_enter Tryz.func45,Tryz.ntmps45
 gi_wp2
 gi_loopw [11] (fun i wr=>∃k:Nat,k≤L∧i=.int .i64 k∧Keep No w wr∧RowT 123 .u16 wr w.heap.size L (fun i=>if i<k then(img i:Int)else 0)) (fun i _=>L-(intOf i).toNat)
 case atStart=>exact⟨0,by omega,rfl,K0,r0.ext (fun i _=>by simp)⟩
 case round=>
  obtain⟨k,hk,rfl,KK,rr⟩:=hrel
  by_cases hlt:k<L
  ·have hw1:=hw k hlt
   have hwr:(img k:Int) % 65536=img k:=by omega
   have d:=KK.has (hc k hlt)
   have e:=rr.cell hlt
   have f:=rr.fz k
   gi_wp2
   go_roundw
   case rel=>
    refine⟨k+1,by omega,by go_num,KK.setCell _ (fun hx=>absurd hx (Nat.lt_irrefl _)),(rr.set k (img k)).ext (fun i hi=>?_)⟩
    show(if i=k then(img k:Int)else if i<k then(img i:Int)else 0)=if i<k+1 then(img i:Int)else 0
    by_cases c1:i=k
    ·subst c1;rw[if_pos rfl,if_pos (by omega)]
    ·by_cases c2:i<k
     ·rw[if_neg c1,if_pos c2,if_pos (by omega)]
     ·rw[if_neg c1,if_neg c2,if_neg (by omega)]
   case measure=>simp[intOf];omega
  ·obtain rfl:k=L:=by omega
   gi_wp2
   go_ret
   exact⟨KK,by simp,rr.ext (fun i hi=>by simp[hi])⟩
def ah5 (n:Nat) (img:Nat→Nat) (i:Nat):Nat:=if i<n then img i else 0
set_option maxHeartbeats 2000000 in
theorem imageOf_calls (ab n nb N8:Nat) (img:Nat→Nat) (h:RowT 123 .u16 w ab n (fun i=>img i)) (h8:8*nb=N8) (hn:n≤N8) (hb:N8≤128):CallsIn NF m Tryz.prog 47 #[.slice (some ⟨ab,0,none⟩) n n,.int .i64 nb] w fun e w'=>Keep No w w'∧e=.returned (.slice (some ⟨w.heap.size,0,none⟩) N8 N8)∧RowT 123 .u16 w' w.heap.size N8 (fun i=>ah5 n img i):=by
 obtain⟨i0,hi,hz0,hz1,hz2⟩:=info_parts info123
 have hmk:=run_make (P:=Tryz.prog) w 116 123 i0 (.int .u16 0) Tryz.underlying116 hi hz0 .i64 .i64 N8 N8 (by omega) (by omega) (by rw[hz2];omega) (by omega)
 rw[hz1]at hmk
 simp only[Int.toNat_natCast,Nat.mul_one,Value.cells]at hmk
 have r0:=made_words w N8
 have K0:Keep No w (w.alloc (.cells (madeCells #[.int .u16 0] N8) 123)):=(Keep.refl _ _).alloc _
 generalize w.alloc (.cells (madeCells #[.int .u16 0] N8) 123)=w1 at*
 have h1:=h.keep K0 id
 have e8:(nb:Int)*8=N8:=by omega
 obtain⟨cs,q1,q2,q3⟩:=r0
 have hsrc:∀j v,((List.range n).map fun i=>Value.int .u16 (img i))[j]?=some v→w1.cell? ((⟨ab,0,none⟩:Addr).add j)=some v:=fun j v hj=>by
  have hj':j<n:=by
   rcases Nat.lt_or_ge j n with h|h
   ·exact h
   ·rw[List.getElem?_eq_none (by simpa using h)]at hj;cases hj
  rw[Addr.add_lit,Nat.zero_add,h1.cell hj',←hj]
  simp[hj']
 have hcp:=run_copy_row (P:=Tryz.prog) w1 116 116 3 123 w.heap.size 0 N8 N8 ⟨ab,0,none⟩ n n cs 123 ((List.range n).map fun i=>Value.int .u16 (img i)) Tryz.underlying116 (by simp[hi,hz1]) q1 (by simp;exact(Nat.min_eq_left hn).symm) hsrc (by simp;omega) (by simp[Value.oneCell'])
 have hg2:=setRow_heap w1 w.heap.size cs (cs.toList.take 0++((List.range n).map fun i=>Value.int .u16 (img i))++cs.toList.drop (0+((List.range n).map fun i=>Value.int .u16 (img i)).length)).toArray 123 (0,0) q1
 have K2:=K0.setRow (g:=w.heap.size) (cs.toList.take 0++((List.range n).map fun i=>Value.int .u16 (img i))++cs.toList.drop (0+((List.range n).map fun i=>Value.int .u16 (img i)).length)).toArray (fun hx=>absurd hx (Nat.lt_irrefl _))
 generalize w1.setRow w.heap.size _=w2 at*
 gi_enter Tryz.func47,Tryz.ntmps47
 gi_wp2_with (refine list_copy rfl (.tmp 9) (.tmp 10) _ rfl rfl rfl hcp ?_)
 go_ret
 refine⟨K2,by simp,_,hg2,by simp;omega,fun i hi=>?_⟩
 by_cases hin:i<n
 ·simp[ah5,hin,List.getElem?_append_left]
 ·have:=q3 i hi
  rw[←Array.getElem?_toList]at this
  simp[ah5,hin,List.getElem?_append_right (show((List.range n).map fun i=>Value.int .u16 (img i)).length≤i by simp;omega)]
  rw[show n+(i-n)=i by omega]
  simpa using this
end
section
variable (m:Nat) (w:World)
theorem build_run186 (N:Nat):(Instr.build 186 #[(1,.int .i64 N)]).run Tryz.prog w=.ok (.agg #[.int .i64 0,.int .i64 N]) w:=by kernel_rfl
theorem build_run188 (N:Nat):(Instr.build 188 #[(1,.int .i64 N)]).run Tryz.prog w=.ok (.agg #[.int .i64 0,.int .i64 N]) w:=by kernel_rfl
theorem newC_calls (N:Nat) (h1:1≤N):CallsIn NF m Tryz.prog 42 #[.int .i64 N] w fun e w'=>Keep No w w'∧∃cb,w.heap.size≤cb∧e=.returned (.agg #[.slice (some ⟨cb,0,none⟩) 1 1])∧w'.heap[cb]?=some (.cells #[.int .i64 0,.int .i64 N] 186 (0,0)):=by
 have hb:=fun w=>build_run186 w N
 gi_enter Tryz.func42,Tryz.ntmps42
 gi_wp2
 have c0:((w.alloc (.cells #[.slice (some ⟨w.heap.size+1,0,none⟩) 1 1] 92)).alloc (.cells #[.int .i64 0,.int .i64 N] 186)).cell? ⟨w.heap.size,0,none⟩=some (.slice (some ⟨w.heap.size+1,0,none⟩) 1 1):=by
  rw[aa0 ((ab5 (by simp)).trans (aa4 rfl))];rfl
 refine bodyPost_ret (v:=.agg #[.slice (some ⟨w.heap.size+1,0,none⟩) 1 1]) (by simp[results,Tryz.results42,go_sem,c0]) rfl ?_
 exact⟨((Keep.refl No w).alloc _).alloc _,w.heap.size+1,by omega,rfl,aa4 (by simp)⟩
theorem newS_calls (N:Nat) (h1:1≤N):CallsIn NF m Tryz.prog 43 #[.int .i64 N] w fun e w'=>Keep No w w'∧∃cb,w.heap.size≤cb∧e=.returned (.agg #[.slice (some ⟨cb,0,none⟩) 1 1])∧w'.heap[cb]?=some (.cells #[.int .i64 0,.int .i64 N] 188 (0,0)):=by
 have hb:=fun w=>build_run188 w N
 gi_enter Tryz.func43,Tryz.ntmps43
 gi_wp2
 have c0:((w.alloc (.cells #[.slice (some ⟨w.heap.size+1,0,none⟩) 1 1] 97)).alloc (.cells #[.int .i64 0,.int .i64 N] 188)).cell? ⟨w.heap.size,0,none⟩=some (.slice (some ⟨w.heap.size+1,0,none⟩) 1 1):=by
  rw[aa0 ((ab5 (by simp)).trans (aa4 rfl))];rfl
 refine bodyPost_ret (v:=.agg #[.slice (some ⟨w.heap.size+1,0,none⟩) 1 1]) (by simp[results,Tryz.results43,go_sem,c0]) rfl ?_
 exact⟨((Keep.refl No w).alloc _).alloc _,w.heap.size+1,by omega,rfl,aa4 (by simp)⟩
theorem mul_calls:CallsIn NF m Tryz.prog 90 #[.int .u64 1,.int .u64 6] w fun e w'=>e=.returned (.tuple #[.int .u64 0,.int .u64 6])∧w'=w:=by
 gi_enter Tryz.func90,Tryz.ntmps90
 gi_wp2
 refine bodyPost_ret (v:=.tuple #[.int .u64 0,.int .u64 6]) (by kernel_rfl) rfl ?_
 exact⟨rfl,rfl⟩
end
def pre6 (k:Nat) (i:Nat):Int:=if i<k then -1 else 0
theorem rep_copy {W:World} {fb k c d n cap sb so:Nat} (h:RowT 3 .i64 W fb 6 (pre6 k)) (hk:k≤6) (hd:6-k=d) (hc:Nat.min n d=c) (hs:∀j,j<c→W.cell? ⟨sb,so+j,none⟩=some (.int .i64 (-1))):∃W',(Builtin.copy_ #[22,22] 3 #[.slice (some ⟨fb,k,none⟩) d d,.slice (some ⟨sb,so,none⟩) n cap]).run Tryz.prog W=.ok (.int .i64 c) W'∧Keep (At fb) W W'∧RowT 3 .i64 W' fb 6 (pre6 (k+c)):=by
 obtain⟨i0,hi,hz0,hz1,hz2⟩:=info_parts info3
 obtain⟨cs,q1,q2,q3⟩:=id h
 have hcd:c≤d:=by rw[←hc];exact Nat.min_le_right _ _
 have hsrc:∀j v,(List.replicate c (Value.int .i64 (-1)))[j]?=some v→W.cell? ((⟨sb,so,none⟩:Addr).add j)=some v:=fun j v hj=>by
  have hj':j<c:=by
   rcases Nat.lt_or_ge j c with h|h
   ·exact h
   ·rw[List.getElem?_eq_none (by simpa using h)]at hj;cases hj
  rw[Addr.add_lit,hs j hj',←hj,List.getElem?_replicate_of_lt hj']
 have hcp:=run_copy_row (P:=Tryz.prog) W 22 22 3 3 fb k d d ⟨sb,so,none⟩ n cap cs 3 (List.replicate c (Value.int .i64 (-1))) Tryz.underlying22 (by simp[hi,hz1]) q1 (by simp[hc]) hsrc (by simp;omega) (by simp[Value.oneCell'])
 refine⟨_,by simpa [goInt]using hcp,(Keep.refl _ W).setRow _ (fun _=>rfl),_,setRow_heap W fb cs _ 3 (0,0) q1,by simp;omega,fun i hi=>?_⟩
 have q:=q3 i hi
 rw[←Array.getElem?_toList]at q
 simp only[List.getElem?_toArray,pre6]
 by_cases c1:i<k
 ·rw[List.getElem?_append_left (by simp;omega),List.getElem?_take_of_lt c1,q]
  have c2:i<k+c:=by omega
  simp[pre6,c1,c2]
 ·by_cases c2:i<k+c
  ·rw[List.getElem?_append_right (by simp;omega),List.getElem?_append_left (by simp;omega),List.getElem?_replicate_of_lt (by simp;omega)]
   simp[c2]
  ·rw[List.getElem?_append_right (by simp;omega),List.getElem?_append_right (by simp;omega),List.getElem?_drop]
   rw[show k+c+(i-(List.take k cs.toList).length-(List.replicate c (Value.int .i64 (-1))).length)=i by simp;omega,q]
   simp[pre6,c1,c2]
section
variable (m:Nat) (w:World)
def PostC (g k c:Nat) (v:Value) (W:World):Prop:=v=.int .i64 c∧RowT 3 .i64 W g 6 (pre6 (k+c))
set_option maxHeartbeats 8000000 in
theorem repeat_calls (vb:Nat) (hv:w.heap[vb]?=some (.cells #[.int .i64 (-1)] 3 (0,0))):CallsIn NF m Tryz.prog 49 #[.slice (some ⟨vb,0,none⟩) 1 1,.int .i64 6] w fun e w'=>Keep No w w'∧e=.returned (.slice (some ⟨w.heap.size,0,none⟩) 6 6)∧RowT 3 .i64 w' w.heap.size 6 (fun _=>-1):=by
 obtain⟨i0,hi,hz0,hz1,hz2⟩:=info_parts info3
 have hmk:=run_make (P:=Tryz.prog) w 22 3 i0 (.int .i64 0) Tryz.underlying22 hi hz0 .i64 .i64 6 6 (by omega) (by omega) (by rw[hz2];omega) (by omega)
 rw[hz1]at hmk
 have hmk:(Instr.makeSlice 22 (.int .i64 6) (.int .i64 6)).run Tryz.prog w=.ok (.slice (some ⟨w.heap.size,0,none⟩) 6 6) (w.alloc (.cells (madeCells #[.int .i64 0] 6) 3)):=hmk
 have r0:=(made_row w 6).ext (g:=pre6 0) (fun i _=>by simp[pre6])
 have K0:Keep No w (w.alloc (.cells (madeCells #[.int .i64 0] 6) 3)):=(Keep.refl _ _).alloc _
 have hv0:=K0.old hv id
 have hs0:∀j,j<1→(w.alloc (.cells (madeCells #[.int .i64 0] 6) 3)).cell? ⟨vb,0+j,none⟩=some (.int .i64 (-1)):=fun j hj=>by
  obtain rfl:j=0:=by omega
  rw[aa0 hv0];rfl
 obtain⟨w2,hcp,K2,r2⟩:=rep_copy (c:=1) (d:=6) (n:=1) (cap:=1) (sb:=vb) (so:=0) r0 (by omega) rfl rfl hs0
 have K02:Keep No w w2:=K0.trans K2 (fun k hk e=>absurd (show k=w.heap.size from e) (by omega))
 gi_enter Tryz.func49,Tryz.ntmps49
 gi_wp2_with (first|(gi_at_call 90;refine(mul_calls _ w).mono ?_;rintro e w2 ⟨rfl,hw⟩;have hw:=hw.symm;subst hw)|(refine list_copy rfl (.tmp 31) (.tmp 32) _ rfl rfl rfl hcp ?_))
 gi_loopw [8] (fun i wr=>∃k:Nat,(k=1∨k=2∨k=4∨k=6)∧i=.int .i64 k∧Keep No w wr∧RowT 3 .i64 wr w.heap.size 6 (pre6 k)) (fun i _=>6-(intOf i).toNat)
 case atStart=>exact⟨1,.inl rfl,rfl,K02,r2⟩
 case round=>
  obtain⟨k,hk,rfl,KK,rr⟩:=hrel
  by_cases h6:k=6
  ·subst h6
   gi_wp2
   go_ret
   exact⟨KK,by simp,rr.ext (fun i hi=>by simp[pre6,hi])⟩
  obtain⟨d,c,hkc,hc1,hd,hc⟩:∃d c,(k+c=2∨k+c=4∨k+c=6)∧1≤c∧6-k=d∧Nat.min k d=c:=by
   rcases hk with rfl|rfl|rfl|rfl
   ·exact⟨5,1,by omega,by omega,rfl,rfl⟩
   ·exact⟨4,2,by omega,by omega,rfl,rfl⟩
   ·exact⟨2,2,by omega,by omega,rfl,rfl⟩
   ·exact absurd rfl h6
  have hlt:k<6:=by omega
  have hd':d=6-k:=hd.symm
  have hlt':(k:Int)<6:=by omega
  have rr0:RowT 3 .i64 wr.drew w.heap.size 6 (pre6 k):=rr
  obtain⟨W',hcp,KC,rC⟩:=rep_copy (c:=c) (d:=d) (n:=k) (cap:=6) (sb:=w.heap.size) (so:=0) rr0 (by omega) hd hc (fun j hj=>by
   have hjk:j<k:=Nat.lt_of_lt_of_le hj (by rw[←hc];exact Nat.min_le_left _ _)
   rw[Nat.zero_add,rr0.cell (by omega)]
   simp[pre6,hjk])
  gi_wp2
  refine ag5 (P:=Tryz.prog) _ rfl rfl (by kernel_rfl) 8 48 [0,1,2,3,4,5,6] [7] (by kernel_rfl) (by rfl)
   (OneI (Go.Fxa.At w.heap.size) wr.drew 7 (PostC w.heap.size k c) []) (oneI_ind (by simp) (by simp)) _ _ rfl rfl ?_
  subst hd'
  gi_wp2
  refine⟨rfl,by kernel_rfl,oneI_start,?_,?_,?_⟩
  ·intro L' u W hI
   repeat' (refine aa8 ?_ ?_)
   all_goals first|exact trivial|gi_wp2
  ·intro i hi L' u W hI hLi hu
   obtain rfl:i=7:=by simpa using hi
   obtain rfl:=hI.2.1 hLi
   refine ac4 rfl fun KK hKK=>?_
   show wpListIn NF m Tryz.prog _ _ _ (Act.put _ (some 45) (u 7)) _
   gi_wp2_with (refine list_copy rfl (.tmp 41) (.tmp 44) _ rfl rfl rfl hcp ?_)
   exact⟨_,rfl,oneI_eff hI (by simp) KC ⟨rfl,rC⟩⟩
  ·intro L' u W hI hL
   obtain⟨e7,h1⟩:=hI.2.2.1 (hL 7 (by simp))
   show wpListIn NF m Tryz.prog _ _ _ (Act.put _ (some 45) (u 7)) _
   rw[e7]
   gi_wp2
   go_roundw
   case rel=>exact⟨k+c,by omega,by rw[Int.natCast_add],(KK.drew.trans hI.1 (fun x hx e=>absurd (show x=w.heap.size from e) (by omega))),h1⟩
   case measure=>simp[intOf];omega
end
def MayBe (core swap:Int) (n:Nat) (f:Nat→Int):Prop:=(16≤core∧core≤64∧1≤swap∧swap≤256)∧(1≤n∧n≤128∧Words n f)∧(nblk n:Int)≤swap
def AnsM (core swap:Int) (n:Nat) (f:Nat→Int) (e:Ending):Prop:=∃r:Bool,e=.returned (.bool r)∧(r=true ↔ MayBe core swap n f)
section
variable {core swap:Int} {n:Nat} {f:Nat→Int}
theorem AnsM.yes (h:MayBe core swap n f):AnsM core swap n f (.returned (.bool true)):=⟨true,rfl,by simpa using h⟩
theorem AnsM.no (h:¬MayBe core swap n f):AnsM core swap n f (.returned (.bool false)):=⟨false,rfl,by simpa using h⟩
end
section
variable (m:Nat) (w:World)
theorem mayFiles_calls (fa:Option Addr) (fc:Nat):CallsIn NF m Tryz.prog 88 #[.slice fa 0 fc] w fun e w'=>e=.returned (.bool true)∧w'=w:=by
 gi_enter Tryz.func88,Tryz.ntmps88
 gi_wp2
 refine wpIn_loop_once ?_
 gi_wp2
 go_ret
 exact⟨by simp,rfl⟩
set_option maxHeartbeats 4000000 in
theorem mayBe_calls (core swap:Int) (v:Value) (n:Nat) (f:Nat→Int) (fa:Option Addr) (fc:Nat) (h:SlI w v n f):CallsIn NF m Tryz.prog 41 #[.agg #[.int .i64 core,.int .i64 swap,v,.slice fa 0 fc]] w fun e w'=>Keep No w w'∧AnsM core swap n f e:=by
 obtain⟨s,c,rfl⟩:∃s c,v=.slice s n c:=let ⟨_,s,c,e,_⟩:=h;⟨s,c,e⟩
 have hn:=h.1
 have K1:Keep No w (w.alloc (.cells #[.int .i64 core,.int .i64 swap,.slice s n c,.slice fa 0 fc] 25)):=(Keep.refl _ _).alloc _
 have h1:=h.keep K1
 gi_enter Tryz.func41,Tryz.ntmps41
 by_cases g1:core<16
 ·gi_wp2
  go_ret
  exact⟨K1,AnsM.no (fun hx=>by have:=hx.1;omega)⟩
 by_cases g2:64<core
 ·gi_wp2
  go_ret
  exact⟨K1,AnsM.no (fun hx=>by have:=hx.1;omega)⟩
 by_cases g3:swap<1
 ·gi_wp2
  go_ret
  exact⟨K1,AnsM.no (fun hx=>by have:=hx.1;omega)⟩
 by_cases g4:256<swap
 ·gi_wp2
  go_ret
  exact⟨K1,AnsM.no (fun hx=>by have:=hx.1;omega)⟩
 by_cases g5:(n:Int)<1
 ·gi_wp2
  go_ret
  exact⟨K1,AnsM.no (fun hx=>by have:=hx.2.1;omega)⟩
 by_cases g6:128<(n:Int)
 ·gi_wp2
  go_ret
  exact⟨K1,AnsM.no (fun hx=>by have:=hx.2.1;omega)⟩
 gi_wp2_with fail
 refine(kwords_calls _ (w.alloc (.cells #[.int .i64 core,.int .i64 swap,.slice s n c,.slice fa 0 fc] 25)) _ n f h1).mono ?_
 rintro e w1 ⟨⟨r,rfl,hr⟩,hw⟩
 have hw:=hw.symm
 subst hw
 cases r
 ·gi_wp2
  go_ret
  exact⟨K1,AnsM.no (fun hx=>by have:=hr.2 hx.2.1.2.2;cases this)⟩
 have hW:Words n f:=hr.1 rfl
 clear hr
 have hb1:(w.alloc (.cells #[.int .i64 core,.int .i64 swap,.slice s n c,.slice fa 0 fc] 25)).heap[w.heap.size]?=some (.cells #[.int .i64 core,.int .i64 swap,.slice s n c,.slice fa 0 fc] 25 (0,0)):=aa4 rfl
 have c1:(w.alloc (.cells #[.int .i64 core,.int .i64 swap,.slice s n c,.slice fa 0 fc] 25)).cell? ⟨w.heap.size,1,none⟩=some (.int .i64 swap):=by rw[aa0 hb1];rfl
 have c3:(w.alloc (.cells #[.int .i64 core,.int .i64 swap,.slice s n c,.slice fa 0 fc] 25)).cell? ⟨w.heap.size,3,none⟩=some (.slice fa 0 fc):=by rw[aa0 hb1];rfl
 gi_wp2
 generalize w.alloc (.cells #[.int .i64 core,.int .i64 swap,.slice s n c,.slice fa 0 fc] 25)=w1 at*
 refine aa9 (P:=Tryz.prog) No _ rfl rfl (by kernel_rfl) 4 47 [0,1,2,3] [] (by kernel_rfl) (by rfl) (fun _ _ _=>True) (fun _ _ _ _ _ h _=>h) _ _ rfl rfl ?_
 gi_wp2_with (gi_at_call 48;refine(of_calls _ w1.drew n (by omega)).mono ?_;rintro e w2 ⟨rfl,hw2⟩;have hw2:=hw2.symm;subst hw2)
 refine⟨rfl,by kernel_rfl,?_,(fun i hi=>absurd hi (by simp)),?_⟩
 ·intro V hK
  have d1:=hK.has (w:=w1.drew) c1
  repeat' (refine aa8 ?_ ?_)
  all_goals first|exact trivial|gi_wp2_with (gi_at_call 48;refine(of_calls _ V n (by omega)).mono ?_;rintro e w2 ⟨rfl,hw2⟩;have hw2:=hw2.symm;subst hw2)
 intro u1 V hV _
 simp only[putS]
 have KV:Keep No w V:=K1.drew.then hV
 have d1:=hV.has (w:=w1.drew) c1
 have d3:=hV.has (w:=w1.drew) c3
 by_cases g7:(nblk n:Int)≤swap
 ·gi_wp2_with (gi_at_call 88;refine(mayFiles_calls _ V fa fc).mono ?_;rintro e w2 ⟨rfl,hw2⟩;have hw2:=hw2.symm;subst hw2)
  go_ret
  exact⟨KV,AnsM.yes ⟨⟨by omega,by omega,by omega,by omega⟩,⟨by omega,by omega,hW⟩,g7⟩⟩
 ·gi_wp2_with (refine ab7 rfl rfl rfl ?_)
  go_ret
  exact⟨KV,AnsM.no (fun hx=>by have:=hx.2.2;omega)⟩
end
def PostU (kb cb n N:Nat) (ks:Array Value) (v:Value) (W:World):Prop:=v=.tuple #[.int .i64 0,.bool true]∧∃v',W.heap[kb]?=some (.cells (ks.setIfInBounds 1 v') 114 (0,0))∧Took 188 v' W cb n N
theorem info119:(Tryz.prog.info? 119).map (fun i=>(i.zero,i.size,i.bytes))=some (some (.pointer none),1,8):=by kernel_rfl
def proc0 (ib L fb:Nat):Obj:=prc 128 (.int .i64 0) (.int .i64 0) (.bool false) (.int .u16 0) .nilFunc 0 0 0 (.slice (some ⟨ib,0,none⟩) L L) (.slice (some ⟨fb,0,none⟩) 6 6) (.int .i64 0) (.int .i64 0)
section
variable (m:Nat) (w:World) (kb pb cb N ib L fb:Nat) (ks:Array Value) (v:Value)
set_option maxHeartbeats 4000000 in
theorem admit_calls (hp:w.heap[pb]?=some (proc0 ib L fb)) (hk:w.heap[kb]?=some (.cells ks 114 (0,0))) (hs:ks[1]?=some v) (hs2:ks[2]?=some (.slice none 0 0)) (hs3:ks[3]?=some (.int .i64 0)) (hf:Full 188 v w cb N) (hn:nblk L≤N) (hL:1≤L) (hL':L≤128) (hN:N≤500):
  CallsIn NF m Tryz.prog 46 #[.pointer (some ⟨kb,0,none⟩),.pointer (some ⟨pb,0,none⟩)] w fun e w'=>e=.returned (.bool true)∧Keep (fun b=>b=kb∨b=cb∨b=pb) w w'∧w'.heap[pb]?=some (proc 0 0 0 ib L fb (-1))∧∃v' ks' prb pc prs,w'.heap[kb]?=some (.cells ks' 114 (0,0))∧ks'[0]?=ks[0]?∧ks'[1]?=some v'∧Took 188 v' w' cb (nblk L) N∧ks'[2]?=some (.slice (some ⟨prb,0,none⟩) 1 pc)∧1≤pc∧w.heap.size≤prb∧w'.heap[prb]?=some (.cells prs 119 (0,0))∧prs[0]?=some (.pointer (some ⟨pb,0,none⟩)):=by
 have q8:w.cell? ⟨pb,8,none⟩=some (.slice (some ⟨ib,0,none⟩) L L):=by rw[aa0 hp];rfl
 have hpk:pb≠kb:=ac2 hp hk (by decide)
 have hpc:pb≠cb:=ac2 hp hf.2 (by decide)
 have hkc:kb≠cb:=ac2 hk hf.2 (by decide)
 have n1:1≤nblk L:=by unfold nblk;omega
 obtain⟨i9,hi9,hz90,hz91,hz92⟩:=info_parts info119
 gi_enter Tryz.func46,Tryz.ntmps46
 gi_wp2
 refine ag5 (P:=Tryz.prog) _ rfl rfl (by kernel_rfl) 10 49 [0,1,2,3,4] [5,6,7,8,9] (by kernel_rfl) (by rfl)
  (OneI (At2 kb cb) w.drew 5 (PostU kb cb (nblk L) N ks) [(6,.tuple #[.int .i64 0,.bool true]),(7,.int .i64 0),(8,.bool true),(9,.int .i64 0)]) (oneI_ind (by simp) (by simp)) _ _ rfl rfl ?_
 gi_wp2_with (gi_at_call 58;refine(af8 _ w.drew pb L L _ q8 (by omega)).mono ?_;rintro e w1 ⟨rfl,rfl⟩)
 refine⟨rfl,by kernel_rfl,oneI_start,?_,?_,?_⟩
 ·intro L' u W hI
  have d8:=(hI.1.cell (w:=w.drew) (p:=⟨pb,8,none⟩) (ab2 hp) (by rintro(h|h)<;>contradiction)).trans q8
  repeat' (refine aa8 ?_ ?_)
  all_goals first|exact trivial|gi_wp2_with (gi_at_call 58;refine(af8 _ W pb L L _ d8 (by omega)).mono ?_;rintro e w1 ⟨rfl,rfl⟩)
 ·intro i hi L' u W hI hLi hu
  rcases(by simpa using hi:i=5∨i=6∨i=7∨i=8∨i=9)with rfl|rfl|rfl|rfl|rfl
  ·obtain rfl:=hI.2.1 hLi
   refine ac4 rfl fun KK hKK=>?_
   show wpListIn NF m Tryz.prog _ _ _ (Act.put (Act.put (Act.put (Act.put (Act.put _ (some 13) (u 5)) (some 7) (u 6)) (some 14) (u 7)) (some 15) (u 8)) (some 5) (u 9)) _
   gi_wp2_with fail
   refine(takeS_full _ w.drew kb cb (nblk L) N ks v hk hs hf n1 hn hN).mono ?_
   rintro e w1 ⟨rfl,hK1,v',h1,h2⟩
   gi_wp2
   exact⟨_,rfl,oneI_eff hI (by simp) hK1 ⟨rfl,v',h1,h2⟩⟩
  ·have e5:=(hI.2.2.1 (hu 5 (by simp) (by decide))).1
   exact op_mv rfl rfl rfl ⟨_,rfl,oneI_pure' hI (by decide) e5 (by simp)⟩
  ·have e6:=hI.2.2.2 (6,.tuple #[.int .i64 0,.bool true]) (by simp) (hu 6 (by simp) (by decide))
   exact op_ex rfl rfl rfl e6 rfl ⟨_,rfl,oneI_pure hI (by decide) (by simp)⟩
  ·have e6:=hI.2.2.2 (6,.tuple #[.int .i64 0,.bool true]) (by simp) (hu 6 (by simp) (by decide))
   exact op_ex rfl rfl rfl e6 rfl ⟨_,rfl,oneI_pure hI (by decide) (by simp)⟩
  ·have e7:=hI.2.2.2 (7,.int .i64 0) (by simp) (hu 7 (by simp) (by decide))
   exact op_as rfl rfl rfl ⟨_,rfl,oneI_pure' hI (by decide) e7 (by simp)⟩
 ·intro L' u W hI hL
  obtain⟨e5,v',h1,h2⟩:=hI.2.2.1 (hL 5 (by simp))
  have e8:=hI.2.2.2 (8,.bool true) (by simp) (hL 8 (by simp))
  have e9:=hI.2.2.2 (9,.int .i64 0) (by simp) (hL 9 (by simp))
  have e6:=hI.2.2.2 (6,.tuple #[.int .i64 0,.bool true]) (by simp) (hL 6 (by simp))
  have e7:=hI.2.2.2 (7,.int .i64 0) (by simp) (hL 7 (by simp))
  simp only at e6 e7 e8 e9
  show wpListIn NF m Tryz.prog _ _ _ (Act.put (Act.put (Act.put (Act.put (Act.put _ (some 13) (u 5)) (some 7) (u 6)) (some 14) (u 7)) (some 15) (u 8)) (some 5) (u 9)) _
  rw[e5,e6,e7,e8,e9]
  have hp':=hI.1.old (w:=w.drew) hp (by rintro(h|h)<;>contradiction)
  have KW:Keep (fun b=>b=kb∨b=cb∨b=pb) w W:=(Keep.refl _ w).drew.trans hI.1 (by rintro k _ (h|h);exact .inl h;exact .inr (.inl h))
  have c3:W.cell? ⟨kb,3,none⟩=some (.int .i64 0):=(aa0 h1 3).trans ((ac0 (by decide)).trans hs3)
  have f3:=ab3 h1 3
  clear hI e5 e6 e7 e8 e9 hL
  gi_upto_region 5 with fail
  have h3:=aa2 (i:=3) h1 (.int .i64 1)
  have hp3:=(af4 (p:=⟨kb,3,none⟩) (.int .i64 1) hpk).trans hp'
  have t3:=h2.keep (Keep.set1 (w:=W) (b:=kb) (o:=3) (.int .i64 1)) (fun e=>hkc e.symm)
  have K3:=KW.setCell (p:=⟨kb,3,none⟩) (.int .i64 1) (fun _=>.inl rfl)
  generalize W.setCell ⟨kb,3,none⟩ (.int .i64 1)=W3 at*
  clear c3 f3 h1 h2 hp' KW
  have d3:W3.cell? ⟨kb,3,none⟩=some (.int .i64 1):=(aa0 h3 3).trans (aj6 ((ac0 (by decide)).trans hs3))
  have p0:W3.cell? ⟨pb,0,none⟩=some (.int .i64 0):=by rw[aa0 hp3];rfl
  have f0:=ab3 hp3 0
  have hp4:=aa2 (i:=0) hp3 (.int .i64 1)
  have p10:(W3.setCell ⟨pb,0,none⟩ (.int .i64 1)).cell? ⟨pb,10,none⟩=some (.int .i64 0):=by rw[aa0 hp4];rfl
  have f10:=ab3 hp4 10
  have hp5:=aa2 (i:=10) hp4 (.int .i64 0)
  have p11:((W3.setCell ⟨pb,0,none⟩ (.int .i64 1)).setCell ⟨pb,10,none⟩ (.int .i64 0)).cell? ⟨pb,11,none⟩=some (.int .i64 0):=by rw[aa0 hp5];rfl
  have f11:=ab3 hp5 11
  have hp6:=aa2 (i:=11) hp5 (.int .i64 (-1))
  gi_upto_region 6 with fail
  have hp6:(((W3.setCell ⟨pb,0,none⟩ (.int .i64 1)).setCell ⟨pb,10,none⟩ (.int .i64 0)).setCell ⟨pb,11,none⟩ (.int .i64 (-1))).heap[pb]?=some (proc 0 0 0 ib L fb (-1)):=by
   rw[hp6]
   simp[proc,prc]
  have k1:Keep (Go.Fxa.At pb) W3 (W3.setCell ⟨pb,0,none⟩ (.int .i64 1)):=Keep.set1 _
  have k2:Keep (Go.Fxa.At pb) (W3.setCell ⟨pb,0,none⟩ (.int .i64 1)) ((W3.setCell ⟨pb,0,none⟩ (.int .i64 1)).setCell ⟨pb,10,none⟩ (.int .i64 0)):=Keep.set1 _
  have k3:Keep (Go.Fxa.At pb) ((W3.setCell ⟨pb,0,none⟩ (.int .i64 1)).setCell ⟨pb,10,none⟩ (.int .i64 0)) (((W3.setCell ⟨pb,0,none⟩ (.int .i64 1)).setCell ⟨pb,10,none⟩ (.int .i64 0)).setCell ⟨pb,11,none⟩ (.int .i64 (-1))):=Keep.set1 _
  have K36:=(k1.then k2).then k3
  clear k1 k2 k3
  generalize ((W3.setCell ⟨pb,0,none⟩ (.int .i64 1)).setCell ⟨pb,10,none⟩ (.int .i64 0)).setCell ⟨pb,11,none⟩ (.int .i64 (-1))=W6 at*
  have h6:=K36.old h3 (fun e=>hpk e.symm)
  have t6:=t3.keep K36 (fun e=>hpc e.symm)
  have K6:Keep (fun b=>b=kb∨b=cb∨b=pb) w W6:=K3.trans K36 (fun k _ e=>.inr (.inr e))
  clear d3 p0 f0 hp4 p10 f10 hp5 p11 f11 K36 t3 h3 hp3 K3
  have d2:W6.cell? ⟨kb,2,none⟩=some (.slice none 0 0):=(aa0 h6 2).trans ((ac0 (by decide)).trans ((ac0 (by decide)).trans hs2))
  have KA:Keep No W6 (W6.alloc (.cells #[.pointer (some ⟨pb,0,none⟩)] 119)):=(Keep.refl No W6).alloc _
  have hcA:=one_cell (w:=W6) (x:=.pointer (some ⟨pb,0,none⟩)) (e:=119)
  gi_wp2_with (gi_at_builtin;refine ac3 _ rfl (.tmp 43) (.tmp 45) 100 rfl w.heap.size 119 i9 (.pointer none) 1 8 Tryz.underlying100 hi9 hz90 hz91 hz92 rfl (by decide) (.slice none 0 0) 0 [] rfl (World.ownsRow_nil _ _ _ _) ⟨W6.heap.size,0,none⟩ 1 1 [.pointer (some ⟨pb,0,none⟩)] rfl (by simp) hcA (by simp[Value.oneCell']) (by unfold maxLen;omega) (by omega) (Nat.le_trans K6.size KA.size) (by omega) ?_;intro va wB oB KB hB;have fB:=ac1 oB;obtain⟨aa,ca,hva⟩:=fB;subst hva;have bB:=KB.old (KA.old h6 id) (fun e=>by cases e);have gB:=ab3 bB 2;have eB:=(aa0 bB 2).trans ((ac0 (by decide)).trans ((ac0 (by decide)).trans hs2)))
  go_ret
  have KB':Keep No W6 wB:=KA.then (KB.mono (fun k _ e=>by cases e))
  have hpB:=KB'.old hp6 id
  have hkB:=KB'.old h6 id
  have tB:=t6.keep KB' id
  have Kc:Keep (Go.Fxa.At kb) wB (wB.setCell ⟨kb,2,none⟩ (.slice aa 1 ca)):=Keep.set1 _
  rcases oB.2 with⟨_,hx⟩|⟨g,cap,cur,hv,hbg,hg,hc1,_,hcs,htk⟩
  ·omega
  ·injection hv with e1 _ e3
   subst e1 e3
   have hgk:g≠kb:=ac2 hg hkB (by decide)
   refine⟨by simp,(K6.trans (S':=No) KB' (fun _ _ e=>e.elim)).trans Kc (fun k _ e=>.inl e),Kc.old hpB hpk,v',_,g,ca,cur,aa2 hkB _,?_,?_,tB.keep Kc (fun e=>hkc e.symm),?_,by omega,hbg,Kc.old hg hgk,?_⟩
   ·rw[ac0 (by decide),ac0 (by decide),ac0 (by decide)]
   ·rw[ac0 (by decide),ac0 (by decide)];exact aj6 hs
   ·exact aj6 ((ac0 (by decide)).trans ((ac0 (by decide)).trans hs2))
   ·have h0:=oB.cellAt 0 (by omega)
    rw[aa0 hg]at h0
    simpa using h0
end
end Go.Fxa
