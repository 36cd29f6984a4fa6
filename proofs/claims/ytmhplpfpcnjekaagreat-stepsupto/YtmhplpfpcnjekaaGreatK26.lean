/- The Book's rows, one appended to. The Book keeps a list of numbers. The Book's rows of events; the Book looks at what it keeps. Marked events: what the Book needs of them. The Book keeps a list of events. -/
import Derived.Test.YtmhplpfpcnjekaaGreatK25
import Derived.Sort.CutIn
namespace Go.Fxa
open Go.Conc
open Go.Proofs
open Go.RowKit
structure BookRaw (T:Nat→Nat) (w:World) (bk:Nat) (tl:Nat→Value) (m:Int) (v1 v2 v3 v4:Value) (l1 l2 l3 l4:List Value):Prop where
 blk:w.heap[bk]?=some (.cells #[.int .i64 m,v1,v2,v3,v4,tl 5,tl 6,tl 7,tl 8,tl 9,tl 10] 75 (0,0))
 tag:T bk=1
 o1:w.ownsRow 0 22 1 v1 l1.length l1
 o2:w.ownsRow 0 3 1 v2 l2.length l2
 o3:w.ownsRow 0 43 1 v3 l3.length l3
 o4:w.ownsRow 0 3 1 v4 l4.length l4
 t1:∀g,v1.ownBlock=some g→T g=2
 t2:∀g,v2.ownBlock=some g→T g=3
 t3:∀g,v3.ownBlock=some g→T g=4
 t4:∀g,v4.ownBlock=some g→T g=5
def ad4 (T:Nat→Nat) (v:Value) (t:Nat):Nat→Nat:=fun k=>if v.ownBlock=some k then t else T k
def Went (w w':World) (v v':Value):Prop:=v'.ownBlock=v.ownBlock∨v'.ownBlock=some w.heap.size∧Keep No w w'
section
variable {T T':Nat→Nat} {w w':World} {bk:Nat} {tl:Nat→Value} {m:Int} {v1 v2 v3 v4:Value} {l1 l2 l3 l4:List Value} {S:Nat→Prop}
theorem ah3 {v v':Value} {t:Nat} (ht:∀g,v.ownBlock=some g→T g=t) (hw:Went w w' v v') {k:Nat} (hk:k<w.heap.size):ad4 T v' t k=T k:=by
 unfold ad4
 split
 ·rename_i h
  rcases hw with e|⟨e,_⟩
  ·exact(ht k (e ▸ h)).symm
  ·rw[h]at e;cases e;omega
 ·rfl
theorem tagOf_at {v:Value} {t g:Nat} (h:v.ownBlock=some g):ad4 T v t g=t:=if_pos h
theorem BookRaw.keep (h:BookRaw T w bk tl m v1 v2 v3 v4 l1 l2 l3 l4) (hK:Keep S w w') (hn:∀k,1≤T k→T k≤5→¬S k):BookRaw T w' bk tl m v1 v2 v3 v4 l1 l2 l3 l4:=
 ⟨hK.old h.blk (hn _ (by rw[h.tag];decide) (by rw[h.tag];decide)),h.tag,aa3 h.o1 hK (fun g hg=>hn _ (by rw[h.t1 g hg];decide) (by rw[h.t1 g hg];decide)),aa3 h.o2 hK (fun g hg=>hn _ (by rw[h.t2 g hg];decide) (by rw[h.t2 g hg];decide)),aa3 h.o3 hK (fun g hg=>hn _ (by rw[h.t3 g hg];decide) (by rw[h.t3 g hg];decide)),aa3 h.o4 hK (fun g hg=>hn _ (by rw[h.t4 g hg];decide) (by rw[h.t4 g hg];decide)),h.t1,h.t2,h.t3,h.t4⟩
theorem BookRaw.retag (h:BookRaw T w bk tl m v1 v2 v3 v4 l1 l2 l3 l4) (hT:∀k,k<w.heap.size→1≤T k→T k≤5→T' k=T k):BookRaw T' w bk tl m v1 v2 v3 v4 l1 l2 l3 l4:=
 ⟨h.blk,(hT _ (ab2 h.blk) (by rw[h.tag];decide) (by rw[h.tag];decide)).trans h.tag,h.o1,h.o2,h.o3,h.o4,
  fun g hg=>(hT _ (h.o1.lt g hg).2 (by rw[h.t1 g hg];decide) (by rw[h.t1 g hg];decide)).trans (h.t1 g hg),
  fun g hg=>(hT _ (h.o2.lt g hg).2 (by rw[h.t2 g hg];decide) (by rw[h.t2 g hg];decide)).trans (h.t2 g hg),
  fun g hg=>(hT _ (h.o3.lt g hg).2 (by rw[h.t3 g hg];decide) (by rw[h.t3 g hg];decide)).trans (h.t3 g hg),
  fun g hg=>(hT _ (h.o4.lt g hg).2 (by rw[h.t4 g hg];decide) (by rw[h.t4 g hg];decide)).trans (h.t4 g hg)⟩
theorem BookRaw.put1 (h:BookRaw T w bk tl m v1 v2 v3 v4 l1 l2 l3 l4) {v' x:Value} (hK:Keep (fun b=>v1.ownBlock=some b) w w') (ho:w'.ownsRow 0 22 1 v' (l1.length+1) (l1++[x])) (hw:Went w w' v1 v'):
  BookRaw (ad4 T v' 2) (w'.setCell ⟨bk,1,none⟩ v') bk tl m v' v2 v3 v4 (l1++[x]) l2 l3 l4:=by
 have old:∀{k},k<w.heap.size→ad4 T v' 2 k=T k:=fun hk=>ah3 h.t1 hw hk
 have nb:∀k,T k≠2→¬(v1.ownBlock=some k):=fun k hk e=>hk (h.t1 k e)
 have b1:=hK.old h.blk (nb _ (by rw[h.tag];decide))
 have K2:Keep (Go.Fxa.At bk) w' (w'.setCell ⟨bk,1,none⟩ v'):=Keep.set1 _
 have ne:∀{v:Value} {t:Nat},(∀g,v.ownBlock=some g→T g=t)→t≠1→∀g,v.ownBlock=some g→¬Go.Fxa.At bk g:=fun ht h1 g hg e=>by
  have e:g=bk:=e
  subst e
  exact h1 ((ht g hg).symm.trans h.tag)
 have nv':∀g,v'.ownBlock=some g→¬Go.Fxa.At bk g:=fun g hg e=>by
  have e:g=bk:=e
  subst e
  rcases hw with q|⟨q,_⟩
  ·have:=h.t1 g (q ▸ hg);rw[h.tag]at this;cases this
  ·rw[hg]at q;cases q;have:=ab2 h.blk;omega
 refine⟨(aa2 b1 _).trans rfl,(old (ab2 h.blk)).trans h.tag,?_,aa3 (aa3 h.o2 hK fun g hg=>nb g (by rw[h.t2 g hg];decide)) K2 (ne h.t2 (by decide)),aa3 (aa3 h.o3 hK fun g hg=>nb g (by rw[h.t3 g hg];decide)) K2 (ne h.t3 (by decide)),aa3 (aa3 h.o4 hK fun g hg=>nb g (by rw[h.t4 g hg];decide)) K2 (ne h.t4 (by decide)),fun g hg=>tagOf_at hg,fun g hg=>(old (h.o2.lt g hg).2).trans (h.t2 g hg),fun g hg=>(old (h.o3.lt g hg).2).trans (h.t3 g hg),fun g hg=>(old (h.o4.lt g hg).2).trans (h.t4 g hg)⟩
 have:=aa3 ho K2 nv'
 simpa using this
theorem BookRaw.put2 (h:BookRaw T w bk tl m v1 v2 v3 v4 l1 l2 l3 l4) {v' x:Value} (hK:Keep (fun b=>v2.ownBlock=some b) w w') (ho:w'.ownsRow 0 3 1 v' (l2.length+1) (l2++[x])) (hw:Went w w' v2 v'):
  BookRaw (ad4 T v' 3) (w'.setCell ⟨bk,2,none⟩ v') bk tl m v1 v' v3 v4 l1 (l2++[x]) l3 l4:=by
 have old:∀{k},k<w.heap.size→ad4 T v' 3 k=T k:=fun hk=>ah3 h.t2 hw hk
 have nb:∀k,T k≠3→¬(v2.ownBlock=some k):=fun k hk e=>hk (h.t2 k e)
 have b1:=hK.old h.blk (nb _ (by rw[h.tag];decide))
 have K2:Keep (Go.Fxa.At bk) w' (w'.setCell ⟨bk,2,none⟩ v'):=Keep.set1 _
 have ne:∀{v:Value} {t:Nat},(∀g,v.ownBlock=some g→T g=t)→t≠1→∀g,v.ownBlock=some g→¬Go.Fxa.At bk g:=fun ht h1 g hg e=>by
  have e:g=bk:=e
  subst e
  exact h1 ((ht g hg).symm.trans h.tag)
 have nv':∀g,v'.ownBlock=some g→¬Go.Fxa.At bk g:=fun g hg e=>by
  have e:g=bk:=e
  subst e
  rcases hw with q|⟨q,_⟩
  ·have:=h.t2 g (q ▸ hg);rw[h.tag]at this;cases this
  ·rw[hg]at q;cases q;have:=ab2 h.blk;omega
 refine⟨(aa2 b1 _).trans rfl,(old (ab2 h.blk)).trans h.tag,aa3 (aa3 h.o1 hK fun g hg=>nb g (by rw[h.t1 g hg];decide)) K2 (ne h.t1 (by decide)),?_,aa3 (aa3 h.o3 hK fun g hg=>nb g (by rw[h.t3 g hg];decide)) K2 (ne h.t3 (by decide)),aa3 (aa3 h.o4 hK fun g hg=>nb g (by rw[h.t4 g hg];decide)) K2 (ne h.t4 (by decide)),fun g hg=>(old (h.o1.lt g hg).2).trans (h.t1 g hg),fun g hg=>tagOf_at hg,fun g hg=>(old (h.o3.lt g hg).2).trans (h.t3 g hg),fun g hg=>(old (h.o4.lt g hg).2).trans (h.t4 g hg)⟩
 have:=aa3 ho K2 nv'
 simpa using this
end
end Go.Fxa
namespace Go.Fxa
open Go.Conc
open Go.Proofs
open Go.RowKit
set_option maxRecDepth 1000000
def ReadsN (T:Nat→Nat) (w:World) (mark:Int) (N:Nat) (x:Value):Prop:=∃a n c,x=.slice a n c∧n≤N∧(0<n→∃rb,a=some ⟨rb,0,none⟩∧T rb=6∧∀i,i<n→w.cell? ⟨rb,i,none⟩=some (.int .i64 mark))
theorem info22:(Tryz.prog.info? 22).map (fun i=>(i.zero,i.size,i.bytes))=some (some (.slice none 0 0),1,24):=by kernel_rfl
def KeepR (w:World) (bk:Nat) (tl:Nat→Value) (m:Int) (v3 v4:Value) (l3 l4:List Value) (T0:Nat→Nat) (S:Nat→Prop) (mark:Int) (n:Nat) (l1 l2:List Value) (l i:Value) (wr:World):Prop:=
 ∃(j:Nat) (T:Nat→Nat) (v1 v2:Value) (new:List Value),j≤4∧i=.int .i64 j∧new.length=j∧BookRaw T wr bk tl m v1 v2 v3 v4 (l1++new) (l2++List.replicate j (.int .i64 mark)) l3 l4∧wr.ownsRow 0 3 1 l (n+j) (List.replicate (n+j) (.int .i64 mark))∧(∀g,l.ownBlock=some g→T g=6∧(g<w.heap.size→S g))∧(∀x∈new,ReadsN T wr mark (n+j) x)∧Keep S w wr∧(∀k,k<w.heap.size→T k=T0 k)
def KeepS (T:Nat→Nat) (v:Value) (x:Nat):Prop:=(1≤T x∧T x≤5)∨v.ownBlock=some x
theorem ac1 {w:World} {base:Nat} {e:TypeId} {size:Nat} {v:Value} {n:Nat} {xs:List Value} (h:w.ownsRow base e size v n xs):∃a c,v=.slice a n c:=by
 rcases h.2 with⟨rfl,rfl⟩|⟨g,cap,cur,rfl,_⟩<;>exact⟨_,_,rfl⟩
theorem one_cell {w:World} {x:Value} {e:TypeId}:∀q u,([x]:List Value)[q]?=some u→(w.alloc (.cells #[x] e)).cell? ((⟨w.heap.size,0,none⟩:Addr).add q)=some u:=fun q u hq=>by
 match q,hq with
 | 0,hq=>
  have hv:(w.alloc (.cells #[x] e)).heap[w.heap.size]?=some (.cells #[x] e (0,0)):=aa4 rfl
  rw[Addr.add_lit]
  refine(aa0 hv 0).trans ?_
  simpa using hq
theorem ReadsN.keep {T T':Nat→Nat} {w w':World} {mark:Int} {N:Nat} {x:Value} {S:Nat→Prop} (h:ReadsN T w mark N x) (hK:Keep S w w') (hn:∀k,T k=6→¬S k) (hT:∀k,k<w.heap.size→T' k=T k):ReadsN T' w' mark N x:=by
 obtain⟨a,n,c,h1,h0,h2⟩:=h
 refine⟨a,n,c,h1,h0,fun hp=>?_⟩
 obtain⟨rb,h3,h4,h5⟩:=h2 hp
 have lt:rb<w.heap.size:=World.block_lt_of_cell? _ _ (h5 0 hp)
 exact⟨rb,h3,(hT rb lt).trans h4,fun i hi=>(hK.cell (p:=⟨rb,i,none⟩) lt (hn rb h4)).trans (h5 i hi)⟩
theorem owns_rep {w:World} {l:Value} {N g:Nat} {mark:Int} (h:w.ownsRow 0 3 1 l N (List.replicate N (.int .i64 mark))) (hg:l.ownBlock=some g) {i:Nat} (hi:i<N):w.cell? ⟨g,i,none⟩=some (.int .i64 mark):=by
 have:=h.cells hg i (.int .i64 mark) (List.getElem?_replicate_of_lt hi)
 rw[Addr.add_lit,Nat.zero_add]at this
 exact this
theorem ReadsN.own {T:Nat→Nat} {w:World} {mark:Int} {N:Nat} {l:Value} (h:w.ownsRow 0 3 1 l N (List.replicate N (.int .i64 mark))) (hT:∀g,l.ownBlock=some g→T g=6):ReadsN T w mark N l:=by
 rcases h.2 with⟨rfl,rfl⟩|⟨g,cap,cur,rfl,_⟩
 ·exact⟨none,0,0,rfl,Nat.le_refl _,fun h=>absurd h (by decide)⟩
 ·exact⟨_,N,cap,rfl,Nat.le_refl _,fun _=>⟨g,rfl,hT g rfl,fun i hi=>owns_rep h rfl hi⟩⟩
theorem ReadsN.step {T:Nat→Nat} {w w':World} {mark:Int} {N:Nat} {x l l':Value} (h:ReadsN T w mark N x) (hK:Keep (fun b=>l.ownBlock=some b) w w') (hw:Went w w' l l') (ht:∀g,l.ownBlock=some g→T g=6) (ho:w'.ownsRow 0 3 1 l' (N+1) (List.replicate (N+1) (.int .i64 mark))):ReadsN (ad4 T l' 6) w' mark (N+1) x:=by
 obtain⟨a,n,c,h1,h0,h2⟩:=h
 refine⟨a,n,c,h1,by omega,fun hp=>?_⟩
 obtain⟨rb,h3,h4,h5⟩:=h2 hp
 have lt:rb<w.heap.size:=World.block_lt_of_cell? _ _ (h5 0 hp)
 refine⟨rb,h3,(ah3 ht hw lt).trans h4,fun i hi=>?_⟩
 rcases hw with e|⟨_,hN⟩
 ·by_cases hr:l.ownBlock=some rb
  ·exact owns_rep ho (e.trans hr) (by omega)
  ·exact(hK.cell (p:=⟨rb,i,none⟩) lt hr).trans (h5 i hi)
 ·exact hN.has (h5 i hi)
section
variable (m:Nat) (w:World)
set_option maxHeartbeats 4000000 in
theorem keepInts_calls (T:Nat→Nat) (bk mm:Nat) (tl:Nat→Value) (v1 v2 v3 v4:Value) (l1 l2 l3 l4:List Value) (h:BookRaw T w bk tl mm v1 v2 v3 v4 l1 l2 l3 l4) (v:Value) (n:Nat) (xs:List Value) (hv:w.ownsRow 0 3 1 v n xs) (hnt:∀g,v.ownBlock=some g→¬Bk T g) (hl1:l1.length≤1000000000) (hl2:l2.length≤1000000000) (hn:n≤10000000) (hmm:mm≤1000000000):
  CallsIn NF m Tryz.prog 79 #[.pointer (some ⟨bk,0,none⟩),v] w fun e w'=>e=.returned (.tuple #[])∧Keep (fun k=>(1≤T k∧T k≤5)∨v.ownBlock=some k) w w'∧∃T' v1' v2' new,new.length=4∧BookRaw T' w' bk tl (mm+1:Nat) v1' v2' v3 v4 (l1++new) (l2++List.replicate 4 (.int .i64 (-((mm:Int)+1)))) l3 l4∧(∀x∈new,ReadsN T' w' (-((mm:Int)+1)) (n+4) x)∧(∀k,k<w.heap.size→T' k=ad4 T v 6 k):=by
 obtain⟨i3,hi3,hz30,hz31,hz32⟩:=info_parts info3
 obtain⟨i22,hi22,hz220,hz221,hz222⟩:=info_parts info22
 obtain⟨a0,q0,rfl⟩:=ac1 hv
 have c0:w.cell? ⟨bk,0,none⟩=some (.int .i64 mm):=by rw[aa0 h.blk];rfl
 have f0:=ab3 h.blk 0
 have nbk:∀g,(Value.slice a0 n q0).ownBlock=some g→g≠bk:=fun g hg e=>hnt g hg (by rw[e];simp[Bk,h.tag])
 gi_enter Tryz.func79,Tryz.ntmps79
 gi_wp2
 have K1:Keep (Go.Fxa.At bk) w (w.setCell ⟨bk,0,none⟩ (.int .i64 ((mm:Int)+1))):=Keep.set1 _
 have b1:(w.setCell ⟨bk,0,none⟩ (.int .i64 ((mm:Int)+1))).heap[bk]?=some (.cells #[.int .i64 ((mm:Int)+1),v1,v2,v3,v4,tl 5,tl 6,tl 7,tl 8,tl 9,tl 10] 75 (0,0)):=(aa2 h.blk _).trans rfl
 have R1:BookRaw T (w.setCell ⟨bk,0,none⟩ (.int .i64 ((mm:Int)+1))) bk tl ((mm+1:Nat):Int) v1 v2 v3 v4 l1 l2 l3 l4:=by
  have ne:∀{u:Value} {t:Nat},(∀g,u.ownBlock=some g→T g=t)→t≠1→∀g,u.ownBlock=some g→¬Go.Fxa.At bk g:=fun ht h1 g hg e=>by
   have e:g=bk:=e
   subst e
   exact h1 ((ht g hg).symm.trans h.tag)
  exact⟨b1,h.tag,aa3 h.o1 K1 (ne h.t1 (by decide)),aa3 h.o2 K1 (ne h.t2 (by decide)),aa3 h.o3 K1 (ne h.t3 (by decide)),aa3 h.o4 K1 (ne h.t4 (by decide)),h.t1,h.t2,h.t3,h.t4⟩
 have O1:(w.setCell ⟨bk,0,none⟩ (.int .i64 ((mm:Int)+1))).ownsRow 0 3 1 (.slice a0 n q0) n xs:=aa3 hv K1 (fun g hg e=>nbk g hg e)
 have hmk:-((mm:Int)+1)=-1-(mm:Int)∨True:=.inr trivial
 generalize w.setCell ⟨bk,0,none⟩ (.int .i64 ((mm:Int)+1))=w1 at*
 generalize hmark:-((mm:Int)+1)=mark at*
 clear c0 f0 b1 hmk
 gi_loopw [5] (fun i wr=>∃k:Nat,k≤n∧i=.int .i64 k∧Keep (fun x=>(Value.slice a0 n q0).ownBlock=some x) w1 wr∧wr.ownsRow 0 3 1 (.slice a0 n q0) n (List.replicate k (.int .i64 mark)++xs.drop k)) (fun i _=>n-(intOf i).toNat)
 case atStart=>exact⟨0,by omega,rfl,Keep.refl _ _,by simpa using O1⟩
 case round=>
  obtain⟨k,hk,rfl,KK,oo⟩:=hrel
  by_cases hlt:k<n
  ·obtain⟨g,rfl⟩:∃g,a0=some ⟨g,0,none⟩:=by
    rcases oo.2 with⟨_,e⟩|⟨g,cap,cur,e,_⟩
    ·omega
    ·cases e;exact⟨g,rfl⟩
   have xl:xs.length=n:=by simpa using hv.1
   have dk:xs.drop k=xs[k]::xs.drop (k+1):=List.drop_eq_getElem_cons (by omega)
   have cc:=oo.cellAt k (by omega)
   rw[dk,List.getElem?_append_right (by simp)]at cc
   simp only[List.length_replicate,Nat.sub_self,List.getElem?_cons_zero]at cc
   have ff:=oo.frozenAt k
   have st:=oo.stored k (.int .i64 mark)
   have e1:(List.replicate k (Value.int .i64 mark)++xs.drop k).set k (.int .i64 mark)=List.replicate (k+1) (.int .i64 mark)++xs.drop (k+1):=by
    rw[dk,List.set_append_right _ _ (by simp)]
    simp[List.replicate_succ']
    rw[dk]
    rfl
   rw[e1]at st
   gi_wp2
   go_roundw
   case rel=>exact⟨k+1,by omega,by go_num,KK.setCell _ (fun _=>rfl),st.1⟩
   case measure=>simp[intOf];omega
  ·obtain rfl:k=n:=by omega
   have xl:xs.length=k:=by simpa using hv.1
   have O2:wr.ownsRow 0 3 1 (.slice a0 k q0) k (List.replicate k (.int .i64 mark)):=by
    have e:xs.drop k=[]:=List.drop_eq_nil_of_le (by omega)
    rw[e,List.append_nil]at oo
    exact oo
   have R2:BookRaw (ad4 T (.slice a0 k q0) 6) wr bk tl ((mm+1:Nat):Int) v1 v2 v3 v4 l1 l2 l3 l4:=
    (R1.keep KK (fun x h1 h5 e=>hnt x e ⟨h1,by omega⟩)).retag (fun x _ h1 h5=>if_neg (fun e=>hnt x e ⟨h1,by omega⟩))
   have K2:Keep (KeepS T (.slice a0 k q0)) w wr:=((Keep.refl _ w).trans K1 (fun x _ e=>.inl (by have e:x=bk:=e;rw[e,h.tag];decide))).trans KK (fun x _ e=>.inr e)
   have T2:∀x,x<w.heap.size→ad4 T (.slice a0 k q0) 6 x=ad4 T (.slice a0 k q0) 6 x:=fun _ _=>rfl
   have t2:∀g,(Value.slice a0 k q0).ownBlock=some g→ad4 T (.slice a0 k q0) 6 g=6∧(g<w.heap.size→KeepS T (.slice a0 k q0) g):=fun g hg=>⟨tagOf_at hg,fun _=>.inr hg⟩
   have sz:w.heap.size≤wr.heap.size:=K2.size
   have bS:KeepS T (.slice a0 k q0) bk:=.inl (by rw[h.tag];decide)
   have hT0:∀x,x<w.heap.size→1≤ad4 T (.slice a0 k q0) 6 x→ad4 T (.slice a0 k q0) 6 x≤5→1≤T x∧T x≤5:=fun x _ h1 h5=>by
    unfold ad4 at h1 h5
    split at h1
    ·rename_i e;rw[if_pos e]at h5;omega
    ·rename_i e;rw[if_neg e]at h5;exact⟨h1,h5⟩
   have hT6:∀x,x<w.heap.size→ad4 T (.slice a0 k q0) 6 x=6→¬((Value.slice a0 k q0).ownBlock=some x)→T x=6:=fun x _ h6 e=>by
    unfold ad4 at h6;rw[if_neg e]at h6;exact h6
   generalize hTT:ad4 T (.slice a0 k q0) 6=T0 at*
   clear R1 O1 K1 KK oo nbk
   gi_wp2
   gi_loopw [1,6] (KeepR w bk tl ((mm+1:Nat):Int) v3 v4 l3 l4 T0 (KeepS T (.slice a0 k q0)) mark k l1 l2) (fun _ i _=>4-(intOf i).toNat)
   case atStart=>exact⟨0,T0,v1,v2,[],by omega,rfl,rfl,by simpa using R2,by simpa using O2,t2,(fun x hx=>by cases hx),K2,fun _ _=>rfl⟩
   case round=>
    clear R2 O2 K2 t2
    obtain⟨j,Tj,x1,x2,new,hj,hij,hnew,R,O,tl,hrd,KK2,hTj⟩:=hrel
    subst hij
    obtain⟨al,cl,hl⟩:=ac1 O
    subst hl
    by_cases hlt:j<4
    ·obtain⟨a1,c1,hx1⟩:=ac1 R.o1
     subst hx1
     obtain⟨a2,c2,hx2⟩:=ac1 R.o2
     subst hx2
     have len1:(l1++new).length≤1000000004:=by rw[List.length_append];omega
     have len2:(l2++List.replicate j (Value.int .i64 mark)).length≤1000000004:=by rw[List.length_append,List.length_replicate];omega
     have g1:wr.cell? ⟨bk,1,none⟩=some (.slice a1 (l1++new).length c1):=by rw[aa0 R.blk];rfl
     have KA:Keep No wr (wr.alloc (.cells #[.slice al (k+j) cl] 22)):=(Keep.refl No wr).alloc _
     have RA:=R.keep KA (fun _ _ _ x=>x)
     have hcA:=one_cell (w:=wr) (x:=.slice al (k+j) cl) (e:=22)
     have oA:=RA.o1
     generalize hN1:(l1++new).length=N1 at*
     gi_upto_region 10 with(gi_at_builtin;refine ac3 _ rfl (.tmp 38) (.tmp 40) 23 rfl 0 22 i22 (.slice none 0 0) 1 24 Tryz.underlying23 hi22 hz220 hz221 hz222 rfl (by decide) (.slice a1 N1 c1) N1 (l1++new) rfl oA ⟨wr.heap.size,0,none⟩ 1 1 [.slice al (k+j) cl] rfl (by simp) hcA (by simp[Value.oneCell']) (by unfold maxLen;omega) (by omega) (by simp) (by omega) ?_;intro va wB oB KB hB;have fB:=ac1 oB;obtain⟨aa,ca,hva⟩:=fB;subst hva;have bB:=KB.old RA.blk (fun e=>by have:=RA.t1 bk e;rw[RA.tag]at this;cases this);have gB:wB.cell? ⟨bk,1,none⟩=some (.slice a1 N1 c1):=(by rw[aa0 bB];rfl);have fzB:=ab3 bB 1)
     have Q1:=RA.put1 KB (by rw[hN1];exact oB) hB
     have old1:∀x,x<wr.heap.size→ad4 Tj (.slice aa (N1+1) ca) 2 x=Tj x:=fun x hx=>ah3 RA.t1 hB (Nat.lt_of_lt_of_le hx KA.size)
     have P1:Keep (fun x=>1≤Tj x∧Tj x≤5) wr (wB.setCell ⟨bk,1,none⟩ (.slice aa (N1+1) ca)):=((KA.no.trans KB (fun x _ e=>by have:=R.t1 x e;omega))).setCell _ (fun _=>by show 1≤Tj bk∧Tj bk≤5;rw[R.tag];decide)
     generalize ad4 Tj (.slice aa (N1+1) ca) 2=T1 at*
     generalize wB.setCell ⟨bk,1,none⟩ (.slice aa (N1+1) ca)=w3 at*
     clear bB gB fzB oB KB hB hcA oA RA KA g1
     have g2:w3.cell? ⟨bk,2,none⟩=some (.slice a2 (l2++List.replicate j (Value.int .i64 mark)).length c2):=by rw[aa0 Q1.blk];rfl
     have KC:Keep No w3 (w3.alloc (.cells #[.int .i64 mark] 3)):=(Keep.refl No w3).alloc _
     have RC:=Q1.keep KC (fun _ _ _ x=>x)
     have hcC:=one_cell (w:=w3) (x:=.int .i64 mark) (e:=3)
     have oC:=RC.o2
     generalize hN2:(l2++List.replicate j (Value.int .i64 mark)).length=N2 at*
     gi_upto_region 11 with(gi_at_builtin;refine ac3 _ rfl (.tmp 48) (.tmp 50) 22 rfl 0 3 i3 (.int .i64 0) 1 8 Tryz.underlying22 hi3 hz30 hz31 hz32 rfl (by decide) (.slice a2 N2 c2) N2 (l2++List.replicate j (Value.int .i64 mark)) rfl oC ⟨w3.heap.size,0,none⟩ 1 1 [.int .i64 mark] rfl (by simp) hcC (by simp[Value.oneCell']) (by unfold maxLen;omega) (by omega) (by simp) (by omega) ?_;intro vb wB oB KB hB;have fB:=ac1 oB;obtain⟨ab,cb,hvb⟩:=fB;subst hvb;have bB:=KB.old RC.blk (fun e=>by have:=RC.t2 bk e;rw[RC.tag]at this;cases this);have gB:wB.cell? ⟨bk,2,none⟩=some (.slice a2 N2 c2):=(by rw[aa0 bB];rfl);have fzB:=ab3 bB 2)
     have Q2:=RC.put2 KB (by rw[hN2];exact oB) hB
     have old2:∀x,x<w3.heap.size→ad4 T1 (.slice ab (N2+1) cb) 3 x=T1 x:=fun x hx=>ah3 RC.t2 hB (Nat.lt_of_lt_of_le hx KC.size)
     have P2:Keep (fun x=>1≤T1 x∧T1 x≤5) w3 (wB.setCell ⟨bk,2,none⟩ (.slice ab (N2+1) cb)):=((KC.no.trans KB (fun x _ e=>by have:=Q1.t2 x e;omega))).setCell _ (fun _=>by show 1≤T1 bk∧T1 bk≤5;rw[Q1.tag];decide)
     generalize ad4 T1 (.slice ab (N2+1) cb) 3=T2 at*
     generalize wB.setCell ⟨bk,2,none⟩ (.slice ab (N2+1) cb)=w4 at*
     clear bB gB fzB oB KB hB hcC oC RC KC g2
     have P12:Keep (fun x=>1≤Tj x∧Tj x≤5) wr w4:=P1.trans P2 (fun x hx e=>by rw[old1 x hx]at e;exact e)
     have old12:∀x,x<wr.heap.size→T2 x=Tj x:=fun x hx=>(old2 x (Nat.lt_of_lt_of_le hx P1.size)).trans (old1 x hx)
     have tl4:∀g,(Value.slice al (k+j) cl).ownBlock=some g→T2 g=6:=fun g hg=>(old12 g (O.lt g hg).2).trans (tl g hg).1
     have O4:w4.ownsRow 0 3 1 (.slice al (k+j) cl) (k+j) (List.replicate (k+j) (.int .i64 mark)):=aa3 O P12 (fun g hg e=>by have:=(tl g hg).1;omega)
     have rd4:∀x∈new,ReadsN T2 w4 mark (k+j) x:=fun x hx=>(hrd x hx).keep P12 (fun g hg e=>by omega) old12
     have KD:Keep No w4 (w4.alloc (.cells #[.int .i64 mark] 3)):=(Keep.refl No w4).alloc _
     have RD:=Q2.keep KD (fun _ _ _ x=>x)
     have OD:=aa3 O4 KD (fun _ _ x=>x)
     have hcD:=one_cell (w:=w4) (x:=.int .i64 mark) (e:=3)
     have rdD:∀x∈new,ReadsN T2 (w4.alloc (.cells #[.int .i64 mark] 3)) mark (k+j) x:=fun x hx=>(rd4 x hx).keep KD (fun _ _ x=>x) (fun _ _=>rfl)
     gi_wp2_with (gi_at_builtin;refine ac3 _ rfl (.tmp 54) (.tmp 56) 22 rfl 0 3 i3 (.int .i64 0) 1 8 Tryz.underlying22 hi3 hz30 hz31 hz32 rfl (by decide) (.slice al (k+j) cl) (k+j) (List.replicate (k+j) (.int .i64 mark)) rfl OD ⟨w4.heap.size,0,none⟩ 1 1 [.int .i64 mark] rfl (by simp) hcD (by simp[Value.oneCell']) (by unfold maxLen;omega) (by omega) (by simp) (by omega) ?_;intro ve w5 oE KE hE)
     have oE':w5.ownsRow 0 3 1 ve (k+j+1) (List.replicate (k+j+1) (.int .i64 mark)):=by rw[List.replicate_succ'];exact oE
     have szD:wr.heap.size≤(w4.alloc (.cells #[.int .i64 mark] 3)).heap.size:=Nat.le_trans P12.size KD.size
     have sz5:w.heap.size≤wr.heap.size:=KK2.size
     have oldE:∀x,x<(w4.alloc (.cells #[.int .i64 mark] 3)).heap.size→ad4 T2 ve 6 x=T2 x:=fun x hx=>ah3 tl4 hE hx
     go_roundw
     case rel=>
      refine⟨j+1,ad4 T2 ve 6,.slice aa (N1+1) ca,.slice ab (N2+1) cb,new++[.slice al (k+j) cl],by omega,by go_num,by simp[hnew],?_,oE',?_,?_,?_,?_⟩
      ·have R5:=(RD.retag (T':=ad4 T2 ve 6) (fun x hx _ _=>oldE x hx)).keep KE (fun x h1 h5 e=>by have q1:=oldE x (OD.lt x e).2;have q2:=tl4 x e;omega)
       rw[List.replicate_succ',←List.append_assoc,←List.append_assoc]
       exact R5
      ·intro g hg
       refine⟨tagOf_at hg,fun hlt=>?_⟩
       rcases hE with e|⟨e,_⟩
       ·exact(tl g (e ▸ hg)).2 hlt
       ·rw[hg]at e;cases e;omega
      ·intro x hx
       rcases List.mem_append.mp hx with hx|hx
       ·exact(rdD x hx).step KE hE tl4 oE'
       ·obtain rfl:x=.slice al (k+j) cl:=by simpa using hx
        exact(ReadsN.own OD tl4).step KE hE tl4 oE'
      ·refine(KK2.trans ((P12.then KD.no)) (fun x hx e=>.inl (hT0 x hx (by rw[←hTj x hx];exact e.1) (by rw[←hTj x hx];exact e.2)))).trans KE (fun x hx e=>(tl x e).2 hx)
      ·intro x hx
       exact(oldE x (by omega)).trans ((old12 x (by omega)).trans (hTj x hx))
     case measure=>simp[intOf];omega
    ·obtain rfl:j=4:=by omega
     gi_wp2
     go_end0
     subst hmark hTT
     exact⟨by simp,KK2,Tj,_,_,new,hnew,R,hrd,hTj⟩
end
end Go.Fxa
namespace Go.Fxa
open Go.Conc
open Go.Proofs
open Go.RowKit
section
variable {T T':Nat→Nat} {w w':World} {bk:Nat} {tl:Nat→Value} {m:Int} {v1 v2 v3 v4:Value} {l1 l2 l3 l4:List Value} {S:Nat→Prop}
theorem BookRaw.put3 (h:BookRaw T w bk tl m v1 v2 v3 v4 l1 l2 l3 l4) {v' x:Value} (hK:Keep (fun b=>v3.ownBlock=some b) w w') (ho:w'.ownsRow 0 43 1 v' (l3.length+1) (l3++[x])) (hw:Went w w' v3 v'):
  BookRaw (ad4 T v' 4) (w'.setCell ⟨bk,3,none⟩ v') bk tl m v1 v2 v' v4 l1 l2 (l3++[x]) l4:=by
 have old:∀{k},k<w.heap.size→ad4 T v' 4 k=T k:=fun hk=>ah3 h.t3 hw hk
 have nb:∀k,T k≠4→¬(v3.ownBlock=some k):=fun k hk e=>hk (h.t3 k e)
 have b1:=hK.old h.blk (nb _ (by rw[h.tag];decide))
 have K2:Keep (Go.Fxa.At bk) w' (w'.setCell ⟨bk,3,none⟩ v'):=Keep.set1 _
 have ne:∀{v:Value} {t:Nat},(∀g,v.ownBlock=some g→T g=t)→t≠1→∀g,v.ownBlock=some g→¬Go.Fxa.At bk g:=fun ht h1 g hg e=>by
  have e:g=bk:=e
  subst e
  exact h1 ((ht g hg).symm.trans h.tag)
 have nv':∀g,v'.ownBlock=some g→¬Go.Fxa.At bk g:=fun g hg e=>by
  have e:g=bk:=e
  subst e
  rcases hw with q|⟨q,_⟩
  ·have:=h.t3 g (q ▸ hg);rw[h.tag]at this;cases this
  ·rw[hg]at q;cases q;have:=ab2 h.blk;omega
 refine⟨(aa2 b1 _).trans rfl,(old (ab2 h.blk)).trans h.tag,aa3 (aa3 h.o1 hK fun g hg=>nb g (by rw[h.t1 g hg];decide)) K2 (ne h.t1 (by decide)),aa3 (aa3 h.o2 hK fun g hg=>nb g (by rw[h.t2 g hg];decide)) K2 (ne h.t2 (by decide)),?_,aa3 (aa3 h.o4 hK fun g hg=>nb g (by rw[h.t4 g hg];decide)) K2 (ne h.t4 (by decide)),fun g hg=>(old (h.o1.lt g hg).2).trans (h.t1 g hg),fun g hg=>(old (h.o2.lt g hg).2).trans (h.t2 g hg),fun g hg=>tagOf_at hg,fun g hg=>(old (h.o4.lt g hg).2).trans (h.t4 g hg)⟩
 have:=aa3 ho K2 nv'
 simpa using this
theorem BookRaw.put4 (h:BookRaw T w bk tl m v1 v2 v3 v4 l1 l2 l3 l4) {v' x:Value} (hK:Keep (fun b=>v4.ownBlock=some b) w w') (ho:w'.ownsRow 0 3 1 v' (l4.length+1) (l4++[x])) (hw:Went w w' v4 v'):
  BookRaw (ad4 T v' 5) (w'.setCell ⟨bk,4,none⟩ v') bk tl m v1 v2 v3 v' l1 l2 l3 (l4++[x]):=by
 have old:∀{k},k<w.heap.size→ad4 T v' 5 k=T k:=fun hk=>ah3 h.t4 hw hk
 have nb:∀k,T k≠5→¬(v4.ownBlock=some k):=fun k hk e=>hk (h.t4 k e)
 have b1:=hK.old h.blk (nb _ (by rw[h.tag];decide))
 have K2:Keep (Go.Fxa.At bk) w' (w'.setCell ⟨bk,4,none⟩ v'):=Keep.set1 _
 have ne:∀{v:Value} {t:Nat},(∀g,v.ownBlock=some g→T g=t)→t≠1→∀g,v.ownBlock=some g→¬Go.Fxa.At bk g:=fun ht h1 g hg e=>by
  have e:g=bk:=e
  subst e
  exact h1 ((ht g hg).symm.trans h.tag)
 have nv':∀g,v'.ownBlock=some g→¬Go.Fxa.At bk g:=fun g hg e=>by
  have e:g=bk:=e
  subst e
  rcases hw with q|⟨q,_⟩
  ·have:=h.t4 g (q ▸ hg);rw[h.tag]at this;cases this
  ·rw[hg]at q;cases q;have:=ab2 h.blk;omega
 refine⟨(aa2 b1 _).trans rfl,(old (ab2 h.blk)).trans h.tag,aa3 (aa3 h.o1 hK fun g hg=>nb g (by rw[h.t1 g hg];decide)) K2 (ne h.t1 (by decide)),aa3 (aa3 h.o2 hK fun g hg=>nb g (by rw[h.t2 g hg];decide)) K2 (ne h.t2 (by decide)),aa3 (aa3 h.o3 hK fun g hg=>nb g (by rw[h.t3 g hg];decide)) K2 (ne h.t3 (by decide)),?_,fun g hg=>(old (h.o1.lt g hg).2).trans (h.t1 g hg),fun g hg=>(old (h.o2.lt g hg).2).trans (h.t2 g hg),fun g hg=>(old (h.o3.lt g hg).2).trans (h.t3 g hg),fun g hg=>tagOf_at hg⟩
 have:=aa3 ho K2 nv'
 simpa using this
end
def evM (mark:Int):List Value:=[.int .i64 mark,.int .i64 0,.int .i64 0,.int .i64 0]
def Marked (mark:Int) (N:Nat) (ys:List Value):Prop:=∀i,i<N→∀q,q<4→ys[i*4+q]?=(evM mark)[q]?
theorem putAll_size:∀(vs:List Value) (i:Nat) (cs:Array Value),(am7 cs i vs).size=cs.size
 | [],_,_=>rfl
 | v::vs,i,cs=>by
  show(am7 (cs.setIfInBounds i v) (i+1) vs).size=cs.size
  rw[putAll_size vs,Array.size_setIfInBounds]
theorem putAll_lt:∀(vs:List Value) (i:Nat) (cs:Array Value) {j:Nat},j<i→(am7 cs i vs)[j]?=cs[j]?
 | [],_,_,_,_=>rfl
 | v::vs,i,cs,j,h=>by
  show(am7 (cs.setIfInBounds i v) (i+1) vs)[j]?=cs[j]?
  rw[putAll_lt vs (i+1) _ (by omega)]
  exact Array.getElem?_setIfInBounds_ne (by omega)
theorem putAll_in:∀(vs:List Value) (i:Nat) (cs:Array Value) {q:Nat},q<vs.length→i+vs.length≤cs.size→(am7 cs i vs)[i+q]?=vs[q]?
 | [],_,_,_,h,_=>absurd h (by simp)
 | v::vs,i,cs,q,h,hs=>by
  simp only[List.length_cons]at h hs
  show(am7 (cs.setIfInBounds i v) (i+1) vs)[i+q]?=(v::vs)[q]?
  match q with
  | 0=>
   rw[Nat.add_zero,putAll_lt vs (i+1) _ (by omega)]
   simp[Array.getElem?_setIfInBounds]
   omega
  | q+1=>
   have:=putAll_in vs (i+1) (cs.setIfInBounds i v) (q:=q) (by omega) (by simp;omega)
   rw[show i+(q+1)=i+1+q by omega,this]
   rfl
theorem store_ev {w:World} {g o:Nat} {T:TypeId} {cs:Array Value} {mark:Int} (h:w.heap[g]?=some (.cells cs T (0,0))) (hs:o+4≤cs.size):∃w',(Instr.storeAt 59 (.pointer (some ⟨g,o,none⟩)) (.agg #[.int .i64 mark,.int .i64 0,.int .i64 0,.int .i64 0])).run Tryz.prog w=.ok () w'∧Keep (At g) w w'∧w'.heap[g]?=some (.cells (am7 cs o (evM mark)) T (0,0)):=by
 have e:(Instr.storeAt 59 (.pointer (some ⟨g,o,none⟩)) (.agg #[.int .i64 mark,.int .i64 0,.int .i64 0,.int .i64 0])).run Tryz.prog w=(stores g o (evM mark) (.pure ())).run Tryz.prog w:=by kernel_rfl
 obtain⟨w',h1,h2,h3⟩:=al1 (P:=Tryz.prog) (k:=Sem.pure ()) (evM mark) o _ w h (by simpa [evM]using hs) (by simp[evM,Value.oneCell'])
 exact⟨w',by rw[e,h1];rfl,h2,h3⟩
theorem build_evM (w:World) (mark:Int):(Instr.build 59 #[(0,.int .i64 mark)]).run Tryz.prog w=.ok (.agg #[.int .i64 mark,.int .i64 0,.int .i64 0,.int .i64 0]) w:=by kernel_rfl
theorem owns_mark {w w':World} {g n cap k:Nat} {ys:List Value} {cs:Array Value} {mark:Int} (h:w.ownsRow 0 59 4 (.slice (some ⟨g,0,none⟩) n cap) n ys) (hm:Marked mark k ys) (hk:k<n) (hb:w.heap[g]?=some (.cells cs 59 (0,0))) (hb':w'.heap[g]?=some (.cells (am7 cs (k*4) (evM mark)) 59 (0,0))):
  ∃ys',w'.ownsRow 0 59 4 (.slice (some ⟨g,0,none⟩) n cap) n ys'∧Marked mark (k+1) ys':=by
 rcases h.2 with⟨e,_⟩|⟨g',cap',cur,e,_,hg,hnc,hcm,hcs,htake⟩
 ·cases e
 ·cases e
  rw[hb]at hg
  cases hg
  refine⟨(am7 cs (k*4) (evM mark)).toList.take (n*4),⟨by simp[putAll_size];omega,.inr ⟨g,cap,_,rfl,Nat.zero_le _,hb',hnc,hcm,by rw[putAll_size];exact hcs,rfl⟩⟩,fun i hi q hq=>?_⟩
  rw[List.getElem?_take_of_lt (by omega),Array.getElem?_toList]
  by_cases c:i=k
  ·subst c
   exact putAll_in (evM mark) (i*4) cs (by simpa [evM]using hq) (by simp[evM];omega)
  ·rw[putAll_lt _ _ _ (by omega)]
   have:=hm i (by omega) q hq
   rw[←htake,List.getElem?_take_of_lt (by omega),Array.getElem?_toList]at this
   exact this
end Go.Fxa
namespace Go.Fxa
open Go.Conc
open Go.Proofs
open Go.RowKit
set_option maxRecDepth 1000000
def ReadsEN (T:Nat→Nat) (w:World) (mark:Int) (N:Nat) (x:Value):Prop:=∃a n c,x=.slice a n c∧n≤N∧(0<n→∃rb,a=some ⟨rb,0,none⟩∧T rb=6∧rb<w.heap.size∧∀i,i<n→∀q,q<4→w.cell? ⟨rb,i*4+q,none⟩=(evM mark)[q]?)
theorem info43:(Tryz.prog.info? 43).map (fun i=>(i.zero,i.size,i.bytes))=some (some (.slice none 0 0),1,24):=by kernel_rfl
def OwnE (w:World) (mark:Int) (N:Nat) (l:Value):Prop:=∃ys,w.ownsRow 0 59 4 l N ys∧Marked mark N ys
theorem OwnE.keep {w w':World} {mark:Int} {N:Nat} {l:Value} {S:Nat→Prop} (h:OwnE w mark N l) (hK:Keep S w w') (hn:∀g,l.ownBlock=some g→¬S g):OwnE w' mark N l:=let ⟨ys,h1,h2⟩:=h;⟨ys,aa3 h1 hK hn,h2⟩
theorem OwnE.cell {w:World} {mark:Int} {N g:Nat} {l:Value} (h:OwnE w mark N l) (hg:l.ownBlock=some g) {i q:Nat} (hi:i<N) (hq:q<4):w.cell? ⟨g,i*4+q,none⟩=(evM mark)[q]?:=by
 obtain⟨ys,h1,h2⟩:=h
 have e:=h2 i hi q hq
 have eq:(evM mark)[q]?=some (evM mark)[q]:=List.getElem?_eq_getElem hq
 have:=h1.cells hg (i*4+q) _ (e.trans eq)
 rw[Addr.add_lit,Nat.zero_add]at this
 exact this.trans eq.symm
def KeepRE (w:World) (bk:Nat) (tl:Nat→Value) (m:Int) (v1 v2:Value) (l1 l2:List Value) (T0:Nat→Nat) (S:Nat→Prop) (mark:Int) (n:Nat) (l3 l4:List Value) (l i:Value) (wr:World):Prop:=
 ∃(j:Nat) (T:Nat→Nat) (v3 v4:Value) (new:List Value),j≤4∧i=.int .i64 j∧new.length=j∧BookRaw T wr bk tl m v1 v2 v3 v4 l1 l2 (l3++new) (l4++List.replicate j (.int .i64 mark))∧OwnE wr mark (n+j) l∧(∀g,l.ownBlock=some g→T g=6∧(g<w.heap.size→S g))∧(∀x∈new,ReadsEN T wr mark (n+j) x)∧Keep S w wr∧(∀k,k<w.heap.size→T k=T0 k)
theorem ReadsEN.keep {T T':Nat→Nat} {w w':World} {mark:Int} {N:Nat} {x:Value} {S:Nat→Prop} (h:ReadsEN T w mark N x) (hK:Keep S w w') (hn:∀k,T k=6→¬S k) (hT:∀k,k<w.heap.size→T' k=T k):ReadsEN T' w' mark N x:=by
 obtain⟨a,n,c,h1,h0,h2⟩:=h
 refine⟨a,n,c,h1,h0,fun hp=>?_⟩
 obtain⟨rb,h3,h4,lt,h5⟩:=h2 hp
 exact⟨rb,h3,(hT rb lt).trans h4,Nat.lt_of_lt_of_le lt hK.size,fun i hi q hq=>(hK.cell (p:=⟨rb,i*4+q,none⟩) lt (hn rb h4)).trans (h5 i hi q hq)⟩
theorem ReadsEN.own {T:Nat→Nat} {w:World} {mark:Int} {N:Nat} {l:Value} (h:OwnE w mark N l) (hT:∀g,l.ownBlock=some g→T g=6):ReadsEN T w mark N l:=by
 obtain⟨ys,h1,h2⟩:=id h
 rcases h1.2 with⟨rfl,rfl⟩|⟨g,cap,cur,rfl,_,hg,_⟩
 ·exact⟨none,0,0,rfl,Nat.le_refl _,fun h=>absurd h (by decide)⟩
 ·exact⟨_,N,cap,rfl,Nat.le_refl _,fun _=>⟨g,rfl,hT g rfl,ab2 hg,fun i hi q hq=>h.cell rfl hi hq⟩⟩
theorem ReadsEN.step {T:Nat→Nat} {w w':World} {mark:Int} {N:Nat} {x l l':Value} (h:ReadsEN T w mark N x) (hK:Keep (fun b=>l.ownBlock=some b) w w') (hw:Went w w' l l') (ht:∀g,l.ownBlock=some g→T g=6) (ho:OwnE w' mark (N+1) l'):ReadsEN (ad4 T l' 6) w' mark (N+1) x:=by
 obtain⟨a,n,c,h1,h0,h2⟩:=h
 refine⟨a,n,c,h1,by omega,fun hp=>?_⟩
 obtain⟨rb,h3,h4,lt,h5⟩:=h2 hp
 refine⟨rb,h3,(ah3 ht hw lt).trans h4,Nat.lt_of_lt_of_le lt hK.size,fun i hi q hq=>?_⟩
 rcases hw with e|⟨_,hN⟩
 ·by_cases hr:l.ownBlock=some rb
  ·exact ho.cell (e.trans hr) (by omega) hq
  ·exact(hK.cell (p:=⟨rb,i*4+q,none⟩) lt hr).trans (h5 i hi q hq)
 ·exact(hN.cell (p:=⟨rb,i*4+q,none⟩) lt (fun x=>x)).trans (h5 i hi q hq)
theorem Marked.app {mark:Int} {N:Nat} {ys:List Value} (h:Marked mark N ys) (hl:ys.length=N*4):Marked mark (N+1) (ys++evM mark):=fun i hi q hq=>by
 by_cases c:i<N
 ·rw[List.getElem?_append_left (by omega)];exact h i c q hq
 ·obtain rfl:i=N:=by omega
  rw[List.getElem?_append_right (by omega),hl,Nat.add_sub_cancel_left]
theorem four_cells {w:World} {mark:Int}:∀q u,(evM mark)[q]?=some u→(w.alloc (.cells #[.int .i64 mark,.int .i64 0,.int .i64 0,.int .i64 0] 59)).cell? ((⟨w.heap.size,0,none⟩:Addr).add q)=some u:=fun q u hq=>by
 have hv:(w.alloc (.cells #[.int .i64 mark,.int .i64 0,.int .i64 0,.int .i64 0] 59)).heap[w.heap.size]?=some (.cells #[.int .i64 mark,.int .i64 0,.int .i64 0,.int .i64 0] 59 (0,0)):=aa4 rfl
 rw[Addr.add_lit,Nat.zero_add]
 refine(aa0 hv q).trans ?_
 simpa [evM]using hq
section
variable (m:Nat) (w:World)
set_option maxHeartbeats 4000000 in
theorem keepEvents_calls (T:Nat→Nat) (bk mm:Nat) (tl:Nat→Value) (v1 v2 v3 v4:Value) (l1 l2 l3 l4:List Value) (h:BookRaw T w bk tl mm v1 v2 v3 v4 l1 l2 l3 l4) (v:Value) (n:Nat) (xs:List Value) (hv:w.ownsRow 0 59 4 v n xs) (hnt:∀g,v.ownBlock=some g→¬Bk T g) (hl1:l3.length≤1000000000) (hl2:l4.length≤1000000000) (hn:n≤10000000) (hmm:mm≤1000000000):
  CallsIn NF m Tryz.prog 119 #[.pointer (some ⟨bk,0,none⟩),v] w fun e w'=>e=.returned (.tuple #[])∧Keep (fun k=>(1≤T k∧T k≤5)∨v.ownBlock=some k) w w'∧∃T' v3' v4' new,new.length=4∧BookRaw T' w' bk tl (mm+1:Nat) v1 v2 v3' v4' l1 l2 (l3++new) (l4++List.replicate 4 (.int .i64 (-((mm:Int)+1))))∧(∀x∈new,ReadsEN T' w' (-((mm:Int)+1)) (n+4) x)∧(∀k,k<w.heap.size→T' k=ad4 T v 6 k):=by
 obtain⟨i3,hi3,hz30,hz31,hz32⟩:=info_parts info3
 obtain⟨i22,hi22,hz220,hz221,hz222⟩:=info_parts info43
 obtain⟨i59,hi59,hz590,hz591,hz592⟩:=info_parts info157
 obtain⟨a0,q0,rfl⟩:=ac1 hv
 have c0:w.cell? ⟨bk,0,none⟩=some (.int .i64 mm):=by rw[aa0 h.blk];rfl
 have f0:=ab3 h.blk 0
 have nbk:∀g,(Value.slice a0 n q0).ownBlock=some g→g≠bk:=fun g hg e=>hnt g hg (by rw[e];simp[Bk,h.tag])
 gi_enter Tryz.func119,Tryz.ntmps119
 gi_wp2
 have K1:Keep (Go.Fxa.At bk) w (w.setCell ⟨bk,0,none⟩ (.int .i64 ((mm:Int)+1))):=Keep.set1 _
 have b1:(w.setCell ⟨bk,0,none⟩ (.int .i64 ((mm:Int)+1))).heap[bk]?=some (.cells #[.int .i64 ((mm:Int)+1),v1,v2,v3,v4,tl 5,tl 6,tl 7,tl 8,tl 9,tl 10] 75 (0,0)):=(aa2 h.blk _).trans rfl
 have R1:BookRaw T (w.setCell ⟨bk,0,none⟩ (.int .i64 ((mm:Int)+1))) bk tl ((mm+1:Nat):Int) v1 v2 v3 v4 l1 l2 l3 l4:=by
  have ne:∀{u:Value} {t:Nat},(∀g,u.ownBlock=some g→T g=t)→t≠1→∀g,u.ownBlock=some g→¬Go.Fxa.At bk g:=fun ht h1 g hg e=>by
   have e:g=bk:=e
   subst e
   exact h1 ((ht g hg).symm.trans h.tag)
  exact⟨b1,h.tag,aa3 h.o1 K1 (ne h.t1 (by decide)),aa3 h.o2 K1 (ne h.t2 (by decide)),aa3 h.o3 K1 (ne h.t3 (by decide)),aa3 h.o4 K1 (ne h.t4 (by decide)),h.t1,h.t2,h.t3,h.t4⟩
 have O1:(w.setCell ⟨bk,0,none⟩ (.int .i64 ((mm:Int)+1))).ownsRow 0 59 4 (.slice a0 n q0) n xs:=aa3 hv K1 (fun g hg e=>nbk g hg e)
 have hmk:-((mm:Int)+1)=-1-(mm:Int)∨True:=.inr trivial
 generalize w.setCell ⟨bk,0,none⟩ (.int .i64 ((mm:Int)+1))=w1 at*
 generalize hmark:-((mm:Int)+1)=mark at*
 clear c0 f0 b1 hmk
 gi_loopw [5] (fun i wr=>∃k:Nat,k≤n∧i=.int .i64 k∧Keep (fun x=>(Value.slice a0 n q0).ownBlock=some x) w1 wr∧∃ys,wr.ownsRow 0 59 4 (.slice a0 n q0) n ys∧Marked mark k ys) (fun i _=>n-(intOf i).toNat)
 case atStart=>exact⟨0,by omega,rfl,Keep.refl _ _,xs,O1,fun i hi=>absurd hi (by omega)⟩
 case round=>
  obtain⟨k,hk,rfl,KK,ys,oo,om⟩:=hrel
  by_cases hlt:k<n
  ·obtain⟨g,cs,rfl,hgb,hgs⟩:∃g cs,a0=some ⟨g,0,none⟩∧wr.heap[g]?=some (.cells cs 59 (0,0))∧cs.size=q0*4∧n≤q0:=by
    rcases oo.2 with⟨_,e⟩|⟨g,cap,cur,e,_,hg,hnc,_,hcs,_⟩
    ·omega
    ·cases e;exact⟨g,cur,rfl,hg,hcs,hnc⟩
   have hbd:=build_evM wr mark
   obtain⟨w9,hst,K9,b9⟩:=store_ev (o:=k*4) (mark:=mark) hgb (by omega)
   obtain⟨ys',oo',om'⟩:=owns_mark oo om hlt hgb b9
   gi_wp2_with (refine af2 rfl (.tmp 30) (.tmp 29) 59 rfl rfl rfl hst ?_)
   go_roundw
   case rel=>exact⟨k+1,by omega,by go_num,KK.trans K9 (fun x _ e=>by have e:x=g:=e;subst e;rfl),ys',oo',om'⟩
   case measure=>simp[intOf];omega
  ·obtain rfl:k=n:=by omega
   have O2:OwnE wr mark k (.slice a0 k q0):=⟨ys,oo,om⟩
   have R2:BookRaw (ad4 T (.slice a0 k q0) 6) wr bk tl ((mm+1:Nat):Int) v1 v2 v3 v4 l1 l2 l3 l4:=
    (R1.keep KK (fun x h1 h5 e=>hnt x e ⟨h1,by omega⟩)).retag (fun x _ h1 h5=>if_neg (fun e=>hnt x e ⟨h1,by omega⟩))
   have K2:Keep (KeepS T (.slice a0 k q0)) w wr:=((Keep.refl _ w).trans K1 (fun x _ e=>.inl (by have e:x=bk:=e;rw[e,h.tag];decide))).trans KK (fun x _ e=>.inr e)
   have T2:∀x,x<w.heap.size→ad4 T (.slice a0 k q0) 6 x=ad4 T (.slice a0 k q0) 6 x:=fun _ _=>rfl
   have t2:∀g,(Value.slice a0 k q0).ownBlock=some g→ad4 T (.slice a0 k q0) 6 g=6∧(g<w.heap.size→KeepS T (.slice a0 k q0) g):=fun g hg=>⟨tagOf_at hg,fun _=>.inr hg⟩
   have sz:w.heap.size≤wr.heap.size:=K2.size
   have bS:KeepS T (.slice a0 k q0) bk:=.inl (by rw[h.tag];decide)
   have hT0:∀x,x<w.heap.size→1≤ad4 T (.slice a0 k q0) 6 x→ad4 T (.slice a0 k q0) 6 x≤5→1≤T x∧T x≤5:=fun x _ h1 h5=>by
    unfold ad4 at h1 h5
    split at h1
    ·rename_i e;rw[if_pos e]at h5;omega
    ·rename_i e;rw[if_neg e]at h5;exact⟨h1,h5⟩
   have hT6:∀x,x<w.heap.size→ad4 T (.slice a0 k q0) 6 x=6→¬((Value.slice a0 k q0).ownBlock=some x)→T x=6:=fun x _ h6 e=>by
    unfold ad4 at h6;rw[if_neg e]at h6;exact h6
   generalize hTT:ad4 T (.slice a0 k q0) 6=T0 at*
   clear R1 O1 K1 KK oo nbk om
   gi_wp2
   gi_loopw [1,6] (KeepRE w bk tl ((mm+1:Nat):Int) v1 v2 l1 l2 T0 (KeepS T (.slice a0 k q0)) mark k l3 l4) (fun _ i _=>4-(intOf i).toNat)
   case atStart=>exact⟨0,T0,v3,v4,[],by omega,rfl,rfl,by simpa using R2,O2,t2,(fun x hx=>by cases hx),K2,fun _ _=>rfl⟩
   case round=>
    clear R2 O2 K2 t2
    obtain⟨j,Tj,x1,x2,new,hj,hij,hnew,R,O,tl,hrd,KK2,hTj⟩:=hrel
    subst hij
    obtain⟨al,cl,hl⟩:=ac1 O.choose_spec.1
    subst hl
    by_cases hlt:j<4
    ·obtain⟨a1,c1,hx1⟩:=ac1 R.o3
     subst hx1
     obtain⟨a2,c2,hx2⟩:=ac1 R.o4
     subst hx2
     have len1:(l3++new).length≤1000000004:=by rw[List.length_append];omega
     have len2:(l4++List.replicate j (Value.int .i64 mark)).length≤1000000004:=by rw[List.length_append,List.length_replicate];omega
     have g1:wr.cell? ⟨bk,3,none⟩=some (.slice a1 (l3++new).length c1):=by rw[aa0 R.blk];rfl
     have KA:Keep No wr (wr.alloc (.cells #[.slice al (k+j) cl] 43)):=(Keep.refl No wr).alloc _
     have RA:=R.keep KA (fun _ _ _ x=>x)
     have hcA:=one_cell (w:=wr) (x:=.slice al (k+j) cl) (e:=43)
     have oA:=RA.o3
     generalize hN1:(l3++new).length=N1 at*
     gi_upto_region 10 with(gi_at_builtin;refine ac3 _ rfl (.tmp 39) (.tmp 41) 70 rfl 0 43 i22 (.slice none 0 0) 1 24 Tryz.underlying70 hi22 hz220 hz221 hz222 rfl (by decide) (.slice a1 N1 c1) N1 (l3++new) rfl oA ⟨wr.heap.size,0,none⟩ 1 1 [.slice al (k+j) cl] rfl (by simp) hcA (by simp[Value.oneCell']) (by unfold maxLen;omega) (by omega) (by simp) (by omega) ?_;intro va wB oB KB hB;have fB:=ac1 oB;obtain⟨aa,ca,hva⟩:=fB;subst hva;have bB:=KB.old RA.blk (fun e=>by have:=RA.t3 bk e;rw[RA.tag]at this;cases this);have gB:wB.cell? ⟨bk,3,none⟩=some (.slice a1 N1 c1):=(by rw[aa0 bB];rfl);have fzB:=ab3 bB 3)
     have Q1:=RA.put3 KB (by rw[hN1];exact oB) hB
     have old1:∀x,x<wr.heap.size→ad4 Tj (.slice aa (N1+1) ca) 4 x=Tj x:=fun x hx=>ah3 RA.t3 hB (Nat.lt_of_lt_of_le hx KA.size)
     have P1:Keep (fun x=>1≤Tj x∧Tj x≤5) wr (wB.setCell ⟨bk,3,none⟩ (.slice aa (N1+1) ca)):=((KA.no.trans KB (fun x _ e=>by have:=R.t3 x e;omega))).setCell _ (fun _=>by show 1≤Tj bk∧Tj bk≤5;rw[R.tag];decide)
     generalize ad4 Tj (.slice aa (N1+1) ca) 4=T1 at*
     generalize wB.setCell ⟨bk,3,none⟩ (.slice aa (N1+1) ca)=w3 at*
     clear bB gB fzB oB KB hB hcA oA RA KA g1
     have g2:w3.cell? ⟨bk,4,none⟩=some (.slice a2 (l4++List.replicate j (Value.int .i64 mark)).length c2):=by rw[aa0 Q1.blk];rfl
     have KC:Keep No w3 (w3.alloc (.cells #[.int .i64 mark] 3)):=(Keep.refl No w3).alloc _
     have RC:=Q1.keep KC (fun _ _ _ x=>x)
     have hcC:=one_cell (w:=w3) (x:=.int .i64 mark) (e:=3)
     have oC:=RC.o4
     generalize hN2:(l4++List.replicate j (Value.int .i64 mark)).length=N2 at*
     gi_upto_region 11 with(gi_at_builtin;refine ac3 _ rfl (.tmp 49) (.tmp 51) 22 rfl 0 3 i3 (.int .i64 0) 1 8 Tryz.underlying22 hi3 hz30 hz31 hz32 rfl (by decide) (.slice a2 N2 c2) N2 (l4++List.replicate j (Value.int .i64 mark)) rfl oC ⟨w3.heap.size,0,none⟩ 1 1 [.int .i64 mark] rfl (by simp) hcC (by simp[Value.oneCell']) (by unfold maxLen;omega) (by omega) (by simp) (by omega) ?_;intro vb wB oB KB hB;have fB:=ac1 oB;obtain⟨ab,cb,hvb⟩:=fB;subst hvb;have bB:=KB.old RC.blk (fun e=>by have:=RC.t4 bk e;rw[RC.tag]at this;cases this);have gB:wB.cell? ⟨bk,4,none⟩=some (.slice a2 N2 c2):=(by rw[aa0 bB];rfl);have fzB:=ab3 bB 4)
     have Q2:=RC.put4 KB (by rw[hN2];exact oB) hB
     have old2:∀x,x<w3.heap.size→ad4 T1 (.slice ab (N2+1) cb) 5 x=T1 x:=fun x hx=>ah3 RC.t4 hB (Nat.lt_of_lt_of_le hx KC.size)
     have P2:Keep (fun x=>1≤T1 x∧T1 x≤5) w3 (wB.setCell ⟨bk,4,none⟩ (.slice ab (N2+1) cb)):=((KC.no.trans KB (fun x _ e=>by have:=Q1.t4 x e;omega))).setCell _ (fun _=>by show 1≤T1 bk∧T1 bk≤5;rw[Q1.tag];decide)
     generalize ad4 T1 (.slice ab (N2+1) cb) 5=T2 at*
     generalize wB.setCell ⟨bk,4,none⟩ (.slice ab (N2+1) cb)=w4 at*
     clear bB gB fzB oB KB hB hcC oC RC KC g2
     have P12:Keep (fun x=>1≤Tj x∧Tj x≤5) wr w4:=P1.trans P2 (fun x hx e=>by rw[old1 x hx]at e;exact e)
     have old12:∀x,x<wr.heap.size→T2 x=Tj x:=fun x hx=>(old2 x (Nat.lt_of_lt_of_le hx P1.size)).trans (old1 x hx)
     have tl4:∀g,(Value.slice al (k+j) cl).ownBlock=some g→T2 g=6:=fun g hg=>(old12 g (O.choose_spec.1.lt g hg).2).trans (tl g hg).1
     have O4:OwnE w4 mark (k+j) (.slice al (k+j) cl):=O.keep P12 (fun g hg e=>by have:=(tl g hg).1;omega)
     have rd4:∀x∈new,ReadsEN T2 w4 mark (k+j) x:=fun x hx=>(hrd x hx).keep P12 (fun g hg e=>by omega) old12
     have KD:Keep No w4 (w4.alloc (.cells #[.int .i64 mark,.int .i64 0,.int .i64 0,.int .i64 0] 59)):=(Keep.refl No w4).alloc _
     have RD:=Q2.keep KD (fun _ _ _ x=>x)
     have OD:=O4.keep KD (fun _ _ x=>x)
     obtain⟨yD,oD,mD⟩:=id OD
     have hcD:=four_cells (w:=w4) (mark:=mark)
     have rdD:∀x∈new,ReadsEN T2 (w4.alloc (.cells #[.int .i64 mark,.int .i64 0,.int .i64 0,.int .i64 0] 59)) mark (k+j) x:=fun x hx=>(rd4 x hx).keep KD (fun _ _ x=>x) (fun _ _=>rfl)
     have hbd:=build_evM w4 mark
     gi_wp2_with (gi_at_builtin;refine ac3 _ rfl (.tmp 55) (.tmp 58) 43 rfl 0 59 i59 (.agg #[.int .i64 0,.int .i64 0,.int .i64 0,.int .i64 0]) 4 32 Tryz.underlying43 hi59 hz590 hz591 hz592 rfl (by decide) (.slice al (k+j) cl) (k+j) yD rfl oD ⟨w4.heap.size,0,none⟩ 1 1 (evM mark) rfl rfl hcD (by simp[evM,Value.oneCell']) (by unfold maxLen;omega) (by omega) (by simp) (by omega) ?_;intro ve w5 oE KE hE)
     have oE':OwnE w5 mark (k+j+1) ve:=⟨_,oE,mD.app oD.1⟩
     have szD:wr.heap.size≤(w4.alloc (.cells #[.int .i64 mark,.int .i64 0,.int .i64 0,.int .i64 0] 59)).heap.size:=Nat.le_trans P12.size KD.size
     have sz5:w.heap.size≤wr.heap.size:=KK2.size
     have oldE:∀x,x<(w4.alloc (.cells #[.int .i64 mark,.int .i64 0,.int .i64 0,.int .i64 0] 59)).heap.size→ad4 T2 ve 6 x=T2 x:=fun x hx=>ah3 tl4 hE hx
     go_roundw
     case rel=>
      refine⟨j+1,ad4 T2 ve 6,.slice aa (N1+1) ca,.slice ab (N2+1) cb,new++[.slice al (k+j) cl],by omega,by go_num,by simp[hnew],?_,oE',?_,?_,?_,?_⟩
      ·have R5:=(RD.retag (T':=ad4 T2 ve 6) (fun x hx _ _=>oldE x hx)).keep KE (fun x h1 h5 e=>by have q1:=oldE x (oD.lt x e).2;have q2:=tl4 x e;omega)
       rw[List.replicate_succ',←List.append_assoc,←List.append_assoc]
       exact R5
      ·intro g hg
       refine⟨tagOf_at hg,fun hlt=>?_⟩
       rcases hE with e|⟨e,_⟩
       ·exact(tl g (e ▸ hg)).2 hlt
       ·rw[hg]at e;cases e;omega
      ·intro x hx
       rcases List.mem_append.mp hx with hx|hx
       ·exact(rdD x hx).step KE hE tl4 oE'
       ·obtain rfl:x=.slice al (k+j) cl:=by simpa using hx
        exact(ReadsEN.own OD tl4).step KE hE tl4 oE'
      ·refine(KK2.trans ((P12.then KD.no)) (fun x hx e=>.inl (hT0 x hx (by rw[←hTj x hx];exact e.1) (by rw[←hTj x hx];exact e.2)))).trans KE (fun x hx e=>(tl x e).2 hx)
      ·intro x hx
       exact(oldE x (by omega)).trans ((old12 x (by omega)).trans (hTj x hx))
     case measure=>simp[intOf];omega
    ·obtain rfl:j=4:=by omega
     gi_wp2
     go_end0
     subst hmark hTT
     exact⟨by simp,KK2,Tj,_,_,new,hnew,R,hrd,hTj⟩
end
end Go.Fxa
