/- The holder gives: a send, alone or in a select beside a receive that nobody serves, meets the bystander at its seat, whoever comes first. Whoever runs is picked in the end; a go statement beside leavers: the child holds, the starter sits. The holder is picked in the end; what its own step makes of the pair. -/
import Derived.Test.YtmhplpfpcnjekaaGreatK04
namespace Go.Fxa
open Go.Conc
open Go.ConcN (sumTo upd sumTo_upd upd_ne upd_same)
theorem again_open {g:Goroutine} {w:World} {cs:Array CommCase} {sh:CommShape} (h:∀cc∈cs,∃c cap buf s r tm,cc.chan=.chan (some c)∧w.heap[c]?=some (.chan cap buf false s r tm)):(parked g cs sh).again w=parked g cs sh:=by
 simp[Goroutine.again,parked]
 intro x hx
 obtain⟨c,cap,buf,s,r,tm,e,hc⟩:=h cs[x] (Array.getElem_mem hx)
 rw[e]
 simp[hc]
theorem offersAt_send {g:Goroutine} {cs:Array CommCase} {sh:CommShape} {k c:Nat} {v z:Value} (hk:cs[k]?=some (scase c v z)) (hu:∀(m:Nat) (cc:CommCase),m≠k→cs[m]?=some cc→cc.chan≠.chan (some c)):offersAt (parked g cs sh) c true=[k]:=by
 have hf:(cs.zipIdx.toList.filter fun x:CommCase×Nat=>x.1.send.isSome==true && (match x.1.chan with | .chan (some r')=>r'==c|_=>false))=[(scase c v z,k)]:=by
  have hz:∀m:Nat,cs.zipIdx.toList[m]?=(cs[m]?).map fun x=>(x,m):=by intro m;simp
  have key:=filter_map_one (fun x:CommCase×Nat=>x) (fun x:CommCase×Nat=>x.1.send.isSome==true && (match x.1.chan with | .chan (some r')=>r'==c|_=>false)) cs.zipIdx.toList k (scase c v z,k) (by rw[hz,hk];rfl) (by simp[scase]) (by
   intro m x hm hx
   rw[hz]at hx
   cases e:cs[m]? with
   | none=>rw[e]at hx;cases hx
   | some y=>
    rw[e]at hx
    simp only[Option.map_some,Option.some.injEq]at hx
    subst hx
    have:=hu m y hm e
    simp only[Bool.and_eq_false_iff]
    refine .inr ?_
    split
    ·rename_i r' he
     rw[beq_eq_false_iff_ne]
     intro e';subst e';exact this he
    ·rfl)
  simpa using key
 unfold offersAt
 exact congrArg (List.map fun x:CommCase×Nat=>x.2) hf
section
variable {P:Program} {Z:Nat→Prop} {Shun Still:Loc→Prop} {Mem Loose:Nat→Prop} {h j:Nat} {K K1:World→Prop} {TT:Trace→Prop} {cJ cH:Array CommCase} {shJ shH:CommShape} {home:Goroutine→Prop} {kh kj c:Nat} {v z zj:Value} {a₂:Goroutine}
structure Meets (Z:Nat→Prop) (cH cJ:Array CommCase) (kh kj c:Nat) (v z zj:Value):Prop where
 hkh:cH[kh]?=some (scase c v z)
 hoh:∀(m:Nat) cc,m≠kh→cH[m]?=some cc→∃c' z',cc=rcase c' z'∧c'≠c∧Z c'
 hkj:cJ[kj]?=some (rcase c zj)
 hoj:∀(m:Nat) cc,m≠kj→cJ[m]?=some cc→cc.chan≠.chan (some c)
 hrj:∀cc∈cJ,∃c z,cc=rcase c z∧Z c
def Met (P:Program) (TT:Trace→Prop) (Shun Still:Loc→Prop) (Mem Loose:Nat→Prop) (B h j:Nat) (cH cJ:Array CommCase) (shH shJ:CommShape) (home:Goroutine→Prop) (kh kj c:Nat) (v:Value) (a₂:Goroutine) (w:World) (gs':Array Goroutine) (w':World) (t':Trace):Prop:=
 ∃(q':Nat→Nat) (g₂:Goroutine) (d k:Nat),gs'[h]?=some (Conc.served a₂ (commResult cH shH kh undef false))∧gs'[j]?=some (Conc.served g₂ (commResult cJ shJ kj v true))∧home g₂∧g₂.status=.running∧w.heap[c]?=some (.chan 0 #[] false k k false)∧w'=(w.at d).setChan c 0 #[] false (k+1) (k+1) false∧
  (∀i g,i≠h→i≠j→gs'[i]?=some g→QuitsD P (q' i) (Deaf t' i) g)∧(∀i,gs'.size≤i→Deaf t' i=0)∧PX Shun Still Mem (fun g=>Loose g∧g≠j) B j t'∧TT t'
theorem Meets.open_h (M:Meets Z cH cJ kh kj c v z zj) {w:World} (hJ:∀cc∈cJ,OpenIn w cc) (hH:∀(m:Nat) cc,m≠kh→cH[m]?=some cc→OpenIn w cc):∀cc∈cH,∃c cap buf s r tm,cc.chan=.chan (some c)∧w.heap[c]?=some (.chan cap buf false s r tm):=by
 intro cc hcc
 obtain⟨m,hm,rfl⟩:=Array.mem_iff_getElem.1 hcc
 have hm':=Array.getElem?_eq_getElem hm
 by_cases e:m=kh
 ·subst e
  rw[M.hkh]at hm'
  rw[←Option.some.inj hm']
  obtain⟨c',z',k,e',hc⟩:=hJ _ (Array.mem_of_getElem? M.hkj)
  have:c'=c:=by simp[rcase]at e';exact e'.1.symm
  subst this
  exact⟨c',0,#[],k,k,false,rfl,hc⟩
 ·obtain⟨c',z',k,e',hc⟩:=hH m _ e hm'
  rw[e']
  exact⟨c',0,#[],k,k,false,rfl,hc⟩
theorem Meets.chan (M:Meets Z cH cJ kh kj c v z zj) {w:World} (hJ:∀cc∈cJ,OpenIn w cc):∃k,w.heap[c]?=some (.chan 0 #[] false k k false):=by
 obtain⟨c',z',k,e',hc⟩:=hJ _ (Array.mem_of_getElem? M.hkj)
 have:c'=c:=by simp[rcase]at e';exact e'.1.symm
 subst this
 exact⟨k,hc⟩
theorem Met.of_at {B d:Nat} {w:World} {gs':Array Goroutine} {w':World} {t':Trace} (H:Met P TT Shun Still Mem Loose B h j cH cJ shH shJ home kh kj c v a₂ (w.at d) gs' w' t'):Met P TT Shun Still Mem Loose B h j cH cJ shH shJ home kh kj c v a₂ w gs' w' t':=by
 obtain⟨q',g₂,d',k,h1,h2,h3,h4,h5,h6,h7⟩:=H
 exact⟨q',g₂,d',k,h1,h2,h3,h4,h5,h6,h7⟩
theorem give_wait (L:Leans Z Still K1) (hK1:∀w,K1 w→K w) (hT:Lasts Shun Still j TT) (M:Meets Z cH cJ kh kj c v z zj) (hMh:Mem h) (hMj:Mem j) (hLj:Loose j):∀(X k:Nat) (gs:Array Goroutine) (b:Goroutine) (w:World) (sl:Option (Nat×Nat)) (t:Trace) (q:Nat→Nat) (B:Nat),k+sumTo gs.size q≤X→h≠j→(h=0∨j=0)→(∀g,Mem g→g=h∨g=j)→
  gs[h]?=some (parked a₂ cH shH)→gs[j]?=some b→b.status=.running→K1 w→TT t→(∀cc∈cJ,OpenIn w cc)→(∀(m:Nat) cc,m≠kh→cH[m]?=some cc→OpenIn w cc)→SeatWalk P (j==0) K Still cJ shJ home k b→
  (∀i g,i≠h→i≠j→gs[i]?=some g→QuitsD P (q i) (Deaf t i) g)→(∀i,gs.size≤i→Deaf t i=0)→PX Shun Still Mem Loose B h t→w.heap.size≤B→
  ComesTo P gs w sl t (Met P TT Shun Still Mem Loose B h j cH cJ shH shJ home kh kj c v a₂ w):=by
 intro X
 induction X with
 | zero=>
  intro k gs b w sl t q B hX hne hz hmem hh hj hb hK hTt hoJ hoH hw hlv hab htr hB
  have hjl:j<gs.size:=(Array.getElem?_eq_some_iff.1 hj).1
  have haw:∀g∈gs,awake g:=by
   intro g hg
   obtain⟨i,hi,rfl⟩:=Array.mem_iff_getElem.1 hg
   have hi':=Array.getElem?_eq_getElem hi
   by_cases e1:i=h
   ·subst e1;rw[hh]at hi';rw[←Option.some.inj hi'];exact awake_of (.inr (.inl rfl))
   ·by_cases e2:i=j
    ·subst e2;rw[hj]at hi';rw[←Option.some.inj hi'];exact awake_of (.inl hb)
    ·exact awake_of ((hlv i _ e1 e2 hi').status.elim .inl fun x=>.inr (.inr x))
  obtain⟨i,g,d,sl',hi,hg,hst⟩:=crowd_pick (P:=P) (w:=w) (sl:=sl) haw ⟨j,b,hj,hb⟩
  have hlt:i<gs.size:=(Array.getElem?_eq_some_iff.1 hi).1
  have e1:i≠h:=by intro e;subst e;rw[hh]at hi;rw[←Option.some.inj hi]at hg;cases hg
  by_cases e2:i=j
  ·subst e2
   obtain rfl:g=b:=by rw[hj]at hi;exact(Option.some.inj hi).symm
   obtain rfl:k=0:=by omega
   obtain⟨g₂,es,hhome,hr,hes,hco⟩:=hw
   have hKd:K1 (w.at d):=L.keep w (w.at d) (fun _ _=>rfl) hK
   obtain⟨kc,hc⟩:=M.chan hoJ
   have hother:∀x y,x≠h→(gs.setIfInBounds i ph)[x]?=some y→∀c' b',offersAt y c' b'=[]:=by
    intro x y hx hy c' b'
    rcases getElem?_stand gs i x y hy with⟨rfl,rfl⟩|⟨hxi,hy'⟩
    ·exact offersAt_ph _ _
    ·exact offersAt_of_not_blocked (by rcases(hlv x y hx hxi hy').status with h1|h1<;>rw[h1]<;>simp) _ _
   have hsth:(gs.setIfInBounds i ph)[h]?=some (parked a₂ cH shH):=stand_get (Ne.symm e1) hh
   have hrunT:=sel_recv_meets (P:=P) (sl:=sl') (i:=i) (j:=h) (w₁:=w.at d) hi (hco _ (hK1 _ hKd)) M.hkj (fun m cc hm hcc=>by
     obtain⟨c',z',k',rfl,hc'⟩:=hoJ cc (Array.mem_of_getElem? hcc)
     refine ways_recv_none (show(w.at d).heap[c']?=_ from hc') (partners_nil fun x y hy=>?_)
     by_cases hx:x=h
     ·subst hx
      rw[hsth]at hy;rw[←Option.some.inj hy]
      have hcc':c'≠c:=fun e=>M.hoj m _ hm hcc (by rw[e];rfl)
      have:(cH.zipIdx.toList.filter fun x:CommCase×Nat=>x.1.send.isSome==true && (match x.1.chan with | .chan (some r')=>r'==c' | _=>false))=[]:=by
       rw[List.filter_eq_nil_iff]
       rintro⟨cc,m'⟩ hm'
       have hm2:=mem_of_zipIdx hm'
       by_cases em:m'=kh
       ·subst em;rw[M.hkh]at hm2;rw[←Option.some.inj hm2];simp[scase];exact fun e=>hcc' e.symm
       ·obtain⟨c2,z2,rfl,_,_⟩:=M.hoh m' cc em hm2;simp[rcase]
      exact congrArg (List.map fun x:CommCase×Nat=>x.2) this
     ·exact hother x y hx hy _ _) (show(w.at d).heap[c]?=_ from hc) (Ne.symm e1) hh M.hkh (by
     rw[partners_one hsth (fun x y hx hy=>hother x y hx hy _ _),offersAt_send M.hkh (fun m cc hm hcc=>by
      obtain⟨c2,z2,rfl,hne2,_⟩:=M.hoh m cc hm hcc;simp[rcase];exact hne2)]
     rfl)
   obtain⟨r1,r2,r3⟩:=ak8 (B:=B) (i:=i) (fn:=g.frame.fn) (pos:=g.frame.place) L hK hB hes
   have hcB:c<B:=by have:=(Array.getElem?_eq_some_iff.1 hc).1;omega
   have htr1:=htr.appRead hMj hLj aa6 r1 (r2 t) r3
   have htr2:=htr1.give hMh hMj a₂.frame.fn a₂.frame.place g₂.frame.fn g₂.frame.place kc 0 hcB
   have hsize:((gs.setIfInBounds h (Conc.served a₂ (commResult cH shH kh undef false))).setIfInBounds i (Conc.served g₂ (commResult cJ shJ kj v true))).size=gs.size:=by simp
   have hhl:h<gs.size:=(Array.getElem?_eq_some_iff.1 hh).1
   have hdeaf:∀x,x≠h→x≠i→Deaf (t++(MemOp.ofEvents i g.frame.fn g.frame.place es++met h i a₂.frame.fn a₂.frame.place g₂.frame.fn g₂.frame.place c kc 0)) x=Deaf t x:=by
    intro x h1 h2
    rw[←Array.append_assoc,Deaf_quiet (met_quiet _ _ _ _ _ _ _ _ _ x),Deaf_other t (Ne.symm h2) _ aa6]
   refine⟨1,_,_,sl',t++(MemOp.ofEvents i g.frame.fn g.frame.place es++met h i a₂.frame.fn a₂.frame.place g₂.frame.fn g₂.frame.place c kc 0),by simp only[runNT,hst,hrunT,met],hsize,q,g₂,d,kc,?_,?_,hhome,hr,hc,rfl,fun x y hx1 hx2 hy=>?_,fun x hx=>?_,?_,?_⟩
   ·rw[Array.getElem?_setIfInBounds_ne e1,Array.getElem?_setIfInBounds_self_of_lt hhl]
   ·rw[Array.getElem?_setIfInBounds_self_of_lt (by simpa using hlt)]
   ·rw[Array.getElem?_setIfInBounds_ne (Ne.symm hx2),Array.getElem?_setIfInBounds_ne (Ne.symm hx1)]at hy
    rw[hdeaf x hx1 hx2];exact hlv x y hx1 hx2 hy
   ·rw[hsize]at hx
    rw[hdeaf x (by omega) (by omega)];exact hab x hx
   ·rw[←Array.append_assoc];exact htr2
   ·rw[←Array.append_assoc];exact hT.reads _ _ (hT.reads t _ hTt r1) (fun op hop b hb=>by rw[met_mute _ _ _ _ _ _ _ _ _ op hop]at hb;cases hb)
  ·exfalso
   have hq:=hlv i g e1 e2 hi
   have hz0:q i=0:=by
    have hs:sumTo gs.size (upd q i 0)+q i=sumTo gs.size q+0:=by
     have:=sumTo_upd q 0 id hlt
     simpa using this
    omega
   rw[hz0]at hq
   rw[hq.1]at hg
   cases hg
 | succ X ih=>
  intro k gs b w sl t q B hX hne hz hmem hh hj hb hK hTt hoJ hoH hw hlv hab htr hB
  have hjl:j<gs.size:=(Array.getElem?_eq_some_iff.1 hj).1
  by_cases hz1:k+sumTo gs.size q≤X
  ·exact ih k gs b w sl t q B hz1 hne hz hmem hh hj hb hK hTt hoJ hoH hw hlv hab htr hB
  have haw:∀g∈gs,awake g:=by
   intro g hg
   obtain⟨i,hi,rfl⟩:=Array.mem_iff_getElem.1 hg
   have hi':=Array.getElem?_eq_getElem hi
   by_cases e1:i=h
   ·subst e1;rw[hh]at hi';rw[←Option.some.inj hi'];exact awake_of (.inr (.inl rfl))
   ·by_cases e2:i=j
    ·subst e2;rw[hj]at hi';rw[←Option.some.inj hi'];exact awake_of (.inl hb)
    ·exact awake_of ((hlv i _ e1 e2 hi').status.elim .inl fun x=>.inr (.inr x))
  obtain⟨i,g,d,sl',hi,hg,hst⟩:=crowd_pick (P:=P) (w:=w) (sl:=sl) haw ⟨j,b,hj,hb⟩
  have hlt:i<gs.size:=(Array.getElem?_eq_some_iff.1 hi).1
  have e1:i≠h:=by intro e;subst e;rw[hh]at hi;rw[←Option.some.inj hi]at hg;cases hg
  have hag:∀x x':Goroutine,woken P x x' (w.at d) (parked a₂ cH shH)=parked a₂ cH shH:=fun x x'=>woken_of_again (again_open (M.open_h (w:=w.at d) hoJ hoH))
  have hKd:K1 (w.at d):=L.keep w (w.at d) (fun _ _=>rfl) hK
  by_cases e2:i=j
  ·subst e2
   obtain rfl:g=b:=by rw[hj]at hi;exact(Option.some.inj hi).symm
   cases k with
   | zero=>
    obtain⟨g₂,es,hhome,hr,hes,hco⟩:=hw
    obtain⟨kc,hc⟩:=M.chan hoJ
    have hother:∀x y,x≠h→(gs.setIfInBounds i ph)[x]?=some y→∀c' b',offersAt y c' b'=[]:=by
     intro x y hx hy c' b'
     rcases getElem?_stand gs i x y hy with⟨rfl,rfl⟩|⟨hxi,hy'⟩
     ·exact offersAt_ph _ _
     ·exact offersAt_of_not_blocked (by rcases(hlv x y hx hxi hy').status with h1|h1<;>rw[h1]<;>simp) _ _
    have hsth:(gs.setIfInBounds i ph)[h]?=some (parked a₂ cH shH):=stand_get (Ne.symm e1) hh
    have hrunT:=sel_recv_meets (P:=P) (sl:=sl') (i:=i) (j:=h) (w₁:=w.at d) hi (hco _ (hK1 _ hKd)) M.hkj (fun m cc hm hcc=>by
      obtain⟨c',z',k',rfl,hc'⟩:=hoJ cc (Array.mem_of_getElem? hcc)
      refine ways_recv_none (show(w.at d).heap[c']?=_ from hc') (partners_nil fun x y hy=>?_)
      by_cases hx:x=h
      ·subst hx
       rw[hsth]at hy;rw[←Option.some.inj hy]
       have hcc':c'≠c:=fun e=>M.hoj m _ hm hcc (by rw[e];rfl)
       have:(cH.zipIdx.toList.filter fun x:CommCase×Nat=>x.1.send.isSome==true && (match x.1.chan with | .chan (some r')=>r'==c' | _=>false))=[]:=by
        rw[List.filter_eq_nil_iff]
        rintro⟨cc,m'⟩ hm'
        have hm2:=mem_of_zipIdx hm'
        by_cases em:m'=kh
        ·subst em;rw[M.hkh]at hm2;rw[←Option.some.inj hm2];simp[scase];exact fun e=>hcc' e.symm
        ·obtain⟨c2,z2,rfl,_,_⟩:=M.hoh m' cc em hm2;simp[rcase]
       exact congrArg (List.map fun x:CommCase×Nat=>x.2) this
      ·exact hother x y hx hy _ _) (show(w.at d).heap[c]?=_ from hc) (Ne.symm e1) hh M.hkh (by
      rw[partners_one hsth (fun x y hx hy=>hother x y hx hy _ _),offersAt_send M.hkh (fun m cc hm hcc=>by
       obtain⟨c2,z2,rfl,hne2,_⟩:=M.hoh m cc hm hcc;simp[rcase];exact hne2)]
      rfl)
    obtain⟨r1,r2,r3⟩:=ak8 (B:=B) (i:=i) (fn:=g.frame.fn) (pos:=g.frame.place) L hK hB hes
    have hcB:c<B:=by have:=(Array.getElem?_eq_some_iff.1 hc).1;omega
    have htr1:=htr.appRead hMj hLj aa6 r1 (r2 t) r3
    have htr2:=htr1.give hMh hMj a₂.frame.fn a₂.frame.place g₂.frame.fn g₂.frame.place kc 0 hcB
    have hsize:((gs.setIfInBounds h (Conc.served a₂ (commResult cH shH kh undef false))).setIfInBounds i (Conc.served g₂ (commResult cJ shJ kj v true))).size=gs.size:=by simp
    have hhl:h<gs.size:=(Array.getElem?_eq_some_iff.1 hh).1
    have hdeaf:∀x,x≠h→x≠i→Deaf (t++(MemOp.ofEvents i g.frame.fn g.frame.place es++met h i a₂.frame.fn a₂.frame.place g₂.frame.fn g₂.frame.place c kc 0)) x=Deaf t x:=by
     intro x h1 h2
     rw[←Array.append_assoc,Deaf_quiet (met_quiet _ _ _ _ _ _ _ _ _ x),Deaf_other t (Ne.symm h2) _ aa6]
    refine⟨1,_,_,sl',t++(MemOp.ofEvents i g.frame.fn g.frame.place es++met h i a₂.frame.fn a₂.frame.place g₂.frame.fn g₂.frame.place c kc 0),by simp only[runNT,hst,hrunT,met],hsize,q,g₂,d,kc,?_,?_,hhome,hr,hc,rfl,fun x y hx1 hx2 hy=>?_,fun x hx=>?_,?_,?_⟩
    ·rw[Array.getElem?_setIfInBounds_ne e1,Array.getElem?_setIfInBounds_self_of_lt hhl]
    ·rw[Array.getElem?_setIfInBounds_self_of_lt (by simpa using hlt)]
    ·rw[Array.getElem?_setIfInBounds_ne (Ne.symm hx2),Array.getElem?_setIfInBounds_ne (Ne.symm hx1)]at hy
     rw[hdeaf x hx1 hx2];exact hlv x y hx1 hx2 hy
    ·rw[hsize]at hx
     rw[hdeaf x (by omega) (by omega)];exact hab x hx
    ·rw[←Array.append_assoc];exact htr2
    ·rw[←Array.append_assoc];exact hT.reads _ _ (hT.reads t _ hTt r1) (fun op hop b hb=>by rw[met_mute _ _ _ _ _ _ _ _ _ op hop]at hb;cases hb)
   | succ k=>
    obtain⟨g',es,hr,hes,hgo,hw'⟩:=hw
    have hrunT:=runT_crowd_go (P:=P) (sl:=sl') (i:=i) hi (hgo _ (hK1 _ hKd))
    have hsz:((gs.map (woken P g g' (w.at d))).setIfInBounds i g').size=gs.size:=by simp
    obtain⟨r1,r2,r3⟩:=ak8 (B:=B) (i:=i) (fn:=g.frame.fn) (pos:=g.frame.place) L hK hB hes
    obtain⟨N,gs',w',sl'',t',hr',hs',hQ⟩:=ih k ((gs.map (woken P g g' (w.at d))).setIfInBounds i g') g' (w.at d) sl' (t++MemOp.ofEvents i g.frame.fn g.frame.place es) q B (by rw[hsz];omega) hne hz hmem
     (by rw[Array.getElem?_setIfInBounds_ne e1,Array.getElem?_map,hh];simp[hag]) (by simp[hlt]) hr hKd (hT.reads t _ hTt r1) hoJ hoH hw' (fun x y hx1 hx2 hy=>by
      rw[Array.getElem?_setIfInBounds_ne (Ne.symm hx2),Array.getElem?_map]at hy
      obtain⟨y',hy',rfl⟩:=Option.map_eq_some_iff.1 hy
      have hq:=hlv x y' hx1 hx2 hy'
      rw[woken_quitsD hq,Deaf_other t (Ne.symm hx2) _ aa6];exact hq) (fun x hx=>by
      rw[Deaf_other t (g':=i) (by simp at hx;omega) _ aa6];exact hab x (by simpa using hx))
     (htr.appRead hMj hLj aa6 r1 (r2 t) r3) hB
    exact⟨N+1,gs',w',sl'',t',by simp only[runNT,hst,hrunT];exact hr',hs'.trans hsz,hQ.of_at⟩
  ·have hpos:i≠0:=by rcases hz with e|e<;>omega
   have hq:=hlv i g e1 e2 hi
   have hi0:(i==0)=false:=by simp;omega
   cases hqi:q i with
   | zero=>rw[hqi]at hq;rw[hq.1]at hg;cases hg
   | succ kk=>
    rw[hqi]at hq
    rcases hq with⟨hf,_⟩|⟨_,g',es,hm,hstp,hq'⟩
    ·rw[hf]at hg;cases hg
    have hrunT:=runT_crowd_go (P:=P) (sl:=sl') (i:=i) hi (by rw[hi0];exact hstp (w.at d))
    have hsz:((gs.map (woken P g g' (w.at d))).setIfInBounds i g').size=gs.size:=by simp
    have hsum:sumTo gs.size (upd q i kk)+(kk+1)=sumTo gs.size q+kk:=by
     have:=sumTo_upd q kk id hlt
     simpa [hqi]using this
    have hmute:∀op∈MemOp.ofEvents i g.frame.fn g.frame.place es,op.act.touch?=none:=fun op hop=>by obtain⟨e,he,rfl⟩:=Go.Conc.mem_ofEvents hop;exact touch_mute (hm e he)
    have hnm:¬Mem i:=fun hi'=>(hmem i hi').elim e1 e2
    obtain⟨N,gs',w',sl'',t',hr',hs',hQ⟩:=ih k ((gs.map (woken P g g' (w.at d))).setIfInBounds i g') b (w.at d) sl' (t++MemOp.ofEvents i g.frame.fn g.frame.place es) (upd q i kk) B (by rw[hsz];omega) hne hz hmem
     (by rw[Array.getElem?_setIfInBounds_ne e1,Array.getElem?_map,hh];simp[hag]) (by rw[Array.getElem?_setIfInBounds_ne e2,Array.getElem?_map,hj];simp[woken_run hb]) hb hKd (hT.calm t _ hTt (meek_mute e2 hpos hm)) hoJ hoH hw (fun x y hx1 hx2 hx=>by
       by_cases e3:i=x
       ·subst e3
        rw[Array.getElem?_setIfInBounds_self_of_lt (by simpa using hlt)]at hx
        obtain rfl:=Option.some.inj hx
        rw[upd_same,Deaf_own]
        exact hq'
       ·rw[Array.getElem?_setIfInBounds_ne e3,Array.getElem?_map]at hx
        obtain⟨z,hz,rfl⟩:=Option.map_eq_some_iff.1 hx
        have hqj:=hlv x z hx1 hx2 hz
        rw[woken_quitsD hqj,upd_ne q kk (Ne.symm e3),Deaf_other t e3 _ aa6]
        exact hqj) (fun x hx=>by
       rw[Deaf_other t (g':=i) (by simp at hx;omega) _ aa6]
       exact hab x (by simpa using hx))
     (htr.appMute aa6 hmute (fun x=>(hnm x).elim) (fun op hop=>by obtain⟨e,he,rfl⟩:=Go.Conc.mem_ofEvents hop;exact low_mute (hm e he) B)) hB
    exact⟨N+1,gs',w',sl'',t',by simp only[runNT,hst,hrunT];exact hr',hs'.trans hsz,hQ.of_at⟩
theorem give_duo (L:Leans Z Still K1) (hK1:∀w,K1 w→K w) (hT:Lasts Shun Still j TT) (M:Meets Z cH cJ kh kj c v z zj) (hMh:Mem h) (hMj:Mem j) (hLj:Loose j) {es:Array Event}:∀(X n:Nat) (gs:Array Goroutine) (a:Goroutine) (w:World) (sl:Option (Nat×Nat)) (t:Trace) (q:Nat→Nat) (B:Nat),
  n+sumTo gs.size q<X→gs[h]?=some a→a.status=.running→Duo P Shun Still Mem Loose B h j (SeatBy P (j==0) K K1 TT Still cJ shJ home) n gs w t q→(∀(m:Nat) cc,m≠kh→cH[m]?=some cc→OpenIn w cc)→
  (∀d,stepG P (h==0) a (w.at d)=.comm a₂ cH true shH (w.at d) es)→(∀e∈es,EvH Shun Still B e)→ComesTo P gs w sl t (Met P TT Shun Still Mem Loose B h j cH cJ shH shJ home kh kj c v a₂ w):=by
 have hzJ:∀cc∈cJ,∀c z,cc=rcase c z→Z c:=fun cc hcc c z e=>by
  obtain⟨c',z',e',hz⟩:=M.hrj cc hcc
  rw[e]at e'
  have:c=c':=by simp[rcase]at e';exact e'.1
  rw[this];exact hz
 have hsJ:∀cc∈cJ,cc.send=none:=fun cc hcc=>by obtain⟨c',z',e',_⟩:=M.hrj cc hcc;rw[e'];rfl
 intro X
 induction X with
 | zero=>intro n gs a w sl t q B hX;omega
 | succ X ih=>
  intro n gs a w sl t q B hX h0 hrun D hoH hco hes
  obtain⟨b,hb,hBy⟩:=D.idle
  have O:ByOk P Z Shun Still (fun B t=>PX Shun Still Mem Loose B h t) j (SeatBy P (j==0) K K1 TT Still cJ shJ home):=seat_by L hK1 hT hzJ hMj hLj
  have hne:=D.ne
  have haw:∀g∈gs,awake g:=by
   intro g hg
   obtain⟨i,hi,rfl⟩:=Array.mem_iff_getElem.1 hg
   have hi':=Array.getElem?_eq_getElem hi
   by_cases e1:i=h
   ·subst e1
    rw[h0]at hi';rw[←Option.some.inj hi'];exact awake_of (.inl hrun)
   ·by_cases e2:i=j
    ·subst e2
     rw[hb]at hi';rw[←Option.some.inj hi'];exact awake_of ((O.status hBy).elim (fun x=>.inl x.1) .inr)
    ·exact awake_of ((D.leav i _ e1 e2 hi').status.elim .inl fun x=>.inr (.inr x))
  obtain⟨i,g,d,sl',hi,hg,hst⟩:=crowd_pick (P:=P) (w:=w) (sl:=sl) haw ⟨h,a,h0,hrun⟩
  have hlt:i<gs.size:=(Array.getElem?_eq_some_iff.1 hi).1
  have hjl:j<gs.size:=(Array.getElem?_eq_some_iff.1 hb).1
  have hhl:h<gs.size:=(Array.getElem?_eq_some_iff.1 h0).1
  obtain⟨⟨hK,hTt⟩,hoJ,hseat⟩:=hBy
  have hKd:K1 (w.at d):=L.keep w (w.at d) (fun _ _=>rfl) hK
  by_cases e1:i=h
  ·subst e1
   obtain rfl:g=a:=by rw[h0]at hi;exact(Option.some.inj hi).symm
   have hother:∀x y,x≠j→(gs.setIfInBounds i ph)[x]?=some y→∀c' b',offersAt y c' b'=[]:=by
    intro x y hx hy c' b'
    rcases getElem?_stand gs i x y hy with⟨rfl,rfl⟩|⟨hxi,hy'⟩
    ·exact offersAt_ph _ _
    ·exact offersAt_of_not_blocked (by rcases(D.leav x y hxi hx hy').status with h1|h1<;>rw[h1]<;>simp) _ _
   have hstj:(gs.setIfInBounds i ph)[j]?=some b:=stand_get (Ne.symm hne) hb
   rcases hseat with⟨rfl,g₂,rfl,hhome,hr⟩|⟨k,rfl,hbr,hwalk⟩
   ·
    obtain⟨kc,hc⟩:=M.chan hoJ
    have hrunT:=sel_send_meets (P:=P) (sl:=sl') (i:=i) (j:=j) (w₁:=w.at d) hi (hco d) M.hkh (fun m cc hm hcc=>by
      obtain⟨c',z',k',rfl,hc'⟩:=hoH m cc hm hcc
      refine ways_recv_none (show(w.at d).heap[c']?=_ from hc') (partners_nil fun x y hy=>?_)
      by_cases hx:x=j
      ·subst hx
       rw[hstj]at hy;rw[←Option.some.inj hy]
       exact offersAt_parked_sends hsJ _
      ·exact hother x y hx hy _ _) (show(w.at d).heap[c]?=_ from hc) (Ne.symm hne) hb M.hkj (by
      rw[partners_one hstj (fun x y hx hy=>hother x y hx hy _ _),offersAt_parked_at M.hkj M.hoj]
      rfl)
    have hcB:c<B:=by have:=(Array.getElem?_eq_some_iff.1 hc).1;have:=D.size;omega
    have htr1:=D.tr.own (fn:=g.frame.fn) (pos:=g.frame.place) hes
    have htr2:=htr1.give hMh hMj a₂.frame.fn a₂.frame.place g₂.frame.fn g₂.frame.place kc 0 hcB
    have hsize:((gs.setIfInBounds j (Conc.served g₂ (commResult cJ shJ kj v true))).setIfInBounds i (Conc.served a₂ (commResult cH shH kh undef false))).size=gs.size:=by simp
    have hdeaf:∀x,x≠i→x≠j→Deaf (t++(MemOp.ofEvents i g.frame.fn g.frame.place es++met i j a₂.frame.fn a₂.frame.place g₂.frame.fn g₂.frame.place c kc 0)) x=Deaf t x:=by
     intro x h1 h2
     rw[←Array.append_assoc,Deaf_quiet (met_quiet _ _ _ _ _ _ _ _ _ x),Deaf_other t (Ne.symm h1) _ aa6]
    refine⟨1,_,_,sl',t++(MemOp.ofEvents i g.frame.fn g.frame.place es++met i j a₂.frame.fn a₂.frame.place g₂.frame.fn g₂.frame.place c kc 0),by simp only[runNT,hst,hrunT,met],hsize,q,g₂,d,kc,?_,?_,hhome,hr,hc,rfl,fun x y hx1 hx2 hy=>?_,fun x hx=>?_,?_,?_⟩
    ·rw[Array.getElem?_setIfInBounds_self_of_lt (by simpa using hlt)]
    ·rw[Array.getElem?_setIfInBounds_ne hne,Array.getElem?_setIfInBounds_self_of_lt hjl]
    ·rw[Array.getElem?_setIfInBounds_ne (Ne.symm hx1),Array.getElem?_setIfInBounds_ne (Ne.symm hx2)]at hy
     rw[hdeaf x hx1 hx2];exact D.leav x y hx1 hx2 hy
    ·rw[hsize]at hx
     rw[hdeaf x (by omega) (by omega)];exact D.above x hx
    ·rw[←Array.append_assoc];exact htr2
    ·rw[←Array.append_assoc];exact hT.reads _ _ (hT.calm t _ hTt (ai1 hne hes)) (fun op hop b hb=>by rw[met_mute _ _ _ _ _ _ _ _ _ op hop]at hb;cases hb)
   ·
    obtain⟨kc,hc⟩:=M.chan hoJ
    have hothers:∀(x:Nat) (y:Goroutine),(gs.setIfInBounds i ph)[x]?=some y→∀c' b',offersAt y c' b'=[]:=by
     intro x y hy c' b'
     by_cases hx:x=j
     ·subst hx;rw[hstj]at hy;rw[←Option.some.inj hy];exact offersAt_of_not_blocked (by rw[hbr];simp) _ _
     ·exact hother x y hx hy c' b'
    have hrunT:=crowd_waits (P:=P) (sl:=sl') (i:=i) (w₁:=w.at d) hi (hco d) (fun cc hcc=>by
     obtain⟨m,hm,rfl⟩:=Array.mem_iff_getElem.1 hcc
     have hm':=Array.getElem?_eq_getElem hm
     by_cases em:m=kh
     ·subst em
      rw[M.hkh]at hm';rw[←Option.some.inj hm']
      exact ways_send_none (show(w.at d).heap[c]?=_ from hc) (by simp) (partners_nil fun x y hy=>hothers x y hy _ _)
     ·obtain⟨c',z',k',e',hc'⟩:=hoH m _ em hm'
      rw[e']
      exact ways_recv_none (show(w.at d).heap[c']?=_ from hc') (partners_nil fun x y hy=>hothers x y hy _ _))
    have hsz:(gs.setIfInBounds i (parked a₂ cH shH)).size=gs.size:=by simp
    obtain⟨N,gs',w',sl'',t',hr',hs',hQ⟩:=give_wait (P:=P) (home:=home) (shJ:=shJ) (shH:=shH) (a₂:=a₂) L hK1 hT M hMh hMj hLj (k+sumTo gs.size q) k (gs.setIfInBounds i (parked a₂ cH shH)) b (w.at d) sl' (t++MemOp.ofEvents i g.frame.fn g.frame.place es) q B (by rw[hsz];omega) hne D.zero D.mem
     (by rw[Array.getElem?_setIfInBounds_self_of_lt hlt]) (by rw[Array.getElem?_setIfInBounds_ne hne];exact hb) hbr hKd (hT.calm t _ hTt (ai1 hne hes)) hoJ hoH hwalk (fun x y hx1 hx2 hy=>by
      rw[Array.getElem?_setIfInBounds_ne (Ne.symm hx1)]at hy
      rw[Deaf_other t (Ne.symm hx1) _ aa6];exact D.leav x y hx1 hx2 hy) (fun x hx=>by
      rw[hsz]at hx
      rw[Deaf_other t (g':=i) (by omega) _ aa6];exact D.above x hx)
     (D.tr.own hes) D.size
    exact⟨N+1,gs',w',sl'',t',by simp only[runNT,hst,hrunT];exact hr',hs'.trans hsz,hQ.of_at⟩
  ·by_cases e2:i=j
   ·subst e2
    obtain rfl:g=b:=by rw[hb]at hi;exact(Option.some.inj hi).symm
    rcases hseat with⟨rfl,g₂,rfl,hhome,hr⟩|⟨k,rfl,hbr,hwalk⟩
    ·cases hg
    ·cases k with
     | zero=>
      obtain⟨g₂,es',hhome,hr,hes',hco'⟩:=hwalk
      obtain⟨r1,r2,r3⟩:=ak8 (B:=B) (i:=i) (fn:=g.frame.fn) (pos:=g.frame.place) L hK D.size hes'
      have nob:∀k y,k≠i→gs[k]?=some y→y.status≠.blocked:=by
       intro k y hk hy
       by_cases e3:k=h
       ·subst e3;rw[h0]at hy;rw[←Option.some.inj hy,hrun];simp
       ·have:=(D.leav k y e3 hk hy).status
        rcases this with h1|h1<;>rw[h1]<;>simp
      have hrunT:=crowd_waits (P:=P) (sl:=sl') (i:=i) (w₁:=w.at d) hi (hco' _ (hK1 _ hKd)) (fun cc hcc=>by
       obtain⟨c',z',k',rfl,hc'⟩:=hoJ cc hcc
       exact ways_recv_none (show(w.at d).heap[c']?=_ from hc') (ag8 nob))
      have hsz:(gs.setIfInBounds i (parked g₂ cJ shJ)).size=gs.size:=by simp
      obtain⟨N,gs',w',sl'',t',hr',hs',hQ⟩:=ih 0 (gs.setIfInBounds i (parked g₂ cJ shJ)) a (w.at d) sl' (t++MemOp.ofEvents i g.frame.fn g.frame.place es') q B (by rw[hsz];omega)
       (by rw[Array.getElem?_setIfInBounds_ne (Ne.symm hne)];exact h0) hrun
       ⟨hne,D.zero,D.mem,⟨_,Array.getElem?_setIfInBounds_self_of_lt hlt,⟨hKd,hT.reads t _ hTt r1⟩,hoJ,.inl ⟨rfl,g₂,rfl,hhome,hr⟩⟩,fun x y hx1 hx2 hy=>by
        rw[Array.getElem?_setIfInBounds_ne (Ne.symm hx2)]at hy
        rw[Deaf_other t (Ne.symm hx2) _ aa6];exact D.leav x y hx1 hx2 hy,fun x hx=>by
        rw[hsz]at hx
        rw[Deaf_other t (g':=i) (by omega) _ aa6];exact D.above x hx,D.tr.appRead hMj hLj aa6 r1 (r2 t) r3,D.size⟩ hoH (fun d'=>hco d') hes
      exact⟨N+1,gs',w',sl'',t',by simp only[runNT,hst,hrunT];exact hr',hs'.trans hsz,hQ.of_at⟩
     | succ k=>
      obtain⟨g',es',hr,hes',hgo',hw'⟩:=hwalk
      obtain⟨r1,r2,r3⟩:=ak8 (B:=B) (i:=i) (fn:=g.frame.fn) (pos:=g.frame.place) L hK D.size hes'
      have hrunT:=runT_crowd_go (P:=P) (sl:=sl') (i:=i) hi (hgo' _ (hK1 _ hKd))
      have hsz:((gs.map (woken P g g' (w.at d))).setIfInBounds i g').size=gs.size:=by simp
      obtain⟨N,gs',w',sl'',t',hr',hs',hQ⟩:=ih (k+1) ((gs.map (woken P g g' (w.at d))).setIfInBounds i g') a (w.at d) sl' (t++MemOp.ofEvents i g.frame.fn g.frame.place es') q B (by rw[hsz];omega)
       (by rw[Array.getElem?_setIfInBounds_ne (Ne.symm hne),Array.getElem?_map,h0];simp[woken_run hrun]) hrun
       ⟨hne,D.zero,D.mem,⟨g',by simp[hlt],⟨hKd,hT.reads t _ hTt r1⟩,hoJ,.inr ⟨k,rfl,hr,hw'⟩⟩,fun x y hx1 hx2 hy=>by
        rw[Array.getElem?_setIfInBounds_ne (Ne.symm hx2),Array.getElem?_map]at hy
        obtain⟨y',hy',rfl⟩:=Option.map_eq_some_iff.1 hy
        have hq:=D.leav x y' hx1 hx2 hy'
        rw[woken_quitsD hq,Deaf_other t (Ne.symm hx2) _ aa6];exact hq,fun x hx=>by
        rw[hsz]at hx
        rw[Deaf_other t (g':=i) (by omega) _ aa6];exact D.above x hx,D.tr.appRead hMj hLj aa6 r1 (r2 t) r3,D.size⟩ hoH (fun d'=>hco d') hes
      exact⟨N+1,gs',w',sl'',t',by simp only[runNT,hst,hrunT];exact hr',hs'.trans hsz,hQ.of_at⟩
   ·have hpos:i≠0:=by rcases D.zero with e|e<;>omega
    have hq:=D.leav i g e1 e2 hi
    have hi0:(i==0)=false:=by simp;omega
    cases hqi:q i with
    | zero=>rw[hqi]at hq;rw[hq.1]at hg;cases hg
    | succ kk=>
     rw[hqi]at hq
     rcases hq with⟨hf,_⟩|⟨_,g',es',hm,hstp,hq'⟩
     ·rw[hf]at hg;cases hg
     have hrunT:=runT_crowd_go (P:=P) (sl:=sl') (i:=i) hi (by rw[hi0];exact hstp (w.at d))
     have hsz:((gs.map (woken P g g' (w.at d))).setIfInBounds i g').size=gs.size:=by simp
     have hsum:sumTo gs.size (upd q i kk)+(kk+1)=sumTo gs.size q+kk:=by
      have:=sumTo_upd q kk id hlt
      simpa [hqi]using this
     have hmute:∀op∈MemOp.ofEvents i g.frame.fn g.frame.place es',op.act.touch?=none:=fun op hop=>by obtain⟨e,he,rfl⟩:=Go.Conc.mem_ofEvents hop;exact touch_mute (hm e he)
     have hnm:¬Mem i:=fun hi'=>(D.mem i hi').elim e1 e2
     have hBy':SeatBy P (j==0) K K1 TT Still cJ shJ home n b w t:=⟨⟨hK,hTt⟩,hoJ,hseat⟩
     obtain⟨N,gs',w',sl'',t',hr',hs',hQ⟩:=ih n ((gs.map (woken P g g' (w.at d))).setIfInBounds i g') a (w.at d) sl' (t++MemOp.ofEvents i g.frame.fn g.frame.place es') (upd q i kk) B (by rw[hsz];omega)
      (by rw[Array.getElem?_setIfInBounds_ne e1,Array.getElem?_map,h0];simp[woken_run hrun]) hrun
      ⟨hne,D.zero,D.mem,⟨b,by
       rw[Array.getElem?_setIfInBounds_ne e2,Array.getElem?_map,hb]
       simp only[Option.map_some,Option.some.injEq]
       exact woken_of_again (O.again hBy' (w.at d) fun _ _=>rfl),O.calm (w.at d) _ hBy' (fun _ _=>rfl) (meek_mute e2 hpos hm)⟩,fun x y hx1 hx2 hx=>by
       by_cases e3:i=x
       ·subst e3
        rw[Array.getElem?_setIfInBounds_self_of_lt (by simpa using hlt)]at hx
        obtain rfl:=Option.some.inj hx
        rw[upd_same,Deaf_own]
        exact hq'
       ·rw[Array.getElem?_setIfInBounds_ne e3,Array.getElem?_map]at hx
        obtain⟨z,hz,rfl⟩:=Option.map_eq_some_iff.1 hx
        have hqj:=D.leav x z hx1 hx2 hz
        rw[woken_quitsD hqj,upd_ne q kk (Ne.symm e3),Deaf_other t e3 _ aa6]
        exact hqj,fun x hx=>by
       rw[Deaf_other t (g':=i) (by simp at hx;omega) _ aa6]
       exact D.above x (by simpa using hx),D.tr.appMute aa6 hmute (fun x=>(hnm x).elim) (fun op hop=>by obtain⟨e,he,rfl⟩:=Go.Conc.mem_ofEvents hop;exact low_mute (hm e he) B),D.size⟩ hoH (fun d'=>hco d') hes
     exact⟨N+1,gs',w',sl'',t',by simp only[runNT,hst,hrunT];exact hr',hs'.trans hsz,hQ.of_at⟩
end
section
variable {P:Program} {Z:Nat→Prop} {Shun Still:Loc→Prop} {Mem Loose:Nat→Prop} {h j:Nat} {By:Nat→Goroutine→World→Trace→Prop}
theorem picked_beside:∀(X:Nat) (gs:Array Goroutine) (a:Goroutine) (w:World) (sl:Option (Nat×Nat)) (t:Trace) (q:Nat→Nat) (B:Nat),sumTo gs.size q<X→gs[0]?=some a→a.status=.running→Leavers P t gs q→Past Shun B t→
  ∃(N:Nat) (gs':Array Goroutine) (d0 d:Nat) (sl0 sl':Option (Nat×Nat)) (t':Trace) (q':Nat→Nat),runNT P N (crowd gs w sl) t=(.next (crowd gs' (w.at d0) sl0),t')∧gs'.size=gs.size∧gs'[0]?=some a∧
   stepT P (crowd gs' (w.at d0) sl0)=runT P (crowd gs' (w.at d) sl') 0∧Leavers P t' gs' q'∧Past Shun B t':=by
 intro X
 induction X with
 | zero=>intro gs a w sl t q B hX;omega
 | succ X ih=>
  intro gs a w sl t q B hX h0 hrun hL hP
  have haw:∀g∈gs,awake g:=by
   intro g hg
   obtain⟨i,hi,rfl⟩:=Array.mem_iff_getElem.1 hg
   rcases Nat.eq_zero_or_pos i with rfl|hpos
   ·have:gs[0]=a:=by simpa [Array.getElem?_eq_getElem hi]using h0
    rw[this];exact awake_of (.inl hrun)
   ·exact awake_of ((hL.old i _ hpos (Array.getElem?_eq_getElem hi)).status.elim .inl fun x=>.inr (.inr x))
  obtain⟨i,g,d,sl',hi,hg,hst⟩:=crowd_pick (P:=P) (w:=w) (sl:=sl) haw ⟨0,a,h0,hrun⟩
  have hlt:i<gs.size:=(Array.getElem?_eq_some_iff.1 hi).1
  rcases Nat.eq_zero_or_pos i with rfl|hpos
  ·exact⟨0,gs,w.drawn,d,sl,sl',t,q,rfl,rfl,h0,hst,hL,hP⟩
  ·have hq:=hL.old i g hpos hi
   have hi0:(i==0)=false:=by simp;omega
   cases hqi:q i with
   | zero=>rw[hqi]at hq;rw[hq.1]at hg;cases hg
   | succ k=>
    rw[hqi]at hq
    rcases hq with⟨hf,_⟩|⟨_,g',es,hm,hstp,hq'⟩
    ·rw[hf]at hg;cases hg
    have hrunT:=runT_crowd_go (P:=P) (sl:=sl') (i:=i) hi (by rw[hi0];exact hstp (w.at d))
    have hsz:((gs.map (woken P g g' (w.at d))).setIfInBounds i g').size=gs.size:=by simp
    have hsum:sumTo gs.size (upd q i k)+(k+1)=sumTo gs.size q+k:=by
     have:=sumTo_upd q k id hlt
     simpa [hqi]using this
    obtain⟨N,gs',d0,d1,sl0,sl1,t',q',hr,hs',h0',hst',hL',hP'⟩:=ih ((gs.map (woken P g g' (w.at d))).setIfInBounds i g') a (w.at d) sl' (t++MemOp.ofEvents i g.frame.fn g.frame.place es) (upd q i k) B (by rw[hsz];omega)
     (by
      have hne:i≠0:=by omega
      rw[Array.getElem?_setIfInBounds_ne hne,Array.getElem?_map,h0]
      simp[woken_run hrun]) hrun
     ⟨fun x y hx hy=>by
      by_cases hji:i=x
      ·subst hji
       rw[Array.getElem?_setIfInBounds_self_of_lt (by simpa using hlt)]at hy
       obtain rfl:=Option.some.inj hy
       rw[upd_same,Deaf_own]
       exact hq'
      ·rw[Array.getElem?_setIfInBounds_ne hji,Array.getElem?_map]at hy
       obtain⟨z,hz,rfl⟩:=Option.map_eq_some_iff.1 hy
       have hqj:=hL.old x z hx hz
       rw[woken_quitsD hqj,upd_ne q k (Ne.symm hji),Deaf_other t hji _ aa6]
       exact hqj,fun x hx=>by
      rw[Deaf_other t (g':=i) (by simp at hx;omega) _ aa6]
      exact hL.above x (by simpa using hx)⟩
     (hP.mute (by omega) hm)
    exact⟨N+1,gs',d0,d1,sl0,sl1,t',q',by simp only[runNT,hst,hrunT];exact hr,hs'.trans hsz,h0',hst',hL',hP'⟩
theorem runT_spawn {gs:Array Goroutine} {w w':World} {sl:Option (Nat×Nat)} {i:Nat} {g g' child:Goroutine} {es:Array Event} (hi:gs[i]?=some g) (hs:stepG P (i==0) g w=.spawn g' child w' es):
  runT P (crowd gs w sl) i=(.next (crowd ((gs.setIfInBounds i g').push child) w' sl),MemOp.ofEvents i g.frame.fn g.frame.place es++#[{ g:=i,fn:=g.frame.fn,pos:=g.frame.place,act:=.go gs.size },{ g:=gs.size,fn:=child.frame.fn,pos:=g.frame.place,act:=.start }]):=by
 obtain⟨hlt,rfl⟩:=Array.getElem?_eq_some_iff.1 hi
 have hsw:=swapAt_of_lt hlt { (default:Goroutine)with status:=.finished }
 show runT P { world:=w,gs:=gs,rest:={ timers:=#[],alone:=none,slice:=sl } } i=_
 unfold runT
 simp only[hsw,hs,GStep.es]
 simp[crowd,Array.setIfInBounds,hlt]
 apply Array.ext'
 simp
theorem hire_duo {K K1:World→Prop} {TT:Trace→Prop} {cJ:Array CommCase} {shJ:CommShape} {home:Goroutine→Prop} {k B:Nat} {gs:Array Goroutine} {a a' child:Goroutine} {w:World} {sl:Option (Nat×Nat)} {t:Trace} {q:Nat→Nat} {es:Array Event}
  (L:Leans Z Still K1) (hS:∀l,Still l→l.isMemory=true) (hSS:∀l,Still l→¬Shun l) (h0:gs[0]?=some a) (hrun:a.status=.running) (hL:Leavers P t gs q) (hP:Past Shun B t) (hB:w.heap.size≤B)
  (hgo:∀d,stepG P true a (w.at d)=.spawn a' child (w.at d) es) (hes:∀e∈es,EvH Shun Still B e) (hKw:K1 w) (hTt:∀t',PX Shun Still (fun g=>g=0∨g=gs.size) (fun g=>g=0) B gs.size t'→TT t') (hoJ:∀cc∈cJ,OpenIn w cc) (hrun':a'.status=.running) (hwalk:SeatWalk P true K Still cJ shJ home k a'):
  ∃(N:Nat) (gs':Array Goroutine) (d:Nat) (sl':Option (Nat×Nat)) (t':Trace) (q':Nat→Nat),runNT P N (crowd gs w sl) t=(.next (crowd gs' (w.at d) sl'),t')∧gs'.size=gs.size+1∧gs'[gs.size]?=some child∧
   Duo P Shun Still (fun g=>g=0∨g=gs.size) (fun g=>g=0) B gs.size 0 (SeatBy P true K K1 TT Still cJ shJ home) (k+1) gs' (w.at d) t' q':=by
 have hpos:0<gs.size:=(Array.getElem?_eq_some_iff.1 h0).1
 obtain⟨N,gs1,d0,d,sl0,sl1,t1,q1,hr,hs1,h01,hst,hL1,hP1⟩:=picked_beside (P:=P) (Shun:=Shun) (sumTo gs.size q+1) gs a w sl t q B (by omega) h0 hrun hL hP
 have hrunT:=runT_spawn (P:=P) (sl:=sl1) (i:=0) h01 (show stepG P (0==0) a (w.at d)=_ from hgo d)
 have hPX:PX Shun Still (fun g=>g=0) (fun _=>False) B 0 t1:=PX.ofPast hP1 hS hSS
 have hc0:Deaf (t1++MemOp.ofEvents 0 a.frame.fn a.frame.place es) gs.size=0:=by
  rw[Deaf_other t1 (g':=0) (by omega) _ aa6]
  exact hL1.above gs.size (by omega)
 have hPX2:=((hPX.own (fn:=a.frame.fn) (pos:=a.frame.place) hes).born (c:=gs.size) rfl hc0 a.frame.fn a.frame.place child.frame.fn).loosen (Loose':=fun g=>g=0) (fun _ hf=>hf.elim)
 have hq2:∀g,Deaf (t1++MemOp.ofEvents 0 a.frame.fn a.frame.place es++#[{ g:=0,fn:=a.frame.fn,pos:=a.frame.place,act:=.go gs.size },{ g:=gs.size,fn:=child.frame.fn,pos:=a.frame.place,act:=.start }]) g=Deaf (t1++MemOp.ofEvents 0 a.frame.fn a.frame.place es) g:=fun g=>Deaf_quiet (by
  intro op hop d
  simp only[List.mem_toArray,List.mem_cons,List.not_mem_nil,or_false]at hop
  rcases hop with rfl|rfl<;>rfl)
 rw[hs1]at hrunT
 refine⟨N+1,(gs1.setIfInBounds 0 a').push child,d,sl1,t1++(MemOp.ofEvents 0 a.frame.fn a.frame.place es++#[{ g:=0,fn:=a.frame.fn,pos:=a.frame.place,act:=.go gs.size },{ g:=gs.size,fn:=child.frame.fn,pos:=a.frame.place,act:=.start }]),q1,runNT_succ_of hr (hst.trans hrunT),by simp[hs1],?_,?_⟩
 ·rw[Array.getElem?_push];simp[hs1]
 ·rw[←Array.append_assoc]
  refine⟨by omega,.inr rfl,fun g hg=>hg.elim .inr .inl,⟨a',?_,?_⟩,fun i g hi1 hi2 hg=>?_,fun i hi=>?_,hPX2,hB⟩
  ·rw[Array.getElem?_push];simp[hs1,hpos];omega
  ·refine⟨⟨L.keep w (w.at d) (fun _ _=>rfl) hKw,?_⟩,hoJ,.inr ⟨k,rfl,hrun',hwalk⟩⟩
   exact hTt _ hPX2
  ·have hlt:i<gs.size:=by
    have:=(Array.getElem?_eq_some_iff.1 hg).1
    simp[hs1]at this;omega
   rw[Array.getElem?_push,if_neg (by simp[hs1];omega),Array.getElem?_setIfInBounds_ne (Ne.symm hi2)]at hg
   rw[hq2,Deaf_other t1 (Ne.symm hi2) _ aa6]
   exact hL1.old i g (by omega) hg
  ·simp[hs1]at hi
   rw[hq2,Deaf_other t1 (g':=0) (by omega) _ aa6]
   exact hL1.above i (by omega)
end
section
variable {P:Program} {Z:Nat→Prop} {Shun Still:Loc→Prop} {Mem Loose:Nat→Prop} {h j:Nat} {By:Nat→Goroutine→World→Trace→Prop}
theorem picked_duo (O:ByOk P Z Shun Still (fun B t=>PX Shun Still Mem Loose B h t) j By):∀(X n:Nat) (gs:Array Goroutine) (a:Goroutine) (w:World) (sl:Option (Nat×Nat)) (t:Trace) (q:Nat→Nat) (B:Nat),
  n+sumTo gs.size q<X→gs[h]?=some a→a.status=.running→Duo P Shun Still Mem Loose B h j By n gs w t q→
  ∃(N:Nat) (gs':Array Goroutine) (w':World) (d:Nat) (sl0 sl':Option (Nat×Nat)) (t':Trace) (q':Nat→Nat) (n':Nat),
   runNT P N (crowd gs w sl) t=(.next (crowd gs' w' sl0),t')∧gs'.size=gs.size∧gs'[h]?=some a∧OffZ Z w w'∧Duo P Shun Still Mem Loose B h j By n' gs' w' t' q'∧stepT P (crowd gs' w' sl0)=runT P (crowd gs' (w'.at d) sl') h:=by
 intro X
 induction X with
 | zero=>intro n gs a w sl t q B hX;omega
 | succ X ih=>
  intro n gs a w sl t q B hX h0 hrun D
  obtain⟨b,hb,hB⟩:=D.idle
  have haw:∀g∈gs,awake g:=by
   intro g hg
   obtain⟨i,hi,rfl⟩:=Array.mem_iff_getElem.1 hg
   have hi':=Array.getElem?_eq_getElem hi
   by_cases e1:i=h
   ·subst e1
    rw[h0]at hi';rw[←Option.some.inj hi'];exact awake_of (.inl hrun)
   ·by_cases e2:i=j
    ·subst e2
     rw[hb]at hi';rw[←Option.some.inj hi'];exact awake_of ((O.status hB).elim (fun x=>.inl x.1) .inr)
    ·exact awake_of ((D.leav i _ e1 e2 hi').status.elim .inl fun x=>.inr (.inr x))
  obtain⟨i,g,d,sl',hi,hg,hst⟩:=crowd_pick (P:=P) (w:=w) (sl:=sl) haw ⟨h,a,h0,hrun⟩
  have hlt:i<gs.size:=(Array.getElem?_eq_some_iff.1 hi).1
  by_cases e1:i=h
  ·subst e1
   exact⟨0,gs,w,d,sl,sl',t,q,n,rfl,rfl,h0,OffZ.refl w,D,hst⟩
  ·by_cases e2:i=j
   ·subst e2
    obtain rfl:g=b:=by rw[hb]at hi;exact(Option.some.inj hi).symm
    have nob:∀k y,k≠i→gs[k]?=some y→y.status≠.blocked:=by
     intro k y hk hy
     by_cases e3:k=h
     ·subst e3;rw[h0]at hy;rw[←Option.some.inj hy,hrun];simp
     ·have:=(D.leav k y e3 hk hy).status
      rcases this with h1|h1<;>rw[h1]<;>simp
    rcases O.step hB hg D.tr D.size d with⟨n',g',w',es,hn,hgo,hoff,htr,hB'⟩|⟨n',g₂,cases,shape,es,hn,hco,hop,htr,hB'⟩|⟨n',g₂,cases,shape,es,k,c,z,cap,s,r,tm,hn,hco,hk,hcl,hop,htr,hB'⟩
    ·have hrunT:=runT_crowd_go (P:=P) (sl:=sl') (i:=i) hi hgo
     have hsz:((gs.map (woken P g g' w')).setIfInBounds i g').size=gs.size:=by simp
     obtain⟨N,gs',w'',d',sl0,sl1,t',q',n'',hr,hs',h0',ho',D',hst'⟩:=ih n' ((gs.map (woken P g g' w')).setIfInBounds i g') a w' sl' (t++MemOp.ofEvents i g.frame.fn g.frame.place es) q B (by rw[hsz];omega)
      (by rw[Array.getElem?_setIfInBounds_ne e1,Array.getElem?_map,h0];simp[woken_run hrun]) hrun
      ⟨D.ne,D.zero,D.mem,⟨g',by simp[hlt],hB'⟩,fun k x hk1 hk2 hx=>by
       rw[Array.getElem?_setIfInBounds_ne (Ne.symm hk2),Array.getElem?_map]at hx
       obtain⟨y,hy,rfl⟩:=Option.map_eq_some_iff.1 hx
       have hq:=D.leav k y hk1 hk2 hy
       rw[woken_quitsD hq,Deaf_other t (Ne.symm hk2) _ aa6]
       exact hq,fun k hk=>by
       rw[Deaf_other t (g':=i) (by simp at hk;omega) _ aa6]
       exact D.above k (by simpa using hk),htr,by rw[hoff.size];exact D.size⟩
     exact⟨N+1,gs',w'',d',sl0,sl1,t',q',n'',by simp only[runNT,hst,hrunT];exact hr,hs'.trans hsz,h0',hoff.trans ho',D',hst'⟩
    ·have hrunT:=crowd_waits (P:=P) (sl:=sl') (i:=i) hi hco (fun cc hcc=>by
      obtain⟨c,z,k,rfl,hc⟩:=hop cc hcc
      exact ways_recv_none (show(w.at d).heap[c]?=_ from hc) (ag8 nob))
     have hsz:(gs.setIfInBounds i (parked g₂ cases shape)).size=gs.size:=by simp
     obtain⟨N,gs',w'',d',sl0,sl1,t',q',n'',hr,hs',h0',ho',D',hst'⟩:=ih n' (gs.setIfInBounds i (parked g₂ cases shape)) a (w.at d) sl' (t++MemOp.ofEvents i g.frame.fn g.frame.place es) q B (by rw[hsz];omega)
      (by rw[Array.getElem?_setIfInBounds_ne e1];exact h0) hrun
      ⟨D.ne,D.zero,D.mem,⟨_,by simp[hlt],hB'⟩,fun k x hk1 hk2 hx=>by
       rw[Array.getElem?_setIfInBounds_ne (Ne.symm hk2)]at hx
       rw[Deaf_other t (Ne.symm hk2) _ aa6]
       exact D.leav k x hk1 hk2 hx,fun k hk=>by
       rw[Deaf_other t (g':=i) (by simp at hk;omega) _ aa6]
       exact D.above k (by simpa using hk),htr,D.size⟩
     exact⟨N+1,gs',w'',d',sl0,sl1,t',q',n'',by simp only[runNT,hst,hrunT];exact hr,hs'.trans hsz,h0',(OffZ.at w d).trans ho',D',hst'⟩
    ·have hrunT:=crowd_sel_recv_closed (P:=P) (sl:=sl') (i:=i) hi hco hk (fun m cc hm hcc=>by
      obtain⟨c',z',k',rfl,hc⟩:=hop m cc hm hcc
      exact ways_recv_none (show(w.at d).heap[c']?=_ from hc) (ag8 nob)) (show(w.at d).heap[c]?=_ from hcl) (ag8 nob)
     have hsz:(gs.setIfInBounds i (Conc.served g₂ (commResult cases shape k z false))).size=gs.size:=by simp
     have hg1:∀op∈MemOp.ofEvents i g.frame.fn g.frame.place es++#[{ g:=i,fn:=g₂.frame.fn,pos:=g₂.frame.place,act:=.recvClosed c }],op.g=i:=by
      intro op hop
      rcases Array.mem_append.1 hop with hop|hop
      ·exact aa6 op hop
      ·simp at hop;subst hop;rfl
     obtain⟨N,gs',w'',d',sl0,sl1,t',q',n'',hr,hs',h0',ho',D',hst'⟩:=ih n' (gs.setIfInBounds i (Conc.served g₂ (commResult cases shape k z false))) a (w.at d) sl' (t++(MemOp.ofEvents i g.frame.fn g.frame.place es++#[{ g:=i,fn:=g₂.frame.fn,pos:=g₂.frame.place,act:=.recvClosed c }])) q B (by rw[hsz];omega)
      (by rw[Array.getElem?_setIfInBounds_ne e1];exact h0) hrun
      ⟨D.ne,D.zero,D.mem,⟨_,by simp[hlt],hB'⟩,fun k x hk1 hk2 hx=>by
       rw[Array.getElem?_setIfInBounds_ne (Ne.symm hk2)]at hx
       rw[Deaf_other t (Ne.symm hk2) _ hg1]
       exact D.leav k x hk1 hk2 hx,fun k hk=>by
       rw[Deaf_other t (g':=i) (by simp at hk;omega) _ hg1]
       exact D.above k (by simpa using hk),htr,D.size⟩
     exact⟨N+1,gs',w'',d',sl0,sl1,t',q',n'',by simp only[runNT,hst,hrunT];exact hr,hs'.trans hsz,h0',(OffZ.at w d).trans ho',D',hst'⟩
   ·have hpos:i≠0:=by rcases D.zero with e|e<;>omega
    have hq:=D.leav i g e1 e2 hi
    have hi0:(i==0)=false:=by simp;omega
    cases hqi:q i with
    | zero=>rw[hqi]at hq;rw[hq.1]at hg;cases hg
    | succ k=>
     rw[hqi]at hq
     rcases hq with⟨hf,_⟩|⟨_,g',es,hm,hstp,hq'⟩
     ·rw[hf]at hg;cases hg
     have hrunT:=runT_crowd_go (P:=P) (sl:=sl') (i:=i) hi (by rw[hi0];exact hstp (w.at d))
     have hsz:((gs.map (woken P g g' (w.at d))).setIfInBounds i g').size=gs.size:=by simp
     have hsum:sumTo gs.size (upd q i k)+(k+1)=sumTo gs.size q+k:=by
      have:=sumTo_upd q k id hlt
      simpa [hqi]using this
     have hmute:∀op∈MemOp.ofEvents i g.frame.fn g.frame.place es,op.act.touch?=none:=fun op hop=>by obtain⟨e,he,rfl⟩:=Go.Conc.mem_ofEvents hop;exact touch_mute (hm e he)
     have hnm:¬Mem i:=fun hi'=>(D.mem i hi').elim e1 e2
     obtain⟨N,gs',w'',d',sl0,sl1,t',q',n'',hr,hs',h0',ho',D',hst'⟩:=ih n ((gs.map (woken P g g' (w.at d))).setIfInBounds i g') a (w.at d) sl' (t++MemOp.ofEvents i g.frame.fn g.frame.place es) (upd q i k) B (by rw[hsz];omega)
      (by rw[Array.getElem?_setIfInBounds_ne e1,Array.getElem?_map,h0];simp[woken_run hrun]) hrun
      ⟨D.ne,D.zero,D.mem,⟨b,by
       rw[Array.getElem?_setIfInBounds_ne e2,Array.getElem?_map,hb]
       simp only[Option.map_some,Option.some.injEq]
       exact woken_of_again (O.again hB (w.at d) fun _ _=>rfl),O.calm (w.at d) _ hB (fun _ _=>rfl) (meek_mute e2 hpos hm)⟩,fun x y hx1 hx2 hx=>by
       by_cases e3:i=x
       ·subst e3
        rw[Array.getElem?_setIfInBounds_self_of_lt (by simpa using hlt)]at hx
        obtain rfl:=Option.some.inj hx
        rw[upd_same,Deaf_own]
        exact hq'
       ·rw[Array.getElem?_setIfInBounds_ne e3,Array.getElem?_map]at hx
        obtain⟨z,hz,rfl⟩:=Option.map_eq_some_iff.1 hx
        have hqj:=D.leav x z hx1 hx2 hz
        rw[woken_quitsD hqj,upd_ne q k (Ne.symm e3),Deaf_other t e3 _ aa6]
        exact hqj,fun x hx=>by
       rw[Deaf_other t (g':=i) (by simp at hx;omega) _ aa6]
       exact D.above x (by simpa using hx),D.tr.appMute aa6 hmute (fun x=>(hnm x).elim) (fun op hop=>by obtain⟨e,he,rfl⟩:=Go.Conc.mem_ofEvents hop;exact low_mute (hm e he) B),D.size⟩
     exact⟨N+1,gs',w'',d',sl0,sl1,t',q',n'',by simp only[runNT,hst,hrunT];exact hr,hs'.trans hsz,h0',(OffZ.at w d).trans ho',D',hst'⟩
theorem go_duo (O:ByOk P Z Shun Still (fun B t=>PX Shun Still Mem Loose B h t) j By) {Mem' Loose':Nat→Prop} {n B:Nat} {gs:Array Goroutine} {a:Goroutine} {w:World} {sl:Option (Nat×Nat)} {t:Trace} {q:Nat→Nat} {Q:Array Goroutine→World→Trace→Prop}
  (h0:gs[h]?=some a) (hrun:a.status=.running) (D:Duo P Shun Still Mem Loose B h j By n gs w t q) (hM':∀g,Mem' g→g=h∨g=j)
  (hstep:∀w1 n1 b1 t1,OffZ Z w w1→By n1 b1 w1 t1→PX Shun Still Mem Loose B h t1→∀d,∃a' w' es B',stepG P (h==0) a (w1.at d)=.go a' w' es∧B≤B'∧w'.heap.size≤B'∧
   PX Shun Still Mem' Loose' B' h (t1++MemOp.ofEvents h a.frame.fn a.frame.place es)∧∃(By':Nat→Goroutine→World→Trace→Prop) (n2:Nat),By' n2 (woken P a a' w' b1) w' (t1++MemOp.ofEvents h a.frame.fn a.frame.place es)∧
   ∀gs' q' n',gs'.size=gs.size→gs'[h]?=some a'→Duo P Shun Still Mem' Loose' B' h j By' n' gs' w' (t1++MemOp.ofEvents h a.frame.fn a.frame.place es) q'→∀sl',ComesTo P gs' w' sl' (t1++MemOp.ofEvents h a.frame.fn a.frame.place es) Q):ComesTo P gs w sl t Q:=by
 obtain⟨N,gs1,w1,d,sl0,sl1,t1,q1,n1,hr,hs1,h1,ho,D1,hst⟩:=picked_duo O (n+sumTo gs.size q+1) n gs a w sl t q B (by omega) h0 hrun D
 obtain⟨b,hb,hB⟩:=D1.idle
 obtain⟨a',w',es,B',hgo,hBB,hsz,hpx,By',n2,hby,hk⟩:=hstep w1 n1 b t1 ho hB D1.tr d
 have hlt:h<gs1.size:=(Array.getElem?_eq_some_iff.1 h1).1
 have hrunT:=runT_crowd_go (P:=P) (sl:=sl1) (i:=h) h1 hgo
 have hsz1:((gs1.map (woken P a a' w')).setIfInBounds h a').size=gs.size:=by simp[hs1]
 obtain⟨N2,gs2,w2,sl2,t2,hr2,hs2,hQ⟩:=hk ((gs1.map (woken P a a' w')).setIfInBounds h a') q1 n2 hsz1 (by simp[hlt]) ⟨D1.ne,D1.zero,hM',⟨_,by rw[Array.getElem?_setIfInBounds_ne D1.ne,Array.getElem?_map,hb];rfl,hby⟩,fun k x hk1 hk2 hx=>by
   rw[Array.getElem?_setIfInBounds_ne (Ne.symm hk1),Array.getElem?_map]at hx
   obtain⟨y,hy,rfl⟩:=Option.map_eq_some_iff.1 hx
   have hq:=D1.leav k y hk1 hk2 hy
   rw[woken_quitsD hq,Deaf_other t1 (Ne.symm hk1) _ aa6]
   exact hq,fun k hk=>by
   rw[hsz1,←hs1]at hk
   rw[Deaf_other t1 (g':=h) (by omega) _ aa6]
   exact D1.above k hk,hpx,hsz⟩ sl1
 refine⟨N+1+N2,gs2,w2,sl2,t2,?_,hs2.trans hsz1,hQ⟩
 rw[runNT_add,runNT_succ_of hr (hst.trans hrunT)]
 exact hr2
theorem Duo.knows {By':Nat→Goroutine→World→Trace→Prop} {B n:Nat} {gs:Array Goroutine} {w:World} {t:Trace} {q:Nat→Nat} (D:Duo P Shun Still Mem Loose B h j By n gs w t q) (hk:∀b,gs[j]?=some b→By n b w t→∃n',By' n' b w t):∃n',Duo P Shun Still Mem Loose B h j By' n' gs w t q:=by
 obtain⟨b,hb,hB⟩:=D.idle
 obtain⟨n',hB'⟩:=hk b hb hB
 exact⟨n',D.ne,D.zero,D.mem,⟨b,hb,hB'⟩,D.leav,D.above,D.tr,D.size⟩
end
end Go.Fxa
