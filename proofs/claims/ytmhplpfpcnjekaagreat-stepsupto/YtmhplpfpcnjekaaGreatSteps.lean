/- Steps holds wherever what comes in is of bulk at most 1048576: on every schedule it returns true, without a race, and what came in reads as it did. No other condition. -/
import Derived.Test.YtmhplpfpcnjekaaGreatK37
import Derived.Test.YtmhplpfpcnjekaaGreatRows
import Derived.JoinedCond
import Derived.Conc.Holds
namespace Go.Proofs.YtmhplpfpcnjekaaGreat.steps
open Go.ChangeShapes Go.WideShapes Go.ChangeAt Go.RowKit
open Go.Fxa
set_option maxRecDepth 1000000
theorem own:ownKnob Tryz.prog.godebug=none:=by kernel_rfl
theorem bulk_one {H:Type} (d:DataW H):1≤Rows.uptoBulk d:=by
 cases d with
 | lit l=>cases l<;>simp[Rows.uptoBulk]
 | _=>simp[Rows.uptoBulk]
theorem bulk_len {H:Type}:∀l:List (DataW H),l.length≤Rows.uptoBulkAll l
 | []=>by simp
 | x::r=>by
  have a:=bulk_one x
  have b:=bulk_len r
  simp only[Rows.uptoBulkAll,List.length_cons]
  omega
theorem bulk_app {H:Type}:∀l r:List (DataW H),Rows.uptoBulkAll (l++r)=Rows.uptoBulkAll l+Rows.uptoBulkAll r
 | [],r=>by simp[Rows.uptoBulkAll]
 | x::l,r=>by
  have b:=bulk_app l r
  simp only[List.cons_append,Rows.uptoBulkAll,b]
  omega
theorem bulk_slice {H:Type} {x:DataW H} {n:Nat} (h:n=0∨∃elems rest,x=.slice elems rest∧elems.length=n):n≤Rows.uptoBulk x:=by
 rcases h with h|⟨elems,rest,rfl,h⟩
 ·omega
 ·have a:=bulk_len elems
  simp only[Rows.uptoBulk]
  omega
section
variable {H:Type} {enc:TypeId×Value→H}
theorem all_stay {P:Program} {W W':World} {sp:Nat→Bool} {hd:Bool}:∀{ts:List TypeId} {vs:List Value} {ds:List (DataW H)} {ps:List MemPlace},DataW.TrodAll enc P W 0 sp hd ts vs ds ps→(∀p∈ps,W.sameAt W' p)→DataW.TrodAll enc P W' 0 sp hd ts vs ds ps
 | [],[],[],_,h,_=>h
 | _::_,_::_,_::_,_,⟨p,q,⟨n,h1⟩,h2,e⟩,hs=>⟨p,q,⟨n,DataW.trod_carry n _ _ _ h1 fun x hx=>hs x (by rw[e];exact List.mem_append_left _ hx)⟩,all_stay h2 fun x hx=>hs x (by rw[e];exact List.mem_append_right _ hx),e⟩
theorem kept_same {W W':World} {may:MemPlace→Prop} (ho:W'.os=W.os) (hu:W'.output=W.output) (hh:∀r,r<W.heap.size→W'.heap[r]?=W.heap[r]?):W.keptBut W' may:=by
 refine⟨ho,hu,fun i hi=>?_⟩
 rw[hh i hi,Array.getElem?_eq_getElem hi]
 cases W.heap[i]<;>simp
theorem kids:Kids Tryz.prog (·<Tryz.prog.types.size):=kids_rows (by kernel_rfl) (by kernel_rfl)
theorem full:∀t e,t<Tryz.prog.types.size→Tryz.prog.underlying t=some (.slice e)→0<Tryz.prog.cellsOf e:=slices_full_of Tryz.prog (by kernel_rfl)
theorem small25:25<Tryz.prog.types.size∧26<Tryz.prog.types.size:=⟨of_decide_eq_true (by kernel_rfl),of_decide_eq_true (by kernel_rfl)⟩
theorem left {W W':World} {args:Array Value} {v:Value} {ds gs:List (DataW H)} {before:List MemPlace} (hW:DataW.Whole enc Tryz.prog Tryz.f3.params.toList Rows.stepsSpec.vars false W args.toList ds gs before) (hd:∃d1 d2,ds=[d1,d2]) (h:Stood W v W'):Rows.stepsSpec.post enc Tryz.prog Tryz.f3 false true false false W args v W':=by
 obtain⟨rfl,hh,_,ho,hu⟩:=h
 have hW':=hW
 obtain⟨p,q,hA,hV,rfl,_,_⟩:=hW
 obtain⟨rfl,rfl⟩:=trodVars_none hV
 have hlt:∀x∈p,x.block<W.heap.size:=fun x hx=>hW'.lt x (by simpa using hx)
 have same:∀x∈p,W.sameAt W' x:=fun x hx=>by
  have lt:=hlt x hx
  cases x with
  | cell b off=>exact World.cell?_of_block (hh b lt)
  | map b=>exact hh b lt
 have hA2:=DataW.TrodAll.respare (spare':=fun b=>decide (b<W.heap.size)) kids full (by
  rw[Tryz.params3]
  intro t ht
  simp only[List.mem_cons,List.not_mem_nil,or_false]at ht
  rcases ht with rfl|rfl
  ·exact small25.1
  ·exact small25.2) hA (fun x hx=>decide_eq_true (hlt x hx))
 obtain⟨d1,d2,rfl⟩:=hd
 exact⟨_,_,_,[],p,[],hW',trodAll_cons_mk (shut_bool Tryz.underlying4 _) trodAll_mk0,all_stay hA2 same,rfl,kept_same ho hu hh,fun h=>by cases h⟩
set_option maxRecDepth 100000 in
theorem runs {W:World} {base:Nat} {args:Array Value} {ds gs:List (DataW H)} {before:List MemPlace} (hval:∀(j:Nat) t v,Tryz.f3.params[j]?=some t→args[j]?=some v→Value.okWide Tryz.prog W .any base t v) (hW:DataW.Whole enc Tryz.prog Tryz.f3.params.toList Rows.stepsSpec.vars false W args.toList ds gs before) (hk:Rows.uptoSmall H (ds++gs)=true):
  (∃d1 d2,ds=[d1,d2])∧∃N last x w' t',runNT Tryz.prog (N+1) (Conc.solo (Conc.G (Frame.enter Tryz.prog 3 args .normal) []) W) #[]=(.ended x w',t')∧runN Tryz.prog N (Conc.solo (Conc.G (Frame.enter Tryz.prog 3 args .normal) []) W)=.next last∧step Tryz.prog last=.ended x w'∧Conc.Good Tryz.prog (Stood W) last x w' t':=by
 obtain⟨p,q,hA,hV,rfl,_,_⟩:=hW
 obtain⟨rfl,rfl⟩:=trodVars_none hV
 rw[Tryz.params3]at hA hval
 obtain⟨v0,v1,d0,d1,p0,p1,rfl,rfl,rfl,h0,h1⟩:=trodAll_two hA
 refine⟨⟨d0,d1,rfl⟩,?_⟩
 have hb:Rows.uptoBulkAll ([d0,d1]++[])≤1048576:=of_decide_eq_true hk
 simp only[List.append_nil,Rows.uptoBulkAll,Nat.add_zero]at hb
 obtain⟨cs,rfl,hcs⟩:=okWide_struct Tryz.underlying25 (hval 0 25 v0 rfl rfl)
 rw[cells25]at hcs
 obtain⟨t,k,d,hv1⟩:=okWide_slice Tryz.underlying26 (hval 1 26 v1 rfl rfl)
 subst hv1
 obtain⟨m0,h0⟩:=h0
 obtain⟨m1,h1⟩:=h1
 obtain⟨l⟩:=cs
 match l,hcs with
 | [c0,c1,c2,c3],_=>
  have h0':DataW.trod enc Tryz.prog W 0 (fun _=>true) true m0 25 [c0,c1,c2,c3]=some (d0,p0):=h0
  have h1':DataW.trod enc Tryz.prog W 0 (fun _=>true) true m1 26 [.slice t k d]=some (d1,p1):=h1
  obtain⟨co,sw,s,n,c,s',n',c',y2,m,rfl,rfl,rfl,rfl,t2,l1,l2,e⟩:=openCf h0'
  obtain⟨t',k',d',b,o,ev,ht,hO,hlen⟩:=open_script h1'
  cases ev
  have hn:n≤Rows.uptoBulk y2.1:=bulk_slice (len_prog t2)
  have hn0:n≤1048576:=by
   have e':d0=.agg (l1++y2.1::l2):=e
   have a:=bulk_app l1 (y2.1::l2)
   rw[e']at hb
   simp only[Rows.uptoBulk,a,Rows.uptoBulkAll]at hb
   omega
  have hk0:k≤Rows.uptoBulk d1:=bulk_slice hlen
  obtain⟨fn,hs⟩:=open_prog (fun _=>rfl) t2 (by omega)
  exact steps_runs W hs (by omega) ht hO (by omega)
end
set_option maxRecDepth 100000 in
theorem lifted (os:Os) (started:os.Started) (H:Type) (enc:TypeId×Value→H) (F:Stop.Interp):
  ReturnsInLeavingWide Rows.stepsUptoRow.assume Tryz.checked os 3 .any (Rows.stepsUptoRow.pre enc Tryz.prog Tryz.f3 (Rows.OpenSpec.upto Rows.stepsSpec)) (fun w args v w'=>(Rows.OpenSpec.upto Rows.stepsSpec).post enc Tryz.prog Tryz.f3 F Rows.stepsUptoRow.outside Rows.stepsUptoRow.apart Rows.stepsUptoRow.fresh Rows.stepsUptoRow.handsOn Rows.stepsUptoRow.again w args v w'∧Rows.stepsUptoRow.nothingLetGo w w'):=by
 rw[OpenClaim.pre_of_none' rfl]
 refine returnsInLeavingWide_of_good (C:=Tryz.checked) own started
  (OpenSpec.witness (enc:=enc) (C:=Tryz.checked) (s:=Rows.OpenSpec.upto Rows.stepsSpec) (k:=Rows.uptoSmall) rfl false ⟨#[],#[.agg #[.int .i64 0,.int .i64 0,.slice none 0 0,.slice none 0 0],.slice none 0 0],[]⟩ 8 (by kernel_rfl) (by kernel_rfl) (by kernel_rfl)
   (x:=([.agg [.lit (.int .i64 0),.lit (.int .i64 0),.nil,.nil],.nil],[],[])) (by kernel_rfl) rfl (by kernel_rfl)) ?_
 intro w tape i _ _ _ hok hpre _
 obtain⟨ds,gs,before,hw,_,hk⟩:=(OpenSpec.pre_some (k:=Rows.uptoSmall) rfl _ _ _ _).1 hpre.1
 obtain⟨_,_,_,fn',hfn',_,_,_,_,hval⟩:=hok
 obtain rfl:fn'=Tryz.f3:=Option.some.inj (hfn'.symm.trans Tryz.func3)
 have hw1:=DataW.Whole.of_heap (w':=w.forCall tape i) (by rfl) hw
 have hw2:=DataW.Whole.of_heap (w':=(w.forCall tape i).blind) (by rfl) hw
 obtain⟨hd,N,last,x,w',t',r1,r2,r3,v,e,hst,r5⟩:=runs hval hw1 hk
 exact⟨N,last,x,w',t',r1,r2,r3,v,e,⟨left hw2 hd hst,fun h=>by cases h⟩,r5⟩
theorem facts:joinedFacts Tryz.prog 3 Tryz.f3 Rows.stepsSpec Rows.stepsUptoRow=true:=by kernel_rfl
theorem named3:Tryz.prog.funcNamed "ferry/ferrylaw.Steps"=some 3:=by kernel_rfl
theorem inst3:Tryz.f3.isInstance Tryz.prog Rows.stepsUptoRow.origin Rows.stepsUptoRow.targs:=of_decide_eq_true (by kernel_rfl)
theorem wrap3:Tryz.f3.isWrapper Tryz.prog Rows.stepsUptoRow.wrapper Rows.stepsUptoRow.mainSum:=by
 unfold Func.isWrapper
 first
  | (rw[if_pos (by decide +kernel)];kernel_rfl)
  | (rw[if_neg (by decide +kernel)];exact⟨rfl,rfl⟩)
theorem steps_upto:Rows.StepsUptoSaid:=by
 have F:=facts
 simp only[joinedFacts,Bool.and_eq_true,beq_iff_eq,Array.all_eq_true_iff_forall_mem,List.all_eq_true,decide_eq_true_eq]at F
 obtain⟨F,veiledFits⟩:=F
 obtain⟨F,veiled⟩:=F
 obtain⟨F,pinned⟩:=F
 obtain⟨F,kinds⟩:=F
 obtain⟨F,make⟩:=F
 obtain⟨F,lifts⟩:=F
 obtain⟨F,enter⟩:=F
 obtain⟨F,heard⟩:=F
 obtain⟨F,_⟩:=F
 obtain⟨F,keys⟩:=F
 obtain⟨F,loopsOut⟩:=F
 obtain⟨F,ifacesOut⟩:=F
 obtain⟨F,results⟩:=F
 obtain⟨F,_⟩:=F
 obtain⟨F,wide⟩:=F
 obtain⟨F,loops⟩:=F
 obtain⟨F,mapsOut⟩:=F
 obtain⟨F,ifaces⟩:=F
 obtain⟨F,maps⟩:=F
 obtain⟨F,vars⟩:=F
 obtain⟨F,recurses⟩:=F
 obtain⟨F,unfollowed⟩:=F
 obtain⟨F,inPlace⟩:=F
 obtain⟨F,noKnobs⟩:=F
 obtain⟨F,knobs⟩:=F
 obtain⟨F,noStops⟩:=F
 obtain⟨F,stops⟩:=F
 obtain⟨F,tie⟩:=F
 obtain⟨F,params⟩:=F
 obtain⟨F,rowed⟩:=F
 obtain⟨wf,laid⟩:=F
 have quiet:∀os:Os,Stop.quiet Tryz.prog os:=fun os k hk=>by rw[noKnobs]at hk;cases hk
 have worded:Tryz.prog.envWorded=true:=by unfold Program.envWorded;rw[noKnobs];rfl
 exact⟨wf,rfl,rfl,rfl,laid,rowed,enter,⟨rfl,rfl,rfl,rfl,rfl,rfl,rfl⟩,3,Tryz.f3,named3,Tryz.func3,⟨params,results⟩,(fun h=>by cases h),tie,inst3,wrap3,stops.trans noStops.symm,⟨knobs.trans noKnobs.symm,worded,heard⟩,inPlace,unfollowed,recurses,vars,maps,⟨ifaces,veiled,veiledFits⟩,⟨mapsOut,ifacesOut⟩,⟨loops,loopsOut,kinds,pinned⟩,⟨keys,lifts,make,wide⟩,rfl,(fun n hn=>by cases hn),⟨_,WideRow.started_initial,quiet _⟩,[],rfl,fun os st _ H enc _ F=>lifted os st H enc F enter⟩
end Go.Proofs.YtmhplpfpcnjekaaGreat.steps
