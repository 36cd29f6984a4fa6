/- Apart holds, whatever comes in: on every schedule it returns true, without a race, and what came in reads as it did. No condition. -/
import Derived.Test.YtmhplpfpcnjekaaGreatA43
import Derived.Test.YtmhplpfpcnjekaaGreatRows
import Derived.Conc.LeavingOf
open Go.Proofs.Tryz
namespace Go.Proofs.YtmhplpfpcnjekaaGreat.apart
open Go.ChangeShapes Go.WideShapes Go.ChangeAt Go.RowKit Go.Fxa
set_option maxRecDepth 1000000
set_option maxHeartbeats 0
theorem own:ownKnob prog.godebug=none:=by kernel_rfl
section
variable {H:Type} {enc:TypeId×Value->H}
theorem Yj {P:Program} {W W':World} {sp:Nat->Bool} {hd:Bool}:∀{ts:List TypeId} {vs:U_} {ds:List (DataW H)} {ps:List MemPlace},DataW.TrodAll enc P W 0 sp hd ts vs ds ps->(∀p∈ps,W.sameAt W' p)->DataW.TrodAll enc P W' 0 sp hd ts vs ds ps
 | [],[],[],_,h,_=>h
 | _::_,_::_,_::_,_,⟨p,q,⟨n,h1⟩,h2,e⟩,hs=>⟨p,q,⟨n,DataW.trod_carry n _ _ _ h1 fun x hx=>hs x (by rw[e];exact List.mem_append_left _ hx)⟩,Yj h2 fun x hx=>hs x (by rw[e];exact List.mem_append_right _ hx),e⟩
theorem kD {W W':World} {may:MemPlace->Prop} (ho:W'.os=W.os) (hu:W'.output=W.output) (hh:∀r,r<W.heap.size->W'.heap[r]?=W.heap[r]?):W.keptBut W' may:=by
 refine⟨ho,hu,fun i hi=>?_⟩;rw[hh i hi,Array.getElem?_eq_getElem hi];cases W.heap[i]<;>simp
theorem kids:Kids prog (·<prog.types.size):=kids_rows (by kernel_rfl) (by kernel_rfl)
theorem full:∀t e,t<prog.types.size->prog.underlying t=some (.slice e)->0<prog.cellsOf e:=slices_full_of prog (by kernel_rfl)
theorem gI:25<prog.types.size/\31<prog.types.size:=⟨of_decide_eq_true (by kernel_rfl),of_decide_eq_true (by kernel_rfl)⟩
theorem left {W W':World} {args:X_} {v:Value} {ds gs:List (DataW H)} {before:List MemPlace} (hW:DataW.Whole enc prog Tryz.f5.params.toList Rows.apartSpec.vars false W args.toList ds gs before) (hd:∃d1 d2,ds=[d1,d2]) (h:Stood W v W'):Rows.apartSpec.post enc prog Tryz.f5 false true false false W args v W':=by
 obtain⟨rfl,hh,_,ho,hu⟩:=h;have hW':=hW;obtain⟨p,q,hA,hV,rfl,_,_⟩:=hW;obtain⟨rfl,rfl⟩:=trodVars_none hV;have BC:∀x∈p,x.block<W.heap.size:=fun x hx=>hW'.lt x (by simpa using hx)
 have same:∀x∈p,W.sameAt W' x:=fun x hx=>by
  have lt:=BC x hx
  cases x with
  | cell b off=>exact World.cell?_of_block (hh b lt)
  | map b=>exact hh b lt
 have hA2:=DataW.TrodAll.respare (spare':=fun b=>decide (b<W.heap.size)) kids full (by
  rw[params5]
  intro t ht
  simp only[List.mem_cons,List.not_mem_nil,or_false]at ht
  rcases ht with rfl|rfl
  ·exact gI.1
  ·exact gI.2) hA (fun x hx=>decide_eq_true (BC x hx))
 obtain⟨d1,d2,rfl⟩:=hd;exact⟨_,_,_,[],p,[],hW',trodAll_cons_mk (shut_bool underlying4 _) trodAll_mk0,Yj hA2 same,rfl,kD ho hu hh,fun h=>by cases h⟩
theorem runs {W:World} {base:Nat} {args:X_} {ds gs:List (DataW H)} {before:List MemPlace} (hval:∀(j:Nat) t v,Tryz.f5.params[j]?=some t->args[j]?=some v->Value.okWide prog W .any base t v) (hW:DataW.Whole enc prog Tryz.f5.params.toList Rows.apartSpec.vars false W args.toList ds gs before):
  (∃d1 d2,ds=[d1,d2])/\∃N last x w' t',runNT prog (N+1) (Conc.solo (Conc.G (Frame.enter prog 5 args .normal) []) W) #[]=(.ended x w',t')/\runN prog N (Conc.solo (Conc.G (Frame.enter prog 5 args .normal) []) W)=.next last/\step prog last=.ended x w'/\Conc.Good prog (Stood W) last x w' t':=by
 obtain⟨p,q,hA,hV,rfl,_,_⟩:=hW;obtain⟨rfl,rfl⟩:=trodVars_none hV;rw[params5]at hA hval;obtain⟨v0,v1,d0,d1,p0,p1,rfl,rfl,rfl,h0,h1⟩:=trodAll_two hA;refine⟨⟨d0,d1,rfl⟩,?_⟩;obtain⟨cs,rfl,hcs⟩:=okWide_struct underlying25 (hval 0 25 v0 rfl rfl);rw[vT]at hcs;obtain⟨t,k,d,hv1⟩:=okWide_slice underlying31 (hval 1 31 v1 rfl rfl);subst hv1;obtain⟨m0,h0⟩:=h0;obtain⟨m1,h1⟩:=h1;obtain⟨l⟩:=cs
 match l,hcs with
 | [c0,c1,c2,c3],_=>
  have h0':DataW.trod enc prog W 0 (fun _=>true) true m0 25 [c0,c1,c2,c3]=some (d0,p0):=h0
  have h1':DataW.trod enc prog W 0 (fun _=>true) true m1 31 [.slice t k d]=some (d1,p1):=h1
  obtain⟨co,sw,np,nf,fn,ff,rfl,rfl,hP,hF⟩:=YJ (fun _=>rfl) h0'
  obtain⟨t',k',d',b,o,ev,hk,ht,hO⟩:=cz h1'
  cases ev
  exact fq W hP hF hk ht hO
end
theorem lifted (os:Os) (started:os.Started) (H:Type) (enc:TypeId×Value->H):
  ReturnsInLeavingWide {} Tryz.checked os 5 .any (Rows.apartSpec.pre6 enc prog Tryz.f5 Rows.apartRow.domain false) (Rows.apartSpec.post enc prog Tryz.f5 false true false false):=by
 refine returnsInLeavingWide_of_change_sized (C:=Tryz.checked) own started func5
  (ChangeSpec.witness6 (enc:=enc) (C:=Tryz.checked) false ⟨#[],#[.agg #[.int .i64 0,.int .i64 0,.slice none 0 0,.slice none 0 0],.slice none 0 0],[]⟩ 8 (by kernel_rfl) (by kernel_rfl) (by kernel_rfl) (by kernel_rfl)) ?_;intro W base args ds gs before hval hW _ _ _;obtain⟨hd,N,last,x,w',t',r1,r2,r3,v,e,BH,r5⟩:=runs hval hW;exact⟨N,last,x,w',t',r1,r2,r3,v,e,left hW hd BH,r5⟩
theorem facts:joinedFacts prog 5 Tryz.f5 Rows.apartSpec Rows.apartRow=true:=by kernel_rfl
theorem ac1:prog.funcNamed "ferry/ferrykeep.Apart"=some 5:=by kernel_rfl
theorem an7:Tryz.f5.isInstance prog Rows.apartRow.origin Rows.apartRow.targs:=of_decide_eq_true (by kernel_rfl)
theorem al9:Tryz.f5.isWrapper prog Rows.apartRow.wrapper Rows.apartRow.mainSum:=by
 unfold Func.isWrapper
 first
  | (rw[if_pos (by decide +kernel)];kernel_rfl)
  | (rw[if_neg (by decide +kernel)];exact⟨rfl,rfl⟩)
theorem apart_holds:Rows.ApartSaid:=
 OpenClaim.holds_of_wide_leaving 5 Tryz.f5 rfl rfl rfl rfl rfl rfl rfl ⟨rfl,rfl,rfl,rfl,rfl⟩ rfl rfl rfl rfl rfl ac1 func5 facts an7 al9 (fun os started H enc _=>lifted os started H enc)
end Go.Proofs.YtmhplpfpcnjekaaGreat.apart
