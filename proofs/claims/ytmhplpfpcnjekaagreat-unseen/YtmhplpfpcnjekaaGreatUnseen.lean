/- Unseen holds, whatever comes in: on every schedule it returns true, without a race, and what came in reads as it did. No condition. -/
import Derived.Test.YtmhplpfpcnjekaaGreatA41
import Derived.Test.YtmhplpfpcnjekaaGreatRows
import Derived.Conc.LeavingOf
open Go.Proofs.Tryz
namespace Go.Proofs.YtmhplpfpcnjekaaGreat.unseen
open Go.ChangeShapes Go.WideShapes Go.ChangeAt Go.RowKit Go.Fxa
set_option maxRecDepth 1000000
set_option maxHeartbeats 0
variable {W W':o_} {args:X_} {before:List MemPlace}
theorem own:ownKnob prog.godebug=none:=sJ
section
variable {H:Type} {enc:j_×n_->H}
theorem mg {P:l_} {W W':o_} {sp:Nat->Bool} {f:Bool}:∀{g:List j_} {i:U_} {ds:List (DataW H)} {ps:List MemPlace},DataW.TrodAll enc P W 0 sp f g i ds ps->(∀p∈ps,W.sameAt W' p)->DataW.TrodAll enc P W' 0 sp f g i ds ps
 |[],[],[],_,h,_=>h
 |_::_,_::_,_::_,_,⟨p,q,⟨n,c⟩,d,e⟩,b=>⟨p,q,⟨n,DataW.trod_carry n _ _ _ c λx a=>b x (by rw[e];exact List.mem_append_left _ a)⟩,mg d λx a=>b x (by rw[e];exact List.mem_append_right _ a),e⟩
theorem ϋ {b:MemPlace->Prop} (d:W'.os=W.os) (e:W'.output=W.output) (c:∀r,r<W.heap.size->W'.heap[r]?=W.heap[r]?):W.keptBut W' b:=by
 refine⟨d,e,λi a=>?_⟩;rw[c i a,v_ a];cases W.heap[i]<;>simp
theorem kids:Kids prog (·<prog.types.size):=kids_rows sJ sJ
theorem full:∀t e,t<prog.types.size->prog.underlying t=some (.slice e)->0<prog.cellsOf e:=slices_full_of prog sJ
theorem yu:25<prog.types.size/\31<prog.types.size:=⟨of_decide_eq_true sJ,of_decide_eq_true sJ⟩
theorem left {v:n_} {ds gs:List (DataW H)} (n:DataW.Whole enc prog Tryz.f7.params.toList Rows.unseenSpec.vars false W args.toList ds gs before) (o:∃d1 d2,ds=[d1,d2]) (h:aJ W v W'):Rows.unseenSpec.post enc prog Tryz.f7 false true false false W args v W':=by
 obtain⟨rfl,f,_,l,m⟩:=h;have a:=n;obtain⟨p,q,j,k,rfl,_,_⟩:=n;obtain⟨rfl,rfl⟩:=trodVars_none k;have g:∀x∈p,x.block<W.heap.size:=λx c=>a.lt x (by simpa using c)
 have d:∀x∈p,W.sameAt W' x:=λx c=>by
  have lt:=g x c
  cases x with
  |cell b off=>exact World.cell?_of_block (f b lt)
  |map b=>exact f b lt
 have e:=DataW.TrodAll.respare (spare':=λb=>decide (b<W.heap.size)) kids full (by
  rw[params7]
  intro t i
  simp only[r_,p_,or_false]at i
  obtain rfl|rfl:=i
  .exact yu.1
  .exact yu.2) j (λx c=>decide_eq_true (g x c))
 obtain⟨d1,d2,rfl⟩:=o;exact⟨_,_,_,[],p,[],a,trodAll_cons_mk (shut_bool underlying4 _) trodAll_mk0,mg e d,rfl,ϋ l m f,λh=>by cases h⟩
theorem runs {base:Nat} {ds gs:List (DataW H)} (hval:∀(j:Nat) t v,Tryz.f7.params[j]?=some t->args[j]?=some v->Value.okWide prog W .any base t v) (hW:DataW.Whole enc prog Tryz.f7.params.toList Rows.unseenSpec.vars false W args.toList ds gs before):
  (∃d1 d2,ds=[d1,d2])/\∃N last x w' t',runNT prog (N+1) (Conc.solo (Conc.G (Frame.enter prog 7 args .normal) []) W) #[]=(.ended x w',t')/\runN prog N (Conc.solo (Conc.G (Frame.enter prog 7 args .normal) []) W)=.next last/\step prog last=.ended x w'/\Conc.Good prog (aJ W) last x w' t':=by
 obtain⟨p,q,s,I,rfl,_,_⟩:=hW;obtain⟨rfl,rfl⟩:=trodVars_none I;rw[params7]at s hval;obtain⟨v0,v1,r,d1,P,Q,rfl,rfl,rfl,e,h⟩:=trodAll_two s;refine⟨⟨r,d1,rfl⟩,?_⟩;obtain⟨A,rfl,c⟩:=okWide_struct underlying25 (hval 0 25 v0 rfl rfl);rw[cells25]at c;obtain⟨t,k,d,n⟩:=okWide_slice underlying31 (hval 1 31 v1 rfl rfl);subst n;obtain⟨O,e⟩:=e;obtain⟨m1,h⟩:=h;obtain⟨l⟩:=A
 match l,c with
 |[u,z,c2,c3],_=>
  have f:DataW.trod enc prog W 0 (λ_=>true) true O 25 [u,z,c2,c3]=some (r,P):=e
  have m:DataW.trod enc prog W 0 (λ_=>true) true m1 31 [.slice t k d]=some (d1,Q):=h
  obtain⟨co,sw,sp,T,Z,Y,R,U,fn,V,rfl,rfl,rfl,rfl,F,C⟩:=nV (λ_=>rfl) f
  obtain⟨t',X,S,b,o,B,L,M,D⟩:=vg m
  cases B
  exact ay1 W (E:=λy=>∃g a,y=(Frame.mk 7 (TN 128 (A8 g [(4,.bool true)])) a [] .returning .normal none,[])) (by rintro _ ⟨g,a,rfl⟩ w;exact ϖ g a w) (mJ (YP F) (ni C) L M (λi J=>uF (D i J)) λv' g a K=>.now ⟨⟨g,a,rfl⟩,K⟩)
end
theorem lifted (os:Os) (o:os.Started) (H:Type) (enc:j_×n_->H):
  ReturnsInLeavingWide {} Tryz.checked os 7 .any (Rows.unseenSpec.pre6 enc prog Tryz.f7 Rows.unseenRow.domain false) (Rows.unseenSpec.post enc prog Tryz.f7 false true false false):=by
 refine returnsInLeavingWide_of_change_sized (C:=Tryz.checked) own o func7
  (ChangeSpec.witness6 (enc:=enc) (C:=Tryz.checked) false ⟨#[],#[.agg #[.int .i64 0,.int .i64 0,.slice none 0 0,.slice none 0 0],.slice none 0 0],[]⟩ 8 sJ sJ sJ sJ) ?_;intro W base args m n b a c _ _ _;obtain⟨f,N,last,x,l,k,g,h,i,v,e,d,j⟩:=runs a c;exact⟨N,last,x,l,k,g,h,i,v,e,left c f d,j⟩
theorem facts:joinedFacts prog 7 Tryz.f7 Rows.unseenSpec Rows.unseenRow=true:=sJ
theorem bp9:prog.funcNamed "ferry/ferrykeep.Unseen"=some 7:=by kernel_rfl
theorem cb4:Tryz.f7.isInstance prog Rows.unseenRow.origin Rows.unseenRow.targs:=of_decide_eq_true sJ
theorem bx4:Tryz.f7.isWrapper prog Rows.unseenRow.wrapper Rows.unseenRow.mainSum:=by
 unfold Func.isWrapper
 first
  |(rw[rC (by decide +kernel)];kernel_rfl)
  |(rw[ru (by decide +kernel)];exact⟨rfl,rfl⟩)
theorem unseen_holds:Rows.UnseenSaid:=
 OpenClaim.holds_of_wide_leaving 7 Tryz.f7 rfl rfl rfl rfl rfl rfl rfl ⟨rfl,rfl,rfl,rfl,rfl⟩ rfl rfl rfl rfl rfl bp9 func7 facts cb4 bx4 (λc a H b _=>lifted c a H b)
end Go.Proofs.YtmhplpfpcnjekaaGreat.unseen
