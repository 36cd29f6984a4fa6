/- Refused holds, whatever comes in: on every schedule it returns true, without a race, and what came in reads as it did. No condition. -/
import Derived.Test.YtmhplpfpcnjekaaGreatA42
import Derived.Test.YtmhplpfpcnjekaaGreatA46
import Derived.Test.YtmhplpfpcnjekaaGreatRows
import Derived.Conc.LeavingOf
open Go.Proofs.Tryz
namespace Go.Proofs.YtmhplpfpcnjekaaGreat.refused
open Go.ChangeShapes Go.WideShapes Go.ChangeAt Go.RowKit Go.Fxa
set_option maxRecDepth 1000000
set_option maxHeartbeats 0
variable {W W':o_} {args:X_} {before:List MemPlace}
theorem own:ownKnob prog.godebug=none:=sU
section
variable {H:Type} {enc:j_×n_->H}
theorem KU {P:l_} {W W':o_} {sp:Nat->Bool} {f:Bool}:∀{g:List j_} {i:U_} {ds:List (DataW H)} {ps:List MemPlace},DataW.TrodAll enc P W 0 sp f g i ds ps->(∀p∈ps,W.sameAt W' p)->DataW.TrodAll enc P W' 0 sp f g i ds ps
 |[],[],[],_,h,_=>h
 |_::_,_::_,_::_,_,⟨p,q,⟨n,c⟩,d,e⟩,b=>⟨p,q,⟨n,DataW.trod_carry n _ _ _ c λx a=>b x (by rw[e];exact List.mem_append_left _ a)⟩,KU d λx a=>b x (by rw[e];exact List.mem_append_right _ a),e⟩
theorem PL {a:MemPlace->Prop} (c:W'.os=W.os) (d:W'.output=W.output) (b:∀r,r<W.heap.size->W'.heap[r]?=W.heap[r]?):W.keptBut W' a:=by
 refine⟨c,d,λi hi=>?_⟩;rw[b i hi,v_ hi];cases W.heap[i]<;>simp
theorem kids:Kids prog (·<prog.types.size):=kids_rows sU sU
theorem full:∀t e,t<prog.types.size->prog.underlying t=some (.slice e)->0<prog.cellsOf e:=slices_full_of prog sU
theorem MG:25<prog.types.size/\31<prog.types.size:=⟨of_decide_eq_true sU,of_decide_eq_true sU⟩
theorem left {v:n_} {ds gs:List (DataW H)} (m:DataW.Whole enc prog Tryz.f10.params.toList Rows.refusedSpec.vars false W args.toList ds gs before) (n:∃d1 d2,ds=[d1,d2]) (h:Tt W v W'):Rows.refusedSpec.post enc prog Tryz.f10 false true false false W args v W':=by
 obtain⟨rfl,f,_,k,l⟩:=h;have a:=m;obtain⟨p,q,hA,j,rfl,_,_⟩:=m;obtain⟨rfl,rfl⟩:=trodVars_none j;have g:∀x∈p,x.block<W.heap.size:=λx c=>a.lt x (by simpa using c)
 have d:∀x∈p,W.sameAt W' x:=λx c=>by
  have lt:=g x c
  cases x with
  |cell b off=>exact World.cell?_of_block (f b lt)
  |map b=>exact f b lt
 have e:=DataW.TrodAll.respare (spare':=λb=>decide (b<W.heap.size)) kids full (by
  rw[params10]
  intro t i
  simp only[r_,lG,or_false]at i
  obtain rfl|rfl:=i
  .exact MG.1
  .exact MG.2) hA (λx c=>decide_eq_true (g x c))
 obtain⟨d1,d2,rfl⟩:=n;exact⟨_,_,_,[],p,[],a,trodAll_cons_mk (shut_bool underlying4 _) trodAll_mk0,KU e d,rfl,PL k l f,λh=>by cases h⟩
theorem runs {base:Nat} {ds gs:List (DataW H)} (hval:∀(j:Nat) t v,Tryz.f10.params[j]?=some t->args[j]?=some v->Value.okWide prog W .any base t v) (hW:DataW.Whole enc prog Tryz.f10.params.toList Rows.refusedSpec.vars false W args.toList ds gs before):
  (∃d1 d2,ds=[d1,d2])/\∃N last x w' t',runNT prog (N+1) (Conc.solo (Conc.G (Frame.enter prog 10 args .normal) []) W) #[]=(.ended x w',t')/\runN prog N (Conc.solo (Conc.G (Frame.enter prog 10 args .normal) []) W)=.next last/\step prog last=.ended x w'/\Conc.Good prog (Tt W) last x w' t':=by
 obtain⟨p,q,hA,F,rfl,_,_⟩:=hW;obtain⟨rfl,rfl⟩:=trodVars_none F;rw[params10]at hA hval;obtain⟨v0,v1,r,d1,M,O,rfl,rfl,rfl,e,h⟩:=trodAll_two hA;refine⟨⟨r,d1,rfl⟩,?_⟩;obtain⟨z,rfl,c⟩:=okWide_struct underlying25 (hval 0 25 v0 rfl rfl);rw[cells25]at c;obtain⟨t,k,d,n⟩:=okWide_slice underlying31 (hval 1 31 v1 rfl rfl);subst n;obtain⟨L,e⟩:=e;obtain⟨m1,h⟩:=h;obtain⟨l⟩:=z
 match l,c with
 |[s,u,c2,c3],_=>
  have f:DataW.trod enc prog W 0 (λ_=>true) true L 25 [s,u,c2,c3]=some (r,M):=e
  have m:DataW.trod enc prog W 0 (λ_=>true) true m1 31 [.slice t k d]=some (d1,O):=h
  obtain⟨co,Y,sp,R,X,V,P,S,fn,T,rfl,rfl,rfl,rfl,D,B⟩:=Q9 (λ_=>rfl) f
  obtain⟨t',U,Q,b,o,A,I,J,C⟩:=Uo m
  cases A
  exact jw W (E:=λy=>∃g a,y=(Frame.mk 10 (TN 130 (AQ g [(4,.bool true)])) a [] .returning .normal none,[])) (by rintro _ ⟨g,a,rfl⟩ w;exact xW g a w) (kG (Qd D) (Q8 B) I J (λi hi=>Uj (C i hi)) λZ g a K=>.now ⟨⟨g,a,rfl⟩,K⟩)
end
theorem lifted (os:Os) (o:os.Started) (H:Type) (enc:j_×n_->H):
  ReturnsInLeavingWide {} Tryz.checked os 10 .any (Rows.refusedSpec.pre6 enc prog Tryz.f10 Rows.refusedRow.domain false) (Rows.refusedSpec.post enc prog Tryz.f10 false true false false):=by
 refine returnsInLeavingWide_of_change_sized (C:=Tryz.checked) own o func10
  (ChangeSpec.witness6 (enc:=enc) (C:=Tryz.checked) false ⟨#[],#[.agg #[.int .i64 0,.int .i64 0,.slice none 0 0,.slice none 0 0],.slice none 0 0],[]⟩ 8 sU sU sU sU) ?_;intro W base args m n b a c _ _ _;obtain⟨f,N,last,x,l,k,g,h,i,v,e,d,j⟩:=runs a c;exact⟨N,last,x,l,k,g,h,i,v,e,left c f d,j⟩
theorem facts:joinedFacts prog 10 Tryz.f10 Rows.refusedSpec Rows.refusedRow=true:=sU
theorem bg5:prog.funcNamed "ferry/ferrykeep.Refused"=some 10:=by kernel_rfl
theorem bw8:Tryz.f10.isInstance prog Rows.refusedRow.origin Rows.refusedRow.targs:=of_decide_eq_true sU
theorem bu0:Tryz.f10.isWrapper prog Rows.refusedRow.wrapper Rows.refusedRow.mainSum:=by
 unfold Func.isWrapper
 first
  |(rw[rW (by decide +kernel)];kernel_rfl)
  |(rw[ru (by decide +kernel)];exact⟨rfl,rfl⟩)
theorem refused_holds:Rows.RefusedSaid:=
 OpenClaim.holds_of_wide_leaving 10 Tryz.f10 rfl rfl rfl rfl rfl rfl rfl ⟨rfl,rfl,rfl,rfl,rfl⟩ rfl rfl rfl rfl rfl bg5 func10 facts bw8 bu0 (λc a H b _=>lifted c a H b)
end Go.Proofs.YtmhplpfpcnjekaaGreat.refused
