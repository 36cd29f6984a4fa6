/- Halved holds, whatever comes in: on every schedule it returns true, without a race, and what came in reads as it did. No condition. -/
import Derived.Test.YtmhplpfpcnjekaaGreatA42
import Derived.Test.YtmhplpfpcnjekaaGreatA49
import Derived.Test.YtmhplpfpcnjekaaGreatRows
import Derived.Conc.LeavingOf
open Go.Proofs.Tryz
namespace Go.Proofs.YtmhplpfpcnjekaaGreat.halved
open Go.ChangeShapes Go.WideShapes Go.ChangeAt Go.RowKit Go.Fxa
set_option maxRecDepth 1000000
set_option maxHeartbeats 0
variable {W W':o_} {args:X_} {before:List MemPlace}
theorem own:ownKnob prog.godebug=none:=sU
section
variable {H:Type} {enc:j_×n_->H}
theorem KU {P:l_} {W W':o_} {sp:Nat->Bool} {f:Bool}:∀{g:List j_} {i:U_} {ds:List (DataW H)} {ps:List MemPlace},DataW.TrodAll enc P W 0 sp f g i ds ps->(∀p∈ps,W.sameAt W' p)->DataW.TrodAll enc P W' 0 sp f g i ds ps
 |[],[],[],_,h,_=>h
 |_::_,_::_,_::_,_,⟨p,q,⟨n,c⟩,d,e⟩,b=>⟨p,q,⟨n,DataW.trod_carry n _ _ _ c λx a=>b x (by rw[e];exact List.mem_append_left _ a)⟩,KU d λx a=>b x (by rw[e];exact List.mem_append_right _ a),e⟩
theorem PL {a:MemPlace->Prop} (c:W'.os=W.os) (d:W'.output=W.output) (b:∀r,r<W.heap.size->W'.heap[r]?=W.heap[r]?):W.keptBut W' a:=by
 refine⟨c,d,λi hi=>?_⟩;rw[b i hi,v_ hi];cases W.heap[i]<;>simp
theorem kids:Kids prog (·<prog.types.size):=kids_rows sU sU
theorem full:∀t e,t<prog.types.size->prog.underlying t=some (.slice e)->0<prog.cellsOf e:=slices_full_of prog sU
theorem MG:25<prog.types.size/\31<prog.types.size/\3<prog.types.size:=⟨of_decide_eq_true sU,of_decide_eq_true sU,of_decide_eq_true sU⟩
theorem left {v:n_} {ds gs:List (DataW H)} (m:DataW.Whole enc prog Tryz.f9.params.toList Rows.halvedSpec.vars false W args.toList ds gs before) (n:∃d1 d2 d3,ds=[d1,d2,d3]) (h:Tt W v W'):Rows.halvedSpec.post enc prog Tryz.f9 false true false false W args v W':=by
 obtain⟨rfl,f,_,k,l⟩:=h;have a:=m;obtain⟨p,q,hA,j,rfl,_,_⟩:=m;obtain⟨rfl,rfl⟩:=trodVars_none j;have g:∀x∈p,x.block<W.heap.size:=λx c=>a.lt x (by simpa using c)
 have d:∀x∈p,W.sameAt W' x:=λx c=>by
  have lt:=g x c
  cases x with
  |cell b off=>exact World.cell?_of_block (f b lt)
  |map b=>exact f b lt
 have e:=DataW.TrodAll.respare (spare':=λb=>decide (b<W.heap.size)) kids full (by
  rw[params9]
  intro t i
  simp only[r_,lG,or_false]at i
  obtain rfl|rfl|rfl:=i
  .exact MG.1
  .exact MG.2.1
  .exact MG.2.2) hA (λx c=>decide_eq_true (g x c))
 obtain⟨d1,d2,d3,rfl⟩:=n;exact⟨_,_,_,[],p,[],a,trodAll_cons_mk (shut_bool underlying4 _) trodAll_mk0,KU e d,rfl,PL k l f,λh=>by cases h⟩
theorem runs {base:Nat} {ds gs:List (DataW H)} (hval:∀(j:Nat) t v,Tryz.f9.params[j]?=some t->args[j]?=some v->Value.okWide prog W .any base t v) (hW:DataW.Whole enc prog Tryz.f9.params.toList Rows.halvedSpec.vars false W args.toList ds gs before):
  (∃d1 d2 d3,ds=[d1,d2,d3])/\∃N last x w' t',runNT prog (N+1) (Conc.solo (Conc.G (Frame.enter prog 9 args .normal) []) W) #[]=(.ended x w',t')/\runN prog N (Conc.solo (Conc.G (Frame.enter prog 9 args .normal) []) W)=.next last/\step prog last=.ended x w'/\Conc.Good prog (Tt W) last x w' t':=by
 obtain⟨p,q,hA,I,rfl,_,_⟩:=hW;obtain⟨rfl,rfl⟩:=trodVars_none I;rw[params9]at hA hval;obtain⟨v0,v1,v2,s,d1,d2,O,P,p2,rfl,rfl,rfl,e,h,_⟩:=trodAll_three hA;refine⟨⟨s,d1,d2,rfl⟩,?_⟩;obtain⟨A,rfl,c⟩:=okWide_struct underlying25 (hval 0 25 v0 rfl rfl);rw[cells25]at c;obtain⟨t,k,d,n⟩:=okWide_slice underlying31 (hval 1 31 v1 rfl rfl);subst n;obtain⟨M,e⟩:=e;obtain⟨m1,h⟩:=h;obtain⟨cut,r⟩:=okWide_int underlying3 (hval 2 3 v2 rfl rfl);subst r;obtain⟨l⟩:=A
 match l,c with
 |[u,z,c2,c3],_=>
  have f:DataW.trod enc prog W 0 (λ_=>true) true M 25 [u,z,c2,c3]=some (s,O):=e
  have m:DataW.trod enc prog W 0 (λ_=>true) true m1 31 [.slice t k d]=some (d1,P):=h
  obtain⟨co,Z,sp,S,Y,X,Q,T,fn,U,rfl,rfl,rfl,rfl,F,C⟩:=Q9 (λ_=>rfl) f
  obtain⟨t',V,R,b,o,B,J,L,D⟩:=Uo m
  cases B
  exact jw W (E:=λy=>∃g a,y=(Frame.mk 9 (TN 169 (AQ g [(6,.bool true)])) a [] .returning .normal none,[])) (by rintro _ ⟨g,a,rfl⟩ w;exact ab4 g a w) (qK (Qd F) (Q8 C) J L (λi hi=>Uj (D i hi)) λv' g a K=>.now ⟨⟨g,a,rfl⟩,K⟩)
end
theorem lifted (os:Os) (o:os.Started) (H:Type) (enc:j_×n_->H):
  ReturnsInLeavingWide {} Tryz.checked os 9 .any (Rows.halvedSpec.pre6 enc prog Tryz.f9 Rows.halvedRow.domain false) (Rows.halvedSpec.post enc prog Tryz.f9 false true false false):=by
 refine returnsInLeavingWide_of_change_sized (C:=Tryz.checked) own o func9
  (ChangeSpec.witness6 (enc:=enc) (C:=Tryz.checked) false ⟨#[],#[.agg #[.int .i64 0,.int .i64 0,.slice none 0 0,.slice none 0 0],.slice none 0 0,.int .i64 0],[]⟩ 8 sU sU sU sU) ?_;intro W base args m n b a c _ _ _;obtain⟨f,N,last,x,l,k,g,h,i,v,e,d,j⟩:=runs a c;exact⟨N,last,x,l,k,g,h,i,v,e,left c f d,j⟩
theorem facts:joinedFacts prog 9 Tryz.f9 Rows.halvedSpec Rows.halvedRow=true:=sU
theorem bw2:prog.funcNamed "ferry/ferrykeep.Halved"=some 9:=by kernel_rfl
theorem cl7:Tryz.f9.isInstance prog Rows.halvedRow.origin Rows.halvedRow.targs:=of_decide_eq_true sU
theorem cg2:Tryz.f9.isWrapper prog Rows.halvedRow.wrapper Rows.halvedRow.mainSum:=by
 unfold Func.isWrapper
 first
  |(rw[rW (by decide +kernel)];kernel_rfl)
  |(rw[ru (by decide +kernel)];exact⟨rfl,rfl⟩)
theorem halved_holds:Rows.HalvedSaid:=
 OpenClaim.holds_of_wide_leaving 9 Tryz.f9 rfl rfl rfl rfl rfl rfl rfl ⟨rfl,rfl,rfl,rfl,rfl⟩ rfl rfl rfl rfl rfl bw2 func9 facts cl7 cg2 (λc a H b _=>lifted c a H b)
end Go.Proofs.YtmhplpfpcnjekaaGreat.halved
