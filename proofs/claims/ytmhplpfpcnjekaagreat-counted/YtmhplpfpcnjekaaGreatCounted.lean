/- Counted holds, whatever comes in: on every schedule it returns true, without a race, and what came in reads as it did. No condition. -/
import Derived.Test.YtmhplpfpcnjekaaGreatA39
import Derived.Test.YtmhplpfpcnjekaaGreatRows
import Derived.Conc.LeavingOf
open Go.Proofs.Tryz
namespace Go.Proofs.YtmhplpfpcnjekaaGreat.counted
open Go.ChangeShapes Go.WideShapes Go.ChangeAt Go.RowKit Go.Fxa
set_option maxRecDepth 1000000
set_option maxHeartbeats 0
theorem own:ownKnob prog.godebug=none:=by kernel_rfl
section
variable {H:Type} {enc:j_×n_->H}
theorem iV {P:l_} {W W':o_} {sp:Nat->Bool} {hd:Bool}:∀{ts:List j_} {vs:U_} {ds:List (DataW H)} {ps:List MemPlace},DataW.TrodAll enc P W 0 sp hd ts vs ds ps->(∀p∈ps,W.sameAt W' p)->DataW.TrodAll enc P W' 0 sp hd ts vs ds ps
 |[],[],[],_,h,_=>h
 |_::_,_::_,_::_,_,⟨p,q,⟨n,c⟩,d,e⟩,b=>⟨p,q,⟨n,DataW.trod_carry n _ _ _ c λx a=>b x (by rw[e];exact List.mem_append_left _ a)⟩,iV d λx a=>b x (by rw[e];exact List.mem_append_right _ a),e⟩
theorem xA {W W':o_} {may:MemPlace->Prop} (ho:W'.os=W.os) (hu:W'.output=W.output) (hh:∀r,r<W.heap.size->W'.heap[r]?=W.heap[r]?):W.keptBut W' may:=by
 refine⟨ho,hu,λi a=>?_⟩;rw[hh i a,v_ a];cases W.heap[i]<;>simp
theorem kids:Kids prog (·<prog.types.size):=kids_rows (by kernel_rfl) (by kernel_rfl)
theorem full:∀t e,t<prog.types.size->prog.underlying t=some (.slice e)->0<prog.cellsOf e:=slices_full_of prog (by kernel_rfl)
theorem sN:25<prog.types.size/\31<prog.types.size:=⟨of_decide_eq_true (by kernel_rfl),of_decide_eq_true (by kernel_rfl)⟩
theorem left {W W':o_} {args:X_} {v:n_} {ds gs:List (DataW H)} {before:List MemPlace} (hW:DataW.Whole enc prog Tryz.f6.params.toList Rows.countedSpec.vars false W args.toList ds gs before) (hd:∃d1 d2,ds=[d1,d2]) (h:Stood W v W'):Rows.countedSpec.post enc prog Tryz.f6 false true false false W args v W':=by
 obtain⟨rfl,f,_,l,m⟩:=h;have a:=hW;obtain⟨p,q,j,k,rfl,_,_⟩:=hW;obtain⟨rfl,rfl⟩:=trodVars_none k;have g:∀x∈p,x.block<W.heap.size:=λx c=>a.lt x (by simpa using c)
 have d:∀x∈p,W.sameAt W' x:=λx c=>by
  have lt:=g x c
  cases x with
  |cell b off=>exact World.cell?_of_block (f b lt)
  |map b=>exact f b lt
 have e:=DataW.TrodAll.respare (spare':=λb=>decide (b<W.heap.size)) kids full (by
  rw[params6]
  intro t i
  simp only[r_,List.not_mem_nil,or_false]at i
  obtain rfl|rfl:=i
  .exact sN.1
  .exact sN.2) j (λx c=>decide_eq_true (g x c))
 obtain⟨d1,d2,rfl⟩:=hd;exact⟨_,_,_,[],p,[],a,trodAll_cons_mk (shut_bool underlying4 _) trodAll_mk0,iV e d,rfl,xA l m f,λh=>by cases h⟩
theorem runs {W:o_} {base:Nat} {args:X_} {ds gs:List (DataW H)} {before:List MemPlace} (hval:∀(j:Nat) t v,Tryz.f6.params[j]?=some t->args[j]?=some v->Value.okWide prog W .any base t v) (hW:DataW.Whole enc prog Tryz.f6.params.toList Rows.countedSpec.vars false W args.toList ds gs before):
  (∃d1 d2,ds=[d1,d2])/\∃N last x w' t',runNT prog (N+1) (Conc.solo (Conc.G (Frame.enter prog 6 args .normal) []) W) #[]=(.ended x w',t')/\runN prog N (Conc.solo (Conc.G (Frame.enter prog 6 args .normal) []) W)=.next last/\step prog last=.ended x w'/\Conc.Good prog (Stood W) last x w' t':=by
 obtain⟨p,q,m,A,rfl,_,_⟩:=hW;obtain⟨rfl,rfl⟩:=trodVars_none A;rw[params6]at m hval;obtain⟨v0,v1,i,d1,E,F,rfl,rfl,rfl,c,f⟩:=trodAll_two m;refine⟨⟨i,d1,rfl⟩,?_⟩;obtain⟨s,rfl,a⟩:=okWide_struct underlying25 (hval 0 25 v0 rfl rfl);rw[cells25]at a;obtain⟨t,k,d,h⟩:=okWide_slice underlying31 (hval 1 31 v1 rfl rfl);subst h;obtain⟨D,c⟩:=c;obtain⟨m1,f⟩:=f;obtain⟨l⟩:=s
 match l,a with
 |[n,r,c2,c3],_=>
  have e:DataW.trod enc prog W 0 (λ_=>true) true D 25 [n,r,c2,c3]=some (i,E):=c
  have g:DataW.trod enc prog W 0 (λ_=>true) true m1 31 [.slice t k d]=some (d1,F):=f
  obtain⟨co,R,sp,K,Q,P,I,L,fn,M,rfl,rfl,rfl,rfl,z,w⟩:=jJ (λ_=>rfl) e
  obtain⟨t',O,J,b,o,u,B,C,y⟩:=pM g
  cases u
  exact bI W z w B C y
end
theorem lifted (os:Os) (started:os.Started) (H:Type) (enc:j_×n_->H):
  ReturnsInLeavingWide {} Tryz.checked os 6 .any (Rows.countedSpec.pre6 enc prog Tryz.f6 Rows.countedRow.domain false) (Rows.countedSpec.post enc prog Tryz.f6 false true false false):=by
 refine returnsInLeavingWide_of_change_sized (C:=Tryz.checked) own started func6
  (ChangeSpec.witness6 (enc:=enc) (C:=Tryz.checked) false ⟨#[],#[.agg #[.int .i64 0,.int .i64 0,.slice none 0 0,.slice none 0 0],.slice none 0 0],[]⟩ 8 (by kernel_rfl) (by kernel_rfl) (by kernel_rfl) (by kernel_rfl)) ?_;intro W base args m n b a c _ _ _;obtain⟨f,N,last,x,l,k,g,h,i,v,e,d,j⟩:=runs a c;exact⟨N,last,x,l,k,g,h,i,v,e,left c f d,j⟩
theorem facts:joinedFacts prog 6 Tryz.f6 Rows.countedSpec Rows.countedRow=true:=by kernel_rfl
theorem aw3:prog.funcNamed "ferry/ferrykeep.Counted"=some 6:=by kernel_rfl
theorem bm5:Tryz.f6.isInstance prog Rows.countedRow.origin Rows.countedRow.targs:=of_decide_eq_true (by kernel_rfl)
theorem bg7:Tryz.f6.isWrapper prog Rows.countedRow.wrapper Rows.countedRow.mainSum:=by
 unfold Func.isWrapper
 first
  |(rw[if_pos (by decide +kernel)];kernel_rfl)
  |(rw[if_neg (by decide +kernel)];exact⟨rfl,rfl⟩)
theorem counted_holds:Rows.CountedSaid:=
 OpenClaim.holds_of_wide_leaving 6 Tryz.f6 rfl rfl rfl rfl rfl rfl rfl ⟨rfl,rfl,rfl,rfl,rfl⟩ rfl rfl rfl rfl rfl aw3 func6 facts bm5 bg7 (λc a H b _=>lifted c a H b)
end Go.Proofs.YtmhplpfpcnjekaaGreat.counted
