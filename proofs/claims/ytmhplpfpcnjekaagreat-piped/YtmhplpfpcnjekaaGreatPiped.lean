/- Piped holds, whatever comes in: on every schedule it returns true, without a race, and what came in reads as it did. No condition. -/
import Derived.Test.YtmhplpfpcnjekaaGreatA38
import Derived.Test.YtmhplpfpcnjekaaGreatRows
import Derived.Conc.LeavingOf
open Go.Proofs.Tryz
namespace Go.Proofs.YtmhplpfpcnjekaaGreat.piped
open Go.ChangeShapes Go.WideShapes Go.ChangeAt Go.RowKit Go.Fxa
set_option maxRecDepth 1000000
set_option maxHeartbeats 0
theorem own:ownKnob prog.godebug=none:=by kernel_rfl
section
variable {H:Type} {enc:j_×n_->H}
theorem fJ {P:l_} {W W':o_} {sp:Nat->Bool} {hd:Bool}:∀{ts:List j_} {vs:U_} {ds:List (DataW H)} {ps:List MemPlace},DataW.TrodAll enc P W 0 sp hd ts vs ds ps->(∀p∈ps,W.sameAt W' p)->DataW.TrodAll enc P W' 0 sp hd ts vs ds ps
 |[],[],[],_,h,_=>h
 |_::_,_::_,_::_,_,⟨p,q,⟨n,c⟩,d,e⟩,b=>⟨p,q,⟨n,DataW.trod_carry n _ _ _ c λx a=>b x (by rw[e];exact List.mem_append_left _ a)⟩,fJ d λx a=>b x (by rw[e];exact List.mem_append_right _ a),e⟩
theorem vJ {W W':o_} {may:MemPlace->Prop} (ho:W'.os=W.os) (hu:W'.output=W.output) (hh:∀r,r<W.heap.size->W'.heap[r]?=W.heap[r]?):W.keptBut W' may:=by
 refine⟨ho,hu,λi a=>?_⟩;rw[hh i a,v_ a];cases W.heap[i]<;>simp
theorem kids:Kids prog (·<prog.types.size):=kids_rows (by kernel_rfl) (by kernel_rfl)
theorem full:∀t e,t<prog.types.size->prog.underlying t=some (.slice e)->0<prog.cellsOf e:=slices_full_of prog (by kernel_rfl)
theorem RX:22<prog.types.size/\3<prog.types.size/\31<prog.types.size:=⟨of_decide_eq_true (by kernel_rfl),of_decide_eq_true (by kernel_rfl),of_decide_eq_true (by kernel_rfl)⟩
theorem left {W W':o_} {args:X_} {v:n_} {ds gs:List (DataW H)} {before:List MemPlace} (hW:DataW.Whole enc prog Tryz.f8.params.toList Rows.pipedSpec.vars false W args.toList ds gs before) (hd:∃d1 d2 d3 d4 d5,ds=[d1,d2,d3,d4,d5]) (h:Stood W v W'):Rows.pipedSpec.post enc prog Tryz.f8 false true false false W args v W':=by
 obtain⟨rfl,f,_,l,m⟩:=h;have a:=hW;obtain⟨p,q,j,k,rfl,_,_⟩:=hW;obtain⟨rfl,rfl⟩:=trodVars_none k;have g:∀x∈p,x.block<W.heap.size:=λx c=>a.lt x (by simpa using c)
 have d:∀x∈p,W.sameAt W' x:=λx c=>by
  have lt:=g x c
  cases x with
  |cell b off=>exact World.cell?_of_block (f b lt)
  |map b=>exact f b lt
 have e:=DataW.TrodAll.respare (spare':=λb=>decide (b<W.heap.size)) kids full (by
  rw[params8]
  intro t i
  simp only[r_,List.not_mem_nil,or_false]at i
  obtain rfl|rfl|rfl|rfl|rfl:=i
  .exact RX.1
  .exact RX.2.1
  .exact RX.2.1
  .exact RX.2.1
  .exact RX.2.2) j (λx c=>decide_eq_true (g x c))
 obtain⟨d1,d2,d3,d4,d5,rfl⟩:=hd;exact⟨_,_,_,[],p,[],a,trodAll_cons_mk (shut_bool underlying4 _) trodAll_mk0,fJ e d,rfl,vJ l m f,λh=>by cases h⟩
theorem ZW {P:l_} {w:o_} {base:Nat} {spare:Nat->Bool} {held:Bool} {t t1 t2 t3 t4:j_} {args:X_} {ds:List (DataW H)} {ps:List MemPlace} (h:DataW.TrodAll enc P w base spare held [t,t1,t2,t3,t4] args.toList ds ps):
  ∃v v1 v2 v3 v4 d d1 d2 d3 d4 p p1 p2 p3 p4,args=#[v,v1,v2,v3,v4]/\ds=[d,d1,d2,d3,d4]/\DataW.Trod enc P w base spare held t v d p/\DataW.Trod enc P w base spare held t1 v1 d1 p1/\DataW.Trod enc P w base spare held t2 v2 d2 p2/\DataW.Trod enc P w base spare held t3 v3 d3 p3/\DataW.Trod enc P w base spare held t4 v4 d4 p4:=by
 obtain⟨v,E,d,l,p,q,a,rfl,rfl,s,u⟩:=trodAll_cons h;obtain⟨v1,x,d1,m,p1,q1,rfl,rfl,rfl,b,k⟩:=trodAll_cons u;obtain⟨v2,y,d2,n,p2,B,rfl,rfl,rfl,c,g⟩:=trodAll_cons k;obtain⟨v3,z,d3,o,p3,C,rfl,rfl,rfl,e,i⟩:=trodAll_cons g;obtain⟨v4,A,d4,r,p4,D,rfl,rfl,rfl,f,j⟩:=trodAll_cons i;obtain⟨rfl,rfl,rfl⟩:=trodAll_nil j;exact⟨v,v1,v2,v3,v4,d,d1,d2,d3,d4,p,p1,p2,p3,p4,by cases args;simp_all,rfl,s,b,c,e,f⟩
theorem runs {W:o_} {base:Nat} {args:X_} {ds gs:List (DataW H)} {before:List MemPlace} (hval:∀(j:Nat) t v,Tryz.f8.params[j]?=some t->args[j]?=some v->Value.okWide prog W .any base t v) (hW:DataW.Whole enc prog Tryz.f8.params.toList Rows.pipedSpec.vars false W args.toList ds gs before) (hz:(DataW.weightsEach prog (Tryz.f8.params.toList++Rows.pipedSpec.plain.varTypes prog) (ds++gs)).all (·<=reachBytes)=true):
  (∃d1 d2 d3 d4 d5,ds=[d1,d2,d3,d4,d5])/\∃N last x w' t',runNT prog (N+1) (Conc.solo (Conc.G (Frame.enter prog 8 args .normal) []) W) #[]=(.ended x w',t')/\runN prog N (Conc.solo (Conc.G (Frame.enter prog 8 args .normal) []) W)=.next last/\step prog last=.ended x w'/\Conc.Good prog (Stood W) last x w' t':=by
 obtain⟨p,q,s,D,rfl,_,_⟩:=hW;obtain⟨rfl,rfl⟩:=trodVars_none D;rw[params8]at s hval hz;obtain⟨v0,v1,v2,v3,v4,n,d1,d2,d3,d4,P,Q,p2,p3,p4,rfl,rfl,a,c,d,f,g⟩:=ZW s;refine⟨⟨n,d1,d2,d3,d4,rfl⟩,?_⟩;obtain⟨a0,n0,y,h⟩:=okWide_slice underlying22 (hval 0 22 v0 rfl rfl);obtain⟨z1,i⟩:=okWide_int underlying3 (hval 1 3 v1 rfl rfl);obtain⟨R,k⟩:=okWide_int underlying3 (hval 2 3 v2 rfl rfl);obtain⟨S,l⟩:=okWide_int underlying3 (hval 3 3 v3 rfl rfl);obtain⟨w,u,c4,m⟩:=okWide_slice underlying31 (hval 4 31 v4 rfl rfl);subst h i k l m;obtain⟨L,a⟩:=a;obtain⟨m1,c⟩:=c;obtain⟨m2,d⟩:=d;obtain⟨m3,f⟩:=f;obtain⟨O,g⟩:=g;obtain⟨M,U,A⟩:=vz (sp:=λ_=>true) (show DataW.trod enc prog W 0 (λ_=>true) true L 22 [.slice a0 n0 y]=some (n,P)from a);obtain⟨Y,e1,I⟩:=open_int (sp:=λ_=>true) (show DataW.trod enc prog W 0 (λ_=>true) true m1 3 [.int .i64 z1]=some (d1,Q)from c);obtain⟨Z,e2,J⟩:=open_int (sp:=λ_=>true) (show DataW.trod enc prog W 0 (λ_=>true) true m2 3 [.int .i64 R]=some (d2,p2)from d);obtain⟨y3,e3,K⟩:=open_int (sp:=λ_=>true) (show DataW.trod enc prog W 0 (λ_=>true) true m3 3 [.int .i64 S]=some (d3,p3)from f);obtain⟨t',X,T,b,o,z,E,F,C⟩:=nZ (sp:=λ_=>true) (show DataW.trod enc prog W 0 (λ_=>true) true O 31 [.slice w u c4]=some (d4,p4)from g);cases e1;cases e2;cases e3;cases z;have B:u<1000000000000000000:=by
  obtain rfl|⟨r,sp,e,V⟩:=E
  .decide
  .have e:d4=.slice r sp:=e;have:=sized_slice (j:=4) (t:=31) (e:=38) (elems:=r) (spare:=sp) hz rfl (by rw[e];rfl) underlying31;rw[aj6]at this;unfold reachBytes at this;omega
 exact nS W A B F C I J K
end
theorem lifted (os:Os) (started:os.Started) (H:Type) (enc:j_×n_->H):
  ReturnsInLeavingWide {} Tryz.checked os 8 .any (Rows.pipedSpec.pre6 enc prog Tryz.f8 Rows.pipedRow.domain false) (Rows.pipedSpec.post enc prog Tryz.f8 false true false false):=by
 refine returnsInLeavingWide_of_change_sized (C:=Tryz.checked) own started func8
  (ChangeSpec.witness6 (enc:=enc) (C:=Tryz.checked) false ⟨#[],#[.slice none 0 0,.int .i64 0,.int .i64 0,.int .i64 0,.slice none 0 0],[]⟩ 8 (by kernel_rfl) (by kernel_rfl) (by kernel_rfl) (by kernel_rfl)) ?_;intro W base args n o b a c _ g _;obtain⟨f,N,last,x,m,l,h,i,j,v,e,d,k⟩:=runs a c g;exact⟨N,last,x,m,l,h,i,j,v,e,left c f d,k⟩
theorem facts:joinedFacts prog 8 Tryz.f8 Rows.pipedSpec Rows.pipedRow=true:=by kernel_rfl
theorem av7:prog.funcNamed "ferry/ferrykeep.Piped"=some 8:=by kernel_rfl
theorem bh9:Tryz.f8.isInstance prog Rows.pipedRow.origin Rows.pipedRow.targs:=of_decide_eq_true (by kernel_rfl)
theorem bc6:Tryz.f8.isWrapper prog Rows.pipedRow.wrapper Rows.pipedRow.mainSum:=by
 unfold Func.isWrapper
 first
  |(rw[if_pos (by decide +kernel)];kernel_rfl)
  |(rw[if_neg (by decide +kernel)];exact⟨rfl,rfl⟩)
theorem piped_holds:Rows.PipedSaid:=
 OpenClaim.holds_of_wide_leaving 8 Tryz.f8 rfl rfl rfl rfl rfl rfl rfl ⟨rfl,rfl,rfl,rfl,rfl⟩ rfl rfl rfl rfl rfl av7 func8 facts bh9 bc6 (λc a H b _=>lifted c a H b)
end Go.Proofs.YtmhplpfpcnjekaaGreat.piped
