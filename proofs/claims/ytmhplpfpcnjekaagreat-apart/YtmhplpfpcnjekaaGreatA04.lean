/- What is held of the trace whil -/
import Derived.Test.YtmhplpfpcnjekaaGreatA01
import Derived.Conc.TokenTrace
import Derived.Conc.Token
import Derived.Conc.CrowdSel
namespace Go.Fxa
open Go.Conc
structure PX (Ac Still:Loc->Prop) (Mem Ak:Nat->Prop) (B h:Nat) (t:Trace):Prop where
 clean:∀said,¬Race said t
 known:∀i a,touchAt t i=some a->a.loc.isMemory=true->Knows t h i\/((a.write=false\/Ac a.loc)/\Still a.loc/\∃g,t.g? i=some g/\Ak g)\/(Ac a.loc/\(a.kind=.atomic/\¬Still a.loc)/\¬t.heard i)
 wrote:∀i a,touchAt t i=some a->a.write=true->(Still a.loc/\¬Ac a.loc)->∀g,Mem g->Knows t g i
 hears:∀g,Mem g->Deaf t g=0
 seen:∀op∈t,op.act.low B
theorem heard_old {t u:Trace} {i:Nat} (h:i<t.size):(t++u).heard i ↔ t.heard i:=by
 unfold Trace.heard;rw[g?_old h];constructor
 ·rintro⟨g,h1,h2⟩;exact⟨g,h1,by rw[deaf_old (Nat.le_of_lt h)]at h2;exact h2⟩
 ·rintro⟨g,h1,h2⟩;exact⟨g,h1,by rw[deaf_old (Nat.le_of_lt h)];exact h2⟩
section
variable {Ac Still:Loc->Prop} {Mem Ak:Nat->Prop} {B h:Nat} {t u:Trace}
theorem PX.mono {B':Nat} (H:PX Ac Still Mem Ak B h t) (hB:B<=B'):PX Ac Still Mem Ak B' h t:=⟨H.clean,H.known,H.wrote,H.hears,fun op AO=>MemAct.low_mono hB (H.seen op AO)⟩
theorem PX.fewer {IQ:Nat->Prop} (H:PX Ac Still Mem Ak B h t) (hM:∀g,IQ g->Mem g):PX Ac Still IQ Ak B h t:=⟨H.clean,H.known,fun i a ha hw hS g hg=>H.wrote i a ha hw hS g (hM g hg),fun g hg=>H.hears g (hM g hg),H.seen⟩
theorem PX.loosen {Loose':Nat->Prop} (H:PX Ac Still Mem Ak B h t) (hL:∀g,Ak g->Loose' g):PX Ac Still Mem Loose' B h t:=
 ⟨H.clean,fun i a ha hm=>(H.known i a ha hm).imp id (.imp (fun⟨x,y,g,hg,hl⟩=>⟨x,y,g,hg,hL g hl⟩) id),H.wrote,H.hears,H.seen⟩
theorem PX.old (H:PX Ac Still Mem Ak B h t) {i:Nat} {a:Touch} {x:MemOp} (Fj:t[i]?=some x) (D5:x.act.touch?=some a) (hm:a.loc.isMemory=true):
  Knows (t++u) h i\/((a.write=false\/Ac a.loc)/\Still a.loc/\∃g,(t++u).g? i=some g/\Ak g)\/(Ac a.loc/\(a.kind=.atomic/\¬Still a.loc)/\¬(t++u).heard i):=by
 have BC:=lt_size_of_getElem? Fj;rcases H.known i a (by rw[touchAt_of Fj];exact D5) hm with hk|⟨p,q,g,hg,hl⟩|⟨p,q,r⟩
 ·exact .inl (hk.app u)
 ·exact .inr (.inl ⟨p,q,g,by rw[g?_old BC];exact hg,hl⟩)
 ·exact .inr (.inr ⟨p,q,by rw[heard_old BC];exact r⟩)
theorem PX.KQ {g:Nat} (H:PX Ac Still Mem Ak B h t) (hu:∀op∈u,op.g=g) (hd:Mem g->Deaf (t++u) g=Deaf t g):∀g',Mem g'->Deaf (t++u) g'=0:=fun g' hg'=>by
 by_cases e:g'=g
 ·subst e;exact(hd hg').trans (H.hears g' hg')
 ·exact(Deaf_other t (fun x=>e x.symm) u hu).trans (H.hears g' hg')
theorem PX.appMute {g:Nat} (H:PX Ac Still Mem Ak B h t) (hu:∀op∈u,op.g=g) (hn:∀op∈u,op.act.touch?=none) (hd:Mem g->Deaf (t++u) g=Deaf t g) (hl:∀op∈u,op.act.low B):PX Ac Still Mem Ak B h (t++u):=by
 refine⟨fun said=>noRace_appendMute (H.clean said) hn,fun i a ha hm=>?_,fun i a ha hw hS g' hg'=>?_,H.KQ hu hd,seen_app H.seen hl⟩
 ·obtain⟨x,hx,D5⟩:=touch_of ha;rcases getElem?_append_cases hx with⟨_,Fj⟩|⟨_,G7⟩
  ·exact H.old Fj D5 hm
  ·rw[hn x G7]at D5;cases D5
 ·obtain⟨x,hx,D5⟩:=touch_of ha;rcases getElem?_append_cases hx with⟨_,Fj⟩|⟨_,G7⟩
  ·exact(H.wrote i a (by rw[touchAt_of Fj];exact D5) hw hS g' hg').app u
  ·rw[hn x G7]at D5;cases D5
theorem PX.appRead {g:Nat} (hSS:∀l,Still l->¬Ac l) (H:PX Ac Still Mem Ak B h t) (hg:Mem g) (hL:Ak g) (hu:∀op∈u,op.g=g) (hr:∀op∈u,∀b,op.act.touch?=some b->b.write=false/\Still b.loc) (hd:Deaf (t++u) g=Deaf t g)
  (hl:∀op∈u,op.act.low B):PX Ac Still Mem Ak B h (t++u):=by
 refine⟨fun said=>noRace_append (H.clean said) hu fun i a ha op AO b hb hc=>?_,fun i a ha hm=>?_,fun i a ha hw hS g' hg'=>?_,H.KQ hu (fun _=>hd),seen_app H.seen hl⟩
 ·obtain⟨hb0,hbS⟩:=hr op AO b hb;rcases hc.2.2.1 with x|x
  ·exact H.wrote i a ha x ⟨hc.1 ▸ hbS,hSS _ (hc.1 ▸ hbS)⟩ g hg
  ·rw[hb0]at x;cases x
 ·obtain⟨x,hx,D5⟩:=touch_of ha;rcases getElem?_append_cases hx with⟨_,Fj⟩|⟨_,G7⟩
  ·exact H.old Fj D5 hm
  ·exact .inr (.inl ⟨.inl (hr x G7 a D5).1,(hr x G7 a D5).2,g,by rw[g?_of hx,hu x G7],hL⟩)
 ·obtain⟨x,hx,D5⟩:=touch_of ha;rcases getElem?_append_cases hx with⟨_,Fj⟩|⟨_,G7⟩
  ·exact(H.wrote i a (by rw[touchAt_of Fj];exact D5) hw hS g' hg').app u
  ·rw[(hr x G7 a D5).1]at hw;cases hw
theorem PX.appH (H:PX Ac Still Mem Ak B h t) (hu:∀op∈u,op.g=h) (hs:∀op∈u,∀b,op.act.touch?=some b->(Still b.loc->b.write=false/\¬Ac b.loc)/\(Ac b.loc->b.kind≠.plain)) (hd:Mem h->Deaf (t++u) h=Deaf t h) (hl:∀op∈u,op.act.low B):
  PX Ac Still Mem Ak B h (t++u):=by
 refine⟨fun said=>noRace_append (H.clean said) hu fun i a ha op AO b hb hc=>?_,fun i a ha hm=>?_,fun i a ha hw hS g hg=>?_,H.KQ hu hd,seen_app H.seen hl⟩
 ·rcases H.known i a ha hc.2.1 with hk|⟨hw,hS,_⟩|⟨hS,⟨hat,_⟩,_⟩
  ·exact hk
  ·obtain⟨hb0,hbs⟩:=(hs op AO b hb).1 (hc.1 ▸ hS);have hw:=hw.resolve_right (fun h=>hbs (hc.1 ▸ h));rcases hc.2.2.1 with x|x
   ·rw[hw]at x;cases x
   ·rw[hb0]at x;cases x
  ·have hkb:=(hs op AO b hb).2 (hc.1 ▸ hS);obtain⟨_,_,_,hcase⟩:=hc;rw[hat]at hcase;rcases hcase with x|x|⟨_,x,_⟩
   ·cases x
   ·exact absurd x hkb
   ·cases x
 ·obtain⟨x,hx,D5⟩:=touch_of ha;rcases getElem?_append_cases hx with⟨_,Fj⟩|⟨_,G7⟩
  ·exact H.old Fj D5 hm
  ·have:=knows_own hx;rw[hu x G7]at this;exact .inl this
 ·obtain⟨x,hx,D5⟩:=touch_of ha;rcases getElem?_append_cases hx with⟨_,Fj⟩|⟨_,G7⟩
  ·exact(H.wrote i a (by rw[touchAt_of Fj];exact D5) hw hS g hg).app u
  ·rw[((hs x G7 a D5).1 hS.1).1]at hw;cases hw
theorem PX.wI {W:Loc->Prop} {g:Nat} (H:PX Ac Still Mem Ak B h t) (hW:∀l,W l->Ac l/\¬Still l) (hpl:∀i a,touchAt t i=some a->W a.loc->a.kind=.plain->Knows t g i) (hg:¬Mem g) (hu:∀op∈u,op.g=g)
  (hs:∀op∈u,∀b,op.act.touch?=some b->W b.loc/\b.kind=.atomic) (hd:∀k,k<u.size->(t++u).deaf g (t.size+k)≠0) (hl:∀op∈u,op.act.low B):PX Ac Still Mem Ak B h (t++u):=by
 refine⟨fun said=>noRace_append (H.clean said) hu fun i a ha op AO b hb hc=>?_,fun i a ha hm=>?_,fun i a ha hw hS g' hg'=>?_,H.KQ hu (fun x=>(hg x).elim),seen_app H.seen hl⟩
 ·obtain⟨hbW,hbk⟩:=hs op AO b hb;obtain⟨h1,_,_,hcase⟩:=hc;rw[hbk]at hcase;rcases hcase with x|x|⟨_,_,x⟩
  ·exact hpl i a ha (h1 ▸ hbW) x
  ·cases x
  ·cases x
 ·obtain⟨x,hx,D5⟩:=touch_of ha;rcases getElem?_append_cases hx with⟨_,Fj⟩|⟨hge,G7⟩
  ·exact H.old Fj D5 hm
  ·obtain⟨h1,h2⟩:=hs x G7 a D5;refine .inr (.inr ⟨(hW _ h1).1,⟨h2,(hW _ h1).2⟩,?_⟩);rintro⟨g',hg',Ih⟩;have BC:=lt_size_of_getElem? hx;rw[Array.size_append]at BC;rw[g?_of hx,hu x G7]at hg';obtain rfl:=Option.some.inj hg';have:=hd (i-t.size) (by omega);rw[show t.size+(i-t.size)=i from by omega]at this;exact this Ih
 ·obtain⟨x,hx,D5⟩:=touch_of ha;rcases getElem?_append_cases hx with⟨_,Fj⟩|⟨_,G7⟩
  ·exact(H.wrote i a (by rw[touchAt_of Fj];exact D5) hw hS g' hg').app u
  ·exact((hW _ (hs x G7 a D5).1).2 hS.1).elim
theorem PX.give {j:Nat} (H:PX Ac Still Mem Ak B h t) (hh:Mem h) (hj:Mem j) (fh:FuncId) (ph:String) (fj:FuncId) (pj:String) {c:Nat} (k cap:Nat) (hc:c<B):
  PX Ac Still Mem (fun g=>Ak g/\g≠j) B j (t++met h j fh ph fj pj c k cap):=by
 have hn:=met_mute h j fh ph fj pj c k cap;have hq:=met_quiet h j fh ph fj pj c k cap;have e0:(t++met h j fh ph fj pj c k cap)[t.size]?=some { g:=h,fn:=fh,pos:=ph,act:=.send c k }:=by simp[met]
 have e3:(t++met h j fh ph fj pj c k cap)[t.size+3]?=some { g:=j,fn:=fj,pos:=pj,act:=.recvDone c k }:=by simp[met]
 have edge:HappensBefore (t++met h j fh ph fj pj c k cap) t.size (t.size+3):=
  Relation.TransGen.single (.inr ⟨.handOver (act?_of e0) (act?_of e3),⟨h,g?_of e0,by rw[deaf_old (Nat.le_refl _)];exact H.hears h hh⟩,⟨j,g?_of e3,by rw[deaf_quiet (hq j) 3 (by simp[met])];exact H.hears j hj⟩⟩);refine⟨fun said=>noRace_appendMute (H.clean said) hn,fun i a ha hm=>?_,fun i a ha hw hS g hg=>?_,fun g hg=>(Deaf_quiet (hq g)).trans (H.hears g hg),seen_app H.seen fun op AO=>?_⟩
 ·obtain⟨x,hx,D5⟩:=touch_of ha;rcases getElem?_append_cases hx with⟨hi,Fj⟩|⟨_,G7⟩
  ·rcases H.known i a (by rw[touchAt_of Fj];exact D5) hm with hk|⟨p,q,g,hg,hl⟩|⟨p,q,r⟩
   ·exact .inl ⟨t.size+3,_,e3,rfl,.inr ((hk.hb_new (Nat.le_refl _) e0 rfl).trans edge)⟩
   ·by_cases e:g=j
    ·subst e;have:=knows_own hx;rw[show x.g=g from by have:=g?_of Fj;rw[hg]at this;exact(Option.some.inj this).symm]at this;exact .inl this
    ·exact .inr (.inl ⟨p,q,g,by rw[g?_old hi];exact hg,hl,e⟩)
   ·exact .inr (.inr ⟨p,q,by rw[heard_old hi];exact r⟩)
  ·rw[hn x G7]at D5;cases D5
 ·obtain⟨x,hx,D5⟩:=touch_of ha;rcases getElem?_append_cases hx with⟨_,Fj⟩|⟨_,G7⟩
  ·exact(H.wrote i a (by rw[touchAt_of Fj];exact D5) hw hS g hg).app _
  ·rw[hn x G7]at D5;cases D5
 ·simp only[met,List.mem_toArray,List.mem_cons,List.not_mem_nil,or_false]at AO;rcases AO with rfl|rfl|rfl|rfl<;>exact hc
theorem PX.born {c:Nat} (H:PX Ac Still Mem Ak B h t) (hh:Mem h) (hc0:Deaf t c=0) (fh:FuncId) (ph:String) (fc:FuncId):
  PX Ac Still (fun g=>Mem g\/g=c) Ak B c (t++#[{ g:=h,fn:=fh,pos:=ph,act:=.go c },{ g:=c,fn:=fc,pos:=ph,act:=.start }]):=by
 generalize hu:(#[{ g:=h,fn:=fh,pos:=ph,act:=.go c },{ g:=c,fn:=fc,pos:=ph,act:=.start }]:Trace)=u;have hn:∀op∈u,op.act.touch?=none:=by
  intro op AO;subst hu
  simp only[List.mem_toArray,List.mem_cons,List.not_mem_nil,or_false]at AO
  rcases AO with rfl|rfl<;>rfl
 have hq:∀g,∀op∈u,∀d,deafStep g d op=d:=by
  intro g op AO d;subst hu
  simp only[List.mem_toArray,List.mem_cons,List.not_mem_nil,or_false]at AO
  rcases AO with rfl|rfl<;>rfl
 have e0:(t++u)[t.size]?=some { g:=h,fn:=fh,pos:=ph,act:=.go c }:=by subst hu;simp
 have e1:(t++u)[t.size+1]?=some { g:=c,fn:=fc,pos:=ph,act:=.start }:=by subst hu;simp
 have edge:HappensBefore (t++u) t.size (t.size+1):=
  Relation.TransGen.single (.inr ⟨.spawn (act?_of e0) (act?_of e1) (g?_of e1),⟨h,g?_of e0,by rw[deaf_old (Nat.le_refl _)];exact H.hears h hh⟩,⟨c,g?_of e1,by rw[deaf_quiet (hq c) 1 (by subst hu;simp)];exact hc0⟩⟩);refine⟨fun said=>noRace_appendMute (H.clean said) hn,fun i a ha hm=>?_,fun i a ha hw hS g hg=>?_,fun g hg=>(Deaf_quiet (hq g)).trans (hg.elim (H.hears g) fun e=>e ▸ hc0),seen_app H.seen fun op AO=>?_⟩
 ·obtain⟨x,hx,D5⟩:=touch_of ha;rcases getElem?_append_cases hx with⟨hi,Fj⟩|⟨_,G7⟩
  ·rcases H.known i a (by rw[touchAt_of Fj];exact D5) hm with hk|⟨p,q,g,hg,hl⟩|⟨p,q,r⟩
   ·exact .inl ⟨t.size+1,_,e1,rfl,.inr ((hk.hb_new (Nat.le_refl _) e0 rfl).trans edge)⟩
   ·exact .inr (.inl ⟨p,q,g,by rw[g?_old hi];exact hg,hl⟩)
   ·exact .inr (.inr ⟨p,q,by rw[heard_old hi];exact r⟩)
  ·rw[hn x G7]at D5;cases D5
 ·obtain⟨x,hx,D5⟩:=touch_of ha;rcases getElem?_append_cases hx with⟨_,Fj⟩|⟨_,G7⟩
  ·have hold:=H.wrote i a (by rw[touchAt_of Fj];exact D5) hw hS;rcases hg with hg|rfl
   ·exact(hold g hg).app u
   ·exact⟨t.size+1,_,e1,rfl,.inr (((hold h hh).hb_new (Nat.le_refl _) e0 rfl).trans edge)⟩
  ·rw[hn x G7]at D5;cases D5
 ·subst hu;simp only[List.mem_toArray,List.mem_cons,List.not_mem_nil,or_false]at AO;rcases AO with rfl|rfl<;>trivial
theorem PX.acquire {c m:Nat} {a:Addr} {op:MemOp} (H:PX Ac Still Mem Ak B h t) (hh:Deaf t h=0) (hm:t[m]?=some op) (hg:op.g=c) (hact:op.act=.mark (.releaseMerge a)) (hd:t.deaf c m=0)
  (GG:∀i b,touchAt t i=some b->t.g? i=some c->(b.write=false\/Ac b.loc)->Still b.loc->Ak c->i<m\/(Ac b.loc/\(b.kind=.atomic/\¬Still b.loc)/\¬t.heard i)) (hno:∀k,m<k->t.act? k≠some (.mark (.release a)))
  (fn:FuncId) (pos:String) (ha:a.block<B):PX Ac Still Mem (fun g=>Ak g/\g≠c) B h (t++#[{ g:=h,fn:=fn,pos:=pos,act:=.mark (.acquire a) }]):=by
 generalize hu:(#[{ g:=h,fn:=fn,pos:=pos,act:=.mark (.acquire a) }]:Trace)=u;have hn:∀op∈u,op.act.touch?=none:=by
  intro op AO;subst hu
  simp only[List.mem_toArray,List.mem_cons,List.not_mem_nil,or_false]at AO
  subst AO;rfl
 have hq:∀g,∀op∈u,∀d,deafStep g d op=d:=by
  intro g op AO d;subst hu
  simp only[List.mem_toArray,List.mem_cons,List.not_mem_nil,or_false]at AO
  subst AO;rfl
 have BC:=lt_size_of_getElem? hm;have e0:(t++u)[t.size]?=some { g:=h,fn:=fn,pos:=pos,act:=.mark (.acquire a) }:=by subst hu;simp
 have em:(t++u)[m]?=some op:=by rw[getElem?_append_old BC];exact hm
 have edge:HappensBefore (t++u) m t.size:=by
  refine Relation.TransGen.single (.inr ⟨.marked (a:=a) BC (.inr (by rw[act?_of em,hact])) (act?_of e0) (fun k h1 h2=>?_),⟨c,by rw[g?_of em,hg],by rw[deaf_old (Nat.le_of_lt BC)];exact hd⟩,⟨h,g?_of e0,by rw[deaf_old (Nat.le_refl _)];exact hh⟩⟩)
  rw[act?_old h2];exact hno k h1
 refine⟨fun said=>noRace_appendMute (H.clean said) hn,fun i b hi hmem=>?_,fun i b hi hw hS g hg=>?_,fun g hg=>(Deaf_quiet (hq g)).trans (H.hears g hg),seen_app H.seen fun op AO=>?_⟩
 ·obtain⟨x,hx,D5⟩:=touch_of hi;rcases getElem?_append_cases hx with⟨Gl,Fj⟩|⟨_,G7⟩
  ·rcases H.known i b (by rw[touchAt_of Fj];exact D5) hmem with hk|⟨p,q,g,hg',hl⟩|⟨p,q,r⟩
   ·exact .inl (hk.app u)
   ·by_cases e:g=c
    ·subst e;rcases GG i b (by rw[touchAt_of Fj];exact D5) hg' p q hl with hlm|⟨p,q,r⟩
     ·refine .inl ⟨t.size,_,e0,rfl,.inr ((hb_po hlm (by rw[getElem?_append_old Gl];exact Fj) em ?_).trans edge)⟩;have:=g?_of Fj;rw[hg']at this;rw[hg];exact(Option.some.inj this).symm
     ·exact .inr (.inr ⟨p,q,by rw[heard_old Gl];exact r⟩)
    ·exact .inr (.inl ⟨p,q,g,by rw[g?_old Gl];exact hg',hl,e⟩)
   ·exact .inr (.inr ⟨p,q,by rw[heard_old Gl];exact r⟩)
  ·rw[hn x G7]at D5;cases D5
 ·obtain⟨x,hx,D5⟩:=touch_of hi;rcases getElem?_append_cases hx with⟨_,Fj⟩|⟨_,G7⟩
  ·exact(H.wrote i b (by rw[touchAt_of Fj];exact D5) hw hS g hg).app u
  ·rw[hn x G7]at D5;cases D5
 ·subst hu;simp only[List.mem_toArray,List.mem_cons,List.not_mem_nil,or_false]at AO;subst AO;exact ha
theorem PX.ofPast (H:Past Ac B t) (hS:∀l,Still l->l.isMemory=true) (hSS:∀l,Still l->¬Ac l):PX Ac Still (fun g=>g=0) (fun _=>False) B 0 t:=by
 refine⟨H.clean,fun i a ha hm=>?_,fun i a ha _ hs _ hg=>hg ▸ (H.known i a ha (hS _ hs.1)).elim id (fun x=>(hSS _ hs.1 x.1).elim),fun _ hg=>hg ▸ H.hears,H.seen⟩;rcases H.known i a ha hm with hk|⟨h1,h2⟩
 ·exact .inl hk
 ·by_cases hh:t.heard i
  ·obtain⟨op,AO,hoa⟩:=touch_of ha;by_cases h0:op.g=0
   ·have:=knows_own AO;rw[h0]at this;exact .inl this
   ·obtain⟨j,hj,hb⟩:=H.over i op.g (g?_of AO) h0 ⟨a,ha,hm,.inr hh⟩;obtain⟨z,hz,hz0⟩:=Option.map_eq_some_iff.1 (show(t[j]?).map (·.g)=some 0 from hj);exact .inl ⟨j,z,hz,hz0,.inr hb⟩
  ·exact .inr (.inr ⟨h1,⟨h2,fun hs=>hSS _ hs h1⟩,hh⟩)
theorem PX.toPast {KN:Loc->Prop} (H:PX Ac Still Mem Ak B 0 t) (h0:Deaf t 0=0) (hL:∀g,¬Ak g) (hS:∀l,Ac l->¬Still l->KN l):Past KN B t:=by
 have hk:∀i a,touchAt t i=some a->a.loc.isMemory=true->Knows t 0 i\/(KN a.loc/\a.kind=.atomic/\¬t.heard i):=fun i a ha hm=>
  (H.known i a ha hm).imp id fun x=>x.elim (fun⟨_,_,g,_,hl⟩=>(hL g hl).elim) fun⟨h1,h2,h3⟩=>⟨hS _ h1 h2.2,h2.1,h3⟩
 refine⟨H.clean,fun i a ha hm=>(hk i a ha hm).imp id fun x=>⟨x.1,x.2.1⟩,fun i g hg BN ⟨x,hx,hm,hc⟩=>?_,h0,H.seen⟩;rcases hk i x hx hm with⟨q,z,hq,hz,hb⟩|⟨_,h2,h3⟩
 ·rcases hb with rfl|hb
  ·rw[g?_of hq,hz]at hg;exact absurd (Option.some.inj hg).symm BN
  ·exact⟨q,by rw[g?_of hq,hz],hb⟩
 ·rcases hc with hc|hc
  ·exact(hc h2).elim
  ·exact(h3 hc).elim
theorem PX.rD (H:PX Ac Still Mem Ak B h t) (hn:∀op∈u,op.act.touch?=none) (hd:∀g,Deaf (t++u) g=Deaf t g) (hl:∀op∈u,op.act.low B):PX Ac Still Mem Ak B h (t++u):=by
 refine⟨fun said=>noRace_appendMute (H.clean said) hn,fun i a ha hm=>?_,fun i a ha hw hS g' hg'=>?_,fun g hg=>(hd g).trans (H.hears g hg),seen_app H.seen hl⟩
 ·obtain⟨x,hx,D5⟩:=touch_of ha;rcases getElem?_append_cases hx with⟨_,Fj⟩|⟨_,G7⟩
  ·exact H.old Fj D5 hm
  ·rw[hn x G7]at D5;cases D5
 ·obtain⟨x,hx,D5⟩:=touch_of ha;rcases getElem?_append_cases hx with⟨_,Fj⟩|⟨_,G7⟩
  ·exact(H.wrote i a (by rw[touchAt_of Fj];exact D5) hw hS g' hg').app u
  ·rw[hn x G7]at D5;cases D5
theorem PX.VO {j:Nat} (H:PX Ac Still Mem Ak B h t) (fh:FuncId) (ph:String) (fj:FuncId) (pj:String) {c:Nat} (k cap:Nat) (hc:c<B):PX Ac Still Mem Ak B h (t++met h j fh ph fj pj c k cap):=
 H.rD (met_mute h j fh ph fj pj c k cap) (fun g=>Deaf_quiet (met_quiet h j fh ph fj pj c k cap g)) fun op AO=>by
  simp only[met,List.mem_toArray,List.mem_cons,List.not_mem_nil,or_false]at AO
  rcases AO with rfl|rfl|rfl|rfl<;>exact hc
def zl (Ac Still:Loc->Prop) (g:Nat) (t:Trace):Prop:=∀i a,touchAt t i=some a->Still a.loc->Ac a.loc->Knows t g i
theorem zl.app {g:Nat} (H:zl Ac Still g t) (hu:∀op∈u,∀b,op.act.touch?=some b->Still b.loc->Ac b.loc->op.g=g):zl Ac Still g (t++u):=by
 intro i a ha hs hsh;obtain⟨x,hx,D5⟩:=touch_of ha;rcases getElem?_append_cases hx with⟨_,Fj⟩|⟨_,G7⟩
 ·exact(H i a (by rw[touchAt_of Fj];exact D5) hs hsh).app u
 ·have:=knows_own hx;rw[hu x G7 a D5 hs hsh]at this;exact this
theorem PX.wH {g:Nat} (H:PX Ac Still Mem Ak B h t) (hM:¬Mem g) (hL:Ak g) (hk:zl Ac Still g t) (hu:∀op∈u,op.g=g) (hs:∀op∈u,∀b,op.act.touch?=some b->Still b.loc/\Ac b.loc) (hl:∀op∈u,op.act.low B):PX Ac Still Mem Ak B h (t++u):=by
 refine⟨fun said=>noRace_append (H.clean said) hu fun i a ha op AO b hb hc=>?_,fun i a ha hm=>?_,fun i a ha hw hS g' hg'=>?_,H.KQ hu (fun x=>(hM x).elim),seen_app H.seen hl⟩
 ·obtain⟨h1,h2⟩:=hs op AO b hb;exact hk i a ha (hc.1 ▸ h1) (hc.1 ▸ h2)
 ·obtain⟨x,hx,D5⟩:=touch_of ha;rcases getElem?_append_cases hx with⟨_,Fj⟩|⟨_,G7⟩
  ·exact H.old Fj D5 hm
  ·exact .inr (.inl ⟨.inr (hs x G7 a D5).2,(hs x G7 a D5).1,g,by rw[g?_of hx,hu x G7],hL⟩)
 ·obtain⟨x,hx,D5⟩:=touch_of ha;rcases getElem?_append_cases hx with⟨_,Fj⟩|⟨_,G7⟩
  ·exact(H.wrote i a (by rw[touchAt_of Fj];exact D5) hw hS g' hg').app u
  ·exact(hS.2 (hs x G7 a D5).2).elim
theorem PX.ax9 {Lt:Loc->Prop} (H:PX Ac Still Mem Ak B h t) (h1:∀l,Lt l->¬Ac l):PX (fun l=>Ac l\/Lt l) (fun l=>Still l\/Lt l) Mem Ak B h t:=by
 refine⟨H.clean,fun i a ha hm=>?_,fun i a ha hw hs=>H.wrote i a ha hw ⟨hs.1.resolve_right fun h=>hs.2 (.inr h),fun h=>hs.2 (.inl h)⟩,H.hears,H.seen⟩;rcases H.known i a ha hm with hk|⟨x,y,z⟩|⟨x,⟨y,z⟩,k⟩
 ·exact .inl hk
 ·exact .inr (.inl ⟨x.imp id .inl,.inl y,z⟩)
 ·exact .inr (.inr ⟨.inl x,⟨y,fun h=>h.elim z fun h=>h1 _ h x⟩,k⟩)
theorem PX.knL {Lt:Loc->Prop} (H:PX Ac Still Mem Ak B h t) (hm:∀l,Lt l->l.isMemory=true) (h1:∀l,Lt l->¬Ac l) (h2:∀l,Lt l->¬Still l) (h3:∀l,Still l->¬Ac l):zl (fun l=>Ac l\/Lt l) (fun l=>Still l\/Lt l) h t:=by
 intro i a ha hs hsh;have hL:Lt a.loc:=by
  rcases hs with hs|hs
  ·exact hsh.resolve_left (h3 _ hs)
  ·exact hs
 rcases H.known i a ha (hm _ hL)with hk|⟨_,y,_⟩|⟨x,_⟩
 ·exact hk
 ·exact(h2 _ hL y).elim
 ·exact(h1 _ hL x).elim
end
section
variable {P:Program} {α β:Type} {r:Nat} {K:α->Prop}
theorem Gh {s:String}:DK P r (stuck s:Sem α):=fun w es a w' BQ _ _ h=>by simp[stuck]at h
theorem Cs {u:Unsupported}:DK P r (unsupported u:Sem α):=fun w es a w' BQ _ _ h=>by simp[unsupported]at h
theorem LD {f:Option (TypeId×Nat)->Sem α} (h:DK P r (f none)):DK P r (shape r>>= f):=fun w es a w' BQ hp hd he=>by
 have h1:(f (w.shape? r)).runT P w es=(.ok a w',BQ):=he;have e:w.shape? r=none:=by unfold World.shape?;rw[hd];rfl
 rw[e]at h1;exact h w es a w' BQ hp hd h1
theorem IG {f:Obj->Sem α} (h:DK P r (f CB)):DK P r (getObj r>>= f):=fun w es a w' BQ hp hd he=>by
 have h1:(f CB).runT P w (es.push ⟨.obj r,false,CB.isChan⟩)=(.ok a w',BQ):=by
  have:(Sem.getObj r f).runT P w es=(.ok a w',BQ):=he
  simp only[Sem.runT,hd]at this
  exact this
 exact h w _ a w' BQ hp hd h1
theorem YP {q:Nat} {f:Option (TypeId×Nat)->Sem α} (h:∀s,DK P r (f s)):DK P r (shape q>>= f):=fun w es a w' BQ hp hd he=>h _ w es a w' BQ hp hd he
theorem Wp {q:Nat} {f:Obj->Sem α} (h:∀o,DK P r (f o)):DK P r (getObj q>>= f):=fun w es a w' BQ hp hd he=>by
 have:(Sem.getObj q f).runT P w es=(.ok a w',BQ):=he;simp only[Sem.runT]at this;split at this
 ·simp at this
 ·exact h _ w _ a w' BQ hp hd this
 ·simp at this
theorem U2 {e:Sem β} {f:β->Sem α} (h:DK P r e):DK P r (e>>= f):=h.bind
theorem Sa {c:Prop} [Decidable c] {x y:Sem α} (h1:c->DK P r x) (h2:¬c->DK P r y):DK P r (if c then x else y):=by
 split
 ·exact h1 ‹_›
 ·exact h2 ‹_›
theorem CJ {e:Sem α} (h:e.Am P fun _=>False):DK P r e:=fun w es a w' BQ hp _ he=>by
 obtain⟨_,_,hf,_⟩:=Pp (Od:=JG) (Z:=fun _=>False) (w:=w) h (@Twin.mk JG _ _ _ rfl (fun _ _ _=>rfl) (fun _ h=>h.elim) hp rfl rfl (fun _ h=>False.elim h) (fun _ h=>False.elim h) (fun _ h=>False.elim h)) (fun _ h=>h.elim) he (fun _ _ _=>rfl);exact hf
theorem DR {u:Unsupported} (h:∀g,u≠.initOrder g):(unsupported u:Sem α).Am P K:=by
 cases u<;>first|rfl|exact(h _ rfl).elim
theorem YO {f:Option (Addr×TypeId)->Sem α} (h:DK P r (f (some (⟨0,0,some 0⟩,0)))):DK P r (viewAt r>>= f):=
 LD (f:=fun s=>(if s.isSome then pure none else getObj r>>= fun o=>match o with | .view a t=>pure (some (a,t))|_=>pure none)>>= f) (IG (f:=fun o=>(match o with | .view a t=>pure (some (a,t))|_=>pure none)>>= f) h)
theorem rU {f:Option (Addr×Bool)->Sem α} (h:DK P r (f none)):DK P r (numberAt r>>= f):=
 LD (f:=fun s=>(if s.isSome then pure none else getObj r>>= fun o=>match o with | .number a l=>pure (some (a,l))|_=>pure none)>>= f) (IG (f:=fun o=>(match o with | .number a l=>pure (some (a,l))|_=>pure none)>>= f) h)
theorem QJ {f:Option (Addr×TypeId)->Sem α} (h:∀x,(f x).Am P K) (hd:DK P r (f (some (⟨0,0,some 0⟩,0)))):(viewAt r>>= f).Am P K:=by
 refine⟨fun s=>?_,?_⟩
 ·cases s with
  | some x=>exact h none
  | none=>exact⟨fun o _=>by cases o<;>exact h _,hd⟩
 ·exact IG (f:=fun o=>(match o with | .view a t=>pure (some (a,t))|_=>pure none)>>= f) hd
theorem Ub {f:Option (Addr×Bool)->Sem α} (h:∀x,(f x).Am P K) (hd:DK P r (f none)):(numberAt r>>= f).Am P K:=by
 refine⟨fun s=>?_,?_⟩
 ·cases s with
  | some x=>exact h none
  | none=>exact⟨fun o _=>by cases o<;>exact h _,hd⟩
 ·exact IG (f:=fun o=>(match o with | .number a l=>pure (some (a,l))|_=>pure none)>>= f) hd
end
section
variable {P:Program}
theorem Md {op:BinOp} {k:FloatKind} {x y:Nat}:(Op.floatArith op k x y).Am P fun _=>True:=by
 unfold Op.floatArith;have jp:∀r:Option Nat,(match r with
   | some r=>pure (Value.float k r)
   | none=>do pure (Value.float k (<-choose (.nanBits k x y))):Sem Value).Am P fun _=>True:=fun r=>by
  cases r with
  | none=>exact Aa Em fun _=>trivial
  | some _=>trivial
 cases op<;>first|exact jp _|exact Ai
theorem Ic {op:BinOp} {k:FloatKind} {x y:Nat}:(Op.floatCmp op k x y).Am P fun _=>True:=by
 unfold Op.floatCmp;cases op<;>first|trivial|rfl
theorem Fv {op:BinOp} {k:FloatKind} {x y:Nat}:(Op.Complex.arith op k x y).Am P fun _=>True:=by
 unfold Op.Complex.arith;refine Aa Md fun v=>?_
 cases v<;>first|trivial|rfl
theorem MC {op:BinOp} {k:FloatKind} {x y:Nat}:(Op.Complex.cmp op k x y).Am P fun _=>True:=Aa Ic fun _=>Kj
theorem P6 {s d:FloatKind} {b:Nat}:(Conv.floatToFloat s b d).Am P fun _=>True:=by
 unfold Conv.floatToFloat
 repeat' first|exact trivial|exact rfl|refine Aa Em fun _=>?_|refine Ay (fun _=>?_) fun _=>?_|split
theorem Gq {s d:FloatKind} {x:Nat}:(Op.Complex.conv s x d).Am P fun _=>True:=by
 unfold Op.Complex.conv;refine Ay (fun _=>trivial) fun _=>Aa P6 fun v=>?_
 cases v<;>first|trivial|rfl
theorem V3 {a b c d:Nat}:(Op.Complex.product a b c d).Am P fun _=>True:=by
 unfold Op.Complex.product
 repeat' first|exact trivial|refine Aa Fv fun _=>?_
theorem Na {s a b c d:Nat}:(Op.Complex.corrected s a b c d).Am P fun _=>True:=by
 unfold Op.Complex.corrected
 repeat' first|exact trivial|refine Aa Fv fun _=>?_
theorem Nq {x y:Nat}:(Op.Complex.add x y).Am P fun _=>True:=Fv
theorem UO {x y:Nat}:(Op.Complex.sub x y).Am P fun _=>True:=Fv
theorem Gr {x y:Nat}:(Op.Complex.mul x y).Am P fun _=>True:=Fv
theorem Jo {x y:Nat}:(Op.Complex.quo x y).Am P fun _=>True:=Fv
theorem Ua {a b c d:Nat}:(Op.Complex.quotient a b c d).Am P fun _=>True:=by
 unfold Op.Complex.quotient;refine Aa MC fun t=>?_
 extract_lets jp
 have hj:∀x,(jp x).Am P fun _=>True:=fun⟨e,f⟩=>by
  refine Aa MC fun u=>Aa MC fun u'=>?_
  refine Ay (fun _=>Ad trivial) fun _=>Ay (fun _=>Aa Gr fun _=>Aa Gr fun _=>Ad trivial) fun _=>Ay (fun _=>Na) fun _=>Ay (fun _=>Na) fun _=>Ad trivial
 clear_value jp
 refine Ay (fun _=>?_) fun _=>?_
 ·exact Aa Jo fun _=>Aa Gr fun _=>Aa Nq fun _=>Aa Gr fun _=>Aa Nq fun _=>Aa Jo fun _=>Aa Gr fun _=>Aa UO fun _=>Aa Jo fun _=>Aa (Ad trivial) fun _=>hj _
 ·exact Aa Jo fun _=>Aa Gr fun _=>Aa Nq fun _=>Aa Gr fun _=>Aa Nq fun _=>Aa Jo fun _=>Aa Gr fun _=>Aa UO fun _=>Aa Jo fun _=>Aa (Ad trivial) fun _=>hj _
theorem JS {op:BinOp} {k:FloatKind} {a b c d:Nat}:(Op.complexOp op k a b c d).Am P fun _=>True:=by
 unfold Op.complexOp;cases op<;>first
  | exact rfl
  | exact Aa Fv fun _=>Aa Fv fun _=>trivial
  | exact Aa MC fun _=>Aa MC fun _=>trivial
  | (refine Aa Gq fun _=>Aa Gq fun _=>Aa Gq fun _=>Aa Gq fun _=>?_
     first
      | exact Aa V3 fun _=>Aa Gq fun _=>Aa Gq fun _=>trivial
      | exact Aa Ua fun _=>Aa Gq fun _=>Aa Gq fun _=>trivial)
theorem Ga {op:BinOp} {x y:ByteArray}:(Op.stringOp op x y).Am P fun _=>True:=by
 unfold Op.stringOp;cases op<;>first|trivial|rfl|exact Ay (fun _=>rfl) fun _=>trivial
theorem Sr {op:BinOp} {k yk:IntKind} {x y:Int}:(Op.shift op k x yk y).Am P fun _=>True:=by
 unfold Op.shift;refine Ay (fun _=>AX) fun _=>?_
 cases op<;>first|trivial|rfl
theorem Oe {op:BinOp} {k:IntKind} {x y:Int}:(Op.intArith op k x y).Am P fun _=>True:=by
 unfold Op.intArith;cases op<;>first|trivial|rfl
theorem Yp {op:BinOp} {k:IntKind} {x y:Int}:(Op.intDiv op k x y).Am P fun _=>True:=by
 unfold Op.intDiv;refine Ay (fun _=>AX) fun _=>?_
 cases op<;>first|trivial|rfl
theorem PN {op:BinOp} {k:IntKind} {x y:Int}:(Op.intBits op k x y).Am P fun _=>True:=by
 unfold Op.intBits;cases op<;>first|trivial|rfl
theorem ML {op:BinOp} {x y:Int}:(Op.intCmp op x y).Am P fun _=>True:=by
 unfold Op.intCmp;cases op<;>first|trivial|rfl
theorem aT {op:UnOp} {x:Value}:(Op.unary op x).Am P fun _=>True:=by
 unfold Op.unary;split<;>first|exact Oe|exact PN|trivial|rfl
/-! ### pointers where numbers are asked for -/
theorem MP {a:Addr}:(byteOf a).Am P fun _=>True:=by
 unfold byteOf;cases hs:a.spot with
 | some s=>trivial
 | none=>
  refine Aa (AU Cq) fun p=>?_
  have h1:(noView a).Am P fun _=>True:=QJ (r:=a.block) (fun x=>by
   cases x with
   | none=>exact Ad trivial
   | some y=>exact rfl) Cs
  refine Aa h1 fun _=>⟨fun s=>?_,Gh⟩
  cases s with
  | none=>exact Ai
  | some x=>
   obtain⟨e,n⟩:=x
   refine Ay (fun _=>Ad trivial) fun _=>?_
   split
   ·exact Ad trivial
   ·exact Ai
end
section
variable {P:Program} {α:Type} {r:Nat} {K:α->Prop}
theorem Ce {n:Addr} {f:Addr×Bool->Sem α} (h:∀x,(f x).Am P K) (hd:DK P n.block (f (n,false))):(behindNumber n>>= f).Am P K:=by
 refine⟨fun s=>?_,?_⟩
 ·cases s with
  | some x=>exact h _
  | none=>exact⟨fun o _=>by cases o<;>exact h _,hd⟩
 ·exact IG (f:=fun o=>((match o with | .number a l=>pure (some (a,l))|_=>pure none)>>= fun x=>pure (x.getD (n,false)))>>= f) hd
theorem FR {n:Addr} {f:Addr×Bool->Sem α} (h:∀x,DK P r (f x)):DK P r (behindNumber n>>= f):=
 YP (f:=fun s=>((if s.isSome then pure none else getObj n.block>>= fun o=>match o with | .number a l=>pure (some (a,l))|_=>pure none)>>= fun x=>pure (x.getD (n,false)))>>= f) fun s=>by
  cases s with
  | some x=>exact h _
  | none=>exact Wp (f:=fun o=>((match o with | .number a l=>pure (some (a,l))|_=>pure none)>>= fun x=>pure (x.getD (n,false)))>>= f) fun o=>by cases o<;>exact h _
end
section
variable {P:Program}
theorem MX (hG:P.globals.size=0) {a b:Addr}:(Op.twoPlaces a b).Am P fun _=>False:=by
 unfold Op.twoPlaces;refine CX Cq fun p hp=>?_
 subst hp;have:(a.block !=b.block || decide (a.block≥p.globals.size))=true:=by simp[hG]
 rw[if_pos this];exact rfl
theorem LM (hG:P.globals.size=0) {k:IntKind} {a b:Addr}:(Op.addrSub k a b).Am P fun _=>False:=CX (MX hG) fun _ h=>h.elim
theorem CF (hG:P.globals.size=0) {op:BinOp} {a b:Addr}:(Op.addrCmp op a b).Am P fun _=>False:=CX (MX hG) fun _ h=>h.elim
theorem LP {k:IntKind} {a:Addr} {n:Int}:(Op.addrMod k a n).Am P fun _=>True:=by
 refine⟨fun s=>?_,Cs⟩;cases s with
 | none=>exact rfl
 | some x=>
  obtain⟨e,m⟩:=x
  refine CX (e:=Sem.pure (some (e,m))) (K:=fun x=>x=some (e,m)) rfl fun x hx=>?_
  subst hx
  exact Aa (AU F8) fun i=>Ay (fun _=>rfl) fun _=>Aa MP fun _=>Ad trivial
theorem LV {k:IntKind} {a:Addr} {n:Int}:DK P a.block (Op.addrMod k a n):=LD (f:=fun _=>_) Cs
theorem G5 {t:TypeId} {x y:Value}:(Builtin.unsafeAdd_ #[] t #[x,y]).Am P fun _=>True:=by
 unfold Builtin.unsafeAdd_;cases x with
 | pointer ptr=>
  refine Aa JO fun n=>Ay (fun _=>?_) fun _=>?_
  ·cases ptr with
   | none=>exact rfl
   | some a=>
    refine QJ (fun x=>?_) Cs
    cases x with
    | none=>exact Ad trivial
    | some y=>exact rfl
  ·refine Ay (fun _=>rfl) fun _=>?_
   cases ptr with
   | none=>exact rfl
   | some a=>
    refine⟨fun s=>?_,Cs⟩
    cases s with
    | none=>exact rfl
    | some x=>
     obtain⟨e,m⟩:=x
     refine CX (e:=Sem.pure (some (e,m))) (K:=fun x=>x=some (e,m)) rfl fun x hx=>?_
     subst hx
     refine Aa (AU Cq) fun p=>?_
     split
     ·exact Ad trivial
     ·exact rfl
 | _=>exact rfl
theorem Nc {t:TypeId} {a:Addr} {y:Value}:DK P a.block (Builtin.unsafeAdd_ #[] t #[.pointer (some a),y]):=by
 unfold Builtin.unsafeAdd_;cases y with
 | int k n=>
  refine Sa (fun _=>?_) fun _=>Sa (fun _=>Cs) fun _=>?_
  ·exact YO Cs
  ·exact LD (f:=fun _=>_) Cs
 | pointer a=>cases a<;>first|exact Gh|exact Cs
 | _=>exact Gh
theorem Ug {a:Addr} {l:Bool}:(asNumber a l).Am P fun _=>True:=Aa (Ki rfl) fun _=>Ad trivial
theorem HY {t:TypeId} {x y:Value}:(movedNumber t x y).Am P fun _=>True:=by
 unfold movedNumber;refine Aa (AU Au) fun d=>?_
 have key:∀(x:Value),(match x with
   | .pointer (some n)=>do
    let (a,lost)<-behindNumber n
    match<-Builtin.unsafeAdd_ #[] t #[.pointer (some a),y]with
    | .pointer (some b)=>asNumber b lost
    | v=>pure v
   | _=>Builtin.unsafeAdd_ #[] t #[x,y]:Sem Value).Am P fun _=>True:=fun x=>by
  split
  ·refine Ce (fun z=>?_) (U2 Nc);refine Aa G5 fun v=>?_
   split
   ·exact Ug
   ·exact Ad trivial
  ·exact G5
 refine Ay (fun _=>rfl) fun _=>key x
theorem P5 {t:TypeId} {x y:Value}:(movedPointer t x y).Am P fun _=>True:=by
 unfold movedPointer;split
 ·refine Ub (fun z=>?_) (Sa (fun h=>by cases h) fun _=>Nc);refine Ay (fun _=>rfl) fun _=>G5
 ·exact G5
theorem bF (hG:P.globals.size=0) {op:BinOp} (h1:op≠.eql) (h2:op≠.neq) {t:TypeId} {x y:Value}:(binOp op t x y).Am P fun _=>True:=by
 unfold binOp;split
 ·exact Sr
 ·exact Sr
 ·refine Ay (fun _=>rfl) fun _=>?_
  cases op<;>first|exact Oe|exact Yp|exact PN|exact ML
 ·refine Ay (fun _=>rfl) fun _=>?_
  cases op<;>first|exact Md|exact Ic
 ·exact Ay (fun _=>rfl) fun _=>JS
 ·exact Ga
 ·exact(h1 rfl).elim
 ·exact(h2 rfl).elim
 ·exact Aa (AU Au) fun d=>Ay (fun _=>P5) fun _=>HY
 ·exact HY
 ·exact HY
 ·exact Ce (fun z=>Ce (fun z=>AU (LM hG)) (CJ (LM hG))) (FR fun z=>CJ (LM hG))
 ·exact Ce (fun z=>Ce (fun z=>AU (CF hG)) (CJ (CF hG))) (FR fun z=>CJ (CF hG))
 ·exact Ce (fun z=>Ce (fun z=>AU (CF hG)) (CJ (CF hG))) (FR fun z=>CJ (CF hG))
 ·exact Ce (fun z=>Ce (fun z=>AU (CF hG)) (CJ (CF hG))) (FR fun z=>CJ (CF hG))
 ·exact Ce (fun z=>Ce (fun z=>AU (CF hG)) (CJ (CF hG))) (FR fun z=>CJ (CF hG))
 ·exact Ce (fun z=>LP) LV
 ·exact Ce (fun z=>LP) LV
 ·exact Ce (fun z=>LP) LV
 ·exact rfl
 ·exact rfl
 ·exact rfl
end
section
variable {P:Program} {gs:Array Goroutine} {w w₁:World} {sl:Option (W_)} {i j:Nat} {g g₂ gj:Goroutine} {es:Array Event} {cases cj:Array CommCase} {shape shj:CommShape} {k kj c cap s r:Nat} {buf:X_} {tm:Bool} {v z zj:Value} {blocking:Bool}
theorem Tx (hi:gs[i]?=some g) (h:stepG P (i==0) g w=.comm g₂ cases blocking shape w₁ es) (hk:cases[k]?=some (scase c v z))
  (ho:∀(m:Nat) (c':CommCase),m≠k->cases[m]?=some c'->NoWays w₁ (gs.setIfInBounds i ph) c')
  (hc:w₁.heap[c]?=some (.chan cap buf false s r tm)) (hij:j≠i) (hj:gs[j]?=some (parked gj cj shj)) (hkj:cj[kj]?=some (rcase c zj)) (hp:partners (gs.setIfInBounds i ph) c false=[(j,kj)]):
  runT P (crowd gs w sl) i=(.next (crowd ((gs.setIfInBounds j (Conc.served gj (commResult cj shj kj v true))).setIfInBounds i (Conc.served g₂ (commResult cases shape k undef false))) (w₁.setChan c cap buf false (s+1) (r+1) tm) sl),
   MemOp.ofEvents i g.frame.fn g.frame.place es++#[{ g:=i,fn:=g₂.frame.fn,pos:=g₂.frame.place,act:=.send c s },{ g:=j,fn:=gj.frame.fn,pos:=gj.frame.place,act:=.recv c r cap },
    { g:=i,fn:=g₂.frame.fn,pos:=g₂.frame.place,act:=.sendDone c s },{ g:=j,fn:=gj.frame.fn,pos:=gj.frame.place,act:=.recvDone c r }]):=by
 have hw:ways w₁ (gs.setIfInBounds i ph) (scase c v z)=[.partner j kj]:=by simp[ways,scase,hc,hp]
 have hj':=stand_get (i:=i) hij hj;have hfp:=finishPartner_at P (gs.setIfInBounds i ph) hj' (cs:=cj) (sh:=shj) rfl kj v;have hgd:(gs.setIfInBounds i ph).getD j default=parked gj cj shj:=by rw[Array.getD_eq_getD_getElem?,hj'];rfl
 rw[runT_crowd_comm hi h];unfold communicate;simp only[ready_one hk (by rw[hw];simp) ho,hw];rw[if_neg]
 ·simp[choose,Sem.run,Question.forced,bind,Sem.bind,pure,scase,crowd,hc,hfp,hgd,set_stand2,hkj,rcase,parked,World.setChan]
  rfl
 ·rw[Bool.not_eq_true];exact any_ill (made_of_one hk (made_send v z hc) ho)
theorem Nb (hi:gs[i]?=some g) (h:stepG P (i==0) g w=.comm g₂ cases blocking shape w₁ es) (hk:cases[k]?=some (rcase c z))
  (ho:∀(m:Nat) (c':CommCase),m≠k->cases[m]?=some c'->NoWays w₁ (gs.setIfInBounds i ph) c')
  (hc:w₁.heap[c]?=some (.chan cap #[] false s r tm)) (hij:j≠i) (hj:gs[j]?=some (parked gj cj shj)) (hkj:cj[kj]?=some (scase c v zj)) (hp:partners (gs.setIfInBounds i ph) c true=[(j,kj)]):
  runT P (crowd gs w sl) i=(.next (crowd ((gs.setIfInBounds j (Conc.served gj (commResult cj shj kj undef false))).setIfInBounds i (Conc.served g₂ (commResult cases shape k v true))) (w₁.setChan c cap #[] false (s+1) (r+1) tm) sl),
   MemOp.ofEvents i g.frame.fn g.frame.place es++#[{ g:=j,fn:=gj.frame.fn,pos:=gj.frame.place,act:=.send c s },{ g:=i,fn:=g₂.frame.fn,pos:=g₂.frame.place,act:=.recv c r cap },
    { g:=j,fn:=gj.frame.fn,pos:=gj.frame.place,act:=.sendDone c s },{ g:=i,fn:=g₂.frame.fn,pos:=g₂.frame.place,act:=.recvDone c r }]):=by
 have hw:ways w₁ (gs.setIfInBounds i ph) (rcase c z)=[.partner j kj]:=by simp[ways,rcase,hc,hp]
 have hj':=stand_get (i:=i) hij hj;have hfp:=finishPartner_at P (gs.setIfInBounds i ph) hj' (cs:=cj) (sh:=shj) rfl kj undef;have hgd:(gs.setIfInBounds i ph).getD j default=parked gj cj shj:=by rw[Array.getD_eq_getD_getElem?,hj'];rfl
 have hov:offeredValue (gs.setIfInBounds i ph) j kj=v:=by simp[offeredValue,hj',parked,hkj,scase]
 rw[runT_crowd_comm hi h];unfold communicate;simp only[ready_one hk (by rw[hw];simp) ho,hw];rw[if_neg]
 ·simp[choose,Sem.run,Question.forced,bind,Sem.bind,pure,rcase,crowd,hc,hfp,hgd,hov,set_stand2,hkj,scase,parked,World.setChan]
  rfl
 ·rw[Bool.not_eq_true];exact any_ill (made_of_one hk (made_recv z hc) ho)
end
end Go.Fxa
