/- A kernel of many processes: on -/
import Derived.Test.YtmhplpfpcnjekaaGreatA35
namespace Go.Fxa
open Conc Proofs RowKit Proofs.Tryz
set_option maxRecDepth 1000000
set_option maxHeartbeats 0
def Cj (K:KS) (b:Nat) (r:PR) (w w':World):Prop:=∃(A B P:Nat) (Ah:List Nat),A<65536/\B<65536/\P<65536/\Ah.length=r.Ah.length/\(∀x∈Ah,x<65536)/\AQ (K.Cg b { r with A:=A,B:=B,P:=P,Ah:=Ah }) w'/\Bw K.T K.T w w'
theorem Cj.no {K:KS} {b:Nat} {r:PR} {w w':World} (h:AQ K w) (hb:K.ps b=some r) (o:r.Ok) (hK:Ab No w w'):Cj K b r w w':=by
 refine⟨r.A,r.B,r.P,r.Ah,o.A,o.B,o.P,rfl,o.Ah,?_,Bw.no hK h.lt⟩;have e:({ r with A:=r.A,B:=r.B,P:=r.P,Ah:=r.Ah }:PR)=r:=rfl;rw[e,EJ hb];exact h.no hK
theorem Cj.zx {K:KS} {b x:Nat} {r:PR} {w:World} (h:AQ K w) (hb:K.ps b=some r) (o:r.Ok) (hx:x<65536):Cj K b r w (w.setCell (T_ b 5) (.int .u16 (x:Nat))):=
 ⟨x,r.B,r.P,r.Ah,hx,o.B,o.P,rfl,o.Ah,h.like (r':={ r with A:=x }) (i:=5) (v:=.int .u16 (x:Nat)) hb ⟨rfl,rfl,rfl,rfl,rfl⟩ rfl (h.ps b r hb).bl,h.C8 hb⟩
theorem Cj.word {K:KS} {b g c i x:Nat} {r:PR} {w:World} (h:AQ K w) (hb:K.ps b=some r) (hn:r.en=false) (o:r.Ok) (hx:x<65536) (h1:r.im=.slice (some (S_ g)) r.Ah.length c):Cj K b r w (w.setCell (T_ g i) (.int .u16 (x:Nat))):=by
 obtain⟨a,M⟩:=h.Rk (i:=i) (x:=x) hb hn h1;exact⟨r.A,r.B,r.P,r.Ah.set i x,o.A,o.B,o.P,by simp,fun y hy=>by rcases List.mem_or_eq_of_mem_set hy with hy|rfl;exact o.Ah y hy;exact hx,a,M⟩
theorem Cj.drew {K:KS} {b:Nat} {r:PR} {w w':World} (h:Cj K b r w w'):Cj K b r w w'.drew:=by
 obtain⟨A,B,P,Ah,h1,h2,h3,h4,h5,h6,h7⟩:=h;exact⟨A,B,P,Ah,h1,h2,h3,h4,h5,h6.no (Ab.refl No w').drew,h7.then (Ab.refl No w').drew⟩
theorem Cj.then {K:KS} {b A B P:Nat} {r:PR} {Ah:List Nat} {w w1 w':World} (hA:Cj (K.Cg b { r with A:=A,B:=B,P:=P,Ah:=Ah }) b { r with A:=A,B:=B,P:=P,Ah:=Ah } w1 w') (hl:Ah.length=r.Ah.length) (M:Bw K.T K.T w w1):Cj K b r w w':=by
 obtain⟨A',B',P',ay2,h1,h2,h3,h4,h5,h6,h7⟩:=hA;refine⟨A',B',P',ay2,h1,h2,h3,h4.trans hl,h5,?_,M.trans h7⟩;rw[R7]at h6;exact h6
section
variable (m:Nat) (w:World)
theorem fC (b op n A B:Nat) (h5:w.cell? (T_ b 5)=some (.int .u16 (A:Nat))) (h6:w.cell? (T_ b 6)=some (.int .u16 (B:Nat))) (hA:A<65536) (hB:B<65536) (hn:n<65536):
  CallsIn NF m prog 244 #[.pointer (some (T_ b 5)),.int .u16 (op:Nat),.int .u16 (n:Nat)] w fun e w'=>(∃a:Nat,a<65536/\e=.returned (.int .u16 (a:Nat)))/\w'=w:=by
 gi_enter func244,ntmps244;gi_wp2
 all_goals go_ret
 all_goals first|(refine⟨⟨A,hA,?_⟩,rfl⟩;simp;done)|(refine⟨⟨B,hB,?_⟩,rfl⟩;simp;done)|(refine⟨⟨n,hn,?_⟩,rfl⟩;simp;done)
theorem jw (b gi c L n a:Nat) (h8:w.cell? (T_ b 8)=some (.slice (some (S_ gi)) L c)) (hn:1<=n) (hn':n<=128) (ha:a<65536) (hL:L<=128) (hc:L<=c):
  CallsIn NF m prog 138 #[.pointer (some (T_ b 5)),.int .u16 (a:Nat),.int .i64 (n:Nat)] w fun e w'=>((a+n<=L/\e=.returned (.tuple #[.slice (some (T_ gi a)) n n,.bool true]))\/e=.returned (.tuple #[.slice none 0 0,.bool false]))/\w'=w:=by
 by_cases h:a+n<=L
 ·exact(DN b gi c L n a m w h8 hn ha hL hc h).mono fun e w' h1=>⟨.inl ⟨h,h1.1⟩,h1.2⟩
 ·exact(F7 b gi c L n a m w h8 hn hn' ha h).mono fun e w' h1=>⟨.inr h1.1,h1.2⟩
theorem RZ (x:Int):∃a:Nat,a<65536/\IntKind.u16.wrap x=(a:Int):=⟨(x % 65536).toNat,by omega,by rw[wrap_u16];omega⟩
theorem pJ (K:KS) (b op n:Nat) (r:PR) (h:AQ K w) (hb:K.ps b=some r) (hn:r.en=false) (o:r.Ok) (hL:r.Ah.length<=128) (hx:n<65536):
  CallsIn NF m prog 226 #[.pointer (some (T_ b 5)),.int .u16 (op:Nat),.int .u16 (n:Nat)] w fun e w'=>(∃oc:Nat,oc<=2/\oc≠1/\e=.returned (.int .i64 (oc:Nat)))/\Cj K b r w w':=by
 obtain⟨gi,ci,q8,Jw,Zc,him⟩:=h.Uu hb hn;have TF:=Jw.le;have q5:=h.FH hb 5;have q6:=h.FH hb 6;simp[PR.arr]at q5 q6;have z5:=h.WA hb 5;have c1:=fun m=>fC m w b op n r.A r.B q5 q6 o.A o.B hx
 have hA:=o.A;gi_enter func226,ntmps226;gi_wp2_with (first|(gi_at_call 244;refine(c1 _).mono ?_;rintro e w' ⟨⟨a,ha,rfl⟩,hw⟩;have hw:=hw.symm;subst hw)|(gi_at_call 138;refine(jw _ w b gi ci r.Ah.length 1 a q8 (by omega) (by omega) ha hL TF).mono ?_;rintro e w' ⟨⟨Dp,rfl⟩|rfl,hw⟩<;>have hw:=hw.symm<;>subst hw<;>try (obtain⟨y,hy⟩:∃v,r.Ah[a]?=some v:=⟨_,HZ (by omega)⟩;have ylt:=o.Ah y (List.mem_of_getElem? hy);have d:w.cell? (T_ gi a)=some (.int .u16 (y:Nat)):=(Jw.cell (by omega)).trans (by rw[Aq,List.getElem?_map,hy];rfl);have zi:=Jw.fz a;clear hy)))
 all_goals (try gi_region)
 all_goals (try gi_wp2)
 all_goals go_ret
 all_goals first
  | (refine⟨⟨0,by omega,by omega,by simp⟩,?_⟩;exact Cj.zx h hb o ylt)
  | (refine⟨⟨0,by omega,by omega,by simp⟩,?_⟩;exact Cj.word h hb hn o hA him)
  | (refine⟨⟨0,by omega,by omega,by simp⟩,?_⟩;obtain⟨x,hx,e⟩:=RZ ((r.A:Int)+(y:Int));rw[e];exact(Cj.zx h hb o hx).drew)
  | (refine⟨⟨0,by omega,by omega,by simp⟩,?_⟩;obtain⟨x,hx,e⟩:=RZ ((r.A:Int)-(y:Int));rw[e];exact(Cj.zx h hb o hx).drew)
  | (refine⟨⟨2,by omega,by omega,by simp⟩,?_⟩;exact Cj.no h hb o (Ab.refl _ _))
end
theorem Cj.obj {K:KS} {b A B P:Nat} {r:PR} {w w':World} (h:AQ K w) (hb:K.ps b=some r) (o:r.Ok) (hA:A<65536) (hB:B<65536) (hP:P<65536) (hK:Ab (At b) w w') (ho:w'.heap[b]?=some ({ r with A:=A,B:=B,P:=P }:PR).obj):Cj K b r w w':=by
 have hp:=h.ps b r hb;have M:Ct K.T K.T (fun t=>t=(6,b)\/t=(7,b)\/t=(8,b)\/t=(9,b)) (fun t=>t=(6,b)\/t=(7,b)\/t=(8,b)\/t=(9,b)) w w':=Ct.of (hK.on fun k _ e=>by subst e;exact .inl hp.t) h.lt;have ne:∀{x:Nat} {t:Nat×Nat},K.T x=t->t≠(6,b)->¬At b x:=fun {x t} h1 h2 e=>by
  have e:x=b:=e
  subst e;exact h2 (h1.symm.trans hp.t)
 refine⟨A,B,P,r.Ah,hA,hB,hP,rfl,o.Ah,h.WJ M ⟨hp.t,ho,fun e=>?_,fun e=>?_,?_,hp.no⟩,M.Qb (by rintro t (rfl|rfl|rfl|rfl)<;>simp)⟩
 ·obtain⟨g,c,a1,a2,a3⟩:=hp.im e;exact⟨g,c,a1,a2.keep hK (ne a3 (by simp)),a3⟩
 ·obtain⟨g,c,a1,a2,a3⟩:=hp.fd e;exact⟨g,c,a1,a2.keep hK (ne a3 (by simp)),a3⟩
 ·rcases hp.bl with h|⟨x,y,h1,h2,h3,h4,h5⟩|h
  ·exact .inl h
  ·exact .inr (.inl ⟨x,y,h1,hK.old h2 (ne h4 (by simp)),hK.old h3 (ne h5 (by simp)),h4,h5⟩)
  ·exact .inr (.inr h)
section
variable (m:Nat) (w:World)
theorem uk (K:KS) (b:Nat) (r:PR) (h:AQ K w) (hb:K.ps b=some r) (hn:r.en=false) (o:r.Ok) (hL:r.Ah.length<=128):
  CallsIn NF m prog 185 #[.pointer (some (T_ b 5))] w fun e w'=>(∃oc x:Nat,oc<=2/\x<65536/\e=.returned (.tuple #[.int .i64 (oc:Nat),.int .u16 (x:Nat)]))/\Cj K b r w w':=by
 obtain⟨gi,ci,q8,Jw,Zc,him⟩:=h.Uu hb hn;have TF:=Jw.le;have ho:=(h.ps b r hb).o;have q5:=h.FH hb 5;have q6:=h.FH hb 6;have q7:=h.FH hb 7;simp[PR.arr]at q5 q6 q7;have z5:=h.WA hb 5;have z6:=h.WA hb 6;have z7:=h.WA hb 7;have hA:=o.A;have hB:=o.B;have hP:=o.P;by_cases Dp:r.P+2<=r.Ah.length
 ·obtain⟨op,AO⟩:∃v,r.Ah[r.P]?=some v:=⟨_,HZ (by omega)⟩;obtain⟨n,hn1⟩:∃v,r.Ah[r.P+1]?=some v:=⟨_,HZ (by omega)⟩;have nlt:=o.Ah n (List.mem_of_getElem? hn1);have d0:w.cell? (T_ gi r.P)=some (.int .u16 (op:Nat)):=(Jw.cell (by omega)).trans (by rw[Aq,List.getElem?_map,AO];rfl);have d1:w.cell? (T_ gi (r.P+1))=some (.int .u16 (n:Nat)):=(Jw.cell (by omega)).trans (by rw[Aq,List.getElem?_map,hn1];rfl);clear AO hn1;have w2:IntKind.u16.wrap ((r.P:Int)+2)=(r.P:Int)+2:=by rw[wrap_u16];omega
  have h1:=h.like (r':={ r with P:=r.P+2 }) (i:=7) (v:=.int .u16 ((r.P:Int)+2)) hb ⟨rfl,rfl,rfl,rfl,rfl⟩ rfl (h.ps b r hb).bl;have M1:=h.C8 hb (i:=7) (v:=.int .u16 ((r.P:Int)+2));have o1:({ r with P:=r.P+2 }:PR).Ok:=⟨o.A,o.B,(by show r.P+2<65536;omega),o.st,o.pid,o.par,o.Ah,o.fds,o.fd,o.len,o.off⟩;have h1d:=h1.no (Ab.refl No _).drew;have ct:=fun m=>pJ m _ _ b op n { r with P:=r.P+2 } h1d Al hn o1 hL nlt
  gi_enter func185,ntmps185;gi_wp2_with (gi_at_call 138;refine(DN b gi ci r.Ah.length 2 r.P _ _ q8 (by omega) hP hL TF Dp).mono ?_;rintro e w' ⟨rfl,hw⟩;have hw:=hw.symm;subst hw);gi_region
  all_goals gi_wp2_with (gi_at_call 226;refine(ct _).mono ?_;rintro e w3 ⟨⟨oc,hoc,bi6,rfl⟩,hC⟩)
  all_goals (try gi_region)
  all_goals (try gi_wp2)
  all_goals go_ret2
  all_goals first
   | (refine⟨⟨oc,0,by omega,by omega,?_⟩,Cj.then (A:=r.A) (B:=r.B) (P:=r.P+2) (Ah:=r.Ah) hC rfl ?_⟩;(· simp;done);(· exact M1.then (Ab.refl No _).drew))
   | (refine⟨⟨0,0,by omega,by omega,?_⟩,Cj.obj (A:=n) (B:=r.B) (P:=r.P+2) h hb o (by omega) (by omega) (by omega) ?_ ?_⟩;(· simp;done);(· (repeat (first|exact Ab.refl (At b) _|refine Ab.drew ?_|refine Ab.setCell ?_ _ (fun _=>rfl))));(· simp[World.setCell,World.drew,Array.getElem?_modify,ho,PR.obj,PR.arr];done))
   | (refine⟨⟨0,0,by omega,by omega,?_⟩,Cj.obj (A:=r.A) (B:=r.B) (P:=n) h hb o (by omega) (by omega) (by omega) ?_ ?_⟩;(· simp;done);(· (repeat (first|exact Ab.refl (At b) _|refine Ab.drew ?_|refine Ab.setCell ?_ _ (fun _=>rfl))));(· simp[World.setCell,World.drew,Array.getElem?_modify,ho,PR.obj,PR.arr];done))
   | (refine⟨⟨0,0,by omega,by omega,?_⟩,Cj.obj (A:=r.B) (B:=r.A) (P:=r.P+2) h hb o (by omega) (by omega) (by omega) ?_ ?_⟩;(· simp;done);(· (repeat (first|exact Ab.refl (At b) _|refine Ab.drew ?_|refine Ab.setCell ?_ _ (fun _=>rfl))));(· simp[World.setCell,World.drew,Array.getElem?_modify,ho,PR.obj,PR.arr];done))
   | (refine⟨⟨0,0,by omega,by omega,?_⟩,Cj.obj (A:=r.A) (B:=r.B) (P:=r.P+2) h hb o (by omega) (by omega) (by omega) ?_ ?_⟩;(· simp;done);(· (repeat (first|exact Ab.refl (At b) _|refine Ab.drew ?_|refine Ab.setCell ?_ _ (fun _=>rfl))));(· simp[World.setCell,World.drew,Array.getElem?_modify,ho,PR.obj,PR.arr];done))
   | (refine⟨⟨1,n,by omega,by omega,?_⟩,Cj.obj (A:=r.A) (B:=r.B) (P:=r.P+2) h hb o (by omega) (by omega) (by omega) ?_ ?_⟩;(· simp;done);(· (repeat (first|exact Ab.refl (At b) _|refine Ab.drew ?_|refine Ab.setCell ?_ _ (fun _=>rfl))));(· simp[World.setCell,World.drew,Array.getElem?_modify,ho,PR.obj,PR.arr];done))
 ·gi_enter func185,ntmps185;gi_wp2_with (gi_at_call 138;refine(F7 b gi ci r.Ah.length 2 r.P _ _ q8 (by omega) (by omega) hP Dp).mono ?_;rintro e w' ⟨rfl,hw⟩;have hw:=hw.symm;subst hw);go_ret2;exact⟨⟨2,0,by omega,by omega,by simp⟩,Cj.no h hb o (Ab.refl _ _)⟩
end
end Go.Fxa
