/- Done and Add, at this program. Done's and Add's records, at this program: reckoned. Walks that read still places: of one who sits down, and of one who holds. The child, at this program: its records, from its birth to its seat, its sends, its way out. The child, at this program: what is reckoned of its records. The child's walks, put together. -/
import Derived.Test.YtmhplpfpcnjekaaGreatK08
import Derived.Conc.Own2
namespace Go.Fxa
open Go.Conc
open Go.Proofs
section
variable (P:Program) (r:Nat) (Y:List Frame)
def dS:Frame×List Frame:=(Frame.enter P 135 #[.pointer (some ⟨r,4,none⟩)] .deferred,Y)
def dR:=run P 15 (dS P r Y)
def dD:=run P 3 (did (dR P r Y) tup)
def dB:=run P 11 (did (dD P r Y) tup)
def dA:=run P 22 (did (dB P r Y) (.bool false))
def dF:=run P 87 (did (dA P r Y) (.int .u64 0))
def dM:=run P 103 (did (dA P r Y) (.int .u64 1))
def dT:=run P 20 (did (dM P r Y) (.int .u64 1))
def dP:=run P 27 (did (dT P r Y) tup)
def dG:=run P 17 (did (dP P r Y) tup)
def aS:Frame×List Frame:=(Frame.enter P 133 #[.pointer (some ⟨r,4,none⟩),.int .i64 1] .normal,Y)
def aD:=run P 12 (aS P r Y)
def aB:=run P 11 (did (aD P r Y) tup)
def aA:=run P 22 (did (aB P r Y) (.bool false))
def aR:=run P 53 (did (aA P r Y) (.int .u64 4294967296))
def aE:=run P 39 (did (aR P r Y) tup)
end
def f134 (tm:Array Value) (td:List Item):Frame:=Frame.mk 134 tm td [] .returning .deferred none
def ae6 (P:Program):Frame:={ (default:Frame)with fn:=P.funcs.size,defers:=[],mode:=.panicking [goexitEntry] }
structure DoneFacts (P:Program) (r:Nat) (tm:Array Value) (td:List Item):Prop where
 e172:Entry P 172 (Extern.Race.marked .releaseMerge)
 e173:Entry P 173 (fun _=>do mark .disable;pure Extern.Race.none_)
 e174:Entry P 174 (fun _=>do mark .enable;pure Extern.Race.none_)
 e175:Entry P 175 (fun _=>pure (.bool false))
 e184:Entry P 184 Extern.Sync.semrelease
 e223:Entry P 223 (Extern.Atomic.update (Op.intArith .add) .u64 true)
 e224:Entry P 224 (Extern.Atomic.loadT (.int .u64))
 e225:Entry P 225 Extern.Atomic.storeT
 dR_log:logs P 15 (dS P r [f134 tm td,ae6 P])=some [r,r]
 dR_at:ab9 (dR P r [f134 tm td,ae6 P])=some (172,#[.pointer (some ⟨r,4,none⟩)])
 dD_log:logs P 3 (did (dR P r [f134 tm td,ae6 P]) tup)=some []
 dD_at:ab9 (dD P r [f134 tm td,ae6 P])=some (173,#[])
 dB_log:logs P 11 (did (dD P r [f134 tm td,ae6 P]) tup)=some []
 dB_at:ab9 (dB P r [f134 tm td,ae6 P])=some (175,#[])
 dA_log:logs P 22 (did (dB P r [f134 tm td,ae6 P]) (.bool false))=some []
 dA_at:ab9 (dA P r [f134 tm td,ae6 P])=some (223,#[.pointer (some ⟨r,4,none⟩),.int .u64 18446744069414584320])
 dF_log:logs P 87 (did (dA P r [f134 tm td,ae6 P]) (.int .u64 0))=some []
 dF_at:deferAt (dF P r [f134 tm td,ae6 P])=some (174,#[])
 dF_end:ah7 P (some (257,6)) 5 (undid (dF P r [f134 tm td,ae6 P]))=some ([],(ae6 P,[]))
 dM_log:logs P 103 (did (dA P r [f134 tm td,ae6 P]) (.int .u64 1))=some []
 dM_at:ab9 (dM P r [f134 tm td,ae6 P])=some (224,#[.pointer (some ⟨r,4,none⟩)])
 dT_log:logs P 20 (did (dM P r [f134 tm td,ae6 P]) (.int .u64 1))=some []
 dT_at:ab9 (dT P r [f134 tm td,ae6 P])=some (225,#[.pointer (some ⟨r,4,none⟩),.int .u64 0])
 dP_log:logs P 27 (did (dT P r [f134 tm td,ae6 P]) tup)=some []
 dP_at:ab9 (dP P r [f134 tm td,ae6 P])=some (184,#[.pointer (some ⟨r,5,none⟩),.bool false,.int .i64 0])
 dG_log:logs P 17 (did (dP P r [f134 tm td,ae6 P]) tup)=some []
 dG_at:deferAt (dG P r [f134 tm td,ae6 P])=some (174,#[])
 dG_end:ah7 P (some (257,6)) 5 (undid (dG P r [f134 tm td,ae6 P]))=some ([],(ae6 P,[]))
 wake:mayWake P (gOf (dP P r [f134 tm td,ae6 P]))=true
structure AddFacts (P:Program) (r:Nat) (c:Frame) (Y:List Frame):Prop where
 e173:Entry P 173 (fun _=>do mark .disable;pure Extern.Race.none_)
 e174:Entry P 174 (fun _=>do mark .enable;pure Extern.Race.none_)
 e175:Entry P 175 (fun _=>pure (.bool false))
 e180:Entry P 180 (Extern.Race.marked .read)
 e223:Entry P 223 (Extern.Atomic.update (Op.intArith .add) .u64 true)
 aD_log:logs P 12 (aS P r (c::Y))=some []
 aD_at:ab9 (aD P r (c::Y))=some (173,#[])
 aB_log:logs P 11 (did (aD P r (c::Y)) tup)=some []
 aB_at:ab9 (aB P r (c::Y))=some (175,#[])
 aA_log:logs P 22 (did (aB P r (c::Y)) (.bool false))=some []
 aA_at:ab9 (aA P r (c::Y))=some (223,#[.pointer (some ⟨r,4,none⟩),.int .u64 4294967296])
 aR_log:logs P 53 (did (aA P r (c::Y)) (.int .u64 4294967296))=some [r,r]
 aR_at:ab9 (aR P r (c::Y))=some (180,#[.pointer (some ⟨r,5,none⟩)])
 aE_log:logs P 39 (did (aR P r (c::Y)) tup)=some []
 aE_at:deferAt (aE P r (c::Y))=some (174,#[])
 aE_end:ah7 P (some (257,6)) 1 (undid (aE P r (c::Y)))=some ([],(c.finish (.tuple #[]),Y))
section
variable {P:Program} {r:Nat} {a b e d:Value}
theorem quits_hush {s:Option (TypeId×Nat)} {δ m:Nat}:∀{n:Nat} {x y:Frame×List Frame},ah7 P s n x=some ([],y)→QuitsD P m δ (gOf y)→QuitsD P (n+m) δ (gOf x)
 | 0,x,y,h,hq=>by
  simp only[ah7,Option.some.injEq,Prod.mk.injEq,true_and]at h
  subst h
  rw[Nat.zero_add];exact hq
 | n+1,x,y,h,hq=>by
  simp only[ah7]at h
  split at h
  ·rename_i l1 z hz
   split at h
   ·rename_i l2 z' hz'
    simp only[Option.some.injEq,Prod.mk.injEq,List.append_eq_nil_iff]at h
    obtain⟨⟨rfl,rfl⟩,rfl⟩:=h
    rw[show n+1+m=(n+m)+1 from by omega]
    exact .ctl rfl (fun w=>hush_step hz (by simp)) (quits_hush hz' hq)
   ·cases h
  ·cases h
theorem quits_log {δ m n:Nat} {x:Frame×List Frame} (h:logs P n x=some []) (hq:QuitsD P m δ (gOf (run P n x))):QuitsD P (n+m) δ (gOf x):=by
 unfold logs at h
 obtain⟨⟨l,y⟩,hy,rfl⟩:=Option.map_eq_some_iff.1 h
 have:run P n x=y:=by unfold run;rw[hy]
 rw[this]at hq
 exact quits_hush hy hq
theorem quits_base:QuitsD P 1 0 (gOf (ae6 P,[])):=by
 refine .inr ⟨rfl,{ gOf (ae6 P,[])with status:=.finished },#[],by simp,fun w=>?_,rfl,rfl⟩
 simp[gOf,G,ae6,stepG,unwind,Frame.catches,goexitEntry]
 rfl
theorem quits_enable {x:Frame×List Frame} (h:deferAt x=some (174,#[])) (he:Entry P 174 (fun _=>do mark .enable;pure Extern.Race.none_)) (hend:ah7 P (some (257,6)) 5 (undid x)=some ([],(ae6 P,[]))):QuitsD P 7 1 (gOf x):=
 .said ⟨.mark .enable,false,true⟩ rfl rfl (fun w=>unwind_mark_at .enable (by simp) h he) (quits_hush (m:=1) hend quits_base)
def outs (P:Program) (r:Nat) (Y:List Frame):Outs where
 gR:=gOf (dR P r Y)
 gR':=gOf (did (dR P r Y) tup)
 gD:=gOf (dD P r Y)
 gD':=gOf (did (dD P r Y) tup)
 gA:=gOf (dA P r Y)
 gF:=gOf (did (dA P r Y) (.int .u64 0))
 gW:=gOf (did (dA P r Y) (.int .u64 1))
 gS:=gOf (dT P r Y)
 gS':=gOf (did (dT P r Y) tup)
 gP:=gOf (dP P r Y)
 gP':=gOf (did (dP P r Y) tup)
 k1:=3
 k2:=11+(1+22)
 k3:=103+(1+20)
 k4:=27
 nF:=87+7
 nP:=17+7
theorem lod_of_sil {g g':Goroutine}:∀{n:Nat},Sil P (IsRun r #[a,b,e,d] 257) false n g g'→Lod P r #[a,b,e,d] 257 n g g'
 | 0,h=>h
 | n+1,h=>by
  obtain⟨h1,g1,h2,h3⟩:=h
  exact⟨h1,g1,[],.inl rfl,fun w hw=>h2 w ⟨1,0,hw⟩,lod_of_sil h3⟩
theorem Lod.trans {g g' g'':Goroutine}:∀{n m:Nat},Lod P r #[a,b,e,d] 257 n g g'→Lod P r #[a,b,e,d] 257 m g' g''→Lod P r #[a,b,e,d] 257 (n+m) g g''
 | 0,m,h,h'=>by rw[Nat.zero_add,show g=g' from h];exact h'
 | n+1,m,h,h'=>by
  obtain⟨h1,g1,l,h2,h3,h4⟩:=h
  rw[show n+1+m=(n+m)+1 from by omega]
  exact⟨h1,g1,l,h2,h3,h4.trans h'⟩
theorem done_ok {tm:Array Value} {td:List Item} (F:DoneFacts P r tm td):OutsOk P r #[a,b,e,d] 257 (outs P r [f134 tm td,ae6 P]) where
 runs:=⟨rfl,rfl,rfl,rfl,rfl⟩
 rel w:=markAt_at .releaseMerge (by simp) F.dR_at F.e172
 s1:=ak1 F.dD_log nil_r false
 dis w:=mark0_at .disable (by simp) F.dD_at F.e173
 s2:=(ak1 F.dB_log nil_r false).trans ((ext_sil F.dB_at F.e175 rfl).trans (ak1 F.dA_log nil_r false))
 add0 w hw hz:=add_at F.dA_at F.e223 hw hz
 fin0:=quits_log F.dF_log (quits_enable F.dF_at F.e174 F.dF_end)
 add1 w hw hz:=add_at F.dA_at F.e223 hw hz
 s3:=(lod_of_sil (ak1 F.dM_log nil_r false)).trans (Lod.trans (n:=1) (g':=gOf (did (dM P r [f134 tm td,ae6 P]) (.int .u64 1))) ⟨rfl,_,_,.inr rfl,fun w hw=>load_at F.dM_at F.e224 hw.cellSt,rfl⟩ (lod_of_sil (ak1 F.dT_log nil_r false)))
 sto w hw hz:=store_at F.dT_at F.e225 hw hz
 s4:=ak1 F.dP_log nil_r false
 sem w hw hz:=release_at F.dP_at rfl F.e184 hw hz
 fin1:=quits_log F.dG_log (quits_enable F.dG_at F.e174 F.dG_end)
 wake:=⟨F.wake,rfl⟩
def adds (P:Program) (r:Nat) (Y:List Frame):Adds where
 mD:=gOf (aD P r Y)
 mD':=gOf (did (aD P r Y) tup)
 mA:=gOf (aA P r Y)
 mA':=gOf (did (aA P r Y) (.int .u64 4294967296))
 mR:=gOf (aR P r Y)
 mR':=gOf (did (aR P r Y) tup)
 mE:=gOf (aE P r Y)
 mE':=gOf (undid (aE P r Y))
 k0:=12
 k1:=11+(1+22)
 k2:=53
 k3:=39
 k4:=1
theorem add_ok {c:Frame} {Y:List Frame} (F:AddFacts P r c Y):AddOk P r #[a,b,e,d] 257 (gOf (aS P r (c::Y))) (G (c.finish (.tuple #[])) Y) (adds P r (c::Y)) where
 runs:=⟨rfl,rfl,rfl,rfl⟩
 s0:=ak1 F.aD_log nil_r true
 dis w:=mark0_at .disable (by simp) F.aD_at F.e173
 s1:=(ak1 F.aB_log nil_r true).trans ((ext_sil F.aB_at F.e175 rfl).trans (ak1 F.aA_log nil_r true))
 add w hw hz:=add_at F.aA_at F.e223 hw hz
 s2:=ak1 F.aR_log two_r true
 rd w:=markAt_at .read (by simp) F.aR_at F.e180
 s3:=ak1 F.aE_log nil_r true
 ena w:=unwind_mark_at .enable (by simp) F.aE_at F.e174
 s4:=aj4 (fun w hw=>al5 w hw) F.aE_end (by simp)
end
section
variable (r:Nat) (tm:Array Value) (td:List Item) (c:Frame) (Y:List Frame)
theorem dR_log:logs Tryz.prog 15 (dS Tryz.prog r [f134 tm td,ae6 Tryz.prog])=some [r,r]:=by kernel_rfl
theorem dR_at:ab9 (dR Tryz.prog r [f134 tm td,ae6 Tryz.prog])=some (172,#[.pointer (some ⟨r,4,none⟩)]):=by kernel_rfl
theorem dD_log:logs Tryz.prog 3 (did (dR Tryz.prog r [f134 tm td,ae6 Tryz.prog]) tup)=some []:=by kernel_rfl
theorem dD_at:ab9 (dD Tryz.prog r [f134 tm td,ae6 Tryz.prog])=some (173,#[]):=by kernel_rfl
theorem dB_log:logs Tryz.prog 11 (did (dD Tryz.prog r [f134 tm td,ae6 Tryz.prog]) tup)=some []:=by kernel_rfl
theorem dB_at:ab9 (dB Tryz.prog r [f134 tm td,ae6 Tryz.prog])=some (175,#[]):=by kernel_rfl
theorem dA_log:logs Tryz.prog 22 (did (dB Tryz.prog r [f134 tm td,ae6 Tryz.prog]) (.bool false))=some []:=by kernel_rfl
theorem dA_at:ab9 (dA Tryz.prog r [f134 tm td,ae6 Tryz.prog])=some (223,#[.pointer (some ⟨r,4,none⟩),.int .u64 18446744069414584320]):=by kernel_rfl
theorem dF_log:logs Tryz.prog 87 (did (dA Tryz.prog r [f134 tm td,ae6 Tryz.prog]) (.int .u64 0))=some []:=by kernel_rfl
theorem dF_at:deferAt (dF Tryz.prog r [f134 tm td,ae6 Tryz.prog])=some (174,#[]):=by kernel_rfl
theorem dF_end:ah7 Tryz.prog (some (257,6)) 5 (undid (dF Tryz.prog r [f134 tm td,ae6 Tryz.prog]))=some ([],(ae6 Tryz.prog,[])):=by kernel_rfl
theorem dM_log:logs Tryz.prog 103 (did (dA Tryz.prog r [f134 tm td,ae6 Tryz.prog]) (.int .u64 1))=some []:=by kernel_rfl
theorem dM_at:ab9 (dM Tryz.prog r [f134 tm td,ae6 Tryz.prog])=some (224,#[.pointer (some ⟨r,4,none⟩)]):=by kernel_rfl
theorem dT_log:logs Tryz.prog 20 (did (dM Tryz.prog r [f134 tm td,ae6 Tryz.prog]) (.int .u64 1))=some []:=by kernel_rfl
theorem dT_at:ab9 (dT Tryz.prog r [f134 tm td,ae6 Tryz.prog])=some (225,#[.pointer (some ⟨r,4,none⟩),.int .u64 0]):=by kernel_rfl
theorem dP_log:logs Tryz.prog 27 (did (dT Tryz.prog r [f134 tm td,ae6 Tryz.prog]) tup)=some []:=by kernel_rfl
theorem dP_at:ab9 (dP Tryz.prog r [f134 tm td,ae6 Tryz.prog])=some (184,#[.pointer (some ⟨r,5,none⟩),.bool false,.int .i64 0]):=by kernel_rfl
theorem dG_log:logs Tryz.prog 17 (did (dP Tryz.prog r [f134 tm td,ae6 Tryz.prog]) tup)=some []:=by kernel_rfl
theorem dG_at:deferAt (dG Tryz.prog r [f134 tm td,ae6 Tryz.prog])=some (174,#[]):=by kernel_rfl
theorem dG_end:ah7 Tryz.prog (some (257,6)) 5 (undid (dG Tryz.prog r [f134 tm td,ae6 Tryz.prog]))=some ([],(ae6 Tryz.prog,[])):=by kernel_rfl
theorem dP_wake:mayWake Tryz.prog (gOf (dP Tryz.prog r [f134 tm td,ae6 Tryz.prog]))=true:=by kernel_rfl
theorem done_facts:DoneFacts Tryz.prog r tm td:=
 ⟨e172,e173,e174,e175,e184,e223,e224,e225,dR_log r tm td,dR_at r tm td,dD_log r tm td,dD_at r tm td,dB_log r tm td,dB_at r tm td,dA_log r tm td,dA_at r tm td,dF_log r tm td,dF_at r tm td,dF_end r tm td,dM_log r tm td,dM_at r tm td,dT_log r tm td,dT_at r tm td,dP_log r tm td,dP_at r tm td,dG_log r tm td,dG_at r tm td,dG_end r tm td,dP_wake r tm td⟩
theorem aD_log:logs Tryz.prog 12 (aS Tryz.prog r (c::Y))=some []:=by kernel_rfl
theorem aD_at:ab9 (aD Tryz.prog r (c::Y))=some (173,#[]):=by kernel_rfl
theorem aB_log:logs Tryz.prog 11 (did (aD Tryz.prog r (c::Y)) tup)=some []:=by kernel_rfl
theorem aB_at:ab9 (aB Tryz.prog r (c::Y))=some (175,#[]):=by kernel_rfl
theorem aA_log:logs Tryz.prog 22 (did (aB Tryz.prog r (c::Y)) (.bool false))=some []:=by kernel_rfl
theorem aA_at:ab9 (aA Tryz.prog r (c::Y))=some (223,#[.pointer (some ⟨r,4,none⟩),.int .u64 4294967296]):=by kernel_rfl
theorem aR_log:logs Tryz.prog 53 (did (aA Tryz.prog r (c::Y)) (.int .u64 4294967296))=some [r,r]:=by kernel_rfl
theorem aR_at:ab9 (aR Tryz.prog r (c::Y))=some (180,#[.pointer (some ⟨r,5,none⟩)]):=by kernel_rfl
theorem aE_log:logs Tryz.prog 39 (did (aR Tryz.prog r (c::Y)) tup)=some []:=by kernel_rfl
theorem aE_at:deferAt (aE Tryz.prog r (c::Y))=some (174,#[]):=by kernel_rfl
theorem aE_end:ah7 Tryz.prog (some (257,6)) 1 (undid (aE Tryz.prog r (c::Y)))=some ([],(c.finish (.tuple #[]),Y)):=by kernel_rfl
theorem add_facts:AddFacts Tryz.prog r c Y:=
 ⟨e173,e174,e175,e180,e223,aD_log r c Y,aD_at r c Y,aB_log r c Y,aB_at r c Y,aA_log r c Y,aA_at r c Y,aR_log r c Y,aR_at r c Y,aE_log r c Y,aE_at r c Y,aE_end r c Y⟩
end
end Go.Fxa
namespace Go.Fxa
open Go.Conc
open Go.ConcN (sumTo upd sumTo_upd upd_ne upd_same)
def RW (P:Program) (main:Bool) (K:World→Prop) (Still:Loc→Prop):Nat→Goroutine→Goroutine→Prop
 | 0,g,g'=>g=g'
 | n+1,g,g'=>g.status=.running∧∃g1 es,(∀e∈es,EvR Still e)∧(∀w,K w→stepG P main g w=.go g1 w es)∧RW P main K Still n g1 g'
section
variable {P:Program} {Z:Nat→Prop} {Shun Still:Loc→Prop} {Mem Loose:Nat→Prop} {main:Bool} {K:World→Prop} {h j:Nat} {By:Nat→Goroutine→World→Trace→Prop}
theorem RW.trans {g g' g'':Goroutine}:∀{n m:Nat},RW P main K Still n g g'→RW P main K Still m g' g''→RW P main K Still (n+m) g g''
 | 0,m,h,h'=>by rw[Nat.zero_add,show g=g' from h];exact h'
 | n+1,m,h,h'=>by
  obtain⟨h1,g1,es,h2,h3,h4⟩:=h
  rw[show n+1+m=(n+m)+1 from by omega]
  exact⟨h1,g1,es,h2,h3,h4.trans h'⟩
theorem RW.of_sil {g g':Goroutine}:∀{n:Nat},Sil P K main n g g'→RW P main K Still n g g'
 | 0,h=>h
 | n+1,h=>by
  obtain⟨h1,g1,h2,h3⟩:=h
  exact⟨h1,g1,#[],by simp,h2,RW.of_sil h3⟩
theorem RW.read {x:Frame×List Frame} {o:Oper} {v:Value} {vs:List Value} {ads:List Addr} (h:opAt x=some o) (hf:(execOp x.1.eval o).feed P vs=some (ads,.value v)) (hc:∀w,K w→Cells w ads vs) (hs:∀a∈ads,Still (.cell a)) (hq:(P.funcs[x.1.fn]?).any (·.norace)=false):
  RW P main K Still 1 (gOf x) (gOf (did x v)):=
 ⟨rfl,_,al2 ads,fun e he=>by
  simp only[al2,List.mem_toArray,List.mem_map]at he
  obtain⟨a,ha,rfl⟩:=he
  exact⟨a,rfl,hs a ha⟩,fun w hw=>read_at h hf (hc w hw) hq,rfl⟩
theorem RW.status {g':Goroutine} (hs:g'.status=.running):∀{n:Nat} {g:Goroutine},RW P main K Still n g g'→g.status=.running
 | 0,_,h=>h ▸ hs
 | _+1,_,h=>h.1
theorem RW.seat {cases:Array CommCase} {shape:CommShape} {home:Goroutine→Prop} {g':Goroutine} {k:Nat} (hr:g'.status=.running) (hs:SeatWalk P main K Still cases shape home k g'):∀{n:Nat} {g:Goroutine},RW P main K Still n g g'→SeatWalk P main K Still cases shape home (n+k) g
 | 0,g,h=>by rw[Nat.zero_add,show g=g' from h];exact hs
 | n+1,g,h=>by
  obtain⟨h1,g1,es,h2,h3,h4⟩:=h
  rw[show n+1+k=(n+k)+1 from by omega]
  exact⟨g1,es,h4.status hr,h2,h3,RW.seat hr hs h4⟩
theorem evR_evH (hSS:∀l,Still l→¬Shun l) {B:Nat} {e:Event} (he:EvR Still e) (hb:∀a,Still (.cell a)→a.block<B):EvH Shun Still B e:=by
 obtain⟨a,rfl,hs⟩:=he
 refine⟨fun x hx=>?_,by simp,by simp,hb a hs,by simp⟩
 obtain rfl:=Option.some.inj hx
 exact⟨fun _=>rfl,fun hsh=>(hSS _ hs hsh).elim⟩
theorem rw_duo (hJ:∀n b w t,By n b w t→∀d,K (w.at d)) (hst:∀w a,K w→Still (.cell a)→a.block<w.heap.size) (hSS:∀l,Still l→¬Shun l) (O:ByOk P Z Shun Still (fun B t=>PX Shun Still Mem Loose B h t) j By) {a':Goroutine}:
  ∀(k:Nat) {a:Goroutine} (_:RW P (h==0) K Still k a a') {n B:Nat} {gs:Array Goroutine} {w:World} {sl:Option (Nat×Nat)} {t:Trace} {q:Nat→Nat},
  gs[h]?=some a→Duo P Shun Still Mem Loose B h j By n gs w t q→ComesTo P gs w sl t fun gs' w' t'=>∃q' n',gs'[h]?=some a'∧OffZ Z w w'∧Duo P Shun Still Mem Loose B h j By n' gs' w' t' q'
 | 0,a,hs,n,B,gs,w,sl,t,q,h0,D=>.now ⟨q,n,by rw[h0,show a=a' from hs],OffZ.refl w,D⟩
 | k+1,a,hs,n,B,gs,w,sl,t,q,h0,D=>by
  obtain⟨hrun,a1,es,hes,hst1,hs'⟩:=hs
  refine go_duo (Mem':=Mem) (Loose':=Loose) O h0 hrun D D.mem fun w1 n1 b1 t1 ho hB hp d=>?_
  have hsz:w1.heap.size≤B:=by rw[ho.size];exact D.size
  have hev:∀e∈es,EvH Shun Still B e:=fun e he=>evR_evH hSS (hes e he) fun a ha=>Nat.lt_of_lt_of_le (hst _ a (hJ _ _ _ _ hB d) ha) hsz
  refine⟨a1,w1.at d,es,B,hst1 _ (hJ _ _ _ _ hB d),Nat.le_refl _,hsz,hp.own hev,By,n1,?_,fun gs' q' n' hz h1 D1 sl'=>?_⟩
  ·rw[woken_of_again (O.again hB (w1.at d) (fun _ _=>rfl))]
   exact O.calm (w1.at d) _ hB (fun _ _=>rfl) (ai1 D.ne hev)
  ·exact(rw_duo hJ hst hSS O k hs' h1 D1).mono fun gs'' w'' t'' ⟨q'',n'',j1,j2,j3⟩=>⟨q'',n'',j1,ho.trans ((OffZ.at w1 d).trans j2),j3⟩
end
end Go.Fxa
namespace Go.Fxa
open Go.Conc
def condAt (x:Frame×List Frame):Option Value:=match x.1.roundOf,x.1.mode,x.1.todo with
 | none,.run,.code (.cond c _ _)::_=>some (x.1.eval c)
 | _,_,_=>none
def branch (x:Frame×List Frame) (t:Bool):Frame×List Frame:=match x.1.todo with
 | .code (.cond _ a b)::k=>({ x.1 with todo:=.code (if t then a else b)::k },x.2)
 | _=>x
theorem cond_sil {P:Program} {J:World→Prop} {main:Bool} {x:Frame×List Frame} {t:Bool} (h:condAt x=some (.bool t)):Sil P J main 1 (gOf x) (gOf (branch x t)):=by
 obtain⟨⟨fn,tmps,todo,ds,mode,kind,ro⟩,cs⟩:=x
 unfold condAt at h
 simp only at h
 split at h
 ·rename_i c a b k
  have hv:=Option.some.inj h
  refine⟨rfl,_,fun w _=>?_,rfl⟩
  simp[gOf,branch,G,stepG,stepG.exec,hv]
 ·cases h
def pr (r:Nat):Value:=.pointer (some ⟨r,0,none⟩)
def chn (q:Nat):Value:=.chan (some q)
def T32 (f:Nat→Value):Array Value:=((List.range 32).map f).toArray
def ups (f:Nat→Value):List (Nat×Value)→Nat→Value
 | [],i=>f i
 | (a,v)::l,i=>if i=a then v else ups f l i
def u0:Nat→Value:=fun _=>.int .i64 0
def casesAt (P:Program) (x:Frame×List Frame):Option (Array CommCase):=match opAt x with
 | some o=>match (execOp x.1.eval o).pureRun P with
  | some (.comm cs true .select)=>some cs
  | _=>none
 | none=>none
def ag1 (P:Program) (x:Frame×List Frame) (v:Value):Option (List Addr×Value):=match opAt x with
 | some o=>match (execOp x.1.eval o).feed P [v]with
  | some (l,.value y)=>if(P.funcs[x.1.fn]?).any (·.norace)then none else some (l,y)
  | _=>none
 | none=>none
def ae2 (x:Frame×List Frame):FuncId×List Item×List Deferred×FrameMode×CallKind×Option Nat×List Frame:=(x.1.fn,x.1.todo,x.1.defers,x.1.mode,x.1.kind,x.1.roundOf,x.2)
def slot (x:Frame×List Frame) (i:Nat):Value:=x.1.tmps.getD i undef
def ad0 (x:Frame×List Frame) (l:List Nat):List Value:=l.map (slot x)
theorem ao9 {f:Nat→Value}:∀{l:List (Nat×Value)},(∀p∈l,f p.1=p.2)→ups f l=f
 | [],_=>rfl
 | (a,v)::l,h=>by
  funext i
  simp only[ups]
  split
  ·rename_i e;rw[e];exact(h _ (List.mem_cons_self ..)).symm
  ·exact congrFun (ao9 fun p hp=>h p (List.mem_cons_of_mem _ hp)) i
theorem T32_eta {T:Array Value} (h:T.size=32):T=T32 fun i=>T.getD i undef:=by
 apply Array.ext
 ·simp[T32,h]
 ·intro i h1 h2
  simp[T32,Array.getD,h1]
theorem frame_eta {x:Frame×List Frame} {fn:FuncId} {todo:List Item} {ds:List Deferred} {m:FrameMode} {kd:CallKind} {ro:Option Nat} {Y:List Frame} (h:ae2 x=(fn,todo,ds,m,kd,ro,Y)) (hs:x.1.tmps.size=32):x=(Frame.mk fn (T32 (slot x)) todo ds m kd ro,Y):=by
 obtain⟨⟨a,b,c,d,e,f,g⟩,y⟩:=x
 simp only[ae2,Prod.mk.injEq]at h
 obtain⟨rfl,rfl,rfl,rfl,rfl,rfl,rfl⟩:=h
 simp only[Prod.mk.injEq,Frame.mk.injEq,and_true,true_and]
 exact T32_eta hs
section
variable {P:Program} {main:Bool} {K:World→Prop} {Still:Loc→Prop} {x:Frame×List Frame}
theorem RW.at {v y:Value} {ad:Addr} (h:ag1 P x v=some ([ad],y)) (hc:∀w,K w→w.cell? ad=some v) (hs:Still (.cell ad)):RW P main K Still 1 (gOf x) (gOf (did x y)):=by
 unfold ag1 at h
 split at h
 ·rename_i o ho
  split at h
  ·rename_i l y' hf
   split at h
   ·cases h
   ·rename_i hq
    simp only[Option.some.injEq,Prod.mk.injEq]at h
    obtain⟨rfl,rfl⟩:=h
    exact RW.read ho hf (fun w hw=>⟨hc w hw,trivial⟩) (by simpa using hs) (by simpa using hq)
  ·cases h
 ·cases h
theorem al6 {cs:Array CommCase} (h:casesAt P x=some cs) (w:World):stepG P main (gOf x) w=.comm (gOf x) cs true .select w #[]:=by
 unfold casesAt at h
 split at h
 ·rename_i o ho
  split at h
  ·rename_i cs' hf
   obtain rfl:=Option.some.inj h
   exact comm_at ho hf
  ·cases h
 ·cases h
theorem RW.logs {n:Nat} (h:logs P n x=some []):RW P main K Still n (gOf x) (gOf (run P n x)):=by
 unfold Fxa.logs at h
 obtain⟨⟨l,y⟩,hy,rfl⟩:=Option.map_eq_some_iff.1 h
 have e:run P n x=y:=by unfold run;rw[hy]
 rw[e]
 have:∀{n:Nat} {x y:Frame×List Frame},ah7 P (some (257,6)) n x=some ([],y)→Sil P K main n (gOf x) (gOf y):=by
  intro n
  induction n with
  | zero=>
   intro x y h
   simp only[ah7,Option.some.injEq,Prod.mk.injEq,true_and]at h
   subst h;exact rfl
  | succ n ih=>
   intro x y h
   simp only[ah7]at h
   split at h
   ·rename_i l1 z hz
    split at h
    ·rename_i l2 z' hz'
     simp only[Option.some.injEq,Prod.mk.injEq,List.append_eq_nil_iff]at h
     obtain⟨⟨rfl,rfl⟩,rfl⟩:=h
     exact⟨rfl,_,fun w _=>hush_step hz (by simp),ih hz'⟩
    ·cases h
   ·cases h
 exact RW.of_sil (this hy)
end
section
variable (P:Program) (b5 b2 b3 r q0 q1 q2 q3:Nat) (sv:Value) (n i:Int) (w A:Value) (f:Nat→Value) (Y:List Frame)
def ch0:Frame×List Frame:=({ (default:Frame)with fn:=P.funcs.size,defers:=[⟨.fn (.func 134) #[pr b5,pr b2,pr b3],#[]⟩],mode:=.panicking [goexitEntry] },[])
def ch1:=run P 3 (ch0 P b5 b2 b3)
def ch2:=run P 5 (did (ch1 P b5 b2 b3) (pr r))
def ch3:=did (ch2 P b5 b2 b3 r) (pr r)
def ch4:=did (ch3 P b5 b2 b3 r) sv
def ch5:=did (ch4 P b5 b2 b3 r sv) (.int .i64 n)
def Ych:List Frame:=(run P 9 (ch5 P b5 b2 b3 r sv n)).2
def todoLH:List Item:=(run P 8 (Frame.enter P 136 #[] .normal,[])).1.todo
def LH:Frame×List Frame:=(Frame.mk 136 (T32 f) (todoLH P) [] .run .normal none,Y)
def lc:=run P 5 (LH P f Y)
def lr:=run P 4 (branch (lc P f Y) true)
def todo3:List Item:=(lr P u0 []).1.todo.tail
def RB:Frame×List Frame:=(Frame.mk 136 (T32 f) (todo3 P) [] .run .normal none,Y)
def k1:=run P 29 (RB P f Y)
def k2:=run P 8 (did (k1 P f Y) (chn q0))
def k3:=run P 3 (did (k2 P q0 f Y) (chn q3))
end
end Go.Fxa
namespace Go.Fxa
open Go.Conc
open Go.Proofs
def sl4 (r:Nat) (sv:Value) (n i:Int):List (Nat×Value):=[(0,pr r),(1,sv),(8,.int .i64 n),(9,.int .i64 i)]
def sl6 (r:Nat) (sv:Value) (n i oc:Int) (w:Value):List (Nat×Value):=[(0,pr r),(1,sv),(8,.int .i64 n),(9,.int .i64 i),(6,.int .i64 oc),(7,w)]
def zAns:Value:=.agg #[.int .u16 0,.int .u16 0,.nilFunc]
def cCall (q0 q3:Nat) (w:Value):Array CommCase:=#[scase q0 w (.int .u16 0),rcase q3 (.agg #[])]
def an1 (q1 q3:Nat):Array CommCase:=#[rcase q1 zAns,rcase q3 (.agg #[])]
def cEnd (q2 q3:Nat) (o:Int):Array CommCase:=#[scase q2 (.int .i64 o) (.int .i64 0),rcase q3 (.agg #[])]
section
variable (P:Program) (b5 b2 b3 r q0 q1 q2 q3:Nat) (sv:Value) (n i:Int) (w A:Value) (f:Nat→Value) (Y:List Frame)
def reg2:Code:=match (lr P u0 []).1.todo with
 | .code c::_=>c
 | _=>.skip
def m1:=run P 14 (did (k3 P q0 q3 f Y) (commResult (cCall q0 q3 w) .select 0 undef false))
def m2:=run P 5 (did (m1 P q0 q3 w f Y) (chn q1))
def m3:=run P 3 (did (m2 P q0 q1 q3 w f Y) (chn q3))
def mq:=did (m3 P q0 q1 q3 w f Y) (commResult (an1 q1 q3) .select 1 (.agg #[]) false)
def tmC:Array Value:=match Ych P b5 b2 b3 r sv n with
 | F::_=>(F.finish (.tuple #[])).tmps
 | []=>#[]
def Yout:List Frame:=[f134 (tmC P b5 b2 b3 r sv n) [],ae6 P]
def e1:=run P 18 (RB P f Y)
def e2:=run P 8 (did (e1 P f Y) (chn q2))
def e3:=run P 3 (did (e2 P q2 f Y) (chn q3))
def e4:=did (e3 P q2 q3 f Y) (commResult (cEnd q2 q3 2) .select 0 undef false)
def d1:=run P 11 (branch (lc P f Y) false)
def d2:=run P 8 (did (d1 P f Y) (chn q2))
def d3:=run P 3 (did (d2 P q2 f Y) (chn q3))
def d4:=did (d3 P q2 q3 f Y) (commResult (cEnd q2 q3 0) .select 0 undef false)
end
structure ChildFacts (P:Program) (b5 b2 b3 r q0 q1 q2 q3:Nat) (sv:Value) (n:Int):Prop where
 f01:logs P 3 (ch0 P b5 b2 b3)=some []
 f02:ag1 P (ch1 P b5 b2 b3) (pr r)=some ([⟨b5,0,none⟩],pr r)
 f03:logs P 5 (did (ch1 P b5 b2 b3) (pr r))=some []
 f04:ag1 P (ch2 P b5 b2 b3 r) (pr r)=some ([⟨b5,0,none⟩],pr r)
 f05:ag1 P (ch3 P b5 b2 b3 r) sv=some ([⟨b2,0,none⟩],sv)
 f06:ag1 P (ch4 P b5 b2 b3 r sv) (.int .i64 n)=some ([⟨b3,0,none⟩],.int .i64 n)
 f07:logs P 9 (ch5 P b5 b2 b3 r sv n)=some []
 f08:ae2 (run P 9 (ch5 P b5 b2 b3 r sv n))=(136,todoLH P,[],.run,.normal,none,Ych P b5 b2 b3 r sv n)
 f09:ad0 (run P 9 (ch5 P b5 b2 b3 r sv n)) [0,1,8,9]=[pr r,sv,.int .i64 n,.int .i64 0]
 f10:(run P 9 (ch5 P b5 b2 b3 r sv n)).1.tmps.size=32
 l1:∀(f:Nat→Value) (Y:List Frame) (i:Int),logs P 5 (LH P (ups f (sl4 r sv n i)) Y)=some []
 l2:∀(f:Nat→Value) (Y:List Frame) (i:Int),condAt (lc P (ups f (sl4 r sv n i)) Y)=some (.bool (decide (i<n)))
 l3:∀(f:Nat→Value) (Y:List Frame) (i:Int),logs P 4 (branch (lc P (ups f (sl4 r sv n i)) Y) true)=some []
 l4:∀(f:Nat→Value) (Y:List Frame) (i:Int),ae2 (lr P (ups f (sl4 r sv n i)) Y)=(136,.code (reg2 P)::todo3 P,[],.run,.normal,none,Y)
 l5:∀(f:Nat→Value) (Y:List Frame) (i:Int),ad0 (lr P (ups f (sl4 r sv n i)) Y) [0,1,8,9]=[pr r,sv,.int .i64 n,.int .i64 i]
 l6:∀(f:Nat→Value) (Y:List Frame) (i:Int),(lr P (ups f (sl4 r sv n i)) Y).1.tmps.size=32
 s01:∀(f:Nat→Value) (Y:List Frame) (i:Int) (w:Value),logs P 28 (RB P (ups f (sl6 r sv n i 0 w)) Y)=some []
 s02:∀(f:Nat→Value) (Y:List Frame) (i:Int) (w:Value),ae2 (run P 28 (RB P (ups f (sl6 r sv n i 0 w)) Y))=(136,todoLH P,[],.run,.normal,none,Y)
 s03:∀(f:Nat→Value) (Y:List Frame) (i:Int) (w:Value),ad0 (run P 28 (RB P (ups f (sl6 r sv n i 0 w)) Y)) [0,1,8,9]=[pr r,sv,.int .i64 n,.int .i64 (IntKind.i64.wrap (i+1))]
 s04:∀(f:Nat→Value) (Y:List Frame) (i:Int) (w:Value),(run P 28 (RB P (ups f (sl6 r sv n i 0 w)) Y)).1.tmps.size=32
 s11:∀(f:Nat→Value) (Y:List Frame) (i:Int) (w:Value),logs P 29 (RB P (ups f (sl6 r sv n i 1 w)) Y)=some []
 s12:∀(f:Nat→Value) (Y:List Frame) (i:Int) (w:Value),ag1 P (k1 P (ups f (sl6 r sv n i 1 w)) Y) (chn q0)=some ([⟨r,0,none⟩],chn q0)
 s13:∀(f:Nat→Value) (Y:List Frame) (i:Int) (w:Value),logs P 8 (did (k1 P (ups f (sl6 r sv n i 1 w)) Y) (chn q0))=some []
 s14:∀(f:Nat→Value) (Y:List Frame) (i:Int) (w:Value),ag1 P (k2 P q0 (ups f (sl6 r sv n i 1 w)) Y) (chn q3)=some ([⟨r,3,none⟩],chn q3)
 s15:∀(f:Nat→Value) (Y:List Frame) (i:Int) (w:Value),logs P 3 (did (k2 P q0 (ups f (sl6 r sv n i 1 w)) Y) (chn q3))=some []
 s16:∀(f:Nat→Value) (Y:List Frame) (i:Int) (w:Value),casesAt P (k3 P q0 q3 (ups f (sl6 r sv n i 1 w)) Y)=some (cCall q0 q3 w)
 m11:∀(f:Nat→Value) (Y:List Frame) (i:Int) (w:Value),logs P 14 (did (k3 P q0 q3 (ups f (sl6 r sv n i 1 w)) Y) (commResult (cCall q0 q3 w) .select 0 undef false))=some []
 m12:∀(f:Nat→Value) (Y:List Frame) (i:Int) (w:Value),ag1 P (m1 P q0 q3 w (ups f (sl6 r sv n i 1 w)) Y) (chn q1)=some ([⟨r,1,none⟩],chn q1)
 m13:∀(f:Nat→Value) (Y:List Frame) (i:Int) (w:Value),logs P 5 (did (m1 P q0 q3 w (ups f (sl6 r sv n i 1 w)) Y) (chn q1))=some []
 m14:∀(f:Nat→Value) (Y:List Frame) (i:Int) (w:Value),ag1 P (m2 P q0 q1 q3 w (ups f (sl6 r sv n i 1 w)) Y) (chn q3)=some ([⟨r,3,none⟩],chn q3)
 m15:∀(f:Nat→Value) (Y:List Frame) (i:Int) (w:Value),logs P 3 (did (m2 P q0 q1 q3 w (ups f (sl6 r sv n i 1 w)) Y) (chn q3))=some []
 m16:∀(f:Nat→Value) (Y:List Frame) (i:Int) (w:Value),casesAt P (m3 P q0 q1 q3 w (ups f (sl6 r sv n i 1 w)) Y)=some (an1 q1 q3)
 m21:∀(f:Nat→Value) (Y:List Frame) (i:Int) (w A:Value),logs P 7 (did (m3 P q0 q1 q3 w (ups f (sl6 r sv n i 1 w)) Y) (commResult (an1 q1 q3) .select 0 A true))=some []
 q1_:∀(f:Nat→Value) (i:Int) (w:Value),ah7 P (some (257,6)) 37 (mq P q0 q1 q3 w (ups f (sl6 r sv n i 1 w)) (Ych P b5 b2 b3 r sv n))=some ([r,r],dR P r (Yout P b5 b2 b3 r sv n))
 e11:∀(f:Nat→Value) (Y:List Frame) (i:Int) (w:Value),logs P 18 (RB P (ups f (sl6 r sv n i 2 w)) Y)=some []
 e12:∀(f:Nat→Value) (Y:List Frame) (i:Int) (w:Value),ag1 P (e1 P (ups f (sl6 r sv n i 2 w)) Y) (chn q2)=some ([⟨r,2,none⟩],chn q2)
 e13:∀(f:Nat→Value) (Y:List Frame) (i:Int) (w:Value),logs P 8 (did (e1 P (ups f (sl6 r sv n i 2 w)) Y) (chn q2))=some []
 e14:∀(f:Nat→Value) (Y:List Frame) (i:Int) (w:Value),ag1 P (e2 P q2 (ups f (sl6 r sv n i 2 w)) Y) (chn q3)=some ([⟨r,3,none⟩],chn q3)
 e15:∀(f:Nat→Value) (Y:List Frame) (i:Int) (w:Value),logs P 3 (did (e2 P q2 (ups f (sl6 r sv n i 2 w)) Y) (chn q3))=some []
 e16:∀(f:Nat→Value) (Y:List Frame) (i:Int) (w:Value),casesAt P (e3 P q2 q3 (ups f (sl6 r sv n i 2 w)) Y)=some (cEnd q2 q3 2)
 e17:∀(f:Nat→Value) (i:Int) (w:Value),ah7 P (some (257,6)) 31 (e4 P q2 q3 (ups f (sl6 r sv n i 2 w)) (Ych P b5 b2 b3 r sv n))=some ([r,r],dR P r (Yout P b5 b2 b3 r sv n))
 d11:∀(f:Nat→Value) (Y:List Frame) (i:Int),logs P 11 (branch (lc P (ups f (sl4 r sv n i)) Y) false)=some []
 d12:∀(f:Nat→Value) (Y:List Frame) (i:Int),ag1 P (d1 P (ups f (sl4 r sv n i)) Y) (chn q2)=some ([⟨r,2,none⟩],chn q2)
 d13:∀(f:Nat→Value) (Y:List Frame) (i:Int),logs P 8 (did (d1 P (ups f (sl4 r sv n i)) Y) (chn q2))=some []
 d14:∀(f:Nat→Value) (Y:List Frame) (i:Int),ag1 P (d2 P q2 (ups f (sl4 r sv n i)) Y) (chn q3)=some ([⟨r,3,none⟩],chn q3)
 d15:∀(f:Nat→Value) (Y:List Frame) (i:Int),logs P 3 (did (d2 P q2 (ups f (sl4 r sv n i)) Y) (chn q3))=some []
 d16:∀(f:Nat→Value) (Y:List Frame) (i:Int),casesAt P (d3 P q2 q3 (ups f (sl4 r sv n i)) Y)=some (cEnd q2 q3 0)
 d17:∀(f:Nat→Value) (i:Int),ah7 P (some (257,6)) 31 (d4 P q2 q3 (ups f (sl4 r sv n i)) (Ych P b5 b2 b3 r sv n))=some ([r,r],dR P r (Yout P b5 b2 b3 r sv n))
section
variable {b5 b2 b3 r q0 q1 q2 q3:Nat} {sv:Value} {n:Int}
theorem child_facts:ChildFacts Tryz.prog b5 b2 b3 r q0 q1 q2 q3 sv n:=by
 constructor<;>intros<;>kernel_rfl
end
end Go.Fxa
namespace Go.Fxa
open Go.Conc
theorem served_gOf (x:Frame×List Frame) (v:Value):Conc.served (gOf x) v=gOf (did x v):=rfl
structure ReadOk (K:World→Prop) (Still:Loc→Prop) (b5 b2 b3 r q0 q1 q2 q3:Nat) (sv:Value) (n:Int):Prop where
 c5:∀w,K w→w.cell? ⟨b5,0,none⟩=some (pr r)
 s5:Still (.cell ⟨b5,0,none⟩)
 c2:∀w,K w→w.cell? ⟨b2,0,none⟩=some sv
 s2:Still (.cell ⟨b2,0,none⟩)
 c3:∀w,K w→w.cell? ⟨b3,0,none⟩=some (.int .i64 n)
 s3:Still (.cell ⟨b3,0,none⟩)
 r0:∀w,K w→w.cell? ⟨r,0,none⟩=some (chn q0)
 t0:Still (.cell ⟨r,0,none⟩)
 r1:∀w,K w→w.cell? ⟨r,1,none⟩=some (chn q1)
 t1:Still (.cell ⟨r,1,none⟩)
 r2:∀w,K w→w.cell? ⟨r,2,none⟩=some (chn q2)
 t2:Still (.cell ⟨r,2,none⟩)
 r3:∀w,K w→w.cell? ⟨r,3,none⟩=some (chn q3)
 t3:Still (.cell ⟨r,3,none⟩)
theorem slots_ups {x:Frame×List Frame}:∀{l:List (Nat×Value)},ad0 x (l.map (·.1))=l.map (·.2)→ups (slot x) l=slot x
 | l,h=>ao9 fun p hp=>by
  induction l with
  | nil=>cases hp
  | cons a l ih=>
   simp only[List.map_cons,ad0,List.cons.injEq]at h
   rcases List.mem_cons.1 hp with rfl|hp
   ·exact h.1
   ·exact ih h.2 hp
theorem at_told {x:Frame×List Frame} {fn:FuncId} {todo:List Item} {Y:List Frame} {l:List (Nat×Value)} (h:ae2 x=(fn,todo,[],.run,.normal,none,Y)) (hs:ad0 x (l.map (·.1))=l.map (·.2)) (hz:x.1.tmps.size=32):
  x=(Frame.mk fn (T32 (ups (slot x) l)) todo [] .run .normal none,Y):=by
 rw[slots_ups hs]
 exact frame_eta h hz
section
variable {P:Program} {K:World→Prop} {Still:Loc→Prop} {main:Bool} {b5 b2 b3 r q0 q1 q2 q3:Nat} {sv:Value} {n:Int}
theorem child_birth (F:ChildFacts P b5 b2 b3 r q0 q1 q2 q3 sv n) (R:ReadOk K Still b5 b2 b3 r q0 q1 q2 q3 sv n):
  ∃f,RW P main K Still 21 (gOf (ch0 P b5 b2 b3)) (gOf (LH P (ups f (sl4 r sv n 0)) (Ych P b5 b2 b3 r sv n))):=by
 have h:RW P main K Still 21 (gOf (ch0 P b5 b2 b3)) (gOf (run P 9 (ch5 P b5 b2 b3 r sv n))):=((((((RW.logs (main:=main) (K:=K) (Still:=Still) F.f01).trans (RW.at F.f02 R.c5 R.s5)).trans (RW.logs F.f03)).trans (RW.at F.f04 R.c5 R.s5)).trans (RW.at F.f05 R.c2 R.s2)).trans (RW.at F.f06 R.c3 R.s3)).trans (RW.logs F.f07)
 have e:=at_told (l:=sl4 r sv n 0) F.f08 F.f09 F.f10
 refine⟨slot (run P 9 (ch5 P b5 b2 b3 r sv n)),?_⟩
 rw[e]at h
 exact h
theorem child_more (F:ChildFacts P b5 b2 b3 r q0 q1 q2 q3 sv n) (f:Nat→Value) (Y:List Frame) {i:Int} (hi:i<n):
  ∃f',RW P main K Still 10 (gOf (LH P (ups f (sl4 r sv n i)) Y)) (gOf (Frame.mk 136 (T32 (ups f' (sl4 r sv n i))) (.code (reg2 P)::todo3 P) [] .run .normal none,Y)):=by
 have hc:=F.l2 f Y i
 rw[decide_eq_true hi]at hc
 have h:RW P main K Still 10 (gOf (LH P (ups f (sl4 r sv n i)) Y)) (gOf (lr P (ups f (sl4 r sv n i)) Y)):=((RW.logs (main:=main) (K:=K) (Still:=Still) (F.l1 f Y i)).trans (RW.of_sil (cond_sil hc))).trans (RW.logs (F.l3 f Y i))
 have e:=at_told (l:=sl4 r sv n i) (F.l4 f Y i) (F.l5 f Y i) (F.l6 f Y i)
 refine⟨slot (lr P (ups f (sl4 r sv n i)) Y),?_⟩
 rw[e]at h
 exact h
theorem child_on (F:ChildFacts P b5 b2 b3 r q0 q1 q2 q3 sv n) (f:Nat→Value) (Y:List Frame) (i:Int) (x:Value):
  ∃f',RW P main K Still 28 (gOf (RB P (ups f (sl6 r sv n i 0 x)) Y)) (gOf (LH P (ups f' (sl4 r sv n (IntKind.i64.wrap (i+1)))) Y)):=by
 have h:=RW.logs (main:=main) (K:=K) (Still:=Still) (F.s01 f Y i x)
 have e:=at_told (l:=sl4 r sv n (IntKind.i64.wrap (i+1))) (F.s02 f Y i x) (F.s03 f Y i x) (F.s04 f Y i x)
 refine⟨slot (run P 28 (RB P (ups f (sl6 r sv n i 0 x)) Y)),?_⟩
 rw[e]at h
 exact h
theorem child_calls (F:ChildFacts P b5 b2 b3 r q0 q1 q2 q3 sv n) (R:ReadOk K Still b5 b2 b3 r q0 q1 q2 q3 sv n) (f:Nat→Value) (Y:List Frame) (i:Int) (x:Value):
  RW P main K Still 42 (gOf (RB P (ups f (sl6 r sv n i 1 x)) Y)) (gOf (k3 P q0 q3 (ups f (sl6 r sv n i 1 x)) Y)):=
 ((((RW.logs (F.s11 f Y i x)).trans (RW.at (F.s12 f Y i x) R.r0 R.t0)).trans (RW.logs (F.s13 f Y i x))).trans (RW.at (F.s14 f Y i x) R.r3 R.t3)).trans (RW.logs (F.s15 f Y i x))
theorem child_seat (F:ChildFacts P b5 b2 b3 r q0 q1 q2 q3 sv n) (R:ReadOk K Still b5 b2 b3 r q0 q1 q2 q3 sv n) (f:Nat→Value) (Y:List Frame) (i:Int) (x:Value):
  SeatWalk P main K Still (an1 q1 q3) .select (fun g=>g=gOf (m3 P q0 q1 q3 x (ups f (sl6 r sv n i 1 x)) Y)) 24 (Conc.served (gOf (k3 P q0 q3 (ups f (sl6 r sv n i 1 x)) Y)) (commResult (cCall q0 q3 x) .select 0 undef false)):=by
 have h:=((((RW.logs (main:=main) (K:=K) (Still:=Still) (F.m11 f Y i x)).trans (RW.at (F.m12 f Y i x) R.r1 R.t1)).trans (RW.logs (F.m13 f Y i x))).trans (RW.at (F.m14 f Y i x) R.r3 R.t3)).trans (RW.logs (F.m15 f Y i x))
 exact RW.seat (k:=0) (home:=fun g=>g=gOf (m3 P q0 q1 q3 x (ups f (sl6 r sv n i 1 x)) Y)) (g':=gOf (m3 P q0 q1 q3 x (ups f (sl6 r sv n i 1 x)) Y)) rfl ⟨_,#[],rfl,rfl,by simp,fun w _=>al6 (F.m16 f Y i x) w⟩ h
theorem child_quits (F:ChildFacts P b5 b2 b3 r q0 q1 q2 q3 sv n) (f:Nat→Value) (i:Int) (x:Value) {a b c d:Value}:
  Sil P (IsRun r #[a,b,c,d] 257) main 37 (Conc.served (gOf (m3 P q0 q1 q3 x (ups f (sl6 r sv n i 1 x)) (Ych P b5 b2 b3 r sv n))) (commResult (an1 q1 q3) .select 1 (.agg #[]) false)) (gOf (dR P r (Yout P b5 b2 b3 r sv n))):=
 aj4 (al5) (F.q1_ f i x) (by simp)
theorem child_bad (F:ChildFacts P b5 b2 b3 r q0 q1 q2 q3 sv n) (R:ReadOk K Still b5 b2 b3 r q0 q1 q2 q3 sv n) (f:Nat→Value) (Y:List Frame) (i:Int) (x:Value):
  RW P main K Still 31 (gOf (RB P (ups f (sl6 r sv n i 2 x)) Y)) (gOf (e3 P q2 q3 (ups f (sl6 r sv n i 2 x)) Y)):=
 ((((RW.logs (F.e11 f Y i x)).trans (RW.at (F.e12 f Y i x) R.r2 R.t2)).trans (RW.logs (F.e13 f Y i x))).trans (RW.at (F.e14 f Y i x) R.r3 R.t3)).trans (RW.logs (F.e15 f Y i x))
theorem child_badOut (F:ChildFacts P b5 b2 b3 r q0 q1 q2 q3 sv n) (f:Nat→Value) (i:Int) (x:Value) {a b c d:Value}:
  Sil P (IsRun r #[a,b,c,d] 257) main 31 (Conc.served (gOf (e3 P q2 q3 (ups f (sl6 r sv n i 2 x)) (Ych P b5 b2 b3 r sv n))) (commResult (cEnd q2 q3 2) .select 0 undef false)) (gOf (dR P r (Yout P b5 b2 b3 r sv n))):=
 aj4 (al5) (F.e17 f i x) (by simp)
theorem child_spent (F:ChildFacts P b5 b2 b3 r q0 q1 q2 q3 sv n) (R:ReadOk K Still b5 b2 b3 r q0 q1 q2 q3 sv n) (f:Nat→Value) (Y:List Frame) {i:Int} (hi:¬i<n):
  RW P main K Still 30 (gOf (LH P (ups f (sl4 r sv n i)) Y)) (gOf (d3 P q2 q3 (ups f (sl4 r sv n i)) Y)):=by
 have hc:=F.l2 f Y i
 rw[decide_eq_false hi]at hc
 exact((((((RW.logs (F.l1 f Y i)).trans (RW.of_sil (cond_sil hc))).trans (RW.logs (F.d11 f Y i))).trans (RW.at (F.d12 f Y i) R.r2 R.t2)).trans (RW.logs (F.d13 f Y i))).trans (RW.at (F.d14 f Y i) R.r3 R.t3)).trans (RW.logs (F.d15 f Y i))
theorem child_spentOut (F:ChildFacts P b5 b2 b3 r q0 q1 q2 q3 sv n) (f:Nat→Value) (i:Int) {a b c d:Value}:
  Sil P (IsRun r #[a,b,c,d] 257) main 31 (Conc.served (gOf (d3 P q2 q3 (ups f (sl4 r sv n i)) (Ych P b5 b2 b3 r sv n))) (commResult (cEnd q2 q3 0) .select 0 undef false)) (gOf (dR P r (Yout P b5 b2 b3 r sv n))):=
 aj4 (al5) (F.d17 f i) (by simp)
end
end Go.Fxa
