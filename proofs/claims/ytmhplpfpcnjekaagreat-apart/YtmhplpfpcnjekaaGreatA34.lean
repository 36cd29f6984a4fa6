/- A file is opened. -/
import Derived.Test.YtmhplpfpcnjekaaGreatA33
namespace Go.Fxa
open Conc Proofs RowKit Proofs.Tryz
set_option maxRecDepth 1000000
set_option maxHeartbeats 0
section
variable (m:Nat) (w:World)
theorem YK (K:KS) (NC NS b name number:Nat) (r:PR) (h:AQ K w) (hO:DZ NC NS K) (hm:b∈K.AJ) (hb:K.ps b=some r) (hn:r.en=false) (hname:name<65536):
  CallsIn NF m prog 150 #[R_ K.kb,R_ b,.int .u16 (name:Nat),.int .u16 (number:Nat)] w (ED NC NS b K w):=by
 have o:=hO.pr b r hb;have hlen:r.fds.length<=6:=by rw[o.fds hn];omega
 obtain⟨K0,rb,BA⟩:=FU w;have h0:=h.no K0;have E8:K.T w.heap.size=(0,0):=h.lt _ (Nat.le_refl _);have cn:=fun m=>MQ m _ K name h0 hname
 have ct:=fun m w1 (hK:Ab No (w.alloc V_) w1)=>Sq m w1 K b 1 r (h0.no hK) hb hn (by omega)
 simp only[Int.natCast_one]at ct;by_cases hn0:number=0
 ·have g1:((number:Int) !=0)=false:=by simp[hn0]
  gi_enter func150,ntmps150;gi_wp2_with (gi_at_call 205;refine(cn _).mono ?_;rintro e w1 ⟨K1,x,rfl,hx⟩;rcases hx with⟨rfl,Ja,f,mJ⟩|⟨rfl,Ja,mJ⟩|⟨rfl,Ja⟩)
  ·gi_wp2_with (gi_at_call 198;refine(ct _ _ K1).mono ?_;rintro e w2 ⟨⟨rfl,hs1,hs2⟩|⟨xx,rfl,hxx,zH⟩,K2⟩<;>generalize hw0:w.alloc V_=w0 at *)
   ·have KK:=K1.then K2;have hspare:1<=EA r.fds:=hs1;have hroom:1<=GH K.desc 20:=hs2;have h3:=h0.no KK;have h3d:AQ { K with nm:=K.nm,T:=K.T } w2.drew:=AQ.no h3 (Ab.refl No w2).drew;have mQ:=fun m=>VL m w2.drew { K with nm:=K.nm,T:=K.T } name f h3d Ja (mJ) (by have h1:=hO.CY.op (f);have h2:=LC K.desc K.ef (f);show K.op (f)<=1000;omega)
    refine BZ (P:=prog) _ rfl rfl (by kernel_rfl) 11 56 [0,1,2,3,4,5,6,7,8] [9,10] (by kernel_rfl) (by rfl)
     (TY (On (K.T) fun t=>t≠(0,0)) w2.drew 9 10 (fun v W=>∃pb,v=.iface 337 (ptr pb)/\AQ { K with nm:=K.nm,op:=Az K.op f (K.op f+1),T:=A8 (K.T) pb (12,f) } W/\Bw (K.T) (A8 (K.T) pb (12,f)) w2.drew W) (fun _ v W=>∃pb i0,v=.int .i64 (i0:Nat)/\i0<20/\K.desc i0=0/\AQ { K with nm:=K.nm,op:=Az K.op f (K.op f+1),T:=A8 (K.T) pb (12,f),desc:=Az K.desc i0 1,ef:=Az K.ef i0 (some f) } W/\Bw (K.T) (A8 (K.T) pb (12,f)) w2.drew W)) (Po (by simp) (by simp)) _ _ rfl rfl ?_;gi_wp2;refine⟨rfl,by kernel_rfl,Lv,?_,?_,?_⟩
    ·intro L' u W hI
     repeat' (refine Ao ?_ ?_)
     all_goals first|exact trivial|gi_wp2
    ·intro q hq L' u W hI lU hu;rcases(by simpa using hq:q=9\/q=10)with rfl|rfl
     ·obtain⟨rfl,_⟩:=hI.2.1 lU;refine Bh rfl fun KK Ko=>?_
      show wpListIn NF m prog _ _ _ (Act.put (Act.put _ (some 52) (u 9)) (some 53) (u 10)) _;gi_wp2_with (gi_at_call 206;refine(mQ _).mono ?_;rintro e w4 ⟨pb,rfl,h4,M4⟩);exact⟨_,rfl,Pn hI (by decide) lU M4.keep ⟨pb,rfl,h4,M4⟩⟩
     ·have h9:=hu 9 (by simp) (by decide);obtain⟨pb,e9,h4,M4⟩:=hI.2.2.1 h9 lU;refine Bh rfl fun KK Ko=>?_
      show wpListIn NF m prog _ _ _ (Act.put (Act.put _ (some 52) (u 9)) (some 53) (u 10)) _;have ca:=fun m=>RX m W _ (.iface 337 (ptr pb)) (some (f)) h4 ⟨pb,.inl ⟨rfl,f,BB,rfl⟩⟩ (Nu hroom)
      simp only[ptr]at ca e9;rw[e9];gi_wp2_with (gi_at_call 201;refine(ca _).mono ?_;rintro e w5 ⟨i0,hi0,hd0,rfl,h5,M5⟩);rw[<-e9];exact⟨_,rfl,Pm (by decide) h9 (M4.trans M5).keep ⟨pb,i0,rfl,hi0,hd0,h5,M4.trans M5⟩⟩
    ·intro L' u W hI hL;obtain⟨pb,i0,e10,hi0,hd0,h5,M5⟩:=hI.2.2.2 (hL 10 (by simp));show wpListIn NF m prog _ _ _ (Act.put (Act.put _ (some 52) (u 9)) (some 53) (u 10)) _;rw[e10];have zf:=fun m=>Nk m W _ b (i0:Int) r h5 hb hn (by omega) hspare
     gi_wp2_with (gi_at_call 200;refine(zf _).mono ?_;rintro e w6 ⟨j,hj,rfl,h6,M6⟩);have hjl:=(KH.1 hj).1;have hH0:Bi K.ps K.AJ i0=0:=(by rw[<-hO.CY.ho i0 hi0];exact hd0);obtain⟨J5,Fb⟩:=hO.fds (K1:={ K with nm:=K.nm,op:=Az K.op f (K.op f+1),T:=A8 (K.T) pb (12,f),desc:=Az K.desc i0 1,ef:=Az K.ef i0 (some f) }) (r':={ r with fds:=r.fds.set j (i0:Int) }) (H:=Az (Bi K.ps K.AJ) i0 1) ⟨rfl⟩ hm hb rfl rfl rfl rfl rfl (RP o (fun e=>by simp[o.fds e]) (Ou o.fd (.inr ⟨i0,rfl,hi0⟩)) hn) (hO.CY.add (o:=some (f)) (nm:=K.nm) hi0 hd0 hO.CY.nm hO.CY.dj) (fun k _=>by
      have:=Ke (m:=(i0:Int)) (a:=(k:Int)) hj
      rw[if_neg (c:=(-1:Int)=(k:Int)) (by omega)]at this
      simp only[Az]
      split
      ·rename_i e;subst e;rw[if_pos rfl]at this;omega
      ·rename_i e;rw[if_neg (by omega)]at this;omega)
     have WE:Bw K.T (A8 (K.T) pb (12,f)) w0 w6:=((((Bw.no KK h0.lt)).then (Ab.refl No w2).drew).trans M5).trans M6;gi_wp2_with (first|(gi_at_call 152;refine(Cr _ _ j (by omega)).mono ?_;rintro e wz ⟨rfl,Kz⟩;obtain⟨w8,Ar,K8,b8⟩:=Af (x:=j) (y:=0) (f:=.nilFunc) (Kz.old (WE.old rb E8) id) rfl)|refine Ae rfl _ _ _ rfl rfl rfl Ar ?_);refine TR j 0 (by simp[results,results150,go_sem,Dz b8]) rfl ?_;exact AV (K':=KS.Cg { K with nm:=K.nm,op:=Az K.op f (K.op f+1),T:=A8 (K.T) pb (12,f),desc:=Az K.desc i0 1,ef:=Az K.ef i0 (some f) } b { r with fds:=r.fds.set j (i0:Int) }) (x:=j) (y:=0) h.lt K0 BA ((WE).then Kz) ((h6).no Kz) K8 (by omega) (by omega) (.inl rfl) (J5) (Fb) Al (fun _=>hm)
   ·have KK:=K1.then K2;gi_wp2_with (first|(gi_at_call 140;refine(AL _ _ xx).mono ?_;rintro e wz ⟨rfl,Kz⟩;obtain⟨w8,Ar,K8,b8⟩:=Af (x:=0) (y:=xx) (f:=.nilFunc) (Kz.old (KK.old rb id) id) rfl)|refine Ae rfl _ _ _ rfl rfl rfl Ar ?_);refine TR 0 xx (by simp[results,results150,go_sem,Dz b8]) rfl ?_;exact Br h hO hm hb K0 BA (KK.then Kz) K8 (by decide) (by omega)
  ·generalize hw0:w.alloc V_=w0 at*;gi_wp2_with (first|(gi_at_call 140;refine(AL _ _ 6).mono ?_;rintro e wz ⟨rfl,Kz⟩;obtain⟨w8,Ar,K8,b8⟩:=Af (x:=0) (y:=6) (f:=.nilFunc) (Kz.old (K1.old rb id) id) rfl)|refine Ae rfl _ _ _ rfl rfl rfl Ar ?_);refine TR 0 6 (by simp[results,results150,go_sem,Dz b8]) rfl ?_;exact Br h hO hm hb K0 BA (K1.then Kz) K8 (by decide) (by decide)
  ·generalize hw0:w.alloc V_=w0 at*;gi_wp2_with (first|(gi_at_call 140;refine(AL _ _ 13).mono ?_;rintro e wz ⟨rfl,Kz⟩;obtain⟨w8,Ar,K8,b8⟩:=Af (x:=0) (y:=13) (f:=.nilFunc) (Kz.old (K1.old rb id) id) rfl)|refine Ae rfl _ _ _ rfl rfl rfl Ar ?_);refine TR 0 13 (by simp[results,results150,go_sem,Dz b8]) rfl ?_;exact Br h hO hm hb K0 BA (K1.then Kz) K8 (by decide) (by decide)
 ·have g1:((number:Int) !=0)=true:=by simp;omega
  gi_enter func150,ntmps150;gi_wp2_with (gi_at_call 205;refine(cn _).mono ?_;rintro e w1 ⟨K1,x,rfl,hx⟩;rcases hx with⟨rfl,Ja,f,mJ⟩|⟨rfl,Ja,mJ⟩|⟨rfl,Ja⟩)
  ·gi_wp2_with (gi_at_call 198;refine(ct _ _ K1).mono ?_;rintro e w2 ⟨⟨rfl,hs1,hs2⟩|⟨xx,rfl,hxx,zH⟩,K2⟩<;>generalize hw0:w.alloc V_=w0 at *)
   ·have KK:=K1.then K2;have hspare:1<=EA r.fds:=hs1;have hroom:1<=GH K.desc 20:=hs2;have h3:=h0.no KK;have h3d:AQ { K with nm:=K.nm,T:=K.T } w2.drew:=AQ.no h3 (Ab.refl No w2).drew;have mQ:=fun m=>VL m w2.drew { K with nm:=K.nm,T:=K.T } name f h3d Ja (mJ) (by have h1:=hO.CY.op (f);have h2:=LC K.desc K.ef (f);show K.op (f)<=1000;omega)
    refine BZ (P:=prog) _ rfl rfl (by kernel_rfl) 11 56 [0,1,2,3,4,5,6,7,8] [9,10] (by kernel_rfl) (by rfl)
     (TY (On (K.T) fun t=>t≠(0,0)) w2.drew 9 10 (fun v W=>∃pb,v=.iface 337 (ptr pb)/\AQ { K with nm:=K.nm,op:=Az K.op f (K.op f+1),T:=A8 (K.T) pb (12,f) } W/\Bw (K.T) (A8 (K.T) pb (12,f)) w2.drew W) (fun _ v W=>∃pb i0,v=.int .i64 (i0:Nat)/\i0<20/\K.desc i0=0/\AQ { K with nm:=K.nm,op:=Az K.op f (K.op f+1),T:=A8 (K.T) pb (12,f),desc:=Az K.desc i0 1,ef:=Az K.ef i0 (some f) } W/\Bw (K.T) (A8 (K.T) pb (12,f)) w2.drew W)) (Po (by simp) (by simp)) _ _ rfl rfl ?_;gi_wp2;refine⟨rfl,by kernel_rfl,Lv,?_,?_,?_⟩
    ·intro L' u W hI
     repeat' (refine Ao ?_ ?_)
     all_goals first|exact trivial|gi_wp2
    ·intro q hq L' u W hI lU hu;rcases(by simpa using hq:q=9\/q=10)with rfl|rfl
     ·obtain⟨rfl,_⟩:=hI.2.1 lU;refine Bh rfl fun KK Ko=>?_
      show wpListIn NF m prog _ _ _ (Act.put (Act.put _ (some 52) (u 9)) (some 53) (u 10)) _;gi_wp2_with (gi_at_call 206;refine(mQ _).mono ?_;rintro e w4 ⟨pb,rfl,h4,M4⟩);exact⟨_,rfl,Pn hI (by decide) lU M4.keep ⟨pb,rfl,h4,M4⟩⟩
     ·have h9:=hu 9 (by simp) (by decide);obtain⟨pb,e9,h4,M4⟩:=hI.2.2.1 h9 lU;refine Bh rfl fun KK Ko=>?_
      show wpListIn NF m prog _ _ _ (Act.put (Act.put _ (some 52) (u 9)) (some 53) (u 10)) _;have ca:=fun m=>RX m W _ (.iface 337 (ptr pb)) (some (f)) h4 ⟨pb,.inl ⟨rfl,f,BB,rfl⟩⟩ (Nu hroom)
      simp only[ptr]at ca e9;rw[e9];gi_wp2_with (gi_at_call 201;refine(ca _).mono ?_;rintro e w5 ⟨i0,hi0,hd0,rfl,h5,M5⟩);rw[<-e9];exact⟨_,rfl,Pm (by decide) h9 (M4.trans M5).keep ⟨pb,i0,rfl,hi0,hd0,h5,M4.trans M5⟩⟩
    ·intro L' u W hI hL;obtain⟨pb,i0,e10,hi0,hd0,h5,M5⟩:=hI.2.2.2 (hL 10 (by simp));show wpListIn NF m prog _ _ _ (Act.put (Act.put _ (some 52) (u 9)) (some 53) (u 10)) _;rw[e10];have zf:=fun m=>Nk m W _ b (i0:Int) r h5 hb hn (by omega) hspare
     gi_wp2_with (gi_at_call 200;refine(zf _).mono ?_;rintro e w6 ⟨j,hj,rfl,h6,M6⟩);have hjl:=(KH.1 hj).1;have hH0:Bi K.ps K.AJ i0=0:=(by rw[<-hO.CY.ho i0 hi0];exact hd0);obtain⟨J5,Fb⟩:=hO.fds (K1:={ K with nm:=K.nm,op:=Az K.op f (K.op f+1),T:=A8 (K.T) pb (12,f),desc:=Az K.desc i0 1,ef:=Az K.ef i0 (some f) }) (r':={ r with fds:=r.fds.set j (i0:Int) }) (H:=Az (Bi K.ps K.AJ) i0 1) ⟨rfl⟩ hm hb rfl rfl rfl rfl rfl (RP o (fun e=>by simp[o.fds e]) (Ou o.fd (.inr ⟨i0,rfl,hi0⟩)) hn) (hO.CY.add (o:=some (f)) (nm:=K.nm) hi0 hd0 hO.CY.nm hO.CY.dj) (fun k _=>by
      have:=Ke (m:=(i0:Int)) (a:=(k:Int)) hj
      rw[if_neg (c:=(-1:Int)=(k:Int)) (by omega)]at this
      simp only[Az]
      split
      ·rename_i e;subst e;rw[if_pos rfl]at this;omega
      ·rename_i e;rw[if_neg (by omega)]at this;omega)
     have WE:Bw K.T (A8 (K.T) pb (12,f)) w0 w6:=((((Bw.no KK h0.lt)).then (Ab.refl No w2).drew).trans M5).trans M6;gi_wp2_with (first|(gi_at_call 152;refine(Cr _ _ j (by omega)).mono ?_;rintro e wz ⟨rfl,Kz⟩;obtain⟨w8,Ar,K8,b8⟩:=Af (x:=j) (y:=0) (f:=.nilFunc) (Kz.old (WE.old rb E8) id) rfl)|refine Ae rfl _ _ _ rfl rfl rfl Ar ?_);refine TR j 0 (by simp[results,results150,go_sem,Dz b8]) rfl ?_;exact AV (K':=KS.Cg { K with nm:=K.nm,op:=Az K.op f (K.op f+1),T:=A8 (K.T) pb (12,f),desc:=Az K.desc i0 1,ef:=Az K.ef i0 (some f) } b { r with fds:=r.fds.set j (i0:Int) }) (x:=j) (y:=0) h.lt K0 BA ((WE).then Kz) ((h6).no Kz) K8 (by omega) (by omega) (.inl rfl) (J5) (Fb) Al (fun _=>hm)
   ·have KK:=K1.then K2;gi_wp2_with (first|(gi_at_call 140;refine(AL _ _ xx).mono ?_;rintro e wz ⟨rfl,Kz⟩;obtain⟨w8,Ar,K8,b8⟩:=Af (x:=0) (y:=xx) (f:=.nilFunc) (Kz.old (KK.old rb id) id) rfl)|refine Ae rfl _ _ _ rfl rfl rfl Ar ?_);refine TR 0 xx (by simp[results,results150,go_sem,Dz b8]) rfl ?_;exact Br h hO hm hb K0 BA (KK.then Kz) K8 (by decide) (by omega)
  ·gi_wp2_with (gi_at_call 198;refine(ct _ _ K1).mono ?_;rintro e w2 ⟨⟨rfl,hs1,hs2⟩|⟨xx,rfl,hxx,zH⟩,K2⟩<;>generalize hw0:w.alloc V_=w0 at *)
   ·have KK:=K1.then K2;have hspare:1<=EA r.fds:=hs1;have hroom:1<=GH K.desc 20:=hs2;have h2:=h0.no KK;have hnew:=ab4 h2 hO.CY (Nat.le_refl _);have cmk:=fun m=>ac2 m w2 K name h2 Ja hnew
    clear hnew;gi_wp2_with (gi_at_call 44;refine(cmk _).mono ?_;rintro e w3 ⟨rfl,h3,M3⟩);have af6:K.T w2.heap.size=(0,0):=h2.lt _ (Nat.le_refl _);have hnn:∀i,i<16->K.nm i≠some w2.heap.size:=fun i hi e=>by
     have:=(h2.xu hi).2 _ e
     rw[af6]at this;simp at this
    have az2:∀i j f,i<16->j<16->Az K.nm name (some w2.heap.size) i=some f->Az K.nm name (some w2.heap.size) j=some f->i=j:=fun i j f hi hj h1 h2=>by
     simp only[Az]at h1 h2
     split at h1<;>split at h2
     ·omega
     ·rename_i e1 e2;rw[<-h1]at h2;exact absurd h2 (hnn j hj)
     ·rename_i e1 e2;rw[<-h2]at h1;exact absurd h1 (hnn i hi)
     ·exact hO.CY.nm i j f hi hj h1 h2
    have ba2:∀i f,i<16->Az K.nm name (some w2.heap.size) i=some f->f ∉ K.nl:=fun i f hi h1 hf=>by
     simp only[Az]at h1
     split at h1
     ·obtain rfl:w2.heap.size=f:=(by simpa using h1);obtain⟨ks,_,hc⟩:=h2.k;obtain⟨_,_,_,hbN⟩:=hc.nl;have:=hbN _ hf;rw[af6]at this;simp at this
     ·exact hO.CY.dj i f hi h1 hf
    have h3d:AQ { K with nm:=Az K.nm name (some w2.heap.size),T:=A8 K.T w2.heap.size (10,0) } w3.drew:=AQ.no h3 (Ab.refl No w3).drew;have mQ:=fun m=>VL m w3.drew { K with nm:=Az K.nm name (some w2.heap.size),T:=A8 K.T w2.heap.size (10,0) } name w2.heap.size h3d Ja (by simp[Az]) (by have h1:=hO.CY.op (w2.heap.size);have h2:=LC K.desc K.ef (w2.heap.size);show K.op (w2.heap.size)<=1000;omega)
    refine BZ (P:=prog) _ rfl rfl (by kernel_rfl) 11 56 [0,1,2,3,4,5,6,7,8] [9,10] (by kernel_rfl) (by rfl)
     (TY (On (A8 K.T w2.heap.size (10,0)) fun t=>t≠(0,0)) w3.drew 9 10 (fun v W=>∃pb,v=.iface 337 (ptr pb)/\AQ { K with nm:=Az K.nm name (some w2.heap.size),op:=Az K.op w2.heap.size (K.op w2.heap.size+1),T:=A8 (A8 K.T w2.heap.size (10,0)) pb (12,w2.heap.size) } W/\Bw (A8 K.T w2.heap.size (10,0)) (A8 (A8 K.T w2.heap.size (10,0)) pb (12,w2.heap.size)) w3.drew W) (fun _ v W=>∃pb i0,v=.int .i64 (i0:Nat)/\i0<20/\K.desc i0=0/\AQ { K with nm:=Az K.nm name (some w2.heap.size),op:=Az K.op w2.heap.size (K.op w2.heap.size+1),T:=A8 (A8 K.T w2.heap.size (10,0)) pb (12,w2.heap.size),desc:=Az K.desc i0 1,ef:=Az K.ef i0 (some w2.heap.size) } W/\Bw (A8 K.T w2.heap.size (10,0)) (A8 (A8 K.T w2.heap.size (10,0)) pb (12,w2.heap.size)) w3.drew W)) (Po (by simp) (by simp)) _ _ rfl rfl ?_;gi_wp2;refine⟨rfl,by kernel_rfl,Lv,?_,?_,?_⟩
    ·intro L' u W hI
     repeat' (refine Ao ?_ ?_)
     all_goals first|exact trivial|gi_wp2
    ·intro q hq L' u W hI lU hu;rcases(by simpa using hq:q=9\/q=10)with rfl|rfl
     ·obtain⟨rfl,_⟩:=hI.2.1 lU;refine Bh rfl fun KK Ko=>?_
      show wpListIn NF m prog _ _ _ (Act.put (Act.put _ (some 52) (u 9)) (some 53) (u 10)) _;gi_wp2_with (gi_at_call 206;refine(mQ _).mono ?_;rintro e w4 ⟨pb,rfl,h4,M4⟩);exact⟨_,rfl,Pn hI (by decide) lU M4.keep ⟨pb,rfl,h4,M4⟩⟩
     ·have h9:=hu 9 (by simp) (by decide);obtain⟨pb,e9,h4,M4⟩:=hI.2.2.1 h9 lU;refine Bh rfl fun KK Ko=>?_
      show wpListIn NF m prog _ _ _ (Act.put (Act.put _ (some 52) (u 9)) (some 53) (u 10)) _;have ca:=fun m=>RX m W _ (.iface 337 (ptr pb)) (some (w2.heap.size)) h4 ⟨pb,.inl ⟨rfl,w2.heap.size,BB,rfl⟩⟩ (Nu hroom)
      simp only[ptr]at ca e9;rw[e9];gi_wp2_with (gi_at_call 201;refine(ca _).mono ?_;rintro e w5 ⟨i0,hi0,hd0,rfl,h5,M5⟩);rw[<-e9];exact⟨_,rfl,Pm (by decide) h9 (M4.trans M5).keep ⟨pb,i0,rfl,hi0,hd0,h5,M4.trans M5⟩⟩
    ·intro L' u W hI hL;obtain⟨pb,i0,e10,hi0,hd0,h5,M5⟩:=hI.2.2.2 (hL 10 (by simp));show wpListIn NF m prog _ _ _ (Act.put (Act.put _ (some 52) (u 9)) (some 53) (u 10)) _;rw[e10];have zf:=fun m=>Nk m W _ b (i0:Int) r h5 hb hn (by omega) hspare
     gi_wp2_with (gi_at_call 200;refine(zf _).mono ?_;rintro e w6 ⟨j,hj,rfl,h6,M6⟩);have hjl:=(KH.1 hj).1;have hH0:Bi K.ps K.AJ i0=0:=(by rw[<-hO.CY.ho i0 hi0];exact hd0);obtain⟨J5,Fb⟩:=hO.fds (K1:={ K with nm:=Az K.nm name (some w2.heap.size),op:=Az K.op w2.heap.size (K.op w2.heap.size+1),T:=A8 (A8 K.T w2.heap.size (10,0)) pb (12,w2.heap.size),desc:=Az K.desc i0 1,ef:=Az K.ef i0 (some w2.heap.size) }) (r':={ r with fds:=r.fds.set j (i0:Int) }) (H:=Az (Bi K.ps K.AJ) i0 1) ⟨rfl⟩ hm hb rfl rfl rfl rfl rfl (RP o (fun e=>by simp[o.fds e]) (Ou o.fd (.inr ⟨i0,rfl,hi0⟩)) hn) (hO.CY.add (o:=some (w2.heap.size)) (nm:=Az K.nm name (some w2.heap.size)) hi0 hd0 az2 ba2) (fun k _=>by
      have:=Ke (m:=(i0:Int)) (a:=(k:Int)) hj
      rw[if_neg (c:=(-1:Int)=(k:Int)) (by omega)]at this
      simp only[Az]
      split
      ·rename_i e;subst e;rw[if_pos rfl]at this;omega
      ·rename_i e;rw[if_neg (by omega)]at this;omega)
     have WE:Bw K.T (A8 (A8 K.T w2.heap.size (10,0)) pb (12,w2.heap.size)) w0 w6:=((((Bw.no KK h0.lt).trans M3).then (Ab.refl No w3).drew).trans M5).trans M6;gi_wp2_with (first|(gi_at_call 152;refine(Cr _ _ j (by omega)).mono ?_;rintro e wz ⟨rfl,Kz⟩;obtain⟨w8,Ar,K8,b8⟩:=Af (x:=j) (y:=0) (f:=.nilFunc) (Kz.old (WE.old rb E8) id) rfl)|refine Ae rfl _ _ _ rfl rfl rfl Ar ?_);refine TR j 0 (by simp[results,results150,go_sem,Dz b8]) rfl ?_;exact AV (K':=KS.Cg { K with nm:=Az K.nm name (some w2.heap.size),op:=Az K.op w2.heap.size (K.op w2.heap.size+1),T:=A8 (A8 K.T w2.heap.size (10,0)) pb (12,w2.heap.size),desc:=Az K.desc i0 1,ef:=Az K.ef i0 (some w2.heap.size) } b { r with fds:=r.fds.set j (i0:Int) }) (x:=j) (y:=0) h.lt K0 BA ((WE).then Kz) ((h6).no Kz) K8 (by omega) (by omega) (.inl rfl) (J5) (Fb) Al (fun _=>hm)
   ·have KK:=K1.then K2;gi_wp2_with (first|(gi_at_call 140;refine(AL _ _ xx).mono ?_;rintro e wz ⟨rfl,Kz⟩;obtain⟨w8,Ar,K8,b8⟩:=Af (x:=0) (y:=xx) (f:=.nilFunc) (Kz.old (KK.old rb id) id) rfl)|refine Ae rfl _ _ _ rfl rfl rfl Ar ?_);refine TR 0 xx (by simp[results,results150,go_sem,Dz b8]) rfl ?_;exact Br h hO hm hb K0 BA (KK.then Kz) K8 (by decide) (by omega)
  ·generalize hw0:w.alloc V_=w0 at*;gi_wp2_with (first|(gi_at_call 140;refine(AL _ _ 13).mono ?_;rintro e wz ⟨rfl,Kz⟩;obtain⟨w8,Ar,K8,b8⟩:=Af (x:=0) (y:=13) (f:=.nilFunc) (Kz.old (K1.old rb id) id) rfl)|refine Ae rfl _ _ _ rfl rfl rfl Ar ?_);refine TR 0 13 (by simp[results,results150,go_sem,Dz b8]) rfl ?_;exact Br h hO hm hb K0 BA (K1.then Kz) K8 (by decide) (by decide)
end
end Go.Fxa
