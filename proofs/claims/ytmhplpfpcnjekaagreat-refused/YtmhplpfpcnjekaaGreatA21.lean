/- May a file grow? -/
import Derived.Test.YtmhplpfpcnjekaaGreatA20
namespace Go.Fxa
open Conc Proofs RowKit Proofs.Tryz
set_option maxRecDepth 1000000
set_option maxHeartbeats 0
variable {K:KS}{w:o_}{f n k i c e0 o pl L:Nat}{ln:Nat->Nat}{nm:Nat->d_ Nat}{a:d_ f_}{ws:List Nat}{r:PR}
theorem Β (h:AY K w):∃es:X_,(Instr.loadAt 102 (.pointer (some (S_ K.kb 4)))).run prog w=.ok (.agg es) w/\∀i,i<16->∀w,(Instr.index 102 (.agg es) (b_ (i:Nat))).run prog w=.ok (VJ (K.nm i)) w:=by
 obtain⟨a,q,d⟩:=h.k;have s:20<a.size:=by
  obtain⟨_,h,_⟩:=d.nl
  exact(y_.1 h).1
 have c:((a.toList.drop 4).take 16).length=16:=by simp;omega
 have f:=run_loadCells_list (P:=prog) w (S_ K.kb 4) ((a.toList.drop 4).take 16) (λj v b=>by
  have l:((S_ K.kb 4):f_).add j=(S_ K.kb (4+j)):=by unfold Addr.add;split<;>simp_all
  rw[l,Ai q]
  rw[List.getElem?_take]at b
  split at b
  .simpa using b
  .cases b)
 rw[c]at f;have a1:∀w,(isAgg 102).run prog w=.ok true w:=λw=>sU
 have a2:∀w,(sizeOf 102).run prog w=.ok 16 w:=λw=>sU
 have m:∀w,(isAgg 101).run prog w=.ok false w:=λw=>sU
 have n:∀w,(sizeOf 101).run prog w=.ok 1 w:=λw=>sU
 refine⟨((a.toList.drop 4).take 16).toArray,by simp[Instr.loadAt,loadVar,Instr.sureAddr,a1,a2,f],λi hi w=>?_⟩;have p:=(d.nm i hi).1;have e:((a.toList.drop 4).take 16).toArray[i]?=some (VJ (K.nm i)):=by
  simp only[List.getElem?_toArray,List.getElem?_take,List.getElem?_drop,Array.getElem?_toList]
  rw[rW hi];exact p
 have o:∀w:o_,(asIntOf (b_ (i:Nat))).run prog w=.ok (.i64,(i:Int)) w:=λ_=>rfl
 have r:∀w,(underlying 102).run prog w=.ok (.array 16 101) w:=run_underlying underlying102;generalize ((a.toList.drop 4).take 16).toArray=es at e;have g:(i:Int)<16:=wB
 simp[Instr.index,o,r,part,m,n,e,g]
theorem AY.ce4 (h:AY K w)(l:∀b,K.T b=(10,0)->JS w b (ln b))(j:K.T f=(10,0)):∃a c,w.cell? (R_ f)=some (.slice a (ln f) c)/\ln f<=64:=by
 obtain⟨u,d,i⟩:=h.fl.file f j;obtain⟨a,c,rfl,_,g,_⟩:=i.shape;have e:ln f=(K.ct f).ws.length:=(l f j).eq ⟨a,c,_,d⟩;exact⟨a,c,by rw[e];exact(Ai d 0).trans rfl,wB⟩
theorem jC (h:n<=64):Aj n<=8:=by unfold Aj;omega
theorem Ui {f:Nat->Nat}:BP f (List.range (k+1))=BP f (List.range k)+f k:=by
 rw[List.range_succ,QV];simp[BP]
theorem Py (h:nm i=none):PO ln nm i=0:=by unfold PO;rw[h]
theorem QY (h:nm i=some f):PO ln nm i=Aj (ln f):=by unfold PO;rw[h]
theorem ϣ {f:Nat->Nat}{l:List Nat}{j b:Nat}(h:l[j]?=some b):BP f (l.take (j+1))=BP f (l.take j)+f b:=by
 rw[List.take_add_one,h,QV];simp[BP]
theorem AY.fct (h:AY K w)(l:∀b,K.T b=(10,0)->JS w b (ln b))(j:K.T f=(10,0)):ln f=(K.ct f).ws.length:=by
 obtain⟨u,e,g⟩:=h.fl.file f j;obtain⟨a,c,rfl,_,d,_⟩:=g.shape;exact(l f j).eq ⟨a,c,_,e⟩
theorem AY.bk9 (h:AY K w)(j:∀b,K.T b=(10,0)->JS w b (ln b)):Nv ln K.nm K.nl=Nv (λb=>(K.ct b).ws.length) K.nm K.nl:=by
 unfold Nv
 congr 1
 .refine BU λi hi=>?_
  have hi:=List.mem_range.1 hi;obtain⟨g,_,c⟩:=h.k;cases e:K.nm i with
  |none=>rw[Py e,Py e]
  |some f=>rw[QY e,QY e,h.fct j ((c.nm i hi).2 f e)]
 .refine BU λf d=>?_
  obtain⟨g,_,c⟩:=h.k;obtain⟨_,_,_,a⟩:=c.nl;show Aj (ln f)=_;rw[h.fct j (a f d)]
theorem og {y:Int}{s t:Nat}{x:Bool}(j:Nonempty (PLift (y=(Aj n:Nat)-(Aj (ln f):Nat)+(s:Nat)+(t:Nat))))(p:Nv ln K.nm K.nl=s+t)(h:∀b,K.T b=(10,0)->JS w b (ln b))(g:Nonempty (PLift (Nv ln K.nm K.nl<=40)))(m:Nonempty (PLift (Nv ln K.nm K.nl=Nv (λb=>(K.ct b).ws.length) K.nm K.nl/\ln f=(K.ct f).ws.length)))(l:x=true ↔ y<=40):YO K w f n x:=by
 obtain⟨⟨j⟩⟩:=j;obtain⟨⟨d⟩⟩:=g;obtain⟨⟨a,c⟩⟩:=m;refine⟨λe=>?_,?_⟩
 .have:=l.1 e;exact⟨ln,h,d,wB⟩
 .unfold Yp KS.GI;rw[l,<-a,<-c];omega
section
variable (m:Nat)(w:o_)
theorem ZM (K:KS)(f n:Nat)(h:AY K w)(tf:K.T f=(10,0))(hn:n<=1000)(hnl:K.nl.length<=1000):
  O_ m 281 #[.pointer (some (S_ K.kb 4)),Q_ f,b_ (n:Nat)] w λe w'=>Aa No w w'/\∃x,e=.returned (.bool x)/\YO K w f n x:=by
 obtain⟨l,d,p⟩:=h.dk;obtain⟨af,cf,q0,hnf⟩:=h.ce4 d tf;have D:∀{w1 o},Aa No w w1->K.T o=(10,0)->∃a c,w1.cell? (R_ o)=some (.slice a (l o) c)/\l o<=64:=λr C=>(h.no r).ce4 (λb e=>(d b e).keep r id) C
 have p:=Nonempty.intro (PLift.up p);have F:=Nonempty.intro (PLift.up (And.intro (h.bk9 d) (h.fct d tf)));have JU:Aj n<=200:=by unfold Aj;omega
 have Iq:=jC hnf;gi_enter func281,ntmps281;gi_wp2;refine DI (P:=prog) No _ rfl rfl sU 7 59 [0,2,3,4,5,6] [1] sU (by rfl) (λ_ v W=>v=b_ (Aj n:Nat)) (λ_ _ _ _ _ h _=>h) _ _ rfl rfl ?_;gi_wp2_with (gi_at_call 48;refine(Gm _ _ _ wB).mono ?_;rintro e w1 ⟨rfl,rfl⟩);refine⟨rfl,sU,?_,?_,?_⟩
 .intro W r;have d0:=r.has (w:=w.drew) q0
  repeat' (refine AA ?_ ?_)
  all_goals first|exact dE|gi_wp2
 .intro i hi u W r _;obtain rfl:i=1:=by simpa using hi
  refine BI rfl λKK Ol=>?_
  show wpListIn NF m prog _ _ _ (Act.put _ (some 13) (u 1)) _;gi_wp2_with (gi_at_call 48;refine(Gm _ _ _ wB).mono ?_;rintro e w1 ⟨rfl,rfl⟩);exact⟨_,rfl,Aa.refl _ _,rfl⟩
 .intro u W r hu;have hu:=hu 1 sJ;show wpListIn NF m prog _ _ _ (Act.put _ (some 13) (u 1)) _;rw[hu];have KW:Aa No w W:=(Aa.refl No w).drew.then r;have hW:=h.no KW;obtain⟨es,Z,V⟩:=Β hW;gi_wp2_with (first|(gi_at_call 48;refine(Gm _ _ _ wB).mono ?_;rintro e w1 ⟨rfl,rfl⟩)|refine Ws rfl (.tmp 23) 102 rfl rfl Z ?_);gi_loopw [7,25] (λa i wr=>∃(k:Nat) (x:Int),k<=16/\a=b_ x/\-1000<=x/\x<=1000+10*k/\i=b_ k/\Aa No w wr/\Nonempty (PLift (x=(Aj n:Nat)-(Aj (l f):Nat)+(BP (PO l K.nm) (List.range k):Nat)))) (λ_ i _=>16-(intOf i).toNat)
  case atStart=>exact⟨0,_,wB,rfl,wB,wB,rfl,KW,⟨⟨by simp[BP]⟩⟩⟩
  case round=>
   obtain⟨k,x,hk,rfl,O7,MX,rfl,KK,hX⟩:=hrel
   by_cases BL:k<16
   .have hlt':(k:Int)<16:=wB;have q:=V k BL wr;have hr:=h.no KK;cases hnm:K.nm k with
    |none=>
     rw[hnm]at q
     simp only[VJ]at q
     gi_wp2_with (refine Ry rfl (.tmp 24) (.tmp 25) 102 rfl rfl rfl q ?_)
     go_roundw
     case rel=>exact⟨k+1,x,wB,rfl,wB,wB,by go_num,KK,⟨⟨by obtain⟨⟨hX⟩⟩:=hX;rw[Ui,Py hnm];omega⟩⟩⟩
     case measure=>simp[intOf];omega
    |some o=>
     rw[hnm]at q
     simp only[VJ,ptr]at q
     obtain⟨ks,_,R⟩:=hr.k
     have C:=(R.nm k BL).2 o hnm
     obtain⟨a',c',q',A⟩:=D KK C
     have O:=jC A
     gi_wp2_with (first|refine Ry rfl (.tmp 24) (.tmp 25) 102 rfl rfl rfl q ?_|(gi_at_call 48;refine(Gm _ _ _ wB).mono ?_;rintro e w1 ⟨rfl,rfl⟩))
     go_roundw
     case rel=>exact⟨k+1,_,wB,rfl,wB,wB,by go_num,KK,⟨⟨by obtain⟨⟨hX⟩⟩:=hX;rw[Ui,QY hnm];omega⟩⟩⟩
     case measure=>simp[intOf];omega
   .obtain rfl:k=16:=wB;have hr:=h.no KK;obtain⟨ks,G,R⟩:=hr.k;obtain⟨v,q,hN,Q⟩:=R.nl;have q20:=(Ai G 20).trans q;obtain⟨rfl,I⟩|⟨g,c,rfl,hR,tg⟩:=hN
    .gi_wp2;refine wpIn_loop_once ?_;gi_wp2
     all_goals go_ret
     all_goals exact⟨KK,_,rfl,og (y:=x) (s:=BP (PO l K.nm) (List.range 16)) (t:=0) (let ⟨⟨e⟩⟩:=hX;⟨⟨by rw[e];simp⟩⟩) (by rw[I];rfl) d p F sJ⟩
    .gi_wp2;gi_loopw [7,44] (λa i wr=>∃(j:Nat) (y:Int),j<=K.nl.length/\a=b_ y/\-1000<=y/\y<=2000+10*j/\i=b_ j/\Aa No w wr/\Nonempty (PLift (y=(Aj n:Nat)-(Aj (l f):Nat)+(BP (PO l K.nm) (List.range 16):Nat)+(BP (λb=>Aj (l b)) (K.nl.take j):Nat)))) (λ_ i _=>K.nl.length-(intOf i).toNat)
     case atStart=>exact⟨0,x,wB,rfl,wB,wB,rfl,KK,⟨⟨by obtain⟨⟨hX⟩⟩:=hX;simp[BP,hX]⟩⟩⟩
     case round=>
      obtain⟨j,y,hj,rfl,hy1,hy2,rfl,B,N⟩:=hrel
      by_cases H:j<K.nl.length
      .have L:K.nl[j]?=some K.nl[j]:=JM H;generalize K.nl[j]=o at L;have X:=h.no B;have C:=Q o (t_ L);obtain⟨a',c',q',A⟩:=D B C;have O:=jC A;obtain⟨ks2,XU,S⟩:=X.k;obtain⟨v2,hv2,hN2,_⟩:=S.nl;have z:w.cell? (S_ g j)=some (Q_ o):=by
        obtain⟨ks3,Y,U⟩:=h.k
        have e3:=KK.old Y id
        rw[G]at e3
        obtain rfl:ks=ks3:=by simpa using e3
        obtain⟨v3,J,M,_⟩:=U.nl
        rw[q]at J
        cases J
        obtain⟨e,_⟩|⟨g3,c3,e,iw,_⟩:=M
        .cases e
        .cases e;rw[iw.cell wB];simp[Ce,L,ptr]
       have d3:=B.has z;gi_wp2_with (gi_at_call 48;refine(Gm _ _ _ wB).mono ?_;rintro e w1 ⟨rfl,rfl⟩);go_roundw
       case rel=>
        have E:Nonempty (PLift (y+(Aj (l o):Nat)=(Aj n:Nat)-(Aj (l f):Nat)+(BP (PO l K.nm) (List.range 16):Nat)+(BP (λb=>Aj (l b)) (K.nl.take (j+1)):Nat))):=⟨⟨by obtain⟨⟨N⟩⟩:=N;rw[ϣ L];omega⟩⟩
        first
        |exact⟨j+1,_,wB,rfl,wB,wB,by go_num,B,E⟩
        |exact⟨_,_,.int .i64 ((j:Int)+1),_,_,_,_,_,_,_,_,_,_,_,_,⟨j+1,y+Aj (l o),wB,rfl,wB,wB,sJ,B,E⟩,rfl⟩
       case measure=>simp[intOf];omega
      .obtain rfl:j=K.nl.length:=wB;gi_wp2
       all_goals go_ret
       all_goals exact⟨B,_,rfl,og N (by rw[List.take_length];rfl) d p F sJ⟩
end
theorem aw7:prog.underlying 3=some (.int .i64):=sU
theorem af2 (m:Nat):(Builtin.zeroCells (Value.int .u16 0).cells m).toList=Aw (List.replicate m 0):=by
 simp[Builtin.zeroCells,Aw,Value.cells];apply List.ext_getElem?;intro j;simp[List.getElem?_map,List.getElem?_replicate];by_cases h:j<m<;>simp[h,Nat.mod_one]
section
variable {w:o_}{ty:j_}{m:Nat}
theorem asI (w:o_):(asIntOf (b_ (m:Nat))).run prog w=.ok (.i64,(m:Int)) w:=rfl
theorem wrI (h:m<=1000):IntKind.i64.wrap (m:Int)=m:=by unfold IntKind.wrap;simp[IntKind.bits,IntKind.signed];split<;>omega
theorem bp6 (h:n<=c):(Builtin.append_ #[116,3] ty #[.slice a n c,b_ ((0:Nat):Int)]).run prog w=.ok (.slice a n c) w:=by
 obtain⟨ii,hi,e,_⟩:=JR.parts;have b:=λw=>asI (m:=0) w
 have d:=wrI (m:=0) wB;simp only[Int.natCast_zero]at b d ⊢;cases a<;>simp[Builtin.append_,run_underlying JR.und,run_underlying aw7,sizeOf,typeInfo,zeroValue,hi,e,Builtin.lenOf,h,asInt,b,d,storeCells]
theorem aw1 {g:Nat}{p:X_}{T:j_}(t:w.heap[g]?=some (N_ p T))(v:1<=m)(s:m<=1000)(q:n+m<=c)(u:n+m<=p.size):(Builtin.append_ #[116,3] ty #[P_ g n c,b_ (m:Nat)]).run prog w=.ok (P_ g (n+m) c) (w.setRow g (SH p.toList n (Aw (List.replicate m 0))).toArray):=by
 obtain⟨ii,hi,o,l,a⟩:=JR.parts;have j:=λw=>asI (m:=m) w
 have k:=wrI (m:=m) s;have d:¬((m:Int)<0):=wB
 have e:¬(281474976710656<(m:Int)*(ii.bytes:Int)):=by rw[a];omega
 have b:¬m=0:=wB
 have h:=run_storeCells_at prog g n T (Aw (List.replicate m 0)) 0 p w t (by simp[Aw];omega) (EJ _);simp only[Nat.add_zero]at h;have i:((R_ g):f_).add n=(S_ g n):=by unfold Addr.add;split<;>simp_all
 have f:=af2 m;simp[Builtin.append_,run_underlying JR.und,run_underlying aw7,sizeOf,typeInfo,zeroValue,hi,o,l,Builtin.lenOf,q,e,d,b,asInt,j,k,i,f,h,SH]
theorem bm6 (p:1<=m)(l:m<=1000):(Builtin.append_ #[116,3] ty #[.slice none 0 0,b_ (m:Nat)]).run prog w=.ok (P_ w.heap.size m (grownCap w m 0 123)) (w.drew.alloc (.cells ((Builtin.zeroCells (Value.int .u16 0).cells m)++Builtin.zeroCells (Value.int .u16 0).cells (grownCap w m 0 123-m)) 123)):=by
 obtain⟨ii,hi,j,i,c⟩:=JR.parts;have g:=λw=>asI (m:=m) w
 have h:=wrI (m:=m) l;have e:¬((m:Int)<0):=wB
 have f:¬(281474976710656<(m:Int)*(ii.bytes:Int)):=by rw[c];omega
 have d:¬m=0:=wB
 have b:¬(9223372036854775807<(m:Int)):=wB
 have a:¬(281474976710656<Builtin.nextslicecap m 0*ii.bytes):=by rw[nextslicecap_zero wB,c];omega
 simp[Builtin.append_,run_underlying JR.und,run_underlying aw7,sizeOf,typeInfo,zeroValue,hi,j,i,Builtin.lenOf,f,e,d,b,a,asInt,g,h,Question.forced,run_firstCells_none,newRow,grownCap]
end
theorem cf6 {T:Tag}{p M J m:Nat}{ty:j_}(O:Tf T w p M (.slice a n c) ws)(Q:M<=J)(S:n+m<=J)(R:J<=1000):∃v W,(Builtin.append_ #[116,3] ty #[.slice a n c,b_ (m:Nat)]).run prog w=.ok v W/\UK T w p J (ws++List.replicate m 0) v W/\(∃P N,v=.slice P (n+m) N)/\Aa (On T λt=>t=(15,p)) w W:=by
 by_cases H:m=0
 .subst H;rw[List.replicate_zero,List.append_nil];obtain⟨e,rfl⟩|⟨g,N,e,hR,A,s,r⟩:=O
  .cases e;exact⟨_,_,bp6 w_,.inl ⟨rfl,rfl⟩,⟨_,_,rfl⟩,Aa.refl _ _⟩
  .cases e;exact⟨_,_,bp6 hR.le,.inr ⟨g,c,rfl,hR,lN A Q,s,.inl r⟩,⟨_,_,rfl⟩,Aa.refl _ _⟩
 .have b:(List.replicate m 0).length=m:=List.length_replicate;obtain⟨e,rfl⟩|⟨g,N,e,hR,A,s,r⟩:=O
  .cases e;rw[List.nil_append];have u:=grownCap_ge w m 0 123;have y:m<=maxLen:=(by simp only[maxLen];omega);refine⟨_,_,bm6 wB wB,.inr ⟨w.heap.size,grownCap w m 0 123,by rw[b],⟨⟨_,Yw rfl,?_,?_⟩,by rw[b];exact u,grownCap_le_maxLen w m 0 123 y,by simp[Aw],EJ _⟩,by rw[b];omega,λx d=>?_,.inr w_⟩,⟨_,_,by rw[Nat.zero_add]⟩,((Aa.refl No w).drew.alloc _).no⟩
   .simp only[Array.size_append,size_zeroCells,JR.zs];omega
   .rw[b,Array.toList_append,af2];have:m*1=(Aw (List.replicate m 0)).length:=(by simp[Aw]);rw[this];exact List.take_left
   .rw[(List.mem_replicate.1 d).2];omega
  .cases e;obtain⟨h,F,k,f⟩:=hR.blk;have G:=hR.le;have d:∀x∈ws++List.replicate m 0,x<65536:=λx d=>by
    obtain d|d:=eF.1 d
    .exact s x d
    .rw[(List.mem_replicate.1 d).2];omega
   have q:(ws++List.replicate m 0).length=ws.length+m:=(by rw[g_,b]);have i:Aw (ws++List.replicate m 0)=Aw ws++Aw (List.replicate m 0):=(by simp[Aw]);by_cases B:ws.length+m<=c
   .have o:(Aw (List.replicate m 0)).length=m:=(by simp[Aw]);refine⟨_,_,aw1 F wB wB B (by rw[k];omega),.inr ⟨g,c,by rw[q],?_,wB,d,.inl r⟩,⟨_,_,rfl⟩,((Aa.refl (At g) w).setRow _ _ λ_=>rfl).on λx _ e=>by subst e;exact r⟩;rw[q];refine VO hR ?_ B ?_ (EJ _)
    .have j:h.toList.length=c*1:=(by simpa using k);rw[Ou (by rw[o,j];omega)];exact j
    .unfold SH;have l:(h.toList.take (ws.length*1)++Aw (List.replicate m 0)).length=(ws.length+m)*1:=(by rw[f,g_,o];simp[Aw]);have e1:ws.length*1=ws.length:=wB;rw[e1]at l f;rw[<-l,List.take_left,f,i]
   .obtain⟨C,I,D,z,E⟩:=aj6 (ty:=ty) (ti:=3) JR hR w_ (by omega:0<m) wB wB wB aw7;refine⟨_,_,D,.inr ⟨w.heap.size,C,by rw[q],?_,wB,d,.inr w_⟩,⟨_,_,rfl⟩,E.no⟩;rw[q];have e1:(Aw ws).take (ws.length*1)=Aw ws:=List.take_of_length_le (by simp[Aw]);rw[e1,af2,<-i]at z;exact z
theorem ak5 {α:Type}(a:α):∃l,Yp (a=l):=⟨a,show a=a from rfl⟩
def ay9 (ct:Nat->Ct)(e0 f:Nat)(ws:List Nat)(pl:Nat):Nat->Ct:=Ah (Ah ct f { ct f with ws:=ws}) e0 { Ah ct f { ct f with ws:=ws} e0 with n:=pl}
def XWf (K:KS)(e0 f:Nat)(r:PR)(o n:Nat):(Nat->Ct)->Nat->Nat->n_->Prop:=λct x y v=>v=.nilFunc/\((64<(K.ct e0).n+n/\ct=K.ct/\x=0/\y=9)\/((K.ct e0).n+n<=64/\((n=0/\ct=K.ct/\x=0/\y=0)\/(n≠0/\((¬K.GI f (max (K.ct f).ws.length ((K.ct e0).n+n))/\ct=K.ct/\x=0/\y=10)\/(K.GI f (max (K.ct f).ws.length ((K.ct e0).n+n))/\x=n/\y=0/\ct=ay9 K.ct e0 f (SV ((K.ct f).ws++List.replicate ((K.ct e0).n+n-(K.ct f).ws.length) 0) (K.ct e0).n ((r.Af.drop o).take n)) ((K.ct e0).n+n)))))))
theorem XWf.no (d:Yp ((K.ct f).ws=ws))(b:Yp ((K.ct e0).n=pl))(g:¬64<pl+n)(j:¬n=0)(hL:L=max ws.length (pl+n))(h:YO K w f L false):XWf K e0 f r o n K.ct 0 10 .nilFunc:=by
 unfold Yp at d b;subst d b hL;exact⟨rfl,.inr ⟨wB,.inr ⟨j,.inl ⟨λe=>by have:=h.2.out.2 e;simp at this,rfl,rfl,rfl⟩⟩⟩⟩
theorem XWf.yes {h:Nat}{b:List Nat}(g:Yp ((K.ct f).ws=ws))(e:Yp ((K.ct e0).n=pl))(j:¬64<pl+n)(q:¬n=0)(hL:L=max ws.length (pl+n))(l:YO K w f L true)(p:h=pl+n)(m:k=pl+n-ws.length)(d:Yp (b=SV (ws++List.replicate k 0) pl ((r.Af.drop o).take n))):XWf K e0 f r o n (Ah (Ah K.ct f { K.ct f with ws:=b}) e0 { Ah K.ct f { K.ct f with ws:=b} e0 with n:=h}) n 0 .nilFunc:=by
 unfold Yp at g e d;subst g e hL p m d;exact⟨rfl,.inr ⟨wB,.inr ⟨q,.inr ⟨l.2.out.1 rfl,rfl,rfl,rfl⟩⟩⟩⟩
section
variable (m:Nat)(w:o_)
theorem ϴ (K:KS)(b e0 f o n:Nat)(r:PR)(v:n_)(h:AY K w)(hb:K.ps b=some r)(hn:r.en=false)(hI:∀z∈r.Af,z<65536)(hL:r.Af.length<=128)(te:K.T e0=(12,f))(hv:O1 r v o n)(hnl:K.nl.length<=1000)(hU:Uniq K.nm K.nl):
  O_ m 279 #[Q_ e0,v] w (Sz (XWf K e0 f r o n) K b w):=by
 obtain⟨K0,rb,Cm⟩:=IE w;have I:=h.no K0;have Hl:K.T w.heap.size=(0,0):=h.lt _ w_;obtain⟨dv,rfl,cn0⟩:∃d,v=.slice d n n/\n<=128:=by
  obtain⟨rfl,rfl⟩|⟨g,c,_,rfl,_,_⟩:=hv
  .exact⟨none,rfl,wB⟩
  .exact⟨_,rfl,wB⟩
 obtain⟨he,V,ax3⟩:=I.fl.GU e0 f te;obtain⟨u,hf,hu⟩:=I.fl.file f V;obtain⟨j,rO⟩:∃j,Yp ((K.ct e0).n=j):=⟨_,rfl⟩;obtain⟨ws,Xx⟩:∃ws,Yp ((K.ct f).ws=ws):=⟨_,rfl⟩;rw[rO.out]at he ax3;rw[Xx.out]at hu;obtain⟨a,c',rfl,hwc,hw64,hwx,hwn,hws⟩:=hu.shape;have d0:(w.alloc V_).cell? (R_ e0)=some (.pointer (some (S_ K.kb 4))):=(Ai he 0).trans rfl;have d1:(w.alloc V_).cell? (S_ e0 1)=some (Q_ f):=(Ai he 1).trans rfl;have d2:(w.alloc V_).cell? (S_ e0 2)=some (b_ j):=(Ai he 2).trans rfl;have d3:(w.alloc V_).cell? (R_ f)=some (.slice a ws.length c'):=(Ai hf 0).trans rfl;by_cases h64:64<j+n
 .have f1:(64:Int)<(j:Int)+(n:Int):=wB
  gi_enter func279,ntmps279;gi_wp2_with fail;gi_wp2_with (first|(gi_at_call 273;refine(fw8 9 rb _).mono ?_;rintro e wz ⟨rfl,D,w8,X,Z,b8⟩)|refine Fa X ?_);refine T_ 0 9 (by simp[results,results279,go_sem,FU b8]) rfl ?_;exact Dq (T':=K.T) (ct:=K.ct) (x:=0) (y:=9) h.lt K0 Cm (((BQ.no (Aa.refl No _) I.lt)).then D) ((I).no D) Z wB wB (.inl rfl) ⟨rfl,.inl ⟨by rw[rO.out];exact h64,rfl,rfl,rfl⟩⟩
 .have f1:¬(64:Int)<(j:Int)+(n:Int):=wB
  by_cases hz:n=0
  .subst hz;simp only[Int.natCast_zero,Int.add_zero]at f1;gi_enter func279,ntmps279;gi_wp2_with fail;gi_wp2_with (first|(gi_at_call 272;refine(Dp _ _ 0 wB).mono ?_;rintro e wz ⟨rfl,D⟩;obtain⟨w8,X,Z,b8⟩:=Az (x:=0) (y:=0) (f:=.nilFunc) (D.old (rb) id) rfl)|refine Fa X ?_);refine T_ 0 0 (by simp[results,results279,go_sem,FU b8]) rfl ?_;exact Dq (T':=K.T) (ct:=K.ct) (x:=0) (y:=0) h.lt K0 Cm (((BQ.no (Aa.refl No _) I.lt)).then D) ((I).no D) Z wB wB (.inl rfl) ⟨rfl,.inr ⟨by rw[rO.out];omega,.inl ⟨rfl,rfl,rfl,rfl⟩⟩⟩
  .have f2:((n:Int)==0)=false:=(by simp;omega);obtain⟨l,hsz'⟩:∃l:Nat,(j:Int)+(n:Int)=(l:Int):=⟨j+n,wB⟩;rw[hsz']at f1;by_cases hmx:j+n<ws.length
   .have f3:(l:Int)<(ws.length:Int):=wB;gi_enter func279,ntmps279;gi_wp2;refine Cc 9 88 ?_;have cm:=λm w1 (G:Aa No (w.alloc V_) w1)=>ZM m w1 K f (ws.length) (I.no G) V wB wB
    gi_wp2_with (gi_at_call 281;refine(cm _ _ (Aa.refl No _).drew).mono ?_;rintro e w1 ⟨K1,x,rfl,_⟩);refine Ee ?_ ?_
    .intro W G;have e0':=G.has (w:=(w.alloc V_).drew) d0;have e1':=G.has (w:=(w.alloc V_).drew) d1
     repeat' (refine AA ?_ ?_)
     all_goals first|exact dE|gi_wp2
    .intro W G;have KW:Aa No (w.alloc V_) W:=(Aa.refl No _).drew.then G;gi_wp2_with (gi_at_call 281;refine(cm _ _ KW).mono ?_;rintro e w1 ⟨K1,x,rfl,hG⟩;have A:=KW.then K1;cases x)
     .have h1:=I.no A;gi_wp2_with (first|(gi_at_call 273;refine(fw8 10 (A.old rb id) _).mono ?_;rintro e wz ⟨rfl,D,w8,X,Z,b8⟩)|refine Fa X ?_);refine T_ 0 10 (by simp[results,results279,go_sem,FU b8]) rfl ?_;exact Dq (T':=K.T) (ct:=K.ct) (x:=0) (y:=10) h.lt K0 Cm (((BQ.no A I.lt)).then D) ((h1).no D) Z wB wB (.inl rfl) (XWf.no Xx rO h64 hz wB hG)
     .have h1:AY K w1.drew:=I.no A.drew;obtain⟨va,Wa,Jm,σ,⟨aa,ca,hva⟩,hKa⟩:=cf6 (ty:=116) (m:=ws.length-ws.length) (hu.set A.drew (fun _ _=>id)) (Nat.le_refl 64) wB wB;obtain⟨C,e9⟩ :=ak5 (ws++List.replicate (ws.length-ws.length) 0);rw[e9.out]at σ;have ev:((ws.length-ws.length:Nat):Int)=0:=wB;rw[ev]at Jm;obtain rfl:va=.slice aa (ws.length) ca:=hva.trans (by congr 1;omega);clear hva;have e0':w1.drew.cell? (R_ e0)=some (.pointer (some (S_ K.kb 4))):=A.has d0;have e1:w1.drew.cell? (S_ e0 1)=some (Q_ f):=A.has d1;have e2:w1.drew.cell? (S_ e0 2)=some (b_ j):=A.has d2;have e3:w1.drew.cell? (R_ f)=some (.slice a ws.length c'):=A.has d3;have iq:=l9 _ _ e1;have lf2:=l9 _ _ e3;refine Dx (P:=prog) _ rfl rfl sU 22 88 [0,1,2,3,4,5,6,7,8,9,10,11,12,13,14,15,16,17,18,19,20] [21] sU (by rfl)
       (Oi (On K.T λt=>t=(15,f)) w1.drew 21 (λv W=>UK K.T w1.drew f 64 C v W/\∃a' c',v=.slice a' (ws.length) c') []) (Gj sJ sJ) _ _ rfl rfl ?_;gi_wp2_with (refine Dl rfl (.tmp 53) (.tmp 63) _ rfl rfl rfl Jm ?_);refine⟨rfl,sU,Et,?_,?_,?_⟩
      .intro L' u W s;have g1:=(s.1.cell (w:=w1.drew) (p:=(S_ e0 1)) iq (by unfold On;rw[te];simp)).trans e1;have g3:=(s.1.cell (w:=w1.drew) (p:=(R_ f)) lf2 (by unfold On;rw[V];simp)).trans e3
       repeat' (refine AA ?_ ?_)
       all_goals first|exact dE|gi_wp2
      .intro i hi L' u W s hLi hu';obtain rfl:i=21:=(by simpa using hi);obtain rfl:=s.2.1 hLi;refine BI rfl λKK Ol=>?_
       show wpListIn NF m prog _ _ _ (Act.put _ (some 64) (u 21)) _;gi_wp2_with (refine Dl rfl (.tmp 53) (.tmp 63) _ rfl rfl rfl Jm ?_);exact⟨_,rfl,Gl s sJ hKa ⟨σ,_,_,rfl⟩⟩
      .intro L' u W s hL';obtain⟨hPw,a3,c3,e21⟩:=s.2.2.1 (hL' 21 sJ);show wpListIn NF m prog _ _ _ (Act.put _ (some 64) (u 21)) _;rw[e21];rw[e21]at hPw;have B:=s.1.old (w:=w1.drew) (A.old hf id) (by unfold On;rw[V];simp);have q3:W.cell? (R_ f)=some _:=(Ai B 0).trans rfl;have z3:=Cf B 0;have g1:=(s.1.cell (w:=w1.drew) (p:=(S_ e0 1)) iq (by unfold On;rw[te];simp)).trans e1;have Q:e0≠f:=λe=>by rw[e,V]at te;simp at te
       have cz4:¬f=e0:=gJ Q;obtain⟨T',MT,hwT⟩:=hPw.I7 s.1 h1.lt;have M:T' f=(10,0):=MT.tag V sJ;have U:T' e0=(12,f):=MT.tag te sJ;have Kst:Aa (At f) W (W.setCell (R_ f) (.slice a3 (ws.length) c3)):=(Aa.refl _ _).setCell _ λ_=>rfl
       have ae4:=hwT.set Kst (λg hg e=>by rw[show g=f from e,M]at hg;simp at hg);have s4:=h1.ad6 (by rw[V];simp) (by rw[V];simp) MT (EN.dH (ct:=Ah K.ct f { K.ct f with ws:=C}) (v:=.slice a3 (ws.length) c3) M (Ap B _) (by simpa [Ah]using ae4)) (XW.grow hG hU (K1.drew) MT B) (λb hb=>ru hb);obtain⟨e,_⟩|⟨g,c9,e,hR9,_,ae3,ξ⟩:=ae4
       .exfalso;injection e with _ e2;omega
       obtain⟨rfl,hl9,rfl⟩:a3=some (R_ g)/\ws.length=C.length/\c3=c9:=(by injection e with e1 e2 e3;exact⟨e1,e2,e3⟩);have cy6:=hR9.le;have g1':(W.setCell (R_ f) (P_ g (ws.length) c3)).cell? (S_ e0 1)=some (Q_ f):=(Kst.cell (p:=(S_ e0 1)) (l9 _ _ g1) Q).trans g1;have g2:=(s.1.cell (w:=w1.drew) (p:=(S_ e0 2)) iq (by unfold On;rw[te];simp)).trans e2;have g2':(W.setCell (R_ f) (P_ g (ws.length) c3)).cell? (S_ e0 2)=some (b_ j):=(Kst.cell (p:=(S_ e0 2)) (l9 _ _ g2) Q).trans g2;have g3':(W.setCell (R_ f) (P_ g (ws.length) c3)).cell? (R_ f)=some (P_ g (ws.length) c3):=(Ai (Ap B _) 0).trans sJ;have LU:BQ K.T T' (w.alloc V_) _:=(BQ.no A.drew I.lt).trans s4.2;have fc:¬c3=j:=wB;have fpl:¬((ws.length:Nat):Int)<(j:Int):=wB;have cp:∀WX,Aa No (W.setCell (R_ f) (P_ g (ws.length) c3)) WX->∃F q,(Builtin.copy_ #[116,116] 3 #[.slice (some (S_ g j)) (ws.length-j) (c3-j),.slice dv n n]).run prog WX=.ok (goInt (n:Nat)) F/\Aa (At g) WX F/\Rw 123 1 F g (ws.length) c3 (Aw q)/\q.length=ws.length/\(∀x∈q,x<65536)/\Yp (q=SV (ws++List.replicate (ws.length-ws.length) 0) j ((r.Af.drop o).take n)):=λWX J=>by
        have hX:=AY.no s4.1 J
        obtain⟨ys,S,hyx,hyd,hye⟩:=O1.words hX hb hn hI hv n (Nat.le_refl n)
        obtain⟨ad,rfl,hys⟩:=hyd.resolve_left hz
        have H:Nat.min n (ws.length-j)=n:=Nat.min_eq_left wB
        obtain⟨F,hr,G,IU⟩:=Vl (ty:=3) (IY:=ws.length-j) (IB:=c3-j) (CZ:=n) (sCap:=n) (o:=j) (Rw.keep hR9 J id) rfl hys (by rw[H];exact S) (by rw[S];omega)
        rw[H]at hr
        have hlen:(C.take j++ys++C.drop (j+ys.length)).length=ws.length:=by simp only[g_,eP,List.length_drop,S];omega
        refine⟨F,_,hr,G,by simpa only[hl9]using IU,hlen,λx E=>?_,(by show _=SV _ _ _;rw[<-hye.out,e9.out];rfl)⟩
        obtain E|E:=eF.1 E
        .obtain E|E:=eF.1 E
         .exact ae3 x (List.mem_of_mem_take E)
         .exact hyx x E
        .exact ae3 x (List.mem_of_mem_drop E)
       clear hl9 e;gi_wp2;generalize hW9:W.setCell (R_ f) (P_ g (ws.length) c3)=L at*;obtain⟨WY0,ws0,cz7,_,_⟩:=cp L.drew (Aa.refl No L).drew;refine Cc 13 88 ?_;gi_wp2;refine Ee ?_ ?_
       .intro W2 Y;have k1:=Y.has (w:=L.drew) g1';have k2:=Y.has (w:=L.drew) g2';have k3:=Y.has (w:=L.drew) g3'
        repeat' (refine AA ?_ ?_)
        all_goals first|exact dE|gi_wp2
       .intro W2 Y;have J:Aa No L W2:=(Aa.refl No L).drew.then Y;obtain⟨F,q,hcp,O,hRY,R,hxY,bs0⟩:=cp W2 J;have N:=AY.no s4.1 J;have hgf:g≠f:=λe=>by rw[e,M]at ξ;simp at ξ
        have hge:g≠e0:=λe=>by rw[e,U]at ξ;simp at ξ
        obtain⟨vf,hfX,_⟩:=N.fl.file f M;obtain⟨pn,heX⟩:∃pn:Nat,W2.heap[e0]?=some (N_ #[.pointer (some (S_ K.kb 4)),ptr f,b_ pn] 339):=⟨_,(N.fl.GU e0 f U).1⟩;have k3:=J.has g3';have ek:vf=P_ g (ws.length) c3:=by
         have:=(Ai hfX 0).symm.trans k3
         simpa using this
        subst ek;have s5:=AY.lY (b0:=f) (Qz:=Ah K.ct f { K.ct f with ws:=q}) N O (λk hk=>by rw[show k=g from hk];exact .inr ξ) (by show 10<=(T' f).1;rw[M];simp) (by show(T' f).1<15;rw[M];simp) (EN.dH (T:=T') M (O.old hfX (gJ hgf)) (by show Tf T' F f 64 _ (Ah K.ct f { K.ct f with ws:=q} f).ws;simp only[Ah,if_true];exact .inr ⟨g,c3,by rw[R],by rw[R];exact hRY,by rw[R];omega,hxY,ξ⟩)) (λb hb=>(ru hb).trans (ru hb).symm) (λ_ e=>hgf (show f=g from e).symm);have heY:=O.old heX (gJ hge);have kz:=Cf heY 2;have kq:F.cell? (S_ e0 2)=some (b_ pn):=(Ai heY 2).trans rfl;have s6:=AY.place (n:=l) s5.1 U wB;gi_wp2_with fail;have yN:BQ K.T T' (w.alloc V_) _:=((LU.then J).trans s5.2).trans s6.2;gi_wp2_with (first|(gi_at_call 272;refine(Dp _ _ n wB).mono ?_;rintro e wz ⟨rfl,D⟩;obtain⟨w8,X,Z,b8⟩:=Az (x:=n) (y:=0) (f:=.nilFunc) (D.old (yN.old rb Hl) id) rfl)|refine Fa X ?_);refine T_ n 0 (by simp[results,results279,go_sem,FU b8]) rfl ?_;exact Dq (T':=T') (x:=n) (y:=0) h.lt K0 Cm ((yN).then D) ((s6.1).no D) Z wB wB (.inl rfl) (XWf.yes Xx rO h64 hz wB hG wB wB bs0)
   .have f3:¬(l:Int)<(ws.length:Int):=wB;gi_enter func279,ntmps279;gi_wp2;refine Cc 9 88 ?_;have cm:=λm w1 (G:Aa No (w.alloc V_) w1)=>ZM m w1 K f (l) (I.no G) V wB wB
    gi_wp2_with (gi_at_call 281;refine(cm _ _ (Aa.refl No _).drew).mono ?_;rintro e w1 ⟨K1,x,rfl,_⟩);refine Ee ?_ ?_
    .intro W G;have e0':=G.has (w:=(w.alloc V_).drew) d0;have e1':=G.has (w:=(w.alloc V_).drew) d1
     repeat' (refine AA ?_ ?_)
     all_goals first|exact dE|gi_wp2
    .intro W G;have KW:Aa No (w.alloc V_) W:=(Aa.refl No _).drew.then G;gi_wp2_with (gi_at_call 281;refine(cm _ _ KW).mono ?_;rintro e w1 ⟨K1,x,rfl,hG⟩;have A:=KW.then K1;cases x)
     .have h1:=I.no A;gi_wp2_with (first|(gi_at_call 273;refine(fw8 10 (A.old rb id) _).mono ?_;rintro e wz ⟨rfl,D,w8,X,Z,b8⟩)|refine Fa X ?_);refine T_ 0 10 (by simp[results,results279,go_sem,FU b8]) rfl ?_;exact Dq (T':=K.T) (ct:=K.ct) (x:=0) (y:=10) h.lt K0 Cm (((BQ.no A I.lt)).then D) ((h1).no D) Z wB wB (.inl rfl) (XWf.no Xx rO h64 hz wB hG)
     .have h1:AY K w1.drew:=I.no A.drew;obtain⟨va,Wa,Jm,σ,⟨aa,ca,hva⟩,hKa⟩:=cf6 (ty:=116) (m:=l-ws.length) (hu.set A.drew (fun _ _=>id)) (Nat.le_refl 64) wB wB;obtain⟨C,e9⟩ :=ak5 (ws++List.replicate (l-ws.length) 0);rw[e9.out]at σ;have ev:((l-ws.length:Nat):Int)=(l:Int)-ws.length:=wB;rw[ev]at Jm;obtain rfl:va=.slice aa (l) ca:=hva.trans (by congr 1;omega);clear hva;have e0':w1.drew.cell? (R_ e0)=some (.pointer (some (S_ K.kb 4))):=A.has d0;have e1:w1.drew.cell? (S_ e0 1)=some (Q_ f):=A.has d1;have e2:w1.drew.cell? (S_ e0 2)=some (b_ j):=A.has d2;have e3:w1.drew.cell? (R_ f)=some (.slice a ws.length c'):=A.has d3;have iq:=l9 _ _ e1;have lf2:=l9 _ _ e3;refine Dx (P:=prog) _ rfl rfl sU 22 88 [0,1,2,3,4,5,6,7,8,9,10,11,12,13,14,15,16,17,18,19,20] [21] sU (by rfl)
       (Oi (On K.T λt=>t=(15,f)) w1.drew 21 (λv W=>UK K.T w1.drew f 64 C v W/\∃a' c',v=.slice a' (l) c') []) (Gj sJ sJ) _ _ rfl rfl ?_;gi_wp2_with (refine Dl rfl (.tmp 53) (.tmp 63) _ rfl rfl rfl Jm ?_);refine⟨rfl,sU,Et,?_,?_,?_⟩
      .intro L' u W s;have g1:=(s.1.cell (w:=w1.drew) (p:=(S_ e0 1)) iq (by unfold On;rw[te];simp)).trans e1;have g3:=(s.1.cell (w:=w1.drew) (p:=(R_ f)) lf2 (by unfold On;rw[V];simp)).trans e3
       repeat' (refine AA ?_ ?_)
       all_goals first|exact dE|gi_wp2
      .intro i hi L' u W s hLi hu';obtain rfl:i=21:=(by simpa using hi);obtain rfl:=s.2.1 hLi;refine BI rfl λKK Ol=>?_
       show wpListIn NF m prog _ _ _ (Act.put _ (some 64) (u 21)) _;gi_wp2_with (refine Dl rfl (.tmp 53) (.tmp 63) _ rfl rfl rfl Jm ?_);exact⟨_,rfl,Gl s sJ hKa ⟨σ,_,_,rfl⟩⟩
      .intro L' u W s hL';obtain⟨hPw,a3,c3,e21⟩:=s.2.2.1 (hL' 21 sJ);show wpListIn NF m prog _ _ _ (Act.put _ (some 64) (u 21)) _;rw[e21];rw[e21]at hPw;have B:=s.1.old (w:=w1.drew) (A.old hf id) (by unfold On;rw[V];simp);have q3:W.cell? (R_ f)=some _:=(Ai B 0).trans rfl;have z3:=Cf B 0;have g1:=(s.1.cell (w:=w1.drew) (p:=(S_ e0 1)) iq (by unfold On;rw[te];simp)).trans e1;have Q:e0≠f:=λe=>by rw[e,V]at te;simp at te
       have cz4:¬f=e0:=gJ Q;obtain⟨T',MT,hwT⟩:=hPw.I7 s.1 h1.lt;have M:T' f=(10,0):=MT.tag V sJ;have U:T' e0=(12,f):=MT.tag te sJ;have Kst:Aa (At f) W (W.setCell (R_ f) (.slice a3 (l) c3)):=(Aa.refl _ _).setCell _ λ_=>rfl
       have ae4:=hwT.set Kst (λg hg e=>by rw[show g=f from e,M]at hg;simp at hg);have s4:=h1.ad6 (by rw[V];simp) (by rw[V];simp) MT (EN.dH (ct:=Ah K.ct f { K.ct f with ws:=C}) (v:=.slice a3 (l) c3) M (Ap B _) (by simpa [Ah]using ae4)) (XW.grow hG hU (K1.drew) MT B) (λb hb=>ru hb);obtain⟨e,_⟩|⟨g,c9,e,hR9,_,ae3,ξ⟩:=ae4
       .exfalso;injection e with _ e2;omega
       obtain⟨rfl,hl9,rfl⟩:a3=some (R_ g)/\l=C.length/\c3=c9:=(by injection e with e1 e2 e3;exact⟨e1,e2,e3⟩);have cy6:=hR9.le;have g1':(W.setCell (R_ f) (P_ g (l) c3)).cell? (S_ e0 1)=some (Q_ f):=(Kst.cell (p:=(S_ e0 1)) (l9 _ _ g1) Q).trans g1;have g2:=(s.1.cell (w:=w1.drew) (p:=(S_ e0 2)) iq (by unfold On;rw[te];simp)).trans e2;have g2':(W.setCell (R_ f) (P_ g (l) c3)).cell? (S_ e0 2)=some (b_ j):=(Kst.cell (p:=(S_ e0 2)) (l9 _ _ g2) Q).trans g2;have g3':(W.setCell (R_ f) (P_ g (l) c3)).cell? (R_ f)=some (P_ g (l) c3):=(Ai (Ap B _) 0).trans sJ;have LU:BQ K.T T' (w.alloc V_) _:=(BQ.no A.drew I.lt).trans s4.2;have fc:¬c3=j:=wB;have fpl:¬((l:Nat):Int)<(j:Int):=wB;have cp:∀WX,Aa No (W.setCell (R_ f) (P_ g (l) c3)) WX->∃F q,(Builtin.copy_ #[116,116] 3 #[.slice (some (S_ g j)) (l-j) (c3-j),.slice dv n n]).run prog WX=.ok (goInt (n:Nat)) F/\Aa (At g) WX F/\Rw 123 1 F g (l) c3 (Aw q)/\q.length=l/\(∀x∈q,x<65536)/\Yp (q=SV (ws++List.replicate (l-ws.length) 0) j ((r.Af.drop o).take n)):=λWX J=>by
        have hX:=AY.no s4.1 J
        obtain⟨ys,S,hyx,hyd,hye⟩:=O1.words hX hb hn hI hv n (Nat.le_refl n)
        obtain⟨ad,rfl,hys⟩:=hyd.resolve_left hz
        have H:Nat.min n (l-j)=n:=Nat.min_eq_left wB
        obtain⟨F,hr,G,IU⟩:=Vl (ty:=3) (IY:=l-j) (IB:=c3-j) (CZ:=n) (sCap:=n) (o:=j) (Rw.keep hR9 J id) rfl hys (by rw[H];exact S) (by rw[S];omega)
        rw[H]at hr
        have hlen:(C.take j++ys++C.drop (j+ys.length)).length=l:=by simp only[g_,eP,List.length_drop,S];omega
        refine⟨F,_,hr,G,by simpa only[hl9]using IU,hlen,λx E=>?_,(by show _=SV _ _ _;rw[<-hye.out,e9.out];rfl)⟩
        obtain E|E:=eF.1 E
        .obtain E|E:=eF.1 E
         .exact ae3 x (List.mem_of_mem_take E)
         .exact hyx x E
        .exact ae3 x (List.mem_of_mem_drop E)
       clear hl9 e;gi_wp2;generalize hW9:W.setCell (R_ f) (P_ g (l) c3)=L at*;obtain⟨WY0,ws0,cz7,_,_⟩:=cp L.drew (Aa.refl No L).drew;refine Cc 13 88 ?_;gi_wp2;refine Ee ?_ ?_
       .intro W2 Y;have k1:=Y.has (w:=L.drew) g1';have k2:=Y.has (w:=L.drew) g2';have k3:=Y.has (w:=L.drew) g3'
        repeat' (refine AA ?_ ?_)
        all_goals first|exact dE|gi_wp2
       .intro W2 Y;have J:Aa No L W2:=(Aa.refl No L).drew.then Y;obtain⟨F,q,hcp,O,hRY,R,hxY,bs0⟩:=cp W2 J;have N:=AY.no s4.1 J;have hgf:g≠f:=λe=>by rw[e,M]at ξ;simp at ξ
        have hge:g≠e0:=λe=>by rw[e,U]at ξ;simp at ξ
        obtain⟨vf,hfX,_⟩:=N.fl.file f M;obtain⟨pn,heX⟩:∃pn:Nat,W2.heap[e0]?=some (N_ #[.pointer (some (S_ K.kb 4)),ptr f,b_ pn] 339):=⟨_,(N.fl.GU e0 f U).1⟩;have k3:=J.has g3';have ek:vf=P_ g (l) c3:=by
         have:=(Ai hfX 0).symm.trans k3
         simpa using this
        subst ek;have s5:=AY.lY (b0:=f) (Qz:=Ah K.ct f { K.ct f with ws:=q}) N O (λk hk=>by rw[show k=g from hk];exact .inr ξ) (by show 10<=(T' f).1;rw[M];simp) (by show(T' f).1<15;rw[M];simp) (EN.dH (T:=T') M (O.old hfX (gJ hgf)) (by show Tf T' F f 64 _ (Ah K.ct f { K.ct f with ws:=q} f).ws;simp only[Ah,if_true];exact .inr ⟨g,c3,by rw[R],by rw[R];exact hRY,by rw[R];omega,hxY,ξ⟩)) (λb hb=>(ru hb).trans (ru hb).symm) (λ_ e=>hgf (show f=g from e).symm);have heY:=O.old heX (gJ hge);have kz:=Cf heY 2;have kq:F.cell? (S_ e0 2)=some (b_ pn):=(Ai heY 2).trans rfl;have s6:=AY.place (n:=l) s5.1 U wB;gi_wp2_with fail;have yN:BQ K.T T' (w.alloc V_) _:=((LU.then J).trans s5.2).trans s6.2;gi_wp2_with (first|(gi_at_call 272;refine(Dp _ _ n wB).mono ?_;rintro e wz ⟨rfl,D⟩;obtain⟨w8,X,Z,b8⟩:=Az (x:=n) (y:=0) (f:=.nilFunc) (D.old (yN.old rb Hl) id) rfl)|refine Fa X ?_);refine T_ n 0 (by simp[results,results279,go_sem,FU b8]) rfl ?_;exact Dq (T':=T') (x:=n) (y:=0) h.lt K0 Cm ((yN).then D) ((s6.1).no D) Z wB wB (.inl rfl) (XWf.yes Xx rO h64 hz wB hG wB wB bs0)
theorem jE (K:KS)(i:Nat)(v:n_)(hi:i<20)(b:w.cell? (S_ K.kb (21+i*2))=some v):
  O_ m 203 #[.pointer (some (S_ K.kb 21)),b_ (i:Nat)] w λe w'=>Aa No w w'/\e=.returned v:=by
 have a:(i:Int)<20:=wB
 gi_enter func203,ntmps203;gi_wp2;go_ret;exact⟨Aa.refl _ _,sJ⟩
end
section
variable (pb ib c L n a m:Nat)(w:o_)
theorem dZ (d:w.cell? (S_ pb 8)=some (P_ ib L c))(j:1<=n)(b:n<65536)(g:a<65536)(h:¬a+n<=L):
  O_ m 138 #[.pointer (some (S_ pb 5)),a_ a,b_ n] w λe w'=>e=.returned (.tuple #[.slice none 0 0,.bool false])/\w'=w:=by
 gi_enter func138,ntmps138;gi_wp2;go_ret2;exact⟨sJ,rfl⟩
end
def XFd (K:KS)(r:PR)(fd:Nat)(X7:Nat->Nat->KS->Nat->Nat->n_->Prop)(Xr Xw:Nat->KS->Nat->Nat->n_->Prop):KS->Nat->Nat->n_->Prop:=λK' x y f=>(r.has fd=false/\GY K 2 K' x y f)\/∃i:Nat,r.fds[fd]?=some (i:Int)/\i<20/\((∃e g,K.tv i=.iface 337 (ptr e)/\K.T e=(12,g)/\X7 e g K' x y f)\/(∃e,K.tv i=.iface 330 (ptr e)/\K.T e=(13,0)/\Xr e K' x y f)\/∃e,K.tv i=.iface 334 (ptr e)/\K.T e=(14,0)/\Xw e K' x y f)
def dK (K:KS)(r:PR)(fd pl:Nat):KS->Nat->Nat->n_->Prop:=XFd K r fd (λe _ K' x y f=>∃T' ct,XSk K e pl ct x y f/\K'={K with T:=T',ct:=ct}) (λ_=>GY K 2) (λ_=>GY K 2)
section
variable (m:Nat)(w:o_)
theorem bb7 (K:KS)(NC NS b fd pl:Nat)(r:PR)(h:AY K w)(hO:DU NC NS K)(hm:b∈K.Ar)(hb:K.ps b=some r)(hn:r.en=false)(hfd:fd<65536)(hpl:pl<65536):
  O_ m 154 #[Q_ K.kb,Q_ b,a_ (fd:Nat),a_ (pl:Nat)] w (FX (dK K r fd pl) NC NS b K w):=by
 have o:=hO.pr b r hb;obtain⟨A,rb,F⟩:=IE w;have z:=h.no A;have Hl:K.T w.heap.size=(0,0):=h.lt _ w_;have ch:=λm w1 (a:Aa No (w.alloc V_) w1)=>YI m w1 K b fd r (z.no a) hb hn hfd
 gi_enter func154,ntmps154;gi_wp2_with fail;generalize hw0:w.alloc V_=G at*;gi_wp2_with (gi_at_call 202;refine(ch _ _ (Aa.refl No G)).mono ?_;rintro e w1 ⟨K1,xh,rfl,Q,R⟩;cases xh)
 .have KK:=((Aa.refl No G)).then K1;gi_wp2_with (first|(gi_at_call 140;refine(Uy 2 (KK.old rb id) _).mono ?_;rintro e X ⟨rfl,k,V,n,p,q⟩)|refine Fa n ?_);refine T_ 0 2 (by simp[results,results154,go_sem,FU q]) rfl ?_;exact Ci h hO hm hb A F (KK.then k) p sN sN (.inl ⟨R.out.symm,GY.of⟩)
 .have KK:=((Aa.refl No G)).then K1;obtain⟨nd,s,CX⟩:=Q (by first|rfl|trivial);obtain⟨i,rfl,hi⟩:=(o.fd nd (t_ s)).resolve_left CX;obtain⟨hd,_⟩:=hO.close hm hb hn hi s;have J:=z.no KK;obtain⟨g,c,q9,L,tg,ax4⟩:=J.rZ hb hn;have hfl:=(Oc.1 s).1;have f1:(fd:Int)<(r.fds.length:Int):=wB
  have d:=L.Pm rfl s;obtain⟨U,E,_,_,O⟩:=J.ent hi;have S:Yp (K.tv i=U):=x_ ((J.ay0 hi).symm.trans E);have A8:=O hd;have cg:=λm W (a:Aa No w1 W)=>jE m W K i U hi (a.has E)
  refine DI (P:=prog) No _ rfl rfl sU 13 28 [0,1,2,3,4,5,6,7,8,9,11,12] [10] sU (by rfl) (λ_ v _=>v=U) (λ_ _ _ _ _ h _=>h) _ _ rfl rfl ?_;gi_wp2;refine⟨rfl,sU,?_,?_,?_⟩
  .intro W a;have d9:=a.has (w:=w1.drew) q9;have dd:=a.has (w:=w1.drew) d
   repeat' (refine AA ?_ ?_)
   all_goals first|exact dE|gi_wp2
  .intro j hj u W a _;obtain rfl:j=10:=(by simpa using hj);refine BI rfl λKK2 cd5=>?_
   show wpListIn NF m prog _ _ _ (Act.put _ (some 24) (u 10)) _;gi_wp2_with (gi_at_call 203;refine(cg _ W ((Aa.refl No w1).drew.then a)).mono ?_;rintro e w2 ⟨K2,rfl⟩);exact⟨_,rfl,K2,rfl⟩
  .intro u W a N;have N:=N 10 sJ;show wpListIn NF m prog _ _ _ (Act.put _ (some 24) (u 10)) _;rw[N];have KW:Aa No G W:=KK.then ((Aa.refl No w1).drew.then a);have C:=z.no KW;obtain⟨e,⟨rfl,f,l,_⟩|⟨rfl,l,_⟩|⟨rfl,l,_⟩⟩:=A8
   .simp only[ptr];have D:=aq7 e;have B:=λm=>ap5 m W K b e f pl C l hpl
    gi_wp2_with (first|(gi_at_call 278;refine(B _).mono ?_;rintro e7 X UJ;obtain⟨I,ct,x,y,fv,rfl,Q,hy,PQ,h7,Z,M⟩:=UJ;obtain⟨V,n,p,q⟩:=Az (x:=x) (y:=y) (f:=fv) (Z.old (KW.old rb id) Hl) PQ.one)|refine Fa n ?_);obtain⟨Td,Y⟩:=hO.fds (K1:={K with T:=I,ct:=ct}) (r':=r) (H:=BR K.ps K.Ar) ⟨rfl⟩ hm hb rfl rfl rfl rfl rfl o ⟨hO.Ei.ho,hO.Ei.le,hO.Ei.op,hO.Ei.nd,hO.Ei.nz,hO.Ei.nm,hO.Ei.dj⟩ λi _=>rfl
    rw[FD (K:={K with T:=I,ct:=ct}) hb]at Td Y;refine bodyPost_ret (v:=.agg #[a_ x,a_ y,fv]) (by simp[results,results154,go_sem,FU q]) rfl ?_;exact BD (K':={K with T:=I,ct:=ct}) (x:=x) (y:=y) h.lt A F ((BQ.no KW z.lt).trans Z) (h7) p Q hy PQ (Td) (Y) hb (λ_=>hm) (.inr ⟨i,s,hi,.inl ⟨e,f,S,l,_,_,M,rfl⟩⟩)
   .simp only[ptr];obtain⟨t,_⟩:=C.fl.rend e l;have D:=aq9 t;have B:=λm=>oH m W (b_ (pl:Nat))
    gi_wp2_with (first|(gi_at_call 267;refine(B _).mono ?_;rintro e7 X ⟨rfl,k⟩;obtain⟨V,n,p,q⟩:=Az (x:=0) (y:=2) (f:=.nilFunc) (k.old (KW.old rb id) id) rfl)|refine Fa n ?_);refine T_ 0 2 (by simp[results,results154,go_sem,FU q]) rfl ?_;exact BD (K':=K) (x:=0) (y:=2) h.lt A F ((BQ.no KW z.lt).then k) (C.no k) p wB wB (.inl rfl) hO (Rel.refl b K) hb (λ_=>hm) (.inr ⟨i,s,hi,.inr (.inl ⟨e,S,l,GY.of⟩)⟩)
   .simp only[ptr];obtain⟨t,_⟩:=C.fl.UD e l;have D:=aq8 t;have B:=λm=>oH m W (b_ (pl:Nat))
    gi_wp2_with (first|(gi_at_call 267;refine(B _).mono ?_;rintro e7 X ⟨rfl,k⟩;obtain⟨V,n,p,q⟩:=Az (x:=0) (y:=2) (f:=.nilFunc) (k.old (KW.old rb id) id) rfl)|refine Fa n ?_);refine T_ 0 2 (by simp[results,results154,go_sem,FU q]) rfl ?_;exact BD (K':=K) (x:=0) (y:=2) h.lt A F ((BQ.no KW z.lt).then k) (C.no k) p wB wB (.inl rfl) hO (Rel.refl b K) hb (λ_=>hm) (.inr ⟨i,s,hi,.inr (.inr ⟨e,S,l,GY.of⟩)⟩)
end
end Go.Fxa
