/- Merging: the rows are taken, one by one. -/
import Derived.Test.YtjbenncelbpbnaaGreatDoorOg
set_option maxHeartbeats 4000000
set_option maxRecDepth 100000
namespace Go.Proofs.YtjbenncelbpbnaaGreatDoor
section
open Go.RowKit Go.Shelf Tryz
structure M2 (K:SC) (mv:Value) (idx:List Nat) (Q:TkQ) (w:World) (T F:Nat->Prop) (Ms:List Mr) (hb lf:Nat) (W:World) (t:List Nat) (T1 F1:Nat->Prop) (E1:DS) (Ms1:List Mr) (n:Nat) (f:Nat->Nat):Prop where
 q:Q t T1 W F1 E1 Ms1
 ho:HpO K W F1 Ms1 mv T1 hb
 hp:HpP W hb K.sb n f
 mg:Mgg (Kr5 K.ks K.cs) (Kry Ms idx).flatten t Ms1 idx n f
 ml:MgL w F T Ms idx W F1 T1 Ms1
 fresh:∀ k,HpF W hb k->w.heap.size<=k
 left:(Kry Ms1 idx).flatten.length=lf
 few:n<=100000
def M2x (I:SC)(mv:Value)(idx:List Nat)(Q:TkQ)(w:World)(T F:Nat->Prop)(K:List Mr)(hb n U:Nat)(W:World):Prop:=∃ t O H y M f,M2 I mv idx Q w T F K hb U W t O H y M n f
def Kyk (y:SC)(mv:Value)(bl:Int)(idx:List Nat)(lim:Nat)(Q:TkQ)(w:World)(T F:Nat->Prop)(M:List Mr)(e:Ending)(w':World):Prop:=∃ O H I K,MgL w F T M idx w' H O K/\SI y w' H I K mv bl /\
 ((e=.returned .nilIface/\Q (Ksg (Kr5 y.ks y.cs) (Kry M idx).flatten) O w' H I K)\/∃ U b,e=.returned (.iface 156 (.pointer (some ⟨b,0,none⟩)))/\Yu w' (.iface 156 (.pointer (some ⟨b,0,none⟩))) (if U=true then y.q else y.qw) none (some (-1))/\w.heap.size<=b/\¬ H b/\Kso y.D0 U/\dz I<=lim)
theorem Kur.less {w G y sb P key c}(h:Kur w G sb P key c)(H:∀ k,y k->G k):Kur w y sb P key c:=fun W hW=>h W (hW.mono fun k _ hk=>H k hk)
theorem HpP.len {W hb sb n f}(h:HpP W hb sb n f):∃ a cap,W.cell? ⟨hb,0,none⟩=some (.slice a n cap):=by
 rcases h with⟨rfl,h⟩|⟨y,cap,h⟩
 ·exact⟨_,_,(Kss h).1⟩
 exact⟨_,_,(Kss h.st).1⟩
theorem HpP.at_ {W hb sb n f}(h:HpP W hb sb n f)(hn:1<=n):∃ y cap,Kr8 W hb y sb n cap f:=by
 rcases h with⟨rfl,h⟩|h
 ·omega
 exact h
theorem SI.rem_lt {H w F E I mv}{bl:Int}(h:SI H w F E I mv bl){i:Nat}{m}(K:I[i]?=some m)(hh:m.R.held=[]):∀ x∈m.R.rem,x<nR H.cs:=fun x y=>by
 unfold Rn.rem at y;rw[hh,List.nil_append,List.mem_flatten]at y;obtain⟨l,hl,y⟩:=y;obtain⟨b,hb,rfl⟩:=Of0.1 hl;exact(h.blks m (Of6 K) b hb).2.2.1 x y
section
variable {K:SC} {mv:Value} {bl:Int} {idx:List Nat} {fn tot lim:Nat} {caps:Array Value} {Q:TkQ} {w W:World} {T F T1 F1:Nat->Prop} {E E1:DS} {Ms Ms1:List Mr} {rab rao hb k n lf:Nat} {f:Nat->Nat} {t:List Nat}
theorem MgG.rem (G:MgG K mv bl idx fn tot lim caps Q w T F E Ms rab rao):∀ r∈Kry Ms idx,∃ i m,i∈idx/\Ms[i]?=some m/\r=m.R.rem:=fun r hr=>by
 unfold Kry at hr;obtain⟨i,hi,rfl⟩:=Of0.1 hr;obtain⟨m,y⟩:=G.hM.ex i hi;exact⟨i,m,hi,y,by rw[y];rfl⟩
theorem MgG.rows (G:MgG K mv bl idx fn tot lim caps Q w T F E Ms rab rao):∀ x∈(Kry Ms idx).flatten,x<nR K.cs:=fun x y=>by
 obtain⟨r,hr,y⟩:=List.mem_flatten.1 y;obtain⟨i,m,hi,H,rfl⟩:=G.rem r hr;exact(G.hQ.si G.hq).rem_lt H (G.hh i m hi H).1 x y
theorem M2.start (G:MgG K mv bl idx fn tot lim caps Q w T F E Ms rab rao)(h:M1 K mv idx Q w T F Ms hb idx.length W E1 Ms1 f):M2 K mv idx Q w T F Ms hb tot W [] T F E1 Ms1 idx.length f:=
 ⟨h.q,h.ho,h.hp,Mgg.start h.std h.heap (by rw[h.rems]) (fun r hr=>by
  rw[h.rems]at hr;obtain⟨i,m,hi,y,rfl⟩:=G.rem r hr;exact(G.hh i m hi y).2.2),h.ml,h.fresh,by rw[h.rems];exact G.htot,G.hlen⟩
theorem M2.done (G:MgG K mv bl idx fn tot lim caps Q w T F E Ms rab rao)(h:M2 K mv idx Q w T F Ms hb lf W t T1 F1 E1 Ms1 0 f):Kyk K mv bl idx lim Q w T F Ms (.returned .nilIface) W:=
 ⟨T1,F1,E1,Ms1,h.ml,G.hQ.si h.q,.inl ⟨rfl,by rw[<-h.mg.done G.hK.sg.ord];exact h.q⟩⟩
theorem M2.step (G:MgG K mv bl idx fn tot lim caps Q w T F E Ms rab rao)(h:M2 K mv idx Q w T F Ms hb lf W t T1 F1 E1 Ms1 n f)(bI:1<=n):
  ∃ bL cap r hv,W.cell? ⟨hb,0,none⟩=some (.slice (some ⟨bL,0,none⟩) n cap)/\W.cell? ⟨bL,0,none⟩=some (.pointer (some ⟨r,0,none⟩))/\W.cell? ⟨r,2,none⟩=some hv/\Calls prog 113 #[hv,.int .i64 0,.int .i64 1] W fun e bh=>∃ cn,e=.returned (.slice (some ⟨cn,0,none⟩) K.cs.length K.cs.length) /\
   Calls prog fn (#[.slice (some ⟨cn,0,none⟩) K.cs.length K.cs.length]++caps) bh fun e bT=>(∃ b,e=.returned (.iface 156 (.pointer (some ⟨b,0,none⟩)))/\Kyk K mv bl idx lim Q w T F Ms e bT)\/(e=.returned .nilIface /\
    Calls prog 208 #[.pointer (some ⟨K.sb,0,none⟩),.pointer (some ⟨r,0,none⟩)] bT fun e O=>(e=.returned (.tuple #[.bool true,.nilIface])/\Calls prog 210 #[.pointer (some ⟨hb,0,none⟩)] O fun e H=>e=.returned (.tuple #[])/\∃ U bf,bf<lf/\M2x K mv idx Q w T F Ms hb U bf H) \/
     (e=.returned (.tuple #[.bool false,.nilIface])/\Calls prog 211 #[.pointer (some ⟨hb,0,none⟩)] O fun e H=>e=.returned (.tuple #[])/\∃ U bf,bf<lf/\M2x K mv idx Q w T F Ms hb U bf H)):=by
 obtain⟨k,i,m,bG,bR,h0,bD,cI⟩:=h.mg.top G.hK.sg.ord bI;have bH:i∈idx:=Of6 bG;have dd:=Of6 bR;have hs:=G.hQ.si h.q;have bS:=hs.runs m dd;obtain⟨bL,cap,bW⟩:=h.hp.at_ bI;obtain⟨x,hl,bE⟩:∃ x l,m.R.held=x::l:=by
  cases he:m.R.held with
  |nil=>exact absurd he bD
  |cons x l=>exact⟨x,l,rfl⟩
 have cE:m.R.rem=x::(hl++(m.R.bs.map (·.ids)).flatten):=by unfold Rn.rem;rw[bE];rfl
 have bY:=Ksn bG bR;have dg:=h.mg.mrg.perm.length_eq;rw[Oa8,G.htot]at dg;have dv:=h.left;have dy:=G.ht;have du:m.R.rem.length<=(Kry Ms1 idx).flatten.length:=(List.sublist_flatten_of_mem (Of6 bY)).length_le;have dx:1<=m.R.rem.length:=by rw[cE];simp
 have dl:x<nR K.cs:=G.rows x (h.mg.mrg.perm.mem_iff.1 (List.mem_append_right _ (List.mem_flatten.2 ⟨_,Of6 bY,by rw[cE];exact Of4⟩)));have cZ:m.R.held.length<=100000:=by
  have:m.R.held.length<=m.R.rem.length:=by unfold Rn.rem;rw[Oa8];omega
  omega
 have bC:m.R.held.headD 0=x:=by rw[bE];rfl
 rcases bS.1.held with⟨e,_⟩|⟨_,cM,cN,gc,da,hC,ds,cP⟩
 ·exact absurd e bD
 refine⟨bL,cap,m.rb,m.hv,(Kss bW.st).1,by rw[h0];exact bW.cell 0 zo,bS.1.fields.2.2.1,?_⟩;rw[da];have cy:=Kdx cM gc cN (Jba m.R.held K.cs) m.R.held.length 0 1 W hC (fun j bi=>Kr0 m.R.held (by rw[Krw]at bi;exact bi)) zo (by rw[bE];simp) (by rw[Krw];exact G.hK.sg.good.few);rw[Krw,Kte,show (m.R.held.take 1).drop 0=[x] by rw[bE];rfl]at cy;refine Calls.mono cy ?_;rintro e bh ⟨bB,rfl,cv⟩;refine⟨W.heap.size,rfl,?_⟩;have cB:Ju (fun _=>False) W bh:=Ju.of_below bB;have dh:Q t T1 bh F1 E1 Ms1:=G.hQ.keep h.q cB (fun _ h=>h.elim) (fun h=>h.elim) (fun _ _ h=>h.elim) (fun _ _ h=>h.elim) (fun _ _=>⟨fun h=>h.elim,fun _ _ h=>h.elim⟩) (fun _ _ h=>h.elim);have cf:=bB.size;have df:=G.hQ.off h.q;have cY:hb<W.heap.size:=Jd bW.st;have cQ:HpP bh hb K.sb n f:=h.hp.on cf fun k hk=>bB.block k (h.ho k hk).1.lt;have bV:∀ k,HpF bh hb k->HpF W hb k:=fun k hk=>HpF.back (bB.block hb cY) hk;have bO:HpO K bh F1 Ms1 mv T1 hb:=h.ho.turn hs (G.hQ.lt h.q) (Ju.of_below bB) (fun k hk=>Oc2 (h.ho k (bV k hk)).1.lt cf) fun k hk=>.inl (bV k hk);have cU:=cv.row.lt;refine Calls.mono (G.hQ.take dh zo dl cv ⟨⟨cU,fun e=>?_⟩,fun j bi b o e=>?_⟩) ?_
 ·rcases e with e|e
  ·exact Oe3 _ (hs.flt _ e)
  exact Oe3 _ (G.hQ.lt h.q _ e)
 ·have bX:m.N b:=by
   rcases hC.vals j (by rw[Krw];exact bi)with h0|⟨ab,ao,ha,_,_⟩
   ·have:=Kr0 m.R.held bi;rw[h0,bE]at this;simp at this
   ·rw[Jmn bi ha e];exact cP j ab ao bi ha
  exact⟨Oc2 (bS.1.lt b bX) cf,fun e=>e.elim (bS.2.2 b bX) ((df.2.2.2 i m bH bR).2 b bX)⟩
 rintro e bT ⟨cj,ci,cK,Y,bj,cW⟩;have db:=h.ml.turn cB fun _ h=>h.elim;have cC:=db.took bj;rcases cW with⟨rfl,cD⟩|⟨dq,b,rfl,cT,dt,de,dj,cV⟩
 ·refine .inr ⟨rfl,?_⟩;have cG:=G.hQ.si cD;have I:Y[i]?=some m:=(bj.same i bH).trans bR;obtain⟨bP,cR⟩:=bO.took cQ bj;have M:=h.mg.same bj.same fun i j dm dp a b c=>(cG.sep i j dm dp a b c).1;have cF:Kry Y idx=Kry Ms1 idx:=Kuu bj.same;rw[bC]at cI;have cJ:∀ r,m.R.rem=m.R.held.headD 0::r->Mrg (Kr5 K.ks K.cs) (Kry Ms idx).flatten (t++[m.R.held.headD 0]) ((Kry Y idx).set k r):=fun r hr=>by
   rw[cF,bC];rw[bC]at hr;exact cI r hr
  refine Calls.mono (cG.next G.hK I cZ) ?_;rintro e O ⟨b,bz,cL,rfl,hn⟩;have cc:=G.hQ.next cD bH I hn;have cH:=G.hQ.si cc;obtain⟨bQ,cS⟩:=bP.next cR hn I;have dc:=cC.next hn I bH;have cO:=M.mg.next hn I;have cx:=bQ.ahOk cH G.hK cO;obtain⟨bA,bM,bk⟩:=cS.at_ bI;have di:m.R.rem=x::bz.R.rem:=by rw[<-bC];exact hn.tail bD
  have hlen:(Kry (Y.set i bz) idx).flatten.length<lf:=by
   rw[Kti M.mg.nd bG I,cF];have:=(Kts (Kry Ms1 idx) k (bY.trans (by rw[di]))).length_eq;rw[List.length_cons]at this;omega
  have cz:∀ k,HpF O hb k->w.heap.size<=k:=fun x y=>h.fresh x (bV x (HpF.back ((hn.keep.block hb (bP hb (.inl rfl)).1.lt fun e=>e.elim (bP hb (.inl rfl)).1.nf fun e=>((bP hb (.inl rfl)).1.ms m (Of6 I)).1 e.symm).trans (bj.keep.block hb (bO hb (.inl rfl)).1.lt fun e=>e.elim (bO hb (.inl rfl)).1.nf (bO hb (.inl rfl)).2)) y));have fin:∀ H bK Z,bK<=n->Ju (HpG hb bA) O H->Kr8 H hb bA K.sb bK bM Z->Mgg (Kr5 K.ks K.cs) (Kry Ms idx).flatten (t++[m.R.held.headD 0]) (Y.set i bz) idx bK Z->∃ U bf,bf<lf/\M2x K mv idx Q w T F Ms hb U bf H:=fun H bK Z dw bx br cX=>by
   have ca:Ju (HpF O hb) O H:=bx.mono fun x _ y=>(bk.foot x).2 y;have bZ:∀ x,HpF H hb x->HpF O hb x:=fun x y=>(bk.foot x).2 ((br.foot x).1 y);have cA:=h.few;refine⟨bK,_,hlen,t++[x],cj,ci,cL,Y.set i bz,Z,⟨bQ.keepQ G.hQ cc ca,bQ.turn cH (G.hQ.lt cc) ca (fun x y=>Oc2 (bQ x (bZ x y)).1.lt bx.size) fun x y=>.inl (bZ x y),.inr ⟨bA,bM,br⟩,by rw[<-bC];exact cX,dc.turn ca cz,fun x y=>cz x (bZ x y),rfl,zo⟩⟩
  cases b with
  |true=>
   refine .inl ⟨rfl,?_⟩;have bJ:=M.toStd.next_yes hn I bH bI h0;have cA:=h.few;refine Calls.mono (Kvr hb bA K.sb n bM f (Ksc (Y.set i bz)) _ (Kr5 K.ks K.cs) G.hK.sg.ord O bk zo bJ.at_ (cx.less fun x y=>(bk.foot x).2 y) (M.hp.turned (Oa2 _) fun j bN cu=>M.toStd.key_far hn.rb I h0 bN cu) bJ.keys) ?_;rintro e H ⟨rfl,bx,Z,br,bU,cb,_⟩;exact⟨rfl,fin H n Z (Oa2 _) bx br (M.yes bI bG I h0 bD hn cJ bU cb)⟩
  |false=>
   refine .inr ⟨rfl,?_⟩;obtain⟨U,rfl⟩:∃ U,n=U+1:=⟨n-1,zo⟩;have bJ:=M.toStd.next_no hn I h0;have cA:=h.few;refine Calls.mono (Kz7 hb bA K.sb U bM f (Ksc (Y.set i bz)) _ (Kr5 K.ks K.cs) G.hK.sg.ord O bk zo bJ.at_ (cx.less fun x y=>(bk.foot x).2 y) (fun j bN cu dr=>?_) bJ.keys) ?_
   ·rw[M.toStd.key_far hn.rb I h0 zo zo,M.toStd.key_far hn.rb I h0 bN zo];exact M.hp j bN zo
   rintro e H ⟨rfl,bx,Z,br,bU,cb,_⟩;exact⟨rfl,fin H U Z zo bx br (M.no bG I h0 bD hn cJ bU cb)⟩
 have:=h.ml.keep.size;exact .inl ⟨b,rfl,cj,ci,cK,Y,cC,bj.si,.inr ⟨dq,b,rfl,cT,zo,de,dj,cV⟩⟩
end
theorem Kuv {y mv bl idx fn bB lim bG}{Q:TkQ}{w T F E H bK bL}(G:MgG y mv bl idx fn bB lim bG Q w T F E H bK bL)bW:
  Calls prog 157 #[.pointer (some ⟨y.sb,0,none⟩),.slice (some ⟨bK,bL,none⟩) idx.length bW,.func (.func fn) #[] bG] w (Kyk y mv bl idx lim Q w T F H):=by
 have Y:=zh G;have bi:Hid (M1 y mv idx Q w T F H w.heap.size 0 (w.alloc (.cells #[.slice none 0 0,ahV y.sb] 364)) E H fun _=>0):=M1.start G;unfold ahV at bi;have hlen:=G.hlen;have bT:=G.ent;clear G;go_enter func157,ntmps157
 go_upto_region 2 with fail
 generalize w.alloc (.cells #[.slice none 0 0,.func (.func 207) #[.pointer (some ⟨y.sb,0,none⟩)] #[]] 364)=bZ at *;go_wp2;go_loopw [22] (fun iv wr=>∃ k:Nat,iv=.int .i64 k/\k<=idx.length/\Hid (∃ U Z f,M1 y mv idx Q w T F H w.heap.size k wr U Z f)) (fun iv _=>idx.length-(intOf iv).toNat)
 case atStart=>exact⟨0,rfl,Ob7 _,⟨_,_,_,bi.out⟩⟩
 case round=>
  clear bi;rename_i iv
  obtain⟨k,rfl,hk,bf⟩:=hrel;by_cases bU:k<idx.length
  ·obtain⟨U,Z,f,I⟩:=bf.out;obtain⟨r,bS,M⟩:=I.step Y.out bU;unfold rpV at bS;have ci:(k:Int)<(idx.length:Int):=zo;have bO:=Krx (M);clear M I;go_wp2_with (first|(go_at_call 208;refine bO.out.mono ?_;rintro e bP ⟨b,rfl,bH⟩;have bh:=Krx (bH);clear bH)|(go_at_call 209;refine bh.out.mono ?_;rintro e bQ ⟨rfl,bN⟩))
   go_roundw
   case rel=>exact⟨k+1,zn,zo,bN⟩
   case measure=>simp[intOf];omega
  obtain rfl:k=idx.length:=zo;obtain⟨U,Z,f,I⟩:=bf.out;have bD:Hid (M2x y mv idx Q w T F H w.heap.size idx.length bB wr):=⟨_,_,_,_,_,_,M2.start Y.out I⟩;clear bf I;go_wp2;go_loopg [] bB (fun bV wr=>Hid (∃ n,M2x y mv idx Q w T F H w.heap.size n bV wr))
  case atStart=>exact⟨_,bD.out⟩
  case round=>
   clear bD;obtain⟨n,t,bY,bX,U,Z,f,K⟩:=hrel.out;by_cases hn:n=0
   ·subst hn;obtain⟨a,cap,cf⟩:=K.hp.len;have bM:=Krx (K.done Y.out);clear K hrel;go_wp2;go_ret
    exact bM.out
   obtain⟨cb,cap,r,hv,c0,c1,c2,hcut⟩:=K.step Y.out zo;have cj:(0:Int)<(n:Int):=zo;have bC:=Krx (hcut);clear hcut K hrel;go_wp2_with (first|(go_at_call 113;refine bC.out.mono ?_;rintro e bP ⟨cc,rfl,bJ⟩;have bE:=Krx bJ;clear bJ)|(rw[bT]))
   refine bE.out.mono ?_;clear bE bC c0 c1 c2;rintro e bQ (⟨b,rfl,O⟩|⟨rfl,M⟩)
   ·have bh:=Krx O;clear O;go_wp2;go_ret
    exact bh.out
   have bj:=Krx M;clear M;go_wp2_with fail
   go_wp2_with (go_at_call 208;refine bj.out.mono ?_)
   rintro e ca (⟨rfl,bI⟩|⟨rfl,O⟩)
   ·have bk:=Krx bI;clear bI bj;go_wp2_with (go_at_call 210;refine bk.out.mono ?_;rintro e bR ⟨rfl,bA,bz,br,bx⟩)
    go_roundg bz
    case rel=>exact⟨bA,bx⟩
    case measure=>exact br
   have bk:=Krx O;clear O bj;go_wp2_with (go_at_call 211;refine bk.out.mono ?_;rintro e bR ⟨rfl,bA,bz,br,bx⟩)
   go_roundg bz
   case rel=>exact⟨bA,bx⟩
   case measure=>exact br
def nwX (n k:Nat):List Nat:=(List.range k).map (n+·)
def nwL (y:List (List Nat))(H:List (Nat×Nat)):List (List Nat):=H.map fun x=>((y.drop x.1).take x.2).flatten
structure NwI (K:SC) (w:World) (E:DS) (Ms0:List Mr) (idx:List Nat) (Ls:List (List Nat)) (g0 c0 z bu pr L:Nat) (pre:List (Nat×Nat)) (W:World) (F':Nat->Prop) (E':DS) (Ms:List Mr) (mv rv:Value):Prop where
 si:SI K W F' E' Ms mv (z:Int)
 len:Ms.length=Ms0.length+pre.length
 pr_:pre=cks idx.length bu pre.length
 rd0:Rdy K Ms idx Ls (pre.length*bu)
 rd1:Rdy K Ms (nwX Ms0.length pre.length) (nwL Ls pre) 0
 rv:Rv K W F' Ms mv L (w.heap.size+3) rv ((nwX Ms0.length pre.length).map (Ks7 Ms))
 old:∀ i∈idx,Ks7 Ms i=Ks7 Ms0 i
 own:Jo W K.w0.heap.size 354 (.slice (some ⟨g0,0,none⟩) idx.length c0) ((idx.map (Ks7 Ms0)).map rpV)
 no:NoS K W F' Ms mv g0
 nb:∀ k,w.heap.size<=k->k<L->NoS K W F' Ms mv k
 b0:W.cell? ⟨w.heap.size,0,none⟩=some (.pointer (some ⟨K.sb,0,none⟩))
 b1:W.heap[w.heap.size+1]?=some (.cells #[.slice none 0 0] 301 (0,0))
 b2:W.heap[w.heap.size+2]?=some (.cells #[.nilIface] 78 (0,0))
 size:L<=W.heap.size
 pgs:dz E'<=dz E+pr*(Ls.take (pre.length*bu)).flatten.length
 fcl:∀ k,F' k->L<=k->∃ o:Obj,W.heap[k]?=some o/\o.isCells=true
def NwG (H:SC)(w:World)(y:Nat->Prop)(mv:Value)(I:List Mr)(K:List Nat):Nat->Prop:=fun k=>k=H.sb\/mv.ownBlock=some k\/y k\/MgB I K k\/k=w.heap.size
structure NwM (K:SC) (w:World) (idx:List Nat) (Ms0:List Mr) (g0 c0 z L:Nat) (pre:List (Nat×Nat)) (jdx:List Nat) (W:World) (F':Nat->Prop) (Ms:List Mr) (mv rv:Value) (W3:World) (F3:Nat->Prop) (E3:DS) (Ms3:List Mr) (mv3:Value):Prop where
 si:SI K W3 F3 E3 Ms3 mv3 (z:Int)
 rv:Rv K W3 F3 Ms3 mv3 L (w.heap.size+3) rv ((nwX Ms0.length pre.length).map (Ks7 Ms))
 own:Jo W3 K.w0.heap.size 354 (.slice (some ⟨g0,0,none⟩) idx.length c0) ((idx.map (Ks7 Ms0)).map rpV)
 no:NoS K W3 F3 Ms3 mv3 g0
 nb:∀ k,w.heap.size<=k->k<L->NoS K W3 F3 Ms3 mv3 k
 b1:W3.heap[w.heap.size+1]?=some (.cells #[.slice none 0 0] 301 (0,0))
 b2:W3.heap[w.heap.size+2]?=some (.cells #[.nilIface] 78 (0,0))
 keep:Ju (NwG K w F' mv Ms jdx) W W3
structure NwD (K:SC) (w:World) (Ls:List (List Nat)) (pr b8:Nat) (pre:List (Nat×Nat)) (jdx:List Nat) (f c:Nat) (W:World) (E':DS) (Ms:List Mr) (W3:World) (E3:DS) (Ms3:List Mr):Prop where
 c0:W3.cell? ⟨w.heap.size,0,none⟩=some (.pointer (some ⟨K.sb,0,none⟩))
 c8:W3.cell? ⟨b8,0,none⟩=some (.pointer (some ⟨W.heap.size,0,none⟩))
 len:Ms3.length=Ms.length+1
 same:∀ i,i∉jdx->i<Ms.length->Ms3[i]?=Ms[i]?
 new:∃ m3,Ms3[Ms.length]?=some m3/\m3.rb=W.heap.size/\m3.R.place=pre.length/\m3.R.held=[]/\m3.R.rem=Ksg (Kr5 K.ks K.cs) ((Ls.drop f).take c).flatten
 rbs:∀ i,i<Ms.length->Ks7 Ms3 i=Ks7 Ms i
 pgs:dz E3<=dz E'+pr*((Ls.drop f).take c).flatten.length
theorem Kup {y i m}(h:y[i]?=some m):Ks7 y i=m.rb:=by unfold Ks7;rw[h];rfl
theorem Qaa {y H}(h:H.map (·.rb)=y.map (·.rb))i:Ks7 H i=Ks7 y i:=by
 unfold Ks7;rw[<-Ob1,<-Ob1,h]
theorem Ktx {y:List Mr}{m:Mr}{i:Nat}(h:i<y.length):(y++[m])[i]?=y[i]?:=Ob0 h
section
variable {K:SC} {w W:World} {F':Nat->Prop} {E E':DS} {Ms0 Ms:List Mr} {idx:List Nat} {Ls:List (List Nat)} {g0 c0 z bu pr L:Nat} {pre:List (Nat×Nat)} {mv rv:Value}
theorem NwI.idx_lt (h:NwI K w E Ms0 idx Ls g0 c0 z bu pr L pre W F' E' Ms mv rv){j i}(y:pre.length*bu<=j)(hi:idx[j]?=some i):i<Ms.length:=by
 obtain⟨m,H,_⟩:=h.rd0.run j i _ y hi (Oa3 (by rw[h.rd0.len];exact(Ob9.1 hi).1));exact(Ob9.1 H).1
theorem zax {p:Prop}(h:p:=by
 rcases Y.own with e|⟨cj,e,hl⟩
 ·exact .inl (e.symm.trans H)
 exact .inr (by have:=Oj6 (e.symm.trans H);omega)):p:=h
theorem NwI.step (hK:SK K)(h:NwI K w E Ms0 idx Ls g0 c0 z bu pr L pre W F' E' Ms mv rv)(cW:w.heap.size+6<=L)(dc:g0<w.heap.size)(cQ:1<=z)(cR:z<=64)(cK:∀ x,x<nR K.cs->(Qu (Kr3 K.ts (Jba [x] K.cs) K.ts.length)).length<=pr){f c}(cL:pre++[(f,c)]=cks idx.length bu (pre.length+1))(db:f+c<=idx.length)(cZ:1<=c)(dd:idx.length<=100000)(cv:Ms.length<=900000)(cC:∀ i∈idx,i<Ms0.length)(cY:dz E+pr*Ls.flatten.length<=930000)(cX:Ls.flatten.length<=100000){O}(bj:O=(idx.drop f).take c):
  Calls prog 240 #[.pointer (some ⟨K.sb,0,none⟩),.int .i64 (pre.length:Nat)] W fun e y=>e=.returned (.pointer (some ⟨W.heap.size,0,none⟩))/\y.cell? ⟨w.heap.size,0,none⟩=some (.pointer (some ⟨K.sb,0,none⟩))/\∀ X,Below y.heap.size y X->X.heap[y.heap.size]?=some (.cells #[.pointer (some ⟨W.heap.size,0,none⟩)] 354 (0,0)) ->
   Calls prog 157 #[.pointer (some ⟨K.sb,0,none⟩),.slice (some ⟨g0,f,none⟩) c c,.func (.func 243) #[] #[.pointer (some ⟨w.heap.size,0,none⟩),.pointer (some ⟨y.heap.size,0,none⟩)]] X fun e br=>∃ bh bA bi cS,NwM K w idx Ms0 g0 c0 z L pre O W F' Ms mv rv br bh bA bi cS /\
    ((e=.returned .nilIface/\NwD K w Ls pr y.heap.size pre O f c W E' Ms br bA bi/\(∀ k,bh k->F' k\/W.heap.size<=k))\/∃ U b,e=.returned (.iface 156 (.pointer (some ⟨b,0,none⟩)))/\Yu br (.iface 156 (.pointer (some ⟨b,0,none⟩))) (if U=true then K.q else K.qw) none (some (-1))/\W.heap.size<=b/\¬ bh b/\Kso K.D0 U/\dz bA<=dz E+pr*Ls.flatten.length):=by
 have di:=h.size;have bY:=hK.sg.ord;have hf:f=pre.length*bu:=by
  have e:=cL;rw[Jbj]at e;have:=(List.append_inj_right' e rfl);simp[Jaa]at this;exact this.1
 have cF:O.length=c:=by rw[bj];simp;omega
 have bX:∀ i∈O,i<Ms.length/\i<Ms0.length:=fun i hi=>by
  rw[bj]at hi;obtain⟨q,hq,e⟩:=Od5 (Om9 hi);rw[List.getElem_drop]at e;have bZ:idx[f+q]?=some i:=by rw[Oa3 (by rw[Of7]at hq;omega),e]
  exact⟨h.idx_lt zo bZ,cC i (Of6 bZ)⟩
 have cM:Rdy K Ms idx Ls f:=by rw[hf];exact h.rd0
 refine(h.si.add hK cv pre.length).mono ?_;rintro e y ⟨rfl,I,Y⟩;have dg:=Y.keep.size;have df:W.heap.size<y.heap.size:=Jd (Y.sw.si.runs _ (Of6 Y.sw.at_)).1.cells;have cb:∀ k,NoS K W F' Ms mv k->¬ (k=K.sb\/mv.ownBlock=some k):=fun k hk e=>e.elim hk.sb hk.mv;have cT:∀ (X:World) k,W.heap.size<=X.heap.size->NoS K W F' Ms mv k->NoS K X F' (Ms++[Ksi W.heap.size pre.length]) I k:=fun X k bx hk=>hk.step bx (fun k hk=>.inl hk) (fun x bf=>by
  rcases Od2.1 bf with bf|bf
  ·exact⟨.inr ⟨x,bf,rfl⟩,fun k hk=>.inl ⟨x,bf,hk⟩⟩
  ·rw[Oc6.1 bf];exact⟨.inl (Oa2 _),fun k hk=>hk.elim⟩) fun g H=>by
  exact zax
 have bK:=h.nb w.heap.size (Oa2 _) zo;have bN:y.cell? ⟨w.heap.size,0,none⟩=some (.pointer (some ⟨K.sb,0,none⟩)):=(Oc3 (Y.keep.block _ bK.lt (cb _ bK))).trans h.b0;refine⟨rfl,bN,fun X bx bR=>?_⟩;have dh:=bx.size;have cz:y.heap.size<X.heap.size:=Jd bR;have cU:SW K X F' E' (Ms++[Ksi W.heap.size pre.length]) I (z:Int) Ms.length (Ksi W.heap.size pre.length):=Y.sw.keep (G:=fun _=>False) (Ju.of_below bx) (fun _ h=>h.elim) id (fun _ _=>id) (fun _ _=>id) (fun _ _=>⟨id,fun _ _=>id⟩);have bV:Ju (fun k=>k=K.sb\/mv.ownBlock=some k) W X:=Y.keep.trans' (Ju.of_below (F:=fun _=>False) bx) fun _ _ e=>e.elim;have cf:∀ k,NoS K W F' Ms mv k->NoS K X F' (Ms++[Ksi W.heap.size pre.length]) I k:=fun k hk=>cT X k zo hk;have bM:∀ k v,NoS K X F' (Ms++[Ksi W.heap.size pre.length]) I k->X.cell? ⟨k,0,none⟩=some v->Bx K X F' (Ms++[Ksi W.heap.size pre.length]) I k v:=fun k v hk hv=>⟨hv,hk.sb,hk.mv,hk.nf,hk.ms⟩;have cH:NoS K X F' (Ms++[Ksi W.heap.size pre.length]) I y.heap.size:=Y.sw.si.noS (Oa2 _) cz;have bG:Rdy K (Ms++[Ksi W.heap.size pre.length]) idx Ls f:=cM.same (Oa2 _) fun j i bE hi=>Ktx (h.idx_lt zo hi);obtain⟨M,htot⟩:∃ M,M=((Ls.drop f).take c).flatten.length:=⟨_,rfl⟩;have bS:=bG.cnt bj;rw[<-htot]at bS;have cO:(Ls.take f).flatten.length+M<=Ls.flatten.length:=by
  rw[htot,<-Oa8,<-List.flatten_append];have e:Ls.take f++(Ls.drop f).take c=Ls.take (f+c):=(List.take_add ..).symm;rw[e];exact(Kui (List.take_sublist _ _)).length_le
 have cJ:=h.pgs;rw[<-hf]at cJ;have de:pr*(Ls.take f).flatten.length+pr*M<=pr*Ls.flatten.length:=by rw[<-Nat.mul_add];exact Nat.mul_le_mul_left _ cO
 have cy:=NrQ.ok K hK I z Ms.length W.heap.size w.heap.size y.heap.size pr M (dz E'+pr*M) zo O (Ms++[Ksi W.heap.size pre.length]) pre.length cQ cR (fun e=>by have:=(bX _ e).1;omega) zo cK;have hq:NrQ K I z Ms.length W.heap.size w.heap.size y.heap.size pr M (dz E'+pr*M) O (Ms++[Ksi W.heap.size pre.length]) pre.length [] (NrT w.heap.size y.heap.size (Ksi W.heap.size pre.length)) X F' E' (Ms++[Ksi W.heap.size pre.length]):=
  ⟨_,cU,rfl,rfl,rfl,rfl,bM _ _ (cf _ bK) (Ja bx bN),bM _ _ cH (by simp[World.cell?,bR]),Oa2 _,fun _ _ _=>rfl⟩
 have cc:∀ k,k<W.heap.size->k≠w.heap.size->¬ NrT w.heap.size y.heap.size (Ksi W.heap.size pre.length) k:=fun k hk bC e=>by
  rcases e with e|e|e|e
  ·exact bC e
  ·omega
  ·have:k=W.heap.size:=e;omega
  cases e
 have bJ:=h.no.lt;have bT:=cf _ h.no;have bU:g0≠w.heap.size:=zo;have G:MgG K I (z:Int) O 243 M (dz E'+pr*M) #[.pointer (some ⟨w.heap.size,0,none⟩),.pointer (some ⟨y.heap.size,0,none⟩)] (NrQ K I z Ms.length W.heap.size w.heap.size y.heap.size pr M (dz E'+pr*M) O (Ms++[Ksi W.heap.size pre.length]) pre.length) X (NrT w.heap.size y.heap.size (Ksi W.heap.size pre.length)) F' E' (Ms++[Ksi W.heap.size pre.length]) g0 f:=by
  refine⟨fun args V=>enters_of func243 zK rfl args V,hK,cy,hq,bG.mgIn bj,fun j i m bE Z=>?_,⟨bT.nf,cc g0 bJ bU,fun ⟨i,m,hi,Z,e⟩=>(bT.ms m (Of6 Z)).1 e.symm⟩,bG.hh bY bj,bS,zo,zo⟩;have cE:j<c:=by have:=(Ob9.1 bE).1;omega
  have bB:idx[f+j]?=some i:=by
   rw[bj,Oh3 cE,Oh9]at bE;exact bE
  have cD:=h.idx_lt zo bB;obtain⟨a,cap,ci,bI⟩:=h.own.cells;obtain⟨rfl,_,rfl⟩:(some ⟨g0,0,none⟩=a)/\_/\c0=cap:=by injection ci with a1 a2 a3;exact⟨a1,a2,a3⟩
  rcases bI with e|⟨b,o,eb,_,bI⟩
  ·rw[List.map_eq_nil_iff,List.map_eq_nil_iff]at e;rw[e]at bB;simp at bB
  injection eb with eb;injection eb with eb1 eb2;subst eb1 eb2;have:=bI (f+j) (rpV (Ks7 Ms0 i)) (by rw[Ob1,Ob1,bB];rfl);rw[<-h.old i (Of6 bB)]at this;rw[Ktx cD]at Z;rw[Kup Z]at this;rw[Od0]at this;exact(Oc3 (bV.block g0 bJ (cb _ h.no))).trans this
 have bW:=Kuv G c;rw[cF]at bW;refine bW.mono ?_;rintro e br ⟨cV,bh,bA,bi,bz,cN,cB⟩;have bO:∀ k,bh k->F' k\/W.heap.size<=k:=fun k hk=>(bz.ffr k hk).imp id fun e=>by omega
 have cx:∀ x∈bi,(W.heap.size<=x.rb\/∃ U∈Ms,x.rb=U.rb)/\∀ k,x.N k->(∃ U∈Ms,U.N k)\/W.heap.size<=k:=fun x bf=>by
  obtain⟨q,hq,e⟩:=Od5 bf;have ca:bi[q]?=some x:=by rw[Oa3 hq,e]
  obtain⟨U,hy,bH⟩:=bz.new q x ca;have bL:=Qbf bz.rbs ca hy;rcases Od2.1 (Of6 hy)with hy|hy
  ·exact⟨.inr ⟨U,hy,bL⟩,fun k hk=>(bH k hk).imp (fun e=>⟨U,hy,e⟩) fun e=>zo⟩
  rw[Oc6.1 hy]at bL bH;exact⟨.inl (by rw[bL];exact Oa2 _),fun k hk=>(bH k hk).elim (fun e=>e.elim) fun e=>.inr zo⟩
 have cG:∀ g,I.ownBlock=some g->mv.ownBlock=some g\/W.heap.size<=g:=fun g H=>by
  exact zax
 have bk:Ju (NwG K w F' mv Ms O) W br:=(bV.mono fun k _ e=>e.imp id .inl).trans' bz.keep fun k hk e=>by
  rcases e with e|e|⟨i,m,hi,Z,e⟩
  ·exact .inr (.inr (.inl e))
  ·exact .inr (.inr (.inr (.inr (Classical.byContradiction fun bC=>cc k hk bC e))))
  rw[Ktx (bX i hi).1]at Z;exact .inr (.inr (.inr (.inl ⟨i,m,hi,Z,e⟩)))
 have bD:∀ k,NoS K W F' Ms mv k->k≠w.heap.size->¬ NwG K w F' mv Ms O k:=fun k hk bC e=>by
  rcases e with e|e|e|⟨i,m,hi,Z,e⟩|e
  ·exact hk.sb e
  ·exact hk.mv e
  ·exact hk.nf e
  ·exact(hk.ms m (Of6 Z)).1 e.symm
  exact bC e
 have n3:∀ k,NoS K W F' Ms mv k->NoS K br bh bi I k:=fun k hk=>hk.step bk.size bO cx cG;have bP:=h.nb (w.heap.size+1) zo zo;have bQ:=h.nb (w.heap.size+2) zo zo;refine⟨bh,bA,bi,I,⟨cN,⟨(bk.block _ h.rv.nb.lt (bD _ h.rv.nb zo)).trans h.rv.box,Yd h.rv.own fun g H=>bk.block g (h.rv.no g H).lt (bD g (h.rv.no g H) (by have:=(Je h.rv.own H).1;omega)),h.rv.bl,n3 _ h.rv.nb,fun g H=>n3 g (h.rv.no g H)⟩,Yd h.own fun g H=>by
   have e:g=g0:=by simpa [Value.ownBlock] using H.symm
   subst e;exact bk.block g bJ (bD g h.no bU),n3 _ h.no,fun k cn cu=>n3 k (h.nb k cn cu),(bk.block _ bP.lt (bD _ bP zo)).trans h.b1,(bk.block _ bQ.lt (bD _ bQ zo)).trans h.b2,bk⟩,?_⟩
 rcases cB with⟨rfl,m3,hI⟩|⟨U,b,rfl,cA,hb,cI,cP,da⟩
 ·refine .inl ⟨rfl,⟨hI.x1.cell,hI.x2.cell,?_,fun i hi hl=>?_,⟨m3,hI.sw.at_,hI.rb,hI.pl,hI.sw.held.1,?_⟩,fun i hi=>?_,?_⟩,bO⟩
  ·have:=congrArg List.length bz.rbs;simpa using this
  ·exact(hI.oth i hi zo).trans (Ktx hl)
  ·unfold Rn.rem;rw[hI.sw.held.1,List.nil_append,<-List.flatMap_def,hI.ids];exact bG.all bY bj
  ·rw[Qaa bz.rbs];unfold Ks7;rw[Ktx hi]
  have:=hI.pgs;rw[htot]at this;omega
 exact .inr ⟨U,b,rfl,cA,zo,cI,cP,zo⟩
end
end
section
open Go.RowKit Go.Shelf
theorem Qbd n k:nwX n (k+1)=nwX n k++[n+k]:=by unfold nwX;rw[Oj7,Ob8];rfl
theorem Kud n k:(nwX n k).length=k:=by simp[nwX]
theorem Qbv {n k i}(h:i∈nwX n k):n<=i/\i<n+k:=by
 unfold nwX at h;obtain⟨j,y,rfl⟩:=Of0.1 h;have:=Oj4.1 y;omega
theorem Qch {n k j i}(h:(nwX n k)[j]?=some i):j<k/\i=n+j:=by
 unfold nwX at h;rw[Ob1]at h;obtain⟨q,hq,rfl⟩:=Oe9.1 h;have hl:=(Ob9.1 hq).1;rw[Op1]at hl;rw[Oh6 hl]at hq;obtain rfl:=Oj6 hq;exact⟨hl,rfl⟩
theorem Qaz n k:(nwX n k).Nodup:=by
 unfold nwX;rw[List.nodup_iff_pairwise_ne,List.pairwise_map];exact List.pairwise_lt_range.imp fun h=>by omega
theorem Qal (y:List (List Nat))(f c:Nat):(y.take f).flatten++((y.drop f).take c).flatten=(y.take (f+c)).flatten:=by
 rw[<-List.flatten_append,List.take_add]
theorem Kue y bu:∀ k,(nwL y (cks y.length bu k)).flatten=(y.take (k*bu)).flatten:=by
 intro k;induction k with
 |zero=>simp[cks,nwL]
 |succ k H=>
  unfold nwL at H |-;rw[Jbj,Ob8,List.flatten_append,H];simp only[Oe4,Oi4,List.flatten_cons,List.flatten_nil,Od7,Jaa];rw[Qal,Nat.add_mul,Nat.one_mul];by_cases h:bu<=y.length-k*bu
  ·rw[Oj1 h]
  rw[Oc8 zo,Oc8 zo]
theorem CtX.of2 {y w W X H G M K mv O}{b z lim:Nat}(bk:dz M<=lim)(bz:SI y W H M K mv (z:Int))(bB:NoS y W H K mv (w.heap.size+1))(bC:NoS y W H K mv (w.heap.size+2))(bj:Yu W (.iface 156 (.pointer (some ⟨b,0,none⟩))) (if O=true then y.q else y.qw) none (some (-1)))(hb:w.heap.size+3<=b)(bx:¬ H b)(bA:Kso y.D0 O)(hk:Ju G W X)(U:∀ k,G k->k=w.heap.size+1\/k=w.heap.size+2)(bh:X.heap[w.heap.size+1]?=some (.cells #[.slice none 0 0] 301 (0,0)))(bi:X.heap[w.heap.size+2]?=some (.cells #[.iface 156 (.pointer (some ⟨b,0,none⟩))] 78 (0,0))):CtX y w z lim X H M K mv O b:=by
 obtain⟨bf,bD⟩:=bj.disk_at;have I:∀ k,G k->NoS y W H K mv k:=fun k hk=>(U k hk).elim (fun e=>e▸bB) fun e=>e▸bC;have Y:X.heap[b]?=W.heap[b]?:=hk.block b (Jb0 bf) fun e=>by have:=U b e;omega
 exact⟨bz.keep hk (fun k hk=>(I k hk).lo) (fun e=>(I _ e).sb rfl) (fun g br e=>(I _ e).mv br) (fun k hf e=>(I _ e).nf hf) (fun m Z=>⟨fun e=>((I _ e).ms m Z).1 rfl,fun k hn e=>((I _ e).ms m Z).2 hn⟩),bh,bi,.disk b _ _ ((Oc3 Y).trans bf) ((Oc3 Y).trans bD),⟨hb,bx⟩,bA,bk⟩
theorem NoS.less {H W F y I mv b}(h:NoS H W F I mv b)(hF:∀ k,y k->F k):NoS H W y I mv b:=⟨h.lt,h.lo,h.sb,h.mv,fun e=>h.nf (hF b e),h.ms⟩
section
variable {K:SC} {w W W3:World} {F' F3:Nat->Prop} {E E' E3:DS} {Ms0 Ms Ms3:List Mr} {idx jdx:List Nat} {Ls:List (List Nat)} {g0 c0 z bu pr L b8 f c:Nat} {pre:List (Nat×Nat)} {mv rv mv3:Value}
theorem NwI.gcl (h:NwI K w E Ms0 idx Ls g0 c0 z bu pr L pre W F' E' Ms mv rv)(I:K.sb<w.heap.size)(H:w.heap.size+6<=L):∀ k,NwG K w F' mv Ms jdx k->L<=k->∃ o:Obj,W.heap[k]?=some o/\o.isCells=true:=fun k hk hl=>by
 rcases hk with e|e|e|⟨i,m,_,y,e⟩|e
 ·omega
 ·exact Ks9 h.si.own e
 ·exact h.fcl k e hl
 ·rw[e];exact⟨_,(h.si.runs m (Of6 y)).1.cells,rfl⟩
 omega
theorem NwM.fin (h:NwI K w E Ms0 idx Ls g0 c0 z bu pr L pre W F' E' Ms mv rv)(hM:NwM K w idx Ms0 g0 c0 z L pre jdx W F' Ms mv rv W3 F3 E3 Ms3 mv3)(y:NwD K w Ls pr b8 pre jdx f c W E' Ms W3 E3 Ms3)(bU:K.sb<w.heap.size)(bH:w.heap.size+6<=L)(cc:g0<w.heap.size)(Z:pre++[(f,c)]=cks idx.length bu (pre.length+1))(cb:f+c<=idx.length)(bZ:1<=c)(bx:∀ i∈idx,i<Ms0.length)(bz:jdx=(idx.drop f).take c){bf I rv'}(bI:Below W3.heap.size W3 bf)(O:Jo I L 354 rv' (((nwX Ms0.length pre.length).map (Ks7 Ms)++[W.heap.size]).map rpV))(U:bf.grownBy I rv.ownBlock)(bG:rv'.ownBlock=rv.ownBlock\/rv'.ownBlock=some bf.heap.size):
  (∃ bE,NwI K w E Ms0 idx Ls g0 c0 z bu pr L (pre++[(f,c)]) (I.setCell ⟨w.heap.size+3,0,none⟩ rv') bE E3 Ms3 mv3 rv')/\KeepsFrom L W (I.setCell ⟨w.heap.size+3,0,none⟩ rv')/\Ju (fun k=>NwG K w F' mv Ms jdx k\/k=w.heap.size+3\/rv.ownBlock=some k) W (I.setCell ⟨w.heap.size+3,0,none⟩ rv'):=by
 obtain⟨bT,hk,bV⟩:=hM.rv.push hM.si bI O U bG;generalize I.setCell ⟨w.heap.size+3,0,none⟩ rv'=bj at *;have bi:Ju (fun k=>NwG K w F' mv Ms jdx k\/k=w.heap.size+3\/rv.ownBlock=some k) W bj:=(hM.keep.mono fun k _ e=>.inl e).trans' hk fun k _ e=>.inr e;have cj:=h.size;have ci:=bi.size;have hlen:=h.len;have bh:=h.rd0.len;have bJ:f=pre.length*bu/\c=min bu (idx.length-pre.length*bu):=by
  have e:=Z;rw[Jbj]at e;have:=(List.append_inj_right' e rfl);simp[Jaa]at this;exact this
 have ca:c<=bu:=by have:=bJ.2;omega
 have bY:(pre.length+1)*bu=pre.length*bu+bu:=Of5 _ _;have H:(pre++[(f,c)]).length=pre.length+1:=zS;have bO:∀ i j,(pre.length+1)*bu<=j->idx[j]?=some i->i∉jdx:=fun i j Y hi M=>by
  rw[bz]at M;obtain⟨q,hq,e⟩:=Od5 M;rw[List.getElem_take,List.getElem_drop]at e;rw[Oc7]at hq;have bC:idx[f+q]?=some i:=by rw[Oa3 zo,e]
  have:=(List.getElem?_inj (Ob9.1 bC).1 h.rd0.nd).1 (bC.trans hi.symm);omega
 have bN:∀ i∈jdx,i<Ms0.length:=fun i hi=>by
  rw[bz]at hi;exact bx i (Oh7 (Om9 hi))
 have far:∀ k,w.heap.size<=k->k<w.heap.size+3->bj.heap[k]?=W3.heap[k]?:=fun k O U=>hk.block k (hM.nb k O zo).lt fun e=>by
  rcases e with e|e
  ·omega
  have:=(Je hM.rv.own e).1;omega
 have hcut:(Ls.take ((pre.length+1)*bu)).flatten=(Ls.take (pre.length*bu)).flatten++((Ls.drop f).take c).flatten:=by
  have:=Kue Ls bu (pre.length+1);rw[bh,<-Z]at this;rw[<-this,<-Kue Ls bu pre.length,bh,<-h.pr_];unfold nwL;rw[Ob8,List.flatten_append];simp
 have bK:(nwL Ls (pre++[(f,c)])).flatten=(Ls.take ((pre.length+1)*bu)).flatten:=by
  rw[Z,<-bh];exact Kue Ls bu _
 have bD:(nwL Ls (pre++[(f,c)])).flatten.Sublist Ls.flatten:=by rw[bK];exact Kui (List.take_sublist _ _)
 obtain⟨m3,bB,bR,bP,bM,bS⟩:=y.new;have bQ:(nwX Ms0.length (pre.length+1)).map (Ks7 Ms3)=(nwX Ms0.length pre.length).map (Ks7 Ms)++[W.heap.size]:=by
  rw[Qbd,Ob8];congr 1
  ·exact Oj9 fun i hi=>y.rbs i (by have:=Qbv hi;omega)
  rw[Oe4,Oi4,<-hlen,Kup bB,bR]
 refine⟨⟨_,bV.narrow,by rw[y.len,H];omega,by rw[H];exact Z,?_,?_,?_,fun i hi=>(y.rbs i (by have:=bx i hi;omega)).trans (h.old i hi),Yd hM.own fun g bL=>?_,(hM.no.grown hk.size).less fun k hk=>hk.1,fun k O U=>((hM.nb k O U).grown hk.size).less fun k hk=>hk.1,(Oc3 (far w.heap.size (Oa2 _) zo)).trans y.c0,(far (w.heap.size+1) zo zo).trans hM.b1,(far (w.heap.size+2) zo zo).trans hM.b2,zo,?_,fun k hk _=>hk.2⟩,Ks1 bi fun k hk hl=>?_,bi⟩
 ·rw[H];exact h.rd0.same zo fun j i Y hi=>y.same i (bO i j Y hi) (h.idx_lt zo hi)
 ·rw[H];refine⟨Qaz _ _,by rw[Kud];unfold nwL;rw[Oa6,H],h.rd0.inc.sublist bD,fun x bW=>h.rd0.low x (bD.subset bW),fun l hl=>?_,fun j i l _ Y hl=>?_⟩
  ·unfold nwL at hl;rw[Ob8]at hl;rcases Od2.1 hl with hl|hl
   ·exact h.rd1.ne l hl
   rw[Oc6.1 hl];have br:f<Ls.length:=zo;have h0:=h.rd0.ne _ (Ob3 br);intro e;have M:Ls[f]∈(Ls.drop f).take c:=Ok2.2 ⟨0,by rw[Oh3 zo,Oh9,Nat.add_zero,Oa3 br]⟩;exact h0 (List.flatten_eq_nil_iff.1 e _ M)
  obtain⟨cf,rfl⟩:=Qch Y;unfold nwL at hl;rw[Ob8]at hl;by_cases bA:j<pre.length
  ·rw[Ob0 (by rw[Oa6];exact bA)]at hl;obtain⟨m,M,bk⟩:=h.rd1.run j (Ms0.length+j) l (Ob7 _) (by unfold nwX;rw[Ob1,Oh6 bA];rfl) hl;exact⟨m,(y.same _ (fun e=>by have:=bN _ e;omega) zo).trans M,bk⟩
  obtain rfl:j=pre.length:=zo;rw[Ob6 (by rw[Oa6];exact Oa2 _),Oa6,Oe1]at hl;obtain rfl:=Oj6 hl;rw[<-hlen];exact⟨m3,bB,bP,bM,bS⟩
 ·rw[H,bQ];exact bT.less fun k hk=>hk.1
 ·have e:g=g0:=by simpa [Value.ownBlock] using bL.symm
  subst e;refine hk.block g hM.no.lt fun e=>?_;rcases e with e|e
  ·omega
  have:=(Je hM.rv.own e).1;omega
 ·have bk:=y.pgs;have bX:=h.pgs;rw[H,hcut,Oa8,Nat.mul_add];omega
 rcases hk with e|e|e
 ·exact h.gcl bU bH k e hl
 ·omega
 exact Ks9 h.rv.own e
theorem NwI.ck {y}(h:NwI K w E Ms0 idx Ls g0 c0 z bu pr L pre W F' E' Ms mv rv)(hk:CK W y)(ho:Ju K.F0 K.w0 y):NwI K w E Ms0 idx Ls g0 c0 z bu pr L pre y F' E' Ms mv rv:=
 ⟨h.si.ck hk ho,h.len,h.pr_,h.rd0,h.rd1,h.rv.ck hk,h.old,Jxz h.own hk,h.no.grown hk.size,fun k H I=>(h.nb k H I).grown hk.size,hk.cell h.b0,hk.cells _ _ _ _ h.b1,hk.cells _ _ _ _ h.b2,Ob2 h.size hk.size,h.pgs,fun k M hl=>hk.isCells (h.fcl k M hl)⟩
theorem NwI.all (h:NwI K w E Ms0 idx Ls g0 c0 z bu pr L (cks idx.length bu (ckN idx.length bu)) W F' E' Ms mv rv)(bh:1<=bu)(bf:K.w0.heap.size<=L)(bi:Ls.flatten=List.range (nR K.cs)):
  Ks4 K z W F' E' Ms mv rv (nwX Ms0.length (ckN idx.length bu)) (nwL Ls (cks idx.length bu (ckN idx.length bu)))/\dz E'<=dz E+pr*Ls.flatten.length:=by
 have H:=h.rd0.len;have I:=h.rd1;have y:=h.rv;have hp:=h.pgs;rw[Jbp]at I y hp;have M:Ls.take (ckN idx.length bu*bu)=Ls:=Oc8 (by rw[H];exact Jcy bh);rw[M]at hp;refine⟨⟨h.si,I,?_,⟨y.own.1,y.own.2.imp id fun ⟨g,cap,O,U,Y,Z⟩=>⟨g,cap,O,U,Ob2 bf Y,Z⟩⟩,y.no⟩,hp⟩;rw[<-bi,<-H,Kue,H,M]
end
end
open Go.RowKit Go.Shelf Tryz
attribute [local go_sem] Oc0
theorem zaB {p:Prop}(h:p:=by
 rcases h.own.2 with⟨_,h0⟩|⟨g,cap,_,e,_⟩
 ·rw[Oa6,Oa6]at h0;omega
 rw[Oa6,Oa6]at e;exact⟨g,cap,e⟩):p:=h
theorem Kw5 y(hK:SK y)w F E K mv rv idx bH(z bu pr:Nat)(h:Ks4 y z w F E K mv rv idx bH)(fh:y.bu=(bu:Int))(bY:1<=bu)(bZ:bu<=50000)(fs:1<=z)(cL:z<=64)(dD:∀ x,x<nR y.cs->(Qu (Kr3 y.ts (Jba [x] y.cs) y.ts.length)).length<=pr)(fJ:1<=idx.length)(dv:idx.length<=100000)(di:K.length+idx.length<=900000)(fI:nR y.cs<=50000)(ds:dz E+pr*nR y.cs<=930000):
  Calls prog 206 #[.pointer (some ⟨y.sb,0,none⟩),rv] w (Ky4 y w z (ckN idx.length bu) (K.length+ckN idx.length bu) (dz E+pr*nR y.cs)):=by
 obtain⟨⟨_,_,s2⟩,_⟩:=h.si.st.field;rw[fh]at s2;have cK:=Jd h.si.st;have bx:y.w0.heap.size<=w.heap.size:=h.si.old.size;have dE:ckN idx.length bu<=idx.length:=Kg4 _ _ bY;obtain⟨M,br,rfl⟩:∃ M br,rv=.slice (some ⟨M,0,none⟩) idx.length br:=by
  exact zaB
 have fj:idx.length<=br:=by
  rcases h.own.2 with⟨e,_⟩|⟨g,cap,fD,e,_,_,dZ,_⟩
  ·cases e
  rw[Oa6,Oa6]at e dZ;injection e with _ _ e;omega
 have dt:=h.no M rfl;have dw:∀ i∈idx,i<K.length:=fun i hi=>by
  obtain⟨j,cf,e⟩:=Od5 hi;obtain⟨m,cI,_⟩:=h.rd.run j i _ (Ob7 _) (by rw[Oa3 cf,e]) (Oa3 (by rw[h.rd.len];exact cf));exact(Ob9.1 cI).1
 have dh:bH.flatten.length=nR y.cs:=by rw[h.flat,Op1]
 have bG:=Krx h;have dV:=Krx dD;have bN:Hid (NoS y w F K mv M/\(∀ i∈idx,i<K.length)/\bH.flatten.length=nR y.cs/\dz E+pr*nR y.cs<=930000/\K.length+idx.length<=900000/\ckN idx.length bu<=idx.length):=⟨dt,dw,dh,ds,di,dE⟩;clear h dD dt dw dh ds di dE;refine(callsIn_wide (n:=3)).1 ?_;refine callsIn_of_wp_marks func206 rfl trivial ?_ rfl;simp only[ntmps206,Om3,List.length_cons,List.length_nil,Nat.reduceAdd,Nat.reduceSub,Ok9,Array.replicate_zero,Om4,Ol2,List.nil_append,List.cons_append];refine wpIn_wide.2 ?_;go_upto_region 1 with fail
 generalize dl:((w.alloc _).alloc _).alloc _=V;obtain⟨bD,bV,cC,cD,cb⟩:=Jur w _ _ _ V dl;clear dl;have dH:SI y V F E K mv (z:Int):=bG.out.si.keep (G:=fun _=>False) (Ju.of_below cb) (fun _ h=>h.elim) id (fun _ _=>id) (fun _ _=>id) (fun _ _=>⟨id,fun _ _=>id⟩);have ca:=Jc (Oa5 V.heap.size V) (.cells #[.slice none 0 0] 301);have c0:(V.alloc (.cells #[.slice none 0 0] 301)).cell? ⟨w.heap.size,0,none⟩=some (.pointer (some ⟨y.sb,0,none⟩)):=Ja ca (by simp[World.cell?,bV]);have fy:(V.alloc (.cells #[.slice none 0 0] 301)).cell? ⟨y.sb,2,none⟩=some (.int .i64 (bu:Int)):=Ja ca (Ja cb s2);have dr:=fun X=>Kwo (some ⟨M,0,none⟩) idx.length br bu bY X;have bJ:(V.alloc (.cells #[.slice none 0 0] 301)).heap.size=w.heap.size+4:=by rw[Oa7,bD]
 have bW:=heap_alloc_new V (.cells #[.slice none 0 0] 301);rw[bD]at bW;have cW:=Krx bD;clear bD s2;go_wp2_with (go_at_call 242;refine(dr _).mono ?_;rintro e bk ⟨rfl,bL⟩)
 clear dr c0 fy;have bD:=cW.out;try rw[bD]
 try rw[bJ]
 generalize V.alloc (.cells #[.slice none 0 0] 301)=bU at *;have Y:bk.heap.size=w.heap.size+6:=by rw[bL,Oa7,Oa7,bJ]
 have bZ:Below bU.heap.size bU bk:=by rw[bL];exact Jc (Jc (Oa5 _ _) _) _
 have da:bk.heap[w.heap.size+4]?=some (.cells #[.slice (some ⟨M,0,none⟩) idx.length br] 301 (0,0)):=by
  rw[bL,Oa9 _ _ _ (by rw[Oa7,bJ];omega),<-bJ];exact heap_alloc_new bU _
 have cZ:bk.heap[w.heap.size+4+1]?=some (.cells #[.int .i64 (bu:Int)] 3 (0,0)):=by
  have:=heap_alloc_new (bU.alloc (.cells #[.slice (some ⟨M,0,none⟩) idx.length br] 301)) (.cells #[.int .i64 (bu:Int)] 3);rw[Oa7,bJ]at this;rw[bL];exact this
 have bM:=Jb ca bZ;have cE:=Jb cb bM;have db:=(bM.block _ (Jd bV)).trans bV;have dc:=(bM.block _ (Jd cC)).trans cC;have dd:=(bM.block _ (Jd cD)).trans cD;have de:=(bZ.block _ (Jd bW)).trans bW;have dG:SI y bk F E K mv (z:Int):=dH.keep (G:=fun _=>False) (Ju.of_below bM) (fun _ h=>h.elim) id (fun _ _=>id) (fun _ _=>id) (fun _ _=>⟨id,fun _ _=>id⟩);have bC:∀ k,w.heap.size<=k->k<w.heap.size+6->NoS y bk F K mv k:=fun k dY fG=>bG.out.si.noS dY zo;have df:NwI y w E K idx bH M br z bu pr (w.heap.size+6) [] bk F E K mv (.slice none 0 0):=
  ⟨dG,rfl,rfl,by rw[List.length_nil,Nat.zero_mul];exact bG.out.rd,⟨Qaz _ _,rfl,List.Pairwise.nil,(fun x fq=>by cases fq),(fun l hl=>by cases hl),(fun j i l _ cf=>by simp[nwX]at cf)⟩,⟨de,Jo.nil _ _ _,zo,bC _ zo zo,fun g bi=>by simp[Value.ownBlock]at bi⟩,fun i _=>rfl,Jaw bG.out.own cE,bN.out.1.grown cE.size,bC,by simp[World.cell?,db],dc,dd,zo,zS,fun k hk hl=>by have:=bG.out.si.flt k hk;omega⟩
 have dT:=Krx df;have hseq:=Kw2 2 zo (w.heap.size+4) (w.heap.size+4+1) M 0 idx.length br bu bY zo dv fj bk (by simp[World.cell?,da]) (by simp[World.cell?,cZ]) (fun k=>k=w.heap.size+4\/k=w.heap.size+4+1) ⟨.inl rfl,.inr rfl⟩ (fun k hk=>zo);clear df db dc dd de bZ bM cE bV cC cD bW da cZ dG dH ca bC cb;rw[<-bL];clear bL bJ cW bD;refine(wpIn_wide (n:=3)).1 ?_;refine Ktr rfl zo (gf:=281) (lb:=#[.pointer (some ⟨w.heap.size+4,0,none⟩),.pointer (some ⟨w.heap.size+4+1,0,none⟩)]) rfl trivial (enters_of func281 zK rfl)
  hseq (fun h k=>h.trans k) ?hKb (Oa5 _ _) (fun _=>rfl)
  (fun bf W=>∃ U bh O Z rv',NwI y w E K idx bH M br z bu pr (w.heap.size+6) bf W U bh O Z rv')
  (fun c bf W=>c=.ret/\∃ U bh O Z bB b,CtX y w z (dz E+pr*nR y.cs) W U bh O Z bB b)
  ?hI ?hIx ?hR ⟨F,E,K,mv,_,dT.out⟩ (fun x=>{tmps:=#[.pointer (some ⟨y.sb,0,none⟩),.slice (some ⟨M,0,none⟩) idx.length br,.pointer (some ⟨w.heap.size,0,none⟩),undef,.pointer (some ⟨w.heap.size+1,0,none⟩),.pointer (some ⟨w.heap.size+1+1,0,none⟩),.pointer (some ⟨w.heap.size+3,0,none⟩),.slice (some ⟨M,x.1,none⟩) x.2 x.2,undef,undef,.slice (some ⟨M,0,none⟩) idx.length br,.pointer (some ⟨y.sb,0,none⟩),.pointer (some ⟨y.sb,0,none⟩),.pointer (some ⟨y.sb,2,none⟩),.int .i64 (bu:Int),.func (.func 281) #[] #[.pointer (some ⟨w.heap.size+4,0,none⟩),.pointer (some ⟨w.heap.size+4+1,0,none⟩)],.slice (some ⟨M,x.1,none⟩) x.2 x.2,undef,undef,undef,undef,undef,undef,undef,undef,undef,undef,undef,undef,undef,undef,undef,undef],defers:=[]}) ?assign ?body ?done ?stop
 case hKb=>
  intro W l o fL hl ho _ _;exact zav
 case hI=>
  rintro s W cX row ⟨U,bh,O,Z,rv',h⟩ bi hr;exact⟨U,bh,O,Z,rv',h.ck (CK.of_grown bi fun r e=>(hr r e).2) (Krz h.si.old bi fun r e=>by have:=(hr r e).1;omega)⟩
 case hIx=>
  rintro c s W cX row ⟨fi,U,bh,O,Z,bB,b,h⟩ bi hr;exact⟨fi,U,bh,O,Z,bB,b,h.ck (CK.of_grown bi fun r e=>(hr r e).2) (Krz h.si.old bi fun r e=>by have:=(hr r e).1;omega)⟩
 case hR=>
  rintro x W cX row h bi hr;exact h
 case assign=>
  clear Y bx;intro l x W fz fe;gi_wp2
  exact fe
 case stop=>
  rintro D c bf W bO ⟨k,hk,cJ⟩ ⟨rfl,U,bh,O,Z,bB,b,bK⟩ bX;have c1:W.cell? ⟨w.heap.size+1,0,none⟩=some (.slice none 0 0):=by simp[World.cell?,bK.b1]
  have bI:W.heap[w.heap.size+1+1]?=some (.cells #[.iface 156 (.pointer (some ⟨b,0,none⟩))] 78 (0,0)):=bK.b2;have c2:=zc 0 bI;have bT:=Krx bK;have I:Hid (y.w0.heap.size<=w.heap.size/\bk.heap.size=w.heap.size+6):=⟨bx,Y⟩;clear bK bI cJ bx Y;gi_wp2
  have bx:=I.out.1;have Y:=I.out.2;have bE:∀ r,some D=some r->∃ o:Obj,W.heap[r]?=some o/\o.isCells=false:=fun r e=>by cases e;exact⟨_,bX,rfl⟩
  refine⟨zS,.inl ⟨_,_,rfl,run_takeDeferred bX,?_⟩⟩;have bA:=grownBy_putObj' W D (.deferred none);have cN:=cell_kept c1 bA bE;have cO:=cell_kept c2 bA bE;have cF:=CK.of_grown bA bE;refine⟨.tuple #[.slice none 0 0,.iface 156 (.pointer (some ⟨b,0,none⟩))],by simp[results,Tryz.f206,go_sem,cN,cO],?_⟩;have h:=bT.out.ck cF (Krz bT.out.si.old bA fun r e=>by cases e;omega);exact .inr ⟨U,bh,O,Z,bB,b,rfl,h.si,h.ch,by have:=h.bn.1;omega,h.bn.2,h.why,h.pgs⟩
 case done=>
  rintro D fP W bO dM ⟨U,bh,O,Z,rv',hI⟩ bX;rw[dM]at hI;obtain⟨cP,cQ,bz,rc,bS⟩:=hI.rv.cell;rw[Oa6,Kud,Jbp]at bS;subst bS;have c1:W.cell? ⟨w.heap.size+1,0,none⟩=some (.slice none 0 0):=by simp[World.cell?,hI.b1]
  have g1:W.frozen? ⟨w.heap.size+1,0,none⟩=false:=by simp[World.frozen?,hI.b1]
  have bI:W.heap[w.heap.size+1+1]?=some (.cells #[.nilIface] 78 (0,0)):=hI.b2;have c2:=zc 0 bI;have g2:W.frozen? ⟨w.heap.size+1+1,0,none⟩=false:=by simp[World.frozen?,bI]
  have bT:=Krx hI;have I:Hid (y.w0.heap.size<=w.heap.size/\bk.heap.size=w.heap.size+6/\y.sb<w.heap.size):=⟨bx,Y,cK⟩;generalize fo:ckN idx.length bu=q at *;clear hI bI dM bx Y;go_wp2_with fail
  have bx:=I.out.1;have Y:=I.out.2.1;have h:=bT.out;have dg:=((KeepsOthers.setCell W ⟨w.heap.size+1,0,none⟩ (.slice bz q rc)).trans (KeepsOthers.setCell _ ⟨w.heap.size+1+1,0,none⟩ .nilIface)).same D _ bX rfl;subst fo;have dp:=h.all bY zo bG.out.flat;have dj:=dp.1.keep (G:=fun k=>k=w.heap.size+1\/k=w.heap.size+1+1) (Ju.set (F:=fun k=>k=w.heap.size+1\/k=w.heap.size+1+1) (Ju.set (F:=fun k=>k=w.heap.size+1\/k=w.heap.size+1+1) (Ju.refl _ W) (.inl rfl) 0 (.slice bz (ckN idx.length bu) rc)) (.inr rfl) 0 .nilIface) (fun k hk=>h.nb k zo zo) (fun g bi e=>by have:=(Je h.rv.own bi).1;omega);have cN:((W.setCell ⟨w.heap.size+1,0,none⟩ (.slice bz (ckN idx.length bu) rc)).setCell ⟨w.heap.size+1+1,0,none⟩ .nilIface).cell? ⟨w.heap.size+1,0,none⟩=some (.slice bz (ckN idx.length bu) rc):=by
   rw[Ob5 _ _ _ _ (by intro e;injection e with e _;omega)];exact World.cell?_setCell_same _ _ _ c1
  have cO:((W.setCell ⟨w.heap.size+1,0,none⟩ (.slice bz (ckN idx.length bu) rc)).setCell ⟨w.heap.size+1+1,0,none⟩ .nilIface).cell? ⟨w.heap.size+1+1,0,none⟩=some .nilIface:=World.cell?_setCell_same _ _ _ (by rw[Ob5 _ _ _ _ (by intro e;injection e with e _;omega)];exact c2);generalize (W.setCell ⟨w.heap.size+1,0,none⟩ (.slice bz (ckN idx.length bu) rc)).setCell ⟨w.heap.size+1+1,0,none⟩ .nilIface=X at *;have bE:∀ r,some D=some r->∃ o:Obj,X.heap[r]?=some o/\o.isCells=false:=fun r e=>by cases e;exact⟨_,dg,rfl⟩
  refine⟨zS,.inl ⟨_,_,rfl,run_takeDeferred dg,?_⟩⟩;have bA:=grownBy_putObj' X D (.deferred none);have fw:=cell_kept cN bA bE;have fx:=cell_kept cO bA bE;have cF:=CK.of_grown bA bE;refine⟨.tuple #[.slice bz (ckN idx.length bu) rc,.nilIface],by simp[results,Tryz.f206,go_sem,fw,fx],?_⟩;have ci:=bN.out.2.2.1;have dC:=dp.2;rw[ci]at dC;exact .inl ⟨U,bh,O,Z,_,_,_,rfl,dj.ck cF (Krz dj.si.old bA fun r e=>by cases e;omega),Kud _ _,by rw[h.len,Jbp],dC⟩
 case body=>
  rintro dN bf ⟨f,c⟩ W ⟨U,bh,O,Z,rv',hI⟩ ⟨cu,cv,dL⟩ cj cJ;simp only at cu cv dL cj;obtain⟨cM,cH⟩:∃ cM,cM=(idx.drop f).take c:=⟨_,rfl⟩;have bP:=bN.out;have ci:=bP.2.2.1;have cG:=bP.1.lt;have hlen:=hI.len;have dI:=hI.step hK (Oa2 _) cG fs cL dV.out cj cu cv dv zo bP.2.1 (by rw[ci];exact bP.2.2.2.1) zo cH;obtain⟨cP,cQ,bz,rc,bS⟩:=hI.rv.cell;rw[Oa6,Kud]at bS;subst bS;have c0:=hI.b0;have cx:=Krx hI;have cV:=Krx dI;have I:Hid (y.w0.heap.size<=w.heap.size/\bk.heap.size=w.heap.size+6/\bf.length<=100000/\M<w.heap.size/\bf++[(f,c)]=cks idx.length bu (bf.length+1)/\f+c<=idx.length/\1<=c):=⟨bx,Y,zo,cG,cj,cu,cv⟩;have dU:=Krx cH;clear hI dI cJ cj cu cv dL bx Y hseq cG hlen bP ci cH;gi_wp2_with (first|(refine⟨trivial,?_⟩;gi_at_call 240;refine(CallsIn.inRound dN (callsIn_wide.2 cV.out)).mono ?_;rintro e cy ⟨rfl,cY,dA⟩;have cU:=Krx dA;clear dA;have dX:=Ja (Jc (Oa5 _ cy) (.cells #[.pointer (some ⟨W.heap.size,0,none⟩)] 354)) cY)|(refine⟨trivial,?_⟩;gi_at_call 157;refine(CallsIn.inRound dN (callsIn_wide.2 (cU.out _ (Jc (Oa5 _ cy) (.cells #[.pointer (some ⟨W.heap.size,0,none⟩)] 354)) (heap_alloc_new cy _)))).mono ?_))
  rintro e H ⟨cS,cR,fA,fK,hM,fk⟩;clear cU cV cY dX c0;have bj:=Krx hM;clear hM;rcases fk with⟨rfl,bO,fc⟩|⟨bB,b,rfl,cc,hb,bC,cn,bQ⟩
  ·have fM:=bj.out.rv.cell.1;have fN:=bj.out.rv.cell.2.1;have c8:=bO.c8;have dQ:=Krx bO;have cT:=Krx bj.out.rv.own;have dS:Hid (bf.length<=100000/\w.heap.size+6<=H.heap.size):=⟨I.out.2.2.1,by have:=cx.out.size;have:=bj.out.keep.size;omega⟩;have ff:(((nwX K.length bf.length).map (Ks7 O)).map rpV).length=bf.length:=by rw[Oa6,Oa6,Kud]
   have fH:=dS.out;have dq:∀ cA cz,Below H.heap.size H cA->cA.grownBy cz (Value.slice bz bf.length rc).ownBlock->cz.heap[w.heap.size+3]?=some (.cells #[.slice bz bf.length rc] 301 (0,0)):=fun cA cz dm bi=>(bi.block _ (by have:=dm.size;have:=bj.out.rv.nb.lt;omega) fun e=>by have:=(Je cT.out e.symm).1;omega).trans ((dm.block _ bj.out.rv.nb.lt).trans bj.out.rv.box);have dP:=Krx dq;clear dq bO fc cP cQ;obtain⟨fv,fl,fr,ft,fu⟩:=info_parts Ktw;gi_wp2_with (gi_at_builtin;go_must (refine wpListIn_append_own_at _ rfl _ _ 301 rfl (w.heap.size+6) 354 fv _ 1 8 zK fl fr ft fu rfl zd (.slice bz bf.length rc) _ _ rfl (Jo.alloc cT.out _) ⟨H.heap.size,0,none⟩ 1 1 [.pointer (some ⟨W.heap.size,0,none⟩)] rfl rfl (by exact Ua H _ _) (by intro u dJ;simp at dJ;subst dJ;rfl) (by unfold maxLen;omega) zo zt ?_);intro fO w4 dB du _ fg;go_must (obtain⟨fF,fC,dK⟩:=ownsRow_succ dB);rw[ff]at dK;subst dK;have cB:=dP.out _ w4 (Jc (Oa5 _ H) _) du;have fB:=zc 0 cB;have fE:w4.frozen? ⟨w.heap.size+3,0,none⟩=false:=(by simp[World.frozen?,cB]);clear cB)
   have hI:=cx.out;have bx:=I.out.1;have Y:=I.out.2.1;obtain⟨⟨dO,fd⟩,fm,dy⟩:=NwM.fin hI bj.out dQ.out cK (Oa2 _) I.out.2.2.2.1 I.out.2.2.2.2.1 I.out.2.2.2.2.2.1 I.out.2.2.2.2.2.2 bN.out.2.1 dU.out (Jc (Oa5 _ H) _) (by
    rw[Ob8];unfold Jo;rw[Oa8];exact dB) du fg
   have fp:=hI.size;refine⟨by rw[Y];exact fm,⟨dy.size,fun k hk=>?_⟩,dO,_,_,_,_,fd⟩;have bR:=hI.nb k zo zo;refine dy.block k bR.lt fun e=>?_;rcases e with(e|e|e|⟨i,m,_,cI,e⟩|e)|e|e
   ·exact bR.sb e
   ·exact bR.mv e
   ·exact bR.nf e
   ·exact(bR.ms m (Of6 cI)).1 e.symm
   ·omega
   ·omega
   have:=(Je hI.rv.own e).1;omega
  have dR:Hid (Yu H (.iface 156 (.pointer (some ⟨b,0,none⟩))) (if bB=true then y.q else y.qw) none (some (-1))/\W.heap.size<=b/\¬ cS b/\Kso y.D0 bB/\dz cR<=dz E+pr*bH.flatten.length):=⟨cc,hb,bC,cn,bQ⟩;have z1:=bj.out.b1;have z2:H.heap[w.heap.size+1+1]?=some (.cells #[.nilIface] 78 (0,0)):=bj.out.b2;have c1:=zc 0 z1;have g1:H.frozen? ⟨w.heap.size+1,0,none⟩=false:=by simp[World.frozen?,z1]
  have c2:=zc 0 z2;have g2:H.frozen? ⟨w.heap.size+1+1,0,none⟩=false:=by simp[World.frozen?,z2]
  have dW:Hid (H.heap[w.heap.size+1]?=some (.cells #[.slice none 0 0] 301 (0,0))/\H.heap[w.heap.size+1+1]?=some (.cells #[.nilIface] 78 (0,0))):=⟨z1,z2⟩;clear z1 z2 cP cQ cc hb bC cn bQ;gi_wp2
  have hI:=cx.out;have hM:=bj.out;have bx:=I.out.1;have Y:=I.out.2.1;have fp:=hI.size;obtain⟨z1,z2⟩:=dW.out;obtain⟨cc,hb,bC,cn,bQ⟩:=dR.out;rw[bN.out.2.2.1]at bQ;have dx:Ju (fun k=>k=w.heap.size+1\/k=w.heap.size+1+1) H ((H.setCell ⟨w.heap.size+1,0,none⟩ (.slice none 0 0)).setCell ⟨w.heap.size+1+1,0,none⟩ (.iface 156 (.pointer (some ⟨b,0,none⟩)))):=Ju.set (F:=fun k=>k=w.heap.size+1\/k=w.heap.size+1+1) (Ju.set (F:=fun k=>k=w.heap.size+1\/k=w.heap.size+1+1) (Ju.refl _ H) (.inl rfl) 0 _) (.inr rfl) 0 _;have cL:(H.setCell ⟨w.heap.size+1,0,none⟩ (.slice none 0 0)).heap[w.heap.size+1+1]?=some (.cells #[.nilIface] 78 (0,0)):=(Oa4 _ _ _ _ (show w.heap.size+1+1≠w.heap.size+1 by omega)).trans z2;have bK:=CtX.of2 bQ hM.si (hM.nb _ zo zo) (hM.nb _ zo zo) cc zo bC cn dx (fun k hk=>hk) (by rw[Oa4 _ _ _ _ (show w.heap.size+1≠w.heap.size+1+1 by omega),Jk z1];simp) (by show ((H.setCell ⟨w.heap.size+1,0,none⟩ (.slice none 0 0)).setCell ⟨w.heap.size+1+1,0,none⟩ (.iface 156 (.pointer (some ⟨b,0,none⟩)))).heap[w.heap.size+1+1]?=_;rw[Jk cL];simp);refine⟨?_,rfl,cS,cR,_,_,bB,b,bK⟩;rw[Y];refine Ks1 (G:=fun k=>NwG y w U Z O cM k\/k=w.heap.size+1\/k=w.heap.size+1+1) ((hM.keep.mono fun k _ e=>.inl e).trans' dx fun k _ e=>.inr e) fun k hk hl=>?_;rcases hk with e|e|e
  ·exact hI.gcl cK (Oa2 _) k e hl
  ·omega
  omega
