/- Merging: the rows are taken, one by one. -/
import Derived.Test.YtnlnlamdilifcaaGreatDoorOg
set_option maxHeartbeats 4000000
set_option maxRecDepth 100000
namespace Go.Proofs.YtnlnlamdilifcaaGreatDoor
section
open Go.RowKit Go.Shelf Tryz
structure M2 (K:SC) (mv:Value) (idx:List Nat) (Q:TkQ) (w:World) (T F:Nat->Prop) (Ms:List Mr) (hb lf:Nat) (W:World) (t:List Nat) (T1 F1:Nat->Prop) (E1:DS) (Ms1:List Mr) (n:Nat) (f:Nat->Nat):Prop where
 q:Q t T1 W F1 E1 Ms1
 ho:HpO K W F1 Ms1 mv T1 hb
 hp:HpP W hb K.sb n f
 mg:Mgg (Kr6 K.ks K.cs) (Kry Ms idx).flatten t Ms1 idx n f
 ml:MgL w F T Ms idx W F1 T1 Ms1
 fresh:∀ k,HpF W hb k->w.heap.size<=k
 left:(Kry Ms1 idx).flatten.length=lf
 few:n<=100000
def M2x (I:SC)(mv:Value)(idx:List Nat)(Q:TkQ)(w:World)(T F:Nat->Prop)(K:List Mr)(hb n U:Nat)(W:World):Prop:=∃ t O H y M f,M2 I mv idx Q w T F K hb U W t O H y M n f
def Kyh (y:SC)(mv:Value)(bl:Int)(idx:List Nat)(lim:Nat)(Q:TkQ)(w:World)(T F:Nat->Prop)(M:List Mr)(e:Ending)(w':World):Prop:=∃ O H I K,MgL w F T M idx w' H O K/\SI y w' H I K mv bl /\
 ((e=.returned .nilIface/\Q (Ksi (Kr6 y.ks y.cs) (Kry M idx).flatten) O w' H I K)\/∃ U b,e=.returned (Ip 149 b)/\Yu w' (Ip 149 b) (if U=true then y.q else y.qw) none (some (-1))/\w.heap.size<=b/\¬ H b/\Ksy y.D0 U/\dz I<=lim)
theorem Kuv.less {w G y sb P key c}(h:Kuv w G sb P key c)(H:∀ k,y k->G k):Kuv w y sb P key c:=fun W hW=>h W (hW.mono fun k _ I=>H k I)
theorem HpP.len {W hb sb n f}(h:HpP W hb sb n f):∃ a cap,W.cell? (Aq hb)=some (.slice a n cap):=by
 rcases h with⟨rfl,h⟩|⟨y,cap,h⟩
 ·exact⟨_,_,(Ksr h).1⟩
 exact⟨_,_,(Ksr h.st).1⟩
theorem HpP.at_ {W hb sb n f}(h:HpP W hb sb n f)(H:1<=n):∃ y cap,Ksa W hb y sb n cap f:=by
 rcases h with⟨rfl,h⟩|h
 ·omega
 exact h
theorem SI.rem_lt {H w F E I mv}{bl:Int}(h:SI H w F E I mv bl){i:Nat}{m}(K:I[i]?=some m)(hh:m.R.held=[]):∀ x∈m.R.rem,x<nR H.cs:=fun x y=>by
 unfold Rn.rem at y;rw[hh,List.nil_append,List.mem_flatten]at y;obtain⟨l,hl,y⟩:=y;obtain⟨b,hb,rfl⟩:=Of0.1 hl;exact(h.blks m (Of6 K) b hb).2.2.1 x y
section
variable {K:SC} {mv:Value} {bl:Int} {idx:List Nat} {fn tot lim:Nat} {caps:Array Value} {Q:TkQ} {w W:World} {T F T1 F1:Nat->Prop} {E E1:DS} {Ms Ms1:List Mr} {rab rao hb k n lf:Nat} {f:Nat->Nat} {t:List Nat}
theorem MgG.rem (G:MgG K mv bl idx fn tot lim caps Q w T F E Ms rab rao):∀ r∈Kry Ms idx,∃ i m,i∈idx/\Ms[i]?=some m/\r=m.R.rem:=fun r hr=>by
 unfold Kry at hr;obtain⟨i,hi,rfl⟩:=Of0.1 hr;obtain⟨m,y⟩:=G.hM.ex i hi;exact⟨i,m,hi,y,by rw[y];rfl⟩
theorem MgG.rows (G:MgG K mv bl idx fn tot lim caps Q w T F E Ms rab rao):∀ x∈(Kry Ms idx).flatten,x<nR K.cs:=fun x y=>by
 obtain⟨r,hr,y⟩:=List.mem_flatten.1 y;obtain⟨i,m,hi,H,rfl⟩:=G.rem r hr;exact(G.hQ.si G.hq).rem_lt H (G.hh i m hi H).1 x y
theorem M2.start (G:MgG K mv bl idx fn tot lim caps Q w T F E Ms rab rao)(h:M1 K mv idx Q w T F Ms hb idx.length W E1 Ms1 f):M2 K mv idx Q w T F Ms hb tot W [] T F E1 Ms1 idx.length f:=
 ⟨h.q,h.ho,h.hp,Mgg.start h.std h.heap (by rw[h.rems]) (fun r hr=>by
  rw[h.rems]at hr;obtain⟨i,m,hi,y,rfl⟩:=G.rem r hr;exact(G.hh i m hi y).2.2),h.ml,h.fresh,by rw[h.rems];exact G.htot,G.hlen⟩
theorem M2.done (G:MgG K mv bl idx fn tot lim caps Q w T F E Ms rab rao)(h:M2 K mv idx Q w T F Ms hb lf W t T1 F1 E1 Ms1 0 f):Kyh K mv bl idx lim Q w T F Ms (.returned .nilIface) W:=
 ⟨T1,F1,E1,Ms1,h.ml,G.hQ.si h.q,.inl ⟨rfl,by rw[<-h.mg.done G.hK.sg.ord];exact h.q⟩⟩
theorem M2.step (G:MgG K mv bl idx fn tot lim caps Q w T F E Ms rab rao)(h:M2 K mv idx Q w T F Ms hb lf W t T1 F1 E1 Ms1 n f)(bK:1<=n):
  ∃ bN cap r hv,W.cell? (Aq hb)=some (Sq bN n cap)/\W.cell? (Aq bN)=some (Pq r)/\W.cell? (Ar r 2)=some hv/\Cq 130 #[hv,iZ,Iq 1] W fun e bi=>∃ cv,e=.returned (Sq cv K.cs.length K.cs.length) /\
   Cq fn (#[Sq cv K.cs.length K.cs.length]++caps) bi fun e bV=>(∃ b,e=.returned (Ip 149 b)/\Kyh K mv bl idx lim Q w T F Ms e bV)\/(e=.returned .nilIface /\
    Cq 213 #[Pq K.sb,Pq r] bV fun e U=>(e=.returned (.tuple #[.bool true,.nilIface])/\Cq 215 #[Pq hb] U fun e H=>e=.returned (.tuple #[])/\∃ Y bh,bh<lf/\M2x K mv idx Q w T F Ms hb Y bh H) \/
     (e=.returned (.tuple #[.bool false,.nilIface])/\Cq 216 #[Pq hb] U fun e H=>e=.returned (.tuple #[])/\∃ Y bh,bh<lf/\M2x K mv idx Q w T F Ms hb Y bh H)):=by
 obtain⟨k,i,m,bI,bT,h0,bG,cJ⟩:=h.mg.top G.hK.sg.ord bK;have bJ:i∈idx:=Of6 bI;have dd:=Of6 bT;have hs:=G.hQ.si h.q;have bU:=hs.runs m dd;obtain⟨bN,cap,bY⟩:=h.hp.at_ bK;obtain⟨x,hl,bH⟩:∃ x l,m.R.held=x::l:=by
  cases he:m.R.held with
  |nil=>exact absurd he bG
  |cons x l=>exact⟨x,l,rfl⟩
 have cG:m.R.rem=x::(hl++(m.R.bs.map (·.ids)).flatten):=by unfold Rn.rem;rw[bH];rfl
 have ca:=Kso bI bT;have dg:=h.mg.mrg.perm.length_eq;rw[Oa8,G.htot]at dg;have dv:=h.left;have dy:=G.ht;have du:m.R.rem.length<=(Kry Ms1 idx).flatten.length:=(List.sublist_flatten_of_mem (Of6 ca)).length_le;have dx:1<=m.R.rem.length:=by rw[cG];simp
 have dl:x<nR K.cs:=G.rows x (h.mg.mrg.perm.mem_iff.1 (List.mem_append_right _ (List.mem_flatten.2 ⟨_,Of6 ca,by rw[cG];exact Of4⟩)));have cZ:m.R.held.length<=100000:=by
  have:m.R.held.length<=m.R.rem.length:=by unfold Rn.rem;rw[Oa8];omega
  omega
 have bE:m.R.held.headD 0=x:=by rw[bH];rfl
 rcases bU.1.held with⟨e,_⟩|⟨_,gb,cN,gc,da,hC,ds,cP⟩
 ·exact absurd e bG
 refine⟨bN,cap,m.rb,m.hv,(Ksr bY.st).1,by rw[h0];exact bY.cell 0 zo,bU.1.fields.2.2.1,?_⟩;rw[da];have cA:=Kdx gb gc cN (Jba m.R.held K.cs) m.R.held.length 0 1 W hC (fun j bj=>Kr0 m.R.held (by rw[Krw]at bj;exact bj)) zo (by rw[bH];simp) (by rw[Krw];exact G.hK.sg.good.few);rw[Krw,Ktg,show (m.R.held.take 1).drop 0=[x] by rw[bH];rfl]at cA;refine Calls.mono cA ?_;rintro e bi ⟨bD,rfl,cy⟩;refine⟨W.heap.size,rfl,?_⟩;have cD:Ju (fun _=>False) W bi:=Ju.of_below bD;have dh:Q t T1 bi F1 E1 Ms1:=G.hQ.keep h.q cD (fun _ h=>h.elim) (fun h=>h.elim) (fun _ _ h=>h.elim) (fun _ _ h=>h.elim) (fun _ _=>⟨fun h=>h.elim,fun _ _ h=>h.elim⟩) (fun _ _ h=>h.elim);have cj:=bD.size;have df:=G.hQ.off h.q;have cY:hb<W.heap.size:=Jd bY.st;have cQ:HpP bi hb K.sb n f:=h.hp.on cj fun k bk=>bD.block k (h.ho k bk).1.lt;have bX:∀ k,HpF bi hb k->HpF W hb k:=fun k bk=>HpF.back (bD.block hb cY) bk;have bQ:HpO K bi F1 Ms1 mv T1 hb:=h.ho.turn hs (G.hQ.lt h.q) (Ju.of_below bD) (fun k bk=>Oc2 (h.ho k (bX k bk)).1.lt cj) fun k bk=>.inl (bX k bk);have cU:=cy.row.lt;refine Calls.mono (G.hQ.take dh zo dl cy ⟨⟨cU,fun e=>?_⟩,fun j bj b o e=>?_⟩) ?_
 ·rcases e with e|e
  ·exact Oe3 _ (hs.flt _ e)
  exact Oe3 _ (G.hQ.lt h.q _ e)
 ·have bZ:m.N b:=by
   rcases hC.vals j (by rw[Krw];exact bj)with h0|⟨ab,ao,ha,_,_⟩
   ·have:=Kr0 m.R.held bj;rw[h0,bH]at this;simp at this
   ·rw[Jmn bj ha e];exact cP j ab ao bj ha
  exact⟨Oc2 (bU.1.lt b bZ) cj,fun e=>e.elim (bU.2.2 b bZ) ((df.2.2.2 i m bJ bT).2 b bZ)⟩
 rintro e bV ⟨cu,cn,cL,Z,br,cW⟩;have db:=h.ml.turn cD fun _ h=>h.elim;have cE:=db.took br;rcases cW with⟨rfl,cF⟩|⟨dq,b,rfl,cT,dt,de,dj,cV⟩
 ·refine .inr ⟨rfl,?_⟩;have cH:=G.hQ.si cF;have I:Z[i]?=some m:=(br.same i bJ).trans bT;obtain⟨bR,cR⟩:=bQ.took cQ br;have O:=h.mg.same br.same fun i j dm dp a b c=>(cH.sep i j dm dp a b c).1;have hrs:Kry Z idx=Kry Ms1 idx:=Ku1 br.same;rw[bE]at cJ;have cK:∀ r,m.R.rem=m.R.held.headD 0::r->Mrg (Kr6 K.ks K.cs) (Kry Ms idx).flatten (t++[m.R.held.headD 0]) ((Kry Z idx).set k r):=fun r hr=>by
   rw[hrs,bE];rw[bE]at hr;exact cJ r hr
  refine Calls.mono (cH.next G.hK I cZ) ?_;rintro e U ⟨b,bB,cM,rfl,M⟩;have ci:=G.hQ.next cF bJ I M;have cI:=G.hQ.si ci;obtain⟨bS,cS⟩:=bR.next cR M I;have dc:=cE.next M I bJ;have cO:=O.mg.next M I;have cz:=bS.ahOk cI G.hK cO;obtain⟨bC,bO,bx⟩:=cS.at_ bK;have di:m.R.rem=x::bB.R.rem:=by rw[<-bE];exact M.tail bG
  have hlen:(Kry (Z.set i bB) idx).flatten.length<lf:=by
   rw[Kto O.mg.nd bI I,hrs];have:=(Ktt (Kry Ms1 idx) k (ca.trans (by rw[di]))).length_eq;rw[List.length_cons]at this;omega
  have cB:∀ k,HpF U hb k->w.heap.size<=k:=fun x y=>h.fresh x (bX x (HpF.back ((M.keep.block hb (bR hb (.inl rfl)).1.lt fun e=>e.elim (bR hb (.inl rfl)).1.nf fun e=>((bR hb (.inl rfl)).1.ms m (Of6 I)).1 e.symm).trans (br.keep.block hb (bQ hb (.inl rfl)).1.lt fun e=>e.elim (bQ hb (.inl rfl)).1.nf (bQ hb (.inl rfl)).2)) y));have fin:∀ H bM bf,bM<=n->Ju (HpG hb bC) U H->Ksa H hb bC K.sb bM bO bf->Mgg (Kr6 K.ks K.cs) (Kry Ms idx).flatten (t++[m.R.held.headD 0]) (Z.set i bB) idx bM bf->∃ Y bh,bh<lf/\M2x K mv idx Q w T F Ms hb Y bh H:=fun H bM bf dw bA bz cX=>by
   have cc:Ju (HpF U hb) U H:=bA.mono fun x _ y=>(bx.foot x).2 y;have cb:∀ x,HpF H hb x->HpF U hb x:=fun x y=>(bx.foot x).2 ((bz.foot x).1 y);have cC:=h.few;refine⟨bM,_,hlen,t++[x],cu,cn,cM,Z.set i bB,bf,⟨bS.keepQ G.hQ ci cc,bS.turn cI (G.hQ.lt ci) cc (fun x y=>Oc2 (bS x (cb x y)).1.lt bA.size) fun x y=>.inl (cb x y),.inr ⟨bC,bO,bz⟩,by rw[<-bE];exact cX,dc.turn cc cB,fun x y=>cB x (cb x y),rfl,zo⟩⟩
  cases b with
  |true=>
   refine .inl ⟨rfl,?_⟩;have bL:=O.toStd.next_yes M I bJ bK h0;have cC:=h.few;refine Calls.mono (Kvu hb bC K.sb n bO f (Ksd (Z.set i bB)) _ (Kr6 K.ks K.cs) G.hK.sg.ord U bx zo bL.at_ (cz.less fun x y=>(bx.foot x).2 y) (O.hp.turned (Oa2 _) fun j bP cx=>O.toStd.key_far M.rb I h0 bP cx) bL.keys) ?_;rintro e H ⟨rfl,bA,bf,bz,bW,cf,_⟩;exact⟨rfl,fin H n bf (Oa2 _) bA bz (O.yes bK bI I h0 bG M cK bW cf)⟩
  |false=>
   refine .inr ⟨rfl,?_⟩;obtain⟨Y,rfl⟩:∃ Y,n=Y+1:=⟨n-1,zo⟩;have bL:=O.toStd.next_no M I h0;have cC:=h.few;refine Calls.mono (Kzm hb bC K.sb Y bO f (Ksd (Z.set i bB)) _ (Kr6 K.ks K.cs) G.hK.sg.ord U bx zo bL.at_ (cz.less fun x y=>(bx.foot x).2 y) (fun j bP cx dr=>?_) bL.keys) ?_
   ·rw[O.toStd.key_far M.rb I h0 zo zo,O.toStd.key_far M.rb I h0 bP zo];exact O.hp j bP zo
   rintro e H ⟨rfl,bA,bf,bz,bW,cf,_⟩;exact⟨rfl,fin H Y bf zo bA bz (O.no bI I h0 bG M cK bW cf)⟩
 have:=h.ml.keep.size;exact .inl ⟨b,rfl,cu,cn,cL,Z,cE,br.si,.inr ⟨dq,b,rfl,cT,zo,de,dj,cV⟩⟩
end
theorem Kux {y mv bl idx fn bB lim bG}{Q:TkQ}{w T F E H bK bL}(G:MgG y mv bl idx fn bB lim bG Q w T F E H bK bL)bX:
  Cq 172 #[Pq y.sb,Sr bK bL idx.length bX,.func (.func fn) #[] bG] w (Kyh y mv bl idx lim Q w T F H):=by
 have Y:=zh G;have bi:Hid (M1 y mv idx Q w T F H w.heap.size 0 (w.alloc (.cells #[Sz,ahV y.sb] 375)) E H fun _=>0):=M1.start G;unfold ahV at bi;have hlen:=G.hlen;have bT:=G.ent;clear G;go_enter func172,ntmps172
 go_upto_region 2 with fail
 generalize w.alloc (.cells #[Sz,.func (.func 212) #[Pq y.sb] #[]] 375)=ca at *;go_wp2;go_loopw [22] (fun iv wr=>∃ k:Nat,iv=Iq k/\k<=idx.length/\Hid (∃ U Z f,M1 y mv idx Q w T F H w.heap.size k wr U Z f)) (fun iv _=>idx.length-(intOf iv).toNat)
 case atStart=>exact⟨0,rfl,Ob7 _,⟨_,_,_,bi.out⟩⟩
 case round=>
  clear bi;rename_i iv
  obtain⟨k,rfl,cj,bf⟩:=hrel;by_cases bU:k<idx.length
  ·obtain⟨U,Z,f,I⟩:=bf.out;obtain⟨r,bS,M⟩:=I.step Y.out bU;unfold rpV at bS;have cn:(k:Int)<(idx.length:Int):=zo;have bO:=Krx (M);clear M I;go_wp2_with (first|(go_at_call 213;refine bO.out.mono ?_;rintro e bP ⟨b,rfl,bH⟩;have bh:=Krx (bH);clear bH)|(go_at_call 214;refine bh.out.mono ?_;rintro e bQ ⟨rfl,bN⟩))
   go_roundw
   case rel=>exact⟨k+1,zn,zo,bN⟩
   case measure=>simp[intOf];omega
  obtain rfl:k=idx.length:=zo;obtain⟨U,Z,f,I⟩:=bf.out;have bD:Hid (M2x y mv idx Q w T F H w.heap.size idx.length bB wr):=⟨_,_,_,_,_,_,M2.start Y.out I⟩;clear bf I;go_wp2;go_loopg [] bB (fun bW wr=>Hid (∃ n,M2x y mv idx Q w T F H w.heap.size n bW wr))
  case atStart=>exact⟨_,bD.out⟩
  case round=>
   clear bD;obtain⟨n,t,bZ,bY,U,Z,f,K⟩:=hrel.out;by_cases bV:n=0
   ·subst bV;obtain⟨a,cap,ci⟩:=K.hp.len;have bM:=Krx (K.done Y.out);clear K hrel;go_wp2;go_ret
    exact bM.out
   obtain⟨cc,cap,r,hv,c0,c1,c2,hcut⟩:=K.step Y.out zo;have cu:(0:Int)<(n:Int):=zo;have bC:=Krx (hcut);clear hcut K hrel;go_wp2_with (first|(go_at_call 130;refine bC.out.mono ?_;rintro e bP ⟨cf,rfl,bJ⟩;have bE:=Krx bJ;clear bJ)|(rw[bT]))
   refine bE.out.mono ?_;clear bE bC c0 c1 c2;rintro e bQ (⟨b,rfl,O⟩|⟨rfl,M⟩)
   ·have bh:=Krx O;clear O;go_wp2;go_ret
    exact bh.out
   have bj:=Krx M;clear M;go_wp2_with fail
   go_wp2_with (go_at_call 213;refine bj.out.mono ?_)
   rintro e cb (⟨rfl,bI⟩|⟨rfl,O⟩)
   ·have bk:=Krx bI;clear bI bj;go_wp2_with (go_at_call 215;refine bk.out.mono ?_;rintro e bR ⟨rfl,bA,bz,br,bx⟩)
    go_roundg bz
    case rel=>exact⟨bA,bx⟩
    case measure=>exact br
   have bk:=Krx O;clear O bj;go_wp2_with (go_at_call 216;refine bk.out.mono ?_;rintro e bR ⟨rfl,bA,bz,br,bx⟩)
   go_roundg bz
   case rel=>exact⟨bA,bx⟩
   case measure=>exact br
def nwX (n k:Nat):List Nat:=(List.range k).map (n+·)
def nwL (y:List (List Nat))(H:List (Nat×Nat)):List (List Nat):=H.map fun x=>((y.drop x.1).take x.2).flatten
structure NwI (K:SC) (w:World) (E:DS) (Ms0:List Mr) (idx:List Nat) (Ls:List (List Nat)) (g0 c0 z bu pr L:Nat) (pre:List (Nat×Nat)) (W:World) (F':Nat->Prop) (E':DS) (Ms:List Mr) (mv rv:Value):Prop where
 si:SI K W F' E' Ms mv (z:Int)
 len:Ms.length=Ms0.length+pre.length
 pr_:pre=cks idx.length bu pre.length
 rd0:Rdy K Ms idx Ls (pre.length*bu)
 rd1:Rdy K Ms (nwX Ms0.length pre.length) (nwL Ls pre) 0
 rv:Rv K W F' Ms mv L (w.heap.size+3) rv ((nwX Ms0.length pre.length).map (Ks8 Ms))
 old:∀ i∈idx,Ks8 Ms i=Ks8 Ms0 i
 own:Jo W K.w0.heap.size 365 (Sq g0 idx.length c0) ((idx.map (Ks8 Ms0)).map rpV)
 no:NoS K W F' Ms mv g0
 nb:∀ k,w.heap.size<=k->k<L->NoS K W F' Ms mv k
 b0:W.cell? (Aq w.heap.size)=some (Pq K.sb)
 b1:W.heap[w.heap.size+1]?=some (.cells #[Sz] 323 (0,0))
 b2:W.heap[w.heap.size+2]?=some (.cells #[.nilIface] 77 (0,0))
 size:L<=W.heap.size
 pgs:dz E'<=dz E+pr*(Ls.take (pre.length*bu)).flatten.length
 fcl:∀ k,F' k->L<=k->∃ o:Obj,W.heap[k]?=some o/\o.isCells=true
def NwG (H:SC)(w:World)(y:Nat->Prop)(mv:Value)(I:List Mr)(K:List Nat):Nat->Prop:=fun k=>k=H.sb\/mv.ownBlock=some k\/y k\/MgB I K k\/k=w.heap.size
structure NwM (K:SC) (w:World) (idx:List Nat) (Ms0:List Mr) (g0 c0 z L:Nat) (pre:List (Nat×Nat)) (jdx:List Nat) (W:World) (F':Nat->Prop) (Ms:List Mr) (mv rv:Value) (W3:World) (F3:Nat->Prop) (E3:DS) (Ms3:List Mr) (mv3:Value):Prop where
 si:SI K W3 F3 E3 Ms3 mv3 (z:Int)
 rv:Rv K W3 F3 Ms3 mv3 L (w.heap.size+3) rv ((nwX Ms0.length pre.length).map (Ks8 Ms))
 own:Jo W3 K.w0.heap.size 365 (Sq g0 idx.length c0) ((idx.map (Ks8 Ms0)).map rpV)
 no:NoS K W3 F3 Ms3 mv3 g0
 nb:∀ k,w.heap.size<=k->k<L->NoS K W3 F3 Ms3 mv3 k
 b1:W3.heap[w.heap.size+1]?=some (.cells #[Sz] 323 (0,0))
 b2:W3.heap[w.heap.size+2]?=some (.cells #[.nilIface] 77 (0,0))
 keep:Ju (NwG K w F' mv Ms jdx) W W3
structure NwD (K:SC) (w:World) (Ls:List (List Nat)) (pr b8:Nat) (pre:List (Nat×Nat)) (jdx:List Nat) (f c:Nat) (W:World) (E':DS) (Ms:List Mr) (W3:World) (E3:DS) (Ms3:List Mr):Prop where
 c0:W3.cell? (Aq w.heap.size)=some (Pq K.sb)
 c8:W3.cell? (Aq b8)=some (Pq W.heap.size)
 len:Ms3.length=Ms.length+1
 same:∀ i,i∉jdx->i<Ms.length->Ms3[i]?=Ms[i]?
 new:∃ m3,Ms3[Ms.length]?=some m3/\m3.rb=W.heap.size/\m3.R.place=pre.length/\m3.R.held=[]/\m3.R.rem=Ksi (Kr6 K.ks K.cs) ((Ls.drop f).take c).flatten
 rbs:∀ i,i<Ms.length->Ks8 Ms3 i=Ks8 Ms i
 pgs:dz E3<=dz E'+pr*((Ls.drop f).take c).flatten.length
theorem Kur {y i m}(h:y[i]?=some m):Ks8 y i=m.rb:=by unfold Ks8;rw[h];rfl
theorem Qaa {y H}(h:H.map (·.rb)=y.map (·.rb))i:Ks8 H i=Ks8 y i:=by
 unfold Ks8;rw[<-Ob1,<-Ob1,h]
theorem Ktq {y:List Mr}{m:Mr}{i:Nat}(h:i<y.length):(y++[m])[i]?=y[i]?:=Ob0 h
section
variable {K:SC} {w W:World} {F':Nat->Prop} {E E':DS} {Ms0 Ms:List Mr} {idx:List Nat} {Ls:List (List Nat)} {g0 c0 z bu pr L:Nat} {pre:List (Nat×Nat)} {mv rv:Value}
theorem NwI.idx_lt (h:NwI K w E Ms0 idx Ls g0 c0 z bu pr L pre W F' E' Ms mv rv){j i}(y:pre.length*bu<=j)(hi:idx[j]?=some i):i<Ms.length:=by
 obtain⟨m,H,_⟩:=h.rd0.run j i _ y hi (Oa3 (by rw[h.rd0.len];exact(Ob9.1 hi).1));exact(Ob9.1 H).1
theorem zaF {p:Prop}(h:p:=by
 rcases Z.own with e|⟨cu,e,hl⟩
 ·exact .inl (e.symm.trans I)
 exact .inr (by have:=Oj6 (e.symm.trans I);omega)):p:=h
theorem NwI.step (hK:SK K)(h:NwI K w E Ms0 idx Ls g0 c0 z bu pr L pre W F' E' Ms mv rv)(cY:w.heap.size+6<=L)(de:g0<w.heap.size)(cS:1<=z)(cT:z<=64)(cM:∀ x,x<nR K.cs->(Qu (Kr4 K.ts (Jba [x] K.cs) K.ts.length)).length<=pr){f c}(cN:pre++[(f,c)]=cks idx.length bu (pre.length+1))(dd:f+c<=idx.length)(db:1<=c)(df:idx.length<=100000)(cy:Ms.length<=900000)(cE:∀ i∈idx,i<Ms0.length)(da:dz E+pr*Ls.flatten.length<=930000)(cZ:Ls.flatten.length<=100000){U}(bk:U=(idx.drop f).take c):
  Cq 247 #[Pq K.sb,Iq (pre.length:Nat)] W fun e H=>e=.returned (Pq W.heap.size)/\H.cell? (Aq w.heap.size)=some (Pq K.sb)/\∀ X,Bq H X->X.heap[H.heap.size]?=some (.cells #[Pq W.heap.size] 365 (0,0)) ->
   Cq 172 #[Pq K.sb,Sr g0 f c c,.func (.func 250) #[] #[Pq w.heap.size,Pq H.heap.size]] X fun e bx=>∃ bi bB bj cU,NwM K w idx Ms0 g0 c0 z L pre U W F' Ms mv rv bx bi bB bj cU /\
    ((e=.returned .nilIface/\NwD K w Ls pr H.heap.size pre U f c W E' Ms bx bB bj/\(∀ k,bi k->F' k\/W.heap.size<=k))\/∃ Y b,e=.returned (Ip 149 b)/\Yu bx (Ip 149 b) (if Y=true then K.q else K.qw) none (some (-1))/\W.heap.size<=b/\¬ bi b/\Ksy K.D0 Y/\dz bB<=dz E+pr*Ls.flatten.length):=by
 have dl:=h.size;have ca:=hK.sg.ord;have bU:f=pre.length*bu:=by
  have e:=cN;rw[Jbj]at e;have:=(List.append_inj_right' e rfl);simp[Jaa]at this;exact this.1
 have cH:U.length=c:=by rw[bk];simp;omega
 have bZ:∀ i∈U,i<Ms.length/\i<Ms0.length:=fun i hi=>by
  rw[bk]at hi;obtain⟨q,hq,e⟩:=Od5 (Om9 hi);rw[List.getElem_drop]at e;have cb:idx[f+q]?=some i:=by rw[Oa3 (by rw[Of7]at hq;omega),e]
  exact⟨h.idx_lt zo cb,cE i (Of6 cb)⟩
 have cO:Rdy K Ms idx Ls f:=by rw[bU];exact h.rd0
 refine(h.si.add hK cy pre.length).mono ?_;rintro e H ⟨rfl,M,Z⟩;have di:=Z.keep.size;have dh:W.heap.size<H.heap.size:=Jd (Z.sw.si.runs _ (Of6 Z.sw.at_)).1.cells;have cf:∀ k,NoS K W F' Ms mv k->¬ (k=K.sb\/mv.ownBlock=some k):=fun k y e=>e.elim y.sb y.mv;have cV:∀ (X:World) k,W.heap.size<=X.heap.size->NoS K W F' Ms mv k->NoS K X F' (Ms++[Ksj W.heap.size pre.length]) M k:=fun X k bz y=>y.step bz (fun k y=>.inl y) (fun x bh=>by
  rcases Od2.1 bh with bh|bh
  ·exact⟨.inr ⟨x,bh,rfl⟩,fun k y=>.inl ⟨x,bh,y⟩⟩
  ·rw[Oc6.1 bh];exact⟨.inl (Oa2 _),fun k y=>y.elim⟩) fun g I=>by
  exact zaF
 have bL:=h.nb w.heap.size (Oa2 _) zo;have bO:H.cell? (Aq w.heap.size)=some (Pq K.sb):=(Oc3 (Z.keep.block _ bL.lt (cf _ bL))).trans h.b0;refine⟨rfl,bO,fun X bz bS=>?_⟩;have dj:=bz.size;have cB:H.heap.size<X.heap.size:=Jd bS;have cW:SW K X F' E' (Ms++[Ksj W.heap.size pre.length]) M (z:Int) Ms.length (Ksj W.heap.size pre.length):=Z.sw.keep (G:=fun _=>False) (Ju.of_below bz) (fun _ h=>h.elim) id (fun _ _=>id) (fun _ _=>id) (fun _ _=>⟨id,fun _ _=>id⟩);have bX:Ju (fun k=>k=K.sb\/mv.ownBlock=some k) W X:=Z.keep.trans' (Ju.of_below (F:=fun _=>False) bz) fun _ _ e=>e.elim;have cj:∀ k,NoS K W F' Ms mv k->NoS K X F' (Ms++[Ksj W.heap.size pre.length]) M k:=fun k y=>cV X k zo y;have bN:∀ k v,NoS K X F' (Ms++[Ksj W.heap.size pre.length]) M k->X.cell? (Aq k)=some v->Bx K X F' (Ms++[Ksj W.heap.size pre.length]) M k v:=fun k v y hv=>⟨hv,y.sb,y.mv,y.nf,y.ms⟩;have cJ:NoS K X F' (Ms++[Ksj W.heap.size pre.length]) M H.heap.size:=Z.sw.si.noS (Oa2 _) cB;have bH:Rdy K (Ms++[Ksj W.heap.size pre.length]) idx Ls f:=cO.same (Oa2 _) fun j i bG hi=>Ktq (h.idx_lt zo hi);obtain⟨O,htot⟩:∃ O,O=((Ls.drop f).take c).flatten.length:=⟨_,rfl⟩;have bT:=bH.cnt bk;rw[<-htot]at bT;have cQ:(Ls.take f).flatten.length+O<=Ls.flatten.length:=by
  rw[htot,<-Oa8,<-List.flatten_append];have e:Ls.take f++(Ls.drop f).take c=Ls.take (f+c):=(List.take_add ..).symm;rw[e];exact(Kun (List.take_sublist _ _)).length_le
 have cL:=h.pgs;rw[<-bU]at cL;have dg:pr*(Ls.take f).flatten.length+pr*O<=pr*Ls.flatten.length:=by rw[<-Nat.mul_add];exact Nat.mul_le_mul_left _ cQ
 have cA:=NrQ.ok K hK M z Ms.length W.heap.size w.heap.size H.heap.size pr O (dz E'+pr*O) zo U (Ms++[Ksj W.heap.size pre.length]) pre.length cS cT (fun e=>by have:=(bZ _ e).1;omega) zo cM;have hq:NrQ K M z Ms.length W.heap.size w.heap.size H.heap.size pr O (dz E'+pr*O) U (Ms++[Ksj W.heap.size pre.length]) pre.length [] (NrT w.heap.size H.heap.size (Ksj W.heap.size pre.length)) X F' E' (Ms++[Ksj W.heap.size pre.length]):=
  ⟨_,cW,rfl,rfl,rfl,rfl,bN _ _ (cj _ bL) (Ja bz bO),bN _ _ cJ (by simp[World.cell?,bS]),Oa2 _,fun _ _ _=>rfl⟩
 have ci:∀ k,k<W.heap.size->k≠w.heap.size->¬ NrT w.heap.size H.heap.size (Ksj W.heap.size pre.length) k:=fun k y bD e=>by
  rcases e with e|e|e|e
  ·exact bD e
  ·omega
  ·have:k=W.heap.size:=e;omega
  cases e
 have bK:=h.no.lt;have bV:=cj _ h.no;have bW:g0≠w.heap.size:=zo;have G:MgG K M (z:Int) U 250 O (dz E'+pr*O) #[Pq w.heap.size,Pq H.heap.size] (NrQ K M z Ms.length W.heap.size w.heap.size H.heap.size pr O (dz E'+pr*O) U (Ms++[Ksj W.heap.size pre.length]) pre.length) X (NrT w.heap.size H.heap.size (Ksj W.heap.size pre.length)) F' E' (Ms++[Ksj W.heap.size pre.length]) g0 f:=by
  refine⟨fun args V=>enters_of func250 zK rfl args V,hK,cA,hq,bH.mgIn bk,fun j i m bG bf=>?_,⟨bV.nf,ci g0 bK bW,fun ⟨i,m,hi,bf,e⟩=>(bV.ms m (Of6 bf)).1 e.symm⟩,bH.hh ca bk,bT,zo,zo⟩;have cG:j<c:=by have:=(Ob9.1 bG).1;omega
  have bC:idx[f+j]?=some i:=by
   rw[bk,Oh3 cG,Oh9]at bG;exact bG
  have cF:=h.idx_lt zo bC;obtain⟨a,cap,cn,bJ⟩:=h.own.cells;obtain⟨rfl,_,rfl⟩:(some (Aq g0)=a)/\_/\c0=cap:=by injection cn with a1 a2 a3;exact⟨a1,a2,a3⟩
  rcases bJ with e|⟨b,o,eb,_,bJ⟩
  ·rw[List.map_eq_nil_iff,List.map_eq_nil_iff]at e;rw[e]at bC;simp at bC
  injection eb with eb;injection eb with eb1 eb2;subst eb1 eb2;have:=bJ (f+j) (rpV (Ks8 Ms0 i)) (by rw[Ob1,Ob1,bC];rfl);rw[<-h.old i (Of6 bC)]at this;rw[Ktq cF]at bf;rw[Kur bf]at this;rw[Od0]at this;exact(Oc3 (bX.block g0 bK (cf _ h.no))).trans this
 have bY:=Kux G c;rw[cH]at bY;refine bY.mono ?_;rintro e bx ⟨cX,bi,bB,bj,bA,cP,cD⟩;have bP:∀ k,bi k->F' k\/W.heap.size<=k:=fun k y=>(bA.ffr k y).imp id fun e=>by omega
 have cz:∀ x∈bj,(W.heap.size<=x.rb\/∃ Y∈Ms,x.rb=Y.rb)/\∀ k,x.N k->(∃ Y∈Ms,Y.N k)\/W.heap.size<=k:=fun x bh=>by
  obtain⟨q,hq,e⟩:=Od5 bh;have cc:bj[q]?=some x:=by rw[Oa3 hq,e]
  obtain⟨Y,hy,bI⟩:=bA.new q x cc;have bM:=Qb5 bA.rbs cc hy;rcases Od2.1 (Of6 hy)with hy|hy
  ·exact⟨.inr ⟨Y,hy,bM⟩,fun k y=>(bI k y).imp (fun e=>⟨Y,hy,e⟩) fun e=>zo⟩
  rw[Oc6.1 hy]at bM bI;exact⟨.inl (by rw[bM];exact Oa2 _),fun k y=>(bI k y).elim (fun e=>e.elim) fun e=>.inr zo⟩
 have cI:∀ g,M.ownBlock=some g->mv.ownBlock=some g\/W.heap.size<=g:=fun g I=>by
  exact zaF
 have br:Ju (NwG K w F' mv Ms U) W bx:=(bX.mono fun k _ e=>e.imp id .inl).trans' bA.keep fun k y e=>by
  rcases e with e|e|⟨i,m,hi,bf,e⟩
  ·exact .inr (.inr (.inl e))
  ·exact .inr (.inr (.inr (.inr (Classical.byContradiction fun bD=>ci k y bD e))))
  rw[Ktq (bZ i hi).1]at bf;exact .inr (.inr (.inr (.inl ⟨i,m,hi,bf,e⟩)))
 have bE:∀ k,NoS K W F' Ms mv k->k≠w.heap.size->¬ NwG K w F' mv Ms U k:=fun k y bD e=>by
  rcases e with e|e|e|⟨i,m,hi,bf,e⟩|e
  ·exact y.sb e
  ·exact y.mv e
  ·exact y.nf e
  ·exact(y.ms m (Of6 bf)).1 e.symm
  exact bD e
 have n3:∀ k,NoS K W F' Ms mv k->NoS K bx bi bj M k:=fun k y=>y.step br.size bP cz cI;have bQ:=h.nb (w.heap.size+1) zo zo;have bR:=h.nb (w.heap.size+2) zo zo;refine⟨bi,bB,bj,M,⟨cP,⟨(br.block _ h.rv.nb.lt (bE _ h.rv.nb zo)).trans h.rv.box,Yd h.rv.own fun g I=>br.block g (h.rv.no g I).lt (bE g (h.rv.no g I) (by have:=(Je h.rv.own I).1;omega)),h.rv.bl,n3 _ h.rv.nb,fun g I=>n3 g (h.rv.no g I)⟩,Yd h.own fun g I=>by
   have e:g=g0:=by simpa [Value.ownBlock] using I.symm
   subst e;exact br.block g bK (bE g h.no bW),n3 _ h.no,fun k cv cx=>n3 k (h.nb k cv cx),(br.block _ bQ.lt (bE _ bQ zo)).trans h.b1,(br.block _ bR.lt (bE _ bR zo)).trans h.b2,br⟩,?_⟩
 rcases cD with⟨rfl,m3,hI⟩|⟨Y,b,rfl,cC,hb,cK,cR,dc⟩
 ·refine .inl ⟨rfl,⟨hI.x1.cell,hI.x2.cell,?_,fun i hi hl=>?_,⟨m3,hI.sw.at_,hI.rb,hI.pl,hI.sw.held.1,?_⟩,fun i hi=>?_,?_⟩,bP⟩
  ·have:=congrArg List.length bA.rbs;simpa using this
  ·exact(hI.oth i hi zo).trans (Ktq hl)
  ·unfold Rn.rem;rw[hI.sw.held.1,List.nil_append,<-List.flatMap_def,hI.ids];exact bH.all ca bk
  ·rw[Qaa bA.rbs];unfold Ks8;rw[Ktq hi]
  have:=hI.pgs;rw[htot]at this;omega
 exact .inr ⟨Y,b,rfl,cC,zo,cK,cR,zo⟩
end
end
section
open Go.RowKit Go.Shelf
theorem Qbs n k:nwX n (k+1)=nwX n k++[n+k]:=by unfold nwX;rw[Oj7,Ob8];rfl
theorem Kuh n k:(nwX n k).length=k:=by simp[nwX]
theorem Qcc {n k i}(h:i∈nwX n k):n<=i/\i<n+k:=by
 unfold nwX at h;obtain⟨j,y,rfl⟩:=Of0.1 h;have:=Oj4.1 y;omega
theorem Qcu {n k j i}(h:(nwX n k)[j]?=some i):j<k/\i=n+j:=by
 unfold nwX at h;rw[Ob1]at h;obtain⟨q,hq,rfl⟩:=Oe9.1 h;have hl:=(Ob9.1 hq).1;rw[Op1]at hl;rw[Oh6 hl]at hq;obtain rfl:=Oj6 hq;exact⟨hl,rfl⟩
theorem Qa2 n k:(nwX n k).Nodup:=by
 unfold nwX;rw[List.nodup_iff_pairwise_ne,List.pairwise_map];exact List.pairwise_lt_range.imp fun h=>by omega
theorem Qbp (y:List (List Nat))(f c:Nat):(y.take f).flatten++((y.drop f).take c).flatten=(y.take (f+c)).flatten:=by
 rw[<-List.flatten_append,List.take_add]
theorem Kuf y bu:∀ k,(nwL y (cks y.length bu k)).flatten=(y.take (k*bu)).flatten:=by
 intro k;induction k with
 |zero=>simp[cks,nwL]
 |succ k H=>
  unfold nwL at H |-;rw[Jbj,Ob8,List.flatten_append,H];simp only[Oe4,Oi4,List.flatten_cons,List.flatten_nil,Od7,Jaa];rw[Qbp,Nat.add_mul,Nat.one_mul];by_cases h:bu<=y.length-k*bu
  ·rw[Oj1 h]
  rw[Oc8 zo,Oc8 zo]
theorem CtX.of2 {y w W X H G O M mv U}{b z lim:Nat}(br:dz O<=lim)(bC:SI y W H O M mv (z:Int))(bE:NoS y W H M mv (w.heap.size+1))(bG:NoS y W H M mv (w.heap.size+2))(bk:Yu W (Ip 149 b) (if U=true then y.q else y.qw) none (some (-1)))(hb:w.heap.size+3<=b)(bB:¬ H b)(bD:Ksy y.D0 U)(K:Ju G W X)(Y:∀ k,G k->k=w.heap.size+1\/k=w.heap.size+2)(bi:X.heap[w.heap.size+1]?=some (.cells #[Sz] 323 (0,0)))(bj:X.heap[w.heap.size+2]?=some (.cells #[Ip 149 b] 77 (0,0))):CtX y w z lim X H O M mv U b:=by
 obtain⟨bh,bH⟩:=bk.disk_at;have I:∀ k,G k->NoS y W H M mv k:=fun k K=>(Y k K).elim (fun e=>e▸bE) fun e=>e▸bG;have Z:X.heap[b]?=W.heap[b]?:=K.block b (Jb0 bh) fun e=>by have:=Y b e;omega
 exact⟨bC.keep K (fun k K=>(I k K).lo) (fun e=>(I _ e).sb rfl) (fun g bz e=>(I _ e).mv bz) (fun k bx e=>(I _ e).nf bx) (fun m bf=>⟨fun e=>((I _ e).ms m bf).1 rfl,fun k bA e=>((I _ e).ms m bf).2 bA⟩),bi,bj,.disk b _ _ ((Oc3 Z).trans bh) ((Oc3 Z).trans bH),⟨hb,bB⟩,bD,br⟩
theorem NoS.less {H W F y I mv b}(h:NoS H W F I mv b)(hF:∀ k,y k->F k):NoS H W y I mv b:=⟨h.lt,h.lo,h.sb,h.mv,fun e=>h.nf (hF b e),h.ms⟩
section
variable {K:SC} {w W W3:World} {F' F3:Nat->Prop} {E E' E3:DS} {Ms0 Ms Ms3:List Mr} {idx jdx:List Nat} {Ls:List (List Nat)} {g0 c0 z bu pr L b8 f c:Nat} {pre:List (Nat×Nat)} {mv rv mv3:Value}
theorem NwI.gcl (h:NwI K w E Ms0 idx Ls g0 c0 z bu pr L pre W F' E' Ms mv rv)(M:K.sb<w.heap.size)(I:w.heap.size+6<=L):∀ k,NwG K w F' mv Ms jdx k->L<=k->∃ o:Obj,W.heap[k]?=some o/\o.isCells=true:=fun k y hl=>by
 rcases y with e|e|e|⟨i,m,_,H,e⟩|e
 ·omega
 ·exact Ktb h.si.own e
 ·exact h.fcl k e hl
 ·rw[e];exact⟨_,(h.si.runs m (Of6 H)).1.cells,rfl⟩
 omega
theorem NwM.fin (h:NwI K w E Ms0 idx Ls g0 c0 z bu pr L pre W F' E' Ms mv rv)(hM:NwM K w idx Ms0 g0 c0 z L pre jdx W F' Ms mv rv W3 F3 E3 Ms3 mv3)(H:NwD K w Ls pr b8 pre jdx f c W E' Ms W3 E3 Ms3)(bV:K.sb<w.heap.size)(bI:w.heap.size+6<=L)(cf:g0<w.heap.size)(bf:pre++[(f,c)]=cks idx.length bu (pre.length+1))(cc:f+c<=idx.length)(ca:1<=c)(bz:∀ i∈idx,i<Ms0.length)(bA:jdx=(idx.drop f).take c){bh M rv'}(bJ:Bq W3 bh)(U:Jo M L 365 rv' (((nwX Ms0.length pre.length).map (Ks8 Ms)++[W.heap.size]).map rpV))(Y:bh.grownBy M rv.ownBlock)(bH:rv'.ownBlock=rv.ownBlock\/rv'.ownBlock=some bh.heap.size):
  (∃ bG,NwI K w E Ms0 idx Ls g0 c0 z bu pr L (pre++[(f,c)]) (M.setCell (Aq (w.heap.size+3)) rv') bG E3 Ms3 mv3 rv')/\KeepsFrom L W (M.setCell (Aq (w.heap.size+3)) rv')/\Ju (fun k=>NwG K w F' mv Ms jdx k\/k=w.heap.size+3\/rv.ownBlock=some k) W (M.setCell (Aq (w.heap.size+3)) rv'):=by
 obtain⟨bU,y,bW⟩:=hM.rv.push hM.si bJ U Y bH;generalize M.setCell (Aq (w.heap.size+3)) rv'=bk at *;have bj:Ju (fun k=>NwG K w F' mv Ms jdx k\/k=w.heap.size+3\/rv.ownBlock=some k) W bk:=(hM.keep.mono fun k _ e=>.inl e).trans' y fun k _ e=>.inr e;have cn:=h.size;have cj:=bj.size;have hlen:=h.len;have bi:=h.rd0.len;have bK:f=pre.length*bu/\c=min bu (idx.length-pre.length*bu):=by
  have e:=bf;rw[Jbj]at e;have:=(List.append_inj_right' e rfl);simp[Jaa]at this;exact this
 have cb:c<=bu:=by have:=bK.2;omega
 have bZ:(pre.length+1)*bu=pre.length*bu+bu:=Of5 _ _;have I:(pre++[(f,c)]).length=pre.length+1:=zS;have bP:∀ i j,(pre.length+1)*bu<=j->idx[j]?=some i->i∉jdx:=fun i j Z hi O=>by
  rw[bA]at O;obtain⟨q,hq,e⟩:=Od5 O;rw[List.getElem_take,List.getElem_drop]at e;rw[Oc7]at hq;have bD:idx[f+q]?=some i:=by rw[Oa3 zo,e]
  have:=(List.getElem?_inj (Ob9.1 bD).1 h.rd0.nd).1 (bD.trans hi.symm);omega
 have bO:∀ i∈jdx,i<Ms0.length:=fun i hi=>by
  rw[bA]at hi;exact bz i (Oh7 (Om9 hi))
 have far:∀ k,w.heap.size<=k->k<w.heap.size+3->bk.heap[k]?=W3.heap[k]?:=fun k U Y=>y.block k (hM.nb k U zo).lt fun e=>by
  rcases e with e|e
  ·omega
  have:=(Je hM.rv.own e).1;omega
 have hcut:(Ls.take ((pre.length+1)*bu)).flatten=(Ls.take (pre.length*bu)).flatten++((Ls.drop f).take c).flatten:=by
  have:=Kuf Ls bu (pre.length+1);rw[bi,<-bf]at this;rw[<-this,<-Kuf Ls bu pre.length,bi,<-h.pr_];unfold nwL;rw[Ob8,List.flatten_append];simp
 have bL:(nwL Ls (pre++[(f,c)])).flatten=(Ls.take ((pre.length+1)*bu)).flatten:=by
  rw[bf,<-bi];exact Kuf Ls bu _
 have bE:(nwL Ls (pre++[(f,c)])).flatten.Sublist Ls.flatten:=by rw[bL];exact Kun (List.take_sublist _ _)
 obtain⟨m3,bC,bS,bQ,bN,bT⟩:=H.new;have bR:(nwX Ms0.length (pre.length+1)).map (Ks8 Ms3)=(nwX Ms0.length pre.length).map (Ks8 Ms)++[W.heap.size]:=by
  rw[Qbs,Ob8];congr 1
  ·exact Oj9 fun i hi=>H.rbs i (by have:=Qcc hi;omega)
  rw[Oe4,Oi4,<-hlen,Kur bC,bS]
 refine⟨⟨_,bW.narrow,by rw[H.len,I];omega,by rw[I];exact bf,?_,?_,?_,fun i hi=>(H.rbs i (by have:=bz i hi;omega)).trans (h.old i hi),Yd hM.own fun g bM=>?_,(hM.no.grown y.size).less fun k y=>y.1,fun k U Y=>((hM.nb k U Y).grown y.size).less fun k y=>y.1,(Oc3 (far w.heap.size (Oa2 _) zo)).trans H.c0,(far (w.heap.size+1) zo zo).trans hM.b1,(far (w.heap.size+2) zo zo).trans hM.b2,zo,?_,fun k y _=>y.2⟩,Ks1 bj fun k y hl=>?_,bj⟩
 ·rw[I];exact h.rd0.same zo fun j i Z hi=>H.same i (bP i j Z hi) (h.idx_lt zo hi)
 ·rw[I];refine⟨Qa2 _ _,by rw[Kuh];unfold nwL;rw[Oa6,I],h.rd0.inc.sublist bE,fun x bX=>h.rd0.low x (bE.subset bX),fun l hl=>?_,fun j i l _ Z hl=>?_⟩
  ·unfold nwL at hl;rw[Ob8]at hl;rcases Od2.1 hl with hl|hl
   ·exact h.rd1.ne l hl
   rw[Oc6.1 hl];have bx:f<Ls.length:=zo;have h0:=h.rd0.ne _ (Ob3 bx);intro e;have O:Ls[f]∈(Ls.drop f).take c:=Ok2.2 ⟨0,by rw[Oh3 zo,Oh9,Nat.add_zero,Oa3 bx]⟩;exact h0 (List.flatten_eq_nil_iff.1 e _ O)
  obtain⟨ci,rfl⟩:=Qcu Z;unfold nwL at hl;rw[Ob8]at hl;by_cases bB:j<pre.length
  ·rw[Ob0 (by rw[Oa6];exact bB)]at hl;obtain⟨m,O,br⟩:=h.rd1.run j (Ms0.length+j) l (Ob7 _) (by unfold nwX;rw[Ob1,Oh6 bB];rfl) hl;exact⟨m,(H.same _ (fun e=>by have:=bO _ e;omega) zo).trans O,br⟩
  obtain rfl:j=pre.length:=zo;rw[Ob6 (by rw[Oa6];exact Oa2 _),Oa6,Oe1]at hl;obtain rfl:=Oj6 hl;rw[<-hlen];exact⟨m3,bC,bQ,bN,bT⟩
 ·rw[I,bR];exact bU.less fun k y=>y.1
 ·have e:g=g0:=by simpa [Value.ownBlock] using bM.symm
  subst e;refine y.block g hM.no.lt fun e=>?_;rcases e with e|e
  ·omega
  have:=(Je hM.rv.own e).1;omega
 ·have br:=H.pgs;have bY:=h.pgs;rw[I,hcut,Oa8,Nat.mul_add];omega
 rcases y with e|e|e
 ·exact h.gcl bV bI k e hl
 ·omega
 exact Ktb h.rv.own e
theorem NwI.ck {H}(h:NwI K w E Ms0 idx Ls g0 c0 z bu pr L pre W F' E' Ms mv rv)(y:CK W H)(ho:Ju K.F0 K.w0 H):NwI K w E Ms0 idx Ls g0 c0 z bu pr L pre H F' E' Ms mv rv:=
 ⟨h.si.ck y ho,h.len,h.pr_,h.rd0,h.rd1,h.rv.ck y,h.old,Jxz h.own y,h.no.grown y.size,fun k I M=>(h.nb k I M).grown y.size,y.cell h.b0,y.cells _ _ _ _ h.b1,y.cells _ _ _ _ h.b2,Ob2 h.size y.size,h.pgs,fun k O hl=>y.isCells (h.fcl k O hl)⟩
theorem NwI.all (h:NwI K w E Ms0 idx Ls g0 c0 z bu pr L (cks idx.length bu (ckN idx.length bu)) W F' E' Ms mv rv)(bh:1<=bu)(bf:K.w0.heap.size<=L)(bi:Ls.flatten=List.range (nR K.cs)):
  Ks4 K z W F' E' Ms mv rv (nwX Ms0.length (ckN idx.length bu)) (nwL Ls (cks idx.length bu (ckN idx.length bu)))/\dz E'<=dz E+pr*Ls.flatten.length:=by
 have H:=h.rd0.len;have I:=h.rd1;have y:=h.rv;have hp:=h.pgs;rw[Jbp]at I y hp;have M:Ls.take (ckN idx.length bu*bu)=Ls:=Oc8 (by rw[H];exact Jcy bh);rw[M]at hp;refine⟨⟨h.si,I,?_,⟨y.own.1,y.own.2.imp id fun ⟨g,cap,O,U,Y,Z⟩=>⟨g,cap,O,U,Ob2 bf Y,Z⟩⟩,y.no⟩,hp⟩;rw[<-bi,<-H,Kuf,H,M]
end
end
open Go.RowKit Go.Shelf Tryz
attribute [local go_sem] Oc0
theorem zaI {p:Prop}(h:p:=by
 rcases h.own.2 with⟨_,h0⟩|⟨g,cap,_,e,_⟩
 ·rw[Oa6,Oa6]at h0;omega
 rw[Oa6,Oa6]at e;exact⟨g,cap,e⟩):p:=h
theorem Kwp y(hK:SK y)w F E K mv rv idx bI(z bu pr:Nat)(h:Ks4 y z w F E K mv rv idx bI)(fi:y.bu=(bu:Int))(bZ:1<=bu)(ca:bu<=50000)(ft:1<=z)(cM:z<=64)(dE:∀ x,x<nR y.cs->(Qu (Kr4 y.ts (Jba [x] y.cs) y.ts.length)).length<=pr)(fK:1<=idx.length)(dw:idx.length<=100000)(dj:K.length+idx.length<=900000)(fJ:nR y.cs<=50000)(dt:dz E+pr*nR y.cs<=930000):
  Cq 211 #[Pq y.sb,rv] w (Kzd y w z (ckN idx.length bu) (K.length+ckN idx.length bu) (dz E+pr*nR y.cs)):=by
 obtain⟨⟨_,_,s2⟩,_⟩:=h.si.st.field;rw[fi]at s2;have cL:=Jd h.si.st;have bx:y.w0.heap.size<=w.heap.size:=h.si.old.size;have dG:ckN idx.length bu<=idx.length:=Kg4 _ _ bZ;obtain⟨M,br,rfl⟩:∃ M br,rv=Sq M idx.length br:=by
  exact zaI
 have fk:idx.length<=br:=by
  rcases h.own.2 with⟨e,_⟩|⟨g,cap,fE,e,_,_,fc,_⟩
  ·cases e
  rw[Oa6,Oa6]at e fc;injection e with _ _ e;omega
 have du:=h.no M rfl;have dx:∀ i∈idx,i<K.length:=fun i hi=>by
  obtain⟨j,ci,e⟩:=Od5 hi;obtain⟨m,cJ,_⟩:=h.rd.run j i _ (Ob7 _) (by rw[Oa3 ci,e]) (Oa3 (by rw[h.rd.len];exact ci));exact(Ob9.1 cJ).1
 have di:bI.flatten.length=nR y.cs:=by rw[h.flat,Op1]
 have bH:=Krx h;have dW:=Krx dE;have bO:Hid (NoS y w F K mv M/\(∀ i∈idx,i<K.length)/\bI.flatten.length=nR y.cs/\dz E+pr*nR y.cs<=930000/\K.length+idx.length<=900000/\ckN idx.length bu<=idx.length):=⟨du,dx,di,dt,dj,dG⟩;clear h dE du dx di dt dj dG;refine(callsIn_wide (n:=3)).1 ?_;refine callsIn_of_wp_marks func211 rfl trivial ?_ rfl;simp only[ntmps211,Om3,List.length_cons,List.length_nil,Nat.reduceAdd,Nat.reduceSub,Ok9,Array.replicate_zero,Om4,Ol2,List.nil_append,List.cons_append];refine wpIn_wide.2 ?_;go_upto_region 1 with fail
 generalize dm:((w.alloc _).alloc _).alloc _=V;obtain⟨bE,bW,cD,cE,cc⟩:=Jur w _ _ _ V dm;clear dm;have dI:SI y V F E K mv (z:Int):=bH.out.si.keep (G:=fun _=>False) (Ju.of_below cc) (fun _ h=>h.elim) id (fun _ _=>id) (fun _ _=>id) (fun _ _=>⟨id,fun _ _=>id⟩);have cb:=Jc (Oa5 V.heap.size V) (.cells #[Sz] 323);have c0:(V.alloc (.cells #[Sz] 323)).cell? (Aq w.heap.size)=some (Pq y.sb):=Ja cb (by simp[World.cell?,bW]);have fz:(V.alloc (.cells #[Sz] 323)).cell? (Ar y.sb 2)=some (Iq (bu:Int)):=Ja cb (Ja cc s2);have ds:=fun X=>Kw8 (some (Aq M)) idx.length br bu bZ X;have bK:(V.alloc (.cells #[Sz] 323)).heap.size=w.heap.size+4:=by rw[Oa7,bE]
 have bX:=heap_alloc_new V (.cells #[Sz] 323);rw[bE]at bX;have cX:=Krx bE;clear bE s2;go_wp2_with (go_at_call 249;refine(ds _).mono ?_;rintro e bk ⟨rfl,bM⟩)
 clear ds c0 fz;have bE:=cX.out;try rw[bE]
 try rw[bK]
 generalize V.alloc (.cells #[Sz] 323)=bV at *;have Y:bk.heap.size=w.heap.size+6:=by rw[bM,Oa7,Oa7,bK]
 have ca:Bq bV bk:=by rw[bM];exact Jc (Jc (Oa5 _ _) _) _
 have db:bk.heap[w.heap.size+4]?=some (.cells #[Sq M idx.length br] 323 (0,0)):=by
  rw[bM,Oa9 _ _ _ (by rw[Oa7,bK];omega),<-bK];exact heap_alloc_new bV _
 have da:bk.heap[w.heap.size+4+1]?=some (.cells #[Iq (bu:Int)] 3 (0,0)):=by
  have:=heap_alloc_new (bV.alloc (.cells #[Sq M idx.length br] 323)) (.cells #[Iq (bu:Int)] 3);rw[Oa7,bK]at this;rw[bM];exact this
 have bN:=Jb cb ca;have cF:=Jb cc bN;have dc:=(bN.block _ (Jd bW)).trans bW;have dd:=(bN.block _ (Jd cD)).trans cD;have de:=(bN.block _ (Jd cE)).trans cE;have df:=(ca.block _ (Jd bX)).trans bX;have dH:SI y bk F E K mv (z:Int):=dI.keep (G:=fun _=>False) (Ju.of_below bN) (fun _ h=>h.elim) id (fun _ _=>id) (fun _ _=>id) (fun _ _=>⟨id,fun _ _=>id⟩);have bD:∀ k,w.heap.size<=k->k<w.heap.size+6->NoS y bk F K mv k:=fun k dZ fH=>bH.out.si.noS dZ zo;have dg:NwI y w E K idx bI M br z bu pr (w.heap.size+6) [] bk F E K mv Sz :=
  ⟨dH,rfl,rfl,by rw[List.length_nil,Oo9];exact bH.out.rd,⟨Qa2 _ _,rfl,List.Pairwise.nil,(fun x fr=>by cases fr),(fun l hl=>by cases hl),(fun j i l _ ci=>by simp[nwX]at ci)⟩,⟨df,Jo.nil _ _ _,zo,bD _ zo zo,fun g bi=>by simp[Value.ownBlock]at bi⟩,fun i _=>rfl,Jaw bH.out.own cF,bO.out.1.grown cF.size,bD,by simp[World.cell?,dc],dd,de,zo,zS,fun k bA hl=>by have:=bH.out.si.flt k bA;omega⟩
 have dU:=Krx dg;have hseq:=Kwy 2 zo (w.heap.size+4) (w.heap.size+4+1) M 0 idx.length br bu bZ zo dw fk bk (by simp[World.cell?,db]) (by simp[World.cell?,da]) (fun k=>k=w.heap.size+4\/k=w.heap.size+4+1) ⟨.inl rfl,.inr rfl⟩ (fun k bA=>zo);clear dg dc dd de df ca bN cF bW cD cE bX db da dH dI cb bD cc;rw[<-bM];clear bM bK cX bE;refine(wpIn_wide (n:=3)).1 ?_;refine Ktz rfl zo (gf:=287) (lb:=#[Pq (w.heap.size+4),Pq (w.heap.size+4+1)]) rfl trivial (enters_of func287 zK rfl)
  hseq (fun h k=>h.trans k) ?hKb (Oa5 _ _) (fun _=>rfl)
  (fun bf W=>∃ U bh O Z rv',NwI y w E K idx bI M br z bu pr (w.heap.size+6) bf W U bh O Z rv')
  (fun c bf W=>c=.ret/\∃ U bh O Z bC b,CtX y w z (dz E+pr*nR y.cs) W U bh O Z bC b)
  ?hI ?hIx ?hR ⟨F,E,K,mv,_,dU.out⟩ (fun x=>{tmps:=#[Pq y.sb,Sq M idx.length br,Pq w.heap.size,undef,Pq (w.heap.size+1),Pq (w.heap.size+1+1),Pq (w.heap.size+3),Sr M x.1 x.2 x.2,undef,undef,Sq M idx.length br,Pq y.sb,Pq y.sb,Pr y.sb 2,Iq (bu:Int),.func (.func 287) #[] #[Pq (w.heap.size+4),Pq (w.heap.size+4+1)],Sr M x.1 x.2 x.2,undef,undef,undef,undef,undef,undef,undef,undef,undef,undef,undef,undef,undef,undef,undef,undef],defers:=[]}) ?assign ?body ?done ?stop
 case hKb=>
  intro W l o fM hl ho _ _;exact⟨zS,fun k bA=>World.putObj_heap_other zo⟩
 case hI=>
  rintro s W cY row ⟨U,bh,O,Z,rv',h⟩ bi hr;exact⟨U,bh,O,Z,rv',h.ck (CK.of_grown bi fun r e=>(hr r e).2) (Krz h.si.old bi fun r e=>by have:=(hr r e).1;omega)⟩
 case hIx=>
  rintro c s W cY row ⟨fj,U,bh,O,Z,bC,b,h⟩ bi hr;exact⟨fj,U,bh,O,Z,bC,b,h.ck (CK.of_grown bi fun r e=>(hr r e).2) (Krz h.si.old bi fun r e=>by have:=(hr r e).1;omega)⟩
 case hR=>
  rintro x W cY row h bi hr;exact h
 case assign=>
  clear Y bx;intro l x W fA ff;gi_wp2
  exact ff
 case stop=>
  rintro D c bf W bP ⟨k,bA,cK⟩ ⟨rfl,U,bh,O,Z,bC,b,bL⟩ bY;have c1:W.cell? (Aq (w.heap.size+1))=some Sz :=by simp[World.cell?,bL.b1]
  have bJ:W.heap[w.heap.size+1+1]?=some (.cells #[Ip 149 b] 77 (0,0)):=bL.b2;have c2:=zc 0 bJ;have bU:=Krx bL;have I:Hid (y.w0.heap.size<=w.heap.size/\bk.heap.size=w.heap.size+6):=⟨bx,Y⟩;clear bL bJ cK bx Y;gi_wp2
  have bx:=I.out.1;have Y:=I.out.2;have bG:∀ r,some D=some r->∃ o:Obj,W.heap[r]?=some o/\o.isCells=false:=fun r e=>by cases e;exact⟨_,bY,rfl⟩
  refine⟨zS,.inl ⟨_,_,rfl,run_takeDeferred bY,?_⟩⟩;have bB:=grownBy_putObj' W D (.deferred none);have cO:=cell_kept c1 bB bG;have cP:=cell_kept c2 bB bG;have cG:=CK.of_grown bB bG;refine⟨.tuple #[Sz,Ip 149 b],by simp[results,Tryz.f211,go_sem,cO,cP],?_⟩;have h:=bU.out.ck cG (Krz bU.out.si.old bB fun r e=>by cases e;omega);exact .inr ⟨U,bh,O,Z,bC,b,rfl,h.si,h.ch,by have:=h.bn.1;omega,h.bn.2,h.why,h.pgs⟩
 case done=>
  rintro D fQ W bP dN ⟨U,bh,O,Z,rv',hI⟩ bY;rw[dN]at hI;obtain⟨cQ,cR,bz,rc,bT⟩:=hI.rv.cell;rw[Oa6,Kuh,Jbp]at bT;subst bT;have c1:W.cell? (Aq (w.heap.size+1))=some Sz :=by simp[World.cell?,hI.b1]
  have g1:W.frozen? ⟨w.heap.size+1,0,none⟩=false:=by simp[World.frozen?,hI.b1]
  have bJ:W.heap[w.heap.size+1+1]?=some (.cells #[.nilIface] 77 (0,0)):=hI.b2;have c2:=zc 0 bJ;have g2:W.frozen? ⟨w.heap.size+1+1,0,none⟩=false:=by simp[World.frozen?,bJ]
  have bU:=Krx hI;have I:Hid (y.w0.heap.size<=w.heap.size/\bk.heap.size=w.heap.size+6/\y.sb<w.heap.size):=⟨bx,Y,cL⟩;generalize fp:ckN idx.length bu=q at *;clear hI bJ dN bx Y;go_wp2_with fail
  have bx:=I.out.1;have Y:=I.out.2.1;have h:=bU.out;have dh:=((KeepsOthers.setCell W ⟨w.heap.size+1,0,none⟩ (.slice bz q rc)).trans (KeepsOthers.setCell _ ⟨w.heap.size+1+1,0,none⟩ .nilIface)).same D _ bY rfl;subst fp;have dq:=h.all bZ zo bH.out.flat;have dl:=dq.1.keep (G:=fun k=>k=w.heap.size+1\/k=w.heap.size+1+1) (Ju.set (F:=fun k=>k=w.heap.size+1\/k=w.heap.size+1+1) (Ju.set (F:=fun k=>k=w.heap.size+1\/k=w.heap.size+1+1) (Ju.refl _ W) (.inl rfl) 0 (.slice bz (ckN idx.length bu) rc)) (.inr rfl) 0 .nilIface) (fun k bA=>h.nb k zo zo) (fun g bi e=>by have:=(Je h.rv.own bi).1;omega);have cO:((W.setCell (Aq (w.heap.size+1)) (.slice bz (ckN idx.length bu) rc)).setCell (Aq (w.heap.size+1+1)) .nilIface).cell? (Aq (w.heap.size+1))=some (.slice bz (ckN idx.length bu) rc):=by
   rw[Ob5 _ _ _ _ (by intro e;injection e with e _;omega)];exact World.cell?_setCell_same _ _ _ c1
  have cP:((W.setCell (Aq (w.heap.size+1)) (.slice bz (ckN idx.length bu) rc)).setCell (Aq (w.heap.size+1+1)) .nilIface).cell? (Aq (w.heap.size+1+1))=some .nilIface:=World.cell?_setCell_same _ _ _ (by rw[Ob5 _ _ _ _ (by intro e;injection e with e _;omega)];exact c2);generalize (W.setCell (Aq (w.heap.size+1)) (.slice bz (ckN idx.length bu) rc)).setCell (Aq (w.heap.size+1+1)) .nilIface=X at *;have bG:∀ r,some D=some r->∃ o:Obj,X.heap[r]?=some o/\o.isCells=false:=fun r e=>by cases e;exact⟨_,dh,rfl⟩
  refine⟨zS,.inl ⟨_,_,rfl,run_takeDeferred dh,?_⟩⟩;have bB:=grownBy_putObj' X D (.deferred none);have fx:=cell_kept cO bB bG;have fy:=cell_kept cP bB bG;have cG:=CK.of_grown bB bG;refine⟨.tuple #[.slice bz (ckN idx.length bu) rc,.nilIface],by simp[results,Tryz.f211,go_sem,fx,fy],?_⟩;have cj:=bO.out.2.2.1;have dD:=dq.2;rw[cj]at dD;exact .inl ⟨U,bh,O,Z,_,_,_,rfl,dl.ck cG (Krz dl.si.old bB fun r e=>by cases e;omega),Kuh _ _,by rw[h.len,Jbp],dD⟩
 case body=>
  rintro dO bf ⟨f,c⟩ W ⟨U,bh,O,Z,rv',hI⟩ ⟨cv,cx,dM⟩ cn cK;simp only at cv cx dM cn;obtain⟨cN,cI⟩:∃ cN,cN=(idx.drop f).take c:=⟨_,rfl⟩;have bQ:=bO.out;have cj:=bQ.2.2.1;have cH:=bQ.1.lt;have hlen:=hI.len;have dJ:=hI.step hK (Oa2 _) cH ft cM dW.out cn cv cx dw zo bQ.2.1 (by rw[cj];exact bQ.2.2.2.1) zo cI;obtain⟨cQ,cR,bz,rc,bT⟩:=hI.rv.cell;rw[Oa6,Kuh]at bT;subst bT;have c0:=hI.b0;have cy:=Krx hI;have cW:=Krx dJ;have I:Hid (y.w0.heap.size<=w.heap.size/\bk.heap.size=w.heap.size+6/\bf.length<=100000/\M<w.heap.size/\bf++[(f,c)]=cks idx.length bu (bf.length+1)/\f+c<=idx.length/\1<=c):=⟨bx,Y,zo,cH,cn,cv,cx⟩;have dV:=Krx cI;clear hI dJ cK cn cv cx dM bx Y hseq cH hlen bQ cj cI;gi_wp2_with (first|(refine⟨trivial,?_⟩;gi_at_call 247;refine(CallsIn.inRound dO (callsIn_wide.2 cW.out)).mono ?_;rintro e cz ⟨rfl,cZ,dB⟩;have cV:=Krx dB;clear dB;have dY:=Ja (Jc (Oa5 _ cz) (.cells #[Pq W.heap.size] 365)) cZ)|(refine⟨trivial,?_⟩;gi_at_call 172;refine(CallsIn.inRound dO (callsIn_wide.2 (cV.out _ (Jc (Oa5 _ cz) (.cells #[Pq W.heap.size] 365)) (heap_alloc_new cz _)))).mono ?_))
  rintro e H ⟨cT,cS,fB,fL,hM,fl⟩;clear cV cW cZ dY c0;have bj:=Krx hM;clear hM;rcases fl with⟨rfl,bP,fd⟩|⟨bC,b,rfl,cf,hb,bD,cu,bR⟩
  ·have fN:=bj.out.rv.cell.1;have fO:=bj.out.rv.cell.2.1;have c8:=bP.c8;have dR:=Krx bP;have cU:=Krx bj.out.rv.own;have dT:Hid (bf.length<=100000/\w.heap.size+6<=H.heap.size):=⟨I.out.2.2.1,by have:=cy.out.size;have:=bj.out.keep.size;omega⟩;have fg:(((nwX K.length bf.length).map (Ks8 O)).map rpV).length=bf.length:=by rw[Oa6,Oa6,Kuh]
   have fI:=dT.out;have dr:∀ cB cA,Bq H cB->cB.grownBy cA (Value.slice bz bf.length rc).ownBlock->cA.heap[w.heap.size+3]?=some (.cells #[.slice bz bf.length rc] 323 (0,0)):=fun cB cA dp bi=>(bi.block _ (by have:=dp.size;have:=bj.out.rv.nb.lt;omega) fun e=>by have:=(Je cU.out e.symm).1;omega).trans ((dp.block _ bj.out.rv.nb.lt).trans bj.out.rv.box);have dQ:=Krx dr;clear dr bP fd cQ cR;obtain⟨fw,fm,fs,fu,fv⟩:=info_parts Ktu;gi_wp2_with (gi_at_builtin;go_must (refine wpListIn_append_own_at _ rfl _ _ 323 rfl (w.heap.size+6) 365 fw _ 1 8 zK fm fs fu fv rfl zd (.slice bz bf.length rc) _ _ rfl (Jo.alloc cU.out _) ⟨H.heap.size,0,none⟩ 1 1 [Pq W.heap.size] rfl rfl (by exact Ua H _ _) (by intro u dK;simp at dK;subst dK;rfl) (by unfold maxLen;omega) zo zt ?_);intro fP w4 dC dv _ fh;go_must (obtain⟨fG,fD,dL⟩:=ownsRow_succ dC);rw[fg]at dL;subst dL;have cC:=dQ.out _ w4 (Jc (Oa5 _ H) _) dv;have fC:=zc 0 cC;have fF:w4.frozen? ⟨w.heap.size+3,0,none⟩=false:=(by simp[World.frozen?,cC]);clear cC)
   have hI:=cy.out;have bx:=I.out.1;have Y:=I.out.2.1;obtain⟨⟨dP,fe⟩,fo,dA⟩:=NwM.fin hI bj.out dR.out cL (Oa2 _) I.out.2.2.2.1 I.out.2.2.2.2.1 I.out.2.2.2.2.2.1 I.out.2.2.2.2.2.2 bO.out.2.1 dV.out (Jc (Oa5 _ H) _) (by
    rw[Ob8];unfold Jo;rw[Oa8];exact dC) dv fh
   have fq:=hI.size;refine⟨by rw[Y];exact fo,⟨dA.size,fun k bA=>?_⟩,dP,_,_,_,_,fe⟩;have bS:=hI.nb k zo zo;refine dA.block k bS.lt fun e=>?_;rcases e with(e|e|e|⟨i,m,_,cJ,e⟩|e)|e|e
   ·exact bS.sb e
   ·exact bS.mv e
   ·exact bS.nf e
   ·exact(bS.ms m (Of6 cJ)).1 e.symm
   ·omega
   ·omega
   have:=(Je hI.rv.own e).1;omega
  have dS:Hid (Yu H (Ip 149 b) (if bC=true then y.q else y.qw) none (some (-1))/\W.heap.size<=b/\¬ cT b/\Ksy y.D0 bC/\dz cS<=dz E+pr*bI.flatten.length):=⟨cf,hb,bD,cu,bR⟩;have z1:=bj.out.b1;have z2:H.heap[w.heap.size+1+1]?=some (.cells #[.nilIface] 77 (0,0)):=bj.out.b2;have c1:=zc 0 z1;have g1:H.frozen? ⟨w.heap.size+1,0,none⟩=false:=by simp[World.frozen?,z1]
  have c2:=zc 0 z2;have g2:H.frozen? ⟨w.heap.size+1+1,0,none⟩=false:=by simp[World.frozen?,z2]
  have dX:Hid (H.heap[w.heap.size+1]?=some (.cells #[Sz] 323 (0,0))/\H.heap[w.heap.size+1+1]?=some (.cells #[.nilIface] 77 (0,0))):=⟨z1,z2⟩;clear z1 z2 cQ cR cf hb bD cu bR;gi_wp2
  have hI:=cy.out;have hM:=bj.out;have bx:=I.out.1;have Y:=I.out.2.1;have fq:=hI.size;obtain⟨z1,z2⟩:=dX.out;obtain⟨cf,hb,bD,cu,bR⟩:=dS.out;rw[bO.out.2.2.1]at bR;have dy:Ju (fun k=>k=w.heap.size+1\/k=w.heap.size+1+1) H ((H.setCell (Aq (w.heap.size+1)) Sz).setCell (Aq (w.heap.size+1+1)) (Ip 149 b)):=Ju.set (F:=fun k=>k=w.heap.size+1\/k=w.heap.size+1+1) (Ju.set (F:=fun k=>k=w.heap.size+1\/k=w.heap.size+1+1) (Ju.refl _ H) (.inl rfl) 0 _) (.inr rfl) 0 _;have cM:(H.setCell (Aq (w.heap.size+1)) Sz).heap[w.heap.size+1+1]?=some (.cells #[.nilIface] 77 (0,0)):=(Oa4 _ _ _ _ (show w.heap.size+1+1≠w.heap.size+1 by omega)).trans z2;have bL:=CtX.of2 bR hM.si (hM.nb _ zo zo) (hM.nb _ zo zo) cf zo bD cu dy (fun k bA=>bA) (by rw[Oa4 _ _ _ _ (show w.heap.size+1≠w.heap.size+1+1 by omega),Jk z1];simp) (by show ((H.setCell (Aq (w.heap.size+1)) Sz).setCell (Aq (w.heap.size+1+1)) (Ip 149 b)).heap[w.heap.size+1+1]?=_;rw[Jk cM];simp);refine⟨?_,rfl,cT,cS,_,_,bC,b,bL⟩;rw[Y];refine Ks1 (G:=fun k=>NwG y w U Z O cN k\/k=w.heap.size+1\/k=w.heap.size+1+1) ((hM.keep.mono fun k _ e=>.inl e).trans' dy fun k _ e=>.inr e) fun k bA hl=>?_;rcases bA with e|e|e
  ·exact hI.gcl cL (Oa2 _) k e hl
  ·omega
  omega
