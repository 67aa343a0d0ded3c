/- The batches of rows: what the iterator hands over. -/
import Derived.Test.YtdlgbphkaicfaaaGreatDoorIv
import Derived.Test.YtdlgbphkaicfaaaGreatDoorHc
import Derived.Test.YtdlgbphkaicfaaaGreatDoorTi
import Derived.Test.YtdlgbphkaicfaaaGreatDoorTl
import Derived.Test.YtdlgbphkaicfaaaGreatDoorKm
import Derived.Test.YtdlgbphkaicfaaaGreatDoorKq
import Derived.Test.YtdlgbphkaicfaaaGreatDoorKh
import Derived.Deep.RegionLaw
import Derived.Deep.RegionHeld3
import Derived.Lib.LazyBuf
import Derived.Lib.SlicesDelete
import Derived.Deep.AppendLies
set_option maxHeartbeats 4000000
set_option maxRecDepth 100000
namespace Go.Proofs.YtdlgbphkaicfaaaGreatDoor
open Go.RowKit Go.Shelf Tryz
def KpB (Fx:Nat→Prop)(W W':World):Prop:=W.heap.size≤W'.heap.size∧∀ k,Fx k→W'.heap[k]?=W.heap[k]?
theorem KpB.trans {Fx:Nat→Prop}{y B C:World}(h:KpB Fx y B)(k:KpB Fx B C):KpB Fx y C:=⟨Ob2 h.1 k.1,fun i hi=>(k.2 i hi).trans (h.2 i hi)⟩
theorem KpB.of_below {Fx:Nat→Prop}{y B:World}(h:Below y.heap.size y B)(hF:∀ k,Fx k→k<y.heap.size):KpB Fx y B:=⟨h.size,fun k A=>h.block k (hF k A)⟩
def Jbo (g:Nat)(hs:List (Option Addr×Nat))(k:Nat)(F:Nat→Prop):Prop:=F g∧∀ j,j<k→∀ b o,(Yo hs j).1=some ⟨b,o,none⟩→F b
theorem Qd.kp {Fx:Nat→Prop}{W W':World}{g:Nat}{hs:List (Option Addr×Nat)}{cs:List (List V)}(h:Qd W g hs cs)(y:KpB Fx W W')(hF:Jbo g hs cs.length Fx):Qd W' g hs cs:=
 ⟨h.row.of_block (y.2 g hF.1),fun j A=>(h.vals j A).of_block y.1 fun b o e _=>y.2 b (hF.2 j A b o e),h.cap⟩
abbrev Bat:=Nat×Nat×Nat
def Kgp (B:Nat)(hs:List (Option Addr×Nat))(cols:List (List V))(N z:Nat)(x:Bat)(W:World):Prop:=x.1+x.2.1≤N∧(1≤x.2.1∧x.2.1≤z)∧B≤x.2.2∧Qd W x.2.2 (Jnt hs cols.length x.1 (x.1+x.2.1)) (cols.map (Jbx x.1 (x.1+x.2.1)))
theorem Jjx (n:Nat)(hn:1≤n)(H D g cap:Nat)(hs:List (Option Addr×Nat))(cols:List (List V))(N z:Nat)(bH:1≤z)(cr:z≤100000)(cc:N≤100000)(bh:1≤cols.length)(bZ:cols.length≤1000)(w:World)(br:Qd w g hs cols)(bC:∀ j,j<cols.length→(cols.getD j []).length=N)
  (bn:w.cell? ⟨H,0,none⟩=some (.slice (some ⟨g,0,none⟩) cols.length cap)) (bl:w.cell? ⟨D,0,none⟩=some (.int .i64 (z:Int))) (Fx:Nat→Prop) (hF:Fx H∧Fx D∧Jbo g hs cols.length Fx) (bu:∀ k,Fx k→k<w.heap.size) :
  Kh4 Fence.wide n prog 139 #[.pointer (some ⟨H,0,none⟩),.pointer (some ⟨D,0,none⟩)] (fun x:Bat=>#[.int .i64 (x.1:Int),.slice (some ⟨x.2.2,0,none⟩) cols.length cols.length]) (Kgp w.heap.size hs cols N z) (KpB Fx) (fun A=>A.map (fun x=>(x.1,x.2.1))=cks N z (ckN N z)) (fun M=>∃ k,k≤ckN N z∧M.map (fun x=>(x.1,x.2.1))=cks N z k) (ckN N z) w:=by
 intro l J bM W hW bx bQ bA h0
 have bz:∀ s y E,Below y.heap.size y E→J s y→J s E:=fun s y E R h=>bx s y E none h ⟨R.os,R.tape,R.output,R.size,fun k K _=>R.block k K⟩ (fun r e=>by cases e)
 have bI:Hid (∀ s y E,Below y.heap.size y E→J s y→J s E):=bz
 have bL:Hid (∀ M x ba,J M ba→Kgp w.heap.size hs cols N z x ba→M.length<ckN N z→YieldAt Fence.wide (n-1) prog l #[.int .i64 (x.1:Int),.slice (some ⟨x.2.2,0,none⟩) cols.length cols.length] ba fun e W'=>(e=.returned (.bool true)∧J (M++[x]) W'∧KpB Fx ba W')∨(e=.returned (.bool false)∧bM (M++[x]) W')):=bA
 have X:Hid (Qd W g hs cols∧(∀ j,j<cols.length→(cols.getD j []).length=N)):=⟨br.below hW,bC⟩
 have O:Hid ((Fx H∧Fx D∧Jbo g hs cols.length Fx)∧∀ k,Fx k→k<W.heap.size):=⟨hF,fun k K=>Oc2 (bu k K) hW.size⟩
 have bO:=Ja hW bn
 have bk:=Ja hW bl
 have cf:=hW.size
 clear bz bA br bC hF bu bn bl bx bQ
 have bc:=X.out.1.row.cell bh
 rw[X.out.2 0 bh]at bc
 have bU:=Jlg g cols.length cap (Yo hs 0).1 N (Yo hs 0).2 W bh bc
 clear bc
 refine callsIn_of_wp func139 rfl trivial ?_ rfl
 simp only[ntmps139,Om3,List.length_cons,List.length_nil,Nat.reduceAdd,Nat.reduceSub,Ok9,Array.replicate_zero,Om4,Ol2,List.nil_append,List.cons_append]
 gi_wp2_with (refine⟨trivial,?_⟩;gi_at_call 54;refine(callsIn_wide.2 bU).mono ?_;rintro e w' ⟨rfl,bY⟩;rw[bY])
 gi_loopw [5] (fun i wr=>∃ (k:Nat) (A:List Bat),k≤ckN N z∧i=.int .i64 ((k*z:Nat):Int)∧Hid (A.map (fun x=>(x.1,x.2.1))=cks N z k)∧J A wr∧KpB Fx W wr) (fun i _=>N+100000-(intOf i).toNat)
 case atStart=>exact⟨0,[],Ob7 _,by simp,rfl,h0,Oa2 _,fun _ _=>rfl⟩
 case round=>
  obtain⟨k,A,K,rfl,Z,bf,U⟩:=hrel
  have c1:wr.cell? ⟨H,0,none⟩=some (.slice (some ⟨g,0,none⟩) cols.length cap):=by rw[Oc3 (w:=W) (U.2 H O.out.1.1)];exact bO
  have c2:wr.cell? ⟨D,0,none⟩=some (.int .i64 (z:Int)):=by rw[Oc3 (w:=W) (U.2 D O.out.1.2.1)];exact bk
  by_cases bG:k*z<N
  ·have bD:=Khi bH bG
   have bb:Hid (cks N z (k+1)=cks N z k++[(k*z,min z (N-k*z))]):=Jbj N z k
   have bK:Hid ((k+1)*z=k*z+z):=Of5 k z
   have cn:A.length=k:=by have:=congrArg List.length Z.out;rw[Oa6,Jbp]at this;exact this
   generalize k*z=i at *
   obtain⟨m,bV,bi⟩:∃ m:Nat,(i+m≤N∧1≤m∧m≤z)∧Hid (m=min z (N-i)):=⟨min z (N-i),by omega,rfl⟩
   rw[←bi.out]at bb
   obtain⟨ch,bW,bX⟩:=bV
   have ci:min ((i:Int)+(z:Int)) (N:Int)=(i:Int)+(m:Int):=by have:=bi.out;omega
   have cj:IntKind.i64.wrap ((i:Int)+(z:Int))=(i:Int)+(z:Int):=by rw[Od4];omega
   have hcut:=Kdx g cap hs cols N i (i+m) wr (X.out.1.kp U O.out.1.2.2) X.out.2 (by omega) (by omega) bZ
   rw[Int.natCast_add]at hcut
   have cl:W.heap.size≤wr.heap.size:=U.1
   have cb:=bf
   gi_wp2_with (refine⟨trivial,?_⟩;gi_at_call 112;refine(callsIn_wide.2 hcut).mono ?_;rintro e bN ⟨bB,rfl,bS⟩;obtain⟨fn,tmps,assign,body,ca,hR⟩:=bL.out A (i,m,wr.heap.size) bN (bI.out _ _ _ bB bf) ⟨by show i+m≤N;omega,⟨bW,bX⟩,by show w.heap.size≤wr.heap.size;omega,bS⟩ (by omega);dsimp only at ca)
   refine hR.mono ?_
   rintro e bj (⟨rfl,bP,bT⟩|⟨rfl,bR⟩)
   ·have bE:KpB Fx W bj:=(U.trans (KpB.of_below bB (fun k K=>by have:=O.out.2 k K;omega))).trans bT
    have c3:bj.cell? ⟨D,0,none⟩=some (.int .i64 (z:Int)):=by rw[Oc3 (w:=W) (bE.2 D O.out.1.2.1)];exact bk
    gi_wp2
    go_roundw
    case rel=>exact⟨k+1,A++[(i,m,wr.heap.size)],bD,by rw[bK.out];go_num,by show _=_;rw[Ob8,Z.out,bb.out];rfl,bP,bE⟩
    case measure=>simp[intOf];omega
   gi_wp2
   refine bodyPost_ret (results_none rfl _ _ _) rfl ?_
   exact⟨⟨_,rfl⟩,.inr ⟨_,⟨k+1,bD,by rw[Ob8,Z.out,bb.out];rfl⟩,bR⟩⟩
  have bJ:Hid (k=ckN N z):=by
   rcases Oc1 k (ckN N z)with h'|h'
   ·exact absurd (Jqs bH h') bG
   ·show k=_;omega
  gi_wp2
  go_end0
  exact⟨⟨_,rfl⟩,.inl ⟨A,by rw[Z.out,bJ.out],bf⟩⟩
attribute [local go_sem] Oc0
theorem Jfy (w:World)(a:Option Addr)(n cap c:Nat)(h:n≤cap)(ty:TypeId):(Builtin.append_ #[54,54] ty #[.slice a n cap,.slice none 0 c]).run prog w=.ok (.slice a n cap) w:=by
 have y:(sizeOf 63).run prog w=.ok 3 w:=by kernel_rfl
 cases a with
 |none=>simp[Builtin.append_,run_underlying underlying54,y,Builtin.lenOf,Builtin.firstCells,h,Result.andThen]
 |some A=>simp[Builtin.append_,run_underlying underlying54,y,Builtin.lenOf,Builtin.firstCells,storeCells,h,Result.andThen]
theorem Jju {w:World}{X:Array Oper}{rest:List Oper}{o:Oper}{a:Act}{Q:Exit→Act→World→Prop}(O:o.guard=none)(s x:Operand)
  (U:o.op=.call {callee:=.builtin .append,args:=#[s,x],argTypes:=#[54,54]})
  (B:Nat) (sv:Value) (A:List V) (hs:a.eval s=sv) (E:Yt w B sv A)
  (M:Option Addr) (c:Nat) (vs:List V) (K:a.eval x=.slice M vs.length c) (y:Jv w M vs) (bz:A.length+vs.length≤1000000) (bc:B≤w.heap.size)
  (h:∀ sv' w',Yt w' B sv' (A++vs)→w.grownBy w' sv.ownBlock→(sv'.ownBlock=sv.ownBlock∨sv'.ownBlock=some w.heap.size)→wpList prog X Q rest (a.put o.dst sv') w') :
  wpList prog X Q (o::rest) a w:=by
 cases M with
 |none=>
  have bk:vs=[]:=by
   rcases y with y|⟨b,bn,D,_⟩
   ·exact y
   simp at D
  subst bk
  refine wpList_plain O fun bu bb=>?_
  have bi:(Builtin.append_ #[54,54] o.type #[sv,.slice none 0 c]).run prog w=.ok sv w:=by
   rcases E.2 with⟨H,_⟩|⟨g,cap,bx,H,_,_,bh,_⟩
   ·rw[H];exact Jfy w none 0 0 c (Oa2 _) _
   rw[H];exact Jfy w _ _ cap c bh _
  unfold Oper.wp execOp
  simp only[List.length_nil]at K
  simp only[U,resolve,invoke,builtin,Og8,Sem.run_pure,Result.andThen_ok,List.map_toArray,Oe4,Oi4,hs,K,bi]
  exact bb _ _ (h sv w (by rw[Od7];exact E) (World.grownBy.refl _ _) (.inl rfl))
 |some Z=>
  obtain⟨i,hi,bl,bj,bf⟩:=info_parts Jow
  refine wpList_append_own_at w O s x 54 U B 63 i _ 3 32 (by kernel_rfl) hi bl bj bf rfl (by decide) sv A.length (A.flatMap V.cells) hs E Z vs.length c (vs.flatMap V.cells) K (Ja5 vs) ?_ ?_ ?_ ?_ bc ?_
  ·intro j u R
   rcases y with y|⟨b,bn,D,_,y⟩
   ·subst y;simp at R
   simp only[Oc9]at D
   subst D
   have:=Kem y j u R
   exact this
  ·exact Kap vs
  ·unfold maxLen;omega
  ·omega
  intro br w' h1 h2 _ ba
  refine h br w' ?_ h2 ba
  unfold Yt
  simpa using h1
def Jdi (cs y:List (List V))(k:Nat):List (List V):=(List.range cs.length).map fun j=>if j<k then cs.getD j []++y.getD j []else cs.getD j []
theorem Jf9 (cs y:List (List V))(k:Nat):(Jdi cs y k).length=cs.length:=by simp[Jdi]
theorem Jlm (cs y:List (List V))(k j:Nat)(A:j<cs.length):(Jdi cs y k).getD j []=if j<k then cs.getD j []++y.getD j []else cs.getD j []:=by
 rw[Oa0]
 simp only[Jdi,Ob1,Oh6 A,Option.map_some,Option.getD_some]
theorem Kat (cs y:List (List V)):Jdi cs y 0=cs:=by
 apply Oh4
 ·simp[Jdi]
 intro j h1 h2
 simp[Jdi,h2]
theorem Jy5 (cs y:List (List V))(k:Nat)(D:k<cs.length):(Jdi cs y k).set k ((Jdi cs y k).getD k []++y.getD k [])=Jdi cs y (k+1):=by
 apply Oh4
 ·simp[Jdi]
 intro j h1 h2
 have E:j<cs.length:=by simpa [Jdi] using h2
 rw[List.getElem_set]
 by_cases e:k=j
 ·subst e
  rw[if_pos rfl,Jlm cs y k k D,if_neg (Oe3 _)]
  simp[Jdi]
 rw[if_neg e]
 simp only[Jdi,Od9,Oo7]
 by_cases A:j<k
 ·rw[if_pos A,if_pos (by omega)]
 rw[if_neg A,if_neg (by omega)]
structure Kgu (w:World) (g:Nat) (hs:List (Option Addr×Nat)) (cs:List (List V)):Prop where
 lt:g<w.heap.size
 cell:∀ j,j<cs.length→w.cell? ⟨g,j,none⟩=some (.slice (Yo hs j).1 (cs.getD j []).length (Yo hs j).2)
 vals:∀ j,j<cs.length→Jv w (Yo hs j).1 (cs.getD j [])
theorem Kb4 (B g cap:Nat)(H:List Value)(cs:List (List V))(g2 cb:Nat)(hs:List (Option Addr×Nat))(y:List (List V))(w:World)(cf:Jar w B g H cs)(bC:Kgu w g2 hs y)(cn:y.length=cs.length)(bG:∀ j,j<cs.length→(cs.getD j []).length+(y.getD j []).length≤1000000)(cc:B≤w.heap.size)(cx:cs.length≤1000)
  (bD:∀ j b,j<cs.length→(Uq H j).ownBlock=some b→b≠g2∧∀ k A O,k<y.length→(Yo hs k).1=some ⟨A,O,none⟩→b≠A) (bJ:g≠g2∧∀ k A O,k<y.length→(Yo hs k).1=some ⟨A,O,none⟩→g≠A) :
  Calls prog 108 #[.slice (some ⟨g,0,none⟩) cs.length cap,.slice (some ⟨g2,0,none⟩) y.length cb] w fun e w'=>e=.returned (.tuple #[])∧(∃ bU,Jar w' B g bU (Jdi cs y cs.length)∧∀ j b,j<cs.length→(Uq bU j).ownBlock=some b→(Uq H j).ownBlock=some b∨w.heap.size≤b)∧Below B w w'∧w.heap.size≤w'.heap.size∧∀ x,x<w.heap.size→x≠g→(∀ j,j<cs.length→(Uq H j).ownBlock≠some x)→w'.heap[x]?=w.heap[x]?:=by
 have bk:Hid (Kgu w g2 hs y):=bC
 have bz:Hid (∀ j b,j<cs.length→(Uq H j).ownBlock=some b→b≠g2∧∀ k A O,k<y.length→(Yo hs k).1=some ⟨A,O,none⟩→b≠A):=bD
 have bA:Hid (g≠g2∧∀ k A O,k<y.length→(Yo hs k).1=some ⟨A,O,none⟩→g≠A):=bJ
 have bW:Hid (∀ j,j<cs.length→(cs.getD j []).length+(y.getD j []).length≤1000000):=bG
 clear bC bD bJ bG
 rw[cn]
 go_enter func108,ntmps108
 go_wp2
 go_loopw [8] (fun i wr=>∃ (k:Nat) (K:List Value),k≤cs.length∧i=.int .i64 (k:Int)∧Jar wr B g K (Jdi cs y k)∧Hid ((∀ j,k≤j→Uq K j=Uq H j)∧∀ j b,j<cs.length→(Uq K j).ownBlock=some b→(Uq H j).ownBlock=some b∨w.heap.size≤b)∧Below B w wr∧Hid (w.heap.size≤wr.heap.size∧∀ x,x<w.heap.size→x≠g→(∀ j,j<cs.length→(Uq H j).ownBlock≠some x)→wr.heap[x]?=w.heap[x]?)) (fun i _=>cs.length-(intOf i).toNat)
 case atStart=>exact⟨0,H,Ob7 _,rfl,by rw[Kat];exact cf,⟨fun j _=>rfl,fun j b _ e=>.inl e⟩,Oa5 _ _,⟨Oa2 _,fun x _ _ _=>rfl⟩⟩
 case round=>
  obtain⟨k,K,cv,rfl,E,bf,bI,D⟩:=hrel
  by_cases ba:k<cs.length
  ·have Z:k<(Jdi cs y k).length:=by rw[Jf9];exact ba
   have bh:k<y.length:=by omega
   have cj:=bk.out.lt
   have bE:wr.heap[g2]?=w.heap[g2]?:=D.out.2 g2 cj (Oc5 bA.out.1) (fun j U e=>(bz.out j g2 U e).1 rfl)
   have bx:=(Oc3 (a:=⟨g2,k,none⟩) bE).trans (bk.out.cell k bh)
   obtain⟨bn,ck,X⟩:∃ bn ck,Yo hs k=(bn,ck):=⟨_,_,rfl⟩
   have bP:Jv wr bn (y.getD k []):=by
    have:=bk.out.vals k bh
    rw[X]at this
    refine this.of_block D.out.1 fun b o M ch=>D.out.2 b ch ?_ ?_
    ·exact fun e=>bA.out.2 k b o bh (by rw[X];exact M) e.symm
    exact fun j U e=>(bz.out j b U e).2 k b o bh (by rw[X];exact M) rfl
   rw[X]at bx
   simp only at bx
   obtain⟨vs,bj⟩:∃ vs,y.getD k []=vs:=⟨_,rfl⟩
   rw[bj]at bx bP
   have bZ:Hid (y.getD k []=vs):=bj
   obtain⟨sv,bb⟩:∃ sv,Uq K k=sv:=⟨_,rfl⟩
   have bl:Hid (Uq K k=sv):=bb
   obtain⟨R,bi⟩:∃ R,(Jdi cs y k).getD k []=R:=⟨_,rfl⟩
   have bY:Hid ((Jdi cs y k).getD k []=R):=bi
   have bX:Hid (R.length+vs.length≤1000000):=by
    show _≤_
    rw[←bi,←bj,Jlm cs y k k ba,if_neg (Oe3 _)]
    exact bW.out k ba
   have bV:=E.row.cell (i:=k) (by rw[E.len];exact Z)
   rw[bb]at bV
   have cu:=E.row.frozen k
   have br:=E.own k Z
   rw[bb,bi]at br
   have ca:Hid (∀ Y,wr.grownBy Y sv.ownBlock→Y.cell? ⟨g,k,none⟩=some sv∧Y.frozen? ⟨g,k,none⟩=false):=fun Y ci=>by
    have hn:=E.ne k Z
    rw[bb]at hn
    have M:=ci.block g E.row.lt (fun e=>hn e.symm)
    exact⟨by rw[Oc3 M];exact bV,by rw[Ol7 M];exact cu⟩
   have bH:B≤wr.heap.size:=Ob2 cc D.out.1
   clear X bj bb bi bE
   go_wp2_with (first|(at_builtin;refine Jju (by rfl) _ _ (by rfl) B _ R (by rfl) br _ _ vs (by rfl) bP bX.out bH ?_;intro sv' bu bS bc bT;obtain⟨cy,cz⟩:=ca.out bu bc;obtain⟨bB,c5,bO,_⟩:=bS.vals;rw[Oa8]at bO;subst bO))
   go_roundw
   case rel=>
    have bM:(Uq H k).ownBlock=sv.ownBlock:=by rw[←bf.out.1 k (Oa2 _),bl.out]
    have bL:=E.put (vs:=vs) (sv':=.slice bB (R.length+vs.length) c5) Z (by rw[bY.out];exact bS) (by rw[bl.out];exact bc) (by rw[bl.out];exact bT)
    have bN:=Jy5 cs y k ba
    rw[bZ.out]at bN
    rw[bN]at bL
    have bK:k<K.length:=by rw[E.len];exact Z
    refine⟨k+1,_,by omega,by go_num,bL,⟨fun j U=>?_,fun j b U e=>?_⟩,(bI.grown bc bH (fun b M=>(Je br M).1)).setCell (p:=⟨g,k,none⟩) E.low _,⟨?_,fun x cr bQ bR=>?_⟩⟩
    ·rw[Jem bK,if_neg (by omega)]
     exact bf.out.1 j (by omega)
    ·rw[Jem bK]at e
     split at e
     ·rename_i cl
      subst cl
      rcases bT with q|q
      ·rw[q]at e;exact .inl (bM.trans e)
      rw[q]at e;simp only[Oc9]at e;exact .inr (by have:=D.out.1;omega)
     exact bf.out.2 j b U e
    ·have h1:=D.out.1
     have h2:=bc.size
     have:(bu.setCell ⟨g,k,none⟩ (.slice bB (R.length+vs.length) c5)).heap.size=bu.heap.size:=by simp[World.setCell]
     omega
    rw[Oa4 _ _ _ _ bQ,bc.block x (by have:=D.out.1;omega) (fun e=>bR k ba (by rw[bM];exact e.symm))]
    exact D.out.2 x cr bQ bR
   case measure=>simp[intOf];omega
  obtain rfl:k=cs.length:=by omega
  go_wp2
  go_end0
  exact⟨rfl,⟨K,E,bf.out.2⟩,bI,D.out.1,D.out.2⟩
structure Jid (D:DS) (T:TS):Prop where
 cols:1≤T.types.length∧T.types.length≤6
 rows:T.rows≤200
 group:1≤T.group∧T.group≤64
 count:T.segs.length=ckN T.rows T.group*T.types.length
 segs:∀ l∈T.segs,l≠[]∧l.length≤1000
 full:∀ l∈T.segs,∀ t,Uf D l=.inl t→t≠[]∧Kje t
def Jgp (y:DS)(T:TS):List (List V)⊕Nat:=(Jkh y T.types T.segs (List.replicate T.rows (List.replicate T.types.length Jf)) (cks T.rows T.group (ckN T.rows T.group))).1
def Zo (y:DS)(T:TS):List (List V)⊕Nat:=(Jfx y T.types T.segs (List.replicate T.types.length []) (cks T.rows T.group (ckN T.rows T.group))).1
theorem Jmq (y:DS)(T:TS)(A:1≤T.group):Jgp y T=Sum.map (Qf T.rows) id (Zo y T)∧∀ cs,Zo y T=.inl cs→cs.length=T.types.length∧∀ c,c<cs.length→(cs.getD c []).length=T.rows:=by
 obtain⟨h1,h2⟩:=Jwa y T.types T.segs T.rows T.group A (fun l t m vs h=>Jnk h) (ckN T.rows T.group) (Oa2 _)
 refine⟨h1,fun cs h=>?_⟩
 obtain⟨E,H⟩:=h2 cs h
 refine⟨E,fun c D=>?_⟩
 rw[H c D]
 exact Ol4 (Jcy A)
def Jrr (w:World)(et pg:Addr)(r:Option (List (List V)⊕Nat))(e:Ending)(w':World):Prop:=
 Below w.heap.size w w'∧match r with
  |none=>e=.returned (.tuple #[.slice none 0 0,.iface 435 (.pointer (some et))])
  |some (.inl cs)=>∃ g y,e=.returned (.tuple #[.slice (some ⟨g,0,none⟩) cs.length cs.length,.nilIface])∧Jar w' w.heap.size g y cs
  |some (.inr j)=>∃ b,e=.returned (.tuple #[.slice none 0 0,.iface 126 (.pointer (some ⟨b,0,none⟩))])∧w.heap.size≤b∧Yu w' (.iface 126 (.pointer (some ⟨b,0,none⟩))) pg (some (-1)) (some (j:Int))
def Jf8 (y:DS)(Ts:List TS)(n:ByteArray):Option (List (List V)⊕Nat):=(Ts[Ub Ts n]?).map (Jgp y)
def Jcm (y:DS)(Ts:List TS)(n:ByteArray):Option (List (List V)⊕Nat):=(Ts[Ub Ts n]?).map (Zo y)
theorem Keq (y:DS)(Ts:List TS)(n:ByteArray)(E:∀ T∈Ts,Jid y T):(Jcm y Ts n=none∧Jf8 y Ts n=none)∨(∃ j,Jcm y Ts n=some (.inr j)∧Jf8 y Ts n=some (.inr j))∨∃ cs m,Jcm y Ts n=some (.inl cs)∧Jf8 y Ts n=some (.inl (Qf m cs))∧m≤200∧1≤cs.length∧cs.length≤6∧∀ c,c<cs.length→(cs.getD c []).length=m:=by
 unfold Jcm Jf8
 cases h:Ts[Ub Ts n]? with
 |none=>exact .inl ⟨rfl,rfl⟩
 |some T=>
  have A:=E T (Of6 h)
  obtain⟨h1,h2⟩:=Jmq y T A.group.1
  simp only[Option.map_some]
  rw[h1]
  cases hc:Zo y T with
  |inr j=>exact .inr (.inl ⟨j,rfl,rfl⟩)
  |inl cs=>
   obtain⟨D,H⟩:=h2 cs hc
   exact .inr (.inr ⟨cs,T.rows,rfl,rfl,A.rows,by rw[D];exact A.cols.1,by rw[D];exact A.cols.2,H⟩)
theorem Jou (n:ByteArray)(w:World)(F G:Nat→Prop)(s d:Nat)(A:DS)(Ts:List TS)(sv:Value)(bs:List Nat)(h:Jfl w G s d Ts sv bs)(bE:Zb w F d A)(ba:∀ T∈Ts,Jid A T)(bh bi bj:Addr)(bG:Jf0 w bh bi bj)(et pg:Addr)(bJ:w.cell? ⟨8,0,none⟩=some (.iface 435 (.pointer (some pg))))(bH:w.cell? ⟨2,0,none⟩=some (.iface 435 (.pointer (some et)))) :
  Calls prog 37 #[.pointer (some ⟨s,0,none⟩),.string n] w fun e w'=>Jrr w et pg (Jcm A Ts n) e w':=by
 have hf:=Jo8 n w G s d Ts sv bs h
 have bQ:=run_neq_nil_nil (P:=prog)
 by_cases M:Ub Ts n<Ts.length
 ·have O:Jhc Ts n=(Ub Ts n:Int):=by unfold Jhc;rw[if_pos M]
  have bk:Jcm A Ts n=some (Zo A Ts[Ub Ts n]):=by simp[Jcm,M]
  rw[O]at hf
  generalize bI:Ub Ts n=k at *
  have E:=ba _ (Ob3 M)
  have bf:Hid (∀ W b,Below w.heap.size w W→Jmg W G b Ts[k]→Calls prog 55 #[.pointer (some ⟨s,0,none⟩),.pointer (some ⟨b,0,none⟩)] W fun e w'=>Ji1 W pg (Zo A Ts[k]) e w'):=fun W b D bC=>
   Kas s d b Ts[k] W F G A (bE.below D) (Ja D h.field.1) bC E.cols E.rows E.group.1 E.group.2 E.count E.segs E.full bh bi bj (bG.below D) pg (Ja D bJ)
  have R:Hid (Jcm A Ts n=some (Zo A Ts[k])):=bk
  obtain⟨b,o,bu,c2,bc⟩:=h.at M
  obtain⟨_,c1⟩:=h.field
  obtain⟨a,cap,bx,_⟩:=h.own.cells
  rw[Oa6,h.len]at bx
  subst bx
  simp at bu
  subst bu
  have bP:=h.few
  generalize bs[k]'_=tk at c2 bc
  have br:=fun W D=>bf.out W tk D (bc.stands D.size fun x _ bK=>D.block x bK)
  have U:Hid (∀ W,Below w.heap.size w W→Calls prog 55 #[.pointer (some ⟨s,0,none⟩),.pointer (some ⟨tk,0,none⟩)] W fun e w'=>Ji1 W pg (Zo A Ts[k]) e w'):=br
  clear bk O ba E bI h br bf bc
  generalize bR:Zo A Ts[k]=r at *
  rcases r with rs|j
  ·have bb:Hid (∀ W,Below w.heap.size w W→Calls prog 55 #[.pointer (some ⟨s,0,none⟩),.pointer (some ⟨tk,0,none⟩)] W fun e w'=>Below W.heap.size W w'∧∃ g bs,e=.returned (.tuple #[.slice (some ⟨g,0,none⟩) rs.length rs.length,.nilIface])∧Jar w' W.heap.size g bs rs):=U.out
   clear U
   go_enter func37,ntmps37
   go_wp2_with (first|(go_at_call 45;refine hf.mono ?_;rintro e X ⟨rfl,y⟩;have bz:=Ja y c1;have bA:=Ja y c2)|(go_at_call 55;refine(bb.out X y).mono ?_;rintro e H ⟨Z,g,bB,rfl,K⟩))
   go_ret2
   rw[R.out]
   exact⟨Jb y Z,g,bB,rfl,⟨K.row,Ob2 y.size K.low,K.len,fun i hi=>(K.own i hi).mono y.size,K.ne,K.apart⟩⟩
  have bb:Hid (∀ W,Below w.heap.size w W→Calls prog 55 #[.pointer (some ⟨s,0,none⟩),.pointer (some ⟨tk,0,none⟩)] W fun e w'=>Below W.heap.size W w'∧∃ b,e=.returned (.tuple #[.slice none 0 0,.iface 160 (.pointer (some ⟨b,0,none⟩))])∧W.heap.size≤b∧Yu w' (.iface 160 (.pointer (some ⟨b,0,none⟩))) pg none (some (j:Int))):=U.out
  clear U
  go_enter func37,ntmps37
  go_wp2_with (first|(go_at_call 45;refine hf.mono ?_;rintro e X ⟨rfl,y⟩;have bz:=Ja y c1;have bA:=Ja y c2)|(go_at_call 55;refine(bb.out X y).mono ?_;rintro e H ⟨Z,be,rfl,bN,bD⟩))
  go_ret2
  rw[R.out]
  have bl:=Jb y Z
  have bn:Below H.heap.size H (H.alloc (.cells #[.string n,.int .i64 (-1),.iface 160 (.pointer (some ⟨be,0,none⟩))] 128)):=(Oa5 _ _).alloc (Oa2 _) _
  obtain⟨_,bL,bM⟩:=Kil H (.string n) (.int .i64 (-1)) (.iface 160 (.pointer (some ⟨be,0,none⟩))) 128
  obtain⟨h1,h2⟩:=bD.disk_at
  exact⟨Jc bl _,H.heap.size,rfl,bl.size,.both H.heap.size be pg (-1) j bL bM (Ja bn h1) (Ja bn h2)⟩
 have O:Jhc Ts n=-1:=by unfold Jhc;rw[if_neg M]
 have R:Hid (Jcm A Ts n=none):=by show _=_;simp[Jcm];omega
 rw[O]at hf
 clear O M ba h
 go_enter func37,ntmps37
 go_wp2_with (first|(go_at_call 45;refine hf.mono ?_;rintro e X ⟨rfl,y⟩;have bO:=Ja y bH))
 go_quiet (fail)
 go_wp2
 go_ret2
 rw[R.out]
 exact⟨Jp y _,rfl⟩
end Go.Proofs.YtdlgbphkaicfaaaGreatDoor
namespace Go.Proofs.YtdlgbphkaicfaaaGreatDoor
open Go.RowKit Tryz
theorem Kgo (xs:List V)(hn:xs.length≤64)(y:∀ v∈xs,good v.k v.s):(Jds xs).length≤6000:=by
 have h1:=Jk0 xs []
 have h2:=Jgg (Ym [] xs) fun v A=>by
  rcases Jlj xs [] v A with h|h
  ·simp at h
  exact y v h
 unfold Jds
 rw[Oa8,List.length_cons,Qb,Jal,Oa6]
 simp at h1
 omega
theorem Kan (t:Int)(xs:List V)(hn:xs.length≤64):(Zz t xs).length≤6000:=by
 unfold Zz
 split
 ·rw[Qb,Jal];simp[Uv];omega
 cases xs with
 |nil=>simp[Jei]
 |cons v l=>
  unfold Jei
  have y:=Jkx (v::l) (Jn v.n (v::l))
  have E:Uv (v::l) (Jn v.n (v::l))=dif v.n (Jn v.n (v::l))::Uv l (Jn v.n (v::l)):=rfl
  rw[E]at y
  have H:=Jk2 18446744073709551616 (Uv l (Jn v.n (v::l))) (dif v.n (Jn v.n (v::l))) (y _ Of4) fun n hn=>y n (Og1 _ hn)
  have A:=Jf7 _ H
  rw[Oa8,Oa8,Jc4,Qb,Jal]
  have D:(Uv (v::l) (Jn v.n (v::l))).length=(v::l).length:=by simp[Uv]
  rw[D]
  have:bitLen (Yz (dif v.n (Jn v.n (v::l))) (Uv l (Jn v.n (v::l))))*(v::l).length≤64*64:=Ol5 A hn
  simp only[List.length_cons,List.length_nil]at *
  omega
theorem Kfy (t A:Int)(xs:List V)(hn:xs.length≤64)(y:∀ v∈xs,good v.k v.s):(Jdt t A xs).length≤6000:=by
 unfold Jdt
 split
 ·have:=Jgg xs y;omega
 split
 ·exact Kgo xs hn y
 split
 ·have:=Jng _ xs (Oa2 _) y;omega
 exact Kan t xs hn
theorem Khf (t y:Int)(xs:List V)(h:Jdq t xs):(Jav t y xs).length≤6100∧Jav t y xs≠[]:=by
 have h1:=Kfy t y (Jz xs) (Ob2 (Zy xs) h.1) (Jgz t xs h)
 have h2:=h.1
 refine⟨?_,by simp[Jav,Kz]⟩
 unfold Jav Kz
 rw[Oa8,Oa8,Qb,Oa6]
 simp only[List.length_cons,List.length_nil]
 omega
theorem Jt7 {rows:List (List V)}{A hs:List Int}{c:Nat}(h:(Uo rows A hs c).2=0):(Uo rows A hs c).1.length≤6100∧(Uo rows A hs c).1≠[]:=by
 unfold Uo Jev at h ⊢
 split at h
 ·rename_i y
  rw[if_pos y]
  split at h
  ·simp at h
  rename_i D
  rw[if_neg D]
  simp only[Og5]at y
  refine Khf _ _ _ ?_
  have h2:=y.2
  unfold Jfr at h2
  simp only[Og5,decide_eq_true_iff,List.all_eq_true]at h2
  exact⟨h2.1,fun j E=>h2.2 _ (Ob3 E)⟩
 simp at h
theorem Jrd (rows:List (List V))(A hs:List Int):∀ (k:Nat) (l:List (List UInt8)),Jeo rows A hs k=.inl l→∀ t∈l,t.length≤6100∧t≠[]
 |0,l,h=>by simp[Jeo]at h;subst h;simp
 |k+1,l,h=>by
  simp only[Jeo]at h
  split at h
  ·simp at h
  rename_i H E
  split at h
  ·rename_i D
   simp at h
   subst h
   intro t y
   rcases Od2.1 y with y|y
   ·exact Jrd rows A hs k H E t y
   simp at y
   subst y
   exact Jt7 D
  simp at h
theorem Jte (rs:List (List V))(y hs:List Int)(xs:List (Nat×Nat))(T:List (List UInt8))(h:Jfg rs y hs xs=.inl T):T.length=xs.length*y.length∧∀ t∈T,t.length≤6100∧t≠[]:=by
 have O:∀ (xs:List (Nat×Nat)) (A T:List (List UInt8)),xs.foldl (Jiu rs y hs) (.inl A)=.inl T→(∀ t∈A,t.length≤6100∧t≠[])→T.length=A.length+xs.length*y.length∧∀ t∈T,t.length≤6100∧t≠[]:=by
  intro xs
  induction xs with
  |nil=>intro A T h h0;simp at h;subst h;exact⟨by simp,h0⟩
  |cons x xs H=>
   intro A T h h0
   rw[List.foldl_cons]at h
   simp only[Jiu]at h
   split at h
   ·rename_i l K
    have:=H (A++l) T h (fun t D=>by
     rcases Od2.1 D with D|D
     ·exact h0 t D
     exact Jrd _ y hs _ l K t D)
    refine⟨?_,this.2⟩
    rw[this.1,Oa8,Jjc _ y hs _ l K,List.length_cons,Of5]
    omega
   rename_i c R
   have M:∀ E:List (Nat×Nat),E.foldl (Jiu rs y hs) (.inr c)=.inr c:=by
    intro E
    induction E with
    |nil=>rfl
    |cons U E H=>exact H
   rw[M]at h
   simp at h
 have:=O xs [] T h (by simp)
 simpa using this
theorem Joc:∀ (y:List (List UInt8)),(∀ t∈y,t.length≤6100)→Jch y≤110*y.length
 |[],_=>by simp[Jch]
 |t::y,h=>by
  have h1:=Jio t
  have h2:=h t (by simp)
  have D:=Joc y fun t A=>h t (by simp[A])
  rw[Ja1,List.length_cons]
  omega
end Go.Proofs.YtdlgbphkaicfaaaGreatDoor
namespace Go.Proofs.YtdlgbphkaicfaaaGreatDoor
open Go.RowKit Tryz
theorem Jrj {w:World}{B:Nat}{sv:Value}{ns:List Int}(h:Jo w B 3 sv (ns.map iv))(K:ns≠[]):∃ g c,sv=.slice (some ⟨g,0,none⟩) ns.length c∧B≤g∧g<w.heap.size∧Kc w (some ⟨g,0,none⟩) ns:=by
 obtain⟨a,c,A,E⟩:=h.cells
 rw[Oa6]at A
 subst A
 rcases h.2 with⟨y,h0⟩|⟨g,cap,M,y,D,H,_⟩
 ·simp at h0
  exact absurd h0 K
 simp at y
 obtain⟨rfl,rfl⟩:=y
 exact⟨g,c,rfl,D,Jd H,E⟩
theorem Jhe (b o cap:Nat)(ns:List Int)(w:World)(y:ns≠[])(bi:ns.length≤1000)(h:Kc w (some ⟨b,o,none⟩) ns) :
  Calls prog 49 #[.slice (some ⟨b,o,none⟩) ns.length cap] w fun e w'=>Below w.heap.size w w'∧∃ g c,e=.returned (.slice (some ⟨g,0,none⟩) ns.length c)∧w.heap.size≤g∧g<w'.heap.size∧Kc w' (some ⟨g,0,none⟩) ns:=by
 have E:Below w.heap.size w (w.alloc (.cells #[] 3)):=(Oa5 _ w).alloc (Oa2 _) _
 have K:Hid (∀ (j:Nat) (u:Value),(ns.map iv)[j]?=some u→(w.alloc (.cells #[] 3)).cell? ((⟨b,o,none⟩:Addr).add j)=some u):=fun j u A=>by
  rcases h.below E with h0|⟨bf,bk,H,_,X⟩
  ·simp at h0;exact absurd h0 y
  simp at H
  obtain⟨rfl,rfl⟩:=H
  rw[Op7]
  exact X j u A
 have O:Hid (Jo (w.alloc (.cells #[] 3)) w.heap.size 3 (.slice (some ⟨w.heap.size,0,none⟩) 0 0) []):=
  ⟨rfl,.inr ⟨w.heap.size,0,#[],rfl,Oa2 _,heap_alloc_new _ _,Oa2 _,Ob7 _,rfl,rfl⟩⟩
 have M:Hid (ns≠[]):=y
 have bj:∀ W:World,(binOp .eql 22 (.slice (some ⟨b,o,none⟩) ns.length cap) (.slice none 0 0)).run prog W=.ok (.bool false) W:=fun W=>Lib.run_eql_slice_some_nil W _ _ _ underlying22
 clear y h
 go_enter func49,ntmps49
 go_wp2_with (at_builtin;go_must (refine Ul (by rfl) _ _ 22 3 _ 8 Zw (by rfl) (by decide) (by kernel_rfl) (by rfl) w.heap.size _ [] (by rfl) (by exact O.out) ⟨b,o,none⟩ cap (ns.map iv) (by simp[Act.eval]) (by exact K.out) (by intro u A;obtain⟨x,_,rfl⟩:=Of0.1 A;rfl) (by simp;omega) (by simp) ?_);intro sv' bc D R bh)
 have U:Below w.heap.size w bc:=Jy (sv:=.slice (some ⟨w.heap.size,0,none⟩) 0 0) E R (fun g Z=>by simp[Value.ownBlock]at Z;omega)
 rw[List.nil_append]at D
 obtain⟨g,c,rfl,ba,bb,hI⟩:=Jrj D M.out
 go_ret
 exact⟨U,g,c,rfl,ba,bb,hI⟩
end Go.Proofs.YtdlgbphkaicfaaaGreatDoor
namespace Go.Proofs.YtdlgbphkaicfaaaGreatDoor
open Go.RowKit Go.Shelf Tryz
theorem Jru:(prog.info? 129).map (fun i=>(i.zero,i.size,i.bytes))=some (some (.pointer none),1,8):=by kernel_rfl
end Go.Proofs.YtdlgbphkaicfaaaGreatDoor
namespace Go.Proofs.YtdlgbphkaicfaaaGreatDoor
open Go.RowKit Go.Shelf Tryz
def Je3 (y hs:List Int):Prop:=hs.length=y.length∧∀ j (A:j<hs.length),way (y.getD j 0) hs[j]=true
structure Kct (w:World) (name:ByteArray) (at_ ar ah:Option Addr) (cr:Nat) (ts hs:List Int) (xs:List (Option Addr×Nat)) (rs:List (List V)):Prop where
 ln:name.size≤maxLen
 lt:ts.length≤maxLen
 lr:rs.length≤maxLen
 lrr:∀ r∈rs,r.length≤maxLen
 lh:hs.length≤maxLen
 cap:rs.length≤cr
 types:Kc w at_ ts
 hows:Kc w ah hs
 rows:Zd w ar xs rs
theorem Kct.below {w w':World}{name:ByteArray}{E D A:Option Addr}{H:Nat}{K hs:List Int}{xs:List (Option Addr×Nat)}{rs:List (List V)}(h:Kct w name E D A H K hs xs rs)(y:Below w.heap.size w w'):Kct w' name E D A H K hs xs rs:=
 ⟨h.ln,h.lt,h.lr,h.lrr,h.lh,h.cap,h.types.below y,h.hows.below y,h.rows.below y⟩
abbrev Jvc (name:ByteArray)(A y:Option Addr)(ct D:Nat)(E:List Int)(rs:List (List V)):Value:=.agg #[.string name,.slice A E.length ct,.slice y rs.length D]
abbrev Jln (name:ByteArray)(A y:Option Addr)(ct D:Nat)(E:List Int)(rs:List (List V)):Obj:=.cells #[.string name,.slice A E.length ct,.slice y rs.length D] 25
end Go.Proofs.YtdlgbphkaicfaaaGreatDoor
namespace Go.Proofs.YtdlgbphkaicfaaaGreatDoor
open Go.RowKit Go.Shelf Tryz
structure Jqy (w:World) (s d:Nat) (F G:Nat→Prop) (D:DS) (Ts:List TS) (sv:Value) (bs:List Nat) (name:ByteArray) (at_ ar ah:Option Addr) (cr:Nat) (ts hs:List Int) (xs:List (Option Addr×Nat)) (rs:List (List V)) (g:Nat):Prop where
 args:Kct w name at_ ar ah cr ts hs xs rs
 tab:Jel name ts rs
 ways:Je3 ts hs
 g1:1≤g
 g2:g≤64
 set:Jfl w G s d Ts sv bs
 new:¬ Ub Ts name<Ts.length
 few:Ts.length<6
 disk:Zb w F d D
 lt:∀ k,F k∨G k→k<w.heap.size
 apart:∀ k,G k→¬ F k
 sF:¬ F s
 gF:∀ g,sv.ownBlock=some g→¬ F g
 tF:∀ b o,at_=some ⟨b,o,none⟩→¬ F b
 small:D.pages.length≤200000
 wayc:∀ x∈hs,Kjk x
end Go.Proofs.YtdlgbphkaicfaaaGreatDoor
namespace Go.Proofs.YtdlgbphkaicfaaaGreatDoor
open Go.RowKit Go.Shelf Tryz
structure Kkv (w:World) (s d:Nat) (F:Nat→Prop) (D:DS) (Ts:List TS) (name:ByteArray) (at_ ar ah:Option Addr) (ct cr ch:Nat) (ts hs:List Int) (rs:List (List V)) (g:Nat) (T:List (List UInt8)) (q qw:Addr):Prop where
 t:Calls prog 43 #[Jvc name at_ ar ct cr ts rs] (w.alloc (Jln name at_ ar ct cr ts rs)) fun e w'=>e=.returned (.bool true)∧Below (w.alloc (Jln name at_ ar ct cr ts rs)).heap.size (w.alloc (Jln name at_ ar ct cr ts rs)) w'
 ws:∀ W,Below w.heap.size w W→Calls prog 44 #[.slice ah hs.length ch,.slice at_ ts.length ct] W fun e w'=>e=.returned (.bool true)∧w'=W
 f:∀ W,Below w.heap.size w W→Calls prog 45 #[.pointer (some ⟨s,0,none⟩),.string name] W fun e w'=>e=.returned (.int .i64 (-1))∧Below W.heap.size W w'
 p:∀ W,Below w.heap.size w W→Calls prog 46 #[.agg #[.string name,.slice at_ ts.length ct,.slice ar rs.length cr],.slice ah hs.length ch,.int .i64 (g:Int)] W fun e w'=>Below W.heap.size W w'∧∃ a cap,e=.returned (.tuple #[.slice a T.length cap,.nilIface])∧Uh w' a (T.map tv)∧∀ b o,a=some ⟨b,o,none⟩→W.heap.size≤b
 l:∀ W a cap,Below w.heap.size w W→Uh W a (T.map tv)→(∀ b o,a=some ⟨b,o,none⟩→w.heap.size≤b)→Calls prog 47 #[.pointer (some ⟨s,0,none⟩),.slice a T.length cap] W fun e w'=>Jxo W F d q qw (Jq D T) e w'
open Classical in
theorem Jqy.hid {w:World}{s d:Nat}{F G:Nat→Prop}{D:DS}{Ts:List TS}{sv:Value}{bs:List Nat}{name:ByteArray}{at_ ar ah:Option Addr}{cr:Nat}{ts hs:List Int}{xs:List (Option Addr×Nat)}{rs:List (List V)}{g:Nat}(h:Jqy w s d F G D Ts sv bs name at_ ar ah cr ts hs xs rs g)(ct ch:Nat)(a0 a1 a2:Addr)(he:Jf0 w a0 a1 a2)
  (T:List (List UInt8)) (hp:Jfg rs ts hs (cks rs.length g (ckN rs.length g))=.inl T) (q qw:Addr) (hq:w.cell? ⟨6,0,none⟩=some (.iface 435 (.pointer (some q)))) (hw:w.cell? ⟨7,0,none⟩=some (.iface 435 (.pointer (some qw)))) (hFq:¬ F 6) (hFw:¬ F 7):Kkv w s d F D Ts name at_ ar ah ct cr ch ts hs rs g T q qw:=by
 have hb0:Below w.heap.size w (w.alloc (Jln name at_ ar ct cr ts rs)):=(Oa5 _ w).alloc (Oa2 _) _
 have hA:=h.args
 have hT:=Kjj name at_ ar ct cr ts xs rs _ hA.ln hA.lt hA.lr hA.lrr (hA.types.below hb0) (hA.rows.below hb0)
 rw[decide_eq_true h.tab]at hT
 have hfv:Jhc Ts name=-1:=by unfold Jhc;rw[if_neg h.new]
 refine⟨hT,fun W hb=>Kjr ah at_ ch ct hs ts W hA.lh (hA.hows.below hb) (hA.types.below hb) true (by simpa [Je3] using h.ways),fun W hb=>by rw[←hfv];exact Jo8 name W G s d Ts sv bs (h.set.below hb),fun W hb=>?_,fun W a cap hb hc ha=>?_⟩
 ·have:=Kkk name at_ ar ah ct cr ch g ts hs xs rs W h.tab h.ways.1 h.ways.2 h.g1 h.g2 hA.cap (hA.types.below hb) (hA.hows.below hb) (hA.rows.below hb) h.wayc a0 a1 a2 (he.below hb)
  rw[hp]at this
  exact this
 obtain⟨hl1,hl2⟩:=Jte rs ts hs _ T hp
 have hck:(cks rs.length g (ckN rs.length g)).length≤200:=by
  have h2:rs.length≤200:=h.tab.2.2.1
  have h3:ckN rs.length g≤rs.length:=by
   unfold ckN
   have:=h.g1
   exact Nat.le_of_lt_succ ((Nat.div_lt_iff_lt_mul (by omega)).2 (by
    have:rs.length+1≤(rs.length+1)*g:=On4 _ (by omega)
    rw[Of5]at this ⊢
    have h5:rs.length≤rs.length*g:=On4 _ (by omega)
    omega))
  simp[cks]
  omega
 have h6:ts.length≤6:=h.tab.2.1.1.2
 have hTl:T.length≤1200:=by
  rw[hl1]
  exact Ob2 (Ol5 hck h6) (by decide)
 have htp:=Joc T fun t ht=>(hl2 t ht).1
 have hsm:=h.small
 exact Kks s d a cap T W F D (h.disk.below hb) (fun k hk=>Oc2 (h.lt k (.inl hk)) hb.size) hc (fun b o hbo hf=>by have:=h.lt b (.inl hf);have:=ha b o hbo;omega) (Ja hb h.set.field.1) h.sF q qw (Ja hb hq) (Ja hb hw) hFq hFw (by omega) (by omega) (fun t ht=>by have:=(hl2 t ht).1;omega)
end Go.Proofs.YtdlgbphkaicfaaaGreatDoor
namespace Go.Proofs.YtdlgbphkaicfaaaGreatDoor
open Go.RowKit Go.Shelf Tryz
def Jdl (w:World)(s d:Nat)(F G:Nat→Prop)(A:DS)(Ts:List TS)(sv:Value)(bs:List Nat)(name:ByteArray)(E:List Int)(rs:List (List V))(g:Nat)(T:List (List UInt8))(w':World):Prop:=
 Ju (fun k=>F k∨Jnr s sv k) w w'∧∃ (FD y:Nat→Prop) (sv':Value) (D:Nat),Zb w' FD d (Jq A T).1∧Jfl w' y s d (Ts++[⟨name,E,rs.length,g,(Jq A T).2.1⟩]) sv' (bs++[D])∧(∀ k,FD k→F k∨w.heap.size≤k)∧(∀ k,y k→G k∨w.heap.size≤k)∧(∀ k,FD k∨y k→k<w'.heap.size)∧(∀ k,y k→¬ FD k)∧¬ FD s∧(∀ k,sv'.ownBlock=some k→¬ FD k)∧(∀ k,sv'.ownBlock=some k→sv.ownBlock=some k∨w.heap.size≤k)
abbrev Jr (name:ByteArray)(y c7:Nat)(E:List Int)(rs:List (List V))(g:Nat)(A:Option Addr)(n D:Nat):Obj:=.cells #[.string name,.slice (some ⟨y,0,none⟩) E.length c7,.int .i64 (rs.length:Int),.int .i64 (g:Int),.slice A n D] 133
theorem Jgq {w:World}{s d:Nat}{F G:Nat→Prop}{K:DS}{Ts:List TS}{sv:Value}{bs:List Nat}{name:ByteArray}{bO bN bM:Option Addr}{bP:Nat}{br hs:List Int}{xs:List (Option Addr×Nat)}{rs:List (List V)}{g:Nat}(h:Jqy w s d F G K Ts sv bs name bO bN bM bP br hs xs rs g)
  {T:List (List UInt8)} {X D A E:World} {FD:Nat→Prop} {bx:Option Addr} {bz:Nat} {bK:List (Option Addr×Nat)} (ba:Below w.heap.size w X) (bf:Ju F X D) (bR:Zb D FD d (Jq K T).1) (bG:∀ k,FD k→F k∨X.heap.size≤k) (bu:∀ k,FD k→k<D.heap.size)
  (bW:Jaf D (fun k=>X.heap.size≤k∧k<D.heap.size∧¬ FD k) bx bK (Jq K T).2.1) (bV:(Jq K T).2.1.length≤bz) (bb:Below D.heap.size D A) {M c7:Nat} (bZ:D.heap.size≤M) (ca:M<A.heap.size) (hI:Kc A (some ⟨M,0,none⟩) br)
  {sv':Value} {bn:Obj} (bT:Jo E 0 129 sv' (bs.map Jcp++[Jcp A.heap.size])) (bc:((A.alloc (Jr name M c7 br rs g bx (Jq K T).2.1.length bz)).alloc bn).grownBy E sv.ownBlock) (bQ:sv'.ownBlock=sv.ownBlock∨sv'.ownBlock=some (A.heap.size+2)) :
  Jdl w s d F G K Ts sv bs name br rs g T (E.setCell ⟨s,1,none⟩ sv'):=by
 have cc:=ba.size
 have cb:=bf.size
 have cf:=bb.size
 have bX:=bc.size
 simp only[Oa7]at bX
 have bB:s<w.heap.size:=Jd h.set.cells
 have bh:∀ k,sv.ownBlock=some k→k<w.heap.size:=fun k y=>Qk h.set.own y
 have bY:∀ k,F k→k<w.heap.size:=fun k y=>h.lt k (.inl y)
 have bA:∀ k,G k→k<w.heap.size:=fun k y=>h.lt k (.inr y)
 have bk:∀ k,k<w.heap.size→FD k→F k:=fun k y hf=>(bG k hf).resolve_right (by omega)
 have bl:(E.setCell ⟨s,1,none⟩ sv').heap.size=E.heap.size:=by simp[World.setCell]
 -- the blocks that stand
 have bJ:∀ k,k<A.heap.size+2→sv.ownBlock≠some k→k≠s→(E.setCell ⟨s,1,none⟩ sv').heap[k]?=((A.alloc (Jr name M c7 br rs g bx (Jq K T).2.1.length bz)).alloc bn).heap[k]?:=fun k y U O=>
  (Oa4 _ _ _ _ O).trans (bc.block k (by simp;omega) (Oc5 U))
 have bI:∀ k,k<A.heap.size→sv.ownBlock≠some k→k≠s→(E.setCell ⟨s,1,none⟩ sv').heap[k]?=A.heap[k]?:=fun k y U O=>
  (bJ k (by omega) U O).trans ((Oa9 _ bn k (by simp;omega)).trans (Oa9 A _ k y))
 have bE:∀ k,k<D.heap.size→sv.ownBlock≠some k→k≠s→(E.setCell ⟨s,1,none⟩ sv').heap[k]?=D.heap[k]?:=fun k y U O=>
  (bI k (by omega) U O).trans (bb.block k y)
 have bH:∀ k,k<w.heap.size→¬ F k→sv.ownBlock≠some k→k≠s→(E.setCell ⟨s,1,none⟩ sv').heap[k]?=w.heap[k]?:=fun k y hF U O=>
  (bE k (by omega) U O).trans ((bf.block k (by omega) hF).trans (ba.block k y))
 have bC:sv.ownBlock≠some s:=fun e=>(h.set.gF s e).2 rfl
 have bU:E.heap[s]?=some (.cells #[.pointer (some ⟨d,0,none⟩),sv] 116 (0,0)):=by
  rw[bc.block s (by simp;omega) (Oc5 bC),Oa9 _ bn s (by simp;omega),Oa9 A _ s (by omega),bb.block s (by omega),bf.block s (by omega) h.sF,ba.block s bB]
  exact h.set.cells
 have H:∀ k,sv'.ownBlock=some k→sv.ownBlock=some k∨k=A.heap.size+2:=fun k y=>by
  rcases bQ with e|e
  ·exact .inl (e▸y)
  rw[e]at y;simp at y;exact .inr y.symm
 refine⟨⟨bc.os.trans ((bb.os).trans (bf.os.trans ba.os)),bc.tape.trans ((bb.tape).trans (bf.tape.trans ba.tape)),bc.output.trans ((bb.output).trans (bf.output.trans ba.output)),by rw[bl];omega,fun k y hn=>bH k y (fun hF=>hn (.inl hF)) (fun e=>hn (.inr (.inr e))) (fun e=>hn (.inr (.inl e)))⟩,
  FD,fun k=>G k∨(X.heap.size≤k∧k<D.heap.size∧¬ FD k)∨k=M∨k=A.heap.size,sv',A.heap.size,?_,?_,fun k y=>(bG k y).imp_right fun h=>by omega,?_,?_,?_,?_,?_,?_⟩
 ·refine bR.stands fun k y R=>bE k R (fun e=>?_) (fun e=>?_)
  ·exact h.gF k e (bk k (bh k e) y)
  subst e;exact h.sF (bk k bB y)
 ·refine⟨heap_setCell_same E s 1 _ _ _ bU,?_,?_,?_,by simp[h.set.len],?_,by have:=h.few;simp;omega⟩
  ·rw[Ob8,Oe4,Oi4]
   refine Yd bT fun k y=>Oa4 _ _ _ _ fun e=>?_
   subst e
   rcases H k y with e|e
   ·exact bC e
   omega
  ·rintro(h1|⟨h1,_⟩|h1|h1)
   ·exact h.set.sF h1
   ·omega
   ·omega
   omega
  ·intro k y
   refine⟨?_,fun e=>?_⟩
   ·rintro(h1|⟨h1,h2,_⟩|h1|h1)
    ·rcases H k y with e|e
     ·exact(h.set.gF k e).1 h1
     have:=bA k h1;omega
    ·rcases H k y with e|e
     ·have:=bh k e;omega
     omega
    ·rcases H k y with e|e
     ·have:=bh k e;omega
     omega
    rcases H k y with e|e
    ·have:=bh k e;omega
    omega
   subst e
   rcases H k y with e|e
   ·exact bC e
   omega
  intro i b bL Z bi
  by_cases hi:i<bs.length
  ·rw[Ob0 hi]at Z
   rw[Ob0 (by rw[←h.set.len];exact hi)]at bi
   refine((h.set.tab i b bL Z bi).stands (by rw[bl];omega) fun k y R=>bH k R (h.apart k y) (fun e=>(h.set.gF k e).1 y) (fun e=>h.set.sF (e▸y))).mono fun k y=>.inl y
  have bS:i=bs.length:=by
   have:=(Ob9.1 Z).1
   simp at this
   omega
  subst bS
  rw[Ob6 (Oa2 _)]at Z
  rw[h.set.len,Ob6 (Oa2 _)]at bi
  simp at Z bi
  subst Z bi
  have bD:∀ k,X.heap.size≤k→sv.ownBlock≠some k:=fun k y e=>by have:=bh k e;omega
  refine⟨some ⟨M,0,none⟩,c7,bx,bz,bK,?_,?_,?_,?_,bV,.inr (.inr (.inr rfl))⟩
  ·rw[bJ _ (by omega) (bD _ (by omega)) (by omega),Oa9 _ bn _ (by simp),heap_alloc_new]
  ·refine hI.of_block (by rw[bl];omega) fun b o bj R=>?_
   simp at bj
   obtain⟨rfl,rfl⟩:=bj
   exact bI _ R (bD _ (by omega)) (by omega)
  ·intro b o bj
   simp at bj
   exact .inr (.inr (.inl bj.1.symm))
  exact(bW.stands (by rw[bl];omega) fun k y R=>bE k R (bD k y.1) (by have:=y.1;omega)).mono fun k y=>.inr (.inl y)
 ·rintro k (h1|⟨h1,_⟩|h1|h1)
  ·exact .inl h1
  ·exact .inr (by omega)
  ·exact .inr (by omega)
  exact .inr (by omega)
 ·rw[bl]
  rintro k (h1|h1|⟨_,h1,_⟩|h1|h1)
  ·have:=bu k h1;omega
  ·have:=bA k h1;omega
  ·omega
  ·omega
  omega
 ·rintro k (h1|⟨_,_,h1⟩|h1|h1) hf
  ·exact h.apart k h1 (bk k (bA k h1) hf)
  ·exact h1 hf
  ·have:=bu k hf;omega
  have:=bu k hf;omega
 ·exact fun hf=>h.sF (bk s bB hf)
 ·intro k y hf
  rcases H k y with e|e
  ·exact h.gF k e (bk k (bh k e) hf)
  have:=bu k hf;omega
 intro k y
 rcases H k y with e|e
 ·exact .inl e
 exact .inr (by omega)
theorem Ked (s d:Nat)(F G:Nat→Prop)(bx:DS)(Ts:List TS)(sv:Value)(bs:List Nat)(name:ByteArray)(bD bK cv:Option Addr)(ct bL cz:Nat)(D hs:List Int)(xs:List (Option Addr×Nat))(rs:List (List V))(g:Nat)(w:World)(h:Jqy w s d F G bx Ts sv bs name bD bK cv bL D hs xs rs g)(dk dm dp:Addr)(dY:Jf0 w dk dm dp)
  (T:List (List UInt8)) (dD:Jfg rs D hs (cks rs.length g (ckN rs.length g))=.inl T) (q dP:Addr) (dH:w.cell? ⟨6,0,none⟩=some (.iface 435 (.pointer (some q)))) (dK:w.cell? ⟨7,0,none⟩=some (.iface 435 (.pointer (some dP)))) (dV:¬ F 6) (dW:¬ F 7) (dL:(Jq bx T).2.2=none) :
  Calls prog 30 #[.pointer (some ⟨s,0,none⟩),Jvc name bD bK ct bL D rs,.slice cv hs.length cz,.int .i64 (g:Int)] w fun e w'=>e=.returned .nilIface∧Jdl w s d F G bx Ts sv bs name D rs g T w':=by
 have dX:Below w.heap.size w (w.alloc (Jln name bD bK ct bL D rs)):=(Oa5 _ w).alloc (Oa2 _) _
 obtain⟨dB,hW,hF,dA,hL⟩:=h.hid ct cz dk dm dp dY T dD q dP dH dK dV dW
 have dj:Hid (∀ W,Below w.heap.size w W→Calls prog 44 #[.slice cv hs.length cz,.slice bD D.length ct] W fun e w'=>e=.returned (.bool true)∧w'=W):=hW
 have df:Hid (∀ W,Below w.heap.size w W→Calls prog 45 #[.pointer (some ⟨s,0,none⟩),.string name] W fun e w'=>e=.returned (.int .i64 (-1))∧Below W.heap.size W w'):=hF
 have dh:Hid (∀ W,Below w.heap.size w W→Calls prog 46 #[.agg #[.string name,.slice bD D.length ct,.slice bK rs.length bL],.slice cv hs.length cz,.int .i64 (g:Int)] W fun e w'=>Below W.heap.size W w'∧∃ a cap,e=.returned (.tuple #[.slice a T.length cap,.nilIface])∧Uh w' a (T.map tv)∧∀ b o,a=some ⟨b,o,none⟩→W.heap.size≤b):=dA
 have dg:Hid (∀ W a cap,Below w.heap.size w W→Uh W a (T.map tv)→(∀ b o,a=some ⟨b,o,none⟩→w.heap.size≤b)→Calls prog 47 #[.pointer (some ⟨s,0,none⟩),.slice a T.length cap] W fun e w'=>Ju F W w'∧∃ FD:Nat→Prop,Zb w' FD d (Jq bx T).1∧(∀ k,FD k→F k∨W.heap.size≤k)∧(∀ k,FD k→k<w'.heap.size)∧∃ K M dc,e=.returned (.tuple #[.slice K (Jq bx T).2.1.length M,.nilIface])∧Jaf w' (fun k=>W.heap.size≤k∧k<w'.heap.size∧¬ FD k) K dc (Jq bx T).2.1∧(Jq bx T).2.1.length≤M):=fun W a cap h1 h2 dU=>
  (hL W a cap h1 h2 dU).mono fun e w' da=>by
   unfold Jxo at da
   rw[dL]at da
   exact da
 have dM:(w.alloc (Jln name bD bK ct bL D rs)).cell? ⟨w.heap.size,0,none⟩=some (.string name):=by simp
 have dN:(w.alloc (Jln name bD bK ct bL D rs)).cell? ⟨w.heap.size,1,none⟩=some (.slice bD D.length ct):=by simp
 have dO:(w.alloc (Jln name bD bK ct bL D rs)).cell? ⟨w.heap.size,2,none⟩=some (.slice bK rs.length bL):=by simp
 have cZ:¬ F w.heap.size:=fun hf=>Oe3 _ (h.lt _ (.inl hf))
 have U:Hid (Jqy w s d F G bx Ts sv bs name bD bK cv bL D hs xs rs g):=h
 obtain⟨_,c1⟩:=h.set.field
 obtain⟨a,cap,dJ,_⟩:=h.set.own.cells
 rw[Oa6,h.set.len]at dJ
 subst dJ
 have fh:=h.few
 have fi:=h.g1
 have fj:=h.g2
 have dZ:=h.sF
 have cI:D≠[]:=fun e=>by have:=h.tab.2.1.1.1;rw[e]at this;simp at this
 obtain⟨cr,cu,rfl⟩:∃ b o,bD=some ⟨b,o,none⟩:=by
  rcases h.args.types with h0|⟨b,o,cW,_⟩
  ·simp at h0;exact absurd h0 cI
  exact⟨b,o,cW⟩
 have fe:Hid (D≠[]):=cI
 have fk:rs.length≤200:=h.tab.2.2.1
 generalize hR:(Jq bx T).2.1=O at *
 have cx:Hid ((Jq bx T).2.1=O):=hR
 clear hR
 have di:Hid (∀ W,Calls prog 48 #[.string name] W fun e w'=>e=.returned (.string name)∧Below W.heap.size W w'):=fun W=>by
  have:=Jhm name.toList W (by have:=h.tab.1.2;rw[←Jb2,Zf];omega)
  rwa [Zf]at this
 have cS:Hid (∀ W,Kc W (some ⟨cr,cu,none⟩) D→Calls prog 49 #[.slice (some ⟨cr,cu,none⟩) D.length ct] W fun e w'=>Below W.heap.size W w'∧∃ g c,e=.returned (.slice (some ⟨g,0,none⟩) D.length c)∧W.heap.size≤g∧g<w'.heap.size∧Kc w' (some ⟨g,0,none⟩) D):=fun W hI=>Jhe cr cu ct D W cI (by have:=h.tab.2.1.1.2;omega) hI
 obtain⟨cO,cG,cK,cM,cN⟩:=info_parts Jru
 clear h dD hW hF dA hL dH dK dL cI
 go_enter func30,ntmps30
 go_wp2_with (first|(go_at_call 43;refine dB.mono ?_;rintro e dQ ⟨rfl,cA⟩;have cX:=Jb dX cA;have dq:=Ja cA dM;have dr:=Ja cA dN;have ds:=Ja cA dO)|(go_at_call 44;refine(dj.out dQ cX).mono ?_;rintro e ff ⟨rfl,rfl⟩)|(go_at_call 45;refine(df.out _ cX).mono ?_;rintro e fg ⟨rfl,cB⟩;have cC:=Jb cX cB;have dS:=Ja cC c1;have dt:=Ja cB dq;have bM:=Ja cB dr;have du:=Ja cB ds)|(go_at_call 46;refine(dh.out _ cC).mono ?_;rintro e dR ⟨cD,fb,fc,rfl,dG,dE⟩;have bh:=Jb cC cD;have dv:=Ja cD dt;have dw:=Ja cD bM;have dx:=Ja cD du;have dy:=Ja bh c1;have fd:=cC.size)|(go_at_call 47;refine(dg.out _ fb fc bh dG (fun b o cW=>Ob2 fd (dE b o cW))).mono ?_;rintro e ba ⟨bb,FD,cE,cF,cH,K,M,dc,rfl,dI,cJ⟩;have dT:=bb.cell dv cZ;have g1:=bb.cell dw cZ;have g2:=bb.cell dx cZ;have gc:=bb.cell dy dZ))
 have dz:Kc ba (some ⟨cr,cu,none⟩) D:=(U.out.args.types.below bh).of_block bb.size fun b o dC bV=>by
  simp at dC
  obtain⟨rfl,rfl⟩:=dC
  exact bb.block _ bV (U.out.tF _ _ rfl)
 have cT:Hid (Kc ba (some ⟨cr,cu,none⟩) D):=dz
 have cy:Hid (Jaf ba (fun k=>dR.heap.size≤k∧k<ba.heap.size∧¬ FD k) K dc O):=dI
 clear dz dI dB dM dN dO dq dr ds dt bM du dv dw dx dy dS c1 dG dE dj df dh dg
 refine wp_region_held_drew (S:=fun cU=>cU.cell? ⟨w.heap.size,0,none⟩=some (.string name)∧cU.cell? ⟨w.heap.size,1,none⟩=some (.slice (some ⟨cr,cu,none⟩) D.length ct)∧cU.cell? ⟨w.heap.size,2,none⟩=some (.slice bK rs.length bL)) (by kernel_rfl) ⟨dT,g1,g2⟩ (fun A=>?_)
 refine tk 0 ?_ rfl A ?_ (tk 1 ?_ rfl A ?_ (tk 2 ?_ rfl A ?_ (tk 3 ?_ rfl A ?_ (tk 5 ?_ rfl A ?_ (tk 6 ?_ rfl A ?_ (tk 8 ?_ rfl A ?_ (tk 9 ?_ rfl A ?_ (tk 11 ?_ rfl A ?_ (tk 12 ?_ rfl A ?_ (tk 13 ?_ rfl A ?_ (tk 14 ?_ rfl A ?_ (tk 15 ?_ rfl A ?_ ?_))))))))))))
 iterate 13
  rotate_left 1
  ·intro w bA;(try dsimp only at bA);go_simp;try rfl
 simp only[Act.put,List.getElem_toArray,List.getElem_cons_zero,List.getElem_cons_succ,Oa1,List.set_cons_zero,List.set_cons_succ]
 refine wpAnyH_ready (rs:=[4,7]) (by kernel_rfl) (by simp) (AllReadyH.cons rfl (fun R E=>?_) (AllReadyH.cons rfl (fun R E=>?_) AllReadyH.nil))
 ·go_simp
  refine E.out _ _ A (fun A=>?_)
  clear E R
  refine wpAnyH_ready (rs:=[7]) (by kernel_rfl) (by simp) (AllReadyH.cons rfl (fun R E=>?_) AllReadyH.nil)
  go_simp
  refine(di.out _).mono ?_
  rintro e bN ⟨rfl,bi⟩
  have cP:=Ja bi (show ba.drew.cell? _=_ from gc)
  go_simp
  refine E.out _ _ ⟨Ja bi A.1,Ja bi A.2.1,Ja bi A.2.2⟩ (fun A=>?_)
  clear E R
  refine wpAnyH_ready (rs:=[10]) (by kernel_rfl) (by simp) (AllReadyH.cons rfl (fun R E=>?_) AllReadyH.nil)
  go_simp
  refine(cS.out _ ((cT.out.of_block (w':=bN) bi.size fun b o _ bV=>bi.block b bV))).mono ?_
  rintro e y ⟨bz,H,c7,rfl,cj,cl,bO⟩
  have ci:Hid (Kc y (some ⟨H,0,none⟩) D):=bO
  clear bO
  have cn:=Ja bz cP
  go_simp
  refine E.out _ _ ⟨Ja bz A.1,Ja bz A.2.1,Ja bz A.2.2⟩ (fun A=>?_)
  clear E R
  refine tk 16 ?_ rfl A ?_ ?_
  rotate_left 1
  ·intro w bA;(try dsimp only at bA);go_simp;try rfl
  simp only[Act.put,List.getElem_toArray,List.getElem_cons_zero,List.getElem_cons_succ,Oa1,List.set_cons_zero,List.set_cons_succ]
  refine wpAnyH_ready (rs:=[17]) (by kernel_rfl) (by simp) (AllReadyH.cons rfl (fun R E=>?_) AllReadyH.nil)
  go_simp
  have bj:Below y.heap.size y (y.alloc (Jr name H c7 D rs g K O.length M)):=(Oa5 _ _).alloc (Oa2 _) _
  have bP:=Ja bj cn
  refine E.out _ _ ⟨Ja bj A.1,Ja bj A.2.1,Ja bj A.2.2⟩ (fun A=>?_)
  clear E R
  refine wpAnyH_ready (rs:=[18]) (by kernel_rfl) (by simp) (AllReadyH.cons rfl (fun R E=>?_) AllReadyH.nil)
  go_simp
  have Z:Below (y.alloc (Jr name H c7 D rs g K O.length M)).heap.size (y.alloc (Jr name H c7 D rs g K O.length M)) ((y.alloc (Jr name H c7 D rs g K O.length M)).alloc (.cells #[.pointer (some ⟨y.heap.size,0,none⟩)] 129)):=(Oa5 _ _).alloc (Oa2 _) _
  have cQ:=Ja Z bP
  refine E.out _ _ ⟨Ja Z A.1,Ja Z A.2.1,Ja Z A.2.2⟩ (fun A=>?_)
  clear E R
  refine wpAnyH_ready (rs:=[19]) (by kernel_rfl) (by simp) (AllReadyH.cons rfl (fun R E=>?_) AllReadyH.nil)
  have cc:ba.heap.size≤bN.heap.size:=bi.size
  have bB:Below ba.heap.size ba y:=Jw (Jb bi bz)
  have bC:∀ k,k<ba.heap.size→((y.alloc (Jr name H c7 D rs g K O.length M)).alloc (.cells #[.pointer (some ⟨y.heap.size,0,none⟩)] 129)).heap[k]?=ba.heap[k]?:=fun k br=>by
   have dd:=bB.size
   rw[Z.block k (by simp;omega),bj.block k (by omega),bB.block k br]
  have bG:Jo ((y.alloc (Jr name H c7 D rs g K O.length M)).alloc (.cells #[.pointer (some ⟨y.heap.size,0,none⟩)] 129)) 0 129 (.slice a Ts.length cap) (bs.map Jcp):=Yd U.out.set.own fun k br=>by
   have bU:=Qk U.out.set.own br
   have ch:=bh.size
   have cf:=bb.size
   rw[bC k (by omega),bb.block k (by omega) (U.out.gF k br),bh.block k bU]
  have bZ:((y.alloc (Jr name H c7 D rs g K O.length M)).alloc (.cells #[.pointer (some ⟨y.heap.size,0,none⟩)] 129)).ownsRow 0 129 1 (.slice a Ts.length cap) Ts.length (bs.map Jcp):=by
   have:=bG
   unfold Jo at this
   rwa [Oa6,U.out.set.len]at this
  have bH:((y.alloc (Jr name H c7 D rs g K O.length M)).alloc (.cells #[.pointer (some ⟨y.heap.size,0,none⟩)] 129)).heap[s]?=some (.cells #[.pointer (some ⟨d,0,none⟩),.slice a Ts.length cap] 116 (0,0)):=by
   have ca:=Jd U.out.set.cells
   have ch:=bh.size
   have cf:=bb.size
   rw[bC s (by omega),bb.block s (by omega) U.out.sF,bh.block s ca]
   exact U.out.set.cells
  have bT:((y.alloc (Jr name H c7 D rs g K O.length M)).alloc (.cells #[.pointer (some ⟨y.heap.size,0,none⟩)] 129)).heap[y.heap.size+1]?=some (.cells #[.pointer (some ⟨y.heap.size,0,none⟩)] 129 (0,0)):=by
   have:=heap_alloc_new (y.alloc (Jr name H c7 D rs g K O.length M)) (.cells #[.pointer (some ⟨y.heap.size,0,none⟩)] 129)
   rwa [Oa7]at this
  refine step_append_lies ((y.alloc (Jr name H c7 D rs g K O.length M)).alloc (.cells #[.pointer (some ⟨y.heap.size,0,none⟩)] 129)) rfl (.tmp 73) (.tmp 87) 114 rfl 0 129 cO (.pointer none) 1 8 underlying114 cG cK cM cN rfl (by decide) (.slice a Ts.length cap) Ts.length (bs.map Jcp) rfl bZ ⟨y.heap.size+1,0,none⟩ 1 1 [Jcp y.heap.size] rfl rfl (fun j u bu=>World.news_of_block bT j u (by simpa [Jcp] using bu)) (fun u bu=>by simp at bu;subst bu;rfl) (by decide) (by unfold maxLen;omega) (by omega) (Ob7 _) (y.heap.size+2) (by simp) (fun bf bc X bY bn bS cY=>?_)
  have de:=bn.size
  have bW:(Value.slice a Ts.length cap).ownBlock≠some s:=fun e=>(U.out.set.gF s e).2 rfl
  have bX:(Value.slice a Ts.length cap).ownBlock≠some w.heap.size:=fun e=>Oe3 _ (Qk U.out.set.own e)
  have bI:X.heap[s]?=some (.cells #[.pointer (some ⟨d,0,none⟩),.slice a Ts.length cap] 116 (0,0)):=(bn.block s (Jd bH) (Oc5 bW)).trans bH
  have bJ:X.heap[w.heap.size]?=((y.alloc (Jr name H c7 D rs g K O.length M)).alloc (.cells #[.pointer (some ⟨y.heap.size,0,none⟩)] 129)).heap[w.heap.size]?:=bn.block w.heap.size (Jm A.1) (Oc5 bX)
  have bl:∀ o:Nat,X.cell? ⟨w.heap.size,o,none⟩=((y.alloc (Jr name H c7 D rs g K O.length M)).alloc (.cells #[.pointer (some ⟨y.heap.size,0,none⟩)] 129)).cell? ⟨w.heap.size,o,none⟩:=fun o=>by simp only[World.cell?,bJ]
  have db:s≠w.heap.size:=fun e=>by have:=Jd U.out.set.cells;omega
  refine E.out _ _ ⟨(bl 0).trans A.1,(bl 1).trans A.2.1,(bl 2).trans A.2.2⟩ (fun A=>?_)
  clear E R bl bJ bG bC
  have cb:X.cell? ⟨s,1,none⟩=some (.slice a Ts.length cap):=by simp[World.cell?,bI]
  have bR:X.frozen? ⟨s,1,none⟩=false:=by simp[World.frozen?,bI]
  simp only[Act.put,List.getElem_toArray,List.getElem_cons_zero,List.getElem_cons_succ,Oa1,List.set_cons_zero,List.set_cons_succ]
  refine tk 20 ?_ rfl A ?_ (tk 21 ?_ rfl A ?_ ?_)
  iterate 2
   rotate_left 1
   ·intro w bA;(try dsimp only at bA);go_simp;try rfl
  simp only[Act.put,List.getElem_toArray,List.getElem_cons_zero,List.getElem_cons_succ,Oa1,List.set_cons_zero,List.set_cons_succ]
  refine wpAnyH_ready (rs:=[22]) (by kernel_rfl) (by simp) (AllReadyH.cons rfl (fun R E=>?_) AllReadyH.nil)
  go_simp
  have bk:∀ o:Nat,(X.setCell ⟨s,1,none⟩ (.slice (some ⟨bf,0,none⟩) (Ts.length+1) bc)).cell? ⟨w.heap.size,o,none⟩=X.cell? ⟨w.heap.size,o,none⟩:=fun o=>Ob5 _ _ _ _ (by intro e;injection e with bM;exact absurd bM (by omega))
  refine E.out _ _ ⟨(bk 0).trans A.1,(bk 1).trans A.2.1,(bk 2).trans A.2.2⟩ (fun A=>?_)
  clear E R bk
  refine wpAnyH_done (by kernel_rfl) ?_ _
  clear A cb bR
  have bE:Jdl w s d F G bx Ts (.slice a Ts.length cap) bs name D rs g T (X.setCell ⟨s,1,none⟩ (.slice (some ⟨bf,0,none⟩) (Ts.length+1) bc)):=by
   obtain rfl:=cx.out
   refine Jgq U.out bh bb cE cF cH cy.out cJ bB (Ob2 cc cj) cl ci.out (sv':=.slice (some ⟨bf,0,none⟩) (Ts.length+1) bc) ?_ bn (by rcases bS with e|e;exact .inl (by rw[e];rfl);exact .inr (by rw[e];rfl))
   unfold Jo
   rw[Oa8,Oa6,U.out.set.len]
   exact bY
  have bQ:Hid (Jdl w s d F G bx Ts (.slice a Ts.length cap) bs name D rs g T (X.setCell ⟨s,1,none⟩ (.slice (some ⟨bf,0,none⟩) (Ts.length+1) bc))):=bE
  clear bE
  generalize X.setCell ⟨s,1,none⟩ (.slice (some ⟨bf,0,none⟩) (Ts.length+1) bc)=cV at *
  go_wp2
  go_ret
  exact⟨rfl,bQ.out⟩
 go_simp
 refine(di.out _).mono ?_
 rintro e bN ⟨rfl,bi⟩
 have cP:=Ja bi (show ba.drew.cell? _=_ from gc)
 go_simp
 refine E.out _ _ ⟨Ja bi A.1,Ja bi A.2.1,Ja bi A.2.2⟩ (fun A=>?_)
 clear E R
 refine wpAnyH_ready (rs:=[4,10]) (by kernel_rfl) (by simp) (AllReadyH.cons rfl (fun R E=>?_) (AllReadyH.cons rfl (fun R E=>?_) AllReadyH.nil))
 ·go_simp
  refine E.out _ _ A (fun A=>?_)
  clear E R
  refine wpAnyH_ready (rs:=[10]) (by kernel_rfl) (by simp) (AllReadyH.cons rfl (fun R E=>?_) AllReadyH.nil)
  go_simp
  refine(cS.out _ ((cT.out.of_block (w':=bN) bi.size fun b o _ bV=>bi.block b bV))).mono ?_
  rintro e y ⟨bz,H,c7,rfl,cj,cl,bO⟩
  have ci:Hid (Kc y (some ⟨H,0,none⟩) D):=bO
  clear bO
  have cn:=Ja bz cP
  go_simp
  refine E.out _ _ ⟨Ja bz A.1,Ja bz A.2.1,Ja bz A.2.2⟩ (fun A=>?_)
  clear E R
  refine tk 16 ?_ rfl A ?_ ?_
  rotate_left 1
  ·intro w bA;(try dsimp only at bA);go_simp;try rfl
  simp only[Act.put,List.getElem_toArray,List.getElem_cons_zero,List.getElem_cons_succ,Oa1,List.set_cons_zero,List.set_cons_succ]
  refine wpAnyH_ready (rs:=[17]) (by kernel_rfl) (by simp) (AllReadyH.cons rfl (fun R E=>?_) AllReadyH.nil)
  go_simp
  have bj:Below y.heap.size y (y.alloc (Jr name H c7 D rs g K O.length M)):=(Oa5 _ _).alloc (Oa2 _) _
  have bP:=Ja bj cn
  refine E.out _ _ ⟨Ja bj A.1,Ja bj A.2.1,Ja bj A.2.2⟩ (fun A=>?_)
  clear E R
  refine wpAnyH_ready (rs:=[18]) (by kernel_rfl) (by simp) (AllReadyH.cons rfl (fun R E=>?_) AllReadyH.nil)
  go_simp
  have Z:Below (y.alloc (Jr name H c7 D rs g K O.length M)).heap.size (y.alloc (Jr name H c7 D rs g K O.length M)) ((y.alloc (Jr name H c7 D rs g K O.length M)).alloc (.cells #[.pointer (some ⟨y.heap.size,0,none⟩)] 129)):=(Oa5 _ _).alloc (Oa2 _) _
  have cQ:=Ja Z bP
  refine E.out _ _ ⟨Ja Z A.1,Ja Z A.2.1,Ja Z A.2.2⟩ (fun A=>?_)
  clear E R
  refine wpAnyH_ready (rs:=[19]) (by kernel_rfl) (by simp) (AllReadyH.cons rfl (fun R E=>?_) AllReadyH.nil)
  have cc:ba.heap.size≤bN.heap.size:=bi.size
  have bB:Below ba.heap.size ba y:=Jw (Jb bi bz)
  have bC:∀ k,k<ba.heap.size→((y.alloc (Jr name H c7 D rs g K O.length M)).alloc (.cells #[.pointer (some ⟨y.heap.size,0,none⟩)] 129)).heap[k]?=ba.heap[k]?:=fun k br=>by
   have dd:=bB.size
   rw[Z.block k (by simp;omega),bj.block k (by omega),bB.block k br]
  have bG:Jo ((y.alloc (Jr name H c7 D rs g K O.length M)).alloc (.cells #[.pointer (some ⟨y.heap.size,0,none⟩)] 129)) 0 129 (.slice a Ts.length cap) (bs.map Jcp):=Yd U.out.set.own fun k br=>by
   have bU:=Qk U.out.set.own br
   have ch:=bh.size
   have cf:=bb.size
   rw[bC k (by omega),bb.block k (by omega) (U.out.gF k br),bh.block k bU]
  have bZ:((y.alloc (Jr name H c7 D rs g K O.length M)).alloc (.cells #[.pointer (some ⟨y.heap.size,0,none⟩)] 129)).ownsRow 0 129 1 (.slice a Ts.length cap) Ts.length (bs.map Jcp):=by
   have:=bG
   unfold Jo at this
   rwa [Oa6,U.out.set.len]at this
  have bH:((y.alloc (Jr name H c7 D rs g K O.length M)).alloc (.cells #[.pointer (some ⟨y.heap.size,0,none⟩)] 129)).heap[s]?=some (.cells #[.pointer (some ⟨d,0,none⟩),.slice a Ts.length cap] 116 (0,0)):=by
   have ca:=Jd U.out.set.cells
   have ch:=bh.size
   have cf:=bb.size
   rw[bC s (by omega),bb.block s (by omega) U.out.sF,bh.block s ca]
   exact U.out.set.cells
  have bT:((y.alloc (Jr name H c7 D rs g K O.length M)).alloc (.cells #[.pointer (some ⟨y.heap.size,0,none⟩)] 129)).heap[y.heap.size+1]?=some (.cells #[.pointer (some ⟨y.heap.size,0,none⟩)] 129 (0,0)):=by
   have:=heap_alloc_new (y.alloc (Jr name H c7 D rs g K O.length M)) (.cells #[.pointer (some ⟨y.heap.size,0,none⟩)] 129)
   rwa [Oa7]at this
  refine step_append_lies ((y.alloc (Jr name H c7 D rs g K O.length M)).alloc (.cells #[.pointer (some ⟨y.heap.size,0,none⟩)] 129)) rfl (.tmp 73) (.tmp 87) 114 rfl 0 129 cO (.pointer none) 1 8 underlying114 cG cK cM cN rfl (by decide) (.slice a Ts.length cap) Ts.length (bs.map Jcp) rfl bZ ⟨y.heap.size+1,0,none⟩ 1 1 [Jcp y.heap.size] rfl rfl (fun j u bu=>World.news_of_block bT j u (by simpa [Jcp] using bu)) (fun u bu=>by simp at bu;subst bu;rfl) (by decide) (by unfold maxLen;omega) (by omega) (Ob7 _) (y.heap.size+2) (by simp) (fun bf bc X bY bn bS cY=>?_)
  have de:=bn.size
  have bW:(Value.slice a Ts.length cap).ownBlock≠some s:=fun e=>(U.out.set.gF s e).2 rfl
  have bX:(Value.slice a Ts.length cap).ownBlock≠some w.heap.size:=fun e=>Oe3 _ (Qk U.out.set.own e)
  have bI:X.heap[s]?=some (.cells #[.pointer (some ⟨d,0,none⟩),.slice a Ts.length cap] 116 (0,0)):=(bn.block s (Jd bH) (Oc5 bW)).trans bH
  have bJ:X.heap[w.heap.size]?=((y.alloc (Jr name H c7 D rs g K O.length M)).alloc (.cells #[.pointer (some ⟨y.heap.size,0,none⟩)] 129)).heap[w.heap.size]?:=bn.block w.heap.size (Jm A.1) (Oc5 bX)
  have bl:∀ o:Nat,X.cell? ⟨w.heap.size,o,none⟩=((y.alloc (Jr name H c7 D rs g K O.length M)).alloc (.cells #[.pointer (some ⟨y.heap.size,0,none⟩)] 129)).cell? ⟨w.heap.size,o,none⟩:=fun o=>by simp only[World.cell?,bJ]
  have db:s≠w.heap.size:=fun e=>by have:=Jd U.out.set.cells;omega
  refine E.out _ _ ⟨(bl 0).trans A.1,(bl 1).trans A.2.1,(bl 2).trans A.2.2⟩ (fun A=>?_)
  clear E R bl bJ bG bC
  have cb:X.cell? ⟨s,1,none⟩=some (.slice a Ts.length cap):=by simp[World.cell?,bI]
  have bR:X.frozen? ⟨s,1,none⟩=false:=by simp[World.frozen?,bI]
  simp only[Act.put,List.getElem_toArray,List.getElem_cons_zero,List.getElem_cons_succ,Oa1,List.set_cons_zero,List.set_cons_succ]
  refine tk 20 ?_ rfl A ?_ (tk 21 ?_ rfl A ?_ ?_)
  iterate 2
   rotate_left 1
   ·intro w bA;(try dsimp only at bA);go_simp;try rfl
  simp only[Act.put,List.getElem_toArray,List.getElem_cons_zero,List.getElem_cons_succ,Oa1,List.set_cons_zero,List.set_cons_succ]
  refine wpAnyH_ready (rs:=[22]) (by kernel_rfl) (by simp) (AllReadyH.cons rfl (fun R E=>?_) AllReadyH.nil)
  go_simp
  have bk:∀ o:Nat,(X.setCell ⟨s,1,none⟩ (.slice (some ⟨bf,0,none⟩) (Ts.length+1) bc)).cell? ⟨w.heap.size,o,none⟩=X.cell? ⟨w.heap.size,o,none⟩:=fun o=>Ob5 _ _ _ _ (by intro e;injection e with bM;exact absurd bM (by omega))
  refine E.out _ _ ⟨(bk 0).trans A.1,(bk 1).trans A.2.1,(bk 2).trans A.2.2⟩ (fun A=>?_)
  clear E R bk
  refine wpAnyH_done (by kernel_rfl) ?_ _
  clear A cb bR
  have bE:Jdl w s d F G bx Ts (.slice a Ts.length cap) bs name D rs g T (X.setCell ⟨s,1,none⟩ (.slice (some ⟨bf,0,none⟩) (Ts.length+1) bc)):=by
   obtain rfl:=cx.out
   refine Jgq U.out bh bb cE cF cH cy.out cJ bB (Ob2 cc cj) cl ci.out (sv':=.slice (some ⟨bf,0,none⟩) (Ts.length+1) bc) ?_ bn (by rcases bS with e|e;exact .inl (by rw[e];rfl);exact .inr (by rw[e];rfl))
   unfold Jo
   rw[Oa8,Oa6,U.out.set.len]
   exact bY
  have bQ:Hid (Jdl w s d F G bx Ts (.slice a Ts.length cap) bs name D rs g T (X.setCell ⟨s,1,none⟩ (.slice (some ⟨bf,0,none⟩) (Ts.length+1) bc))):=bE
  clear bE
  generalize X.setCell ⟨s,1,none⟩ (.slice (some ⟨bf,0,none⟩) (Ts.length+1) bc)=cV at *
  go_wp2
  go_ret
  exact⟨rfl,bQ.out⟩
 go_simp
 refine(cS.out _ ((cT.out.of_block (w':=bN) bi.size fun b o _ bV=>bi.block b bV))).mono ?_
 rintro e y ⟨bz,H,c7,rfl,cj,cl,bO⟩
 have ci:Hid (Kc y (some ⟨H,0,none⟩) D):=bO
 clear bO
 have cn:=Ja bz cP
 go_simp
 refine E.out _ _ ⟨Ja bz A.1,Ja bz A.2.1,Ja bz A.2.2⟩ (fun A=>?_)
 clear E R
 refine tk 16 ?_ rfl A ?_ ?_
 rotate_left 1
 ·intro w bA;(try dsimp only at bA);go_simp;try rfl
 simp only[Act.put,List.getElem_toArray,List.getElem_cons_zero,List.getElem_cons_succ,Oa1,List.set_cons_zero,List.set_cons_succ]
 refine wpAnyH_ready (rs:=[4,17]) (by kernel_rfl) (by simp) (AllReadyH.cons rfl (fun R E=>?_) (AllReadyH.cons rfl (fun R E=>?_) AllReadyH.nil))
 ·go_simp
  refine E.out _ _ A (fun A=>?_)
  clear E R
  refine wpAnyH_ready (rs:=[17]) (by kernel_rfl) (by simp) (AllReadyH.cons rfl (fun R E=>?_) AllReadyH.nil)
  go_simp
  have bj:Below y.heap.size y (y.alloc (Jr name H c7 D rs g K O.length M)):=(Oa5 _ _).alloc (Oa2 _) _
  have bP:=Ja bj cn
  refine E.out _ _ ⟨Ja bj A.1,Ja bj A.2.1,Ja bj A.2.2⟩ (fun A=>?_)
  clear E R
  refine wpAnyH_ready (rs:=[18]) (by kernel_rfl) (by simp) (AllReadyH.cons rfl (fun R E=>?_) AllReadyH.nil)
  go_simp
  have Z:Below (y.alloc (Jr name H c7 D rs g K O.length M)).heap.size (y.alloc (Jr name H c7 D rs g K O.length M)) ((y.alloc (Jr name H c7 D rs g K O.length M)).alloc (.cells #[.pointer (some ⟨y.heap.size,0,none⟩)] 129)):=(Oa5 _ _).alloc (Oa2 _) _
  have cQ:=Ja Z bP
  refine E.out _ _ ⟨Ja Z A.1,Ja Z A.2.1,Ja Z A.2.2⟩ (fun A=>?_)
  clear E R
  refine wpAnyH_ready (rs:=[19]) (by kernel_rfl) (by simp) (AllReadyH.cons rfl (fun R E=>?_) AllReadyH.nil)
  have cc:ba.heap.size≤bN.heap.size:=bi.size
  have bB:Below ba.heap.size ba y:=Jw (Jb bi bz)
  have bC:∀ k,k<ba.heap.size→((y.alloc (Jr name H c7 D rs g K O.length M)).alloc (.cells #[.pointer (some ⟨y.heap.size,0,none⟩)] 129)).heap[k]?=ba.heap[k]?:=fun k br=>by
   have dd:=bB.size
   rw[Z.block k (by simp;omega),bj.block k (by omega),bB.block k br]
  have bG:Jo ((y.alloc (Jr name H c7 D rs g K O.length M)).alloc (.cells #[.pointer (some ⟨y.heap.size,0,none⟩)] 129)) 0 129 (.slice a Ts.length cap) (bs.map Jcp):=Yd U.out.set.own fun k br=>by
   have bU:=Qk U.out.set.own br
   have ch:=bh.size
   have cf:=bb.size
   rw[bC k (by omega),bb.block k (by omega) (U.out.gF k br),bh.block k bU]
  have bZ:((y.alloc (Jr name H c7 D rs g K O.length M)).alloc (.cells #[.pointer (some ⟨y.heap.size,0,none⟩)] 129)).ownsRow 0 129 1 (.slice a Ts.length cap) Ts.length (bs.map Jcp):=by
   have:=bG
   unfold Jo at this
   rwa [Oa6,U.out.set.len]at this
  have bH:((y.alloc (Jr name H c7 D rs g K O.length M)).alloc (.cells #[.pointer (some ⟨y.heap.size,0,none⟩)] 129)).heap[s]?=some (.cells #[.pointer (some ⟨d,0,none⟩),.slice a Ts.length cap] 116 (0,0)):=by
   have ca:=Jd U.out.set.cells
   have ch:=bh.size
   have cf:=bb.size
   rw[bC s (by omega),bb.block s (by omega) U.out.sF,bh.block s ca]
   exact U.out.set.cells
  have bT:((y.alloc (Jr name H c7 D rs g K O.length M)).alloc (.cells #[.pointer (some ⟨y.heap.size,0,none⟩)] 129)).heap[y.heap.size+1]?=some (.cells #[.pointer (some ⟨y.heap.size,0,none⟩)] 129 (0,0)):=by
   have:=heap_alloc_new (y.alloc (Jr name H c7 D rs g K O.length M)) (.cells #[.pointer (some ⟨y.heap.size,0,none⟩)] 129)
   rwa [Oa7]at this
  refine step_append_lies ((y.alloc (Jr name H c7 D rs g K O.length M)).alloc (.cells #[.pointer (some ⟨y.heap.size,0,none⟩)] 129)) rfl (.tmp 73) (.tmp 87) 114 rfl 0 129 cO (.pointer none) 1 8 underlying114 cG cK cM cN rfl (by decide) (.slice a Ts.length cap) Ts.length (bs.map Jcp) rfl bZ ⟨y.heap.size+1,0,none⟩ 1 1 [Jcp y.heap.size] rfl rfl (fun j u bu=>World.news_of_block bT j u (by simpa [Jcp] using bu)) (fun u bu=>by simp at bu;subst bu;rfl) (by decide) (by unfold maxLen;omega) (by omega) (Ob7 _) (y.heap.size+2) (by simp) (fun bf bc X bY bn bS cY=>?_)
  have de:=bn.size
  have bW:(Value.slice a Ts.length cap).ownBlock≠some s:=fun e=>(U.out.set.gF s e).2 rfl
  have bX:(Value.slice a Ts.length cap).ownBlock≠some w.heap.size:=fun e=>Oe3 _ (Qk U.out.set.own e)
  have bI:X.heap[s]?=some (.cells #[.pointer (some ⟨d,0,none⟩),.slice a Ts.length cap] 116 (0,0)):=(bn.block s (Jd bH) (Oc5 bW)).trans bH
  have bJ:X.heap[w.heap.size]?=((y.alloc (Jr name H c7 D rs g K O.length M)).alloc (.cells #[.pointer (some ⟨y.heap.size,0,none⟩)] 129)).heap[w.heap.size]?:=bn.block w.heap.size (Jm A.1) (Oc5 bX)
  have bl:∀ o:Nat,X.cell? ⟨w.heap.size,o,none⟩=((y.alloc (Jr name H c7 D rs g K O.length M)).alloc (.cells #[.pointer (some ⟨y.heap.size,0,none⟩)] 129)).cell? ⟨w.heap.size,o,none⟩:=fun o=>by simp only[World.cell?,bJ]
  have db:s≠w.heap.size:=fun e=>by have:=Jd U.out.set.cells;omega
  refine E.out _ _ ⟨(bl 0).trans A.1,(bl 1).trans A.2.1,(bl 2).trans A.2.2⟩ (fun A=>?_)
  clear E R bl bJ bG bC
  have cb:X.cell? ⟨s,1,none⟩=some (.slice a Ts.length cap):=by simp[World.cell?,bI]
  have bR:X.frozen? ⟨s,1,none⟩=false:=by simp[World.frozen?,bI]
  simp only[Act.put,List.getElem_toArray,List.getElem_cons_zero,List.getElem_cons_succ,Oa1,List.set_cons_zero,List.set_cons_succ]
  refine tk 20 ?_ rfl A ?_ (tk 21 ?_ rfl A ?_ ?_)
  iterate 2
   rotate_left 1
   ·intro w bA;(try dsimp only at bA);go_simp;try rfl
  simp only[Act.put,List.getElem_toArray,List.getElem_cons_zero,List.getElem_cons_succ,Oa1,List.set_cons_zero,List.set_cons_succ]
  refine wpAnyH_ready (rs:=[22]) (by kernel_rfl) (by simp) (AllReadyH.cons rfl (fun R E=>?_) AllReadyH.nil)
  go_simp
  have bk:∀ o:Nat,(X.setCell ⟨s,1,none⟩ (.slice (some ⟨bf,0,none⟩) (Ts.length+1) bc)).cell? ⟨w.heap.size,o,none⟩=X.cell? ⟨w.heap.size,o,none⟩:=fun o=>Ob5 _ _ _ _ (by intro e;injection e with bM;exact absurd bM (by omega))
  refine E.out _ _ ⟨(bk 0).trans A.1,(bk 1).trans A.2.1,(bk 2).trans A.2.2⟩ (fun A=>?_)
  clear E R bk
  refine wpAnyH_done (by kernel_rfl) ?_ _
  clear A cb bR
  have bE:Jdl w s d F G bx Ts (.slice a Ts.length cap) bs name D rs g T (X.setCell ⟨s,1,none⟩ (.slice (some ⟨bf,0,none⟩) (Ts.length+1) bc)):=by
   obtain rfl:=cx.out
   refine Jgq U.out bh bb cE cF cH cy.out cJ bB (Ob2 cc cj) cl ci.out (sv':=.slice (some ⟨bf,0,none⟩) (Ts.length+1) bc) ?_ bn (by rcases bS with e|e;exact .inl (by rw[e];rfl);exact .inr (by rw[e];rfl))
   unfold Jo
   rw[Oa8,Oa6,U.out.set.len]
   exact bY
  have bQ:Hid (Jdl w s d F G bx Ts (.slice a Ts.length cap) bs name D rs g T (X.setCell ⟨s,1,none⟩ (.slice (some ⟨bf,0,none⟩) (Ts.length+1) bc))):=bE
  clear bE
  generalize X.setCell ⟨s,1,none⟩ (.slice (some ⟨bf,0,none⟩) (Ts.length+1) bc)=cV at *
  go_wp2
  go_ret
  exact⟨rfl,bQ.out⟩
 go_simp
 have bj:Below y.heap.size y (y.alloc (Jr name H c7 D rs g K O.length M)):=(Oa5 _ _).alloc (Oa2 _) _
 have bP:=Ja bj cn
 refine E.out _ _ ⟨Ja bj A.1,Ja bj A.2.1,Ja bj A.2.2⟩ (fun A=>?_)
 clear E R
 refine wpAnyH_ready (rs:=[4,18]) (by kernel_rfl) (by simp) (AllReadyH.cons rfl (fun R E=>?_) (AllReadyH.cons rfl (fun R E=>?_) AllReadyH.nil))
 focus
  go_simp
  refine E.out _ _ A (fun A=>?_)
  clear E R
  refine wpAnyH_ready (rs:=[18]) (by kernel_rfl) (by simp) (AllReadyH.cons rfl (fun R E=>?_) AllReadyH.nil)
  go_simp
  have Z:Below (y.alloc (Jr name H c7 D rs g K O.length M)).heap.size (y.alloc (Jr name H c7 D rs g K O.length M)) ((y.alloc (Jr name H c7 D rs g K O.length M)).alloc (.cells #[.pointer (some ⟨y.heap.size,0,none⟩)] 129)):=(Oa5 _ _).alloc (Oa2 _) _
  have cQ:=Ja Z bP
  refine E.out _ _ ⟨Ja Z A.1,Ja Z A.2.1,Ja Z A.2.2⟩ (fun A=>?_)
 rotate_left 1
 focus
  go_simp
  have Z:Below (y.alloc (Jr name H c7 D rs g K O.length M)).heap.size (y.alloc (Jr name H c7 D rs g K O.length M)) ((y.alloc (Jr name H c7 D rs g K O.length M)).alloc (.cells #[.pointer (some ⟨y.heap.size,0,none⟩)] 129)):=(Oa5 _ _).alloc (Oa2 _) _
  have cQ:=Ja Z bP
  refine E.out _ _ ⟨Ja Z A.1,Ja Z A.2.1,Ja Z A.2.2⟩ (fun A=>?_)
  clear E R
  refine wpAnyH_ready (rs:=[4]) (by kernel_rfl) (by simp) (AllReadyH.cons rfl (fun R E=>?_) AllReadyH.nil)
  go_simp
  refine E.out _ _ A (fun A=>?_)
 all_goals
  clear E R
  refine wpAnyH_ready (rs:=[19]) (by kernel_rfl) (by simp) (AllReadyH.cons rfl (fun R E=>?_) AllReadyH.nil)
  have cc:ba.heap.size≤bN.heap.size:=bi.size
  have bB:Below ba.heap.size ba y:=Jw (Jb bi bz)
  have bC:∀ k,k<ba.heap.size→((y.alloc (Jr name H c7 D rs g K O.length M)).alloc (.cells #[.pointer (some ⟨y.heap.size,0,none⟩)] 129)).heap[k]?=ba.heap[k]?:=fun k br=>by
   have dd:=bB.size
   rw[Z.block k (by simp;omega),bj.block k (by omega),bB.block k br]
  have bG:Jo ((y.alloc (Jr name H c7 D rs g K O.length M)).alloc (.cells #[.pointer (some ⟨y.heap.size,0,none⟩)] 129)) 0 129 (.slice a Ts.length cap) (bs.map Jcp):=Yd U.out.set.own fun k br=>by
   have bU:=Qk U.out.set.own br
   have ch:=bh.size
   have cf:=bb.size
   rw[bC k (by omega),bb.block k (by omega) (U.out.gF k br),bh.block k bU]
  have bZ:((y.alloc (Jr name H c7 D rs g K O.length M)).alloc (.cells #[.pointer (some ⟨y.heap.size,0,none⟩)] 129)).ownsRow 0 129 1 (.slice a Ts.length cap) Ts.length (bs.map Jcp):=by
   have:=bG
   unfold Jo at this
   rwa [Oa6,U.out.set.len]at this
  have bH:((y.alloc (Jr name H c7 D rs g K O.length M)).alloc (.cells #[.pointer (some ⟨y.heap.size,0,none⟩)] 129)).heap[s]?=some (.cells #[.pointer (some ⟨d,0,none⟩),.slice a Ts.length cap] 116 (0,0)):=by
   have ca:=Jd U.out.set.cells
   have ch:=bh.size
   have cf:=bb.size
   rw[bC s (by omega),bb.block s (by omega) U.out.sF,bh.block s ca]
   exact U.out.set.cells
  have bT:((y.alloc (Jr name H c7 D rs g K O.length M)).alloc (.cells #[.pointer (some ⟨y.heap.size,0,none⟩)] 129)).heap[y.heap.size+1]?=some (.cells #[.pointer (some ⟨y.heap.size,0,none⟩)] 129 (0,0)):=by
   have:=heap_alloc_new (y.alloc (Jr name H c7 D rs g K O.length M)) (.cells #[.pointer (some ⟨y.heap.size,0,none⟩)] 129)
   rwa [Oa7]at this
  refine step_append_lies ((y.alloc (Jr name H c7 D rs g K O.length M)).alloc (.cells #[.pointer (some ⟨y.heap.size,0,none⟩)] 129)) rfl (.tmp 73) (.tmp 87) 114 rfl 0 129 cO (.pointer none) 1 8 underlying114 cG cK cM cN rfl (by decide) (.slice a Ts.length cap) Ts.length (bs.map Jcp) rfl bZ ⟨y.heap.size+1,0,none⟩ 1 1 [Jcp y.heap.size] rfl rfl (fun j u bu=>World.news_of_block bT j u (by simpa [Jcp] using bu)) (fun u bu=>by simp at bu;subst bu;rfl) (by decide) (by unfold maxLen;omega) (by omega) (Ob7 _) (y.heap.size+2) (by simp) (fun bf bc X bY bn bS cY=>?_)
  have de:=bn.size
  have bW:(Value.slice a Ts.length cap).ownBlock≠some s:=fun e=>(U.out.set.gF s e).2 rfl
  have bX:(Value.slice a Ts.length cap).ownBlock≠some w.heap.size:=fun e=>Oe3 _ (Qk U.out.set.own e)
  have bI:X.heap[s]?=some (.cells #[.pointer (some ⟨d,0,none⟩),.slice a Ts.length cap] 116 (0,0)):=(bn.block s (Jd bH) (Oc5 bW)).trans bH
  have bJ:X.heap[w.heap.size]?=((y.alloc (Jr name H c7 D rs g K O.length M)).alloc (.cells #[.pointer (some ⟨y.heap.size,0,none⟩)] 129)).heap[w.heap.size]?:=bn.block w.heap.size (Jm A.1) (Oc5 bX)
  have bl:∀ o:Nat,X.cell? ⟨w.heap.size,o,none⟩=((y.alloc (Jr name H c7 D rs g K O.length M)).alloc (.cells #[.pointer (some ⟨y.heap.size,0,none⟩)] 129)).cell? ⟨w.heap.size,o,none⟩:=fun o=>by simp only[World.cell?,bJ]
  have db:s≠w.heap.size:=fun e=>by have:=Jd U.out.set.cells;omega
  refine E.out _ _ ⟨(bl 0).trans A.1,(bl 1).trans A.2.1,(bl 2).trans A.2.2⟩ (fun A=>?_)
  clear E R bl bJ bG bC
  have cb:X.cell? ⟨s,1,none⟩=some (.slice a Ts.length cap):=by simp[World.cell?,bI]
  have bR:X.frozen? ⟨s,1,none⟩=false:=by simp[World.frozen?,bI]
  simp only[Act.put,List.getElem_toArray,List.getElem_cons_zero,List.getElem_cons_succ,Oa1,List.set_cons_zero,List.set_cons_succ]
  refine tk 20 ?_ rfl A ?_ (tk 21 ?_ rfl A ?_ ?_)
  iterate 2
   rotate_left 1
   ·intro w bA;(try dsimp only at bA);go_simp;try rfl
  simp only[Act.put,List.getElem_toArray,List.getElem_cons_zero,List.getElem_cons_succ,Oa1,List.set_cons_zero,List.set_cons_succ]
  refine wpAnyH_ready (rs:=[22]) (by kernel_rfl) (by simp) (AllReadyH.cons rfl (fun R E=>?_) AllReadyH.nil)
  go_simp
  have bk:∀ o:Nat,(X.setCell ⟨s,1,none⟩ (.slice (some ⟨bf,0,none⟩) (Ts.length+1) bc)).cell? ⟨w.heap.size,o,none⟩=X.cell? ⟨w.heap.size,o,none⟩:=fun o=>Ob5 _ _ _ _ (by intro e;injection e with bM;exact absurd bM (by omega))
  refine E.out _ _ ⟨(bk 0).trans A.1,(bk 1).trans A.2.1,(bk 2).trans A.2.2⟩ (fun A=>?_)
  clear E R bk
  refine wpAnyH_done (by kernel_rfl) ?_ _
  clear A cb bR
  have bE:Jdl w s d F G bx Ts (.slice a Ts.length cap) bs name D rs g T (X.setCell ⟨s,1,none⟩ (.slice (some ⟨bf,0,none⟩) (Ts.length+1) bc)):=by
   obtain rfl:=cx.out
   refine Jgq U.out bh bb cE cF cH cy.out cJ bB (Ob2 cc cj) cl ci.out (sv':=.slice (some ⟨bf,0,none⟩) (Ts.length+1) bc) ?_ bn (by rcases bS with e|e;exact .inl (by rw[e];rfl);exact .inr (by rw[e];rfl))
   unfold Jo
   rw[Oa8,Oa6,U.out.set.len]
   exact bY
  have bQ:Hid (Jdl w s d F G bx Ts (.slice a Ts.length cap) bs name D rs g T (X.setCell ⟨s,1,none⟩ (.slice (some ⟨bf,0,none⟩) (Ts.length+1) bc))):=bE
  clear bE
  generalize X.setCell ⟨s,1,none⟩ (.slice (some ⟨bf,0,none⟩) (Ts.length+1) bc)=cV at *
  go_wp2
  go_ret
  exact⟨rfl,bQ.out⟩
def Jdu (w:World)(st d s:Nat):Prop:=w.heap[st]?=some (.cells #[.pointer (some ⟨d,0,none⟩),.pointer (some ⟨s,0,none⟩)] 82 (0,0))
theorem Jdu.field {w:World}{st d s:Nat}(h:Jdu w st d s):w.cell? ⟨st,0,none⟩=some (.pointer (some ⟨d,0,none⟩))∧w.cell? ⟨st,1,none⟩=some (.pointer (some ⟨s,0,none⟩)):=by
 unfold Jdu at h
 simp[World.cell?,h]
def Jr7 (w:World)(r:Option (List (List V)⊕Nat))(e:Ending)(w':World):Prop:=
 Below w.heap.size w w'∧match r with
  |none=>e=.returned (.tuple #[.slice none 0 0,Jbz 4 (-1) (-1)])
  |some (.inl rs)=>∃ g bs,e=.returned (.tuple #[.slice (some ⟨g,0,none⟩) rs.length rs.length,Jb6 0])∧Jcu w' w.heap.size g bs rs
  |some (.inr j)=>e=.returned (.tuple #[.slice none 0 0,Jbz 7 (-1) (j:Int)])
theorem Jhu (M v:Value)(c nd row col pg:Int)(w:World)(H:∃ ty x,v=.iface ty x)(hF:∀ W,Below w.heap.size w W→Calls prog 29 #[v] W fun e w'=>e=.returned (Ko c nd row col pg)∧Below W.heap.size W w') :
  Calls prog 24 #[M,v] w fun e w'=>e=.returned (.tuple #[.slice none 0 0,Ko c nd row col pg])∧Below w.heap.size w w':=by
 obtain⟨ty,x,rfl⟩:=H
 have y:Below w.heap.size w (w.alloc (.cells #[.int .i64 0,.int .i64 0,.int .i64 0,.int .i64 0,.int .i64 0] 42)):=(Oa5 _ _).alloc (Oa2 _) _
 have D:=hF _ y
 clear hF
 go_enter func24,ntmps24
 go_wp2_with fail
 refine D.mono ?_
 rintro e R ⟨rfl,A⟩
 obtain⟨K,O⟩:=Kx A
 have E:=Jb y A
 go_wp2
 exact bodyPost_ret (v:=.tuple #[.slice none 0 0,Ko c nd row col pg]) (by simp[results,results24,go_sem,K]) rfl ⟨rfl,Um E (Oa2 _) _ _ _ _ _⟩
theorem Jz3 (g:Nat)(ba:List Value)(cs:List (List V))(n:Nat)(B:Nat)(w:World)(R:Jar w B g ba cs)(bf:∀ i,i<cs.length→(cs.getD i []).length=n)(h1:1≤cs.length)(h2:cs.length≤1000)(hn:n≤10000) :
  Calls prog 24 #[.slice (some ⟨g,0,none⟩) cs.length cs.length,.nilIface] w fun e w'=>Below w.heap.size w w'∧∃ O bs,e=.returned (.tuple #[.slice (some ⟨O,0,none⟩) n n,Jb6 0])∧Jcu w' w.heap.size O bs (Qf n cs):=by
 have U:Below w.heap.size w (w.alloc (.cells #[.int .i64 0,.int .i64 0,.int .i64 0,.int .i64 0,.int .i64 0] 42)):=(Oa5 _ _).alloc (Oa2 _) _
 have bl:=run_neq_nil_nil (P:=prog)
 have A:=R.below U
 have Z:=Jo4 g cs.length ba cs n _ A.row A.len (fun i hi=>(A.own i hi).vals) bf h1 h2 hn
 clear R A
 go_enter func24,ntmps24
 go_wp2_with fail
 refine Z.mono ?_
 rintro e w1 ⟨rfl,⟨H,bi⟩,X⟩
 clear Z
 go_wp2_with fail
 refine(Jjq w1).mono ?_
 rintro e br ⟨rfl,K⟩
 have bb:=Jb U X
 obtain⟨bj,bn⟩:=Kx (Jb X K)
 have bc:=Jb bb K
 have M:=bi.below K
 rw[Oa7]at M
 have bh:=M.from_
 have low:∀ E:World,Jcu E (w.heap.size+1) (w.heap.size+1) H (Qf n cs)→Jcu E w.heap.size (w.heap.size+1) H (Qf n cs):=fun E y=>⟨y.len,y.outer,y.rows,⟨by have:=y.from_.1;omega,fun b D=>⟨by have:=(y.from_.2 b D).1;omega,(y.from_.2 b D).2⟩⟩,y.nodup⟩
 go_wp2
 refine bodyPost_ret (v:=.tuple #[.slice (some ⟨w.heap.size+1,0,none⟩) n n,Jb6 0]) (by simp[results,results24,go_sem,bj]) rfl ⟨Um bc (Oa2 _) _ _ _ _ _,?_⟩
 refine⟨w.heap.size+1,H,rfl,?_⟩
 refine low _ (M.of_blocks ?_ (fun b D=>?_))
 ·rw[Oa4 _ _ _ _ (by show w.heap.size+1≠w.heap.size;omega),Oa4 _ _ _ _ (by show w.heap.size+1≠w.heap.size;omega),Oa4 _ _ _ _ (by show w.heap.size+1≠w.heap.size;omega),Oa4 _ _ _ _ (by show w.heap.size+1≠w.heap.size;omega),Oa4 _ _ _ _ (by show w.heap.size+1≠w.heap.size;omega)]
 have bk:=(bh.2 b D).1
 rw[Oa4 _ _ _ _ (by show b≠w.heap.size;omega),Oa4 _ _ _ _ (by show b≠w.heap.size;omega),Oa4 _ _ _ _ (by show b≠w.heap.size;omega),Oa4 _ _ _ _ (by show b≠w.heap.size;omega),Oa4 _ _ _ _ (by show b≠w.heap.size;omega)]
theorem Kej (st:Nat)(n:ByteArray)(w:World)(F G:Nat→Prop)(s d:Nat)(A:DS)(Ts:List TS)(sv:Value)(bs:List Nat)(bE:Jdu w st d s)(h:Jfl w G s d Ts sv bs)(bA:Zb w F d A)(bu:∀ T∈Ts,Jid A T)(Z ba bb et q wr pg:Addr)(br:Jf0 w Z ba bb)(R:Jkn w Z ba bb et q wr pg) :
  Calls prog 26 #[.pointer (some ⟨st,0,none⟩),.string n] w fun e w'=>Jr7 w (Jf8 A Ts n) e w':=by
 have M:Below w.heap.size w (w.alloc (.cells #[.int .i64 0,.int .i64 0,.int .i64 0,.int .i64 0,.int .i64 0] 42)):=(Oa5 _ _).alloc (Oa2 _) _
 have c1:=Ja M bE.field.2
 have hn:=Jou n _ F G s d A Ts sv bs (h.below M) (bA.below M) bu Z ba bb (br.below M) et pg (R.below M).cp (R.below M).ct
 obtain⟨_,_,_,bM,_,_,bN⟩:=Jim R
 have bK:=Keq A Ts n bu
 clear h bA bu bE
 go_enter func26,ntmps26
 go_wp2_with fail
 refine hn.mono ?_
 clear hn
 rintro e w1 ⟨bc,U⟩
 have bf:=Jb M bc
 rcases bK with⟨E,H⟩|⟨j,E,H⟩|⟨cs,m,E,H,bR,bJ,bP,bx⟩
 ·rw[E]at U
  simp only at U
  subst U
  have X:Hid (Jf8 A Ts n=none):=H
  have hf:∀ W,Below w1.heap.size w1 W→Calls prog 29 #[.iface 435 (.pointer (some et))] W fun e w'=>e=.returned (Ko 4 (-1) (-1) (-1) (-1))∧Below W.heap.size W w':=fun W hW=>by
   have O:=Jb bf hW
   have:=Jj9 _ et none none W (.root et) (Kg O R.bt) Z ba bb et q wr pg (by simp) (br.below O) (R.below O)
   rw[bM]at this
   exact this
  have bi:=Jhu (.slice none 0 0) _ 4 (-1) (-1) (-1) (-1) w1 ⟨_,_,rfl⟩ hf
  clear E H hf
  go_wp2_with fail
  refine bi.mono ?_
  rintro e bH ⟨rfl,D⟩
  obtain⟨bj,bG⟩:=Kx (Jb bc D)
  have bh:=Jb bf D
  go_wp2
  exact bodyPost_ret (v:=.tuple #[.slice none 0 0,Jbz 4 (-1) (-1)]) (by simp[results,results26,go_sem,bj]) rfl ⟨Um bh (Oa2 _) _ _ _ _ _,by rw[X.out]⟩
 ·rw[E]at U
  obtain⟨b,rfl,bI,bz⟩:=U
  have X:Hid (Jf8 A Ts n=some (.inr j)):=H
  have hf:∀ W,Below w1.heap.size w1 W→Calls prog 29 #[.iface 126 (.pointer (some ⟨b,0,none⟩))] W fun e w'=>e=.returned (Ko 7 (-1) (-1) (-1) (j:Int))∧Below W.heap.size W w':=fun W hW=>by
   have O:=Jb bf hW
   have:=Jj9 _ pg (some (-1)) (some (j:Int)) W (bz.below hW) (Kg O R.bp) Z ba bb et q wr pg (by simp) (br.below O) (R.below O)
   rw[bN]at this
   exact this
  have bi:=Jhu (.slice none 0 0) _ 7 (-1) (-1) (-1) (j:Int) w1 ⟨_,_,rfl⟩ hf
  clear E H hf bz
  go_wp2_with fail
  refine bi.mono ?_
  rintro e bH ⟨rfl,D⟩
  obtain⟨bj,bG⟩:=Kx (Jb bc D)
  have bh:=Jb bf D
  go_wp2
  exact bodyPost_ret (v:=.tuple #[.slice none 0 0,Jbz 7 (-1) (j:Int)]) (by simp[results,results26,go_sem,bj]) rfl ⟨Um bh (Oa2 _) _ _ _ _ _,by rw[X.out]⟩
 rw[E]at U
 obtain⟨g,bO,rfl,bC⟩:=U
 have X:Hid (Jf8 A Ts n=some (.inl (Qf m cs))):=H
 have bi:=Jz3 g bO cs m _ w1 bC bx bJ (by omega) (by omega)
 clear E H bx bC
 go_wp2_with fail
 refine bi.mono ?_
 rintro e bH ⟨D,y,bn,rfl,bD⟩
 obtain⟨bj,bG⟩:=Kx (Jb bc D)
 have bh:=Jb bf D
 have bB:=bD.from_
 have bL:=bc.size
 rw[Oa7]at bL
 have low:∀ bl:World,Jcu bl w1.heap.size y bn (Qf m cs)→Jcu bl w.heap.size y bn (Qf m cs):=fun bl K=>⟨K.len,K.outer,K.rows,⟨by have:=K.from_.1;omega,fun b bk=>⟨by have:=(K.from_.2 b bk).1;omega,(K.from_.2 b bk).2⟩⟩,K.nodup⟩
 go_wp2
 refine bodyPost_ret (v:=.tuple #[.slice (some ⟨y,0,none⟩) m m,Jb6 0]) (by simp[results,results26,go_sem,bj]) rfl ⟨Um bh (Oa2 _) _ _ _ _ _,?_⟩
 rw[X.out]
 refine⟨y,bn,by rw[Uu],?_⟩
 refine low _ (bD.of_blocks ?_ (fun b bk=>?_))
 ·have bQ:=bB.1
  rw[Oa4 _ _ _ _ (by show y≠w.heap.size;omega),Oa4 _ _ _ _ (by show y≠w.heap.size;omega),Oa4 _ _ _ _ (by show y≠w.heap.size;omega),Oa4 _ _ _ _ (by show y≠w.heap.size;omega),Oa4 _ _ _ _ (by show y≠w.heap.size;omega)]
 have bI:=(bB.2 b bk).1
 rw[Oa4 _ _ _ _ (by show b≠w.heap.size;omega),Oa4 _ _ _ _ (by show b≠w.heap.size;omega),Oa4 _ _ _ _ (by show b≠w.heap.size;omega),Oa4 _ _ _ _ (by show b≠w.heap.size;omega),Oa4 _ _ _ _ (by show b≠w.heap.size;omega)]
end Go.Proofs.YtdlgbphkaicfaaaGreatDoor
namespace Go.Proofs.YtdlgbphkaicfaaaGreatDoor
open Go.RowKit Go.Shelf Tryz
theorem Zh (W:World)(B:Nat)(A D E H K:Value)(k:Nat)(y:k≠B):(((((W.setCell ⟨B,0,none⟩ A).setCell ⟨B,1,none⟩ D).setCell ⟨B,2,none⟩ E).setCell ⟨B,3,none⟩ H).setCell ⟨B,4,none⟩ K).heap[k]?=W.heap[k]?:=by
 rw[Oa4 _ _ _ _ y,Oa4 _ _ _ _ y,Oa4 _ _ _ _ y,Oa4 _ _ _ _ y,Oa4 _ _ _ _ y]
theorem Jg2 (W:World)(B:Nat)(y A D E H:Value):(((((W.setCell ⟨B,0,none⟩ y).setCell ⟨B,1,none⟩ A).setCell ⟨B,2,none⟩ D).setCell ⟨B,3,none⟩ E).setCell ⟨B,4,none⟩ H).heap.size=W.heap.size:=by simp[World.setCell]
end Go.Proofs.YtdlgbphkaicfaaaGreatDoor
