/- The law's own arithmetic. -/
import Derived.Test.YtpchafocmlhmbaaGreatDoorCa
import Derived.Lib.SlicesDelete
set_option maxHeartbeats 4000000
set_option maxRecDepth 100000
namespace Go.Proofs.YtpchafocmlhmbaaGreatDoor
section
open Go.RowKit
attribute [local go_sem] Oc0
def Zp (n:Int):Int:=if -9223372036854775808≤n∧n≤9223372036854775807 then n else 0
def Yn (n:Int):Int:=if -9223372036854775808≤n∧n≤9223372036854775807 then 0 else 10
def Kbr (a b:Int):Int:=if b=0 then 0 else Zp (a.tdiv b)
def Jq4 (a b:Int):Int:=if b=0 then 9 else Yn (a.tdiv b)
end
section
open Go.RowKit Go.Shelf Tryz
def KpB (Fx:Nat→Prop)(W y:World):Prop:=W.heap.size≤y.heap.size∧∀ k,Fx k→y.heap[k]?=W.heap[k]?
theorem KpB.trans {Fx:Nat→Prop}{A B C:World}(h:KpB Fx A B)(k:KpB Fx B C):KpB Fx A C:=⟨Ob2 h.1 k.1,fun i hi=>(k.2 i hi).trans (h.2 i hi)⟩
theorem KpB.of_below {Fx:Nat→Prop}{A B:World}(h:Below A.heap.size A B)(hF:∀ k,Fx k→k<A.heap.size):KpB Fx A B:=⟨h.size,fun k y=>h.block k (hF k y)⟩
def Jbo (g:Nat)(hs:List (Option Addr×Nat))(k:Nat)(F:Nat→Prop):Prop:=F g∧∀ j,j<k→∀ b o,(Yo hs j).1=some ⟨b,o,none⟩→F b
theorem Qd.kp {Fx:Nat→Prop}{W D:World}{g:Nat}{hs:List (Option Addr×Nat)}{cs:List (List V)}(h:Qd W g hs cs)(y:KpB Fx W D)(hF:Jbo g hs cs.length Fx):Qd D g hs cs:=
 ⟨h.row.of_block (y.2 g hF.1),fun j E=>(h.vals j E).of_block y.1 fun b o e _=>y.2 b (hF.2 j E b o e),h.cap⟩
abbrev Bat:=Nat×Nat×Nat
def Kgp (B:Nat)(hs:List (Option Addr×Nat))(cols:List (List V))(N z:Nat)(x:Bat)(W:World):Prop:=x.1+x.2.1≤N∧(1≤x.2.1∧x.2.1≤z)∧B≤x.2.2∧Qd W x.2.2 (Jnt hs cols.length x.1 (x.1+x.2.1)) (cols.map (Jbx x.1 (x.1+x.2.1)))
theorem Jjx (n:Nat)(hn:1≤n)(H D g cap:Nat)(hs:List (Option Addr×Nat))(cols:List (List V))(N z:Nat)(bM:1≤z)(cB:z≤100000)(cn:N≤100000)(bn:1≤cols.length)(ch:cols.length≤1000)(w:World)(hC:Qd w g hs cols)(bI:∀ j,j<cols.length→(cols.getD j []).length=N)
  (bB:w.cell? ⟨H,0,none⟩=some (.slice (some ⟨g,0,none⟩) cols.length cap)) (bA:w.cell? ⟨D,0,none⟩=some (.int .i64 (z:Int))) (Fx:Nat→Prop) (hF:Fx H∧Fx D∧Jbo g hs cols.length Fx) (bC:∀ k,Fx k→k<w.heap.size) :
  Kh4 Fence.wide n prog 138 #[.pointer (some ⟨H,0,none⟩),.pointer (some ⟨D,0,none⟩)] (fun x:Bat=>#[.int .i64 (x.1:Int),.slice (some ⟨x.2.2,0,none⟩) cols.length cols.length]) (Kgp w.heap.size hs cols N z) (KpB Fx) (fun y=>y.map (fun x=>(x.1,x.2.1))=cks N z (ckN N z)) (fun O=>∃ k,k≤ckN N z∧O.map (fun x=>(x.1,x.2.1))=cks N z k) (ckN N z) w:=by
 intro l J bR W U bD bV bG h0;have bE:∀ s A E,Below A.heap.size A E→J s A→J s E:=fun s A E X h=>bD s A E none h ⟨X.os,X.tape,X.output,X.size,fun k K _=>X.block k K⟩ (fun r e=>by cases e);have bN:Hid (∀ s A E,Below A.heap.size A E→J s A→J s E):=bE;have bQ:Hid (∀ O x bc,J O bc→Kgp w.heap.size hs cols N z x bc→O.length<ckN N z→YieldAt Fence.wide (n-1) prog l #[.int .i64 (x.1:Int),.slice (some ⟨x.2.2,0,none⟩) cols.length cols.length] bc fun e bh=>(e=.returned (.bool true)∧J (O++[x]) bh∧KpB Fx bc bh)∨(e=.returned (.bool false)∧bR (O++[x]) bh)):=bG;have Z:Hid (Qd W g hs cols∧(∀ j,j<cols.length→(cols.getD j []).length=N)):=⟨hC.below U,bI⟩;have R:Hid ((Fx H∧Fx D∧Jbo g hs cols.length Fx)∧∀ k,Fx k→k<W.heap.size):=⟨hF,fun k K=>Oc2 (bC k K) U.size⟩;have bT:=Ja U bB;have bz:=Ja U bA;have cu:=U.size;clear bE bG hC bI hF bC bB bA bD bV;have bi:=Z.out.1.row.cell bn;rw[Z.out.2 0 bn]at bi;have bZ:=Jlg g cols.length cap (Yo hs 0).1 N (Yo hs 0).2 W bn bi;clear bi;refine callsIn_of_wp func138 rfl trivial ?_ rfl;simp only[ntmps138,Om3,List.length_cons,List.length_nil,Nat.reduceAdd,Nat.reduceSub,Ok9,Array.replicate_zero,Om4,Ol2,List.nil_append,List.cons_append];gi_wp2_with (refine⟨trivial,?_⟩;gi_at_call 53;refine(callsIn_wide.2 bZ).mono ?_;rintro e w' ⟨rfl,cf⟩;rw[cf])
 gi_loopw [5] (fun i wr=>∃ (k:Nat) (y:List Bat),k≤ckN N z∧i=.int .i64 ((k*z:Nat):Int)∧Hid (y.map (fun x=>(x.1,x.2.1))=cks N z k)∧J y wr∧KpB Fx W wr) (fun i _=>N+100000-(intOf i).toNat)
 case atStart=>exact⟨0,[],Ob7 _,by simp,rfl,h0,Oa2 _,fun _ _=>rfl⟩
 case round=>
  obtain⟨k,y,K,rfl,ba,bj,Y⟩:=hrel;have c1:wr.cell? ⟨H,0,none⟩=some (.slice (some ⟨g,0,none⟩) cols.length cap):=by rw[Oc3 (w:=W) (Y.2 H R.out.1.1)];exact bT
  have c2:wr.cell? ⟨D,0,none⟩=some (.int .i64 (z:Int)):=by rw[Oc3 (w:=W) (Y.2 D R.out.1.2.1)];exact bz
  by_cases bL:k*z<N
  ·have bJ:=Khi bM bL;have bf:Hid (cks N z (k+1)=cks N z k++[(k*z,min z (N-k*z))]):=Jbj N z k;have bP:Hid ((k+1)*z=k*z+z):=Of5 k z;have cA:y.length=k:=by have:=congrArg List.length ba.out;rw[Oa6,Jbp]at this;exact this
   generalize k*z=i at *;obtain⟨m,ca,br⟩:∃ m:Nat,(i+m≤N∧1≤m∧m≤z)∧Hid (m=min z (N-i)):=⟨min z (N-i),by omega,rfl⟩;rw[←br.out]at bf;obtain⟨cv,cb,cc⟩:=ca;have cx:min ((i:Int)+(z:Int)) (N:Int)=(i:Int)+(m:Int):=by have:=br.out;omega
   have cy:IntKind.i64.wrap ((i:Int)+(z:Int))=(i:Int)+(z:Int):=by rw[Od4];omega
   have hcut:=Kdx g cap hs cols N i (i+m) wr (Z.out.1.kp Y R.out.1.2.2) Z.out.2 (by omega) (by omega) ch;rw[Int.natCast_add]at hcut;have cz:W.heap.size≤wr.heap.size:=Y.1;have cj:=bj;gi_wp2_with (refine⟨trivial,?_⟩;gi_at_call 111;refine(callsIn_wide.2 hcut).mono ?_;rintro e bS ⟨bH,rfl,bX⟩;obtain⟨fn,tmps,assign,body,ci,hR⟩:=bQ.out y (i,m,wr.heap.size) bS (bN.out _ _ _ bH bj) ⟨by show i+m≤N;omega,⟨cb,cc⟩,by show w.heap.size≤wr.heap.size;omega,bX⟩ (by omega);dsimp only at ci)
   refine hR.mono ?_;rintro e bx (⟨rfl,bU,bY⟩|⟨rfl,bW⟩)
   ·have bK:KpB Fx W bx:=(Y.trans (KpB.of_below bH (fun k K=>by have:=R.out.2 k K;omega))).trans bY;have c3:bx.cell? ⟨D,0,none⟩=some (.int .i64 (z:Int)):=by rw[Oc3 (w:=W) (bK.2 D R.out.1.2.1)];exact bz
    gi_wp2
    go_roundw
    case rel=>exact⟨k+1,y++[(i,m,wr.heap.size)],bJ,by rw[bP.out];go_num,by show _=_;rw[Ob8,ba.out,bf.out];rfl,bU,bK⟩
    case measure=>simp[intOf];omega
   gi_wp2
   refine bodyPost_ret (results_none rfl _ _ _) rfl ?_;exact⟨⟨_,rfl⟩,.inr ⟨_,⟨k+1,bJ,by rw[Ob8,ba.out,bf.out];rfl⟩,bW⟩⟩
  have bO:Hid (k=ckN N z):=by
   rcases Oc1 k (ckN N z)with h'|h'
   ·exact absurd (Jqs bM h') bL
   ·show k=_;omega
  gi_wp2
  go_end0
  exact⟨⟨_,rfl⟩,.inl ⟨y,by rw[ba.out,bO.out],bj⟩⟩
attribute [local go_sem] Oc0
theorem Jfy (w:World)(a:Option Addr)(n cap c:Nat)(h:n≤cap)(ty:TypeId):(Builtin.append_ #[40,40] ty #[.slice a n cap,.slice none 0 c]).run prog w=.ok (.slice a n cap) w:=by
 have y:(sizeOf 39).run prog w=.ok 3 w:=by kernel_rfl
 cases a with
 |none=>simp[Builtin.append_,run_underlying underlying40,y,Builtin.lenOf,Builtin.firstCells,h,Result.andThen]
 |some D=>simp[Builtin.append_,run_underlying underlying40,y,Builtin.lenOf,Builtin.firstCells,storeCells,h,Result.andThen]
theorem Jju {w:World}{Z:Array Oper}{rest:List Oper}{o:Oper}{a:Act}{Q:Exit→Act→World→Prop}(U:o.guard=none)(s x:Operand)
  (Y:o.op=.call {callee:=.builtin .append,args:=#[s,x],argTypes:=#[40,40]})
  (B:Nat) (sv:Value) (D:List V) (hs:a.eval s=sv) (H:Yt w B sv D)
  (R:Option Addr) (c:Nat) (vs:List V) (O:a.eval x=.slice R vs.length c) (y:Jv w R vs) (bE:D.length+vs.length≤1000000) (bj:B≤w.heap.size)
  (h:∀ sv' w',Yt w' B sv' (D++vs)→w.grownBy w' sv.ownBlock→(sv'.ownBlock=sv.ownBlock∨sv'.ownBlock=some w.heap.size)→wpList prog Z Q rest (a.put o.dst sv') w') :
  wpList prog Z Q (o::rest) a w:=by
 cases R with
 |none=>
  have bz:vs=[]:=by
   rcases y with y|⟨b,bB,E,_⟩
   ·exact y
   simp at E
  subst bz;refine wpList_plain U fun bC bi=>?_;have hr:(Builtin.append_ #[40,40] o.type #[sv,.slice none 0 c]).run prog w=.ok sv w:=by
   rcases H.2 with⟨K,_⟩|⟨g,cap,bD,K,_,_,br,_⟩
   ·rw[K];exact Jfy w none 0 0 c (Oa2 _) _
   rw[K];exact Jfy w _ _ cap c br _
  unfold Oper.wp execOp;simp only[List.length_nil]at O;simp only[Y,resolve,invoke,builtin,Sem.run_bind,Sem.run_pure,Result.andThen_ok,List.map_toArray,Oe4,Oi4,hs,O,hr];exact bi _ _ (h sv w (by rw[Od7];exact H) (World.grownBy.refl _ _) (.inl rfl))
 |some ba=>
  obtain⟨i,hi,bA,bx,bn⟩:=info_parts Jow;refine wpList_append_own_at w U s x 40 Y B 39 i _ 3 32 (by kernel_rfl) hi bA bx bn rfl (by decide) sv D.length (D.flatMap V.cells) hs H ba vs.length c (vs.flatMap V.cells) O (Ja5 vs) ?_ ?_ ?_ ?_ bj ?_
  ·intro j u X;rcases y with y|⟨b,bB,E,_,y⟩
   ·subst y;simp at X
   simp only[Oc9]at E;subst E;have:=Kem y j u X;exact this
  ·exact Kap vs
  ·unfold maxLen;omega
  ·omega
  intro v' w' bc bf _ bh;refine h v' w' ?_ bf bh;unfold Yt;simpa using bc
def Jdi (cs y:List (List V))(k:Nat):List (List V):=(List.range cs.length).map fun j=>if j<k then cs.getD j []++y.getD j []else cs.getD j []
theorem Jf9 (cs y:List (List V))(k:Nat):(Jdi cs y k).length=cs.length:=by simp[Jdi]
theorem Jlm (cs y:List (List V))(k j:Nat)(D:j<cs.length):(Jdi cs y k).getD j []=if j<k then cs.getD j []++y.getD j []else cs.getD j []:=by
 rw[Oa0];simp only[Jdi,Ob1,Oh6 D,Option.map_some,Option.getD_some]
theorem Kat (cs y:List (List V)):Jdi cs y 0=cs:=by
 apply Oh4
 ·simp[Jdi]
 intro j E D;simp[Jdi,D]
theorem Jy5 (cs y:List (List V))(k:Nat)(H:k<cs.length):(Jdi cs y k).set k ((Jdi cs y k).getD k []++y.getD k [])=Jdi cs y (k+1):=by
 apply Oh4
 ·simp[Jdi]
 intro j K E;have O:j<cs.length:=by simpa [Jdi] using E
 rw[List.getElem_set];by_cases e:k=j
 ·subst e;rw[if_pos rfl,Jlm cs y k k H,if_neg (Oe3 _)];simp[Jdi]
 rw[if_neg e];simp only[Jdi,Od9,Oo7];by_cases D:j<k
 ·rw[if_pos D,if_pos (by omega)]
 rw[if_neg D,if_neg (by omega)]
structure Kgu (w:World) (g:Nat) (hs:List (Option Addr×Nat)) (cs:List (List V)):Prop where
 lt:g<w.heap.size
 cell:∀ j,j<cs.length→w.cell? ⟨g,j,none⟩=some (.slice (Yo hs j).1 (cs.getD j []).length (Yo hs j).2)
 vals:∀ j,j<cs.length→Jv w (Yo hs j).1 (cs.getD j [])
theorem Kb4 (B g cap:Nat)(K:List Value)(cs:List (List V))(g2 cn:Nat)(hs:List (Option Addr×Nat))(y:List (List V))(w:World)(cv:Jar w B g K cs)(bJ:Kgu w g2 hs y)(hl:y.length=cs.length)(bM:∀ j,j<cs.length→(cs.getD j []).length+(y.getD j []).length≤1000000)(cu:B≤w.heap.size)(cG:cs.length≤1000)
  (bK:∀ j b,j<cs.length→(Uq K j).ownBlock=some b→b≠g2∧∀ k D U,k<y.length→(Yo hs k).1=some ⟨D,U,none⟩→b≠D) (bP:g≠g2∧∀ k D U,k<y.length→(Yo hs k).1=some ⟨D,U,none⟩→g≠D) :
  Calls prog 107 #[.slice (some ⟨g,0,none⟩) cs.length cap,.slice (some ⟨g2,0,none⟩) y.length cn] w fun e w'=>e=.returned (.tuple #[])∧(∃ ca,Jar w' B g ca (Jdi cs y cs.length)∧∀ j b,j<cs.length→(Uq ca j).ownBlock=some b→(Uq K j).ownBlock=some b∨w.heap.size≤b)∧Below B w w'∧w.heap.size≤w'.heap.size∧∀ x,x<w.heap.size→x≠g→(∀ j,j<cs.length→(Uq K j).ownBlock≠some x)→w'.heap[x]?=w.heap[x]?:=by
 have bz:Hid (Kgu w g2 hs y):=bJ;have bG:Hid (∀ j b,j<cs.length→(Uq K j).ownBlock=some b→b≠g2∧∀ k D U,k<y.length→(Yo hs k).1=some ⟨D,U,none⟩→b≠D):=bK;have bH:Hid (g≠g2∧∀ k D U,k<y.length→(Yo hs k).1=some ⟨D,U,none⟩→g≠D):=bP;have cc:Hid (∀ j,j<cs.length→(cs.getD j []).length+(y.getD j []).length≤1000000):=bM;clear bJ bK bP bM;rw[hl];go_enter func107,ntmps107
 go_wp2;go_loopw [8] (fun i wr=>∃ (k:Nat) (O:List Value),k≤cs.length∧i=.int .i64 (k:Int)∧Jar wr B g O (Jdi cs y k)∧Hid ((∀ j,k≤j→Uq O j=Uq K j)∧∀ j b,j<cs.length→(Uq O j).ownBlock=some b→(Uq K j).ownBlock=some b∨w.heap.size≤b)∧Below B w wr∧Hid (w.heap.size≤wr.heap.size∧∀ x,x<w.heap.size→x≠g→(∀ j,j<cs.length→(Uq K j).ownBlock≠some x)→wr.heap[x]?=w.heap[x]?)) (fun i _=>cs.length-(intOf i).toNat)
 case atStart=>exact⟨0,K,Ob7 _,rfl,by rw[Kat];exact cv,⟨fun j _=>rfl,fun j b _ e=>.inl e⟩,Oa5 _ _,⟨Oa2 _,fun x _ _ _=>rfl⟩⟩
 case round=>
  obtain⟨k,O,cF,rfl,H,bi,bO,E⟩:=hrel;by_cases bc:k<cs.length
  ·have ba:k<(Jdi cs y k).length:=by rw[Jf9];exact bc
   have bn:k<y.length:=(by omega);have cz:=bz.out.lt;have bL:wr.heap[g2]?=w.heap[g2]?:=E.out.2 g2 cz (Oc5 bH.out.1) (fun j Y e=>(bG.out j g2 Y e).1 rfl);have bE:=(Oc3 (a:=⟨g2,k,none⟩) bL).trans (bz.out.cell k bn);obtain⟨bB,ck,Z⟩:∃ bB ck,Yo hs k=(bB,ck):=⟨_,_,rfl⟩;have bV:Jv wr bB (y.getD k []):=by
    have:=bz.out.vals k bn;rw[Z]at this;refine this.of_block E.out.1 fun b o R cx=>E.out.2 b cx ?_ ?_
    ·exact fun e=>bH.out.2 k b o bn (by rw[Z];exact R) e.symm
    exact fun j Y e=>(bG.out j b Y e).2 k b o bn (by rw[Z];exact R) rfl
   rw[Z]at bE;simp only at bE;obtain⟨vs,bx⟩:∃ vs,y.getD k []=vs:=⟨_,rfl⟩;rw[bx]at bE bV;have ci:Hid (y.getD k []=vs):=bx;obtain⟨sv,bf⟩:∃ sv,Uq O k=sv:=⟨_,rfl⟩;have bA:Hid (Uq O k=sv):=bf;obtain⟨X,br⟩:∃ X,(Jdi cs y k).getD k []=X:=⟨_,rfl⟩;have ch:Hid ((Jdi cs y k).getD k []=X):=br;have cf:Hid (X.length+vs.length≤1000000):=by
    show _≤_;rw[←br,←bx,Jlm cs y k k bc,if_neg (Oe3 _)];exact cc.out k bc
   have cb:=H.row.cell (i:=k) (by rw[H.len];exact ba);rw[bf]at cb;have cC:=H.row.frozen k;have bC:=H.own k ba;rw[bf,br]at bC;have cj:Hid (∀ bj,wr.grownBy bj sv.ownBlock→bj.cell? ⟨g,k,none⟩=some sv∧bj.frozen? ⟨g,k,none⟩=false):=fun bj cy=>by
    have hn:=H.ne k ba;rw[bf]at hn;have R:=cy.block g H.row.lt (fun e=>hn e.symm);exact⟨by rw[Oc3 R];exact cb,by rw[Ol7 R];exact cC⟩
   have bN:B≤wr.heap.size:=Ob2 cu E.out.1;clear Z bx bf br bL;go_wp2_with (first|(at_builtin;refine Jju (by rfl) _ _ (by rfl) B _ X (by rfl) bC _ _ vs (by rfl) bV cf.out bN ?_;intro sv' bD bY bh bZ;obtain⟨cH,cI⟩:=cj.out bD bh;obtain⟨bI,c5,bU,_⟩:=bY.vals;rw[Oa8]at bU;subst bU))
   go_roundw
   case rel=>
    have bS:(Uq K k).ownBlock=sv.ownBlock:=by rw[←bi.out.1 k (Oa2 _),bA.out]
    have bR:=H.put (vs:=vs) (sv':=.slice bI (X.length+vs.length) c5) ba (by rw[ch.out];exact bY) (by rw[bA.out];exact bh) (by rw[bA.out];exact bZ);have bT:=Jy5 cs y k bc;rw[ci.out]at bT;rw[bT]at bR;have bQ:k<O.length:=by rw[H.len];exact ba
    refine⟨k+1,_,by omega,by go_num,bR,⟨fun j Y=>?_,fun j b Y e=>?_⟩,(bO.grown bh bN (fun b R=>(Je bC R).1)).setCell (p:=⟨g,k,none⟩) H.low _,⟨?_,fun x cB bW bX=>?_⟩⟩
    ·rw[Jem bQ,if_neg (by omega)];exact bi.out.1 j (by omega)
    ·rw[Jem bQ]at e;split at e
     ·rename_i cA
      subst cA;rcases bZ with q|q
      ·rw[q]at e;exact .inl (bS.trans e)
      rw[q]at e;simp only[Oc9]at e;exact .inr (by have:=E.out.1;omega)
     exact bi.out.2 j b Y e
    ·have cD:=E.out.1;have cE:=bh.size;have:(bD.setCell ⟨g,k,none⟩ (.slice bI (X.length+vs.length) c5)).heap.size=bD.heap.size:=by simp[World.setCell]
     omega
    rw[Oa4 _ _ _ _ bW,bh.block x (by have:=E.out.1;omega) (fun e=>bX k bc (by rw[bS];exact e.symm))];exact E.out.2 x cB bW bX
   case measure=>simp[intOf];omega
  obtain rfl:k=cs.length:=by omega
  go_wp2;go_end0
  exact⟨rfl,⟨O,H,bi.out.2⟩,bO,E.out.1,E.out.2⟩
structure Jid (D:DS) (T:TS):Prop where
 cols:1≤T.types.length∧T.types.length≤6
 rows:T.rows≤200
 group:1≤T.group∧T.group≤64
 count:T.segs.length=ckN T.rows T.group*T.types.length
 segs:∀ l∈T.segs,l≠[]∧l.length≤1000
 full:∀ l∈T.segs,∀ t,Uf D l=.inl t→t≠[]∧Kje t
def Jgp (y:DS)(T:TS):List (List V)⊕Nat:=(Jkh y T.types T.segs (List.replicate T.rows (List.replicate T.types.length Jf)) (cks T.rows T.group (ckN T.rows T.group))).1
def Zo (y:DS)(T:TS):List (List V)⊕Nat:=(Jfx y T.types T.segs (List.replicate T.types.length []) (cks T.rows T.group (ckN T.rows T.group))).1
theorem Jmq (y:DS)(T:TS)(D:1≤T.group):Jgp y T=Sum.map (Qf T.rows) id (Zo y T)∧∀ cs,Zo y T=.inl cs→cs.length=T.types.length∧∀ c,c<cs.length→(cs.getD c []).length=T.rows:=by
 obtain⟨E,H⟩:=Jwa y T.types T.segs T.rows T.group D (fun l t m vs h=>Jnk h) (ckN T.rows T.group) (Oa2 _);refine⟨E,fun cs h=>?_⟩;obtain⟨O,R⟩:=H cs h;refine⟨O,fun c K=>?_⟩;rw[R c K];exact Ol4 (Jcy D)
def Jrr (w:World)(et pg:Addr)(r:Option (List (List V)⊕Nat))(e:Ending)(w':World):Prop:=
 Below w.heap.size w w'∧match r with
  |none=>e=.returned (.tuple #[.slice none 0 0,.iface 433 (.pointer (some et))])
  |some (.inl cs)=>∃ g y,e=.returned (.tuple #[.slice (some ⟨g,0,none⟩) cs.length cs.length,.nilIface])∧Jar w' w.heap.size g y cs
  |some (.inr j)=>∃ b,e=.returned (.tuple #[.slice none 0 0,.iface 123 (.pointer (some ⟨b,0,none⟩))])∧w.heap.size≤b∧Yu w' (.iface 123 (.pointer (some ⟨b,0,none⟩))) pg (some (-1)) (some (j:Int))
def Jf8 (y:DS)(Ts:List TS)(n:ByteArray):Option (List (List V)⊕Nat):=(Ts[Ub Ts n]?).map (Jgp y)
def Jcm (y:DS)(Ts:List TS)(n:ByteArray):Option (List (List V)⊕Nat):=(Ts[Ub Ts n]?).map (Zo y)
theorem Keq (y:DS)(Ts:List TS)(n:ByteArray)(O:∀ T∈Ts,Jid y T):(Jcm y Ts n=none∧Jf8 y Ts n=none)∨(∃ j,Jcm y Ts n=some (.inr j)∧Jf8 y Ts n=some (.inr j))∨∃ cs m,Jcm y Ts n=some (.inl cs)∧Jf8 y Ts n=some (.inl (Qf m cs))∧m≤200∧1≤cs.length∧cs.length≤6∧∀ c,c<cs.length→(cs.getD c []).length=m:=by
 unfold Jcm Jf8;cases h:Ts[Ub Ts n]? with
 |none=>exact .inl ⟨rfl,rfl⟩
 |some T=>
  have D:=O T (Of6 h);obtain⟨H,K⟩:=Jmq y T D.group.1;simp only[Option.map_some];rw[H];cases hc:Zo y T with
  |inr j=>exact .inr (.inl ⟨j,rfl,rfl⟩)
  |inl cs=>
   obtain⟨E,R⟩:=K cs hc;exact .inr (.inr ⟨cs,T.rows,rfl,rfl,D.rows,by rw[E];exact D.cols.1,by rw[E];exact D.cols.2,R⟩)
theorem Jou (n:ByteArray)(w:World)(F G:Nat→Prop)(s d:Nat)(D:DS)(Ts:List TS)(sv:Value)(bs:List Nat)(h:Jfl w G s d Ts sv bs)(bM:Zb w F d D)(bc:∀ T∈Ts,Jid D T)(bj bn br:Addr)(bN:Jf0 w bj bn br)(et pg:Addr)(bQ:w.cell? ⟨8,0,none⟩=some (.iface 433 (.pointer (some pg))))(bO:w.cell? ⟨2,0,none⟩=some (.iface 433 (.pointer (some et)))) :
  Calls prog 36 #[.pointer (some ⟨s,0,none⟩),.string n] w fun e w'=>Jrr w et pg (Jcm D Ts n) e w':=by
 have hf:=Jo8 n w G s d Ts sv bs h;have bV:=run_neq_nil_nil (P:=prog);by_cases R:Ub Ts n<Ts.length
 ·have U:Jhc Ts n=(Ub Ts n:Int):=by unfold Jhc;rw[if_pos R]
  have bx:Jcm D Ts n=some (Zo D Ts[Ub Ts n]):=by simp[Jcm,R]
  rw[U]at hf;generalize bP:Ub Ts n=k at *;have H:=bc _ (Ob3 R);have bi:Hid (∀ W b,Below w.heap.size w W→Jmg W G b Ts[k]→Calls prog 54 #[.pointer (some ⟨s,0,none⟩),.pointer (some ⟨b,0,none⟩)] W fun e w'=>Ji1 W pg (Zo D Ts[k]) e w'):=fun W b E bK=>
   Kas s d b Ts[k] W F G D (bM.below E) (Ja E h.field.1) bK H.cols H.rows H.group.1 H.group.2 H.count H.segs H.full bj bn br (bN.below E) pg (Ja E bQ)
  have X:Hid (Jcm D Ts n=some (Zo D Ts[k])):=bx;obtain⟨b,o,bC,c2,bh⟩:=h.at R;obtain⟨_,c1⟩:=h.field;obtain⟨a,cap,bD,_⟩:=h.own.cells;rw[Oa6,h.len]at bD;subst bD;simp at bC;subst bC;have bU:=h.few;generalize bs[k]'_=tk at c2 bh;have bB:=fun W E=>bi.out W tk E (bh.stands E.size fun x _ bR=>E.block x bR);have Y:Hid (∀ W,Below w.heap.size w W→Calls prog 54 #[.pointer (some ⟨s,0,none⟩),.pointer (some ⟨tk,0,none⟩)] W fun e w'=>Ji1 W pg (Zo D Ts[k]) e w'):=bB;clear bx U bc H bP h bB bi bh;generalize hr:Zo D Ts[k]=r at *;rcases r with rs|j
  ·have bf:Hid (∀ W,Below w.heap.size w W→Calls prog 54 #[.pointer (some ⟨s,0,none⟩),.pointer (some ⟨tk,0,none⟩)] W fun e w'=>Below W.heap.size W w'∧∃ g bs,e=.returned (.tuple #[.slice (some ⟨g,0,none⟩) rs.length rs.length,.nilIface])∧Jar w' W.heap.size g bs rs):=Y.out;clear Y;go_enter func36,ntmps36
   go_wp2_with (first|(go_at_call 44;refine hf.mono ?_;rintro e Z ⟨rfl,y⟩;have bE:=Ja y c1;have bG:=Ja y c2)|(go_at_call 54;refine(bf.out Z y).mono ?_;rintro e K ⟨ba,g,bH,rfl,O⟩))
   go_ret2
   rw[X.out];exact⟨Jb y ba,g,bH,rfl,⟨O.row,Ob2 y.size O.low,O.len,fun i hi=>(O.own i hi).mono y.size,O.ne,O.apart⟩⟩
  have bf:Hid (∀ W,Below w.heap.size w W→Calls prog 54 #[.pointer (some ⟨s,0,none⟩),.pointer (some ⟨tk,0,none⟩)] W fun e w'=>Below W.heap.size W w'∧∃ b,e=.returned (.tuple #[.slice none 0 0,.iface 157 (.pointer (some ⟨b,0,none⟩))])∧W.heap.size≤b∧Yu w' (.iface 157 (.pointer (some ⟨b,0,none⟩))) pg none (some (j:Int))):=Y.out;clear Y;go_enter func36,ntmps36
  go_wp2_with (first|(go_at_call 44;refine hf.mono ?_;rintro e Z ⟨rfl,y⟩;have bE:=Ja y c1;have bG:=Ja y c2)|(go_at_call 54;refine(bf.out Z y).mono ?_;rintro e K ⟨ba,be,rfl,bS,bL⟩))
  go_ret2
  rw[X.out];have bz:=Jb y ba;have bA:Below K.heap.size K (K.alloc (.cells #[.string n,.int .i64 (-1),.iface 157 (.pointer (some ⟨be,0,none⟩))] 125)):=(Oa5 _ _).alloc (Oa2 _) _;obtain⟨_,z1,z2⟩:=Kil K (.string n) (.int .i64 (-1)) (.iface 157 (.pointer (some ⟨be,0,none⟩))) 125;obtain⟨bI,bJ⟩:=bL.disk_at;exact⟨Jc bz _,K.heap.size,rfl,bz.size,.both K.heap.size be pg (-1) j z1 z2 (Ja bA bI) (Ja bA bJ)⟩
 have U:Jhc Ts n=-1:=by unfold Jhc;rw[if_neg R]
 have X:Hid (Jcm D Ts n=none):=by show _=_;simp[Jcm];omega
 rw[U]at hf;clear U R bc h;go_enter func36,ntmps36
 go_wp2_with (first|(go_at_call 44;refine hf.mono ?_;rintro e Z ⟨rfl,y⟩;have bT:=Ja y bO))
 go_quiet (fail)
 go_wp2;go_ret2
 rw[X.out];exact⟨Jp y _,rfl⟩
end
section
open Go.RowKit Tryz
theorem Kgo (xs:List V)(hn:xs.length≤64)(D:∀ v∈xs,good v.k v.s):(Jds xs).length≤6000:=by
 have y:=Jk0 xs [];have H:=Jgg (Ym [] xs) fun v E=>by
  rcases Jlj xs [] v E with h|h
  ·simp at h
  exact D v h
 unfold Jds;rw[Oa8,List.length_cons,Qb,Jal,Oa6];simp at y;omega
theorem Kan (t:Int)(xs:List V)(hn:xs.length≤64):(Zz t xs).length≤6000:=by
 unfold Zz;split
 ·rw[Qb,Jal];simp[Uv];omega
 cases xs with
 |nil=>simp[Jei]
 |cons v l=>
  unfold Jei;have y:=Jkx (v::l) (Jn v.n (v::l));have H:Uv (v::l) (Jn v.n (v::l))=dif v.n (Jn v.n (v::l))::Uv l (Jn v.n (v::l)):=rfl;rw[H]at y;have K:=Jk2 18446744073709551616 (Uv l (Jn v.n (v::l))) (dif v.n (Jn v.n (v::l))) (y _ Of4) fun n hn=>y n (Og1 _ hn);have D:=Jf7 _ K;rw[Oa8,Oa8,Jc4,Qb,Jal];have E:(Uv (v::l) (Jn v.n (v::l))).length=(v::l).length:=by simp[Uv]
  rw[E];have:bitLen (Yz (dif v.n (Jn v.n (v::l))) (Uv l (Jn v.n (v::l))))*(v::l).length≤64*64:=Ol5 D hn;simp only[List.length_cons,List.length_nil]at *;omega
theorem Kfy (t D:Int)(xs:List V)(hn:xs.length≤64)(y:∀ v∈xs,good v.k v.s):(Jdt t D xs).length≤6000:=by
 unfold Jdt;split
 ·have:=Jgg xs y;omega
 split
 ·exact Kgo xs hn y
 split
 ·have:=Jng _ xs (Oa2 _) y;omega
 exact Kan t xs hn
theorem Khf (t y:Int)(xs:List V)(h:Jdq t xs):(Jav t y xs).length≤6100∧Jav t y xs≠[]:=by
 have D:=Kfy t y (Jz xs) (Ob2 (Zy xs) h.1) (Jgz t xs h);have E:=h.1;refine⟨?_,by simp[Jav,Kz]⟩;unfold Jav Kz;rw[Oa8,Oa8,Qb,Oa6];simp only[List.length_cons,List.length_nil];omega
theorem Jt7 {rows:List (List V)}{ts hs:List Int}{c:Nat}(h:(Uo rows ts hs c).2=0):(Uo rows ts hs c).1.length≤6100∧(Uo rows ts hs c).1≠[]:=by
 unfold Uo Jev at h ⊢;split at h
 ·rename_i D
  rw[if_pos D];split at h
  ·simp at h
  rename_i E
  rw[if_neg E];simp only[Og5]at D;refine Khf _ _ _ ?_;have y:=D.2;unfold Jfr at y;simp only[Og5,decide_eq_true_iff,List.all_eq_true]at y;exact⟨y.1,fun j H=>y.2 _ (Ob3 H)⟩
 simp at h
theorem Jrd (rows:List (List V))(ts hs:List Int):∀ (k:Nat) (l:List (List UInt8)),Jeo rows ts hs k=.inl l→∀ t∈l,t.length≤6100∧t≠[]
 |0,l,h=>by simp[Jeo]at h;subst h;simp
 |k+1,l,h=>by
  simp only[Jeo]at h;split at h
  ·simp at h
  rename_i H E
  split at h
  ·rename_i D
   simp at h;subst h;intro t y;rcases Od2.1 y with y|y
   ·exact Jrd rows ts hs k H E t y
   simp at y;subst y;exact Jt7 D
  simp at h
theorem Jte (rs:List (List V))(ts hs:List Int)(xs:List (Nat×Nat))(T:List (List UInt8))(h:Jfg rs ts hs xs=.inl T):T.length=xs.length*ts.length∧∀ t∈T,t.length≤6100∧t≠[]:=by
 have O:∀ (xs:List (Nat×Nat)) (y T:List (List UInt8)),xs.foldl (Jiu rs ts hs) (.inl y)=.inl T→(∀ t∈y,t.length≤6100∧t≠[])→T.length=y.length+xs.length*ts.length∧∀ t∈T,t.length≤6100∧t≠[]:=by
  intro xs;induction xs with
  |nil=>intro y T h h0;simp at h;subst h;exact⟨by simp,h0⟩
  |cons x xs H=>
   intro y T h h0;rw[List.foldl_cons]at h;simp only[Jiu]at h;split at h
   ·rename_i l hl
    have:=H (y++l) T h (fun t D=>by
     rcases Od2.1 D with D|D
     ·exact h0 t D
     exact Jrd _ ts hs _ l hl t D)
    refine⟨?_,this.2⟩;rw[this.1,Oa8,Jjc _ ts hs _ l hl,List.length_cons,Of5];omega
   rename_i c R
   have K:∀ E:List (Nat×Nat),E.foldl (Jiu rs ts hs) (.inr c)=.inr c:=by
    intro E;induction E with
    |nil=>rfl
    |cons U E H=>exact H
   rw[K]at h;simp at h
 have:=O xs [] T h (by simp);simpa using this
theorem Joc:∀ (ts:List (List UInt8)),(∀ t∈ts,t.length≤6100)→Jch ts≤110*ts.length
 |[],_=>by simp[Jch]
 |t::ts,h=>by
  have D:=Jio t;have E:=h t (by simp);have H:=Joc ts fun t y=>h t (by simp[y]);rw[Ja1,List.length_cons];omega
end
section
open Go.RowKit Tryz
theorem Jrj {w:World}{B:Nat}{sv:Value}{ns:List Int}(h:Jo w B 3 sv (ns.map iv))(O:ns≠[]):∃ g c,sv=.slice (some ⟨g,0,none⟩) ns.length c∧B≤g∧g<w.heap.size∧Kc w (some ⟨g,0,none⟩) ns:=by
 obtain⟨a,c,D,H⟩:=h.cells;rw[Oa6]at D;subst D;rcases h.2 with⟨y,h0⟩|⟨g,cap,R,y,E,K,_⟩
 ·simp at h0;exact absurd h0 O
 simp at y;obtain⟨rfl,rfl⟩:=y;exact⟨g,c,rfl,E,Jd K,H⟩
theorem Jhe (b o cap:Nat)(ns:List Int)(w:World)(y:ns≠[])(hl:ns.length≤1000)(h:Kc w (some ⟨b,o,none⟩) ns) :
  Calls prog 48 #[.slice (some ⟨b,o,none⟩) ns.length cap] w fun e w'=>Below w.heap.size w w'∧∃ g c,e=.returned (.slice (some ⟨g,0,none⟩) ns.length c)∧w.heap.size≤g∧g<w'.heap.size∧Kc w' (some ⟨g,0,none⟩) ns:=by
 have H:Below w.heap.size w (w.alloc (.cells #[] 3)):=(Oa5 _ w).alloc (Oa2 _) _;have O:Hid (∀ (j:Nat) (u:Value),(ns.map iv)[j]?=some u→(w.alloc (.cells #[] 3)).cell? ((⟨b,o,none⟩:Addr).add j)=some u):=fun j u D=>by
  rcases h.below H with h0|⟨bi,br,K,_,Z⟩
  ·simp at h0;exact absurd h0 y
  simp at K;obtain⟨rfl,rfl⟩:=K;rw[Op7];exact Z j u D
 have U:Hid (Jo (w.alloc (.cells #[] 3)) w.heap.size 3 (.slice (some ⟨w.heap.size,0,none⟩) 0 0) []):=
  ⟨rfl,.inr ⟨w.heap.size,0,#[],rfl,Oa2 _,heap_alloc_new _ _,Oa2 _,Ob7 _,rfl,rfl⟩⟩
 have R:Hid (ns≠[]):=y;have bn:∀ W:World,(binOp .eql 22 (.slice (some ⟨b,o,none⟩) ns.length cap) (.slice none 0 0)).run prog W=.ok (.bool false) W:=fun W=>Lib.run_eql_slice_some_nil W _ _ _ underlying22;clear y h;go_enter func48,ntmps48
 go_wp2_with (at_builtin;go_must (refine Ul (by rfl) _ _ 22 3 _ 8 Zw (by rfl) (by decide) (by kernel_rfl) (by rfl) w.heap.size _ [] (by rfl) (by exact U.out) ⟨b,o,none⟩ cap (ns.map iv) (by simp[Act.eval]) (by exact O.out) (by intro u D;obtain⟨x,_,rfl⟩:=Of0.1 D;rfl) (by simp;omega) (by simp) ?_);intro sv' bh E X bj)
 have Y:Below w.heap.size w bh:=Jy (sv:=.slice (some ⟨w.heap.size,0,none⟩) 0 0) H X (fun g ba=>by simp[Value.ownBlock]at ba;omega);rw[List.nil_append]at E;obtain⟨g,c,rfl,bc,bf,hI⟩:=Jrj E R.out;go_ret
 exact⟨Y,g,c,rfl,bc,bf,hI⟩
end
section
open Go.RowKit Go.Shelf Tryz
theorem Jru:(prog.info? 126).map (fun i=>(i.zero,i.size,i.bytes))=some (some (.pointer none),1,8):=by kernel_rfl
end
section
open Go.RowKit Go.Shelf Tryz
def Je3 (ts hs:List Int):Prop:=hs.length=ts.length∧∀ j (y:j<hs.length),way (ts.getD j 0) hs[j]=true
structure Kct (w:World) (name:ByteArray) (at_ ar ah:Option Addr) (cr:Nat) (ts hs:List Int) (xs:List (Option Addr×Nat)) (rs:List (List V)):Prop where
 ln:name.size≤maxLen
 lt:ts.length≤maxLen
 lr:rs.length≤maxLen
 lrr:∀ r∈rs,r.length≤maxLen
 lh:hs.length≤maxLen
 cap:rs.length≤cr
 types:Kc w at_ ts
 hows:Kc w ah hs
 rows:Zd w ar xs rs
theorem Kct.below {w w':World}{name:ByteArray}{at_ ar D:Option Addr}{cr:Nat}{ts hs:List Int}{xs:List (Option Addr×Nat)}{rs:List (List V)}(h:Kct w name at_ ar D cr ts hs xs rs)(y:Below w.heap.size w w'):Kct w' name at_ ar D cr ts hs xs rs:=
 ⟨h.ln,h.lt,h.lr,h.lrr,h.lh,h.cap,h.types.below y,h.hows.below y,h.rows.below y⟩
abbrev Jvc (name:ByteArray)(at_ ar:Option Addr)(ct cr:Nat)(ts:List Int)(rs:List (List V)):Value:=.agg #[.string name,.slice at_ ts.length ct,.slice ar rs.length cr]
abbrev Jln (name:ByteArray)(at_ ar:Option Addr)(ct cr:Nat)(ts:List Int)(rs:List (List V)):Obj:=.cells #[.string name,.slice at_ ts.length ct,.slice ar rs.length cr] 25
end
section
open Go.RowKit Go.Shelf Tryz
structure Jqy (w:World) (s d:Nat) (F G:Nat→Prop) (D:DS) (Ts:List TS) (sv:Value) (bs:List Nat) (name:ByteArray) (at_ ar ah:Option Addr) (cr:Nat) (ts hs:List Int) (xs:List (Option Addr×Nat)) (rs:List (List V)) (g:Nat):Prop where
 args:Kct w name at_ ar ah cr ts hs xs rs
 tab:Jel name ts rs
 ways:Je3 ts hs
 g1:1≤g
 g2:g≤64
 set:Jfl w G s d Ts sv bs
 new:¬ Ub Ts name<Ts.length
 few:Ts.length<6
 disk:Zb w F d D
 lt:∀ k,F k∨G k→k<w.heap.size
 apart:∀ k,G k→¬ F k
 sF:¬ F s
 gF:∀ g,sv.ownBlock=some g→¬ F g
 tF:∀ b o,at_=some ⟨b,o,none⟩→¬ F b
 small:D.pages.length≤200000
 wayc:∀ x∈hs,Kjk x
end
section
open Go.RowKit Go.Shelf Tryz
structure Kkv (w:World) (s d:Nat) (F:Nat→Prop) (D:DS) (Ts:List TS) (name:ByteArray) (at_ ar ah:Option Addr) (ct cr ch:Nat) (ts hs:List Int) (rs:List (List V)) (g:Nat) (T:List (List UInt8)) (q qw:Addr):Prop where
 t:Calls prog 42 #[Jvc name at_ ar ct cr ts rs] (w.alloc (Jln name at_ ar ct cr ts rs)) fun e w'=>e=.returned (.bool true)∧Below (w.alloc (Jln name at_ ar ct cr ts rs)).heap.size (w.alloc (Jln name at_ ar ct cr ts rs)) w'
 ws:∀ W,Below w.heap.size w W→Calls prog 43 #[.slice ah hs.length ch,.slice at_ ts.length ct] W fun e w'=>e=.returned (.bool true)∧w'=W
 f:∀ W,Below w.heap.size w W→Calls prog 44 #[.pointer (some ⟨s,0,none⟩),.string name] W fun e w'=>e=.returned (.int .i64 (-1))∧Below W.heap.size W w'
 p:∀ W,Below w.heap.size w W→Calls prog 45 #[.agg #[.string name,.slice at_ ts.length ct,.slice ar rs.length cr],.slice ah hs.length ch,.int .i64 (g:Int)] W fun e w'=>Below W.heap.size W w'∧∃ a cap,e=.returned (.tuple #[.slice a T.length cap,.nilIface])∧Uh w' a (T.map tv)∧∀ b o,a=some ⟨b,o,none⟩→W.heap.size≤b
 l:∀ W a cap,Below w.heap.size w W→Uh W a (T.map tv)→(∀ b o,a=some ⟨b,o,none⟩→w.heap.size≤b)→Calls prog 46 #[.pointer (some ⟨s,0,none⟩),.slice a T.length cap] W fun e w'=>Jxo W F d q qw (Jq D T) e w'
open Classical in
theorem Jqy.hid {w:World}{s d:Nat}{F G:Nat→Prop}{D:DS}{Ts:List TS}{sv:Value}{bs:List Nat}{name:ByteArray}{at_ ar ah:Option Addr}{cr:Nat}{ts hs:List Int}{xs:List (Option Addr×Nat)}{rs:List (List V)}{g:Nat}(h:Jqy w s d F G D Ts sv bs name at_ ar ah cr ts hs xs rs g)(ct ch:Nat)(a0 a1 a2:Addr)(he:Jf0 w a0 a1 a2)
  (T:List (List UInt8)) (hp:Jfg rs ts hs (cks rs.length g (ckN rs.length g))=.inl T) (q qw:Addr) (hq:w.cell? ⟨6,0,none⟩=some (.iface 433 (.pointer (some q)))) (hw:w.cell? ⟨7,0,none⟩=some (.iface 433 (.pointer (some qw)))) (hFq:¬ F 6) (hFw:¬ F 7):Kkv w s d F D Ts name at_ ar ah ct cr ch ts hs rs g T q qw:=by
 have hb0:Below w.heap.size w (w.alloc (Jln name at_ ar ct cr ts rs)):=(Oa5 _ w).alloc (Oa2 _) _;have hA:=h.args;have hT:=Kjj name at_ ar ct cr ts xs rs _ hA.ln hA.lt hA.lr hA.lrr (hA.types.below hb0) (hA.rows.below hb0);rw[decide_eq_true h.tab]at hT;have hfv:Jhc Ts name=-1:=by unfold Jhc;rw[if_neg h.new]
 refine⟨hT,fun W hb=>Kjr ah at_ ch ct hs ts W hA.lh (hA.hows.below hb) (hA.types.below hb) true (by simpa [Je3] using h.ways),fun W hb=>by rw[←hfv];exact Jo8 name W G s d Ts sv bs (h.set.below hb),fun W hb=>?_,fun W a cap hb hc ha=>?_⟩
 ·have:=Kkk name at_ ar ah ct cr ch g ts hs xs rs W h.tab h.ways.1 h.ways.2 h.g1 h.g2 hA.cap (hA.types.below hb) (hA.hows.below hb) (hA.rows.below hb) h.wayc a0 a1 a2 (he.below hb);rw[hp]at this;exact this
 obtain⟨hl1,hl2⟩:=Jte rs ts hs _ T hp;have hck:(cks rs.length g (ckN rs.length g)).length≤200:=by
  have h2:rs.length≤200:=h.tab.2.2.1;have h3:ckN rs.length g≤rs.length:=by
   unfold ckN;have:=h.g1;exact Nat.le_of_lt_succ ((Nat.div_lt_iff_lt_mul (by omega)).2 (by
    have:rs.length+1≤(rs.length+1)*g:=On4 _ (by omega);rw[Of5]at this ⊢;have h5:rs.length≤rs.length*g:=On4 _ (by omega);omega))
  simp[cks];omega
 have h6:ts.length≤6:=h.tab.2.1.1.2;have hTl:T.length≤1200:=by
  rw[hl1];exact Ob2 (Ol5 hck h6) (by decide)
 have htp:=Joc T fun t ht=>(hl2 t ht).1;have hsm:=h.small;exact Kks s d a cap T W F D (h.disk.below hb) (fun k hk=>Oc2 (h.lt k (.inl hk)) hb.size) hc (fun b o hbo hf=>by have:=h.lt b (.inl hf);have:=ha b o hbo;omega) (Ja hb h.set.field.1) h.sF q qw (Ja hb hq) (Ja hb hw) hFq hFw (by omega) (by omega) (fun t ht=>by have:=(hl2 t ht).1;omega)
end
section
open Go.RowKit Go.Shelf Tryz
def Jdl (w:World)(s d:Nat)(F G:Nat→Prop)(D:DS)(Ts:List TS)(sv:Value)(bs:List Nat)(name:ByteArray)(ts:List Int)(rs:List (List V))(g:Nat)(T:List (List UInt8))(w':World):Prop:=
 Ju (fun k=>F k∨Jnr s sv k) w w'∧∃ (FD y:Nat→Prop) (sv':Value) (E:Nat),Zb w' FD d (Jq D T).1∧Jfl w' y s d (Ts++[⟨name,ts,rs.length,g,(Jq D T).2.1⟩]) sv' (bs++[E])∧(∀ k,FD k→F k∨w.heap.size≤k)∧(∀ k,y k→G k∨w.heap.size≤k)∧(∀ k,FD k∨y k→k<w'.heap.size)∧(∀ k,y k→¬ FD k)∧¬ FD s∧(∀ k,sv'.ownBlock=some k→¬ FD k)∧(∀ k,sv'.ownBlock=some k→sv.ownBlock=some k∨w.heap.size≤k)
abbrev Jr (name:ByteArray)(D y:Nat)(ts:List Int)(rs:List (List V))(g:Nat)(E:Option Addr)(n H:Nat):Obj:=.cells #[.string name,.slice (some ⟨D,0,none⟩) ts.length y,.int .i64 (rs.length:Int),.int .i64 (g:Int),.slice E n H] 130
theorem Jgq {w:World}{s d:Nat}{F G:Nat→Prop}{R:DS}{Ts:List TS}{sv:Value}{bs:List Nat}{name:ByteArray}{at_ ar bR:Option Addr}{cr:Nat}{ts hs:List Int}{xs:List (Option Addr×Nat)}{rs:List (List V)}{g:Nat}(h:Jqy w s d F G R Ts sv bs name at_ ar bR cr ts hs xs rs g)
  {T:List (List UInt8)} {Z H E K:World} {FD:Nat→Prop} {bC:Option Addr} {bD:Nat} {bP:List (Option Addr×Nat)} (bc:Below w.heap.size w Z) (bi:Ju F Z H) (bT:Zb H FD d (Jq R T).1) (bL:∀ k,FD k→F k∨Z.heap.size≤k) (bB:∀ k,FD k→k<H.heap.size)
  (bY:Jaf H (fun k=>Z.heap.size≤k∧k<H.heap.size∧¬ FD k) bC bP (Jq R T).2.1) (bX:(Jq R T).2.1.length≤bD) (bf:Below H.heap.size H E) {U bE:Nat} (cc:H.heap.size≤U) (cf:U<E.heap.size) (hI:Kc E (some ⟨U,0,none⟩) ts)
  {sv':Value} {bA:Obj} (bV:Jo K 0 126 sv' (bs.map Jcp++[Jcp E.heap.size])) (bh:((E.alloc (Jr name U bE ts rs g bC (Jq R T).2.1.length bD)).alloc bA).grownBy K sv.ownBlock) (bS:sv'.ownBlock=sv.ownBlock∨sv'.ownBlock=some (E.heap.size+2)) :
  Jdl w s d F G R Ts sv bs name ts rs g T (K.setCell ⟨s,1,none⟩ sv'):=by
 have ci:=bc.size;have ch:=bi.size;have cj:=bf.size;have bZ:=bh.size;simp only[Oa7]at bZ;have bH:s<w.heap.size:=Jd h.set.cells;have bj:∀ k,sv.ownBlock=some k→k<w.heap.size:=fun k y=>Qk h.set.own y;have cb:∀ k,F k→k<w.heap.size:=fun k y=>h.lt k (.inl y);have bG:∀ k,G k→k<w.heap.size:=fun k y=>h.lt k (.inr y);have bx:∀ k,k<w.heap.size→FD k→F k:=fun k y hf=>(bL k hf).resolve_right (by omega);have bz:(K.setCell ⟨s,1,none⟩ sv').heap.size=K.heap.size:=by simp[World.setCell]
 -- the blocks that stand
 have bO:∀ k,k<E.heap.size+2→sv.ownBlock≠some k→k≠s→(K.setCell ⟨s,1,none⟩ sv').heap[k]?=((E.alloc (Jr name U bE ts rs g bC (Jq R T).2.1.length bD)).alloc bA).heap[k]?:=fun k y Y X=>
  (Oa4 _ _ _ _ X).trans (bh.block k (by simp;omega) (Oc5 Y))
 have bN:∀ k,k<E.heap.size→sv.ownBlock≠some k→k≠s→(K.setCell ⟨s,1,none⟩ sv').heap[k]?=E.heap[k]?:=fun k y Y X=>
  (bO k (by omega) Y X).trans ((Oa9 _ bA k (by simp;omega)).trans (Oa9 E _ k y))
 have bK:∀ k,k<H.heap.size→sv.ownBlock≠some k→k≠s→(K.setCell ⟨s,1,none⟩ sv').heap[k]?=H.heap[k]?:=fun k y Y X=>
  (bN k (by omega) Y X).trans (bf.block k y)
 have bM:∀ k,k<w.heap.size→¬ F k→sv.ownBlock≠some k→k≠s→(K.setCell ⟨s,1,none⟩ sv').heap[k]?=w.heap[k]?:=fun k y hF Y X=>
  (bK k (by omega) Y X).trans ((bi.block k (by omega) hF).trans (bc.block k y))
 have bI:sv.ownBlock≠some s:=fun e=>(h.set.gF s e).2 rfl;have bW:K.heap[s]?=some (.cells #[.pointer (some ⟨d,0,none⟩),sv] 113 (0,0)):=by
  rw[bh.block s (by simp;omega) (Oc5 bI),Oa9 _ bA s (by simp;omega),Oa9 E _ s (by omega),bf.block s (by omega),bi.block s (by omega) h.sF,bc.block s bH];exact h.set.cells
 have O:∀ k,sv'.ownBlock=some k→sv.ownBlock=some k∨k=E.heap.size+2:=fun k y=>by
  rcases bS with e|e
  ·exact .inl (e▸y)
  rw[e]at y;simp at y;exact .inr y.symm
 refine⟨⟨bh.os.trans ((bf.os).trans (bi.os.trans bc.os)),bh.tape.trans ((bf.tape).trans (bi.tape.trans bc.tape)),bh.output.trans ((bf.output).trans (bi.output.trans bc.output)),by rw[bz];omega,fun k y hn=>bM k y (fun hF=>hn (.inl hF)) (fun e=>hn (.inr (.inr e))) (fun e=>hn (.inr (.inl e)))⟩,
  FD,fun k=>G k∨(Z.heap.size≤k∧k<H.heap.size∧¬ FD k)∨k=U∨k=E.heap.size,sv',E.heap.size,?_,?_,fun k y=>(bL k y).imp_right fun h=>by omega,?_,?_,?_,?_,?_,?_⟩
 ·refine bT.stands fun k y hl=>bK k hl (fun e=>?_) (fun e=>?_)
  ·exact h.gF k e (bx k (bj k e) y)
  subst e;exact h.sF (bx k bH y)
 ·refine⟨heap_setCell_same K s 1 _ _ _ bW,?_,?_,?_,by simp[h.set.len],?_,by have:=h.few;simp;omega⟩
  ·rw[Ob8,Oe4,Oi4];refine Yd bV fun k y=>Oa4 _ _ _ _ fun e=>?_;subst e;rcases O k y with e|e
   ·exact bI e
   omega
  ·rintro(D|⟨D,_⟩|D|D)
   ·exact h.set.sF D
   ·omega
   ·omega
   omega
  ·intro k y;refine⟨?_,fun e=>?_⟩
   ·rintro(D|⟨D,ca,_⟩|D|D)
    ·rcases O k y with e|e
     ·exact(h.set.gF k e).1 D
     have:=bG k D;omega
    ·rcases O k y with e|e
     ·have:=bj k e;omega
     omega
    ·rcases O k y with e|e
     ·have:=bj k e;omega
     omega
    rcases O k y with e|e
    ·have:=bj k e;omega
    omega
   subst e;rcases O k y with e|e
   ·exact bI e
   omega
  intro i b bQ ba bn;by_cases hi:i<bs.length
  ·rw[Ob0 hi]at ba;rw[Ob0 (by rw[←h.set.len];exact hi)]at bn;refine((h.set.tab i b bQ ba bn).stands (by rw[bz];omega) fun k y hl=>bM k hl (h.apart k y) (fun e=>(h.set.gF k e).1 y) (fun e=>h.set.sF (e▸y))).mono fun k y=>.inl y
  have bU:i=bs.length:=by
   have:=(Ob9.1 ba).1;simp at this;omega
  subst bU;rw[Ob6 (Oa2 _)]at ba;rw[h.set.len,Ob6 (Oa2 _)]at bn;simp at ba bn;subst ba bn;have bJ:∀ k,Z.heap.size≤k→sv.ownBlock≠some k:=fun k y e=>by have:=bj k e;omega
  refine⟨some ⟨U,0,none⟩,bE,bC,bD,bP,?_,?_,?_,?_,bX,.inr (.inr (.inr rfl))⟩
  ·rw[bO _ (by omega) (bJ _ (by omega)) (by omega),Oa9 _ bA _ (by simp),heap_alloc_new]
  ·refine hI.of_block (by rw[bz];omega) fun b o br hl=>?_;simp at br;obtain⟨rfl,rfl⟩:=br;exact bN _ hl (bJ _ (by omega)) (by omega)
  ·intro b o br;simp at br;exact .inr (.inr (.inl br.1.symm))
  exact(bY.stands (by rw[bz];omega) fun k y hl=>bK k hl (bJ k y.1) (by have:=y.1;omega)).mono fun k y=>.inr (.inl y)
 ·rintro k (D|⟨D,_⟩|D|D)
  ·exact .inl D
  ·exact .inr (by omega)
  ·exact .inr (by omega)
  exact .inr (by omega)
 ·rw[bz];rintro k (D|D|⟨_,D,_⟩|D|D)
  ·have:=bB k D;omega
  ·have:=bG k D;omega
  ·omega
  ·omega
  omega
 ·rintro k (D|⟨_,_,D⟩|D|D) hf
  ·exact h.apart k D (bx k (bG k D) hf)
  ·exact D hf
  ·have:=bB k hf;omega
  have:=bB k hf;omega
 ·exact fun hf=>h.sF (bx s bH hf)
 ·intro k y hf;rcases O k y with e|e
  ·exact h.gF k e (bx k (bj k e) hf)
  have:=bB k hf;omega
 intro k y;rcases O k y with e|e
 ·exact .inl e
 exact .inr (by omega)
theorem Ked (s d:Nat)(F G:Nat→Prop)(bD:DS)(Ts:List TS)(sv:Value)(bs:List Nat)(name:ByteArray)(at_ ar cx:Option Addr)(ct cr cA:Nat)(ts hs:List Int)(xs:List (Option Addr×Nat))(rs:List (List V))(g:Nat)(w:World)(h:Jqy w s d F G bD Ts sv bs name at_ ar cx cr ts hs xs rs g)(dk dm dp:Addr)(fd:Jf0 w dk dm dp)
  (T:List (List UInt8)) (hp:Jfg rs ts hs (cks rs.length g (ckN rs.length g))=.inl T) (q dQ:Addr) (dI:w.cell? ⟨6,0,none⟩=some (.iface 433 (.pointer (some q)))) (dL:w.cell? ⟨7,0,none⟩=some (.iface 433 (.pointer (some dQ)))) (dY:¬ F 6) (dZ:¬ F 7) (dM:(Jq bD T).2.2=none) :
  Calls prog 29 #[.pointer (some ⟨s,0,none⟩),Jvc name at_ ar ct cr ts rs,.slice cx hs.length cA,.int .i64 (g:Int)] w fun e w'=>e=.returned .nilIface∧Jdl w s d F G bD Ts sv bs name ts rs g T w':=by
 have fc:Below w.heap.size w (w.alloc (Jln name at_ ar ct cr ts rs)):=(Oa5 _ w).alloc (Oa2 _) _;obtain⟨dC,dD,hF,dB,hL⟩:=h.hid ct cA dk dm dp fd T hp q dQ dI dL dY dZ;have dj:Hid (∀ W,Below w.heap.size w W→Calls prog 43 #[.slice cx hs.length cA,.slice at_ ts.length ct] W fun e w'=>e=.returned (.bool true)∧w'=W):=dD;have df:Hid (∀ W,Below w.heap.size w W→Calls prog 44 #[.pointer (some ⟨s,0,none⟩),.string name] W fun e w'=>e=.returned (.int .i64 (-1))∧Below W.heap.size W w'):=hF;have dh:Hid (∀ W,Below w.heap.size w W→Calls prog 45 #[.agg #[.string name,.slice at_ ts.length ct,.slice ar rs.length cr],.slice cx hs.length cA,.int .i64 (g:Int)] W fun e w'=>Below W.heap.size W w'∧∃ a cap,e=.returned (.tuple #[.slice a T.length cap,.nilIface])∧Uh w' a (T.map tv)∧∀ b o,a=some ⟨b,o,none⟩→W.heap.size≤b):=dB;have dg:Hid (∀ W a cap,Below w.heap.size w W→Uh W a (T.map tv)→(∀ b o,a=some ⟨b,o,none⟩→w.heap.size≤b)→Calls prog 46 #[.pointer (some ⟨s,0,none⟩),.slice a T.length cap] W fun e w'=>Ju F W w'∧∃ FD:Nat→Prop,Zb w' FD d (Jq bD T).1∧(∀ k,FD k→F k∨W.heap.size≤k)∧(∀ k,FD k→k<w'.heap.size)∧∃ K O dd,e=.returned (.tuple #[.slice K (Jq bD T).2.1.length O,.nilIface])∧Jaf w' (fun k=>W.heap.size≤k∧k<w'.heap.size∧¬ FD k) K dd (Jq bD T).2.1∧(Jq bD T).2.1.length≤O):=fun W a cap dV dW dX=>
  (hL W a cap dV dW dX).mono fun e w' db=>by
   unfold Jxo at db;rw[dM]at db;exact db
 have dN:(w.alloc (Jln name at_ ar ct cr ts rs)).cell? ⟨w.heap.size,0,none⟩=some (.string name):=by simp
 have dO:(w.alloc (Jln name at_ ar ct cr ts rs)).cell? ⟨w.heap.size,1,none⟩=some (.slice at_ ts.length ct):=by simp
 have dP:(w.alloc (Jln name at_ ar ct cr ts rs)).cell? ⟨w.heap.size,2,none⟩=some (.slice ar rs.length cr):=by simp
 have da:¬ F w.heap.size:=fun hf=>Oe3 _ (h.lt _ (.inl hf));have Y:Hid (Jqy w s d F G bD Ts sv bs name at_ ar cx cr ts hs xs rs g):=h;obtain⟨_,c1⟩:=h.set.field;obtain⟨a,cap,dK,_⟩:=h.set.own.cells;rw[Oa6,h.set.len]at dK;subst dK;have fm:=h.few;have fo:=h.g1;have fp:=h.g2;have fe:=h.sF;have cJ:ts≠[]:=fun e=>by have:=h.tab.2.1.1.1;rw[e]at this;simp at this
 obtain⟨cu,cv,rfl⟩:∃ b o,at_=some ⟨b,o,none⟩:=by
  rcases h.args.types with h0|⟨b,o,cX,_⟩
  ·simp at h0;exact absurd h0 cJ
  exact⟨b,o,cX⟩
 have fi:Hid (ts≠[]):=cJ;have fq:rs.length≤200:=h.tab.2.2.1;generalize hR:(Jq bD T).2.1=R at *;have cy:Hid ((Jq bD T).2.1=R):=hR;clear hR;have di:Hid (∀ W,Calls prog 47 #[.string name] W fun e w'=>e=.returned (.string name)∧Below W.heap.size W w'):=fun W=>by
  have:=Jhm name.toList W (by have:=h.tab.1.2;rw[←Jb2,Zf];omega);rwa [Zf]at this
 have cT:Hid (∀ W,Kc W (some ⟨cu,cv,none⟩) ts→Calls prog 48 #[.slice (some ⟨cu,cv,none⟩) ts.length ct] W fun e w'=>Below W.heap.size W w'∧∃ g c,e=.returned (.slice (some ⟨g,0,none⟩) ts.length c)∧W.heap.size≤g∧g<w'.heap.size∧Kc w' (some ⟨g,0,none⟩) ts):=fun W hI=>Jhe cu cv ct ts W cJ (by have:=h.tab.2.1.1.2;omega) hI;obtain⟨cP,cH,cM,cN,cO⟩:=info_parts Jru;clear h hp dD hF dB hL dI dL dM cJ;go_enter func29,ntmps29
 go_wp2_with (first|(go_at_call 42;refine dC.mono ?_;rintro e dR ⟨rfl,cB⟩;have cY:=Jb fc cB;have dq:=Ja cB dN;have dr:=Ja cB dO;have ds:=Ja cB dP)|(go_at_call 43;refine(dj.out dR cY).mono ?_;rintro e fj ⟨rfl,rfl⟩)|(go_at_call 44;refine(df.out _ cY).mono ?_;rintro e fk ⟨rfl,cC⟩;have cD:=Jb cY cC;have dT:=Ja cD c1;have dt:=Ja cC dq;have bN:=Ja cC dr;have du:=Ja cC ds)|(go_at_call 45;refine(dh.out _ cD).mono ?_;rintro e dS ⟨cE,ff,fg,rfl,dH,dG⟩;have bj:=Jb cD cE;have dv:=Ja cE dt;have dw:=Ja cE bN;have dx:=Ja cE du;have dy:=Ja bj c1;have fh:=cD.size)|(go_at_call 46;refine(dg.out _ ff fg bj dH (fun b o cX=>Ob2 fh (dG b o cX))).mono ?_;rintro e bc ⟨bf,FD,cF,cG,cI,K,O,dd,rfl,dJ,cK⟩;have dU:=bf.cell dv da;have g1:=bf.cell dw da;have g2:=bf.cell dx da;have dz:=bf.cell dy fe))
 have dA:Kc bc (some ⟨cu,cv,none⟩) ts:=(Y.out.args.types.below bj).of_block bf.size fun b o dE hl=>by
  simp at dE;obtain⟨rfl,rfl⟩:=dE;exact bf.block _ hl (Y.out.tF _ _ rfl)
 have cU:Hid (Kc bc (some ⟨cu,cv,none⟩) ts):=dA;have cz:Hid (Jaf bc (fun k=>dS.heap.size≤k∧k<bc.heap.size∧¬ FD k) K dd R):=dJ;clear dA dJ dC dN dO dP dq dr ds dt bN du dv dw dx dy dT c1 dH dG dj df dh dg;refine wp_region_held_drew (S:=fun cV=>cV.cell? ⟨w.heap.size,0,none⟩=some (.string name)∧cV.cell? ⟨w.heap.size,1,none⟩=some (.slice (some ⟨cu,cv,none⟩) ts.length ct)∧cV.cell? ⟨w.heap.size,2,none⟩=some (.slice ar rs.length cr)) (by kernel_rfl) ⟨dU,g1,g2⟩ (fun D=>?_);refine tkj 0 rfl D ?_;refine tkj 1 rfl D ?_;refine tkj 2 rfl D ?_;refine tkj 3 rfl D ?_;refine tkj 5 rfl D ?_;refine tkj 6 rfl D ?_;refine tkj 8 rfl D ?_;refine tkj 9 rfl D ?_;refine tkj 11 rfl D ?_;refine tkj 12 rfl D ?_;refine tkj 13 rfl D ?_;refine tkj 14 rfl D ?_;refine tkj 15 rfl D ?_;refine tkn ?_;refine wpAnyH_ready (rs:=[4,7]) (by kernel_rfl) (by simp) (AllReadyH.cons rfl (fun X E=>?_) (AllReadyH.cons rfl (fun X E=>?_) AllReadyH.nil))
 ·go_simp;refine E.out _ _ D (fun D=>?_);clear E X;refine tkr 7 rfl fun X E=>?_;go_simp;refine(di.out _).mono ?_;rintro e bO ⟨rfl,bn⟩;have cQ:=Ja bn (show bc.drew.cell? _=_ from dz);go_simp;refine E.out _ _ ⟨Ja bn D.1,Ja bn D.2.1,Ja bn D.2.2⟩ (fun D=>?_);clear E X;refine tkr 10 rfl fun X E=>?_;go_simp;refine(cT.out _ ((cU.out.of_block (w':=bO) bn.size fun b o _ hl=>bn.block b hl))).mono ?_;rintro e y ⟨bE,H,U,rfl,ci,cj,bP⟩;have ch:Hid (Kc y (some ⟨H,0,none⟩) ts):=bP;clear bP;have cn:=Ja bE cQ;go_simp;refine E.out _ _ ⟨Ja bE D.1,Ja bE D.2.1,Ja bE D.2.2⟩ (fun D=>?_);clear E X;refine tkj 16 rfl D ?_;refine tkn ?_;refine tkr 17 rfl fun X E=>?_;go_simp;have br:Below y.heap.size y (y.alloc (Jr name H U ts rs g K R.length O)):=(Oa5 _ _).alloc (Oa2 _) _;have bQ:=Ja br cn;refine E.out _ _ ⟨Ja br D.1,Ja br D.2.1,Ja br D.2.2⟩ (fun D=>?_);clear E X;refine tkr 18 rfl fun X E=>?_;go_simp;have ba:Below (y.alloc (Jr name H U ts rs g K R.length O)).heap.size (y.alloc (Jr name H U ts rs g K R.length O)) ((y.alloc (Jr name H U ts rs g K R.length O)).alloc (.cells #[.pointer (some ⟨y.heap.size,0,none⟩)] 126)):=(Oa5 _ _).alloc (Oa2 _) _;have cS:=Ja ba bQ;refine E.out _ _ ⟨Ja ba D.1,Ja ba D.2.1,Ja ba D.2.2⟩ (fun D=>?_);clear E X;refine tkr 19 rfl fun X E=>?_;have z1:bc.heap.size≤bO.heap.size:=bn.size;have bG:Below bc.heap.size bc y:=Jw (Jb bn bE);have bH:∀ k,k<bc.heap.size→((y.alloc (Jr name H U ts rs g K R.length O)).alloc (.cells #[.pointer (some ⟨y.heap.size,0,none⟩)] 126)).heap[k]?=bc.heap[k]?:=fun k bB=>by
   have z2:=bG.size;rw[ba.block k (by simp;omega),br.block k (by omega),bG.block k bB]
  have bJ:Jo ((y.alloc (Jr name H U ts rs g K R.length O)).alloc (.cells #[.pointer (some ⟨y.heap.size,0,none⟩)] 126)) 0 126 (.slice a Ts.length cap) (bs.map Jcp):=Yd Y.out.set.own fun k bB=>by
   have bV:=Qk Y.out.set.own bB;have cf:=bj.size;have cc:=bf.size;rw[bH k (by omega),bf.block k (by omega) (Y.out.gF k bB),bj.block k bV]
  have bZ:((y.alloc (Jr name H U ts rs g K R.length O)).alloc (.cells #[.pointer (some ⟨y.heap.size,0,none⟩)] 126)).ownsRow 0 126 1 (.slice a Ts.length cap) Ts.length (bs.map Jcp):=by
   have:=bJ;unfold Jo at this;rwa [Oa6,Y.out.set.len]at this
  have bK:((y.alloc (Jr name H U ts rs g K R.length O)).alloc (.cells #[.pointer (some ⟨y.heap.size,0,none⟩)] 126)).heap[s]?=some (.cells #[.pointer (some ⟨d,0,none⟩),.slice a Ts.length cap] 113 (0,0)):=by
   have ca:=Jd Y.out.set.cells;have cf:=bj.size;have cc:=bf.size;rw[bH s (by omega),bf.block s (by omega) Y.out.sF,bj.block s ca];exact Y.out.set.cells
  have bU:((y.alloc (Jr name H U ts rs g K R.length O)).alloc (.cells #[.pointer (some ⟨y.heap.size,0,none⟩)] 126)).heap[y.heap.size+1]?=some (.cells #[.pointer (some ⟨y.heap.size,0,none⟩)] 126 (0,0)):=by
   have:=heap_alloc_new (y.alloc (Jr name H U ts rs g K R.length O)) (.cells #[.pointer (some ⟨y.heap.size,0,none⟩)] 126);rwa [Oa7]at this
  refine step_append_lies ((y.alloc (Jr name H U ts rs g K R.length O)).alloc (.cells #[.pointer (some ⟨y.heap.size,0,none⟩)] 126)) rfl (.tmp 73) (.tmp 87) 111 rfl 0 126 cP (.pointer none) 1 8 underlying111 cH cM cN cO rfl (by decide) (.slice a Ts.length cap) Ts.length (bs.map Jcp) rfl bZ ⟨y.heap.size+1,0,none⟩ 1 1 [Jcp y.heap.size] rfl rfl (fun j u bC=>World.news_of_block bU j u (by simpa [Jcp] using bC)) (fun u bC=>by simp at bC;subst bC;rfl) (by decide) (by unfold maxLen;omega) (by omega) (Ob7 _) (y.heap.size+2) (by simp) (fun bi bh Z bY bA bT cZ=>?_);have de:=bA.size;have bW:(Value.slice a Ts.length cap).ownBlock≠some s:=fun e=>(Y.out.set.gF s e).2 rfl;have bX:(Value.slice a Ts.length cap).ownBlock≠some w.heap.size:=fun e=>Oe3 _ (Qk Y.out.set.own e);have bL:Z.heap[s]?=some (.cells #[.pointer (some ⟨d,0,none⟩),.slice a Ts.length cap] 113 (0,0)):=(bA.block s (Jd bK) (Oc5 bW)).trans bK;have bM:Z.heap[w.heap.size]?=((y.alloc (Jr name H U ts rs g K R.length O)).alloc (.cells #[.pointer (some ⟨y.heap.size,0,none⟩)] 126)).heap[w.heap.size]?:=bA.block w.heap.size (Jm D.1) (Oc5 bX);have bz:∀ o:Nat,Z.cell? ⟨w.heap.size,o,none⟩=((y.alloc (Jr name H U ts rs g K R.length O)).alloc (.cells #[.pointer (some ⟨y.heap.size,0,none⟩)] 126)).cell? ⟨w.heap.size,o,none⟩:=fun o=>by simp only[World.cell?,bM]
  have dc:s≠w.heap.size:=fun e=>by have:=Jd Y.out.set.cells;omega
  refine E.out _ _ ⟨(bz 0).trans D.1,(bz 1).trans D.2.1,(bz 2).trans D.2.2⟩ (fun D=>?_);clear E X bz bM bJ bH;have cb:Z.cell? ⟨s,1,none⟩=some (.slice a Ts.length cap):=by simp[World.cell?,bL]
  have bS:Z.frozen? ⟨s,1,none⟩=false:=by simp[World.frozen?,bL]
  simp only[Act.put,List.getElem_toArray,List.getElem_cons_zero,List.getElem_cons_succ,Oa1,List.set_cons_zero,List.set_cons_succ];refine tkj 20 rfl D ?_;refine tkj 21 rfl D ?_;refine tkn ?_;refine tkr 22 rfl fun X E=>?_;go_simp;have bx:∀ o:Nat,(Z.setCell ⟨s,1,none⟩ (.slice (some ⟨bi,0,none⟩) (Ts.length+1) bh)).cell? ⟨w.heap.size,o,none⟩=Z.cell? ⟨w.heap.size,o,none⟩:=fun o=>Ob5 _ _ _ _ (by intro e;injection e with bN;exact absurd bN (by omega));refine E.out _ _ ⟨(bx 0).trans D.1,(bx 1).trans D.2.1,(bx 2).trans D.2.2⟩ (fun D=>?_);clear E X bx;refine wpAnyH_done (by kernel_rfl) ?_ _;clear D cb bS;have bI:Jdl w s d F G bD Ts (.slice a Ts.length cap) bs name ts rs g T (Z.setCell ⟨s,1,none⟩ (.slice (some ⟨bi,0,none⟩) (Ts.length+1) bh)):=by
   obtain rfl:=cy.out;refine Jgq Y.out bj bf cF cG cI cz.out cK bG (Ob2 z1 ci) cj ch.out (sv':=.slice (some ⟨bi,0,none⟩) (Ts.length+1) bh) ?_ bA (by rcases bT with e|e;exact .inl (by rw[e];rfl);exact .inr (by rw[e];rfl));unfold Jo;rw[Oa8,Oa6,Y.out.set.len];exact bY
  have bR:Hid (Jdl w s d F G bD Ts (.slice a Ts.length cap) bs name ts rs g T (Z.setCell ⟨s,1,none⟩ (.slice (some ⟨bi,0,none⟩) (Ts.length+1) bh))):=bI;clear bI;generalize Z.setCell ⟨s,1,none⟩ (.slice (some ⟨bi,0,none⟩) (Ts.length+1) bh)=cW at *;go_wp2;go_ret
  exact⟨rfl,bR.out⟩
 go_simp;refine(di.out _).mono ?_;rintro e bO ⟨rfl,bn⟩;have cQ:=Ja bn (show bc.drew.cell? _=_ from dz);go_simp;refine E.out _ _ ⟨Ja bn D.1,Ja bn D.2.1,Ja bn D.2.2⟩ (fun D=>?_);clear E X;refine wpAnyH_ready (rs:=[4,10]) (by kernel_rfl) (by simp) (AllReadyH.cons rfl (fun X E=>?_) (AllReadyH.cons rfl (fun X E=>?_) AllReadyH.nil))
 ·go_simp;refine E.out _ _ D (fun D=>?_);clear E X;refine tkr 10 rfl fun X E=>?_;go_simp;refine(cT.out _ ((cU.out.of_block (w':=bO) bn.size fun b o _ hl=>bn.block b hl))).mono ?_;rintro e y ⟨bE,H,U,rfl,ci,cj,bP⟩;have ch:Hid (Kc y (some ⟨H,0,none⟩) ts):=bP;clear bP;have cn:=Ja bE cQ;go_simp;refine E.out _ _ ⟨Ja bE D.1,Ja bE D.2.1,Ja bE D.2.2⟩ (fun D=>?_);clear E X;refine tkj 16 rfl D ?_;refine tkn ?_;refine tkr 17 rfl fun X E=>?_;go_simp;have br:Below y.heap.size y (y.alloc (Jr name H U ts rs g K R.length O)):=(Oa5 _ _).alloc (Oa2 _) _;have bQ:=Ja br cn;refine E.out _ _ ⟨Ja br D.1,Ja br D.2.1,Ja br D.2.2⟩ (fun D=>?_);clear E X;refine tkr 18 rfl fun X E=>?_;go_simp;have ba:Below (y.alloc (Jr name H U ts rs g K R.length O)).heap.size (y.alloc (Jr name H U ts rs g K R.length O)) ((y.alloc (Jr name H U ts rs g K R.length O)).alloc (.cells #[.pointer (some ⟨y.heap.size,0,none⟩)] 126)):=(Oa5 _ _).alloc (Oa2 _) _;have cS:=Ja ba bQ;refine E.out _ _ ⟨Ja ba D.1,Ja ba D.2.1,Ja ba D.2.2⟩ (fun D=>?_);clear E X;refine tkr 19 rfl fun X E=>?_;have z1:bc.heap.size≤bO.heap.size:=bn.size;have bG:Below bc.heap.size bc y:=Jw (Jb bn bE);have bH:∀ k,k<bc.heap.size→((y.alloc (Jr name H U ts rs g K R.length O)).alloc (.cells #[.pointer (some ⟨y.heap.size,0,none⟩)] 126)).heap[k]?=bc.heap[k]?:=fun k bB=>by
   have z2:=bG.size;rw[ba.block k (by simp;omega),br.block k (by omega),bG.block k bB]
  have bJ:Jo ((y.alloc (Jr name H U ts rs g K R.length O)).alloc (.cells #[.pointer (some ⟨y.heap.size,0,none⟩)] 126)) 0 126 (.slice a Ts.length cap) (bs.map Jcp):=Yd Y.out.set.own fun k bB=>by
   have bV:=Qk Y.out.set.own bB;have cf:=bj.size;have cc:=bf.size;rw[bH k (by omega),bf.block k (by omega) (Y.out.gF k bB),bj.block k bV]
  have bZ:((y.alloc (Jr name H U ts rs g K R.length O)).alloc (.cells #[.pointer (some ⟨y.heap.size,0,none⟩)] 126)).ownsRow 0 126 1 (.slice a Ts.length cap) Ts.length (bs.map Jcp):=by
   have:=bJ;unfold Jo at this;rwa [Oa6,Y.out.set.len]at this
  have bK:((y.alloc (Jr name H U ts rs g K R.length O)).alloc (.cells #[.pointer (some ⟨y.heap.size,0,none⟩)] 126)).heap[s]?=some (.cells #[.pointer (some ⟨d,0,none⟩),.slice a Ts.length cap] 113 (0,0)):=by
   have ca:=Jd Y.out.set.cells;have cf:=bj.size;have cc:=bf.size;rw[bH s (by omega),bf.block s (by omega) Y.out.sF,bj.block s ca];exact Y.out.set.cells
  have bU:((y.alloc (Jr name H U ts rs g K R.length O)).alloc (.cells #[.pointer (some ⟨y.heap.size,0,none⟩)] 126)).heap[y.heap.size+1]?=some (.cells #[.pointer (some ⟨y.heap.size,0,none⟩)] 126 (0,0)):=by
   have:=heap_alloc_new (y.alloc (Jr name H U ts rs g K R.length O)) (.cells #[.pointer (some ⟨y.heap.size,0,none⟩)] 126);rwa [Oa7]at this
  refine step_append_lies ((y.alloc (Jr name H U ts rs g K R.length O)).alloc (.cells #[.pointer (some ⟨y.heap.size,0,none⟩)] 126)) rfl (.tmp 73) (.tmp 87) 111 rfl 0 126 cP (.pointer none) 1 8 underlying111 cH cM cN cO rfl (by decide) (.slice a Ts.length cap) Ts.length (bs.map Jcp) rfl bZ ⟨y.heap.size+1,0,none⟩ 1 1 [Jcp y.heap.size] rfl rfl (fun j u bC=>World.news_of_block bU j u (by simpa [Jcp] using bC)) (fun u bC=>by simp at bC;subst bC;rfl) (by decide) (by unfold maxLen;omega) (by omega) (Ob7 _) (y.heap.size+2) (by simp) (fun bi bh Z bY bA bT cZ=>?_);have de:=bA.size;have bW:(Value.slice a Ts.length cap).ownBlock≠some s:=fun e=>(Y.out.set.gF s e).2 rfl;have bX:(Value.slice a Ts.length cap).ownBlock≠some w.heap.size:=fun e=>Oe3 _ (Qk Y.out.set.own e);have bL:Z.heap[s]?=some (.cells #[.pointer (some ⟨d,0,none⟩),.slice a Ts.length cap] 113 (0,0)):=(bA.block s (Jd bK) (Oc5 bW)).trans bK;have bM:Z.heap[w.heap.size]?=((y.alloc (Jr name H U ts rs g K R.length O)).alloc (.cells #[.pointer (some ⟨y.heap.size,0,none⟩)] 126)).heap[w.heap.size]?:=bA.block w.heap.size (Jm D.1) (Oc5 bX);have bz:∀ o:Nat,Z.cell? ⟨w.heap.size,o,none⟩=((y.alloc (Jr name H U ts rs g K R.length O)).alloc (.cells #[.pointer (some ⟨y.heap.size,0,none⟩)] 126)).cell? ⟨w.heap.size,o,none⟩:=fun o=>by simp only[World.cell?,bM]
  have dc:s≠w.heap.size:=fun e=>by have:=Jd Y.out.set.cells;omega
  refine E.out _ _ ⟨(bz 0).trans D.1,(bz 1).trans D.2.1,(bz 2).trans D.2.2⟩ (fun D=>?_);clear E X bz bM bJ bH;have cb:Z.cell? ⟨s,1,none⟩=some (.slice a Ts.length cap):=by simp[World.cell?,bL]
  have bS:Z.frozen? ⟨s,1,none⟩=false:=by simp[World.frozen?,bL]
  simp only[Act.put,List.getElem_toArray,List.getElem_cons_zero,List.getElem_cons_succ,Oa1,List.set_cons_zero,List.set_cons_succ];refine tkj 20 rfl D ?_;refine tkj 21 rfl D ?_;refine tkn ?_;refine tkr 22 rfl fun X E=>?_;go_simp;have bx:∀ o:Nat,(Z.setCell ⟨s,1,none⟩ (.slice (some ⟨bi,0,none⟩) (Ts.length+1) bh)).cell? ⟨w.heap.size,o,none⟩=Z.cell? ⟨w.heap.size,o,none⟩:=fun o=>Ob5 _ _ _ _ (by intro e;injection e with bN;exact absurd bN (by omega));refine E.out _ _ ⟨(bx 0).trans D.1,(bx 1).trans D.2.1,(bx 2).trans D.2.2⟩ (fun D=>?_);clear E X bx;refine wpAnyH_done (by kernel_rfl) ?_ _;clear D cb bS;have bI:Jdl w s d F G bD Ts (.slice a Ts.length cap) bs name ts rs g T (Z.setCell ⟨s,1,none⟩ (.slice (some ⟨bi,0,none⟩) (Ts.length+1) bh)):=by
   obtain rfl:=cy.out;refine Jgq Y.out bj bf cF cG cI cz.out cK bG (Ob2 z1 ci) cj ch.out (sv':=.slice (some ⟨bi,0,none⟩) (Ts.length+1) bh) ?_ bA (by rcases bT with e|e;exact .inl (by rw[e];rfl);exact .inr (by rw[e];rfl));unfold Jo;rw[Oa8,Oa6,Y.out.set.len];exact bY
  have bR:Hid (Jdl w s d F G bD Ts (.slice a Ts.length cap) bs name ts rs g T (Z.setCell ⟨s,1,none⟩ (.slice (some ⟨bi,0,none⟩) (Ts.length+1) bh))):=bI;clear bI;generalize Z.setCell ⟨s,1,none⟩ (.slice (some ⟨bi,0,none⟩) (Ts.length+1) bh)=cW at *;go_wp2;go_ret
  exact⟨rfl,bR.out⟩
 go_simp;refine(cT.out _ ((cU.out.of_block (w':=bO) bn.size fun b o _ hl=>bn.block b hl))).mono ?_;rintro e y ⟨bE,H,U,rfl,ci,cj,bP⟩;have ch:Hid (Kc y (some ⟨H,0,none⟩) ts):=bP;clear bP;have cn:=Ja bE cQ;go_simp;refine E.out _ _ ⟨Ja bE D.1,Ja bE D.2.1,Ja bE D.2.2⟩ (fun D=>?_);clear E X;refine tkj 16 rfl D ?_;refine tkn ?_;refine wpAnyH_ready (rs:=[4,17]) (by kernel_rfl) (by simp) (AllReadyH.cons rfl (fun X E=>?_) (AllReadyH.cons rfl (fun X E=>?_) AllReadyH.nil))
 ·go_simp;refine E.out _ _ D (fun D=>?_);clear E X;refine tkr 17 rfl fun X E=>?_;go_simp;have br:Below y.heap.size y (y.alloc (Jr name H U ts rs g K R.length O)):=(Oa5 _ _).alloc (Oa2 _) _;have bQ:=Ja br cn;refine E.out _ _ ⟨Ja br D.1,Ja br D.2.1,Ja br D.2.2⟩ (fun D=>?_);clear E X;refine tkr 18 rfl fun X E=>?_;go_simp;have ba:Below (y.alloc (Jr name H U ts rs g K R.length O)).heap.size (y.alloc (Jr name H U ts rs g K R.length O)) ((y.alloc (Jr name H U ts rs g K R.length O)).alloc (.cells #[.pointer (some ⟨y.heap.size,0,none⟩)] 126)):=(Oa5 _ _).alloc (Oa2 _) _;have cS:=Ja ba bQ;refine E.out _ _ ⟨Ja ba D.1,Ja ba D.2.1,Ja ba D.2.2⟩ (fun D=>?_);clear E X;refine tkr 19 rfl fun X E=>?_;have z1:bc.heap.size≤bO.heap.size:=bn.size;have bG:Below bc.heap.size bc y:=Jw (Jb bn bE);have bH:∀ k,k<bc.heap.size→((y.alloc (Jr name H U ts rs g K R.length O)).alloc (.cells #[.pointer (some ⟨y.heap.size,0,none⟩)] 126)).heap[k]?=bc.heap[k]?:=fun k bB=>by
   have z2:=bG.size;rw[ba.block k (by simp;omega),br.block k (by omega),bG.block k bB]
  have bJ:Jo ((y.alloc (Jr name H U ts rs g K R.length O)).alloc (.cells #[.pointer (some ⟨y.heap.size,0,none⟩)] 126)) 0 126 (.slice a Ts.length cap) (bs.map Jcp):=Yd Y.out.set.own fun k bB=>by
   have bV:=Qk Y.out.set.own bB;have cf:=bj.size;have cc:=bf.size;rw[bH k (by omega),bf.block k (by omega) (Y.out.gF k bB),bj.block k bV]
  have bZ:((y.alloc (Jr name H U ts rs g K R.length O)).alloc (.cells #[.pointer (some ⟨y.heap.size,0,none⟩)] 126)).ownsRow 0 126 1 (.slice a Ts.length cap) Ts.length (bs.map Jcp):=by
   have:=bJ;unfold Jo at this;rwa [Oa6,Y.out.set.len]at this
  have bK:((y.alloc (Jr name H U ts rs g K R.length O)).alloc (.cells #[.pointer (some ⟨y.heap.size,0,none⟩)] 126)).heap[s]?=some (.cells #[.pointer (some ⟨d,0,none⟩),.slice a Ts.length cap] 113 (0,0)):=by
   have ca:=Jd Y.out.set.cells;have cf:=bj.size;have cc:=bf.size;rw[bH s (by omega),bf.block s (by omega) Y.out.sF,bj.block s ca];exact Y.out.set.cells
  have bU:((y.alloc (Jr name H U ts rs g K R.length O)).alloc (.cells #[.pointer (some ⟨y.heap.size,0,none⟩)] 126)).heap[y.heap.size+1]?=some (.cells #[.pointer (some ⟨y.heap.size,0,none⟩)] 126 (0,0)):=by
   have:=heap_alloc_new (y.alloc (Jr name H U ts rs g K R.length O)) (.cells #[.pointer (some ⟨y.heap.size,0,none⟩)] 126);rwa [Oa7]at this
  refine step_append_lies ((y.alloc (Jr name H U ts rs g K R.length O)).alloc (.cells #[.pointer (some ⟨y.heap.size,0,none⟩)] 126)) rfl (.tmp 73) (.tmp 87) 111 rfl 0 126 cP (.pointer none) 1 8 underlying111 cH cM cN cO rfl (by decide) (.slice a Ts.length cap) Ts.length (bs.map Jcp) rfl bZ ⟨y.heap.size+1,0,none⟩ 1 1 [Jcp y.heap.size] rfl rfl (fun j u bC=>World.news_of_block bU j u (by simpa [Jcp] using bC)) (fun u bC=>by simp at bC;subst bC;rfl) (by decide) (by unfold maxLen;omega) (by omega) (Ob7 _) (y.heap.size+2) (by simp) (fun bi bh Z bY bA bT cZ=>?_);have de:=bA.size;have bW:(Value.slice a Ts.length cap).ownBlock≠some s:=fun e=>(Y.out.set.gF s e).2 rfl;have bX:(Value.slice a Ts.length cap).ownBlock≠some w.heap.size:=fun e=>Oe3 _ (Qk Y.out.set.own e);have bL:Z.heap[s]?=some (.cells #[.pointer (some ⟨d,0,none⟩),.slice a Ts.length cap] 113 (0,0)):=(bA.block s (Jd bK) (Oc5 bW)).trans bK;have bM:Z.heap[w.heap.size]?=((y.alloc (Jr name H U ts rs g K R.length O)).alloc (.cells #[.pointer (some ⟨y.heap.size,0,none⟩)] 126)).heap[w.heap.size]?:=bA.block w.heap.size (Jm D.1) (Oc5 bX);have bz:∀ o:Nat,Z.cell? ⟨w.heap.size,o,none⟩=((y.alloc (Jr name H U ts rs g K R.length O)).alloc (.cells #[.pointer (some ⟨y.heap.size,0,none⟩)] 126)).cell? ⟨w.heap.size,o,none⟩:=fun o=>by simp only[World.cell?,bM]
  have dc:s≠w.heap.size:=fun e=>by have:=Jd Y.out.set.cells;omega
  refine E.out _ _ ⟨(bz 0).trans D.1,(bz 1).trans D.2.1,(bz 2).trans D.2.2⟩ (fun D=>?_);clear E X bz bM bJ bH;have cb:Z.cell? ⟨s,1,none⟩=some (.slice a Ts.length cap):=by simp[World.cell?,bL]
  have bS:Z.frozen? ⟨s,1,none⟩=false:=by simp[World.frozen?,bL]
  simp only[Act.put,List.getElem_toArray,List.getElem_cons_zero,List.getElem_cons_succ,Oa1,List.set_cons_zero,List.set_cons_succ];refine tkj 20 rfl D ?_;refine tkj 21 rfl D ?_;refine tkn ?_;refine tkr 22 rfl fun X E=>?_;go_simp;have bx:∀ o:Nat,(Z.setCell ⟨s,1,none⟩ (.slice (some ⟨bi,0,none⟩) (Ts.length+1) bh)).cell? ⟨w.heap.size,o,none⟩=Z.cell? ⟨w.heap.size,o,none⟩:=fun o=>Ob5 _ _ _ _ (by intro e;injection e with bN;exact absurd bN (by omega));refine E.out _ _ ⟨(bx 0).trans D.1,(bx 1).trans D.2.1,(bx 2).trans D.2.2⟩ (fun D=>?_);clear E X bx;refine wpAnyH_done (by kernel_rfl) ?_ _;clear D cb bS;have bI:Jdl w s d F G bD Ts (.slice a Ts.length cap) bs name ts rs g T (Z.setCell ⟨s,1,none⟩ (.slice (some ⟨bi,0,none⟩) (Ts.length+1) bh)):=by
   obtain rfl:=cy.out;refine Jgq Y.out bj bf cF cG cI cz.out cK bG (Ob2 z1 ci) cj ch.out (sv':=.slice (some ⟨bi,0,none⟩) (Ts.length+1) bh) ?_ bA (by rcases bT with e|e;exact .inl (by rw[e];rfl);exact .inr (by rw[e];rfl));unfold Jo;rw[Oa8,Oa6,Y.out.set.len];exact bY
  have bR:Hid (Jdl w s d F G bD Ts (.slice a Ts.length cap) bs name ts rs g T (Z.setCell ⟨s,1,none⟩ (.slice (some ⟨bi,0,none⟩) (Ts.length+1) bh))):=bI;clear bI;generalize Z.setCell ⟨s,1,none⟩ (.slice (some ⟨bi,0,none⟩) (Ts.length+1) bh)=cW at *;go_wp2;go_ret
  exact⟨rfl,bR.out⟩
 go_simp;have br:Below y.heap.size y (y.alloc (Jr name H U ts rs g K R.length O)):=(Oa5 _ _).alloc (Oa2 _) _;have bQ:=Ja br cn;refine E.out _ _ ⟨Ja br D.1,Ja br D.2.1,Ja br D.2.2⟩ (fun D=>?_);clear E X;refine wpAnyH_ready (rs:=[4,18]) (by kernel_rfl) (by simp) (AllReadyH.cons rfl (fun X E=>?_) (AllReadyH.cons rfl (fun X E=>?_) AllReadyH.nil));focus
  go_simp;refine E.out _ _ D (fun D=>?_);clear E X;refine tkr 18 rfl fun X E=>?_;go_simp;have ba:Below (y.alloc (Jr name H U ts rs g K R.length O)).heap.size (y.alloc (Jr name H U ts rs g K R.length O)) ((y.alloc (Jr name H U ts rs g K R.length O)).alloc (.cells #[.pointer (some ⟨y.heap.size,0,none⟩)] 126)):=(Oa5 _ _).alloc (Oa2 _) _;have cS:=Ja ba bQ;refine E.out _ _ ⟨Ja ba D.1,Ja ba D.2.1,Ja ba D.2.2⟩ (fun D=>?_)
 rotate_left 1;focus
  go_simp;have ba:Below (y.alloc (Jr name H U ts rs g K R.length O)).heap.size (y.alloc (Jr name H U ts rs g K R.length O)) ((y.alloc (Jr name H U ts rs g K R.length O)).alloc (.cells #[.pointer (some ⟨y.heap.size,0,none⟩)] 126)):=(Oa5 _ _).alloc (Oa2 _) _;have cS:=Ja ba bQ;refine E.out _ _ ⟨Ja ba D.1,Ja ba D.2.1,Ja ba D.2.2⟩ (fun D=>?_);clear E X;refine tkr 4 rfl fun X E=>?_;go_simp;refine E.out _ _ D (fun D=>?_)
 all_goals
  clear E X;refine tkr 19 rfl fun X E=>?_;have z1:bc.heap.size≤bO.heap.size:=bn.size;have bG:Below bc.heap.size bc y:=Jw (Jb bn bE);have bH:∀ k,k<bc.heap.size→((y.alloc (Jr name H U ts rs g K R.length O)).alloc (.cells #[.pointer (some ⟨y.heap.size,0,none⟩)] 126)).heap[k]?=bc.heap[k]?:=fun k bB=>by
   have z2:=bG.size;rw[ba.block k (by simp;omega),br.block k (by omega),bG.block k bB]
  have bJ:Jo ((y.alloc (Jr name H U ts rs g K R.length O)).alloc (.cells #[.pointer (some ⟨y.heap.size,0,none⟩)] 126)) 0 126 (.slice a Ts.length cap) (bs.map Jcp):=Yd Y.out.set.own fun k bB=>by
   have bV:=Qk Y.out.set.own bB;have cf:=bj.size;have cc:=bf.size;rw[bH k (by omega),bf.block k (by omega) (Y.out.gF k bB),bj.block k bV]
  have bZ:((y.alloc (Jr name H U ts rs g K R.length O)).alloc (.cells #[.pointer (some ⟨y.heap.size,0,none⟩)] 126)).ownsRow 0 126 1 (.slice a Ts.length cap) Ts.length (bs.map Jcp):=by
   have:=bJ;unfold Jo at this;rwa [Oa6,Y.out.set.len]at this
  have bK:((y.alloc (Jr name H U ts rs g K R.length O)).alloc (.cells #[.pointer (some ⟨y.heap.size,0,none⟩)] 126)).heap[s]?=some (.cells #[.pointer (some ⟨d,0,none⟩),.slice a Ts.length cap] 113 (0,0)):=by
   have ca:=Jd Y.out.set.cells;have cf:=bj.size;have cc:=bf.size;rw[bH s (by omega),bf.block s (by omega) Y.out.sF,bj.block s ca];exact Y.out.set.cells
  have bU:((y.alloc (Jr name H U ts rs g K R.length O)).alloc (.cells #[.pointer (some ⟨y.heap.size,0,none⟩)] 126)).heap[y.heap.size+1]?=some (.cells #[.pointer (some ⟨y.heap.size,0,none⟩)] 126 (0,0)):=by
   have:=heap_alloc_new (y.alloc (Jr name H U ts rs g K R.length O)) (.cells #[.pointer (some ⟨y.heap.size,0,none⟩)] 126);rwa [Oa7]at this
  refine step_append_lies ((y.alloc (Jr name H U ts rs g K R.length O)).alloc (.cells #[.pointer (some ⟨y.heap.size,0,none⟩)] 126)) rfl (.tmp 73) (.tmp 87) 111 rfl 0 126 cP (.pointer none) 1 8 underlying111 cH cM cN cO rfl (by decide) (.slice a Ts.length cap) Ts.length (bs.map Jcp) rfl bZ ⟨y.heap.size+1,0,none⟩ 1 1 [Jcp y.heap.size] rfl rfl (fun j u bC=>World.news_of_block bU j u (by simpa [Jcp] using bC)) (fun u bC=>by simp at bC;subst bC;rfl) (by decide) (by unfold maxLen;omega) (by omega) (Ob7 _) (y.heap.size+2) (by simp) (fun bi bh Z bY bA bT cZ=>?_);have de:=bA.size;have bW:(Value.slice a Ts.length cap).ownBlock≠some s:=fun e=>(Y.out.set.gF s e).2 rfl;have bX:(Value.slice a Ts.length cap).ownBlock≠some w.heap.size:=fun e=>Oe3 _ (Qk Y.out.set.own e);have bL:Z.heap[s]?=some (.cells #[.pointer (some ⟨d,0,none⟩),.slice a Ts.length cap] 113 (0,0)):=(bA.block s (Jd bK) (Oc5 bW)).trans bK;have bM:Z.heap[w.heap.size]?=((y.alloc (Jr name H U ts rs g K R.length O)).alloc (.cells #[.pointer (some ⟨y.heap.size,0,none⟩)] 126)).heap[w.heap.size]?:=bA.block w.heap.size (Jm D.1) (Oc5 bX);have bz:∀ o:Nat,Z.cell? ⟨w.heap.size,o,none⟩=((y.alloc (Jr name H U ts rs g K R.length O)).alloc (.cells #[.pointer (some ⟨y.heap.size,0,none⟩)] 126)).cell? ⟨w.heap.size,o,none⟩:=fun o=>by simp only[World.cell?,bM]
  have dc:s≠w.heap.size:=fun e=>by have:=Jd Y.out.set.cells;omega
  refine E.out _ _ ⟨(bz 0).trans D.1,(bz 1).trans D.2.1,(bz 2).trans D.2.2⟩ (fun D=>?_);clear E X bz bM bJ bH;have cb:Z.cell? ⟨s,1,none⟩=some (.slice a Ts.length cap):=by simp[World.cell?,bL]
  have bS:Z.frozen? ⟨s,1,none⟩=false:=by simp[World.frozen?,bL]
  simp only[Act.put,List.getElem_toArray,List.getElem_cons_zero,List.getElem_cons_succ,Oa1,List.set_cons_zero,List.set_cons_succ];refine tkj 20 rfl D ?_;refine tkj 21 rfl D ?_;refine tkn ?_;refine tkr 22 rfl fun X E=>?_;go_simp;have bx:∀ o:Nat,(Z.setCell ⟨s,1,none⟩ (.slice (some ⟨bi,0,none⟩) (Ts.length+1) bh)).cell? ⟨w.heap.size,o,none⟩=Z.cell? ⟨w.heap.size,o,none⟩:=fun o=>Ob5 _ _ _ _ (by intro e;injection e with bN;exact absurd bN (by omega));refine E.out _ _ ⟨(bx 0).trans D.1,(bx 1).trans D.2.1,(bx 2).trans D.2.2⟩ (fun D=>?_);clear E X bx;refine wpAnyH_done (by kernel_rfl) ?_ _;clear D cb bS;have bI:Jdl w s d F G bD Ts (.slice a Ts.length cap) bs name ts rs g T (Z.setCell ⟨s,1,none⟩ (.slice (some ⟨bi,0,none⟩) (Ts.length+1) bh)):=by
   obtain rfl:=cy.out;refine Jgq Y.out bj bf cF cG cI cz.out cK bG (Ob2 z1 ci) cj ch.out (sv':=.slice (some ⟨bi,0,none⟩) (Ts.length+1) bh) ?_ bA (by rcases bT with e|e;exact .inl (by rw[e];rfl);exact .inr (by rw[e];rfl));unfold Jo;rw[Oa8,Oa6,Y.out.set.len];exact bY
  have bR:Hid (Jdl w s d F G bD Ts (.slice a Ts.length cap) bs name ts rs g T (Z.setCell ⟨s,1,none⟩ (.slice (some ⟨bi,0,none⟩) (Ts.length+1) bh))):=bI;clear bI;generalize Z.setCell ⟨s,1,none⟩ (.slice (some ⟨bi,0,none⟩) (Ts.length+1) bh)=cW at *;go_wp2;go_ret
  exact⟨rfl,bR.out⟩
def Jdu (w:World)(st d s:Nat):Prop:=w.heap[st]?=some (.cells #[.pointer (some ⟨d,0,none⟩),.pointer (some ⟨s,0,none⟩)] 80 (0,0))
theorem Jdu.field {w:World}{st d s:Nat}(h:Jdu w st d s):w.cell? ⟨st,0,none⟩=some (.pointer (some ⟨d,0,none⟩))∧w.cell? ⟨st,1,none⟩=some (.pointer (some ⟨s,0,none⟩)):=by
 unfold Jdu at h;simp[World.cell?,h]
def Jr7 (w:World)(r:Option (List (List V)⊕Nat))(e:Ending)(w':World):Prop:=
 Below w.heap.size w w'∧match r with
  |none=>e=.returned (.tuple #[.slice none 0 0,Jbz 4 (-1) (-1)])
  |some (.inl rs)=>∃ g bs,e=.returned (.tuple #[.slice (some ⟨g,0,none⟩) rs.length rs.length,Jb6 0])∧Jcu w' w.heap.size g bs rs
  |some (.inr j)=>e=.returned (.tuple #[.slice none 0 0,Jbz 7 (-1) (j:Int)])
theorem Jz3 (g:Nat)(bc:List Value)(cs:List (List V))(n:Nat)(B:Nat)(w:World)(X:Jar w B g bc cs)(bn:∀ i,i<cs.length→(cs.getD i []).length=n)(bf:1≤cs.length)(bh:cs.length≤1000)(hn:n≤10000) :
  Calls prog 23 #[.slice (some ⟨g,0,none⟩) cs.length cs.length,.nilIface] w fun e w'=>Below w.heap.size w w'∧∃ U bs,e=.returned (.tuple #[.slice (some ⟨U,0,none⟩) n n,Jb6 0])∧Jcu w' w.heap.size U bs (Qf n cs):=by
 have Y:Below w.heap.size w (w.alloc (.cells #[.int .i64 0,.int .i64 0,.int .i64 0,.int .i64 0,.int .i64 0] 45)):=(Oa5 _ _).alloc (Oa2 _) _;have bB:=run_neq_nil_nil (P:=prog);have D:=X.below Y;have ba:=Jo4 g cs.length bc cs n _ (Kt4 D.row) D.len (fun i hi=>(D.own i hi).vals) bn bf bh hn;clear X D;go_enter func23,ntmps23
 go_wp2_with fail
 refine ba.mono ?_;rintro e w1 ⟨rfl,⟨K,bx⟩,Z⟩;clear ba;go_wp2_with fail
 refine(Jjq w1).mono ?_;rintro e bD ⟨rfl,O⟩;have bi:=Jb Y Z;obtain⟨bz,bC⟩:=Kx (Jb Z O);have bj:=Jb bi O;have R:=bx.below O;rw[Oa7]at R;have br:=R.from_;have low:∀ H:World,Jcu H (w.heap.size+1) (w.heap.size+1) K (Qf n cs)→Jcu H w.heap.size (w.heap.size+1) K (Qf n cs):=fun H y=>⟨y.len,y.outer,y.rows,⟨by have:=y.from_.1;omega,fun b E=>⟨by have:=(y.from_.2 b E).1;omega,(y.from_.2 b E).2⟩⟩,y.nodup⟩;go_wp2;refine bodyPost_ret (v:=.tuple #[.slice (some ⟨w.heap.size+1,0,none⟩) n n,Jb6 0]) (by simp[results,results23,go_sem,bz]) rfl ⟨Um bj (Oa2 _) _ _ _ _ _,?_⟩;refine⟨w.heap.size+1,K,rfl,?_⟩;refine low _ (R.of_blocks ?_ (fun b E=>?_))
 ·rw[Oa4 _ _ _ _ (by show w.heap.size+1≠w.heap.size;omega),Oa4 _ _ _ _ (by show w.heap.size+1≠w.heap.size;omega),Oa4 _ _ _ _ (by show w.heap.size+1≠w.heap.size;omega),Oa4 _ _ _ _ (by show w.heap.size+1≠w.heap.size;omega),Oa4 _ _ _ _ (by show w.heap.size+1≠w.heap.size;omega)]
 have bA:=(br.2 b E).1;rw[Oa4 _ _ _ _ (by show b≠w.heap.size;omega),Oa4 _ _ _ _ (by show b≠w.heap.size;omega),Oa4 _ _ _ _ (by show b≠w.heap.size;omega),Oa4 _ _ _ _ (by show b≠w.heap.size;omega),Oa4 _ _ _ _ (by show b≠w.heap.size;omega)]
theorem Kws (st:Nat)(n:ByteArray)(w:World)(F G:Nat→Prop)(s d:Nat)(D:DS)(Ts:List TS)(sv:Value)(bs:List Nat)(bA:Jdu w st d s)(h:Jfl w G s d Ts sv bs)(bj:Zb w F d D)(bf:∀ T∈Ts,Jid D T)(X Y Z et q wr pg:Addr)(bG:Jf0 w X Y Z)(bz:Jkn w X Y Z et q wr pg){x:List (List V)}(O:Jf8 D Ts n=some (.inl x)) :
  Calls prog 25 #[.pointer (some ⟨st,0,none⟩),.string n] w fun e w'=>Jr7 w (Jf8 D Ts n) e w':=by
 have H:Below w.heap.size w (w.alloc (.cells #[.int .i64 0,.int .i64 0,.int .i64 0,.int .i64 0,.int .i64 0] 45)):=(Oa5 _ _).alloc (Oa2 _) _;have c1:=Ja H bA.field.2;have hn:=Jou n _ F G s d D Ts sv bs (h.below H) (bj.below H) bf X Y Z (bG.below H) et pg (bz.below H).cp (bz.below H).ct;have bH:=Keq D Ts n bf;clear h bj bf bA;go_enter func25,ntmps25
 go_wp2_with fail
 refine hn.mono ?_;clear hn;rintro e w1 ⟨bc,hp⟩;have bC:=Jb H bc;rcases bH with⟨hr,K⟩|⟨j,hr,K⟩|⟨cs,m,hr,K,bP,bE,bN,bi⟩
 ·rw[K]at O;cases O
 ·rw[K]at O;cases O
 rw[hr]at hp;obtain⟨g,bL,rfl,br⟩:=hp;have bB:Hid (Jf8 D Ts n=some (.inl (Qf m cs))):=K;have bI:=Jz3 g bL cs m _ w1 br bi bE (by omega) (by omega);clear hr K O bi br;go_wp2_with fail
 refine bI.mono ?_;rintro e bR ⟨bh,y,ba,rfl,bx⟩;obtain⟨bK,bQ⟩:=Kx (Jb bc bh);have bD:=Jb bC bh;have bn:=bx.from_;have bJ:=bc.size;rw[Oa7]at bJ;have low:∀ U:World,Jcu U w1.heap.size y ba (Qf m cs)→Jcu U w.heap.size y ba (Qf m cs):=fun U E=>⟨E.len,E.outer,E.rows,⟨by have:=E.from_.1;omega,fun b R=>⟨by have:=(E.from_.2 b R).1;omega,(E.from_.2 b R).2⟩⟩,E.nodup⟩;go_wp2;refine bodyPost_ret (v:=.tuple #[.slice (some ⟨y,0,none⟩) m m,Jb6 0]) (by simp[results,results25,go_sem,bK]) rfl ⟨Um bD (Oa2 _) _ _ _ _ _,?_⟩;rw[bB.out];refine⟨y,ba,by rw[Uu],?_⟩;refine low _ (bx.of_blocks ?_ (fun b R=>?_))
 ·have bO:=bn.1;rw[Oa4 _ _ _ _ (by show y≠w.heap.size;omega),Oa4 _ _ _ _ (by show y≠w.heap.size;omega),Oa4 _ _ _ _ (by show y≠w.heap.size;omega),Oa4 _ _ _ _ (by show y≠w.heap.size;omega),Oa4 _ _ _ _ (by show y≠w.heap.size;omega)]
 have bM:=(bn.2 b R).1;rw[Oa4 _ _ _ _ (by show b≠w.heap.size;omega),Oa4 _ _ _ _ (by show b≠w.heap.size;omega),Oa4 _ _ _ _ (by show b≠w.heap.size;omega),Oa4 _ _ _ _ (by show b≠w.heap.size;omega),Oa4 _ _ _ _ (by show b≠w.heap.size;omega)]
end
section
open Go.RowKit Go.Shelf Tryz
theorem Zh (W:World)(B:Nat)(D E H K O:Value)(k:Nat)(y:k≠B):(((((W.setCell ⟨B,0,none⟩ D).setCell ⟨B,1,none⟩ E).setCell ⟨B,2,none⟩ H).setCell ⟨B,3,none⟩ K).setCell ⟨B,4,none⟩ O).heap[k]?=W.heap[k]?:=by
 rw[Oa4 _ _ _ _ y,Oa4 _ _ _ _ y,Oa4 _ _ _ _ y,Oa4 _ _ _ _ y,Oa4 _ _ _ _ y]
theorem Jg2 (W:World)(B:Nat)(y D E H K:Value):(((((W.setCell ⟨B,0,none⟩ y).setCell ⟨B,1,none⟩ D).setCell ⟨B,2,none⟩ E).setCell ⟨B,3,none⟩ H).setCell ⟨B,4,none⟩ K).heap.size=W.heap.size:=by simp[World.setCell]
end
section
open Go.RowKit Tryz
theorem Jqj (a R:Option Addr)(cap Y:Nat)(xs y:List V)(w:World)(hn:xs.length≤maxLen)(bh:Jv w a xs)(bi:Jv w R y)(b:Bool)(X:b=true↔xs=y) :
  Calls prog 24 #[.slice a xs.length cap,.slice R y.length Y] w fun e w'=>e=.returned (.bool b)∧Below w.heap.size w w':=by
 unfold maxLen at hn;have H:Hid (b=true↔xs=y):=X;clear X;by_cases hl:xs.length=y.length
 ·have O:Hid (xs.length=y.length):=hl;have Z:((xs.length:Int) != (y.length:Int))=false:=by simp[hl]
  clear hl;go_enter func24,ntmps24
  go_wp2;go_loopw [5] (fun i wr=>∃ k:Nat,k≤xs.length∧i=.int .i64 k∧(∃ m,wr=w.drewN m)∧Hid (∀ j (D:j<xs.length),j<k→xs[j]=y[j]'(O.out▸D))) (fun i _=>xs.length-(intOf i).toNat)
  case atStart=>exact⟨0,Ob7 _,rfl,⟨0,rfl⟩,fun j _ D=>absurd D (Oe0 _)⟩
  case round=>
   obtain⟨k,bn,rfl,⟨m,rfl⟩,U⟩:=hrel;by_cases ba:k<xs.length
   ·have bc:k<y.length:=by have:=O.out;omega
    obtain⟨b1,br,rfl,_,bz,bA,bB⟩:=bh.at ba;obtain⟨b2,bx,rfl,_,bC,bD,bE⟩:=bi.at bc;by_cases E:xs[k]=y[k]
    ·have bf:=Jql _ _ E;have K:Hid (xs[k]=y[k]):=E;clear E;go_wp2;go_quiet (fail)
     go_wp2;go_roundw
     case rel=>
      refine⟨k+1,by omega,by go_num,⟨_,rfl⟩,fun j D bj=>?_⟩;by_cases e:j=k
      ·subst e;exact K.out
      exact U.out j D (by omega)
     case measure=>simp[intOf];omega
    have bf:=Jqe _ _ E;have K:Hid (¬ xs[k]=y[k]):=E;clear E;go_wp2;go_quiet (fail)
    go_wp2;go_ret
    refine⟨Qr ?_,Jp (Jp (Oa5 _ _) _) _⟩;cases b
    ·rfl
    exact absurd (by rw[List.getElem_of_eq (H.out.1 rfl)]) K.out
   go_wp2;go_ret
   exact⟨Qr (H.out.2 (Ka6 xs y O.out fun j D=>U.out j D (by omega))).symm,Jp (Oa5 _ _) _⟩
 have Z:((xs.length:Int) != (y.length:Int))=true:=by simp;omega
 go_enter func24,ntmps24
 go_wp2;go_ret
 refine⟨Qr ?_,Oa5 _ _⟩;cases b
 ·rfl
 exact absurd (congrArg List.length (H.out.1 rfl)) hl
theorem Kc2 (rs y:List (List V))(hl:rs.length=y.length)(h:∀ j (E:j<rs.length),rs[j]=y[j]'(hl▸E)):rs=y:=Oh4 hl fun i D _=>h i D
theorem Jn2 (a X:Option Addr)(cap bh:Nat)(hs bn:List (Option Addr×Nat))(rs y:List (List V))(w:World)(hn:rs.length≤maxLen)(ba:∀ r∈rs,r.length≤maxLen)(br:Zd w a hs rs)(bx:Zd w X bn y)(b:Bool)(E:b=true↔rs=y) :
  Calls prog 13 #[.slice a rs.length cap,.slice X y.length bh] w fun e w'=>e=.returned (.bool b)∧Below w.heap.size w w':=by
 unfold maxLen at hn;have K:Hid (b=true↔rs=y):=E;have bf:Hid (∀ r∈rs,r.length≤maxLen):=ba;clear E ba;by_cases hl:rs.length=y.length
 ·have O:Hid (rs.length=y.length):=hl;have bi:((rs.length:Int) != (y.length:Int))=false:=by simp[hl]
  clear hl;go_enter func13,ntmps13
  go_wp2;go_loopw [5] (fun i wr=>∃ k:Nat,k≤rs.length∧i=.int .i64 k∧Below w.heap.size w wr∧Hid (∀ j (D:j<rs.length),j<k→rs[j]=y[j]'(O.out▸D))) (fun i _=>rs.length-(intOf i).toNat)
  case atStart=>exact⟨0,Ob7 _,rfl,Oa5 _ _,fun j _ D=>absurd D (Oe0 _)⟩
  case round=>
   obtain⟨k,bJ,rfl,H,Y⟩:=hrel;by_cases Z:k<rs.length
   ·have bj:k<y.length:=by have:=O.out;omega
    obtain⟨b1,bK,bz,bB,rfl,bG,bM,bD⟩:=(br.below H).at Z;obtain⟨b2,bL,bA,bC,rfl,bH,bN,bE⟩:=(bx.below H).at bj;obtain⟨bb,R⟩:∃ bb:Bool,bb=true↔rs[k]=y[k]:=⟨(open Classical in decide (rs[k]=y[k])),by open Classical in exact decide_eq_true_iff⟩;have bc:=Jqj bz bA bB bC rs[k] y[k] wr.drew (bf.out _ (Ob3 Z)) (bD.of_block (Oa2 _) fun _ _ _ _=>rfl) (bE.of_block (Oa2 _) fun _ _ _ _=>rfl) bb R;have U:Hid (bb=true↔rs[k]=y[k]):=R;clear R;cases bb with
    |true=>
     go_wp2_with fail
     go_region_with (first|(go_at_call 24;refine bc.mono ?_;rintro e w' ⟨rfl,E⟩))
     all_goals
      go_wp2;go_roundw
      case rel=>
       refine⟨k+1,by omega,by go_num,Jb H (Jw E),fun j D bI=>?_⟩;by_cases e:j=k
       ·subst e;exact U.out.1 (by simp)
       exact Y.out j D (by omega)
      case measure=>simp[intOf];omega
    |false=>
     go_wp2_with fail
     go_region_with (first|(go_at_call 24;refine bc.mono ?_;rintro e w' ⟨rfl,E⟩))
     all_goals
      go_wp2;go_ret
      refine⟨Qr ?_,Jb H (Jw E)⟩;cases b
      ·rfl
      exact absurd (U.out.2 (by rw[List.getElem_of_eq (K.out.1 rfl)])) (by simp)
   go_wp2;go_ret
   exact⟨Qr (K.out.2 (Kc2 rs y O.out fun j D=>Y.out j D (by omega))).symm,H⟩
 have bi:((rs.length:Int) != (y.length:Int))=true:=by simp;omega
 go_enter func13,ntmps13
 go_wp2;go_ret
 refine⟨Qr ?_,Oa5 _ _⟩;cases b
 ·rfl
 exact absurd (congrArg List.length (K.out.1 rfl)) hl
theorem Jpb (n:Int):Jg (wrap64 n):=by
 unfold Jg wrap64;omega
def tOk (t:Int):Prop:=t=1∨t=2∨t=3
theorem Jvl (a:Option Addr)(cap:Nat)(ns:List Int)(w:World)(hn:ns.length≤maxLen)(bE:Kc w a ns) :
  Calls prog 17 #[.slice a ns.length cap,.int .i64 6] w fun e w'=>∃ (ts:List Int) (sv:Value),e=.returned sv∧Jo w' w.heap.size 3 sv (ts.map iv)∧(1≤ts.length∧ts.length≤6)∧(∀ t∈ts,tOk t)∧Below w.heap.size w w':=by
 unfold maxLen at hn;go_enter func17,ntmps17
 go_wp2;go_loopw [5,6] (fun sv i wr=>∃ (k:Nat) (ts:List Int),k≤ns.length∧k≤6∧i=.int .i64 k∧Hid (ts.length=k)∧Hid (∀ t∈ts,tOk t)∧Jo wr w.heap.size 3 sv (ts.map iv)∧Below w.heap.size w wr) (fun _ i _=>6-(intOf i).toNat)
 case atStart=>exact⟨0,[],Ob7 _,Ob7 _,rfl,rfl,by intro t E;simp at E,Jo.nil _ _ _,Oa5 _ _⟩
 case round=>
  rename_i sv i
  obtain⟨k,ts,bL,bM,rfl,U,R,y,D⟩:=hrel;obtain⟨bH,c1,K,_⟩:=y.cells;rw[Oa6]at K;have bK:=D.size;have bO:ts.length≤6:=by have:=U.out;omega
  by_cases Z:k<ns.length∧k<6
  ·obtain⟨bc,bI⟩:=Z;obtain⟨b1,bQ,rfl,bJ,bR⟩:=Kc.at (bE.below D) bc;have bi:=fun W=>Jfw (wrap64 (ns[k]-1)) 3 W (Jpb _) (by decide) (by decide);have bj:Hid (∀ W,Calls prog 8 #[.int .i64 (wrap64 (ns[k]-1)),.int .i64 ((3:Nat):Int)] W fun e w'=>(∃ r:Nat,e=.returned (.int .i64 r)∧r<3)∧w'=W):=bi;clear bi;subst K;go_wp2_with (first|(go_at_call 8;go_must (refine(bj.out _).mono ?_);rintro e w1 ⟨⟨r,rfl,hr⟩,bP⟩;subst w1)|(at_builtin;go_must (refine Ks (by rfl) _ _ 22 3 _ 8 Zw (by rfl) (by decide) (by kernel_rfl) (by rfl) w.heap.size _ _ (by rfl) (Jo.alloc y _) ⟨wr.heap.size,0,none⟩ 1 [iv (1+(r:Int))] (by rfl) (by exact Ua wr _ _) (by intro u O;simp at O;subst O;rfl) (by simp only[List.length_cons,List.length_nil,Oa6];omega) (by simp;omega) ?_);intro sv' bG H X bx;obtain⟨bn,br,ba,_⟩:=H.cells;subst ba))
   go_roundw
   case rel=>
    refine⟨k+1,ts++[1+(r:Int)],by omega,by omega,by go_num,by show _=_;rw[Oa8,U.out];rfl,?_,by simpa using H,Jy (Jc D _) X (fun g Y=>(Je y Y).1)⟩;intro t E;rcases Od2.1 E with h|h
    ·exact R.out t h
    simp at h;subst h;unfold tOk;omega
   case measure=>simp[intOf];omega
  by_cases h0:ts.length=0
  ·have bD:ts=[]:=Od3.1 h0;subst bD;have bC:=K;subst bC;have bA:k=0:=by have:=U.out;simp at this;omega
   subst bA;by_cases bf:0<ns.length
   ·exact absurd ⟨bf,by omega⟩ Z
   have bh:ns.length=0:=(by omega);have bB:=Od3.1 bh;subst bB;clear Z bf bh h0;simp at y;go_wp2_with (first|(at_builtin;go_must (refine Ks (by rfl) _ _ 22 3 _ 8 Zw (by rfl) (by decide) (by kernel_rfl) (by rfl) w.heap.size _ [] (by rfl) (Jo.alloc (by exact y) _) ⟨wr.heap.size,0,none⟩ 1 [iv 1] (by rfl) (by exact Ua wr _ _) (by intro u O;simp at O;subst O;rfl) (by simp) (by simp;omega) ?_);intro sv' bG H X bx;obtain⟨bn,br,ba,_⟩:=H.cells;subst ba))
   go_ret
   exact⟨[1],_,rfl,by simpa using H,by simp,by intro t E;simp at E;subst E;exact .inl rfl,Jy (Jc D _) X (fun g Y=>(Je y Y).1)⟩
  have bN:(((ts.length:Nat):Int)==0)=false:=by rw[beq_eq_false_iff_ne];omega
  by_cases bc:k<ns.length
  ·have bz:k=6:=(by omega);subst bz;subst K;go_wp2;go_ret
   exact⟨ts,_,rfl,y,by omega,R.out,D⟩
  subst K;go_wp2;go_ret
  exact⟨ts,_,rfl,y,by omega,R.out,D⟩
theorem Kwy (c:Int)(n:Nat)(w:World)(h0:0≤c)(y:c<(n:Int)) :
  Calls prog 8 #[.int .i64 c,.int .i64 n] w fun e w'=>e=.returned (.int .i64 c)∧w'=w:=by
 have H:¬ ((n:Int)=0):=by omega
 have D:¬ c<0:=by omega
 have E:c % (n:Int)=c:=Int.emod_eq_of_lt h0 y;go_enter func8,ntmps8
 go_wp2;go_ret
 exact⟨rfl,rfl⟩
theorem Ku0 (a:Option Addr)(cap:Nat)(ns:List Int)(w:World)(bE:1≤ns.length)(bh:ns.length≤6)(X:∀ t∈ns,tOk t)(bz:Kc w a ns) :
  Calls prog 17 #[.slice a ns.length cap,.int .i64 6] w fun e w'=>∃ (sv:Value),e=.returned sv∧Jo w' w.heap.size 3 sv (ns.map iv)∧Below w.heap.size w w':=by
 have ba:Hid (∀ t∈ns,tOk t):=X;clear X;go_enter func17,ntmps17
 go_wp2;go_loopw [5,6] (fun sv i wr=>∃ (k:Nat),k≤ns.length∧i=.int .i64 k∧Jo wr w.heap.size 3 sv ((ns.take k).map iv)∧Below w.heap.size w wr) (fun _ i _=>ns.length-(intOf i).toNat)
 case atStart=>exact⟨0,Ob7 _,rfl,Jo.nil _ _ _,Oa5 _ _⟩
 case round=>
  rename_i sv i
  obtain⟨k,bj,rfl,D,H⟩:=hrel;obtain⟨bB,c1,R,_⟩:=D.cells;rw[Oa6,Oc7,Oj1 bj]at R;have bI:=H.size;by_cases K:k<ns.length
  ·obtain⟨b1,bM,rfl,bH,bA⟩:=Kc.at (bz.below H) K;have bJ:k<6:=(by omega);have U:Hid (ns.take (k+1)=ns.take k++[ns[k]]):=Oc4 K;have y:=ba.out _ (Ob3 K);generalize ns[k]=v at bA U y;have bL:wrap64 (v-1)=v-1:=by unfold tOk at y;unfold wrap64;omega
   have Y:=fun W=>Kwy (v-1) 3 W (by unfold tOk at y;omega) (by unfold tOk at y;omega);have bx:wrap64 (1+(v-1))=v:=by unfold tOk at y;unfold wrap64;omega
   have bc:Hid (∀ W,Calls prog 8 #[.int .i64 (v-1),.int .i64 ((3:Nat):Int)] W fun e w'=>e=.returned (.int .i64 (v-1))∧w'=W):=Y;have E:Hid (k<ns.length∧ns.length≤6):=⟨K,bh⟩;clear Y y;subst R;go_wp2_with (first|(go_at_call 8;go_must (refine(bc.out _).mono ?_);rintro e w1 ⟨rfl,bx⟩;subst w1)|(at_builtin;go_must (refine Ks (by rfl) _ _ 22 3 _ 8 Zw (by rfl) (by decide) (by kernel_rfl) (by rfl) w.heap.size _ _ (by rfl) (Jo.alloc D _) ⟨wr.heap.size,0,none⟩ 1 [iv v] (by rfl) (by exact Ua wr _ _) (by intro u Z;simp at Z;subst Z;rfl) (by simp only[List.length_cons,List.length_nil,Oa6,Oc7];omega) (by simp;omega) ?_);intro sv' bN O bf bG;obtain⟨bC,bD,br,_⟩:=O.cells;subst br))
   go_roundw
   case rel=>exact⟨k+1,E.out.1,by have:=E.out;go_num,by
    have bn:(List.map iv (List.take k ns)++[iv v]).length=k+1:=by have:=E.out;simp;omega
    rw[bn]at O;rw[U.out,Ob8];exact O,Jy (Jc H _) bf (fun g bi=>(Je D bi).1)⟩
   case measure=>have:=E.out;simp[intOf];omega
  obtain rfl:k=ns.length:=by omega
  rw[Of2]at D;have bK:(((ns.length:Nat):Int)==0)=false:=by rw[beq_eq_false_iff_ne];omega
  subst R;go_wp2;go_ret
  exact⟨_,rfl,D,H⟩
theorem Jpy (t h:Int)(D:tOk t)(h0:0≤h)(y:h≤3)(hn:¬ (t=3∧h=3)):way t h=true:=by
 unfold way tOk at *;rw[decide_eq_true_eq];omega
structure Jfz (ts ns L:List Int) (k:Nat):Prop where
 len:L.length=k
 ok:∀ j (hj:j<L.length),way (ts.getD j 0) L[j]=true
 plain:∀ j (hj:j<L.length),ns.length≤j→L[j]=0
theorem Jfz.more {ts ns L:List Int}{k:Nat}(h:Jfz ts ns L k)(v:Int)(D:way (ts.getD k 0) v=true)(hp:ns.length≤k→v=0):Jfz ts ns (L++[v]) (k+1):=by
 have hl:=h.len;refine⟨by simp[hl],fun j y=>?_,fun j y hn=>?_⟩
 ·by_cases e:j<L.length
  ·rw[Oi2 e];exact h.ok j e
  have:j=L.length:=by simp at y;omega
  subst this;rw[Ok8 (Oa2 _)];simpa [hl] using D
 by_cases e:j<L.length
 ·rw[Oi2 e];exact h.plain j e hn
 have:j=L.length:=by simp at y;omega
 subst this;rw[Ok8 (Oa2 _)];simpa using hp (by omega)
theorem Jzt (bn br:Value)(at_ a:Option Addr)(ct cap:Nat)(ts ns:List Int)(w:World)(bT:ts.length≤6)(bC:∀ t∈ts,tOk t)(bA:∀ n∈ns,Jg n)(bK:Kc w at_ ts)(bL:Kc w a ns) :
  Calls prog 21 #[.agg #[bn,.slice at_ ts.length ct,br],.slice a ns.length cap] w fun e w'=>∃ (hs:List Int) (sv:Value),e=.returned sv∧Jo w' w.heap.size 3 sv (hs.map iv)∧Jfz ts ns hs ts.length∧Below w.heap.size w w':=by
 have bE:Hid (∀ t∈ts,tOk t):=bC;have bD:Hid (∀ n∈ns,Jg n):=bA;clear bC bA;have bH:Below w.heap.size w (w.alloc (.cells #[bn,.slice at_ ts.length ct,br] 25)):=(Oa5 _ _).alloc (Oa2 _) _;go_enter func21,ntmps21
 go_wp2;go_loopw [5,6] (fun sv i wr=>∃ (c:Nat) (L:List Int),c≤ts.length∧i=.int .i64 c∧Hid (Jfz ts ns L c)∧Jo wr (w.heap.size+1) 3 sv (L.map iv)∧Below (w.heap.size+1) (w.alloc (.cells #[bn,.slice at_ ts.length ct,br] 25)) wr) (fun _ i _=>ts.length-(intOf i).toNat)
 case atStart=>exact⟨0,[],Ob7 _,rfl,⟨rfl,by simp,by simp⟩,Jo.nil _ _ _,Oa5 _ _⟩
 case round=>
  rename_i sv i
  obtain⟨c,L,bS,rfl,U,E,K⟩:=hrel;obtain⟨bN,c1,bi,_⟩:=E.cells;rw[Oa6]at bi;have bI:=K.size;simp at bI;have bP:L.length≤6:=by have:=U.out.len;omega
  have bf:Below w.heap.size w wr:=bH.trans (K.mono (Nat.le_succ _));have bO:wr.cell? ⟨w.heap.size,1,none⟩=some (.slice at_ ts.length ct):=by rw[K.cell (p:=⟨w.heap.size,1,none⟩) (by simp)];simp
  by_cases bh:c<ts.length
  ·obtain⟨b1,bV,rfl,bQ,bM⟩:=Kc.at (bK.below bf) bh;have Y:Hid (ts.getD c 0=ts[c]):=by show _=_;simp[bh]
   have X:=bE.out _ (Ob3 bh);unfold tOk at X;subst bi;by_cases bz:c<ns.length
   ·obtain⟨b2,bW,rfl,bR,bX⟩:=Kc.at (bL.below bf) bz;have bJ:=Jfw ns[c] 4 wr (bD.out _ (Ob3 bz)) (by decide) (by decide);go_wp2_with fail
    refine bJ.mono ?_;rintro e w1 ⟨⟨r,rfl,hr⟩,bU⟩;subst w1;by_cases bG:r=3
    ·subst bG;by_cases bj:ts[c]=3
     ·have bB:(ts[c]==3)=true:=by rw[beq_iff_eq];exact bj
      rw[bj]at bM;go_wp2_with (at_builtin;go_must (refine Ks (by rfl) _ _ 22 3 _ 8 Zw (by rfl) (by decide) (by kernel_rfl) (by rfl) (w.heap.size+1) _ _ (by rfl) (Jo.alloc E _) ⟨wr.heap.size,0,none⟩ 1 [iv 2] (by rfl) (by exact Ua wr _ _) (by intro u D;simp at D;subst D;rfl) (by simp only[List.length_cons,List.length_nil,Oa6];omega) (by simp;omega) ?_);intro sv' bx y H bc;obtain⟨Z,ba,R,_⟩:=y.cells;subst R)
      go_roundw
      case rel=>exact⟨c+1,L++[2],by omega,by go_num,U.out.more 2 (by rw[Y.out];exact Jpy _ _ X (by omega) (by omega) (by omega)) (fun h=>by omega),by simpa using y,(K.alloc (by omega) _).grown H (by simp;omega) (fun g O=>(Je E O).1)⟩
      case measure=>simp[intOf];omega
     have bB:(ts[c]==3)=false:=by rw[beq_eq_false_iff_ne];exact bj
     go_wp2_with (at_builtin;go_must (refine Ks (by rfl) _ _ 22 3 _ 8 Zw (by rfl) (by decide) (by kernel_rfl) (by rfl) (w.heap.size+1) _ _ (by rfl) (Jo.alloc E _) ⟨wr.heap.size,0,none⟩ 1 [iv 3] (by rfl) (by exact Ua wr _ _) (by intro u D;simp at D;subst D;rfl) (by simp only[List.length_cons,List.length_nil,Oa6];omega) (by simp;omega) ?_);intro sv' bx y H bc;obtain⟨Z,ba,R,_⟩:=y.cells;subst R)
     go_roundw
     case rel=>exact⟨c+1,L++[3],by omega,by go_num,U.out.more 3 (by rw[Y.out];exact Jpy _ _ X (by omega) (by omega) (by omega)) (fun h=>by omega),by simpa using y,(K.alloc (by omega) _).grown H (by simp;omega) (fun g O=>(Je E O).1)⟩
     case measure=>simp[intOf];omega
    have bB:((r:Int)==3)=false:=by rw[beq_eq_false_iff_ne];omega
    go_wp2_with (at_builtin;go_must (refine Ks (by rfl) _ _ 22 3 _ 8 Zw (by rfl) (by decide) (by kernel_rfl) (by rfl) (w.heap.size+1) _ _ (by rfl) (Jo.alloc E _) ⟨wr.heap.size,0,none⟩ 1 [iv (r:Int)] (by rfl) (by exact Ua wr _ _) (by intro u D;simp at D;subst D;rfl) (by simp only[List.length_cons,List.length_nil,Oa6];omega) (by simp;omega) ?_);intro sv' bx y H bc;obtain⟨Z,ba,R,_⟩:=y.cells;subst R)
    go_roundw
    case rel=>exact⟨c+1,L++[(r:Int)],by omega,by go_num,U.out.more (r:Int) (by rw[Y.out];exact Jpy _ _ X (by omega) (by omega) (by omega)) (fun h=>by omega),by simpa using y,(K.alloc (by omega) _).grown H (by simp;omega) (fun g O=>(Je E O).1)⟩
    case measure=>simp[intOf];omega
   go_wp2_with (at_builtin;go_must (refine Ks (by rfl) _ _ 22 3 _ 8 Zw (by rfl) (by decide) (by kernel_rfl) (by rfl) (w.heap.size+1) _ _ (by rfl) (Jo.alloc E _) ⟨wr.heap.size,0,none⟩ 1 [iv 0] (by rfl) (by exact Ua wr _ _) (by intro u D;simp at D;subst D;rfl) (by simp only[List.length_cons,List.length_nil,Oa6];omega) (by simp;omega) ?_);intro sv' bx y H bc;obtain⟨Z,ba,R,_⟩:=y.cells;subst R)
   go_roundw
   case rel=>exact⟨c+1,L++[0],by omega,by go_num,U.out.more 0 (by rw[Y.out];exact Jpy _ _ X (by omega) (by omega) (by omega)) (fun _=>rfl),by simpa using y,(K.alloc (by omega) _).grown H (by simp;omega) (fun g O=>(Je E O).1)⟩
   case measure=>simp[intOf];omega
  obtain rfl:c=ts.length:=by omega
  subst bi;go_wp2;go_ret
  exact⟨L,_,rfl,Jgl E (Nat.le_succ _),U.out,bf⟩
def Kgs (ts:List Int)(r:List V):Prop:=r.length=ts.length∧∀ j (y:j<r.length),okB (ts.getD j 0) r[j].k r[j].n r[j].s=true∧Jg r[j].n
theorem Kgd (t:Int):okB t Jf.k Jf.n Jf.s=true:=by simp[okB,Jf]
theorem Kf0:Jg Jf.n:=by simp[Jg,Jf]
structure Jkr (w:World) (tb:Nat) (name:ByteArray) (tsv rv:Value) (bs:List Nat) (rs:List (List V)):Prop where
 cells:w.heap[tb]?=some (.cells #[.string name,tsv,rv] 25 (0,0))
 own:Jo w (tb+1) 41 rv (List.zipWith Jad bs rs)
 len:bs.length=rs.length
 rows:∀ (i:Nat) b r,bs[i]?=some b→rs[i]?=some r→Kv w b r []
 new:∀ b∈bs,tb<b∧rv.ownBlock≠some b
theorem Jkr.lt {w:World}{y:Nat}{name:ByteArray}{D rv:Value}{bs:List Nat}{rs:List (List V)}(h:Jkr w y name D rv bs rs):y<w.heap.size:=Jd h.cells
theorem Jkr.below {w w':World}{D:Nat}{name:ByteArray}{E rv:Value}{bs:List Nat}{rs:List (List V)}(h:Jkr w D name E rv bs rs)(y:Below w.heap.size w w'):Jkr w' D name E rv bs rs:=
 ⟨(y.block _ h.lt).trans h.cells,h.own.below y,h.len,fun i b r hi hr=>(h.rows i b r hi hr).of_block (y.block _ (h.rows i b r hi hr).lt),h.new⟩
theorem Jpz (bs:List Nat)(rs:List (List V))(h:bs.length=rs.length)(b:Nat)(r:List V):List.zipWith Jad (bs++[b]) (rs++[r])=List.zipWith Jad bs rs++[Jad b r]:=by
 rw[Oo5 h];rfl
theorem Jkr.more {w w4:World}{y:Nat}{name:ByteArray}{R rv rv':Value}{bs:List Nat}{rs:List (List V)}(h:Jkr w y name R rv bs rs)(rb:Nat)(r:List V)(hr:Kv w rb r [])(bj:y<rb)(X:rv.ownBlock≠some rb)(o:Obj)
  (Z:Jo w4 (y+1) 41 rv' (List.zipWith Jad bs rs++[Jad rb r])) (bc:(w.alloc o).grownBy w4 rv.ownBlock) (ba:rv'.ownBlock=rv.ownBlock∨rv'.ownBlock=some (w.alloc o).heap.size) :
  Jkr (w4.setCell ⟨y,2,none⟩ rv') y name R rv' (bs++[rb]) (rs++[r]):=by
 have O:∀ k,k<w.heap.size→rv.ownBlock≠some k→w4.heap[k]?=w.heap[k]?:=fun k bh hn=>(bc.block k (by simp;omega) (Oc5 hn)).trans (Oa9 w o k bh);have bn:w4.heap[y]?=some (.cells #[.string name,R,rv] 25 (0,0)):=(O y h.lt fun e=>by have:=(Je h.own e).1;omega).trans h.cells;have Y:∀ b,b<w.heap.size→rv.ownBlock≠some b→rv'.ownBlock≠some b:=fun b U hn e=>by
  rcases ba with K|K
  ·exact hn (K▸e)
  rw[K]at e;simp at e;omega
 refine⟨by have:=Jk bn 2 rv';simpa using this,?_,by simp[h.len],?_,?_⟩
 ·rw[Jpz bs rs h.len];exact Yd Z fun g bf=>Oa4 _ _ _ _ (by have:=(Je Z bf).1;simp;omega)
 ·intro i b q hi E;rcases Kec hi with⟨hl,hi⟩|⟨hl,rfl⟩
  ·rw[Ob0 (by rw[←h.len];exact hl)]at E;have H:=h.rows i b q hi E;have bi:=h.new b (Of6 hi);exact(H.of_block (O b H.lt bi.2)).of_block (Oa4 _ _ _ _ (by simp;omega))
  rw[hl,h.len,Ob6 (Oa2 _)]at E;simp at E;subst E;exact(hr.of_block (O rb hr.lt X)).of_block (Oa4 _ _ _ _ (by simp;omega))
 intro b U;rcases Od2.1 U with D|D
 ·obtain⟨i,hi,e⟩:=Od5 D;have H:=h.rows i b (rs[i]'(by rw[←h.len];exact hi)) (by rw[←e];simp[hi]) (by simp[show i<rs.length by rw[←h.len];exact hi]);exact⟨(h.new b D).1,Y b H.lt (h.new b D).2⟩
 simp at D;subst D;exact⟨bj,Y b hr.lt X⟩
theorem Jya (bs:List Nat):∀ rs:List (List V),List.zipWith Je1 (List.zipWith (fun b (r:List V)=>((some ⟨b,0,none⟩:Option Addr),r.length)) bs rs) rs=List.zipWith Jad bs rs:=by
 induction bs with
 |nil=>intro rs;simp
 |cons b bs y=>
  intro rs;cases rs with
  |nil=>simp
  |cons r rs=>simp[Je1,Jad,y rs]
theorem Jyi (bs:List Nat)(rs:List (List V))(h:bs.length=rs.length){i:Nat}{x:Option Addr×Nat}(y:(List.zipWith (fun b (r:List V)=>((some ⟨b,0,none⟩:Option Addr),r.length)) bs rs)[i]?=some x):∃ b,bs[i]?=some b∧x.1=some ⟨b,0,none⟩:=by
 have hi:i<bs.length:=by
  rcases Oc1 i bs.length with D|D
  ·exact D
  rw[Ob4 (by simp;omega)]at y;simp at y
 have E:i<rs.length:=by omega
 rw[Ok5,Oa3 hi,Oa3 E]at y;simp at y;exact⟨bs[i],by simp[hi],by rw[←y]⟩
theorem Jkr.out {w w':World}{D:Nat}{name:ByteArray}{X:Value}{a:Option Addr}{n c q:Nat}{bs:List Nat}{rs:List (List V)}(h:Jkr w D name X (.slice a n c) bs rs)(hs:w.heap.size≤w'.heap.size)(Z:q≤D)(H:∀ k,k≠q→w'.heap[k]?=w.heap[k]?) :
  Zd w' a (List.zipWith (fun b (r:List V)=>((some ⟨b,0,none⟩:Option Addr),r.length)) bs rs) rs∧rs.length≤c∧(∀ b o,a=some ⟨b,o,none⟩→D<b)∧∀ b∈bs,D<b:=by
 have E:∀ b o,a=some ⟨b,o,none⟩→D<b:=fun b o y=>by have:=(Je h.own ((Jji h.own).2 b o y)).1;omega
 refine⟨⟨by simp[h.len],?_,fun i x r R hr=>?_⟩,?_,E,fun b y=>(h.new b y).1⟩
 ·rw[Jya];exact(Jji h.own).1.of_block hs fun b o y _=>H b (by have:=E b o y;omega)
 ·obtain⟨b,y,U⟩:=Jyi bs rs h.len R;rw[U];exact((h.rows i b r y hr).of_block (H b (by have:=(h.new b (Of6 y)).1;omega))).vals
 have hl:(List.zipWith Jad bs rs).length=rs.length:=by simp[h.len]
 rcases h.own.2 with⟨K,h0⟩|⟨g,cap,Y,K,_,_,O,_⟩
 ·rw[hl]at h0;omega
 simp at K;rw[hl]at O;omega
structure Jug (w w':World) (name:ByteArray) (ts:List Int) (rs:List (List V)) (v:Value):Prop where
 val:∃ ta tc ra rc bs,v=.agg #[.string name,.slice ta ts.length tc,.slice ra rs.length rc]∧Kc w' ta ts∧Zd w' ra (List.zipWith (fun b (r:List V)=>((some ⟨b,0,none⟩:Option Addr),r.length)) bs rs) rs∧rs.length≤rc∧(∀ b o,ta=some ⟨b,o,none⟩→w.heap.size≤b)∧(∀ b o,ra=some ⟨b,o,none⟩→w.heap.size≤b)∧∀ b∈bs,w.heap.size≤b
 types:(1≤ts.length∧ts.length≤6)∧∀ t∈ts,tOk t
 rows:∀ r∈rs,Kgs ts r
theorem Ku4 (P:List Int→Prop)(bV name:ByteArray)(at_ ar:Option Addr)(ct cr M:Nat)(ns:List Int)(xs:List (Option Addr×Nat))(E:List (List V))(w:World)(dY:M≤200)(ca:∀ W,Below w.heap.size w W→Calls prog 17 #[.slice at_ ns.length ct,.int .i64 6] W fun e w'=>∃ (ts:List Int) (sv:Value),e=.returned sv∧Jo w' W.heap.size 3 sv (ts.map iv)∧(1≤ts.length∧ts.length≤6)∧(∀ t∈ts,tOk t)∧P ts∧Below W.heap.size W w')(cv:∀ r∈E,r.length≤maxLen)(ch:∀ r∈E,∀ v∈r,Jg v.k∧Jg v.n)(dC:Zd w ar xs E) :
  Calls prog 5 #[.agg #[.string bV,.slice at_ ns.length ct,.slice ar E.length cr],.string name,.int .i64 (M:Int)] w fun e w'=>∃ ts rs v,e=.returned v∧Jug w w' name ts rs v∧rs.length≤M∧P ts∧Below w.heap.size w w':=by
 have bZ:Below w.heap.size w ((w.alloc (.cells #[.string bV,.slice at_ ns.length ct,.slice ar E.length cr] 25)).alloc (.cells #[.string ⟨#[]⟩,.slice none 0 0,.slice none 0 0] 25)):=((Oa5 _ _).alloc (Oa2 _) _).alloc (by simp) _;have cD:=ca _ bZ;have dP:Hid (∀ r∈E,r.length≤maxLen):=cv;have cI:Hid (∀ r∈E,∀ v∈r,Jg v.k∧Jg v.n):=ch;clear cv ch ca;go_enter func5,ntmps5
 go_wp2_with (go_at_call 17;refine cD.mono ?_;rintro e w1 ⟨ts,fo,rfl,bS,dx,cB,cu,bG⟩;obtain⟨H,K,cC,cz⟩:=bS.cells;rw[Oa6]at cC;subst cC)
 have dB:=bG.size;simp at dB;have cb:Below w.heap.size w w1:=bZ.trans (bG.mono (by simp;omega));have cH:∀ (O:World),Below w1.heap.size w1 O→O.cell? ⟨w.heap.size,2,none⟩=some (.slice ar E.length cr):=fun O db=>by
  rw[db.cell (p:=⟨w.heap.size,2,none⟩) (by simp;omega),bG.cell (p:=⟨w.heap.size,2,none⟩) (by simp;omega)];simp
 have bW:Hid (∀ (O:World),Below w1.heap.size w1 O→O.cell? ⟨w.heap.size,2,none⟩=some (.slice ar E.length cr)):=cH;have cA:∀ b o,H=some ⟨b,o,none⟩→w.heap.size+2≤b∧b<w1.heap.size:=fun b o U=>by
  have:=Je bS ((Jji bS).2 b o U);simp at this;omega
 have bL:Hid (∀ b o,H=some ⟨b,o,none⟩→w.heap.size+2≤b∧b<w1.heap.size):=cA;have bY:Hid (∀ t∈ts,tOk t):=cB;have cM:Hid (P ts):=cu;clear cH cA cB cD cu;have dt:Jkr (w1.alloc (.cells #[.string name,.slice H ts.length K,.slice none 0 0] 25)) w1.heap.size name (.slice H ts.length K) (.slice none 0 0) [] []:=
  ⟨heap_alloc_new _ _,Jo.nil _ _ _,rfl,fun i b r hi=>by simp at hi,fun b U=>by simp at U⟩
 go_loopw [8] (fun i wr=>∃ (k:Nat) (rv:Value) (bs:List Nat) (rs:List (List V)),k≤E.length∧k≤M∧i=.int .i64 k∧rs.length≤k∧Hid (∀ r∈rs,Kgs ts r)∧Jkr wr w1.heap.size name (.slice H ts.length K) rv bs rs∧Below w1.heap.size w1 wr) (fun i _=>M-(intOf i).toNat)
 case atStart=>exact⟨0,_,[],[],Ob7 _,Ob7 _,rfl,Oa2 _,by intro r hr;simp at hr,dt,(Oa5 _ _).alloc (Oa2 _) _⟩
 case round=>
  rename_i i
  obtain⟨k,rv,bs,rs,bH,fh,rfl,fi,bX,R,bc⟩:=hrel;obtain⟨y,bB⟩:∃ y,y=wr:=⟨_,rfl⟩;subst bB;have c2:=bW.out y bc;have cS:y.cell? ⟨w1.heap.size,1,none⟩=some (.slice H ts.length K):=by simp[World.cell?,R.cells]
  have dT:y.cell? ⟨w1.heap.size,2,none⟩=some rv:=by simp[World.cell?,R.cells]
  have dd:=cb.trans (bc.mono (by omega));obtain⟨X,Y,cx,_⟩:=R.own.cells;have bT:(List.zipWith Jad bs rs).length=rs.length:=by simp[R.len]
  rw[bT]at cx;have cP:Hid ((List.zipWith Jad bs rs).length=rs.length):=bT;clear bT;subst cx;by_cases cj:k<E.length∧k<M
  ·obtain⟨bD,cX⟩:=cj;obtain⟨C,dm,dp⟩:=Jtn ts.length (by omega) y;go_wp2;clear dm;go_loopw [10] (fun i wr=>∃ (c:Nat) (L:List V),c≤ts.length∧i=.int .i64 c∧Hid (L.length=c∧∀ j (bn:j<L.length),okB (ts.getD j 0) L[j].k L[j].n L[j].s=true∧Jg L[j].n)∧Kv wr y.heap.size (L++List.replicate (ts.length-c) Jf) []∧Below y.heap.size y wr) (fun i _=>ts.length-(intOf i).toNat)
   case atStart=>exact⟨0,[],Ob7 _,rfl,⟨rfl,fun j bn=>by simp at bn⟩,by simpa using dp,(Oa5 _ _).alloc (Oa2 _) _⟩
   case round=>
    rename_i fj
    obtain⟨c,L,ff,rfl,bf,bA,bj⟩:=hrel;have bP:=bc.trans (bj.mono bc.size);have bE:=cb.trans (bP.mono (by omega));have cT:=bW.out wr bP;have cU:wr.cell? ⟨w1.heap.size,1,none⟩=some (.slice H ts.length K):=by rw[bj.cell (p:=⟨w1.heap.size,1,none⟩) R.lt];exact cS
    obtain⟨b1,bJ,fm,rc,dc,dZ,dJ,dA⟩:=dC.at bD;subst dc;have dI:=Ja bE dJ;by_cases bz:c<ts.length
    ·obtain⟨bt,bU,dv,fd,dK⟩:=Kc.at (cz.below bP) bz;subst dv;by_cases cf:c<E[k].length
     ·obtain⟨b2,br,dr,fc,dL,dM,dO⟩:=dA.at cf;subst dr;have z1:=Ja bE dL;have z2:=Ja bE dM;have dN:=Ja bE dO;have fe:=bL.out bt bU rfl;have bB:=bc.size;have da:=R.lt;have cE:=bj.size;have cF:=cI.out _ (Ob3 bD) _ (Ob3 cf);have cJ:Hid (∀ W,Calls prog 18 #[E[k][c].val,.int .i64 ts[c]] W fun e w'=>(∃ u:V,e=.returned u.val∧okB ts[c] u.k u.n u.s=true∧Jg u.n)∧Below W.heap.size W w'):=fun W=>Jk8 E[k][c] ts[c] W (bY.out _ (Ob3 bz)) cF.1 cF.2;have ci:(L++List.replicate (ts.length-c) Jf).length=ts.length:=by rw[Oa8,bf.out.1,Od6];omega
      have cK:Hid ((L++List.replicate (ts.length-c) Jf).length=ts.length):=ci;clear ci;go_wp2;refine wp_region_held_drew (S:=fun O=>O.cell? ⟨w.heap.size,2,none⟩=some (.slice (some ⟨b1,bJ,none⟩) E.length cr)∧O.cell? ⟨b1,bJ+k,none⟩=some (.slice (some ⟨b2,br,none⟩) E[k].length rc)∧O.cell? ⟨b2,br+c*3,none⟩=some (.int .i64 E[k][c].k)∧O.cell? ⟨b2,br+c*3+1,none⟩=some (.int .i64 E[k][c].n)∧O.cell? ⟨b2,br+c*3+2,none⟩=some (.string E[k][c].s)∧O.cell? ⟨w1.heap.size,1,none⟩=some (.slice (some ⟨bt,bU,none⟩) ts.length K)∧O.cell? ⟨bt,bU+c,none⟩=some (.int .i64 ts[c])) (by kernel_rfl) ⟨cT,dI,z1,z2,dN,cU,dK⟩ (fun D=>?_);refine tkj 0 rfl D ?_;refine tkj 1 rfl D ?_;refine tkj 2 rfl D ?_;refine tkj 3 rfl D ?_;refine tkj 4 rfl D ?_;refine tkj 5 rfl D ?_;refine tkj 6 rfl D ?_;refine tkj 7 rfl D ?_;refine tkj 8 rfl D ?_;refine tkj 9 rfl D ?_;refine tkj 10 rfl D ?_;refine tkj 11 rfl D ?_;refine tkj 12 rfl D ?_;refine tkj 13 rfl D ?_;refine tkj 14 rfl D ?_;refine tkn ?_;refine tkr 15 rfl fun bM bx=>?_;go_simp;refine(cJ.out _).mono ?_;rintro e ba ⟨⟨u,rfl,bI,dy⟩,bO⟩;go_simp;obtain⟨kk,_⟩:=Kx bO;refine bx.out _ _ ⟨(kk _ _ (by show w.heap.size<wr.heap.size;omega)).trans D.1,(kk _ _ (by show b1<wr.heap.size;omega)).trans D.2.1,(kk _ _ (by show b2<wr.heap.size;omega)).trans D.2.2.1,(kk _ _ (by show b2<wr.heap.size;omega)).trans D.2.2.2.1,(kk _ _ (by show b2<wr.heap.size;omega)).trans D.2.2.2.2.1,(kk _ _ (by show w1.heap.size<wr.heap.size;omega)).trans D.2.2.2.2.2.1,(kk _ _ (by show bt<wr.heap.size;omega)).trans D.2.2.2.2.2.2⟩ (fun bh=>?_);clear bx bM kk D;refine tkj 16 rfl bh ?_;refine tkn ?_;have ds:Kv ba y.heap.size (L++List.replicate (ts.length-c) Jf) []:=bA.of_block ((Jw bO).block _ bA.lt);obtain⟨fk,⟨c0,cV⟩,⟨c1,cW⟩,⟨cQ,bN⟩,bR⟩:=ds.put u c (by rw[cK.out];exact bz);rw[Jna L c ts.length u bf.out.1 bz]at bR;have cN:Hid (Kv (((ba.setCell ⟨y.heap.size,c*3,none⟩ (.int .i64 u.k)).setCell ⟨y.heap.size,c*3+1,none⟩ (.int .i64 u.n)).setCell ⟨y.heap.size,c*3+2,none⟩ (.string u.s)) y.heap.size (L++[u]++List.replicate (ts.length-(c+1)) Jf) []):=bR;clear bR;refine tkr 17 rfl fun bM bx=>?_;go_simp;have Z:∀ (b o:Nat) (v:Value),b≠y.heap.size→ba.cell? ⟨b,o,none⟩=some v→(((ba.setCell ⟨y.heap.size,c*3,none⟩ (.int .i64 u.k)).setCell ⟨y.heap.size,c*3+1,none⟩ (.int .i64 u.n)).setCell ⟨y.heap.size,c*3+2,none⟩ (.string u.s)).cell? ⟨b,o,none⟩=some v:=fun b o v U dz=>by
       rw[Ob5 _ _ _ _ (by first|(simp;done)|(simp;omega)),Ob5 _ _ _ _ (by first|(simp;done)|(simp;omega)),Ob5 _ _ _ _ (by first|(simp;done)|(simp;omega))];exact dz
      refine bx.out _ _ ⟨Z _ _ _ (by omega) bh.1,Z _ _ _ (by omega) bh.2.1,Z _ _ _ (by omega) bh.2.2.1,Z _ _ _ (by omega) bh.2.2.2.1,Z _ _ _ (by omega) bh.2.2.2.2.1,Z _ _ _ (by omega) bh.2.2.2.2.2.1,Z _ _ _ (by omega) bh.2.2.2.2.2.2⟩ (fun cY=>?_);clear bx bM Z bh cY c0 cV c1 cW cQ bN;refine wpAnyH_done (by kernel_rfl) ?_ _;have df:Below y.heap.size y (((ba.setCell ⟨y.heap.size,c*3,none⟩ (.int .i64 u.k)).setCell ⟨y.heap.size,c*3+1,none⟩ (.int .i64 u.n)).setCell ⟨y.heap.size,c*3+2,none⟩ (.string u.s)):=
       (((bj.trans ((Jw bO).mono cE)).setCell (p:=⟨y.heap.size,c*3,none⟩) (Oa2 _) _).setCell (p:=⟨y.heap.size,c*3+1,none⟩) (Oa2 _) _).setCell (p:=⟨y.heap.size,c*3+2,none⟩) (Oa2 _) _
      generalize ((ba.setCell ⟨y.heap.size,c*3,none⟩ (.int .i64 u.k)).setCell ⟨y.heap.size,c*3+1,none⟩ (.int .i64 u.n)).setCell ⟨y.heap.size,c*3+2,none⟩ (.string u.s)=dH at *;go_wp2;go_roundw
      case rel=>
       refine⟨c+1,L++[u],by omega,by go_num,⟨by rw[Oa8,bf.out.1];rfl,fun j bn=>?_⟩,cN.out,df⟩;by_cases e:j<L.length
       ·rw[Oi2 e];exact bf.out.2 j e
       have bQ:j=L.length:=by simp at bn;omega
       subst bQ;rw[Ok8 (Oa2 _)];have dk:ts.getD L.length 0=ts[c]:=by rw[bf.out.1];simp[bz]
       simp only[Oe1,List.getElem_cons_zero,dk];exact⟨bI,dy⟩
      case measure=>simp[intOf];omega
     have cO:Hid (L++List.replicate (ts.length-c) Jf=(L++[Jf])++List.replicate (ts.length-(c+1)) Jf):=by
      show _=_;obtain⟨d,dh⟩:∃ d,ts.length-c=d+1:=⟨ts.length-c-1,by omega⟩;have di:ts.length-(c+1)=d:=(by omega);rw[dh,di,List.replicate_succ];simp
     go_wp2;go_roundw
     case rel=>
      refine⟨c+1,L++[Jf],by omega,by go_num,⟨by rw[Oa8,bf.out.1];rfl,fun j bn=>?_⟩,by rw[←cO.out];exact bA,bj⟩;by_cases e:j<L.length
      ·rw[Oi2 e];exact bf.out.2 j e
      have bQ:j=L.length:=by simp at bn;omega
      subst bQ;rw[Ok8 (Oa2 _)];simp only[Oe1,List.getElem_cons_zero];exact⟨Kgd _,Kf0⟩
     case measure=>simp[intOf];omega
    obtain rfl:c=ts.length:=by omega
    rw[Oe1,List.replicate_zero,Od7]at bA;have bi:=R.below bj;have da:=bi.lt;have bB:=bc.size;have cE:=bj.size;have bN:wr.cell? ⟨w1.heap.size,2,none⟩=some (.slice X rs.length Y):=by simp[World.cell?,bi.cells]
    have dq:(Value.slice X rs.length Y).ownBlock≠some y.heap.size:=fun e=>by have:=(Je R.own e).2;omega
    have cZ:=R.lt;go_wp2_with (at_builtin;go_must (refine Ul (by rfl) _ _ 23 41 _ 24 Jip (by rfl) (by decide) (by kernel_rfl) (by rfl) (w1.heap.size+1) _ _ (by rfl) (Jo.alloc bi.own _) ⟨wr.heap.size,0,none⟩ 1 [.slice (some ⟨y.heap.size,0,none⟩) ts.length ts.length] (by rfl) (by exact Ua wr _ _) (by intro u bI;simp at bI;subst bI;rfl) (by rw[cP.out];simp only[List.length_cons,List.length_nil];omega) (by simp;omega) ?_);intro sv' ba cG bK dG;go_must (have cn:=bi.more y.heap.size L bA (by omega) dq _ (rv':=sv') (w4:=ba) (by unfold Jad;rw[bf.out.1];exact cG) bK dG);obtain⟨dQ,dR,du,_⟩:=cG.cells;subst du;go_must (have dU:ba.cell? ⟨w1.heap.size,2,none⟩=some (.slice X rs.length Y):=(by rw[bK.cell_far _ (by simp;omega) (fun e=>absurd (Je bi.own e.symm).1 (by simp))];exact(Jnf wr _ _ 2 (by omega)).trans bN));go_must (have dV:ba.frozen? ⟨w1.heap.size,2,none⟩=false:=(by rw[bK.frozen_far _ (by simp;omega) (fun e=>absurd (Je bi.own e.symm).1 (by simp))];refine(Jh9 wr _ _ 2 (by omega)).trans ?_;simp[World.frozen?,bi.cells])))
    have dg:Below w1.heap.size w1 ba:=((bc.trans (bj.mono bB)).alloc (by omega) _).grown bK (by simp;omega) (fun g dj=>by have:=(Je bi.own dj).1;omega);go_roundw
    case rel=>
     simp only[Oa8,Oj8,List.length_cons,List.length_nil,Od0]at cn;refine⟨k+1,_,bs++[y.heap.size],rs++[L],by omega,by omega,by go_num,by simp;omega,?_,cn,dg.setCell (p:=⟨w1.heap.size,2,none⟩) (Oa2 _) _⟩;intro r hr;rcases Od2.1 hr with h|h
     ·exact bX.out r h
     simp at h;subst h;exact bf.out
    case measure=>simp[intOf];omega
  have cZ:=R.lt;have fg:y.heap[w1.heap.size]?=some (.cells #[.string name,.slice H ts.length K,.slice X rs.length Y] 25 (0,0)):=R.cells;have dS:y.cell? ⟨w1.heap.size,0,none⟩=some (.string name):=by simp[World.cell?,R.cells]
  have bC:y.heap[w.heap.size+1]?=some (.cells #[.string ⟨#[]⟩,.slice none 0 0,.slice none 0 0] 25 (0,0)):=by
   rw[bc.block _ (by omega),bG.block _ (by simp)];have:=heap_alloc_new (w.alloc (.cells #[.string bV,.slice at_ ns.length ct,.slice ar E.length cr] 25)) (.cells #[.string ⟨#[]⟩,.slice none 0 0,.slice none 0 0] 25);rw[Oa7]at this;exact this
  have dX:y.cell? ⟨w.heap.size+1,0,none⟩=some (.string ⟨#[]⟩):=by simp[World.cell?,bC]
  have g1:y.cell? ⟨w.heap.size+1,1,none⟩=some (.slice none 0 0):=by simp[World.cell?,bC]
  have g2:y.cell? ⟨w.heap.size+1,2,none⟩=some (.slice none 0 0):=by simp[World.cell?,bC]
  have dW:∀ o,y.frozen? ⟨w.heap.size+1,o,none⟩=false:=fun o=>by simp[World.frozen?,bC]
  by_cases bD:k<E.length;focus
   have cX:¬ k<M:=fun h=>cj ⟨bD,h⟩
  rotate_left 1;all_goals
   go_wp2;have Z:∀ k,k≠w.heap.size+1→(((y.setCell ⟨w.heap.size+1,0,none⟩ (.string name)).setCell ⟨w.heap.size+1,1,none⟩ (.slice H ts.length K)).setCell ⟨w.heap.size+1,2,none⟩ (.slice X rs.length Y)).heap[k]?=y.heap[k]?:=fun k bH=>by
    rw[Oa4 _ _ _ _ bH,Oa4 _ _ _ _ bH,Oa4 _ _ _ _ bH]
   have bB:=bc.size;have cy:y.heap.size≤(((y.setCell ⟨w.heap.size+1,0,none⟩ (.string name)).setCell ⟨w.heap.size+1,1,none⟩ (.slice H ts.length K)).setCell ⟨w.heap.size+1,2,none⟩ (.slice X rs.length Y)).heap.size:=by simp[World.setCell]
   have cc:=Jk (Jk (Jk bC 0 (.string name)) 1 (.slice H ts.length K)) 2 (.slice X rs.length Y);simp at cc;obtain⟨bJ,br,dD,dE⟩:=R.out (q:=w.heap.size+1) cy (by omega) Z;have de:Below w.heap.size w (((y.setCell ⟨w.heap.size+1,0,none⟩ (.string name)).setCell ⟨w.heap.size+1,1,none⟩ (.slice H ts.length K)).setCell ⟨w.heap.size+1,2,none⟩ (.slice X rs.length Y)):=
    ((dd.setCell (p:=⟨w.heap.size+1,0,none⟩) (by simp) _).setCell (p:=⟨w.heap.size+1,1,none⟩) (by simp) _).setCell (p:=⟨w.heap.size+1,2,none⟩) (by simp) _
   have dw:Kc (((y.setCell ⟨w.heap.size+1,0,none⟩ (.string name)).setCell ⟨w.heap.size+1,1,none⟩ (.slice H ts.length K)).setCell ⟨w.heap.size+1,2,none⟩ (.slice X rs.length Y)) H ts:=(cz.below bc).of_block cy fun b o U _=>Z b (by have:=(bL.out b o U).1;omega);generalize ((y.setCell ⟨w.heap.size+1,0,none⟩ (.string name)).setCell ⟨w.heap.size+1,1,none⟩ (.slice H ts.length K)).setCell ⟨w.heap.size+1,2,none⟩ (.slice X rs.length Y)=dH at *;refine bodyPost_ret (v:=.agg #[.string name,.slice H ts.length K,.slice X rs.length Y]) (by simp[results,results5,go_sem,World.cell?,cc]) rfl ⟨ts,rs,_,rfl,⟨⟨H,K,X,Y,bs,rfl,dw,bJ,br,fun b o U=>by have:=(bL.out b o U).1;omega,fun b o U=>by have:=dD b o U;omega,fun b U=>by have:=dE b U;omega⟩,⟨dx,bY.out⟩,bX.out⟩,by omega,cM.out,de⟩
theorem Jt8 (O name:ByteArray)(at_ ar:Option Addr)(ct cr M:Nat)(ns:List Int)(xs:List (Option Addr×Nat))(y:List (List V))(w:World)(U:M≤200)(hn:ns.length≤maxLen)(Z:∀ r∈y,r.length≤maxLen)(Y:∀ r∈y,∀ v∈r,Jg v.k∧Jg v.n)(ba:Kc w at_ ns)(bc:Zd w ar xs y) :
  Calls prog 5 #[.agg #[.string O,.slice at_ ns.length ct,.slice ar y.length cr],.string name,.int .i64 (M:Int)] w fun e w'=>∃ ts rs v,e=.returned v∧Jug w w' name ts rs v∧rs.length≤M∧Below w.heap.size w w':=
 (Ku4 (fun _=>True) O name at_ ar ct cr M ns xs y w U (fun W X=>(Jvl at_ ct ns W hn (ba.below X)).mono fun _ _ ⟨ts,sv,D,E,H,R,K⟩=>⟨ts,sv,D,E,H,R,trivial,K⟩) Z Y bc).mono fun _ _ ⟨ts,rs,v,D,E,H,_,K⟩=>⟨ts,rs,v,D,E,H,K⟩
theorem Ku1 (U name:ByteArray)(at_ ar:Option Addr)(ct cr M:Nat)(ns:List Int)(xs:List (Option Addr×Nat))(y:List (List V))(w:World)(X:M≤200)(K:1≤ns.length)(O:ns.length≤6)(R:∀ t∈ns,tOk t)(ba:∀ r∈y,r.length≤maxLen)(Z:∀ r∈y,∀ v∈r,Jg v.k∧Jg v.n)(bc:Kc w at_ ns)(bf:Zd w ar xs y) :
  Calls prog 5 #[.agg #[.string U,.slice at_ ns.length ct,.slice ar y.length cr],.string name,.int .i64 (M:Int)] w fun e w'=>∃ rs v,e=.returned v∧Jug w w' name ns rs v∧rs.length≤M∧Below w.heap.size w w':=
 (Ku4 (fun ts=>ts=ns) U name at_ ar ct cr M ns xs y w X (fun W Y=>(Ku0 at_ ct ns W K O R (bc.below Y)).mono fun _ _ ⟨sv,D,E,H⟩=>⟨ns,sv,D,E,⟨K,O⟩,R,rfl,H⟩) ba Z bf).mono fun _ _ ⟨ts,rs,v,D,E,H,bh,bi⟩=>by subst bh;exact⟨rs,v,D,E,H,bi⟩
end
end Go.Proofs.YtpchafocmlhmbaaGreatDoor
