/- A table read from the disk, column by column; the columns told as rows. -/
import Derived.Test.YtdlgbphkaicfaaaGreatDoorTk
set_option maxHeartbeats 4000000
set_option maxRecDepth 100000
namespace Go.Proofs.YtdlgbphkaicfaaaGreatDoor
open Go.RowKit Go.Shelf Tryz
attribute [local go_sem] Oc0
theorem Jps:(prog.info? 54).map (fun i=>(i.zero,i.size,i.bytes))=some (some (.slice none 0 0),1,24):=by kernel_rfl
theorem Jiz (n:Nat)(w:World)(hn:n≤1000) :
  Calls prog 78 #[.int .i64 (n:Int)] w fun e w'=>e=.returned (.slice (some ⟨w.heap.size,0,none⟩) n n)∧Jar w' w.heap.size w.heap.size (List.replicate n (.slice none 0 0)) (List.replicate n [])∧Below w.heap.size w w':=by
 have H:∀ W,(Instr.makeSlice 74 (.int .i64 (n:Int)) (.int .i64 (n:Int))).run prog W=.ok (.slice (some ⟨W.heap.size,0,none⟩) n n) (W.alloc (.cells (madeCells #[.slice none 0 0] n) 54)):=
  fun W=>run_make_row' 74 54 (.slice none 0 0) 24 (by kernel_rfl) Jps rfl .i64 .i64 n (by omega) (by omega) W
 go_enter func78,ntmps78
 go_wp2
 go_ret
 have y:∀ i,Uq (List.replicate n (.slice none 0 0)) i=.slice none 0 0:=fun i=>by
  unfold Uq
  rw[Oa0,Of3]
  split<;>rfl
 refine⟨rfl,⟨?_,Oa2 _,by simp,fun i hi=>?_,fun i hi=>?_,fun i j b hi E D A=>?_⟩,(Oa5 _ _).alloc (Oa2 _) _⟩
 ·rw[Od6]
  exact(Ol3 _ _ _ _).congr fun j _=>(y j).symm
 ·rw[y,Oa0,Of3]
  split<;>exact Yt.nil _ _
 ·rw[y];simp[Value.ownBlock]
 rw[y]at A;simp[Value.ownBlock]at A
def Ji1 (w:World)(pg:Addr)(r:List (List V)⊕Nat)(e:Ending)(w':World):Prop:=
 Below w.heap.size w w'∧match r with
  |.inl cs=>∃ g y,e=.returned (.tuple #[.slice (some ⟨g,0,none⟩) cs.length cs.length,.nilIface])∧Jar w' w.heap.size g y cs
  |.inr j=>∃ b,e=.returned (.tuple #[.slice none 0 0,.iface 160 (.pointer (some ⟨b,0,none⟩))])∧w.heap.size≤b∧Yu w' (.iface 160 (.pointer (some ⟨b,0,none⟩))) pg none (some (j:Int))
theorem Kas (s d bR:Nat)(T:TS)(w:World)(F G:Nat→Prop)(A:DS)(h:Zb w F d A)(cS:w.cell? ⟨s,0,none⟩=some (.pointer (some ⟨d,0,none⟩)))(dy:Jmg w G bR T)(dH:1≤T.types.length∧T.types.length≤6)(fh:T.rows≤200)(bh:1≤T.group)(fb:T.group≤64)(cT:T.segs.length=ckN T.rows T.group*T.types.length)(bJ:∀ l∈T.segs,l≠[]∧l.length≤1000)(cr:∀ l∈T.segs,∀ t,Uf A l=.inl t→t≠[]∧Kje t)(cD cE cF:Addr)(cJ:Jf0 w cD cE cF)(pg:Addr)(cP:w.cell? ⟨8,0,none⟩=some (.iface 435 (.pointer (some pg)))) :
  Calls prog 55 #[.pointer (some ⟨s,0,none⟩),.pointer (some ⟨bR,0,none⟩)] w fun e w'=>Ji1 w pg (Jfx A T.types T.segs (List.replicate T.types.length []) (cks T.rows T.group (ckN T.rows T.group))).1 e w':=by
 obtain⟨dQ,fo,da,db,hs,bu⟩:=dy
 obtain⟨fk,dc,dL,dd,dO⟩:=bu.field
 have dp:Hid (T.segs.length=ckN T.rows T.group*T.types.length):=cT
 have dE:=Ol5 (Oa2 (ckN T.rows T.group)) dH.2
 have dT:Hid (∀ l∈T.segs,l≠[]∧l.length≤1000):=bJ
 have dU:Hid (∀ l∈T.segs,∀ t,Uf A l=.inl t→t≠[]∧Kje t):=cr
 have du:Hid (∀ (y:World) (U:Option Addr) (Z:Nat) (l:List Nat) (typ:Int) (n:Nat),Below w.heap.size w y→l∈T.segs→Uh y U (l.map nv)→Calls prog 79 #[.pointer (some ⟨s,0,none⟩),.slice U l.length Z,.int .i64 typ,.int .i64 (n:Int)] y fun e w'=>Jl8 y pg (Us A l typ n) e w'):=
  fun y U Z l typ n O cn cH=>Jto s d U Z l typ n y F A (h.below O) (Ja O cS) cH (bJ l cn).1 (by have:=(bJ l cn).2;omega) (cr l cn) cD cE cF (cJ.below O) pg (Ja O cP)
 have cN:=Jiz T.types.length w (by omega)
 have fg:=run_neq_nil_nil (P:=prog)
 have dr:Hid (Kc w dQ T.types):=bu.types
 have dm:Hid (Jaf w G da hs T.segs∧T.segs.length≤db):=⟨bu.segs,bu.cap⟩
 clear cT bJ cr h cS cJ cP bu dE
 go_enter func55,ntmps55
 go_wp2_with (first|(go_at_call 78;refine cN.mono ?_;rintro e dV ⟨rfl,bI,bG⟩;have dK:=Ja bG dc;have dP:=Ja bG dO))
 clear cN dK dP
 go_loopw [7,8] (fun cv cf wr=>∃ (k f:Nat) (cs:List (List V)) (bQ:List Value) (bN:Option Addr) (bP:Nat) (cu:List (Option Addr×Nat)) (E:List (List Nat)),k≤ckN T.rows T.group∧Hid (f=k*T.group)∧f≤300∧cf=.int .i64 (f:Int)∧Hid ((Jfx A T.types T.segs (List.replicate T.types.length []) (cks T.rows T.group k)).1=.inl cs)∧Hid (cs.length=T.types.length)∧Hid (∀ j,(cs.getD j []).length≤f)∧Hid (T.segs.drop (k*T.types.length)=E)∧cv=.slice bN E.length bP∧Hid (Jaf w G bN cu E∧E.length≤bP)∧Jar wr w.heap.size w.heap.size bQ cs∧Below w.heap.size w wr) (fun _ cf _=>T.rows-(intOf cf).toNat)
 case atStart=>
  refine⟨0,0,_,_,da,db,hs,T.segs,Ob7 _,by show 0=_;simp,by omega,rfl,by show _=_;simp[cks,Jfx],by show _=_;simp,?_,by show _=_;simp,rfl,dm.out,bI,bG⟩
  intro j
  rw[Oa0,Of3]
  split<;>simp
 case round=>
  obtain⟨k,f,cs,bQ,bN,bP,cu,E,fd,bl,dZ,rfl,bU,cy,df,br,rfl,dq,bI,bx⟩:=hrel
  have fl:=Ja bx dc
  have dM:=Ja bx dL
  have dN:=Ja bx dd
  by_cases fe:f<T.rows
  ·have bV:Hid (k<ckN T.rows T.group):=by
    show _<_
    rcases Oc1 k (ckN T.rows T.group)with h|h
    ·exact h
    ·have h1:=Jcy (len:=T.rows) bh
     have h2:k=ckN T.rows T.group:=by omega
     rw[←h2,←bl.out]at h1
     omega
   obtain⟨m,bi⟩:∃ m,m=min T.group (T.rows-f):=⟨_,rfl⟩
   have cM:min (T.group:Int) ((T.rows:Int)-(f:Int))=(m:Int):=by omega
   have ff:m≤64:=by omega
   have bY:Hid (m=min T.group (T.rows-f)):=bi
   clear bi
   go_wp2
   refine wp_region_held_drew (S:=fun y=>y.cell? ⟨bR,3,none⟩=some (.int .i64 (T.group:Int))∧y.cell? ⟨bR,2,none⟩=some (.int .i64 (T.rows:Int))) (by kernel_rfl) ⟨dN,dM⟩ (fun K=>?_)
   refine tk 0 ?_ rfl K ?_ (tk 1 ?_ rfl K ?_ (tk 2 ?_ rfl K ?_ (tk 3 ?_ rfl K ?_ (tk 4 ?_ rfl K ?_ (tk 5 ?_ rfl K ?_ (tk 6 ?_ rfl K ?_ (tk 7 ?_ rfl K ?_ (tk 8 ?_ rfl K ?_ (tk 9 ?_ rfl K ?_ (tk 10 ?_ rfl K ?_ (tk 11 ?_ rfl K ?_ ?_)))))))))))
   iterate 12
    rotate_left 1
    ·intro w dx;(try dsimp only at dx);go_simp;try rfl
   simp only[Act.put,List.getElem_toArray,List.getElem_cons_zero,List.getElem_cons_succ,Oa1,List.set_cons_zero,List.set_cons_succ]
   refine wpAnyH_done (by kernel_rfl) ?_ _
   have cX:IntKind.i64.wrap ((T.rows:Int)-(f:Int))=(T.rows:Int)-(f:Int):=by rw[Od4];omega
   rw[cX,cM]
   clear cX cM
   have cz:Hid (T.types.length≤E.length):=by
    show _≤_
    rw[←br.out,Of7,dp.out]
    have h1:(k+1)*T.types.length≤ckN T.rows T.group*T.types.length:=Om8 _ bV.out
    rw[Of5]at h1
    omega
   have dj:Hid (∀ de∈E,de∈T.segs):=fun de cY=>by rw[←br.out]at cY;exact Oh7 cY
   clear K
   go_wp2
   go_loopw [7,52] (fun cv i wr=>∃ (c:Nat) (D:List (List V)) (ba:List Value) (bO:Option Addr) (bc:Nat) (bL:List (Option Addr×Nat)) (M:List (List Nat)),c≤T.types.length∧i=.int .i64 (c:Int)∧Hid (Jh3 A E T.types m cs c=.inl D)∧Hid (D.length=T.types.length)∧Hid (∀ j,(D.getD j []).length≤if j<c then f+m else f)∧Hid (E.drop c=M)∧cv=.slice bO M.length bc∧Hid (Jaf w G bO bL M∧M.length≤bc)∧Jar wr w.heap.size w.heap.size ba D∧Below w.heap.size w wr) (fun _ i _=>T.types.length-(intOf i).toNat)
   case atStart=>exact⟨0,cs,bQ,bN,bP,cu,E,Ob7 _,rfl,rfl,cy,fun j=>by rw[if_neg (Oe0 _)];exact df.out j,rfl,rfl,dq,bI.below (Oa5 _ _).drew,bx.drew⟩
   case round=>
    obtain⟨c,D,ba,bO,bc,bL,M,cH,rfl,bB,bW,bT,bn,rfl,bD,cI,R⟩:=hrel
    have fm:=Ja R dd
    by_cases bK:c<T.types.length
    ·obtain⟨b1,fj,rfl,bG,fu⟩:=Kc.at (dr.out.below R) bK
     have cQ:0<M.length:=by
      rw[←bn.out,Of7]
      have:=cz.out
      omega
     have dY:=bD.out.2
     obtain⟨b3,bj,U,Z,rfl,dW,dX,bS,cl,dB⟩:=bD.out.1.at cQ
     obtain⟨H,cK⟩:∃ H,M[0]=H:=⟨_,rfl⟩
     have bX:Hid (M[0]=H):=cK
     clear cK
     rw[bX.out]at bS cl
     rw[Nat.add_zero]at bS
     have dh:Hid (E.getD c []=H):=by
      show _=_
      rw[←bX.out]
      have ci:c<E.length:=by have:=cz.out;omega
      simp only[←bn.out,List.getElem_drop,Nat.add_zero,Oa0,Oa3 ci,Option.getD_some]
     have dk:Hid (H∈T.segs):=by
      apply dj.out
      have bi:=Ob3 cQ
      rw[bX.out]at bi
      have dD:H∈E.drop c:=by rw[bn.out];exact bi
      exact Oh7 dD
     have bE:Hid (∀ y,Below w.heap.size w y→Calls prog 79 #[.pointer (some ⟨s,0,none⟩),.slice U H.length Z,.int .i64 T.types[c],.int .i64 (m:Int)] y fun e w'=>Jl8 y pg (Us A H T.types[c] m) e w'):=fun y O=>du.out y U Z H _ m O dk.out (cl.below O)
     have bC:Hid (Jh3 A E T.types m cs (c+1)=match Us A H T.types[c] m with|.inr j=>.inr j|.inl vs=>.inl (D.set c (D.getD c []++vs))):=by
      show _=_
      simp only[Jh3,bB.out,dh.out]
      rw[show T.types.getD c 0=T.types[c] by simp[bK]]
      cases Us A H T.types[c] m<;>rfl
     have cb:Hid (∀ vs,Us A H T.types[c] m=.inl vs→vs.length=m):=fun vs cW=>Jnk cW
     have fv:=Ja R bS
     clear bS cl dB
     generalize Us A H T.types[c] m=dR at *
     rcases dR with vs|j
     ·have ca:Hid (∀ y,Below w.heap.size w y→Calls prog 79 #[.pointer (some ⟨s,0,none⟩),.slice U H.length Z,.int .i64 T.types[c],.int .i64 (m:Int)] y fun e w'=>Below y.heap.size y w'∧∃ b,e=.returned (.tuple #[.slice (some ⟨b,0,none⟩) vs.length vs.length,.nilIface])∧y.heap.size≤b∧Kv w' b vs []):=bE.out
      have cB:Hid (vs.length=m):=cb.out vs rfl
      have di:Hid (Jh3 A E T.types m cs (c+1)=.inl (D.set c (D.getD c []++vs))):=bC.out
      have bz:c<D.length:=by rw[bW.out];exact bK
      obtain⟨sv,bA⟩:∃ sv,Uq ba c=sv:=⟨_,rfl⟩
      have cA:Hid (Uq ba c=sv):=bA
      obtain⟨bf,bM⟩:∃ bf,D.getD c []=bf:=⟨_,rfl⟩
      have dt:Hid (D.getD c []=bf):=bM
      have cV:bf.length+vs.length≤1000000:=by rw[←bM,cB.out];have:=bT.out c;rw[if_neg (Oe3 _)]at this;omega
      have ds:Hid (bf.length+vs.length≤1000000):=cV
      have cC:Hid (∀ y,Jar y w.heap.size w.heap.size ba D→y.cell? ⟨w.heap.size,c,none⟩=some sv∧y.frozen? ⟨w.heap.size,c,none⟩=false∧Yt y w.heap.size sv bf):=fun y X=>by
       have:=X.row.cell (i:=c) (by rw[X.len];exact bz)
       rw[bA]at this
       have h2:=X.own c bz
       rw[bA,bM]at h2
       exact⟨this,X.row.frozen c,h2⟩
      have dv:Hid (∀ y Y,Jar y w.heap.size w.heap.size ba D→y.grownBy Y sv.ownBlock→Y.cell? ⟨w.heap.size,c,none⟩=some sv∧Y.frozen? ⟨w.heap.size,c,none⟩=false):=fun y Y X bh=>by
       have hn:=X.ne c bz
       rw[bA]at hn
       have O:=bh.block w.heap.size X.row.lt (fun e=>hn e.symm)
       obtain⟨h1,h2,_⟩:=cC.out y X
       exact⟨by rw[Oc3 O];exact h1,by rw[Ol7 O];exact h2⟩
      have dC:∃ bk,(bk=bj+1∨M.length≤1)∧(if bc=1 then (some ⟨b3,bj,none⟩:Option Addr)else some ⟨b3,bj+1,none⟩)=some ⟨b3,bk,none⟩:=by
       by_cases e:bc=1
       ·exact⟨bj,.inr (by omega),by rw[if_pos e]⟩
       exact⟨bj+1,.inl rfl,by rw[if_neg e]⟩
      obtain⟨bk,bZ,fc⟩:=dC
      replace bZ:Hid (bk=bj+1∨M.length≤1):=bZ
      clear bE bC bB cb bA bM cV
      go_wp2_with (first|(go_at_call 79;refine(ca.out _ R).mono ?_;rintro e cc ⟨bH,fp,rfl,fi,dG⟩;have cj:=cI.below bH;obtain⟨fq,fr,cO⟩:=cC.out cc cj;have ch:=Jb R bH)|(at_builtin;refine Jjs (by rfl) _ _ (by rfl) w.heap.size _ _ (by rfl) cO _ _ vs (by rfl) dG ds.out ch.size ?_;intro sv' dS cZ cx dJ;obtain⟨fs,ft⟩:=dv.out cc dS cj cx;obtain⟨dw,c5,cU,_⟩:=cZ.vals;rw[Oa8]at cU;subst cU))
      go_roundw
      case rel=>
       refine⟨c+1,D.set c (D.getD c []++vs),ba.set c (.slice dw (bf.length+vs.length) c5),some ⟨b3,bk,none⟩,bc-1,bL.drop 1,M.drop 1,by omega,by go_num,di,by show _=_;rw[Of8];exact bW.out,fun j=>?_,by show _=_;rw[←bn.out,List.drop_drop],by simp,⟨bD.out.1.tail bk bZ.out,by rw[Of7];omega⟩,cj.put bz (by rw[dt.out];exact cZ) (by rw[cA.out];exact cx) (by rw[cA.out];exact dJ),(ch.grown cx ch.size (fun g bh=>(Je cO bh).1)).setCell (p:=⟨w.heap.size,c,none⟩) (Oa2 _) _⟩
       rw[Jyj bz]
       have bb:=bT.out j
       have cW:=cB.out
       by_cases e:j=c
       ·subst e
        rw[if_neg (Oe3 _)]at bb
        rw[if_pos rfl,if_pos (by omega),Oa8]
        omega
       rw[if_neg e]
       by_cases cG:j<c
       ·rw[if_pos cG]at bb;rw[if_pos (by omega)];exact bb
       rw[if_neg cG]at bb;rw[if_neg (by omega)];exact bb
      case measure=>simp[intOf];omega
     have ca:Hid (∀ y,Below w.heap.size w y→Calls prog 79 #[.pointer (some ⟨s,0,none⟩),.slice U H.length Z,.int .i64 T.types[c],.int .i64 (m:Int)] y fun e w'=>Below y.heap.size y w'∧∃ b,e=.returned (.tuple #[.slice none 0 0,.iface 160 (.pointer (some ⟨b,0,none⟩))])∧y.heap.size≤b∧Yu w' (.iface 160 (.pointer (some ⟨b,0,none⟩))) pg none (some (j:Int))):=bE.out
     have dg:Hid ((Jfx A T.types T.segs (List.replicate T.types.length []) (cks T.rows T.group (ckN T.rows T.group))).1=.inr j):=by
      show _=_
      obtain⟨fw,dI⟩:=Jvd T.rows T.group (k+1) _ bV.out
      rw[dI]
      refine Kel A T.types T.segs _ _ _ _ ?_
      rw[Jbj,Ji5]
      simp only[Jpn,bU.out,Ji2,Jbp,br.out]
      refine Kd4 A E T.types _ cs j (c+1) _ ?_ bK
      have:=bC.out
      rw[bY.out,bl.out]at this
      exact this
     clear bE bC bB cb
     go_wp2_with (first|(go_at_call 79;refine(ca.out _ R).mono ?_;rintro e cc ⟨bH,be,rfl,dz,dA⟩))
     go_ret2
     rw[dg.out]
     exact⟨Jb R bH,be,rfl,Ob2 R.size dz,dA⟩
    obtain rfl:c=T.types.length:=by omega
    go_wp2
    go_roundw
    case rel=>
     refine⟨k+1,f+T.group,D,ba,bO,bc,bL,M,bV.out,by show _=_;rw[Of5,bl.out],by omega,by go_num,?_,bW,fun j=>?_,?_,rfl,bD,cI,R⟩
     ·show _=_
      rw[Jbj,Ji5]
      simp only[Jpn,bU.out,Ji2,Jbp,br.out]
      have:=bB.out
      rw[bY.out,bl.out]at this
      exact this
     ·have bb:=bT.out j
      have bi:=bY.out
      split at bb<;>omega
     show _=_
     rw[←bn.out,←br.out,List.drop_drop,Of5]
    case measure=>simp[intOf];omega
  obtain⟨_,rfl⟩:True∧k=ckN T.rows T.group:=by
   refine⟨trivial,?_⟩
   rcases Oc1 k (ckN T.rows T.group)with h|h
   ·have:=Jqs bh h
    rw[←bl.out]at this
    omega
   ·omega
  have ci:=cy.out
  go_wp2
  go_ret2
  rw[bU.out]
  rw[←ci]
  exact⟨bx,_,bQ,rfl,bI⟩
theorem Jlg (g n cap:Nat)(a:Option Addr)(l c:Nat)(w:World)(hn:1≤n)(h0:w.cell? ⟨g,0,none⟩=some (.slice a l c)) :
  Calls prog 54 #[.slice (some ⟨g,0,none⟩) n cap] w fun e w'=>e=.returned (.int .i64 (l:Int))∧w'=w:=by
 have q:((n:Int)==0)=false:=by rw[beq_eq_false_iff_ne];omega
 go_enter func54,ntmps54
 go_wp2
 go_ret
 exact⟨rfl,rfl⟩
def Ji (cs:List (List V))(j:Nat):List V:=cs.map fun c=>c.getD j Jf
theorem Yk (cs:List (List V))(j:Nat):(Ji cs j).length=cs.length:=by simp[Ji]
theorem Jge (n:Nat)(cs:List (List V))(j:Nat)(y:j<n):(Qf n cs)[j]?=some (Ji cs j):=by simp[Qf,Ji,y]
theorem Jk1 (L:List V)(c n:Nat)(E:L.length=n)(D:c<n):(L.take c++List.replicate (n-c) Jf).set c L[c]=L.take (c+1)++List.replicate (n-(c+1)) Jf:=by
 obtain⟨d,y⟩:∃ d,n-c=d+1:=⟨n-c-1,by omega⟩
 have A:n-(c+1)=d:=by omega
 rw[y,A,List.replicate_succ,Ok4 _ _ (by rw[Oc7];omega)]
 rw[Oc7,Oj1 (by omega),Oe1,List.set_cons_zero,Jec L c (by omega),Od8]
 rfl
theorem Jo4 (g cap:Nat)(bz:List Value)(cs:List (List V))(n:Nat)(w:World)(br:w.rowIs g 54 bz.length (Uq bz))(U:bz.length=cs.length)(bb:∀ i,i<cs.length→∃ a c,Uq bz i=.slice a (cs.getD i []).length c∧Jv w a (cs.getD i []))(R:∀ i,i<cs.length→(cs.getD i []).length=n)(h1:1≤cs.length)(h2:cs.length≤1000)(hn:n≤10000) :
  Calls prog 36 #[.slice (some ⟨g,0,none⟩) cs.length cap] w fun e w'=>e=.returned (.slice (some ⟨w.heap.size,0,none⟩) n n)∧(∃ bs,Jcu w' w.heap.size w.heap.size bs (Qf n cs))∧Below w.heap.size w w':=by
 have cz:∀ W,(Instr.makeSlice 23 (.int .i64 (n:Int)) (.int .i64 (n:Int))).run prog W=.ok (.slice (some ⟨W.heap.size,0,none⟩) n n) (W.alloc (.cells (madeCells #[.slice none 0 0] n) 55)):=
  fun W=>run_make_row' 23 55 (.slice none 0 0) 24 (by kernel_rfl) Jip rfl .i64 .i64 n (by omega) (by omega) W
 have bC:=br.cell (i:=0) (by omega)
 obtain⟨cc,cf,bS,_⟩:=bb 0 (by omega)
 rw[bS,R 0 (by omega)]at bC
 have X:=Jlg g cs.length cap cc n cf w h1 bC
 have cu:=br.lt
 have bW:Hid (∀ (W:World) (i k:Nat) (hi:i<cs.length) (bD:k<n),Below w.heap.size w W→∃ b o bx,W.cell? ⟨g,i,none⟩=some (.slice (some ⟨b,o,none⟩) n bx)∧b<w.heap.size∧VAt W b (o+k*3) ((Ji cs k)[i]'(by rw[Yk];exact hi))):=fun W i k hi bD A=>by
  obtain⟨a,bx,K,H⟩:=bb i hi
  have bE:k<(cs.getD i []).length:=by rw[R i hi];exact bD
  obtain⟨b,o,rfl,cK,cE⟩:=(H.below A).at bE
  obtain⟨cH,cN,bT,cr,_⟩:=H.at bE
  simp at bT
  obtain⟨rfl,rfl⟩:=bT
  refine⟨b,o,bx,?_,cr,?_⟩
  ·rw[A.cell (p:=⟨g,i,none⟩) cu,br.cell (by omega),K,R i hi]
  have e:cs.getD i []=cs[i]:=by rw[Oa0,Oa3 hi];rfl
  have cx:k<cs[i].length:=by rw[←e];exact bE
  have H:(cs.getD i [])[k]=cs[i][k]:=by simp only[e]
  have:(Ji cs k)[i]'(by rw[Yk];exact hi)=(cs.getD i [])[k]:=by
   rw[H]
   simp only[Ji,Od9]
   rw[Oa0,Oa3 cx]
   rfl
  rw[this]
  exact cE
 clear bb R bC bS br U
 go_enter func36,ntmps36
 go_wp2_with (first|(go_at_call 54;refine X.mono ?_;rintro e cb ⟨rfl,cI⟩;subst cb))
 clear cz X
 go_loopw [12] (fun i wr=>∃ (k:Nat) (bs:List Nat),k≤n∧i=.int .i64 k∧Hid (bs.length=k)∧wr.rowIs w.heap.size 55 n (fun j=>if j<k then .slice (some ⟨bs.getD j 0,0,none⟩) cs.length cs.length else .slice none 0 0)∧Hid (∀ j b,bs[j]?=some b→Kv wr b (Ji cs j) []∧w.heap.size<b)∧Hid bs.Nodup∧Below w.heap.size w wr) (fun i _=>n-(intOf i).toNat)
 case atStart=>exact⟨0,[],by omega,rfl,rfl,(Ol3 _ _ _ _).congr (fun j _=>by simp),fun j b h=>by simp at h,List.nodup_nil,(Oa5 _ _).alloc (Oa2 _) _⟩
 case round=>
  obtain⟨k,bs,bD,rfl,bc,M,bf,bQ,bi⟩:=hrel
  obtain⟨y,O⟩:∃ y,y=wr:=⟨_,rfl⟩
  subst O
  have cM:=M.lt
  by_cases bH:k<n
  ·obtain⟨C,cy,bI⟩:=Jtn cs.length h2 y
   have c1:=M.cell bH
   have c2:=M.frozen k
   simp only[Oe3,if_false]at c1
   go_wp2
   clear cy c1 c2
   have bB:=bi.setCell (p:=⟨w.heap.size,k,none⟩) (Oa2 _) (.slice (some ⟨y.heap.size,0,none⟩) cs.length cs.length)
   have ba:(y.setCell ⟨w.heap.size,k,none⟩ (.slice (some ⟨y.heap.size,0,none⟩) cs.length cs.length)).heap.size=y.heap.size:=by simp[World.setCell]
   go_loopw [23] (fun i wr=>∃ c:Nat,c≤cs.length∧i=.int .i64 c∧Kv wr y.heap.size ((Ji cs k).take c++List.replicate (cs.length-c) Jf) []∧wr.rowIs w.heap.size 55 n (fun j=>if j=k then .slice (some ⟨y.heap.size,0,none⟩) cs.length cs.length else if j<k then .slice (some ⟨bs.getD j 0,0,none⟩) cs.length cs.length else .slice none 0 0)∧Hid (∀ x,x<y.heap.size→x≠w.heap.size→wr.heap[x]?=y.heap[x]?)∧y.heap.size<wr.heap.size∧Below w.heap.size w wr) (fun i _=>cs.length-(intOf i).toNat)
   case atStart=>
    obtain⟨cG,K,H⟩:=bI
    rw[heap_alloc_new]at K
    simp at K
    subst K
    refine⟨0,Ob7 _,rfl,⟨C,?_,by simpa using H⟩,(M.set k _).alloc _,fun x bJ bK=>?_,by rw[Oa7,ba];omega,Jc bB _⟩
    ·have:=heap_alloc_new (y.setCell ⟨w.heap.size,k,none⟩ (.slice (some ⟨y.heap.size,0,none⟩) cs.length cs.length)) (.cells C 63)
     rw[ba]at this
     exact this
    rw[Oa9 _ _ x (by rw[ba];exact bJ),Oa4 _ _ _ _ bK]
   case round=>
    obtain⟨c,R,rfl,bn,bk,bR,cD,bA⟩:=hrel
    have bP:Hid (wr.rowIs w.heap.size 55 n (fun j=>if j=k then .slice (some ⟨y.heap.size,0,none⟩) cs.length cs.length else if j<k then .slice (some ⟨bs.getD j 0,0,none⟩) cs.length cs.length else .slice none 0 0)):=bk
    by_cases bj:c<cs.length
    ·obtain⟨b2,bL,bx,cQ,cJ,bM,bN,bO⟩:=bW.out wr c k bj bH bA
     have bG:=bk.cell bH
     simp only[if_true]at bG
     have cA:c<(Ji cs k).length:=by rw[Yk];exact bj
     have X:((Ji cs k).take c++List.replicate (cs.length-c) Jf).length=cs.length:=by
      rw[Oa8,Oc7,Yk,Od6];omega
     obtain⟨cO,⟨c0,ch⟩,⟨c1,K⟩,⟨c2,H⟩,bu⟩:=bn.put (Ji cs k)[c] c (by rw[X];exact bj)
     rw[Jk1 (Ji cs k) c cs.length (Yk _ _) bj]at bu
     generalize (Ji cs k)[c]=v at bM bN bO bu
     have bZ:Hid (Kv (((wr.setCell ⟨y.heap.size,c*3,none⟩ (.int .i64 v.k)).setCell ⟨y.heap.size,c*3+1,none⟩ (.int .i64 v.n)).setCell ⟨y.heap.size,c*3+2,none⟩ (.string v.s)) y.heap.size ((Ji cs k).take (c+1)++List.replicate (cs.length-(c+1)) Jf) []):=bu
     have O:=bi.size
     clear bu X cA bk M bI bB ba
     go_wp2
     refine wp_region_held_drew (S:=fun bh=>bh.cell? ⟨w.heap.size,k,none⟩=some (.slice (some ⟨y.heap.size,0,none⟩) cs.length cs.length)∧bh.cell? ⟨b2,bL+k*3,none⟩=some (.int .i64 v.k)∧bh.cell? ⟨b2,bL+k*3+1,none⟩=some (.int .i64 v.n)∧bh.cell? ⟨b2,bL+k*3+2,none⟩=some (.string v.s)) (by kernel_rfl) ⟨bG,bM,bN,bO⟩ (fun D=>?_)
     refine tk 0 ?_ rfl D ?_ (tk 1 ?_ rfl D ?_ (tk 2 ?_ rfl D ?_ (tk 3 ?_ rfl D ?_ (tk 4 ?_ rfl D ?_ (tk 5 ?_ rfl D ?_ (tk 6 ?_ rfl D ?_ (tk 7 ?_ rfl D ?_ (tk 8 ?_ rfl D ?_ (tk 9 ?_ rfl D ?_ ?_)))))))))
     iterate 10
      rotate_left 1
      ·intro w cj;(try dsimp only at cj);go_simp;try rfl
     simp only[Act.put,List.getElem_toArray,List.getElem_cons_zero,List.getElem_cons_succ,Oa1,List.set_cons_zero,List.set_cons_succ]
     refine wpAnyH_ready (rs:=[10]) (by kernel_rfl) (by simp) (AllReadyH.cons rfl (fun ca bU=>?_) AllReadyH.nil)
     go_simp
     have Z:∀ (b o:Nat) (u:Value),b≠y.heap.size→wr.cell? ⟨b,o,none⟩=some u→(((wr.setCell ⟨y.heap.size,c*3,none⟩ (.int .i64 v.k)).setCell ⟨y.heap.size,c*3+1,none⟩ (.int .i64 v.n)).setCell ⟨y.heap.size,c*3+2,none⟩ (.string v.s)).cell? ⟨b,o,none⟩=some u:=fun b o u A bb=>by
      rw[Ob5 _ _ _ _ (by first|(simp;done)|(simp;omega)),Ob5 _ _ _ _ (by first|(simp;done)|(simp;omega)),Ob5 _ _ _ _ (by first|(simp;done)|(simp;omega))];exact bb
     refine bU.out _ _ ⟨Z _ _ _ (by omega) bG,Z _ _ _ (by omega) bM,Z _ _ _ (by omega) bN,Z _ _ _ (by omega) bO⟩ (fun ci=>?_)
     clear bU ca Z D ci c0 ch c1 K c2 H
     refine wpAnyH_done (by kernel_rfl) ?_ _
     have cB:Hid ((((wr.setCell ⟨y.heap.size,c*3,none⟩ (.int .i64 v.k)).setCell ⟨y.heap.size,c*3+1,none⟩ (.int .i64 v.n)).setCell ⟨y.heap.size,c*3+2,none⟩ (.string v.s)).rowIs w.heap.size 55 n (fun j=>if j=k then .slice (some ⟨y.heap.size,0,none⟩) cs.length cs.length else if j<k then .slice (some ⟨bs.getD j 0,0,none⟩) cs.length cs.length else .slice none 0 0)):=
      ((bP.out.setOther (a:=⟨y.heap.size,c*3,none⟩) (by show w.heap.size≠y.heap.size;omega) _).setOther (a:=⟨y.heap.size,c*3+1,none⟩) (by show w.heap.size≠y.heap.size;omega) _).setOther (a:=⟨y.heap.size,c*3+2,none⟩) (by show w.heap.size≠y.heap.size;omega) _
     have cn:Below w.heap.size w (((wr.setCell ⟨y.heap.size,c*3,none⟩ (.int .i64 v.k)).setCell ⟨y.heap.size,c*3+1,none⟩ (.int .i64 v.n)).setCell ⟨y.heap.size,c*3+2,none⟩ (.string v.s)):=
      ((bA.setCell (p:=⟨y.heap.size,c*3,none⟩) O _).setCell (p:=⟨y.heap.size,c*3+1,none⟩) O _).setCell (p:=⟨y.heap.size,c*3+2,none⟩) O _
     have bX:Hid (∀ x,x<y.heap.size→x≠w.heap.size→(((wr.setCell ⟨y.heap.size,c*3,none⟩ (.int .i64 v.k)).setCell ⟨y.heap.size,c*3+1,none⟩ (.int .i64 v.n)).setCell ⟨y.heap.size,c*3+2,none⟩ (.string v.s)).heap[x]?=y.heap[x]?):=fun x bJ bK=>by
      rw[Oa4 _ _ _ _ (by show x≠y.heap.size;omega),Oa4 _ _ _ _ (by show x≠y.heap.size;omega),Oa4 _ _ _ _ (by show x≠y.heap.size;omega)];exact bR.out x bJ bK
     have cC:y.heap.size<(((wr.setCell ⟨y.heap.size,c*3,none⟩ (.int .i64 v.k)).setCell ⟨y.heap.size,c*3+1,none⟩ (.int .i64 v.n)).setCell ⟨y.heap.size,c*3+2,none⟩ (.string v.s)).heap.size:=by simp[World.setCell];exact cD
     generalize ((wr.setCell ⟨y.heap.size,c*3,none⟩ (.int .i64 v.k)).setCell ⟨y.heap.size,c*3+1,none⟩ (.int .i64 v.n)).setCell ⟨y.heap.size,c*3+2,none⟩ (.string v.s)=cP at *
     go_wp2
     go_roundw
     case rel=>exact⟨c+1,by omega,by go_num,bZ.out,cB.out,bX.out,cC,cn.drew⟩
     case measure=>simp[intOf];omega
    obtain rfl:c=cs.length:=by omega
    rw[Oe1,List.replicate_zero,Od7,Oc8 (by rw[Yk];exact Oa2 _)]at bn
    have bY:Hid (Kv wr y.heap.size (Ji cs k) []):=bn
    have O:=bi.size
    clear bn bk M bI bB ba
    go_wp2
    go_roundw
    case rel=>
     refine⟨k+1,bs++[y.heap.size],by omega,by go_num,by show _=_;rw[Oa8,bc.out];rfl,bP.out.congr fun j E=>?_,fun j b A=>?_,?_,bA⟩
     ·have U:=bc.out
      by_cases e:j=k
      ·subst e
       simp[U]
      by_cases h1:j<k
      ·have h2:j<k+1:=by omega
       simp[e,h1,h2,List.getElem?_append_left (show j<bs.length by omega)]
      have h2:¬ j<k+1:=by omega
      simp[e,h1,h2]
     ·by_cases e:j<bs.length
      ·rw[Ob0 e]at A
       obtain⟨bV,cF⟩:=bf.out j b A
       exact⟨bV.of_block (bR.out b bV.lt (by omega)),cF⟩
      have U:=bc.out
      have E:j=k:=by
       have:=(Ob9.1 A).1
       simp at this
       omega
      subst E
      rw[←U,Ob6 (Oa2 _),Oe1]at A
      simp at A
      subst A
      exact⟨bY.out,by omega⟩
     show (bs++[y.heap.size]).Nodup
     rw[Op3]
     refine⟨bQ.out,by simp,fun a cl b A=>?_⟩
     simp at A
     subst A
     obtain⟨j,E,rfl⟩:=Od5 cl
     have:=(bf.out j _ (Oa3 E)).1.lt
     omega
    case measure=>simp[intOf];omega
  obtain rfl:k=n:=by omega
  go_wp2
  go_ret
  refine⟨rfl,⟨bs,by rw[Uu];exact bc.out,?_,?_,⟨Oa2 _,fun b A=>?_⟩,bQ.out⟩,bi⟩
  ·rw[Uu]
   refine M.congr fun j E=>?_
   rw[if_pos E]
   unfold Jad
   rw[Oa0 (l:=Qf k cs),Jge k cs j E]
   simp only[Option.getD_some,Yk]
  ·intro i b r hi bl
   have cv:i<k:=by
    have:=(Ob9.1 bl).1
    rw[Uu]at this
    exact this
   rw[Jge k cs i cv]at bl
   simp at bl
   subst bl
   exact(bf.out i b hi).1
  obtain⟨j,E,rfl⟩:=Od5 A
  have:=(bf.out j _ (Oa3 E)).2
  omega
end Go.Proofs.YtdlgbphkaicfaaaGreatDoor
