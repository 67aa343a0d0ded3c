/- A table read from the disk, column by column; the columns told as rows. -/
import Derived.Test.YtcaocabmioafcaaGreatDoorTk
set_option maxHeartbeats 4000000
set_option maxRecDepth 100000
namespace Go.Proofs.YtcaocabmioafcaaGreatDoor
open Go.RowKit Go.Shelf Tryz
attribute [local go_sem] Oc0
theorem Jps:(prog.info? 56).map (fun i=>(i.zero,i.size,i.bytes))=some (some (.slice none 0 0),1,24):=by kernel_rfl
theorem Jiz (n:Nat)(w:World)(L:n≤1000) :
  Calls prog 141 #[.int .i64 (n:Int)] w fun e w'=>e=.returned (.slice (some ⟨w.heap.size,0,none⟩) n n)∧Jar w' w.heap.size w.heap.size (List.replicate n (.slice none 0 0)) (List.replicate n [])∧Below w.heap.size w w':=by
 have K:∀ W,(Instr.makeSlice 161 (.int .i64 (n:Int)) (.int .i64 (n:Int))).run prog W=.ok (.slice (some ⟨W.heap.size,0,none⟩) n n) (W.alloc (.cells (madeCells #[.slice none 0 0] n) 56)):=
  fun W=>run_make_row' 161 56 (.slice none 0 0) 24 (by kernel_rfl) Jps rfl .i64 .i64 n (by omega) (by omega) W
 go_enter func141,ntmps141
 go_wp2
 go_ret
 have A:∀ i,Uq (List.replicate n (.slice none 0 0)) i=.slice none 0 0:=fun i=>by
  unfold Uq
  rw[Oa0,Of3]
  split<;>rfl
 refine⟨rfl,⟨?_,Oa2 _,by simp,fun i hi=>?_,fun i hi=>?_,fun i j b hi J I H=>?_⟩,(Oa5 _ _).alloc (Oa2 _) _⟩
 ·rw[Od6]
  exact(Ol3 _ _ _ _).congr fun j _=>(A j).symm
 ·rw[A,Oa0,Of3]
  split<;>exact Yt.nil _ _
 ·rw[A];simp[Value.ownBlock]
 rw[A]at H;simp[Value.ownBlock]at H
def Ji1 (w:World)(pg:Addr)(r:List (List V)⊕Nat)(e:Ending)(w':World):Prop:=
 Below w.heap.size w w'∧match r with
  |.inl cs=>∃ g A,e=.returned (.tuple #[.slice (some ⟨g,0,none⟩) cs.length cs.length,.nilIface])∧Jar w' w.heap.size g A cs
  |.inr j=>∃ b,e=.returned (.tuple #[.slice none 0 0,.iface 211 (.pointer (some ⟨b,0,none⟩))])∧w.heap.size≤b∧Yu w' (.iface 211 (.pointer (some ⟨b,0,none⟩))) pg none (some (j:Int))
theorem Kas (s d bQ:Nat)(T:TS)(w:World)(F G:Nat→Prop)(D:DS)(h:Zb w F d D)(cR:w.cell? ⟨s,0,none⟩=some (.pointer (some ⟨d,0,none⟩)))(du:Jmg w G bQ T)(dC:1≤T.types.length∧T.types.length≤6)(fb:T.rows≤200)(bc:1≤T.group)(dW:T.group≤64)(cS:T.segs.length=ckN T.rows T.group*T.types.length)(bI:∀ l∈T.segs,l≠[]∧l.length≤1000)(cn:∀ l∈T.segs,∀ t,Uf D l=.inl t→t≠[]∧Kje t)(cD cE cF:Addr)(cJ:Jf0 w cD cE cF)(pg:Addr)(cP:w.cell? ⟨6,0,none⟩=some (.iface 528 (.pointer (some pg)))) :
  Calls prog 105 #[.pointer (some ⟨s,0,none⟩),.pointer (some ⟨bQ,0,none⟩)] w fun e w'=>Ji1 w pg (Jfx D T.types T.segs (List.replicate T.types.length []) (cks T.rows T.group (ckN T.rows T.group))).1 e w':=by
 obtain⟨dM,fg,cZ,da,hs,bn⟩:=du
 obtain⟨fd,db,dH,dc,dK⟩:=bn.field
 have dl:Hid (T.segs.length=ckN T.rows T.group*T.types.length):=cS
 have dA:=Ol5 (Oa2 (ckN T.rows T.group)) dC.2
 have dP:Hid (∀ l∈T.segs,l≠[]∧l.length≤1000):=bI
 have dQ:Hid (∀ l∈T.segs,∀ t,Uf D l=.inl t→t≠[]∧Kje t):=cn
 have dr:Hid (∀ (A:World) (O:Option Addr) (U:Nat) (l:List Nat) (typ:Int) (n:Nat),Below w.heap.size w A→l∈T.segs→Uh A O (l.map nv)→Calls prog 142 #[.pointer (some ⟨s,0,none⟩),.slice O l.length U,.int .i64 typ,.int .i64 (n:Int)] A fun e w'=>Jl8 A pg (Us D l typ n) e w'):=
  fun A O U l typ n M cl cH=>Jto s d O U l typ n A F D (h.below M) (Ja M cR) cH (bI l cl).1 (by have:=(bI l cl).2;omega) (cn l cl) cD cE cF (cJ.below M) pg (Ja M cP)
 have cN:=Jiz T.types.length w (by omega)
 have fa:=run_neq_nil_nil (P:=prog)
 have dn:Hid (Kc w dM T.types):=bn.types
 have dk:Hid (Jaf w G cZ hs T.segs∧T.segs.length≤da):=⟨bn.segs,bn.cap⟩
 clear cS bI cn h cR cJ cP bn dA
 go_enter func105,ntmps105
 go_wp2_with (first|(go_at_call 141;refine cN.mono ?_;rintro e dR ⟨rfl,bH,bE⟩;have dG:=Ja bE db;have dL:=Ja bE dK))
 clear cN dG dL
 go_loopw [7,8] (fun cv cc wr=>∃ (k f:Nat) (cs:List (List V)) (bP:List Value) (bM:Option Addr) (bO:Nat) (cu:List (Option Addr×Nat)) (I:List (List Nat)),k≤ckN T.rows T.group∧Hid (f=k*T.group)∧f≤300∧cc=.int .i64 (f:Int)∧Hid ((Jfx D T.types T.segs (List.replicate T.types.length []) (cks T.rows T.group k)).1=.inl cs)∧Hid (cs.length=T.types.length)∧Hid (∀ j,(cs.getD j []).length≤f)∧Hid (T.segs.drop (k*T.types.length)=I)∧cv=.slice bM I.length bO∧Hid (Jaf w G bM cu I∧I.length≤bO)∧Jar wr w.heap.size w.heap.size bP cs∧Below w.heap.size w wr) (fun _ cc _=>T.rows-(intOf cc).toNat)
 case atStart=>
  refine⟨0,0,_,_,cZ,da,hs,T.segs,Ob7 _,by show 0=_;simp,by omega,rfl,by show _=_;simp[cks,Jfx],by show _=_;simp,?_,by show _=_;simp,rfl,dk.out,bH,bE⟩
  intro j
  rw[Oa0,Of3]
  split<;>simp
 case round=>
  obtain⟨k,f,cs,bP,bM,bO,cu,I,hk,bi,dV,rfl,bT,cy,de,bk,rfl,dm,bH,br⟩:=hrel
  have fe:=Ja br db
  have dI:=Ja br dH
  have dJ:=Ja br dc
  by_cases dY:f<T.rows
  ·have bU:Hid (k<ckN T.rows T.group):=by
    show _<_
    rcases Oc1 k (ckN T.rows T.group)with h|h
    ·exact h
    ·have bl:=Jcy (len:=T.rows) bc
     have bb:k=ckN T.rows T.group:=by omega
     rw[←bb,←bi.out]at bl
     omega
   obtain⟨m,bf⟩:∃ m,m=min T.group (T.rows-f):=⟨_,rfl⟩
   have cL:min (T.group:Int) ((T.rows:Int)-(f:Int))=(m:Int):=by omega
   have dZ:m≤64:=by omega
   have bX:Hid (m=min T.group (T.rows-f)):=bf
   clear bf
   go_wp2
   refine wp_region_held_drew (S:=fun A=>A.cell? ⟨bQ,3,none⟩=some (.int .i64 (T.group:Int))∧A.cell? ⟨bQ,2,none⟩=some (.int .i64 (T.rows:Int))) (by kernel_rfl) ⟨dJ,dI⟩ (fun K=>?_)
   refine Kn 0 rfl K ?_
   refine Kn 1 rfl K ?_
   refine Kn 2 rfl K ?_
   refine Kn 3 rfl K ?_
   refine Kn 4 rfl K ?_
   refine Kn 5 rfl K ?_
   refine Kn 6 rfl K ?_
   refine Kn 7 rfl K ?_
   refine Kn 8 rfl K ?_
   refine Kn 9 rfl K ?_
   refine Kn 10 rfl K ?_
   refine Kn 11 rfl K ?_
   refine tkn ?_
   refine wpAnyH_done (by kernel_rfl) ?_ _
   have cW:IntKind.i64.wrap ((T.rows:Int)-(f:Int))=(T.rows:Int)-(f:Int):=by rw[Od4];omega
   rw[cW,cL]
   clear cW cL
   have cz:Hid (T.types.length≤I.length):=by
    show _≤_
    rw[←bk.out,Of7,dl.out]
    have bl:(k+1)*T.types.length≤ckN T.rows T.group*T.types.length:=Om8 _ bU.out
    rw[Of5]at bl
    omega
   have di:Hid (∀ y∈I,y∈T.segs):=fun y cX=>by rw[←bk.out]at cX;exact Oh7 cX
   clear K
   go_wp2
   go_loopw [7,52] (fun cv i wr=>∃ (c:Nat) (H:List (List V)) (X:List Value) (bN:Option Addr) (Z:Nat) (bK:List (Option Addr×Nat)) (L:List (List Nat)),c≤T.types.length∧i=.int .i64 (c:Int)∧Hid (Jh3 D I T.types m cs c=.inl H)∧Hid (H.length=T.types.length)∧Hid (∀ j,(H.getD j []).length≤if j<c then f+m else f)∧Hid (I.drop c=L)∧cv=.slice bN L.length Z∧Hid (Jaf w G bN bK L∧L.length≤Z)∧Jar wr w.heap.size w.heap.size X H∧Below w.heap.size w wr) (fun _ i _=>T.types.length-(intOf i).toNat)
   case atStart=>exact⟨0,cs,bP,bM,bO,cu,I,Ob7 _,rfl,rfl,cy,fun j=>by rw[if_neg (Oe0 _)];exact de.out j,rfl,rfl,dm,bH.below (Oa5 _ _).drew,br.drew⟩
   case round=>
    obtain⟨c,H,X,bN,Z,bK,L,cH,rfl,bz,bV,bS,bj,rfl,bB,cI,N⟩:=hrel
    have ff:=Ja N dc
    by_cases bJ:c<T.types.length
    ·obtain⟨b1,o1,rfl,bE,fm⟩:=Kc.at (dn.out.below N) bJ
     have cQ:0<L.length:=by
      rw[←bj.out,Of7]
      have:=cz.out
      omega
     have dU:=bB.out.2
     obtain⟨b3,o3,O,U,rfl,dS,dT,bR,ck,dx⟩:=bB.out.1.at cQ
     obtain⟨J,cK⟩:∃ J,L[0]=J:=⟨_,rfl⟩
     have bW:Hid (L[0]=J):=cK
     clear cK
     rw[bW.out]at bR ck
     rw[Nat.add_zero]at bR
     have dg:Hid (I.getD c []=J):=by
      show _=_
      rw[←bW.out]
      have ci:c<I.length:=by have:=cz.out;omega
      simp only[←bj.out,List.getElem_drop,Nat.add_zero,Oa0,Oa3 ci,Option.getD_some]
     have dj:Hid (J∈T.segs):=by
      apply di.out
      have bf:=Ob3 cQ
      rw[bW.out]at bf
      have dz:J∈I.drop c:=by rw[bj.out];exact bf
      exact Oh7 dz
     have bC:Hid (∀ A,Below w.heap.size w A→Calls prog 142 #[.pointer (some ⟨s,0,none⟩),.slice O J.length U,.int .i64 T.types[c],.int .i64 (m:Int)] A fun e w'=>Jl8 A pg (Us D J T.types[c] m) e w'):=fun A M=>dr.out A O U J _ m M dj.out (ck.below M)
     have bA:Hid (Jh3 D I T.types m cs (c+1)=match Us D J T.types[c] m with|.inr j=>.inr j|.inl vs=>.inl (H.set c (H.getD c []++vs))):=by
      show _=_
      simp only[Jh3,bz.out,dg.out]
      rw[show T.types.getD c 0=T.types[c] by simp[bJ]]
      all_goals cases Us D J T.types[c] m<;>rfl
     have ca:Hid (∀ vs,Us D J T.types[c] m=.inl vs→vs.length=m):=fun vs cV=>Jnk cV
     have fn:=Ja N bR
     clear bR ck dx
     generalize Us D J T.types[c] m=dN at *
     rcases dN with vs|j
     ·have bZ:Hid (∀ A,Below w.heap.size w A→Calls prog 142 #[.pointer (some ⟨s,0,none⟩),.slice O J.length U,.int .i64 T.types[c],.int .i64 (m:Int)] A fun e w'=>Below A.heap.size A w'∧∃ b,e=.returned (.tuple #[.slice (some ⟨b,0,none⟩) vs.length vs.length,.nilIface])∧A.heap.size≤b∧Kv w' b vs []):=bC.out
      have cB:Hid (vs.length=m):=ca.out vs rfl
      have dh:Hid (Jh3 D I T.types m cs (c+1)=.inl (H.set c (H.getD c []++vs))):=bA.out
      have bu:c<H.length:=by rw[bV.out];exact bJ
      obtain⟨sv,bx⟩:∃ sv,Uq X c=sv:=⟨_,rfl⟩
      have cA:Hid (Uq X c=sv):=bx
      obtain⟨ba,bL⟩:∃ ba,H.getD c []=ba:=⟨_,rfl⟩
      have dq:Hid (H.getD c []=ba):=bL
      have cU:ba.length+vs.length≤1000000:=by rw[←bL,cB.out];have:=bS.out c;rw[if_neg (Oe3 _)]at this;omega
      have dp:Hid (ba.length+vs.length≤1000000):=cU
      have cC:Hid (∀ A,Jar A w.heap.size w.heap.size X H→A.cell? ⟨w.heap.size,c,none⟩=some sv∧A.frozen? ⟨w.heap.size,c,none⟩=false∧Yt A w.heap.size sv ba):=fun A R=>by
       have:=R.row.cell (i:=c) (by rw[R.len];exact bu)
       rw[bx]at this
       have bb:=R.own c bu
       rw[bx,bL]at bb
       exact⟨this,R.row.frozen c,bb⟩
      have ds:Hid (∀ A bD,Jar A w.heap.size w.heap.size X H→A.grownBy bD sv.ownBlock→bD.cell? ⟨w.heap.size,c,none⟩=some sv∧bD.frozen? ⟨w.heap.size,c,none⟩=false):=fun A bD R bc=>by
       have cM:=R.ne c bu
       rw[bx]at cM
       have M:=bc.block w.heap.size R.row.lt (fun e=>cM e.symm)
       obtain⟨bl,bb,_⟩:=cC.out A R
       exact⟨by rw[Oc3 M];exact bl,by rw[Ol7 M];exact bb⟩
      have dy:∃ bh,(bh=o3+1∨L.length≤1)∧(if Z=1 then (some ⟨b3,o3,none⟩:Option Addr)else some ⟨b3,o3+1,none⟩)=some ⟨b3,bh,none⟩:=by
       by_cases e:Z=1
       ·exact⟨o3,.inr (by omega),by rw[if_pos e]⟩
       exact⟨o3+1,.inl rfl,by rw[if_neg e]⟩
      obtain⟨bh,bY,dX⟩:=dy
      replace bY:Hid (bh=o3+1∨L.length≤1):=bY
      clear bC bA bz ca bx bL cU
      go_wp2_with (first|(go_at_call 142;refine(bZ.out _ N).mono ?_;rintro e cb ⟨bG,fh,rfl,fc,dB⟩;have cj:=cI.below bG;obtain⟨fi,fj,cO⟩:=cC.out cb cj;have cf:=Jb N bG)|(at_builtin;refine Jjs (by rfl) _ _ (by rfl) w.heap.size _ _ (by rfl) cO _ _ vs (by rfl) dB dp.out cf.size ?_;intro sv' dO cY cx dE;obtain⟨fk,fl⟩:=ds.out cb dO cj cx;obtain⟨dt,c5,cT,_⟩:=cY.vals;rw[Oa8]at cT;subst cT))
      go_roundw
      case rel=>
       refine⟨c+1,H.set c (H.getD c []++vs),X.set c (.slice dt (ba.length+vs.length) c5),some ⟨b3,bh,none⟩,Z-1,bK.drop 1,L.drop 1,by omega,by go_num,dh,by show _=_;rw[Of8];exact bV.out,fun j=>?_,by show _=_;rw[←bj.out,List.drop_drop],by simp,⟨bB.out.1.tail bh bY.out,by rw[Of7];omega⟩,cj.put bu (by rw[dq.out];exact cY) (by rw[cA.out];exact cx) (by rw[cA.out];exact dE),(cf.grown cx cf.size (fun g bc=>(Je cO bc).1)).setCell (p:=⟨w.heap.size,c,none⟩) (Oa2 _) _⟩
       rw[Jyj bu]
       have Y:=bS.out j
       have cV:=cB.out
       by_cases e:j=c
       ·subst e
        rw[if_neg (Oe3 _)]at Y
        rw[if_pos rfl,if_pos (by omega),Oa8]
        omega
       rw[if_neg e]
       by_cases cG:j<c
       ·rw[if_pos cG]at Y;rw[if_pos (by omega)];exact Y
       rw[if_neg cG]at Y;rw[if_neg (by omega)];exact Y
      case measure=>simp[intOf];omega
     have bZ:Hid (∀ A,Below w.heap.size w A→Calls prog 142 #[.pointer (some ⟨s,0,none⟩),.slice O J.length U,.int .i64 T.types[c],.int .i64 (m:Int)] A fun e w'=>Below A.heap.size A w'∧∃ b,e=.returned (.tuple #[.slice none 0 0,.iface 211 (.pointer (some ⟨b,0,none⟩))])∧A.heap.size≤b∧Yu w' (.iface 211 (.pointer (some ⟨b,0,none⟩))) pg none (some (j:Int))):=bC.out
     have df:Hid ((Jfx D T.types T.segs (List.replicate T.types.length []) (cks T.rows T.group (ckN T.rows T.group))).1=.inr j):=by
      show _=_
      obtain⟨fo,dD⟩:=Jvd T.rows T.group (k+1) _ bU.out
      rw[dD]
      refine Kel D T.types T.segs _ _ _ _ ?_
      rw[Jbj,Ji5]
      simp only[Jpn,bT.out,Ji2,Jbp,bk.out]
      refine Kd4 D I T.types _ cs j (c+1) _ ?_ bJ
      have:=bA.out
      rw[bX.out,bi.out]at this
      exact this
     clear bC bA bz ca
     go_wp2_with (first|(go_at_call 142;refine(bZ.out _ N).mono ?_;rintro e cb ⟨bG,be,rfl,dv,dw⟩))
     go_ret2
     rw[df.out]
     exact⟨Jb N bG,be,rfl,Ob2 N.size dv,dw⟩
    obtain rfl:c=T.types.length:=by omega
    go_wp2
    go_roundw
    case rel=>
     refine⟨k+1,f+T.group,H,X,bN,Z,bK,L,bU.out,by show _=_;rw[Of5,bi.out],by omega,by go_num,?_,bV,fun j=>?_,?_,rfl,bB,cI,N⟩
     ·show _=_
      rw[Jbj,Ji5]
      simp only[Jpn,bT.out,Ji2,Jbp,bk.out]
      have:=bz.out
      rw[bX.out,bi.out]at this
      exact this
     ·have Y:=bS.out j
      have bf:=bX.out
      split at Y<;>omega
     show _=_
     rw[←bj.out,←bk.out,List.drop_drop,Of5]
    case measure=>simp[intOf];omega
  obtain⟨_,rfl⟩:True∧k=ckN T.rows T.group:=by
   refine⟨trivial,?_⟩
   rcases Oc1 k (ckN T.rows T.group)with h|h
   ·have:=Jqs bc h
    rw[←bi.out]at this
    omega
   ·omega
  have ci:=cy.out
  go_wp2
  go_ret2
  rw[bT.out]
  rw[←ci]
  exact⟨br,_,bP,rfl,bH⟩
theorem Jlg (g n cap:Nat)(a:Option Addr)(l c:Nat)(w:World)(A:1≤n)(h0:w.cell? ⟨g,0,none⟩=some (.slice a l c)) :
  Calls prog 143 #[.slice (some ⟨g,0,none⟩) n cap] w fun e w'=>e=.returned (.int .i64 (l:Int))∧w'=w:=by
 have q:((n:Int)==0)=false:=by rw[beq_eq_false_iff_ne];omega
 go_enter func143,ntmps143
 go_wp2
 go_ret
 exact⟨rfl,rfl⟩
def Ji (cs:List (List V))(j:Nat):List V:=cs.map fun c=>c.getD j Jf
theorem Yk (cs:List (List V))(j:Nat):(Ji cs j).length=cs.length:=by simp[Ji]
theorem Jge (n:Nat)(cs:List (List V))(j:Nat)(A:j<n):(Qf n cs)[j]?=some (Ji cs j):=by simp[Qf,Ji,A]
theorem Jk1 (A:List V)(c n:Nat)(K:A.length=n)(J:c<n):(A.take c++List.replicate (n-c) Jf).set c A[c]=A.take (c+1)++List.replicate (n-(c+1)) Jf:=by
 obtain⟨d,H⟩:∃ d,n-c=d+1:=⟨n-c-1,by omega⟩
 have I:n-(c+1)=d:=by omega
 rw[H,I,List.replicate_succ,Ok4 _ _ (by rw[Oc7];omega)]
 rw[Oc7,Oj1 (by omega),Oe1,List.set_cons_zero,Jec A c (by omega),Od8]
 rfl
def Kzr (w:World)(b:Nat)(t:TypeId)(n:Nat)(f:Nat→Value):Prop:=∃ c:Array Value,w.heap[b]?=some (.cells c t (0,0))∧n≤c.size∧∀ i,i<n→c[i]?=some (f i)
section
variable {w w':World} {b:Nat} {t:TypeId} {n:Nat} {f g:Nat→Value}
theorem Qbw (h:w.rowIs b t n f):Kzr w b t n f:=by
 obtain⟨c,A,I,H⟩:=h
 exact⟨c,A,by omega,H⟩
theorem Kzr.cell (h:Kzr w b t n f){i:Nat}(hi:i<n):w.cell? ⟨b,i,none⟩=some (f i):=by
 obtain⟨c,A,_,H⟩:=h
 simp[World.cell?,A,H i hi]
theorem Kzr.lt (h:Kzr w b t n f):b<w.heap.size:=by
 obtain⟨c,A,_,_⟩:=h
 exact(Oe2.1 A).1
end
theorem Jo4 (g cap:Nat)(bz:List Value)(cs:List (List V))(n:Nat)(w:World)(br:Kzr w g 56 bz.length (Uq bz))(U:bz.length=cs.length)(ba:∀ i,i<cs.length→∃ a c,Uq bz i=.slice a (cs.getD i []).length c∧Jv w a (cs.getD i []))(R:∀ i,i<cs.length→(cs.getD i []).length=n)(bh:1≤cs.length)(O:cs.length≤1000)(cK:n≤10000) :
  Calls prog 106 #[.slice (some ⟨g,0,none⟩) cs.length cap] w fun e w'=>e=.returned (.slice (some ⟨w.heap.size,0,none⟩) n n)∧(∃ bs,Jcu w' w.heap.size w.heap.size bs (Qf n cs))∧Below w.heap.size w w':=by
 have cx:∀ W,(Instr.makeSlice 28 (.int .i64 (n:Int)) (.int .i64 (n:Int))).run prog W=.ok (.slice (some ⟨W.heap.size,0,none⟩) n n) (W.alloc (.cells (madeCells #[.slice none 0 0] n) 57)):=
  fun W=>run_make_row' 28 57 (.slice none 0 0) 24 (by kernel_rfl) Jip rfl .i64 .i64 n (by omega) (by omega) W
 have bC:=br.cell (i:=0) (by omega)
 obtain⟨ca,cb,bQ,_⟩:=ba 0 (by omega)
 rw[bQ,R 0 (by omega)]at bC
 have X:=Jlg g cs.length cap ca n cb w bh bC
 have cl:=br.lt
 have bU:Hid (∀ (W:World) (i k:Nat) (hi:i<cs.length) (hk:k<n),Below w.heap.size w W→∃ b o bx,W.cell? ⟨g,i,none⟩=some (.slice (some ⟨b,o,none⟩) n bx)∧b<w.heap.size∧VAt W b (o+k*3) ((Ji cs k)[i]'(by rw[Yk];exact hi))):=fun W i k hi hk H=>by
  obtain⟨a,bx,L,K⟩:=ba i hi
  have bD:k<(cs.getD i []).length:=by rw[R i hi];exact hk
  obtain⟨b,o,rfl,cI,cC⟩:=(K.below H).at bD
  obtain⟨cF,cL,bR,ck,_⟩:=K.at bD
  simp at bR
  obtain⟨rfl,rfl⟩:=bR
  refine⟨b,o,bx,?_,ck,?_⟩
  ·rw[H.cell (p:=⟨g,i,none⟩) cl,br.cell (by omega),L,R i hi]
  have e:cs.getD i []=cs[i]:=by rw[Oa0,Oa3 hi];rfl
  have cu:k<cs[i].length:=by rw[←e];exact bD
  have K:(cs.getD i [])[k]=cs[i][k]:=by simp only[e]
  have:(Ji cs k)[i]'(by rw[Yk];exact hi)=(cs.getD i [])[k]:=by
   rw[K]
   simp only[Ji,Od9]
   rw[Oa0,Oa3 cu]
   rfl
  rw[this]
  exact cC
 clear ba R bC bQ br U
 go_enter func106,ntmps106
 go_wp2_with (first|(go_at_call 143;refine X.mono ?_;rintro e bZ ⟨rfl,cG⟩;subst bZ))
 clear cx X
 go_loopw [12] (fun i wr=>∃ (k:Nat) (bs:List Nat),k≤n∧i=.int .i64 k∧Hid (bs.length=k)∧wr.rowIs w.heap.size 57 n (fun j=>if j<k then .slice (some ⟨bs.getD j 0,0,none⟩) cs.length cs.length else .slice none 0 0)∧Hid (∀ j b,bs[j]?=some b→Kv wr b (Ji cs j) []∧w.heap.size<b)∧Hid bs.Nodup∧Below w.heap.size w wr) (fun i _=>n-(intOf i).toNat)
 case atStart=>exact⟨0,[],by omega,rfl,rfl,(Ol3 _ _ _ _).congr (fun j _=>by simp),fun j b h=>by simp at h,List.nodup_nil,(Oa5 _ _).alloc (Oa2 _) _⟩
 case round=>
  obtain⟨k,bs,hk,rfl,bb,M,bc,bO,bi⟩:=hrel
  obtain⟨A,N⟩:∃ A,A=wr:=⟨_,rfl⟩
  subst N
  have cJ:=M.lt
  by_cases bG:k<n
  ·obtain⟨C,cv,bH⟩:=Jtn cs.length O A
   have c1:=M.cell bG
   have c2:=M.frozen k
   simp only[Oe3,if_false]at c1
   go_wp2
   clear cv c1 c2
   have bB:=bi.setCell (p:=⟨w.heap.size,k,none⟩) (Oa2 _) (.slice (some ⟨A.heap.size,0,none⟩) cs.length cs.length)
   have Z:(A.setCell ⟨w.heap.size,k,none⟩ (.slice (some ⟨A.heap.size,0,none⟩) cs.length cs.length)).heap.size=A.heap.size:=by simp[World.setCell]
   go_loopw [23] (fun i wr=>∃ c:Nat,c≤cs.length∧i=.int .i64 c∧Kv wr A.heap.size ((Ji cs k).take c++List.replicate (cs.length-c) Jf) []∧wr.rowIs w.heap.size 57 n (fun j=>if j=k then .slice (some ⟨A.heap.size,0,none⟩) cs.length cs.length else if j<k then .slice (some ⟨bs.getD j 0,0,none⟩) cs.length cs.length else .slice none 0 0)∧Hid (∀ x,x<A.heap.size→x≠w.heap.size→wr.heap[x]?=A.heap[x]?)∧A.heap.size<wr.heap.size∧Below w.heap.size w wr) (fun i _=>cs.length-(intOf i).toNat)
   case atStart=>
    obtain⟨cE,L,K⟩:=bH
    rw[heap_alloc_new]at L
    simp at L
    subst L
    refine⟨0,Ob7 _,rfl,⟨C,?_,by simpa using K⟩,(M.set k _).alloc _,fun x bI bJ=>?_,by rw[Oa7,Z];omega,Jc bB _⟩
    ·have:=heap_alloc_new (A.setCell ⟨w.heap.size,k,none⟩ (.slice (some ⟨A.heap.size,0,none⟩) cs.length cs.length)) (.cells C 55)
     rw[Z]at this
     exact this
    rw[Oa9 _ _ x (by rw[Z];exact bI),Oa4 _ _ _ _ bJ]
   case round=>
    obtain⟨c,R,rfl,bn,bk,bP,cB,bA⟩:=hrel
    have bN:Hid (wr.rowIs w.heap.size 57 n (fun j=>if j=k then .slice (some ⟨A.heap.size,0,none⟩) cs.length cs.length else if j<k then .slice (some ⟨bs.getD j 0,0,none⟩) cs.length cs.length else .slice none 0 0)):=bk
    by_cases bj:c<cs.length
    ·obtain⟨b2,o2,bx,cN,cH,bK,bL,bM⟩:=bU.out wr c k bj bG bA
     have bE:=bk.cell bG
     simp only[if_true]at bE
     have cy:c<(Ji cs k).length:=by rw[Yk];exact bj
     have X:((Ji cs k).take c++List.replicate (cs.length-c) Jf).length=cs.length:=by
      rw[Oa8,Oc7,Yk,Od6];omega
     obtain⟨old,⟨c0,cc⟩,⟨c1,L⟩,⟨c2,K⟩,bu⟩:=bn.put (Ji cs k)[c] c (by rw[X];exact bj)
     rw[Jk1 (Ji cs k) c cs.length (Yk _ _) bj]at bu
     generalize (Ji cs k)[c]=v at bK bL bM bu
     have bX:Hid (Kv (((wr.setCell ⟨A.heap.size,c*3,none⟩ (.int .i64 v.k)).setCell ⟨A.heap.size,c*3+1,none⟩ (.int .i64 v.n)).setCell ⟨A.heap.size,c*3+2,none⟩ (.string v.s)) A.heap.size ((Ji cs k).take (c+1)++List.replicate (cs.length-(c+1)) Jf) []):=bu
     have N:=bi.size
     clear bu X cy bk M bH bB Z
     go_wp2
     refine wp_region_held_drew (S:=fun bf=>bf.cell? ⟨w.heap.size,k,none⟩=some (.slice (some ⟨A.heap.size,0,none⟩) cs.length cs.length)∧bf.cell? ⟨b2,o2+k*3,none⟩=some (.int .i64 v.k)∧bf.cell? ⟨b2,o2+k*3+1,none⟩=some (.int .i64 v.n)∧bf.cell? ⟨b2,o2+k*3+2,none⟩=some (.string v.s)) (by kernel_rfl) ⟨bE,bK,bL,bM⟩ (fun I=>?_)
     refine Kn 0 rfl I ?_
     refine Kn 1 rfl I ?_
     refine Kn 2 rfl I ?_
     refine Kn 3 rfl I ?_
     refine Kn 4 rfl I ?_
     refine Kn 5 rfl I ?_
     refine Kn 6 rfl I ?_
     refine Kn 7 rfl I ?_
     refine Kn 8 rfl I ?_
     refine Kn 9 rfl I ?_
     refine tkn ?_
     refine tkr 10 rfl fun bY bS=>?_
     go_simp
     have Y:∀ (b o:Nat) (u:Value),b≠A.heap.size→wr.cell? ⟨b,o,none⟩=some u→(((wr.setCell ⟨A.heap.size,c*3,none⟩ (.int .i64 v.k)).setCell ⟨A.heap.size,c*3+1,none⟩ (.int .i64 v.n)).setCell ⟨A.heap.size,c*3+2,none⟩ (.string v.s)).cell? ⟨b,o,none⟩=some u:=fun b o u H ba=>by
      rw[Ob5 _ _ _ _ (by first|(simp;done)|(simp;omega)),Ob5 _ _ _ _ (by first|(simp;done)|(simp;omega)),Ob5 _ _ _ _ (by first|(simp;done)|(simp;omega))];exact ba
     refine bS.out _ _ ⟨Y _ _ _ (by omega) bE,Y _ _ _ (by omega) bK,Y _ _ _ (by omega) bL,Y _ _ _ (by omega) bM⟩ (fun cf=>?_)
     clear bS bY Y I cf c0 cc c1 L c2 K
     refine wpAnyH_done (by kernel_rfl) ?_ _
     have cz:Hid ((((wr.setCell ⟨A.heap.size,c*3,none⟩ (.int .i64 v.k)).setCell ⟨A.heap.size,c*3+1,none⟩ (.int .i64 v.n)).setCell ⟨A.heap.size,c*3+2,none⟩ (.string v.s)).rowIs w.heap.size 57 n (fun j=>if j=k then .slice (some ⟨A.heap.size,0,none⟩) cs.length cs.length else if j<k then .slice (some ⟨bs.getD j 0,0,none⟩) cs.length cs.length else .slice none 0 0)):=
      ((bN.out.setOther (a:=⟨A.heap.size,c*3,none⟩) (by show w.heap.size≠A.heap.size;omega) _).setOther (a:=⟨A.heap.size,c*3+1,none⟩) (by show w.heap.size≠A.heap.size;omega) _).setOther (a:=⟨A.heap.size,c*3+2,none⟩) (by show w.heap.size≠A.heap.size;omega) _
     have cj:Below w.heap.size w (((wr.setCell ⟨A.heap.size,c*3,none⟩ (.int .i64 v.k)).setCell ⟨A.heap.size,c*3+1,none⟩ (.int .i64 v.n)).setCell ⟨A.heap.size,c*3+2,none⟩ (.string v.s)):=
      ((bA.setCell (p:=⟨A.heap.size,c*3,none⟩) N _).setCell (p:=⟨A.heap.size,c*3+1,none⟩) N _).setCell (p:=⟨A.heap.size,c*3+2,none⟩) N _
     have bV:Hid (∀ x,x<A.heap.size→x≠w.heap.size→(((wr.setCell ⟨A.heap.size,c*3,none⟩ (.int .i64 v.k)).setCell ⟨A.heap.size,c*3+1,none⟩ (.int .i64 v.n)).setCell ⟨A.heap.size,c*3+2,none⟩ (.string v.s)).heap[x]?=A.heap[x]?):=fun x bI bJ=>by
      rw[Oa4 _ _ _ _ (by show x≠A.heap.size;omega),Oa4 _ _ _ _ (by show x≠A.heap.size;omega),Oa4 _ _ _ _ (by show x≠A.heap.size;omega)];exact bP.out x bI bJ
     have cA:A.heap.size<(((wr.setCell ⟨A.heap.size,c*3,none⟩ (.int .i64 v.k)).setCell ⟨A.heap.size,c*3+1,none⟩ (.int .i64 v.n)).setCell ⟨A.heap.size,c*3+2,none⟩ (.string v.s)).heap.size:=by simp[World.setCell];exact cB
     generalize ((wr.setCell ⟨A.heap.size,c*3,none⟩ (.int .i64 v.k)).setCell ⟨A.heap.size,c*3+1,none⟩ (.int .i64 v.n)).setCell ⟨A.heap.size,c*3+2,none⟩ (.string v.s)=cM at *
     go_wp2
     go_roundw
     case rel=>exact⟨c+1,by omega,by go_num,bX.out,cz.out,bV.out,cA,cj.drew⟩
     case measure=>simp[intOf];omega
    obtain rfl:c=cs.length:=by omega
    rw[Oe1,List.replicate_zero,Od7,Oc8 (by rw[Yk];exact Oa2 _)]at bn
    have bW:Hid (Kv wr A.heap.size (Ji cs k) []):=bn
    have N:=bi.size
    clear bn bk M bH bB Z
    go_wp2
    go_roundw
    case rel=>
     refine⟨k+1,bs++[A.heap.size],by omega,by go_num,by show _=_;rw[Oa8,bb.out];rfl,bN.out.congr fun j J=>?_,fun j b H=>?_,?_,bA⟩
     ·have U:=bb.out
      by_cases e:j=k
      ·subst e
       simp[U]
      by_cases bh:j<k
      ·have O:j<k+1:=by omega
       simp[e,bh,O,List.getElem?_append_left (show j<bs.length by omega)]
      have O:¬ j<k+1:=by omega
      simp[e,bh,O]
     ·by_cases e:j<bs.length
      ·rw[Ob0 e]at H
       obtain⟨bT,cD⟩:=bc.out j b H
       exact⟨bT.of_block (bP.out b bT.lt (by omega)),cD⟩
      have U:=bb.out
      have J:j=k:=by
       have:=(Ob9.1 H).1
       simp at this
       omega
      subst J
      rw[←U,Ob6 (Oa2 _),Oe1]at H
      simp at H
      subst H
      exact⟨bW.out,by omega⟩
     show (bs++[A.heap.size]).Nodup
     rw[Op3]
     refine⟨bO.out,by simp,fun a ci b H=>?_⟩
     simp at H
     subst H
     obtain⟨j,J,rfl⟩:=Od5 ci
     have:=(bc.out j _ (Oa3 J)).1.lt
     omega
    case measure=>simp[intOf];omega
  obtain rfl:k=n:=by omega
  go_wp2
  go_ret
  refine⟨rfl,⟨bs,by rw[Uu];exact bb.out,?_,?_,⟨Oa2 _,fun b H=>?_⟩,bO.out⟩,bi⟩
  ·rw[Uu]
   refine M.congr fun j J=>?_
   rw[if_pos J]
   unfold Jad
   rw[Oa0 (l:=Qf k cs),Jge k cs j J]
   simp only[Option.getD_some,Yk]
  ·intro i b r hi bl
   have cn:i<k:=by
    have:=(Ob9.1 bl).1
    rw[Uu]at this
    exact this
   rw[Jge k cs i cn]at bl
   simp at bl
   subst bl
   exact(bc.out i b hi).1
  obtain⟨j,J,rfl⟩:=Od5 H
  have:=(bc.out j _ (Oa3 J)).2
  omega
end Go.Proofs.YtcaocabmioafcaaGreatDoor
