/- A table read from the disk, column by column; the columns told as rows. -/
import Derived.Test.YtjjdldddcegjiaaGreatDoorTk
set_option maxHeartbeats 4000000
set_option maxRecDepth 100000
namespace Go.Proofs.YtjjdldddcegjiaaGreatDoor
open Go.RowKit Go.Shelf Tryz
attribute [local go_sem] Oc0
theorem Jps:(prog.info? 58).map (fun i=>(i.zero,i.size,i.bytes))=some (some (.slice none 0 0),1,24):=by kernel_rfl
theorem Jiz (n:Nat)(w:World)(hn:n≤1000) :
  Calls prog 89 #[.int .i64 (n:Int)] w fun e w'=>e=.returned (.slice (some ⟨w.heap.size,0,none⟩) n n)∧Jar w' w.heap.size w.heap.size (List.replicate n (.slice none 0 0)) (List.replicate n [])∧Below w.heap.size w w':=by
 have D:∀ W,(Instr.makeSlice 75 (.int .i64 (n:Int)) (.int .i64 (n:Int))).run prog W=.ok (.slice (some ⟨W.heap.size,0,none⟩) n n) (W.alloc (.cells (madeCells #[.slice none 0 0] n) 58)):=
  fun W=>run_make_row' 75 58 (.slice none 0 0) 24 (by kernel_rfl) Jps rfl .i64 .i64 n (by omega) (by omega) W
 go_enter func89,ntmps89
 go_wp2
 go_ret
 have y:∀ i,Uq (List.replicate n (.slice none 0 0)) i=.slice none 0 0:=fun i=>by
  unfold Uq
  rw[Oa0,Of3]
  split<;>rfl
 refine⟨rfl,⟨?_,Oa2 _,by simp,fun i hi=>?_,fun i hi=>?_,fun i j b hi C A z=>?_⟩,(Oa5 _ _).alloc (Oa2 _) _⟩
 ·rw[Od6]
  exact(Ol3 _ _ _ _).congr fun j _=>(y j).symm
 ·rw[y,Oa0,Of3]
  split<;>exact Yt.nil _ _
 ·rw[y];simp[Value.ownBlock]
 rw[y]at z;simp[Value.ownBlock]at z
def Ji1 (w:World)(pg:Addr)(r:List (List V)⊕Nat)(e:Ending)(w':World):Prop:=
 Below w.heap.size w w'∧match r with
  |.inl cs=>∃ g y,e=.returned (.tuple #[.slice (some ⟨g,0,none⟩) cs.length cs.length,.nilIface])∧Jar w' w.heap.size g y cs
  |.inr j=>∃ b,e=.returned (.tuple #[.slice none 0 0,.iface 168 (.pointer (some ⟨b,0,none⟩))])∧w.heap.size≤b∧Yu w' (.iface 168 (.pointer (some ⟨b,0,none⟩))) pg none (some (j:Int))
theorem Kas (s d bU:Nat)(T:TS)(w:World)(F G:Nat→Prop)(z:DS)(h:Zb w F d z)(cV:w.cell? ⟨s,0,none⟩=some (.pointer (some ⟨d,0,none⟩)))(dB:Jmg w G bU T)(dK:1≤T.types.length∧T.types.length≤6)(fk:T.rows≤200)(bi:1≤T.group)(fe:T.group≤64)(cW:T.segs.length=ckN T.rows T.group*T.types.length)(bM:∀ l∈T.segs,l≠[]∧l.length≤1000)(cx:∀ l∈T.segs,∀ t,Uf z l=.inl t→t≠[]∧Kje t)(cG cH cI:Addr)(cN:Jf0 w cG cH cI)(pg:Addr)(cT:w.cell? ⟨8,0,none⟩=some (.iface 443 (.pointer (some pg)))) :
  Calls prog 66 #[.pointer (some ⟨s,0,none⟩),.pointer (some ⟨bU,0,none⟩)] w fun e w'=>Ji1 w pg (Jfx z T.types T.segs (List.replicate T.types.length []) (cks T.rows T.group (ckN T.rows T.group))).1 e w':=by
 obtain⟨dT,fr,dd,de,hs,bA⟩:=dB
 obtain⟨fo,df,dO,dg,dR⟩:=bA.field
 have ds:Hid (T.segs.length=ckN T.rows T.group*T.types.length):=cW
 have dI:=Ol5 (Oa2 (ckN T.rows T.group)) dK.2
 have dW:Hid (∀ l∈T.segs,l≠[]∧l.length≤1000):=bM
 have dX:Hid (∀ l∈T.segs,∀ t,Uf z l=.inl t→t≠[]∧Kje t):=cx
 have dx:Hid (∀ (y:World) (O:Option Addr) (U:Nat) (l:List Nat) (typ:Int) (n:Nat),Below w.heap.size w y→l∈T.segs→Uh y O (l.map nv)→Calls prog 90 #[.pointer (some ⟨s,0,none⟩),.slice O l.length U,.int .i64 typ,.int .i64 (n:Int)] y fun e w'=>Jl8 y pg (Us z l typ n) e w'):=
  fun y O U l typ n K cv cK=>Jto s d O U l typ n y F z (h.below K) (Ja K cV) cK (bM l cv).1 (by have:=(bM l cv).2;omega) (cx l cv) cG cH cI (cN.below K) pg (Ja K cT)
 have cQ:=Jiz T.types.length w (by omega)
 have fj:=run_neq_nil_nil (P:=prog)
 have du:Hid (Kc w dT T.types):=bA.types
 have dr:Hid (Jaf w G dd hs T.segs∧T.segs.length≤de):=⟨bA.segs,bA.cap⟩
 clear cW bM cx h cV cN cT bA dI
 go_enter func66,ntmps66
 go_wp2_with (first|(go_at_call 89;refine cQ.mono ?_;rintro e dY ⟨rfl,bL,bJ⟩;have dN:=Ja bJ df;have dS:=Ja bJ dR))
 clear cQ dN dS
 go_loopw [7,8] (fun cz cj wr=>∃ (k f:Nat) (cs:List (List V)) (bT:List Value) (bQ:Option Addr) (bS:Nat) (cy:List (Option Addr×Nat)) (C:List (List Nat)),k≤ckN T.rows T.group∧Hid (f=k*T.group)∧f≤300∧cj=.int .i64 (f:Int)∧Hid ((Jfx z T.types T.segs (List.replicate T.types.length []) (cks T.rows T.group k)).1=.inl cs)∧Hid (cs.length=T.types.length)∧Hid (∀ j,(cs.getD j []).length≤f)∧Hid (T.segs.drop (k*T.types.length)=C)∧cz=.slice bQ C.length bS∧Hid (Jaf w G bQ cy C∧C.length≤bS)∧Jar wr w.heap.size w.heap.size bT cs∧Below w.heap.size w wr) (fun _ cj _=>T.rows-(intOf cj).toNat)
 case atStart=>
  refine⟨0,0,_,_,dd,de,hs,T.segs,Ob7 _,by show 0=_;simp,by omega,rfl,by show _=_;simp[cks,Jfx],by show _=_;simp,?_,by show _=_;simp,rfl,dr.out,bL,bJ⟩
  intro j
  rw[Oa0,Of3]
  split<;>simp
 case round=>
  obtain⟨k,f,cs,bT,bQ,bS,cy,C,fg,br,fd,rfl,bX,cB,di,bx,rfl,dt,bL,bB⟩:=hrel
  have fp:=Ja bB df
  have dP:=Ja bB dO
  have dQ:=Ja bB dg
  by_cases fh:f<T.rows
  ·have bY:Hid (k<ckN T.rows T.group):=by
    show _<_
    rcases Oc1 k (ckN T.rows T.group)with h|h
    ·exact h
    ·have bz:=Jcy (len:=T.rows) bi
     have bh:k=ckN T.rows T.group:=by omega
     rw[←bh,←br.out]at bz
     omega
   obtain⟨m,bj⟩:∃ m,m=min T.group (T.rows-f):=⟨_,rfl⟩
   have cP:min (T.group:Int) ((T.rows:Int)-(f:Int))=(m:Int):=by omega
   have fi:m≤64:=by omega
   have cb:Hid (m=min T.group (T.rows-f)):=bj
   clear bj
   go_wp2
   refine wp_region_held_drew (S:=fun y=>y.cell? ⟨bU,3,none⟩=some (.int .i64 (T.group:Int))∧y.cell? ⟨bU,2,none⟩=some (.int .i64 (T.rows:Int))) (by kernel_rfl) ⟨dQ,dP⟩ (fun E=>?_)
   refine tk 0 ?_ rfl E ?_ (tk 1 ?_ rfl E ?_ (tk 2 ?_ rfl E ?_ (tk 3 ?_ rfl E ?_ (tk 4 ?_ rfl E ?_ (tk 5 ?_ rfl E ?_ (tk 6 ?_ rfl E ?_ (tk 7 ?_ rfl E ?_ (tk 8 ?_ rfl E ?_ (tk 9 ?_ rfl E ?_ (tk 10 ?_ rfl E ?_ (tk 11 ?_ rfl E ?_ ?_)))))))))))
   iterate 12
    rotate_left 1
    ·intro w dA;(try dsimp only at dA);go_simp;try rfl
   simp only[Act.put,List.getElem_toArray,List.getElem_cons_zero,List.getElem_cons_succ,Oa1,List.set_cons_zero,List.set_cons_succ]
   refine wpAnyH_done (by kernel_rfl) ?_ _
   have da:IntKind.i64.wrap ((T.rows:Int)-(f:Int))=(T.rows:Int)-(f:Int):=by rw[Od4];omega
   rw[da,cP]
   clear da cP
   have cC:Hid (T.types.length≤C.length):=by
    show _≤_
    rw[←bx.out,Of7,ds.out]
    have bz:(k+1)*T.types.length≤ckN T.rows T.group*T.types.length:=Om8 _ bY.out
    rw[Of5]at bz
    omega
   have dp:Hid (∀ dh∈C,dh∈T.segs):=fun dh db=>by rw[←bx.out]at db;exact Oh7 db
   clear E
   go_wp2
   go_loopw [7,52] (fun cz i wr=>∃ (c:Nat) (A:List (List V)) (X:List Value) (bR:Option Addr) (bc:Nat) (bO:List (Option Addr×Nat)) (H:List (List Nat)),c≤T.types.length∧i=.int .i64 (c:Int)∧Hid (Jh3 z C T.types m cs c=.inl A)∧Hid (A.length=T.types.length)∧Hid (∀ j,(A.getD j []).length≤if j<c then f+m else f)∧Hid (C.drop c=H)∧cz=.slice bR H.length bc∧Hid (Jaf w G bR bO H∧H.length≤bc)∧Jar wr w.heap.size w.heap.size X A∧Below w.heap.size w wr) (fun _ i _=>T.types.length-(intOf i).toNat)
   case atStart=>exact⟨0,cs,bT,bQ,bS,cy,C,Ob7 _,rfl,rfl,cB,fun j=>by rw[if_neg (Oe0 _)];exact di.out j,rfl,rfl,dt,bL.below (Oa5 _ _).drew,bB.drew⟩
   case round=>
    obtain⟨c,A,X,bR,bc,bO,H,cK,rfl,bE,bZ,bW,bu,rfl,bH,cM,M⟩:=hrel
    have fq:=Ja M dg
    by_cases bN:c<T.types.length
    ·obtain⟨b1,fm,rfl,bJ,fx⟩:=Kc.at (du.out.below M) bN
     have cU:0<H.length:=by
      rw[←bu.out,Of7]
      have:=cC.out
      omega
     have fc:=bH.out.2
     obtain⟨b3,bl,O,U,rfl,dZ,fb,bV,cu,dE⟩:=bH.out.1.at cU
     obtain⟨D,cO⟩:∃ D,H[0]=D:=⟨_,rfl⟩
     have ca:Hid (H[0]=D):=cO
     clear cO
     rw[ca.out]at bV cu
     rw[Nat.add_zero]at bV
     have dk:Hid (C.getD c []=D):=by
      show _=_
      rw[←ca.out]
      have cn:c<C.length:=by have:=cC.out;omega
      simp only[←bu.out,List.getElem_drop,Nat.add_zero,Oa0,Oa3 cn,Option.getD_some]
     have dq:Hid (D∈T.segs):=by
      apply dp.out
      have bj:=Ob3 cU
      rw[ca.out]at bj
      have dH:D∈C.drop c:=by rw[bu.out];exact bj
      exact Oh7 dH
     have bI:Hid (∀ y,Below w.heap.size w y→Calls prog 90 #[.pointer (some ⟨s,0,none⟩),.slice O D.length U,.int .i64 T.types[c],.int .i64 (m:Int)] y fun e w'=>Jl8 y pg (Us z D T.types[c] m) e w'):=fun y K=>dx.out y O U D _ m K dq.out (cu.below K)
     have bG:Hid (Jh3 z C T.types m cs (c+1)=match Us z D T.types[c] m with|.inr j=>.inr j|.inl vs=>.inl (A.set c (A.getD c []++vs))):=by
      show _=_
      simp only[Jh3,bE.out,dk.out]
      rw[show T.types.getD c 0=T.types[c] by simp[bN]]
      cases Us z D T.types[c] m<;>rfl
     have ch:Hid (∀ vs,Us z D T.types[c] m=.inl vs→vs.length=m):=fun vs cZ=>Jnk cZ
     have fy:=Ja M bV
     clear bV cu dE
     generalize Us z D T.types[c] m=dU at *
     rcases dU with vs|j
     ·have cf:Hid (∀ y,Below w.heap.size w y→Calls prog 90 #[.pointer (some ⟨s,0,none⟩),.slice O D.length U,.int .i64 T.types[c],.int .i64 (m:Int)] y fun e w'=>Below y.heap.size y w'∧∃ b,e=.returned (.tuple #[.slice (some ⟨b,0,none⟩) vs.length vs.length,.nilIface])∧y.heap.size≤b∧Kv w' b vs []):=bI.out
      have cE:Hid (vs.length=m):=ch.out vs rfl
      have dm:Hid (Jh3 z C T.types m cs (c+1)=.inl (A.set c (A.getD c []++vs))):=bG.out
      have bC:c<A.length:=by rw[bZ.out];exact bN
      obtain⟨sv,bD⟩:∃ sv,Uq X c=sv:=⟨_,rfl⟩
      have cD:Hid (Uq X c=sv):=bD
      obtain⟨bf,bP⟩:∃ bf,A.getD c []=bf:=⟨_,rfl⟩
      have dw:Hid (A.getD c []=bf):=bP
      have cY:bf.length+vs.length≤1000000:=by rw[←bP,cE.out];have:=bW.out c;rw[if_neg (Oe3 _)]at this;omega
      have dv:Hid (bf.length+vs.length≤1000000):=cY
      have cF:Hid (∀ y,Jar y w.heap.size w.heap.size X A→y.cell? ⟨w.heap.size,c,none⟩=some sv∧y.frozen? ⟨w.heap.size,c,none⟩=false∧Yt y w.heap.size sv bf):=fun y R=>by
       have:=R.row.cell (i:=c) (by rw[R.len];exact bC)
       rw[bD]at this
       have bh:=R.own c bC
       rw[bD,bP]at bh
       exact⟨this,R.row.frozen c,bh⟩
      have dy:Hid (∀ y Y,Jar y w.heap.size w.heap.size X A→y.grownBy Y sv.ownBlock→Y.cell? ⟨w.heap.size,c,none⟩=some sv∧Y.frozen? ⟨w.heap.size,c,none⟩=false):=fun y Y R bi=>by
       have hn:=R.ne c bC
       rw[bD]at hn
       have K:=bi.block w.heap.size R.row.lt (fun e=>hn e.symm)
       obtain⟨bz,bh,_⟩:=cF.out y R
       exact⟨by rw[Oc3 K];exact bz,by rw[Ol7 K];exact bh⟩
      have dG:∃ bn,(bn=bl+1∨H.length≤1)∧(if bc=1 then (some ⟨b3,bl,none⟩:Option Addr)else some ⟨b3,bl+1,none⟩)=some ⟨b3,bn,none⟩:=by
       by_cases e:bc=1
       ·exact⟨bl,.inr (by omega),by rw[if_pos e]⟩
       exact⟨bl+1,.inl rfl,by rw[if_neg e]⟩
      obtain⟨bn,cc,ff⟩:=dG
      replace cc:Hid (bn=bl+1∨H.length≤1):=cc
      clear bI bG bE ch bD bP cY
      go_wp2_with (first|(go_at_call 90;refine(cf.out _ M).mono ?_;rintro e ci ⟨bK,fs,rfl,fl,dJ⟩;have cr:=cM.below bK;obtain⟨ft,fu,cS⟩:=cF.out ci cr;have cl:=Jb M bK)|(at_builtin;refine Jjs (by rfl) _ _ (by rfl) w.heap.size _ _ (by rfl) cS _ _ vs (by rfl) dJ dv.out cl.size ?_;intro sv' dV dc cA dM;obtain⟨fv,fw⟩:=dy.out ci dV cr cA;obtain⟨dz,c5,cX,_⟩:=dc.vals;rw[Oa8]at cX;subst cX))
      go_roundw
      case rel=>
       refine⟨c+1,A.set c (A.getD c []++vs),X.set c (.slice dz (bf.length+vs.length) c5),some ⟨b3,bn,none⟩,bc-1,bO.drop 1,H.drop 1,by omega,by go_num,dm,by show _=_;rw[Of8];exact bZ.out,fun j=>?_,by show _=_;rw[←bu.out,List.drop_drop],by simp,⟨bH.out.1.tail bn cc.out,by rw[Of7];omega⟩,cr.put bC (by rw[dw.out];exact dc) (by rw[cD.out];exact cA) (by rw[cD.out];exact dM),(cl.grown cA cl.size (fun g bi=>(Je cS bi).1)).setCell (p:=⟨w.heap.size,c,none⟩) (Oa2 _) _⟩
       rw[Jyj bC]
       have Z:=bW.out j
       have cZ:=cE.out
       by_cases e:j=c
       ·subst e
        rw[if_neg (Oe3 _)]at Z
        rw[if_pos rfl,if_pos (by omega),Oa8]
        omega
       rw[if_neg e]
       by_cases cJ:j<c
       ·rw[if_pos cJ]at Z;rw[if_pos (by omega)];exact Z
       rw[if_neg cJ]at Z;rw[if_neg (by omega)];exact Z
      case measure=>simp[intOf];omega
     have cf:Hid (∀ y,Below w.heap.size w y→Calls prog 90 #[.pointer (some ⟨s,0,none⟩),.slice O D.length U,.int .i64 T.types[c],.int .i64 (m:Int)] y fun e w'=>Below y.heap.size y w'∧∃ b,e=.returned (.tuple #[.slice none 0 0,.iface 168 (.pointer (some ⟨b,0,none⟩))])∧y.heap.size≤b∧Yu w' (.iface 168 (.pointer (some ⟨b,0,none⟩))) pg none (some (j:Int))):=bI.out
     have dj:Hid ((Jfx z T.types T.segs (List.replicate T.types.length []) (cks T.rows T.group (ckN T.rows T.group))).1=.inr j):=by
      show _=_
      obtain⟨fz,dL⟩:=Jvd T.rows T.group (k+1) _ bY.out
      rw[dL]
      refine Kel z T.types T.segs _ _ _ _ ?_
      rw[Jbj,Ji5]
      simp only[Jpn,bX.out,Ji2,Jbp,bx.out]
      refine Kd4 z C T.types _ cs j (c+1) _ ?_ bN
      have:=bG.out
      rw[cb.out,br.out]at this
      exact this
     clear bI bG bE ch
     go_wp2_with (first|(go_at_call 90;refine(cf.out _ M).mono ?_;rintro e ci ⟨bK,be,rfl,dC,dD⟩))
     go_ret2
     rw[dj.out]
     exact⟨Jb M bK,be,rfl,Ob2 M.size dC,dD⟩
    obtain rfl:c=T.types.length:=by omega
    go_wp2
    go_roundw
    case rel=>
     refine⟨k+1,f+T.group,A,X,bR,bc,bO,H,bY.out,by show _=_;rw[Of5,br.out],by omega,by go_num,?_,bZ,fun j=>?_,?_,rfl,bH,cM,M⟩
     ·show _=_
      rw[Jbj,Ji5]
      simp only[Jpn,bX.out,Ji2,Jbp,bx.out]
      have:=bE.out
      rw[cb.out,br.out]at this
      exact this
     ·have Z:=bW.out j
      have bj:=cb.out
      split at Z<;>omega
     show _=_
     rw[←bu.out,←bx.out,List.drop_drop,Of5]
    case measure=>simp[intOf];omega
  obtain⟨_,rfl⟩:True∧k=ckN T.rows T.group:=by
   refine⟨trivial,?_⟩
   rcases Oc1 k (ckN T.rows T.group)with h|h
   ·have:=Jqs bi h
    rw[←br.out]at this
    omega
   ·omega
  have cn:=cB.out
  go_wp2
  go_ret2
  rw[bX.out]
  rw[←cn]
  exact⟨bB,_,bT,rfl,bL⟩
theorem Jlg (g n cap:Nat)(a:Option Addr)(l c:Nat)(w:World)(hn:1≤n)(h0:w.cell? ⟨g,0,none⟩=some (.slice a l c)) :
  Calls prog 65 #[.slice (some ⟨g,0,none⟩) n cap] w fun e w'=>e=.returned (.int .i64 (l:Int))∧w'=w:=by
 have q:((n:Int)==0)=false:=by rw[beq_eq_false_iff_ne];omega
 go_enter func65,ntmps65
 go_wp2
 go_ret
 exact⟨rfl,rfl⟩
def Ji (cs:List (List V))(j:Nat):List V:=cs.map fun c=>c.getD j Jf
theorem Yk (cs:List (List V))(j:Nat):(Ji cs j).length=cs.length:=by simp[Ji]
theorem Jge (n:Nat)(cs:List (List V))(j:Nat)(y:j<n):(Qf n cs)[j]?=some (Ji cs j):=by simp[Qf,Ji,y]
theorem Jk1 (L:List V)(c n:Nat)(C:L.length=n)(A:c<n):(L.take c++List.replicate (n-c) Jf).set c L[c]=L.take (c+1)++List.replicate (n-(c+1)) Jf:=by
 obtain⟨d,y⟩:∃ d,n-c=d+1:=⟨n-c-1,by omega⟩
 have z:n-(c+1)=d:=by omega
 rw[y,z,List.replicate_succ,Ok4 _ _ (by rw[Oc7];omega)]
 rw[Oc7,Oj1 (by omega),Oe1,List.set_cons_zero,Jec L c (by omega),Od8]
 rfl
theorem Jo4 (g cap:Nat)(bC:List Value)(cs:List (List V))(n:Nat)(w:World)(bz:w.rowIs g 58 bC.length (Uq bC))(R:bC.length=cs.length)(bc:∀ i,i<cs.length→∃ a c,Uq bC i=.slice a (cs.getD i []).length c∧Jv w a (cs.getD i []))(O:∀ i,i<cs.length→(cs.getD i []).length=n)(bj:1≤cs.length)(M:cs.length≤1000)(hn:n≤10000) :
  Calls prog 46 #[.slice (some ⟨g,0,none⟩) cs.length cap] w fun e w'=>e=.returned (.slice (some ⟨w.heap.size,0,none⟩) n n)∧(∃ bs,Jcu w' w.heap.size w.heap.size bs (Qf n cs))∧Below w.heap.size w w':=by
 have cD:∀ W,(Instr.makeSlice 23 (.int .i64 (n:Int)) (.int .i64 (n:Int))).run prog W=.ok (.slice (some ⟨W.heap.size,0,none⟩) n n) (W.alloc (.cells (madeCells #[.slice none 0 0] n) 59)):=
  fun W=>run_make_row' 23 59 (.slice none 0 0) 24 (by kernel_rfl) Jip rfl .i64 .i64 n (by omega) (by omega) W
 have bG:=bz.cell (i:=0) (by omega)
 obtain⟨cj,cl,bW,_⟩:=bc 0 (by omega)
 rw[bW,O 0 (by omega)]at bG
 have U:=Jlg g cs.length cap cj n cl w bj bG
 have cz:=bz.lt
 have ca:Hid (∀ (W:World) (i k:Nat) (hi:i<cs.length) (bH:k<n),Below w.heap.size w W→∃ b o bB,W.cell? ⟨g,i,none⟩=some (.slice (some ⟨b,o,none⟩) n bB)∧b<w.heap.size∧VAt W b (o+k*3) ((Ji cs k)[i]'(by rw[Yk];exact hi))):=fun W i k hi bH z=>by
  obtain⟨a,bB,E,D⟩:=bc i hi
  have bI:k<(cs.getD i []).length:=by rw[O i hi];exact bH
  obtain⟨b,o,rfl,cP,cI⟩:=(D.below z).at bI
  obtain⟨cM,cS,bX,cy,_⟩:=D.at bI
  simp at bX
  obtain⟨rfl,rfl⟩:=bX
  refine⟨b,o,bB,?_,cy,?_⟩
  ·rw[z.cell (p:=⟨g,i,none⟩) cz,bz.cell (by omega),E,O i hi]
  have e:cs.getD i []=cs[i]:=by rw[Oa0,Oa3 hi];rfl
  have cB:k<cs[i].length:=by rw[←e];exact bI
  have D:(cs.getD i [])[k]=cs[i][k]:=by simp only[e]
  have:(Ji cs k)[i]'(by rw[Yk];exact hi)=(cs.getD i [])[k]:=by
   rw[D]
   simp only[Ji,Od9]
   rw[Oa0,Oa3 cB]
   rfl
  rw[this]
  exact cI
 clear bc O bG bW bz R
 go_enter func46,ntmps46
 go_wp2_with (first|(go_at_call 65;refine U.mono ?_;rintro e ci ⟨rfl,cN⟩;subst ci))
 clear cD U
 go_loopw [12] (fun i wr=>∃ (k:Nat) (bs:List Nat),k≤n∧i=.int .i64 k∧Hid (bs.length=k)∧wr.rowIs w.heap.size 59 n (fun j=>if j<k then .slice (some ⟨bs.getD j 0,0,none⟩) cs.length cs.length else .slice none 0 0)∧Hid (∀ j b,bs[j]?=some b→Kv wr b (Ji cs j) []∧w.heap.size<b)∧Hid bs.Nodup∧Below w.heap.size w wr) (fun i _=>n-(intOf i).toNat)
 case atStart=>exact⟨0,[],by omega,rfl,rfl,(Ol3 _ _ _ _).congr (fun j _=>by simp),fun j b h=>by simp at h,List.nodup_nil,(Oa5 _ _).alloc (Oa2 _) _⟩
 case round=>
  obtain⟨k,bs,bH,rfl,bf,H,bh,bU,bl⟩:=hrel
  obtain⟨y,K⟩:∃ y,y=wr:=⟨_,rfl⟩
  subst K
  have cQ:=H.lt
  by_cases bK:k<n
  ·obtain⟨bS,cC,bL⟩:=Jtn cs.length M y
   have c1:=H.cell bK
   have c2:=H.frozen k
   simp only[Oe3,if_false]at c1
   go_wp2
   clear cC c1 c2
   have bE:=bl.setCell (p:=⟨w.heap.size,k,none⟩) (Oa2 _) (.slice (some ⟨y.heap.size,0,none⟩) cs.length cs.length)
   have Z:(y.setCell ⟨w.heap.size,k,none⟩ (.slice (some ⟨y.heap.size,0,none⟩) cs.length cs.length)).heap.size=y.heap.size:=by simp[World.setCell]
   go_loopw [23] (fun i wr=>∃ c:Nat,c≤cs.length∧i=.int .i64 c∧Kv wr y.heap.size ((Ji cs k).take c++List.replicate (cs.length-c) Jf) []∧wr.rowIs w.heap.size 59 n (fun j=>if j=k then .slice (some ⟨y.heap.size,0,none⟩) cs.length cs.length else if j<k then .slice (some ⟨bs.getD j 0,0,none⟩) cs.length cs.length else .slice none 0 0)∧Hid (∀ x,x<y.heap.size→x≠w.heap.size→wr.heap[x]?=y.heap[x]?)∧y.heap.size<wr.heap.size∧Below w.heap.size w wr) (fun i _=>cs.length-(intOf i).toNat)
   case atStart=>
    obtain⟨cK,E,D⟩:=bL
    rw[heap_alloc_new]at E
    simp at E
    subst E
    refine⟨0,Ob7 _,rfl,⟨bS,?_,by simpa using D⟩,(H.set k _).alloc _,fun x bM bN=>?_,by rw[Oa7,Z];omega,Jc bE _⟩
    ·have:=heap_alloc_new (y.setCell ⟨w.heap.size,k,none⟩ (.slice (some ⟨y.heap.size,0,none⟩) cs.length cs.length)) (.cells bS 49)
     rw[Z]at this
     exact this
    rw[Oa9 _ _ x (by rw[Z];exact bM),Oa4 _ _ _ _ bN]
   case round=>
    obtain⟨c,O,rfl,bx,br,bV,cH,bD⟩:=hrel
    have bT:Hid (wr.rowIs w.heap.size 59 n (fun j=>if j=k then .slice (some ⟨y.heap.size,0,none⟩) cs.length cs.length else if j<k then .slice (some ⟨bs.getD j 0,0,none⟩) cs.length cs.length else .slice none 0 0)):=br
    by_cases bn:c<cs.length
    ·obtain⟨b2,bO,bB,cV,cO,bP,bQ,bR⟩:=ca.out wr c k bn bK bD
     have bJ:=br.cell bK
     simp only[if_true]at bJ
     have cE:c<(Ji cs k).length:=by rw[Yk];exact bn
     have U:((Ji cs k).take c++List.replicate (cs.length-c) Jf).length=cs.length:=by
      rw[Oa8,Oc7,Yk,Od6];omega
     obtain⟨cT,⟨c0,cn⟩,⟨c1,E⟩,⟨c2,D⟩,bA⟩:=bx.put (Ji cs k)[c] c (by rw[U];exact bn)
     rw[Jk1 (Ji cs k) c cs.length (Yk _ _) bn]at bA
     generalize (Ji cs k)[c]=v at bP bQ bR bA
     have cf:Hid (Kv (((wr.setCell ⟨y.heap.size,c*3,none⟩ (.int .i64 v.k)).setCell ⟨y.heap.size,c*3+1,none⟩ (.int .i64 v.n)).setCell ⟨y.heap.size,c*3+2,none⟩ (.string v.s)) y.heap.size ((Ji cs k).take (c+1)++List.replicate (cs.length-(c+1)) Jf) []):=bA
     have K:=bl.size
     clear bA U cE br H bL bE Z
     go_wp2
     refine wp_region_held_drew (S:=fun bi=>bi.cell? ⟨w.heap.size,k,none⟩=some (.slice (some ⟨y.heap.size,0,none⟩) cs.length cs.length)∧bi.cell? ⟨b2,bO+k*3,none⟩=some (.int .i64 v.k)∧bi.cell? ⟨b2,bO+k*3+1,none⟩=some (.int .i64 v.n)∧bi.cell? ⟨b2,bO+k*3+2,none⟩=some (.string v.s)) (by kernel_rfl) ⟨bJ,bP,bQ,bR⟩ (fun A=>?_)
     refine tk 0 ?_ rfl A ?_ (tk 1 ?_ rfl A ?_ (tk 2 ?_ rfl A ?_ (tk 3 ?_ rfl A ?_ (tk 4 ?_ rfl A ?_ (tk 5 ?_ rfl A ?_ (tk 6 ?_ rfl A ?_ (tk 7 ?_ rfl A ?_ (tk 8 ?_ rfl A ?_ (tk 9 ?_ rfl A ?_ ?_)))))))))
     iterate 10
      rotate_left 1
      ·intro w cu;(try dsimp only at cu);go_simp;try rfl
     simp only[Act.put,List.getElem_toArray,List.getElem_cons_zero,List.getElem_cons_succ,Oa1,List.set_cons_zero,List.set_cons_succ]
     refine wpAnyH_ready (rs:=[10]) (by kernel_rfl) (by simp) (AllReadyH.cons rfl (fun ch bY=>?_) AllReadyH.nil)
     go_simp
     have X:∀ (b o:Nat) (u:Value),b≠y.heap.size→wr.cell? ⟨b,o,none⟩=some u→(((wr.setCell ⟨y.heap.size,c*3,none⟩ (.int .i64 v.k)).setCell ⟨y.heap.size,c*3+1,none⟩ (.int .i64 v.n)).setCell ⟨y.heap.size,c*3+2,none⟩ (.string v.s)).cell? ⟨b,o,none⟩=some u:=fun b o u z bc=>by
      rw[Ob5 _ _ _ _ (by first|(simp;done)|(simp;omega)),Ob5 _ _ _ _ (by first|(simp;done)|(simp;omega)),Ob5 _ _ _ _ (by first|(simp;done)|(simp;omega))];exact bc
     refine bY.out _ _ ⟨X _ _ _ (by omega) bJ,X _ _ _ (by omega) bP,X _ _ _ (by omega) bQ,X _ _ _ (by omega) bR⟩ (fun cr=>?_)
     clear bY ch X A cr c0 cn c1 E c2 D
     refine wpAnyH_done (by kernel_rfl) ?_ _
     have cF:Hid ((((wr.setCell ⟨y.heap.size,c*3,none⟩ (.int .i64 v.k)).setCell ⟨y.heap.size,c*3+1,none⟩ (.int .i64 v.n)).setCell ⟨y.heap.size,c*3+2,none⟩ (.string v.s)).rowIs w.heap.size 59 n (fun j=>if j=k then .slice (some ⟨y.heap.size,0,none⟩) cs.length cs.length else if j<k then .slice (some ⟨bs.getD j 0,0,none⟩) cs.length cs.length else .slice none 0 0)):=
      ((bT.out.setOther (a:=⟨y.heap.size,c*3,none⟩) (by show w.heap.size≠y.heap.size;omega) _).setOther (a:=⟨y.heap.size,c*3+1,none⟩) (by show w.heap.size≠y.heap.size;omega) _).setOther (a:=⟨y.heap.size,c*3+2,none⟩) (by show w.heap.size≠y.heap.size;omega) _
     have cx:Below w.heap.size w (((wr.setCell ⟨y.heap.size,c*3,none⟩ (.int .i64 v.k)).setCell ⟨y.heap.size,c*3+1,none⟩ (.int .i64 v.n)).setCell ⟨y.heap.size,c*3+2,none⟩ (.string v.s)):=
      ((bD.setCell (p:=⟨y.heap.size,c*3,none⟩) K _).setCell (p:=⟨y.heap.size,c*3+1,none⟩) K _).setCell (p:=⟨y.heap.size,c*3+2,none⟩) K _
     have cb:Hid (∀ x,x<y.heap.size→x≠w.heap.size→(((wr.setCell ⟨y.heap.size,c*3,none⟩ (.int .i64 v.k)).setCell ⟨y.heap.size,c*3+1,none⟩ (.int .i64 v.n)).setCell ⟨y.heap.size,c*3+2,none⟩ (.string v.s)).heap[x]?=y.heap[x]?):=fun x bM bN=>by
      rw[Oa4 _ _ _ _ (by show x≠y.heap.size;omega),Oa4 _ _ _ _ (by show x≠y.heap.size;omega),Oa4 _ _ _ _ (by show x≠y.heap.size;omega)];exact bV.out x bM bN
     have cG:y.heap.size<(((wr.setCell ⟨y.heap.size,c*3,none⟩ (.int .i64 v.k)).setCell ⟨y.heap.size,c*3+1,none⟩ (.int .i64 v.n)).setCell ⟨y.heap.size,c*3+2,none⟩ (.string v.s)).heap.size:=by simp[World.setCell];exact cH
     generalize ((wr.setCell ⟨y.heap.size,c*3,none⟩ (.int .i64 v.k)).setCell ⟨y.heap.size,c*3+1,none⟩ (.int .i64 v.n)).setCell ⟨y.heap.size,c*3+2,none⟩ (.string v.s)=cU at *
     go_wp2
     go_roundw
     case rel=>exact⟨c+1,by omega,by go_num,cf.out,cF.out,cb.out,cG,cx.drew⟩
     case measure=>simp[intOf];omega
    obtain rfl:c=cs.length:=by omega
    rw[Oe1,List.replicate_zero,Od7,Oc8 (by rw[Yk];exact Oa2 _)]at bx
    have cc:Hid (Kv wr y.heap.size (Ji cs k) []):=bx
    have K:=bl.size
    clear bx br H bL bE Z
    go_wp2
    go_roundw
    case rel=>
     refine⟨k+1,bs++[y.heap.size],by omega,by go_num,by show _=_;rw[Oa8,bf.out];rfl,bT.out.congr fun j C=>?_,fun j b z=>?_,?_,bD⟩
     ·have R:=bf.out
      by_cases e:j=k
      ·subst e
       simp[R]
      by_cases bj:j<k
      ·have M:j<k+1:=by omega
       simp[e,bj,M,Ob0 (show j<bs.length by omega)]
      have M:¬ j<k+1:=by omega
      simp[e,bj,M]
     ·by_cases e:j<bs.length
      ·rw[Ob0 e]at z
       obtain⟨bZ,cJ⟩:=bh.out j b z
       exact⟨bZ.of_block (bV.out b bZ.lt (by omega)),cJ⟩
      have R:=bf.out
      have C:j=k:=by
       have:=(Ob9.1 z).1
       simp at this
       omega
      subst C
      rw[←R,Ob6 (Oa2 _),Oe1]at z
      simp at z
      subst z
      exact⟨cc.out,by omega⟩
     show (bs++[y.heap.size]).Nodup
     rw[Op3]
     refine⟨bU.out,by simp,fun a cv b z=>?_⟩
     simp at z
     subst z
     obtain⟨j,C,rfl⟩:=Od5 cv
     have:=(bh.out j _ (Oa3 C)).1.lt
     omega
    case measure=>simp[intOf];omega
  obtain rfl:k=n:=by omega
  go_wp2
  go_ret
  refine⟨rfl,⟨bs,by rw[Uu];exact bf.out,?_,?_,⟨Oa2 _,fun b z=>?_⟩,bU.out⟩,bl⟩
  ·rw[Uu]
   refine H.congr fun j C=>?_
   rw[if_pos C]
   unfold Jad
   rw[Oa0 (l:=Qf k cs),Jge k cs j C]
   simp only[Option.getD_some,Yk]
  ·intro i b r hi bu
   have cA:i<k:=by
    have:=(Ob9.1 bu).1
    rw[Uu]at this
    exact this
   rw[Jge k cs i cA]at bu
   simp at bu
   subst bu
   exact(bh.out i b hi).1
  obtain⟨j,C,rfl⟩:=Od5 z
  have:=(bh.out j _ (Oa3 C)).2
  omega
end Go.Proofs.YtjjdldddcegjiaaGreatDoor
