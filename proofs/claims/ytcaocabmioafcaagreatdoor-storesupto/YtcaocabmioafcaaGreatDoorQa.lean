/- The document's check of a table. -/
import Derived.Test.YtcaocabmioafcaaGreatDoorTt
import Derived.Test.YtcaocabmioafcaaGreatDoorQz
import Derived.Test.YtcaocabmioafcaaGreatDoorTm
import Derived.Test.YtcaocabmioafcaaGreatDoorTg
import Derived.Test.YtcaocabmioafcaaGreatDoorKm
import Derived.Test.YtcaocabmioafcaaGreatDoorSe
set_option maxHeartbeats 4000000
set_option maxRecDepth 100000
namespace Go.Proofs.YtcaocabmioafcaaGreatDoor
section
open Go.RowKit Go.Shelf Tryz
attribute [local go_sem] Oc0
theorem Kym (name:ByteArray)(at_ ar ah:Option Addr)(ct cr ch:Nat)(ts hs:List Int)(xs:List (Option Addr×Nat))(rs:List (List V))(g:Int)(w:World)(bj:Kct w name at_ ar ah cr ts hs xs rs)(b:Bool)(bA:b=true↔Jel name ts rs∧Je3 ts hs∧1≤g∧g≤64) :
  Calls prog 64 #[Jvc name at_ ar ct cr ts rs,.slice ah hs.length ch,.int .i64 g] w fun e w'=>e=.returned (.bool b)∧Below w.heap.size w w':=by
 unfold Jvc
 have cE:=bj.ln
 have cf:=bj.lt
 have cF:=bj.lr
 have ci:=bj.lh
 unfold maxLen at cE cf cF ci
 have bk:Hid (Kct w name at_ ar ah cr ts hs xs rs):=bj
 have bS:Hid (b=true↔Jel name ts rs∧Je3 ts hs∧1≤g∧g≤64):=bA
 have O:Hid (¬ (Jel name ts rs∧Je3 ts hs∧1≤g∧g≤64)→Hid (b=false)):=fun h=>by
  show b=false
  cases bA:b with
  |false=>rfl
  |true=>exact absurd (bS.out.1 bA) h
 clear bj bA
 have ca:Below w.heap.size w (w.alloc (.cells #[.string name,.slice at_ ts.length ct,.slice ar rs.length cr] 30)):=(Oa5 _ _).alloc (Oa2 _) _
 have cu:Hid (Below w.heap.size w (w.alloc (.cells #[.string name,.slice at_ ts.length ct,.slice ar rs.length cr] 30))):=ca
 clear ca
 by_cases bJ:name.size=0
 ·have I:Hid (b=false):=O.out fun h=>by have:=h.1.1;omega
  go_enter func64,ntmps64
  go_wp2
  all_goals
   go_ret
   exact⟨Qr I.out.symm,(Oa5 _ _).alloc (Oa2 _) _⟩
 by_cases cG:20<name.size
 ·have I:Hid (b=false):=O.out fun h=>by have:=h.1.1;omega
  go_enter func64,ntmps64
  go_wp2
  all_goals
   go_ret
   exact⟨Qr I.out.symm,(Oa5 _ _).alloc (Oa2 _) _⟩
 by_cases cx:ts.length=0
 ·have I:Hid (b=false):=O.out fun h=>by have:=h.1.2.1.1;omega
  go_enter func64,ntmps64
  go_wp2
  all_goals
   go_ret
   exact⟨Qr I.out.symm,(Oa5 _ _).alloc (Oa2 _) _⟩
 by_cases cy:6<ts.length
 ·have I:Hid (b=false):=O.out fun h=>by have:=h.1.2.1.1;omega
  go_enter func64,ntmps64
  go_wp2
  all_goals
   go_ret
   exact⟨Qr I.out.symm,(Oa5 _ _).alloc (Oa2 _) _⟩
 by_cases cH:200<rs.length
 ·have I:Hid (b=false):=O.out fun h=>by have:=h.1.2.2.1;omega
  go_enter func64,ntmps64
  go_wp2
  all_goals
   go_ret
   exact⟨Qr I.out.symm,(Oa5 _ _).alloc (Oa2 _) _⟩
 by_cases bZ:¬ hs.length=ts.length
 ·have I:Hid (b=false):=O.out fun h=>bZ h.2.1.1
  have de:¬ ((hs.length:Int)=(ts.length:Int)):=by omega
  go_enter func64,ntmps64
  go_wp2
  all_goals
   go_ret
   exact⟨Qr I.out.symm,(Oa5 _ _).alloc (Oa2 _) _⟩
 obtain⟨n,cb⟩:∃ n,n=ts.length:=⟨_,rfl⟩
 have bW:Hid (n=ts.length∧n=hs.length∧1≤n):=⟨cb,by omega,by omega⟩
 have cO:n≤6:=by omega
 have cN:1≤n:=by omega
 have X:hs.length=n:=by omega
 have Y:ts.length=n:=by omega
 rw[X,Y]
 clear cf ci cx cy bZ cb X Y cu
 by_cases cI:g≤0
 ·have I:Hid (b=false):=O.out fun h=>by have:=h.2.2;omega
  go_enter func64,ntmps64
  go_wp2
  all_goals
   go_ret
   exact⟨Qr I.out.symm,(Oa5 _ _).alloc (Oa2 _) _⟩
 by_cases cJ:64<g
 ·have I:Hid (b=false):=O.out fun h=>by have:=h.2.2;omega
  go_enter func64,ntmps64
  go_wp2
  all_goals
   go_ret
   exact⟨Qr I.out.symm,(Oa5 _ _).alloc (Oa2 _) _⟩
 have M:Hid (n=ts.length∧n=hs.length∧1≤n∧n≤6∧(1≤name.size∧name.size≤20)∧rs.length≤200∧1≤g∧g≤64):=⟨bW.out.1,bW.out.2.1,by omega,by omega,by omega,by omega,by omega,by omega⟩
 obtain⟨W,hW⟩:∃ W,W=w.alloc (.cells #[.string name,.slice at_ n ct,.slice ar rs.length cr] 30):=⟨_,rfl⟩
 have bi:Hid (W.heap[w.heap.size]?=some (.cells #[.string name,.slice at_ n ct,.slice ar rs.length cr] 30 (0,0))∧w.heap.size<W.heap.size∧Below w.heap.size w W):=⟨by rw[hW];exact heap_alloc_new _ _,by rw[hW];simp,by rw[hW];exact(Oa5 _ _).alloc (Oa2 _) _⟩
 have cY:((name.size:Int)==0)=false:=by rw[beq_eq_false_iff_ne];omega
 have cZ:¬ (20<(name.size:Int)):=by omega
 have da:((n:Int)==0)=false:=by rw[beq_eq_false_iff_ne];omega
 have db:¬ (6<(n:Int)):=by omega
 have dc:¬ (200<(rs.length:Int)):=by omega
 go_enter func64,ntmps64
 go_upto_region 7 with fail
 rw[←hW]
 clear hW
 go_loopw [8] (fun i wr=>∃ k:Nat,k≤n∧i=.int .i64 k∧Below W.heap.size W wr∧Hid (∀ j (H:j<hs.length),j<k→way (ts.getD j 0) hs[j]=true)) (fun i _=>n-(intOf i).toNat)
 case atStart=>exact⟨0,Ob7 _,rfl,Oa5 _ _,fun j _ H=>absurd H (Oe0 _)⟩
 case round=>
  obtain⟨k,hk,rfl,J,K⟩:=hrel
  have L:Hid (Below W.heap.size W wr∧Below w.heap.size w wr):=⟨J,Jb bi.out.2.2 J⟩
  have bc:wr.heap[w.heap.size]?=some (.cells #[.string name,.slice at_ n ct,.slice ar rs.length cr] 30 (0,0)):=(J.block _ bi.out.2.1).trans bi.out.1
  have c1:wr.cell? ⟨w.heap.size,1,none⟩=some (.slice at_ n ct):=by simp[World.cell?,bc]
  have c2:wr.cell? ⟨w.heap.size,2,none⟩=some (.slice ar rs.length cr):=by simp[World.cell?,bc]
  clear J bc
  by_cases cC:k<n
  ·have bu:k<ts.length:=by have:=M.out.1;omega
   have bx:k<hs.length:=by have:=M.out.2.1;omega
   obtain⟨b1,o1,rfl,_,bf⟩:=(show Kc wr at_ ts from bk.out.types.below L.out.2).at bu
   obtain⟨b2,o2,rfl,_,bN⟩:=(show Kc wr ah hs from bk.out.hows.below L.out.2).at bx
   have ba:Hid (ts.getD k 0=ts[k]):=by show _=_;simp[bu]
   have bl:Hid (∀ x y:Int,ts[k]=x→hs[k]=y→((∀ j (H:j<hs.length),j<k+1→way (ts.getD j 0) hs[j]=true)↔way x y=true)):=fun x y X Y=>⟨fun h=>by rw[←X,←Y,←ba.out];exact h k bx (by omega),fun h j H cA=>by
    by_cases e:j=k
    ·subst e;rw[ba.out,X,Y];exact h
    exact K.out j H (by omega)⟩
   have Z:=bl.out _ _ rfl rfl
   generalize ts[k]=x at bf Z
   generalize hs[k]=y at bN Z
   have bn:Hid ((∀ j (H:j<hs.length),j<k+1→way (ts.getD j 0) hs[j]=true)↔way x y=true):=Z
   have bb:Hid (k<n):=cC
   have cP:(0:Int)≤(k:Int):=by omega
   have cQ:(k:Int)<(n:Int):=by omega
   clear Z bl ba K
   go_upto_region 9 with fail
   refine wp_region_held_drew (S:=fun N=>N.cell? ⟨w.heap.size,1,none⟩=some (.slice (some ⟨b1,o1,none⟩) n ct)∧N.cell? ⟨b1,o1+k,none⟩=some (.int .i64 x)∧N.cell? ⟨b2,o2+k,none⟩=some (.int .i64 y)) (by kernel_rfl) ⟨Jh c1,Jh bf,Jh bN⟩ (fun A=>?_)
   refine Kn 0 rfl A ?_
   refine Kn 1 rfl A ?_
   refine Kn 2 rfl A ?_
   refine Kn 3 rfl A ?_
   refine Kn 4 rfl A ?_
   refine Kn 5 rfl A ?_
   refine Kn 6 rfl A ?_
   refine Kn 7 rfl A ?_
   refine Kn 8 rfl A ?_
   refine tkn ?_
   refine tkr 9 rfl fun bI br=>?_
   go_simp
   refine(Ku5 x y _).mono ?_
   rintro e cl ⟨rfl,R⟩
   subst R
   go_simp
   refine br.out _ _ A (fun A=>?_)
   clear br bI
   refine Kn 10 rfl A ?_
   refine tkn ?_
   refine wpAnyH_done (by kernel_rfl) ?_ _
   clear bf bN c1 c2
   cases ho:way x y with
   |false=>
    have I:Hid (b=false):=O.out fun h=>by have:=bn.out.1 fun j H _=>h.2.1.2 j H;rw[ho]at this;cases this
    clear ho
    go_wp2
    go_ret
    exact⟨Qr I.out.symm,Jj L.out.2⟩
   |true=>
    have bG:Hid (way x y=true):=ho
    clear ho
    go_wp2
    go_roundw
    case rel=>exact⟨k+1,bb.out,by have:=bb.out;go_num,Jj L.out.1,bn.out.2 bG.out⟩
    case measure=>have:=bb.out;simp[intOf];omega
  obtain rfl:k=n:=by omega
  have bY:Hid (Je3 ts hs∧∀ j (H:j<ts.length),Jnd ts[j]=true):=by
   have X:=M.out.1
   have Y:=M.out.2.1
   have bJ:∀ j (H:j<hs.length),way (ts.getD j 0) hs[j]=true:=fun j H=>K.out j H (by omega)
   refine⟨⟨by omega,bJ⟩,fun j H=>?_⟩
   have:=bJ j (by omega)
   rw[show ts.getD j 0=ts[j] by simp[H]]at this
   unfold way at this
   unfold Jnd
   simp only[decide_eq_true_iff]at this ⊢
   omega
  clear K
  have cR:¬ ((k:Int)<(k:Int)):=by omega
  go_upto_region 13 with fail
  clear c1 c2
  go_loopw [10] (fun i bR=>∃ m:Nat,m≤rs.length∧i=.int .i64 m∧Below W.heap.size W bR∧Hid (∀ i (hi:i<rs.length),i<m→rs[i].length=ts.length∧∀ j (H:j<rs[i].length),okB (ts.getD j 0) rs[i][j].k rs[i][j].n rs[i][j].s=true)) (fun i _=>rs.length-(intOf i).toNat)
  case atStart=>exact⟨0,Ob7 _,rfl,L.out.1,fun j _ H=>absurd H (Oe0 _)⟩
  case round=>
   clear L
   obtain⟨m,cM,rfl,J,K⟩:=hrel
   have L:Hid (Below W.heap.size W wr∧Below w.heap.size w wr):=⟨J,Jb bi.out.2.2 J⟩
   have bc:wr.heap[w.heap.size]?=some (.cells #[.string name,.slice at_ k ct,.slice ar rs.length cr] 30 (0,0)):=(J.block _ bi.out.2.1).trans bi.out.1
   have c1:wr.cell? ⟨w.heap.size,1,none⟩=some (.slice at_ k ct):=by simp[World.cell?,bc]
   have c2:wr.cell? ⟨w.heap.size,2,none⟩=some (.slice ar rs.length cr):=by simp[World.cell?,bc]
   clear J bc
   by_cases bB:m<rs.length
   ·obtain⟨b3,o3,cj,ck,rfl,_,bh,bM⟩:=(bk.out.rows.below L.out.2).at bB
    have bX:Hid (∀ r,rs[m]?=some r→r.length≤9223372036854775807):=fun r bL=>by
     have:=bk.out.lrr r (Of6 bL)
     unfold maxLen at this
     omega
    have bV:Hid (∀ r,rs[m]?=some r→((∀ i (hi:i<rs.length),i<m+1→rs[i].length=ts.length∧∀ j (H:j<rs[i].length),okB (ts.getD j 0) rs[i][j].k rs[i][j].n rs[i][j].s=true)↔(r.length=ts.length∧∀ j (H:j<r.length),okB (ts.getD j 0) r[j].k r[j].n r[j].s=true))):=fun r bL=>by
     obtain⟨cB,rfl⟩:=Ob9.1 bL
     refine⟨fun h=>h m cB (by omega),fun h i hi cL=>?_⟩
     by_cases e:i=m
     ·subst e;exact h
     exact K.out i hi (by omega)
    have cc:=bX.out _ (Oa3 bB)
    have bK:=bV.out _ (Oa3 bB)
    generalize rs[m]=r at bh bM cc bK
    have bz:Hid (((∀ i (hi:i<rs.length),i<m+1→rs[i].length=ts.length∧∀ j (H:j<rs[i].length),okB (ts.getD j 0) rs[i][j].k rs[i][j].n rs[i][j].s=true)↔(r.length=ts.length∧∀ j (H:j<r.length),okB (ts.getD j 0) r[j].k r[j].n r[j].s=true))∧Jv wr cj r):=⟨bK,bM⟩
    have cS:(0:Int)≤(m:Int):=by omega
    have cT:(m:Int)<(rs.length:Int):=by omega
    have bE:Hid (m<rs.length):=bB
    clear bK bM bV bX K
    by_cases bC:r.length=k
    rotate_left
    ·have I:Hid (b=false):=O.out fun h=>bC (by have:=(bz.out.1.1 fun i hi _=>h.1.2.2.2 i hi).1;have:=M.out.1;omega)
     have k1:¬ ((r.length:Int)=(k:Int)):=by omega
     go_wp2
     go_ret
     exact⟨Qr I.out.symm,L.out.2⟩
    have bH:Hid (r.length=k):=bC
    rw[bC]at bh
    clear bC cc
    go_upto_region 18 with fail
    have bD:Hid (wr.cell? ⟨w.heap.size,1,none⟩=some (.slice at_ k ct)∧wr.cell? ⟨w.heap.size,2,none⟩=some (.slice (some ⟨b3,o3,none⟩) rs.length cr)∧wr.cell? ⟨b3,o3+m,none⟩=some (.slice cj k ck)):=⟨c1,c2,bh⟩
    clear c1 c2 bh
    obtain⟨U,cz⟩:∃ U,U=wr:=⟨_,rfl⟩
    subst cz
    go_loopw [11] (fun i bR=>∃ c:Nat,c≤k∧i=.int .i64 c∧Below U.heap.size U bR∧Hid (∀ j (H:j<r.length),j<c→okB (ts.getD j 0) r[j].k r[j].n r[j].s=true)) (fun i _=>k-(intOf i).toNat)
    case atStart=>exact⟨0,Ob7 _,rfl,Oa5 _ _,fun j _ H=>absurd H (Oe0 _)⟩
    case round=>
     obtain⟨c,cK,rfl,J,K⟩:=hrel
     have bT:Hid (Below U.heap.size U wr):=J
     by_cases cD:c<k
     ·have bu:c<ts.length:=by have:=M.out.1;omega
      have bx:c<r.length:=by have:=bH.out;omega
      have c1:=Ja J bD.out.1
      have c2:=Ja J bD.out.2.1
      have bh:=Ja J bD.out.2.2
      obtain⟨b1,o1,rfl,_,bf⟩:=(show Kc wr at_ ts from bk.out.types.below (Jb L.out.2 J)).at bu
      obtain⟨b2,o2,rfl,_,bO,bP,bQ⟩:=(bz.out.2.below J).at bx
      have ba:Hid (ts.getD c 0=ts[c]):=by show _=_;simp[bu]
      have bl:Hid (∀ (x:Int) (v:V),ts[c]=x→r[c]=v→((∀ j (H:j<r.length),j<c+1→okB (ts.getD j 0) r[j].k r[j].n r[j].s=true)↔okB x v.k v.n v.s=true)):=fun x v X Y=>⟨fun h=>by rw[←X,←Y,←ba.out];exact h c bx (by omega),fun h j H cA=>by
       by_cases e:j=c
       ·subst e;rw[ba.out,X,Y];exact h
       exact K.out j H (by omega)⟩
      have Z:=bl.out _ _ rfl rfl
      generalize ts[c]=x at bf Z
      generalize r[c]=v at bO bP bQ Z
      have bn:Hid ((∀ j (H:j<r.length),j<c+1→okB (ts.getD j 0) r[j].k r[j].n r[j].s=true)↔okB x v.k v.n v.s=true):=Z
      have bb:Hid (c<k):=cD
      have cU:(0:Int)≤(c:Int):=by omega
      have cV:(c:Int)<(k:Int):=by omega
      clear Z bl ba K J
      go_upto_region 20 with fail
      refine wp_region_held_drew (S:=fun N=>(N.cell? ⟨w.heap.size,1,none⟩=some (.slice (some ⟨b1,o1,none⟩) k ct)∧N.cell? ⟨w.heap.size,2,none⟩=some (.slice (some ⟨b3,o3,none⟩) rs.length cr)∧N.cell? ⟨b3,o3+m,none⟩=some (.slice (some ⟨b2,o2,none⟩) k ck)∧N.cell? ⟨b1,o1+c,none⟩=some (.int .i64 x)∧N.cell? ⟨b2,o2+c*3,none⟩=some (.int .i64 v.k)∧N.cell? ⟨b2,o2+c*3+1,none⟩=some (.int .i64 v.n)∧N.cell? ⟨b2,o2+c*3+2,none⟩=some (.string v.s))∧Below U.heap.size U N) (by kernel_rfl) ⟨⟨Jh c1,Jh c2,Jh bh,Jh bf,Jh bO,Jh bP,Jh bQ⟩,Jj bT.out⟩ (fun A=>?_)
      refine Kn 0 rfl A ?_
      refine Kn 1 rfl A ?_
      refine Kn 2 rfl A ?_
      refine Kn 3 rfl A ?_
      refine Kn 4 rfl A ?_
      refine Kn 5 rfl A ?_
      refine Kn 6 rfl A ?_
      refine Kn 7 rfl A ?_
      refine Kn 8 rfl A ?_
      refine Kn 9 rfl A ?_
      refine Kn 10 rfl A ?_
      refine Kn 11 rfl A ?_
      refine Kn 12 rfl A ?_
      refine tkn ?_
      refine tkr 13 rfl fun bI br=>?_
      go_simp
      refine(Kwt v.k v.n v.s x _).mono ?_
      rintro e cl ⟨rfl,R⟩
      go_simp
      refine br.out _ _ ⟨⟨Ja R A.1.1,Ja R A.1.2.1,Ja R A.1.2.2.1,Ja R A.1.2.2.2.1,Ja R A.1.2.2.2.2.1,Ja R A.1.2.2.2.2.2.1,Ja R A.1.2.2.2.2.2.2⟩,Jb A.2 R⟩ (fun A=>?_)
      clear br bI R
      refine Kn 14 rfl A ?_
      refine tkn ?_
      refine wpAnyH_done (by kernel_rfl) ?_ _
      clear bf bO bP bQ c1 c2 bh
      have bU:Hid (Below U.heap.size U cl):=A.2
      clear A
      cases ho:okB x v.k v.n v.s with
      |false=>
       have I:Hid (b=false):=O.out fun h=>by have:=bn.out.1 fun j H _=>(bz.out.1.1 fun i hi _=>h.1.2.2.2 i hi).2 j H;rw[ho]at this;cases this
       clear ho
       go_wp2
       go_ret
       exact⟨Qr I.out.symm,Jb L.out.2 bU.out⟩
      |true=>
       have bG:Hid (okB x v.k v.n v.s=true):=ho
       clear ho
       go_wp2
       go_roundw
       case rel=>exact⟨c+1,bb.out,by have:=bb.out;go_num,bU.out,bn.out.2 bG.out⟩
       case measure=>have:=bb.out;simp[intOf];omega
     obtain rfl:c=k:=by omega
     have cv:Hid (∀ j (H:j<r.length),okB (ts.getD j 0) r[j].k r[j].n r[j].s=true):=fun j H=>K.out j H (by have:=bH.out;omega)
     clear K J
     have cW:¬ ((c:Int)<(c:Int)):=by omega
     go_wp2
     go_roundw
     case rel=>exact⟨m+1,bE.out,by have:=bE.out;go_num,Jb L.out.1 bT.out,bz.out.1.2 ⟨by have:=bH.out;have:=M.out.1;omega,cv.out⟩⟩
     case measure=>have:=bE.out;simp[intOf];omega
   have cX:¬ ((m:Int)<(rs.length:Int)):=by omega
   have cn:Hid (b=true):=bS.out.2 ⟨⟨M.out.2.2.2.2.1,⟨⟨by have:=M.out.1;have:=M.out.2.2.1;omega,by have:=M.out.1;omega⟩,bY.out.2⟩,M.out.2.2.2.2.2.1,fun i hi=>K.out i hi (by omega)⟩,bY.out.1,M.out.2.2.2.2.2.2⟩
   clear K
   go_wp2
   go_ret
   exact⟨Qr cn.out.symm,L.out.2⟩
end
section
open Go.RowKit
def Jex (rs:List (List V))(m o p k:Nat):List (List V):=rs.mapIdx fun i r=>if i<o then r else if i<o+p then r.take k++List.replicate (m-k) Jf else List.replicate m Jf
theorem Jv4 (rs:List (List V))(m p:Nat):Jex rs m 0 p 0=List.replicate rs.length (List.replicate m Jf):=by
 apply Oi8
 intro i
 rw[Jex,Oh8,Of3]
 by_cases hi:i<rs.length
 ·rw[if_pos hi,Oa3 hi]
  simp
 rw[if_neg hi,Ob4 (by omega)]
 rfl
theorem Kac (rs:List (List V))(m o p I L:Nat)(K:∀ r∈rs,r.length=m)(h:∀ i,i<rs.length→(i<o+p↔i<I)):Jex rs m o p m=Jex rs m I L 0:=by
 apply Oi8
 intro i
 rw[Jex,Jex,Oh8,Oh8]
 by_cases hi:i<rs.length
 ·rw[Oa3 hi]
  simp only[Option.map_some]
  have J:=K _ (Ob3 hi)
  have:=h i hi
  by_cases A:i<o
  ·rw[if_pos A,if_pos (by omega)]
  rw[if_neg A]
  by_cases H:i<o+p
  ·rw[if_pos H,if_pos (by omega)]
   simp[←J]
  rw[if_neg H,if_neg (by omega)]
  simp
 rw[Ob4 (by omega)]
 rfl
theorem Kb8 (rs:List (List V))(m o p:Nat)(h:rs.length≤o):Jex rs m o p 0=rs:=by
 apply Oi8
 intro i
 rw[Jex,Oh8]
 by_cases hi:i<rs.length
 ·rw[Oa3 hi]
  simp only[Option.map_some]
  rw[if_pos (by omega)]
 rw[Ob4 (by omega)]
 rfl
theorem Kh7 (A:List V)(c n:Nat)(u:V)(H:A.length=c)(K:c<n):(A++List.replicate (n-c) Jf).set c u=A++[u]++List.replicate (n-(c+1)) Jf:=by
 obtain⟨d,I⟩:∃ d,n-c=d+1:=⟨n-c-1,by omega⟩
 have J:n-(c+1)=d:=by omega
 rw[I,J,List.replicate_succ,Ok4 _ _ (by omega),H,Oe1,List.set_cons_zero]
 simp
theorem Kam (rs:List (List V))(m o p k:Nat)(K:∀ r∈rs,r.length=m)(hk:k<m)(O:o+p≤rs.length):Ji6 (Jex rs m o p k) o k (Jaj (Uk rs (o,p)) k)=Jex rs m o p (k+1):=by
 have M:(Jaj (Uk rs (o,p)) k).length=p:=by simp[Jaj,Uk];omega
 apply Oi8
 intro i
 rw[Ji6,Oh8,Jex,Jex,Oh8,Oh8,M]
 by_cases hi:i<rs.length
 ·rw[Oa3 hi]
  simp only[Option.map_some]
  have J:=K _ (Ob3 hi)
  by_cases H:i<o
  ·rw[if_pos H,if_neg (by omega),if_pos H]
  rw[if_neg H,if_neg H]
  by_cases A:i<o+p
  ·rw[if_pos A,if_pos ⟨by omega,A⟩,if_pos A]
   have L:(Jaj (Uk rs (o,p)) k).getD (i-o) Jf=rs[i][k]:=by
    have N:(Uk rs (o,p))[i-o]?=some rs[i]:=by
     simp only[Uk]
     rw[Oh3 (by omega),Oh9,show o+(i-o)=i by omega,Oa3 hi]
    have I:(Jaj (Uk rs (o,p)) k)[i-o]?=some (rs[i].getD k Jf):=by
     simp only[Jaj,Ob1,N,Option.map_some]
    rw[Oa0,I]
    simp[J,hk]
   rw[L,Kh7 _ k m _ (by simp;omega) hk,Oc4 (by omega)]
  rw[if_neg A,if_neg (by omega),if_neg A]
 rw[Ob4 (by omega)]
 rfl
theorem Joo (D:DS)(rs:List (List V))(m:Nat)(A:List (List Nat))(ts:List Int)(x:Nat×Nat)(I:∀ r∈rs,r.length=m)(H:x.1+x.2≤rs.length)(J:∀ c,c<m→Us D (A.getD c []) (ts.getD c 0) x.2=.inl (Jaj (Uk rs x) c)) :
  ∀ k,k≤m→Jil D A ts x (Jex rs m x.1 x.2 0) k=.inl (Jex rs m x.1 x.2 k)
 |0,_=>rfl
 |k+1,hk=>by
  simp only[Jil,Joo D rs m A ts x I H J k (by omega),J k (by omega)]
  exact congrArg _ (Kam rs m x.1 x.2 k I (by omega) H)
theorem Jjr (len g j:Nat)(K:1≤g)(A:j<ckN len g):(Jaa len g j).1+(Jaa len g j).2≤len∧1≤(Jaa len g j).2∧∀ i,i<len→(i<(Jaa len g j).1+(Jaa len g j).2↔i<(Jaa len g (j+1)).1):=by
 have I:j*g<len:=by
  unfold ckN at A
  have H:(j+1)*g≤(len+g-1) / g*g:=Om8 g A
  have J:=Nat.div_mul_le_self (len+g-1) g
  rw[Of5]at H
  omega
 simp only[Jaa]
 rw[Of5]
 exact⟨by omega,by omega,fun i hi=>by omega⟩
theorem Jxu (len g:Nat)(I:1≤g):len≤(Jaa len g (ckN len g)).1:=by
 simp only[Jaa,ckN]
 have h:=Nat.div_add_mod (len+g-1) g
 have A:=Ol0 (len+g-1) (show g>0 by omega)
 have H:g*((len+g-1) / g)=(len+g-1) / g*g:=Nat.mul_comm _ _
 omega
theorem Joa (D:DS)(rs:List (List V))(ts:List Int)(H:List (List Nat))(g:Nat)(I:1≤g)(A:∀ r∈rs,r.length=ts.length)
  (J:∀ j c,j<ckN rs.length g→c<ts.length→Us D (H.getD (j*ts.length+c) []) (ts.getD c 0) (Jaa rs.length g j).2=.inl (Jaj (Uk rs (Jaa rs.length g j)) c)) :
  ∀ k,k≤ckN rs.length g→∃ p,(Jkh D ts H (List.replicate rs.length (List.replicate ts.length Jf)) (cks rs.length g k)).1=.inl (Jex rs ts.length (Jaa rs.length g k).1 p 0)
 |0,_=>⟨0,by
  show Sum.inl _=Sum.inl _
  rw[←Jv4 rs ts.length 0]
  simp[Jaa]⟩
 |k+1,hk=>by
  obtain⟨p,O⟩:=Joa D rs ts H g I A J k (by omega)
  obtain⟨K,R,L⟩:=Jjr rs.length g k I (by omega)
  rw[Jbj,Jm6]
  simp only[Jox]
  rw[O,Jme,Jbp]
  have N:Jex rs ts.length (Jaa rs.length g k).1 p 0=Jex rs ts.length (Jaa rs.length g k).1 (Jaa rs.length g k).2 0:=by
   apply Oi8
   intro i
   rw[Jex,Jex,Oh8,Oh8]
   cases rs[i]? with
   |none=>rfl
   |some r=>simp
  refine⟨0,?_⟩
  simp only
  rw[N,Joo D rs ts.length _ ts _ A K (fun c M=>?_) ts.length (Oa2 _)]
  ·exact congrArg _ (Kac rs ts.length _ _ _ 0 A L)
  rw[←J k c (by omega) M]
  congr 1
  simp[List.getD_eq_getElem?_getD,List.getElem?_drop]
theorem Jov (rows:List (List V))(ts hs:List Int):∀ (k:Nat) (l:List (List UInt8)),Jeo rows ts hs k=.inl l→∀ c,c<k→l[c]?=some (Uo rows ts hs c).1∧(Uo rows ts hs c).2=0
 |0,l,h,c,I=>by omega
 |k+1,l,h,c,I=>by
  simp only[Jeo]at h
  split at h
  ·simp at h
  rename_i H A
  split at h
  ·rename_i h0
   simp at h
   subst h
   have J:=Jjc rows ts hs k H A
   by_cases e:c=k
   ·subst e
    rw[Ob6 (by omega)]
    simp[J,h0]
   rw[Ob0 (by omega)]
   exact Jov rows ts hs k H A c (by omega)
  simp at h
theorem Jpd (rs:List (List V))(ts hs:List Int)(len g:Nat):∀ (n:Nat) (T:List (List UInt8)),Jfg rs ts hs (cks len g n)=.inl T→∀ j c,j<n→c<ts.length→T[j*ts.length+c]?=some (Uo (Uk rs (Jaa len g j)) ts hs c).1∧(Uo (Uk rs (Jaa len g j)) ts hs c).2=0
 |0,T,h,j,c,L,_=>by omega
 |n+1,T,h,j,c,L,I=>by
  rw[Jbj,Juv]at h
  simp only[Jiu]at h
  split at h
  ·simp at h
  rename_i A H
  split at h
  ·rename_i l M
   simp at h
   subst h
   have J:=(Jte rs ts hs _ A H).1
   rw[Jbp]at J
   by_cases e:j=n
   ·subst e
    rw[Ob6 (by omega),J,Nat.add_sub_cancel_left]
    exact Jov _ ts hs _ l M c I
   have K:(j+1)*ts.length≤n*ts.length:=Om8 _ (by omega)
   rw[Of5]at K
   rw[Ob0 (by omega)]
   exact Jpd rs ts hs len g n A H j c (by omega) I
  simp at h
theorem Kjs {l:List Int}{c:Nat}(h:c<l.length):l.getD c 0∈l:=by
 rw[show l.getD c 0=l[c] by simp[h]]
 exact Ob3 _
theorem Kkg {name:ByteArray}{ts hs:List Int}{rs:List (List V)}{g:Nat}{T:List (List UInt8)}(U:Jel name ts rs)(Y:hs.length=ts.length)(hW:∀ x∈hs,Kjk x)(H:Jfg rs ts hs (cks rs.length g (ckN rs.length g))=.inl T):∀ t∈T,Kje t:=by
 intro t R t' Z ba bb A
 obtain⟨i,hi,rfl⟩:=Od5 R
 have J:=(Jte rs ts hs _ T H).1
 rw[Jbp]at J
 have h0:0<ts.length:=U.2.1.1.1
 have M:=Nat.div_add_mod i ts.length
 have N:=Ol0 i h0
 have O:i / ts.length<ckN rs.length g:=(Nat.div_lt_iff_lt_mul h0).2 (by omega)
 obtain⟨I,X⟩:=Jpd rs ts hs rs.length g _ T H _ _ O N
 rw[Nat.mul_comm,M,Oa3 hi,Oc9]at I
 have K:Jev (ts.getD (i % ts.length) 0) (hs.getD (i % ts.length) 0) (Jaj (Uk rs (Jaa rs.length g (i / ts.length))) (i % ts.length))=(T[i],0):=Prod.ext I.symm X
 obtain⟨_,_,_,_,e,L⟩:=Kja K
 rw[L]at A
 simp only[Oc9,Oj3]at A
 rw[←A.1.2.1,e]
 exact hW _ (Kjs (by omega))
theorem Jqv (E:DS)(name:ByteArray)(ts hs:List Int)(rs:List (List V))(g:Nat)(T:List (List UInt8))(A:List (List Nat))(R:Jel name ts rs)(J:1≤g)(bf:∀ r∈rs,∀ v∈r,Jg v.n)(Y:∀ x∈hs,Kkn x)(br:hs.length=ts.length)
  (bi:Jfg rs ts hs (cks rs.length g (ckN rs.length g))=.inl T) (bu:A.length=T.length) (bc:∀ (i:Nat) (X:i<A.length) (bn:i<T.length),Jan E A[i] T[i]) :
  Jgp E ⟨name,ts,rs.length,g,A⟩=.inl rs:=by
 have I:∀ r∈rs,r.length=ts.length:=fun r I=>by
  obtain⟨i,hi,rfl⟩:=Od5 I
  exact(R.2.2.2 i hi).1
 have K:∀ j c,j<ckN rs.length g→c<ts.length→Us E (A.getD (j*ts.length+c) []) (ts.getD c 0) (Jaa rs.length g j).2=.inl (Jaj (Uk rs (Jaa rs.length g j)) c):=by
  intro j c L H
  obtain⟨Z,h0⟩:=Jpd rs ts hs rs.length g _ T bi j c L H
  obtain⟨bb,ba⟩:=Ob9.1 Z
  have M:j*ts.length+c<A.length:=by omega
  have O:=(bc _ M bb).read
  rw[ba]at O
  obtain⟨X,_,_⟩:=Jjr rs.length g j J L
  have bl:(Uk rs (Jaa rs.length g j)).length=(Jaa rs.length g j).2:=by simp[Uk];omega
  have bj:=Ki9 (ts.getD c 0) (hs.getD c 0) (Y _ (Kjs (by omega))) (Jaj (Uk rs (Jaa rs.length g j)) c) (Uo (Uk rs (Jaa rs.length g j)) ts hs c).1 (by
   unfold Uo at h0 ⊢
   exact Prod.ext rfl h0) (fun v K=>by
    obtain⟨r,bk,rfl⟩:=Of0.1 K
    have N:r∈rs:=Oh7 (Om9 bk)
    have bh:=I r N
    have:r.getD c Jf=r[c]:=by simp[bh,H]
    rw[this]
    exact bf r N _ (Ob3 _))
  unfold Us
  rw[show A.getD (j*ts.length+c) []=A[j*ts.length+c] by simp[M],O]
  simp only[bj]
  have U:Jnd (ts.getD c 0)=true:=by
   have:=R.2.1.2 c H
   simpa [H] using this
  unfold Jnd at U
  simp only[decide_eq_true_iff]at U
  rw[if_pos ⟨by omega,by rw[←bl];simp[Jaj]⟩]
 obtain⟨p,h⟩:=Joa E rs ts A g J I K (ckN rs.length g) (Oa2 _)
 unfold Jgp
 simp only
 rw[h,Kb8 rs ts.length _ _ (Jxu rs.length g J)]
end
section
open Go.RowKit
theorem Jmw:∀ (H:List (List UInt8))(D:DS),((Js D.pages:Nat):Int)≤D.quota→(Uy D H).2.2=none→((Js (Uy D H).1.pages:Nat):Int)≤D.quota
 |[],D,h,_=>by simpa [Uy] using h
 |p::H,D,h,A=>by
  unfold Uy at A ⊢
  by_cases I:D.quota≤((Js D.pages:Nat):Int)
  ·rw[if_pos I]at A;simp at A
  rw[if_neg I]at A ⊢
  by_cases J:wrap64 (D.writes+1)=D.fail
  ·rw[if_pos J]at A;simp at A
  rw[if_neg J]at A ⊢
  have:=Jmw H (Zn D p) (by rw[Jm8];show _≤D.quota;omega) A
  exact this
theorem Jh1:∀ (ts:List (List UInt8))(D:DS),((Js D.pages:Nat):Int)≤D.quota→(Jq D ts).2.2=none→((Js (Jq D ts).1.pages:Nat):Int)≤D.quota
 |[],D,h,_=>by simpa [Jq] using h
 |t::ts,D,h,A=>by
  have H:=Jmw (Qu t) D h
  have I:=(Jc1 (Qu t) D).1
  unfold Jq at A ⊢
  rcases hr:Uy D (Qu t)with⟨E,l,r⟩
  rw[hr]at A H I
  cases r with
  |none=>
   have J:E.quota=D.quota:=(I rfl).quota
   have:=Jh1 ts E (by rw[J];exact H rfl) A
   rw[J]at this
   exact this
  |some x=>simp at A
theorem Jhk:∀ (ts:List (List UInt8))(D:DS),(Jq D ts).1.pages.length≤D.pages.length+Jch ts
 |[],D=>by simp[Jq,Jch]
 |t::ts,D=>by
  have A:=(Jrh (Qu t) D).1
  unfold Jq
  rcases hr:Uy D (Qu t)with⟨E,l,r⟩
  rw[hr]at A
  rw[Ja1]
  cases r with
  |none=>
   have:=Jhk ts E
   simp only at A this ⊢
   omega
  |some x=>
   simp only at A ⊢
   rw[Jrz]
   omega
structure Jer (D:DS) (T:TS) (rs:List (List V)):Prop where
 cols:1≤T.types.length∧T.types.length≤6
 rows:T.rows≤200
 group:1≤T.group∧T.group≤64
 count:T.segs.length=ckN T.rows T.group*T.types.length
 texts:∃ X:List (List UInt8),X.length=T.segs.length∧(∀ t∈X,t≠[]∧t.length≤6100∧Kje t)∧(∀ (i:Nat) (h1:i<T.segs.length) (h2:i<X.length),Jan D T.segs[i] X[i])∧(∀ E:DS,(∀ (i:Nat) (h1:i<T.segs.length) (h2:i<X.length),Jan E T.segs[i] X[i])→Jgp E T=.inl rs)
theorem Jer.read {D:DS}{T:TS}{rs:List (List V)}(h:Jer D T rs):Jgp D T=.inl rs:=by
 obtain⟨I,_,_,A,H⟩:=h.texts
 exact H D A
theorem Jer.keep {D E:DS}{T:TS}{rs:List (List V)}(h:Jer D T rs)(hk:∀ i∈T.segs.flatten,pg E i=pg D i):Jer E T rs:=by
 obtain⟨A,H,I,J,K⟩:=h.texts
 exact⟨h.cols,h.rows,h.group,h.count,A,H,I,fun i hi L=>(J i hi L).keep fun k M=>hk k (List.mem_flatten.2 ⟨_,Ob3 hi,M⟩),K⟩
theorem Jer.seg {D:DS}{T:TS}{rs:List (List V)}(h:Jer D T rs):∀ l∈T.segs,∃ t,t≠[]∧t.length≤6100∧Jan D l t∧Kje t:=by
 intro l K
 obtain⟨H,L,I,J,M⟩:=h.texts
 obtain⟨i,hi,rfl⟩:=Od5 K
 have A:=I _ (Ob3 (show i<H.length by omega))
 exact⟨_,A.1,A.2.1,J i hi (by omega),A.2.2⟩
theorem Jx9 {D:DS}{l:List Nat}{t:List UInt8}(h:Jan D l t)(I:t≠[])(K:t.length≤6100):l≠[]∧l.length≤1000:=by
 have J:=Jio t
 have A:=h.1
 have H:=Jy1 I
 refine⟨fun e=>H (Od3.1 ?_),by omega⟩
 rw[←A,e];rfl
theorem Jer.inuse {D:DS}{T:TS}{rs:List (List V)}(h:Jer D T rs):∀ i∈T.segs.flatten,∃ p,pg D i=some p:=by
 intro i hi
 obtain⟨l,I,H⟩:=List.mem_flatten.1 hi
 obtain⟨t,_,_,⟨J,A⟩,_⟩:=h.seg l I
 obtain⟨k,hk,rfl⟩:=Od5 H
 exact⟨_,A k hk (by omega)⟩
theorem Jer.ok {D:DS}{T:TS}{rs:List (List V)}(h:Jer D T rs):Jid D T:=by
 refine⟨h.cols,h.rows,h.group,h.count,fun l I=>?_,fun l I t J=>?_⟩
 ·obtain⟨t,A,K,H,_⟩:=h.seg l I
  exact Jx9 H A K
 obtain⟨t',A,K,H,L⟩:=h.seg l I
 rw[H.read]at J
 simp at J
 rw[←J]
 exact⟨A,L⟩
structure Jbc (D:DS) (L:List (TS×List (List V))):Prop where
 tab:∀ x∈L,Jer D x.1 x.2
 nodup:(L.flatMap fun x=>x.1.segs.flatten).Nodup
 all:∀ i p,pg D i=some p→i∈L.flatMap fun x=>x.1.segs.flatten
 used:Js D.pages=(L.flatMap fun x=>x.1.segs.flatten).length
 writes:0≤D.writes
theorem Jbc.empty (q f:Int):Jbc (Ku q f) []:=
 ⟨by simp,by simp,fun i p h=>by simp[pg,Ku]at h,by simp[Ku,Js],by simp[Ku]⟩
theorem Jbc.same {D E:DS}{A:List (TS×List (List V))}(h:Jbc D A)(hs:Kft D E)(hw:0≤E.writes):Jbc E A:=
 ⟨fun x I=>(h.tab x I).keep fun i _=>hs.pages i,h.nodup,fun i p H=>h.all i p (by rw[←hs.pages];exact H),hs.used.trans h.used,hw⟩
theorem Kg4 (n g:Nat)(H:1≤g):ckN n g≤n:=by
 unfold ckN
 exact Nat.le_of_lt_succ ((Nat.div_lt_iff_lt_mul (by omega)).2 (by
  have:n+1≤(n+1)*g:=On4 _ (by omega)
  rw[Of5]at this ⊢
  have A:n≤n*g:=On4 _ (by omega)
  omega))
theorem Jtr {name:ByteArray}{ts hs:List Int}{rs:List (List V)}{g:Int}{T:List (List UInt8)}(I:Jel name ts rs∧Je3 ts hs∧1≤g∧g≤64)(L:Jfg rs ts hs (cks rs.length g.toNat (ckN rs.length g.toNat))=.inl T) :
  T.length=ckN rs.length g.toNat*ts.length∧(∀ t∈T,t.length≤6100∧t≠[])∧Jch T≤660*rs.length∧(T=[]↔rs=[]):=by
 obtain⟨A,H⟩:=Jte rs ts hs _ T L
 rw[Jbp]at A
 have N:=Joc T fun t M=>(H t M).1
 have J:=Kg4 rs.length g.toNat (by omega)
 have K:ts.length≤6:=I.1.2.1.1.2
 have R:1≤ts.length:=I.1.2.1.1.1
 have O:ckN rs.length g.toNat*ts.length≤rs.length*6:=Ol5 J K
 refine⟨A,H,by omega,⟨fun e=>?_,fun e=>?_⟩⟩
 ·subst e
  have h0:ckN rs.length g.toNat=0:=by
   rcases Nat.mul_eq_zero.1 A.symm with h|h
   ·exact h
   omega
  have:=Jxu rs.length g.toNat (by omega)
  simp only[Jaa,h0]at this
  exact Od3.1 (by omega)
 subst e
 have h0:ckN ([]:List (List V)).length g.toNat=0:=by unfold ckN;exact Nat.div_eq_of_lt (by simp;omega)
 rw[h0]at A
 exact Od3.1 (by omega)
theorem Kjy {D E:DS}{Z:List (TS×List (List V))}{N:List TS}{name:ByteArray}{ts hs:List Int}{rs:List (List V)}{g:Int}{T:TS}(hW:∀ x∈hs,Kjk x∧Kkn x)(K:Jbc D Z)(bz:∀ r∈rs,∀ v∈r,Jg v.n)(hw:D.writes≤100000000000000000)(h:Jbd D N name ts hs rs g=.ok E T) :
  Jbc E (Z++[(T,rs)])∧T.name=name∧Js E.pages=Js D.pages+T.segs.flatten.length∧(T.segs.flatten=[]↔rs=[])∧E.quota=D.quota∧E.fail=D.fail∧E.pages.length≤D.pages.length+660*rs.length∧E.writes≤D.writes+660*rs.length∧(((Js D.pages:Nat):Int)≤D.quota→((Js E.pages:Nat):Int)≤D.quota)∧D.writes≤E.writes∧(Ub N name=N.length):=by
 unfold Jbd at h
 split at h
 ·rename_i L
  split at h
  ·simp at h
  rename_i bM
  split at h
  ·simp at h
  rename_i I R
  split at h
  ·simp at h
  rename_i bc
  simp only[Sum.inr.injEq,Oj3]at h
  obtain⟨rfl,rfl⟩:=h
  obtain⟨bG,Y,bO,bh⟩:=Jtr L R
  have A:=Jjv I D bc
  have bB:=Jh1 I D
  have bL:=Jhk I D
  have bC:rs.length≤200:=L.1.2.2.1
  have bE:=Jd9 I D K.writes (by omega)
  generalize bI:(Jq D I).1=E at *
  generalize bJ:(Jq D I).2.1=J at *
  have bK:=Kdk N name
  have bN:=K.writes
  refine⟨⟨?_,?_,?_,?_,by omega⟩,rfl,A.used,⟨fun e=>?_,fun e=>?_⟩,A.quota,A.fail,by omega,by omega,fun bx=>bB bx bc,bE.1.1,by omega⟩
  ·intro x H
   rcases Od2.1 H with H|H
   ·refine(K.tab x H).keep fun i hi=>A.other i fun O=>?_
    obtain⟨p,M⟩:=(K.tab x H).inuse i hi
    rw[A.free i O]at M
    simp at M
   simp at H
   subst H
   refine⟨⟨L.1.2.1.1.1,L.1.2.1.1.2⟩,bC,⟨by show 1≤g.toNat;omega,by show g.toNat≤64;omega⟩,by show J.length=_;rw[A.len,bG],I,A.len.symm,fun t X=>⟨(Y t X).2,(Y t X).1,Kkg L.1 L.2.1.1 (fun x H=>(hW x H).1) R t X⟩,fun i bj bH=>A.segs i bj,fun bi bk=>Jqv bi name ts hs rs g.toNat I J L.1 (by omega) bz (fun x H=>(hW x H).2) L.2.1.1 R A.len bk⟩
  ·rw[Oe8]
   refine Op3.2 ⟨K.nodup,by simpa using A.nodup,fun a bl b ba e=>?_⟩
   subst e
   simp at ba
   obtain⟨x,H,br⟩:=Op5.1 bl
   obtain⟨p,M⟩:=(K.tab x H).inuse a br
   have bu:a∈J.flatten:=by
    obtain⟨l,bA,bn⟩:=ba
    exact List.mem_flatten.2 ⟨l,bA,bn⟩
   rw[A.free a bu]at M
   simp at M
  ·intro i p M
   rw[Oe8]
   by_cases O:i∈J.flatten
   ·exact Od2.2 (.inr (by simpa using O))
   rw[A.other i O]at M
   exact Od2.2 (.inl (K.all i p M))
  ·rw[A.used,K.used,Oe8,Oa8]
   simp
  ·have U:I=[]:=by
    rcases I with _|⟨t,I⟩
    ·rfl
    ·exfalso
     rcases J with _|⟨l,J⟩
     ·have:=A.len;simp at this
     have bD:=A.segs 0 (by simp)
     have bf:=Y t (by simp)
     have:=(Jx9 bD bf.2 bf.1).1
     simp at e
     exact this (by simpa using e.1)
   exact bh.1 U
  have U:=bh.2 e
  have bb:=A.len
  rw[U]at bb
  have:J=[]:=Od3.1 (by simpa using bb)
  show J.flatten=[]
  rw[this];rfl
 simp at h
theorem Kge {D E:DS}{H:List (TS×List (List V))}{A:List TS}{name:ByteArray}{ts hs:List Int}{rs:List (List V)}{g:Int}{T:TS}(I:Jbc D H)(J:∀ r∈rs,∀ v∈r,Jg v.n)(hw:D.writes≤100000000000000000)(h:Jbd D A name ts hs rs g=.ok E T) :
  Jbc E (H++[(T,rs)])∧T.name=name∧Js E.pages=Js D.pages+T.segs.flatten.length∧(T.segs.flatten=[]↔rs=[])∧E.quota=D.quota∧E.fail=D.fail∧E.pages.length≤D.pages.length+660*rs.length∧E.writes≤D.writes+660*rs.length∧(((Js D.pages:Nat):Int)≤D.quota→((Js E.pages:Nat):Int)≤D.quota)∧D.writes≤E.writes∧(Ub A name=A.length):=
 Kjy (fun x _=>⟨Kjm x,Kjx x⟩) I J hw h
theorem Jz8 {D E:DS}{J:List (TS×List (List V))}{O:List TS}{name:ByteArray}{ts hs:List Int}{rs:List (List V)}{g:Int}{x:Bool}(I:Jbc D J)(hw:D.writes≤100000000000000000)(h:Jbd D O name ts hs rs g=.disk x E) :
  Jbc E J∧Kft D E∧rs≠[]∧(x=true→D.quota≤((Js D.pages+660*rs.length:Nat):Int))∧(x=false→E.writes=D.fail∧D.writes<E.writes)∧E.pages.length≤D.pages.length+660*rs.length∧E.writes≤D.writes+660*rs.length∧D.writes≤E.writes:=by
 unfold Jbd at h
 split at h
 ·rename_i L
  split at h
  ·simp at h
  split at h
  ·simp at h
  rename_i A X
  split at h
  ·rename_i y M
   simp only[Sum.inr.injEq,Sum.inl.injEq,Oj3]at h
   obtain⟨rfl,rfl⟩:=h
   obtain⟨bc,bf,bh,Y⟩:=Jtr L X
   obtain⟨K,R,U⟩:=Jj4 A D y M
   have ba:rs.length≤200:=L.1.2.2.1
   have N:=Jd9 A D I.writes (by omega)
   have H:=(Jdn (Jq D A).2.1 (Jq D A).1).2.2
   have Z:=Jhk A D
   have bb:=I.writes
   refine⟨I.same K (by rw[H];omega),K,fun e=>R (Y.2 e),fun e=>?_,fun e=>?_,by rw[Jt4];omega,by rw[H];omega,by rw[H];exact N.1.1⟩
   ·have:=U e;omega
   subst e
   rw[H]
   exact N.2.1 M
  simp at h
 simp at h
theorem Kxf {t:List UInt8}(h:t.length≤56)(i n:Nat)(hi:i<64)(H:1≤n)(I:n≤255):Jd2 (Ksf (Jdm t) i n)=none:=by
 refine Kwi h i hi _ fun e=>?_
 have A:UInt8.ofNat n≠0:=fun h0=>by
  have:=congrArg UInt8.toNat h0
  simp at this
  omega
 generalize (Jdm t).getD i 0=x at e
 generalize UInt8.ofNat n=y at e A
 apply A
 have:=congrArg (fun z=>x ^^^ z) e
 simp only[←UInt8.xor_assoc,UInt8.xor_self,UInt8.zero_xor]at this
 exact this
theorem Qck {D:DS}{i:Nat}{x:List UInt8}(h:pg D i=some x):D.pages[i]?=some (some x):=by
 unfold pg at h
 rw[Oa0]at h
 cases hq:D.pages[i]? with
 |none=>rw[hq]at h;simp at h
 |some y=>rw[hq]at h;simp at h;rw[h]
theorem Jer.sealed {D:DS}{T:TS}{rs:List (List V)}(h:Jer D T rs):∀ i∈T.segs.flatten,∃ q,q.length≤56∧pg D i=some (Jdm q):=by
 intro i hi
 obtain⟨l,I,H⟩:=List.mem_flatten.1 hi
 obtain⟨t,_,_,⟨J,A⟩,_⟩:=h.seg l I
 obtain⟨k,hk,rfl⟩:=Od5 H
 exact⟨_,Jzu t _ (Ob3 (by omega)),A k hk (by omega)⟩
abbrev RP:Type:=Bool×List Nat
def Kr4:List Nat:=List.replicate 64 0
def Kvg (p:List UInt8)(l:List Nat):List UInt8:=List.zipWith (fun x n=>x ^^^ UInt8.ofNat n) p l
theorem Kt8 {p:List UInt8}(h:p.length=64):Kvg p Kr4=p:=by
 unfold Kvg Kr4
 apply Oi8
 intro i
 rw[Ok5,Of3]
 by_cases hi:i<64
 ·rw[if_pos hi,Oa3 (by omega)]
  simp
 rw[if_neg hi,Ob4 (by omega)]
theorem Kzl (a b:Nat):UInt8.ofNat (a ^^^ b)=UInt8.ofNat a ^^^ UInt8.ofNat b:=by
 apply UInt8.toNat.inj
 rw[UInt8.toNat_xor]
 simp only[UInt8.toNat_ofNat']
 exact Nat.xor_mod_two_pow (n:=8)
theorem Kve {p:List UInt8}{l:List Nat}{i n:Nat}(hi:i<l.length):Ksf (Kvg p l) i n=Kvg p (l.set i (l.getD i 0 ^^^ n)):=by
 unfold Ksf Kvg
 apply Oi8
 intro j
 rw[Op2]
 by_cases A:i=j
 ·subst A
  rw[if_pos rfl,Ok5,Oh0 hi]
  by_cases H:i<p.length
  ·rw[if_pos (by simp;omega),Oa3 H,Oa0,Ok5,Oa3 H,Oa3 hi]
   simp only[Option.getD_some,Oa0,Oa3 hi,Kzl,UInt8.xor_assoc]
  rw[if_neg (by simp;omega),Ob4 (by omega)]
 rw[if_neg A,Ok5,Ok5,Od1 A]
def frP:List RP→Nat
 |[]=>0
 |x::P=>if x.1=true then frP P+1 else 0
def Kr6 (P:List RP):Nat:=P.countP (·.1)
def Kr2 (P:List RP):List RP:=if frP P<P.length then P.set (frP P) (true,Kr4)else P++[(true,Kr4)]
def Kr5 (P:List RP)(l:List Nat):List RP:=P.mapIdx fun i x=>if i∈l then (false,x.2)else x
def Kr0 (q f:Int):Nat→Int→List RP→(Int×List RP)×List Nat×Option Bool
 |0,k,P=>((k,P),[],none)
 |n+1,k,P=>if q≤((Kr6 P:Nat):Int)then ((k,P),[],some true)else if wrap64 (k+1)=f then ((wrap64 (k+1),P),[],some false)else
   ((Kr0 q f n (wrap64 (k+1)) (Kr2 P)).1,frP P::(Kr0 q f n (wrap64 (k+1)) (Kr2 P)).2.1,(Kr0 q f n (wrap64 (k+1)) (Kr2 P)).2.2)
theorem Kuy:∀ P:List RP,frP P≤P.length
 |[]=>Oa2 _
 |x::P=>by
  unfold frP
  split
  ·have:=Kuy P;simp;omega
  simp
theorem Kxx:∀ (P:List RP)(i:Nat) x,i<frP P→P[i]?=some x→x.1=true
 |[],i,x,h,_=>by simp[frP]at h
 |y::P,0,x,h,A=>by
  simp at A
  subst A
  unfold frP at h
  split at h
  ·assumption
  omega
 |y::P,i+1,x,h,A=>by
  unfold frP at h
  split at h
  ·exact Kxx P i x (by omega) (by simpa using A)
  omega
theorem Kxv:∀ (P:List RP),frP P<P.length→∃ x,P[frP P]?=some x∧x.1=false
 |[],h=>by simp at h
 |y::P,h=>by
  by_cases A:y.1=true
  ·have e:frP (y::P)=frP P+1:=by simp[frP,A]
   rw[e]at h ⊢
   obtain⟨x,I,H⟩:=Kxv P (by simpa using h)
   exact⟨x,by simpa using I,H⟩
  have e:frP (y::P)=0:=by simp[frP,A]
  rw[e]
  exact⟨y,rfl,by simpa using A⟩
theorem Kws:∀ (l:List (Option (List UInt8)))(P:List RP),l.map Option.isSome=P.map (·.1)→Kb l=frP P
 |[],[],_=>rfl
 |[],_::_,h=>by simp at h
 |_::_,[],h=>by simp at h
 |none::l,x::P,h=>by
  simp at h
  simp[Kb,frP,←h.1]
 |some p::l,x::P,h=>by
  simp at h
  simp[Kb,frP,←h.1,Kws l P h.2]
theorem Kxl (l:List (Option (List UInt8)))(P:List RP)(h:l.map Option.isSome=P.map (·.1)):Js l=Kr6 P:=by
 have A:=congrArg (List.countP id) h
 rw[List.countP_map,List.countP_map]at A
 exact A
theorem Kvc (P:List RP):(Kr2 P).length=if frP P<P.length then P.length else P.length+1:=by
 unfold Kr2
 split<;>simp
theorem Ktx (P:List RP)(l:List Nat):(Kr5 P l).length=P.length:=by simp[Kr5]
theorem Ksp (P:List RP)(l:List Nat)(i:Nat):(Kr5 P l)[i]?=(P[i]?).map fun x=>if i∈l then (false,x.2)else x:=by
 rw[Kr5,Oh8]
theorem Kt1 (P:List RP)(a b:List Nat):Kr5 (Kr5 P a) b=Kr5 P (a++b):=by
 apply Oi8
 intro i
 rw[Ksp,Ksp,Ksp]
 cases P[i]? with
 |none=>rfl
 |some x=>
  simp only[Option.map_some,Od2]
  by_cases H:i∈a
  ·by_cases A:i∈b<;>simp[H,A]
  by_cases A:i∈b<;>simp[H,A]
theorem Kyi (P:List RP)(a b:List Nat):Kr5 P (a++b)=Kr5 P (b++a):=by
 apply Oi8
 intro i
 rw[Ksp,Ksp]
 simp only[Od2,Or.comm]
theorem Kv6 (P:List RP):Kr5 P []=P:=by
 apply Oi8
 intro i
 rw[Ksp]
 cases P[i]?<;>simp
structure Sim (D C:DS) (P:List RP):Prop where
 q:C.quota=D.quota
 f:C.fail=D.fail
 k:C.writes=D.writes
 pat:D.pages.map Option.isSome=P.map (·.1)
 patC:C.pages.map Option.isSome=P.map (·.1)
 page:∀ (i:Nat) x,P[i]?=some x→x.2.length=64∧(∀ n∈x.2,n≤255)∧pg D i=(pg C i).map fun p=>Kvg p x.2
section
variable {D C:DS} {P:List RP}
theorem Sim.len (h:Sim D C P):D.pages.length=P.length∧C.pages.length=P.length:=by
 have A:=congrArg List.length h.pat
 have H:=congrArg List.length h.patC
 simp at A H
 exact⟨A,H⟩
theorem Sim.free (h:Sim D C P):Kb D.pages=frP P∧Kb C.pages=frP P:=⟨Kws _ _ h.pat,Kws _ _ h.patC⟩
theorem Sim.used (h:Sim D C P):Js D.pages=Kr6 P∧Js C.pages=Kr6 P:=⟨Kxl _ _ h.pat,Kxl _ _ h.patC⟩
theorem Kwa (p:List UInt8)(h:D.pages.map Option.isSome=P.map (·.1)):(Zn D p).pages.map Option.isSome=(Kr2 P).map (·.1):=by
 have H:=Kws _ _ h
 have A:=congrArg List.length h
 simp at A
 unfold Zn Kr2
 simp only[H,A]
 split
 ·rw[Op0,Op0,h]
  rfl
 rename_i J
 have I:frP P=P.length:=Nat.le_antisymm (Kuy P) (by omega)
 rw[Op0,Ob8,h,Ob8,I,Ok4 _ _ (by simp)]
 simp
theorem Ku6 {p:List UInt8}(h:p.length≤56):(Jdm p).length=64:=by
 simp[Jdm,Jfo,Jm7,le7]
 omega
theorem Kzb (P:List RP)(j:Nat):(Kr2 P)[j]?=if j=frP P then some (true,Kr4)else P[j]?:=by
 unfold Kr2
 have I:=Kuy P
 split
 ·rename_i h
  rw[Op2]
  by_cases e:frP P=j
  ·rw[if_pos e,if_pos (by omega),if_pos e.symm]
  rw[if_neg e,if_neg (Oc5 e)]
 rename_i h
 have H:frP P=P.length:=by omega
 by_cases e:j=frP P
 ·rw[if_pos e,e,H,Ob6 (Oa2 _)]
  simp
 rw[if_neg e]
 rcases Oc1 j P.length with A|A
 ·rw[Ob0 A]
 rw[Ob4 (l:=P) A,Ob4 (by simp;omega)]
theorem Kgd:Kr4.length=64∧∀ n∈Kr4,n≤255:=by
 refine⟨by simp[Kr4],fun n A=>?_⟩
 simp[Kr4]at A
 omega
theorem Sim.wrote (h:Sim D C P){p:List UInt8}(H:p.length≤56):Sim (Zn D p) (Zn C p) (Kr2 P):=by
 refine⟨h.q,h.f,?_,Kwa p h.pat,Kwa p h.patC,fun i x A=>?_⟩
 ·show wrap64 (C.writes+1)=wrap64 (D.writes+1)
  rw[h.k]
 rw[Kzb]at A
 rw[Jij,Jij,h.free.1,h.free.2]
 by_cases e:i=frP P
 ·rw[if_pos e]at A
  cases A
  rw[if_pos e,if_pos e]
  refine⟨Kgd.1,Kgd.2,?_⟩
  simp only[Option.map_some]
  rw[Kt8 (Ku6 H)]
 rw[if_neg e]at A
 rw[if_neg e,if_neg e]
 exact h.page i x A
theorem Sim.count (h:Sim D C P):Sim (Jvn D) (Jvn C) P:=
 ⟨h.q,h.f,by show wrap64 (C.writes+1)=wrap64 (D.writes+1);rw[h.k],h.pat,h.patC,h.page⟩
theorem Ky4 (i:Nat)(h:D.pages.map Option.isSome=P.map (·.1)):(Jae D i).pages.map Option.isSome=(Kr5 P [i]).map (·.1):=by
 have J:=congrArg List.length h
 simp at J
 apply Oi8
 intro j
 have A:(D.pages[j]?).map Option.isSome=(P[j]?).map (·.1):=by rw[←Ob1,←Ob1,h]
 rw[Ob1,Ob1,Ksp]
 unfold Jae
 by_cases I:Jai D.pages (i:Int)=true
 ·rw[if_pos I]
  obtain⟨p,K⟩:=Jf3 I
  have hi:i<D.pages.length:=(Ob9.1 K).1
  show (List.set D.pages i none)[j]?.map _=_
  rw[Op2]
  by_cases e:i=j
  ·subst e
   rw[if_pos rfl,if_pos hi,Oa3 (by omega:i<P.length)]
   simp
  rw[if_neg e,A]
  cases P[j]? with
  |none=>rfl
  |some x=>simp[Ne.symm e]
 rw[if_neg I,A]
 cases hx:P[j]? with
 |none=>rfl
 |some x=>
  by_cases e:j=i
  ·subst e
   rw[hx]at A
   have H:=Je0 (by simpa using I:Jai D.pages (j:Int)=false)
   rw[Oa0]at H
   cases hd:D.pages[j]? with
   |none=>rw[hd]at A;simp at A
   |some y=>
    rw[hd]at A H
    simp at A H
    subst H
    simpa using A.symm
  simp[e]
theorem Sim.rel1 (h:Sim D C P)(i:Nat):Sim (Jae D i) (Jae C i) (Kr5 P [i]):=by
 have n1:=Jvm D i
 have H:=Jvm C i
 refine⟨by rw[n1.1,H.1];exact h.q,by rw[n1.2.1,H.2.1];exact h.f,by rw[n1.2.2,H.2.2];exact h.k,Ky4 i h.pat,Ky4 i h.patC,fun j x A=>?_⟩
 rw[Ksp]at A
 cases hy:P[j]? with
 |none=>rw[hy]at A;simp at A
 |some y=>
  rw[hy]at A
  simp only[Option.map_some,Oc9]at A
  obtain⟨J,K,L⟩:=h.page j y hy
  have I:x.2=y.2:=by
   rw[←A]
   split<;>rfl
  rw[I,Kcf,Kcf]
  refine⟨J,K,?_⟩
  split
  ·rfl
  exact L
theorem Sim.relD (h:Sim D C P)(l:List Nat):Sim (Jf4 D l) (Jf4 C l) (Kr5 P l):=by
 induction l generalizing D C P with
 |nil=>rw[Kv6];exact h
 |cons i l A=>
  have:=A (h.rel1 i)
  rw[Kt1]at this
  exact this
end
theorem Kxk:∀ (A:List (List UInt8))(D C:DS)(P:List RP),(∀ p∈A,p.length≤56)→Sim D C P →
  (Uy D A).2=(Kr0 D.quota D.fail A.length D.writes P).2∧(Uy C A).2=(Kr0 D.quota D.fail A.length D.writes P).2∧(Uy D A).1.writes=(Kr0 D.quota D.fail A.length D.writes P).1.1∧Sim (Uy D A).1 (Uy C A).1 (Kr0 D.quota D.fail A.length D.writes P).1.2∧(Uy D A).1.quota=D.quota∧(Uy D A).1.fail=D.fail
 |[],D,C,P,_,h=>⟨rfl,rfl,rfl,h,rfl,rfl⟩
 |p::A,D,C,P,J,h=>by
  unfold Uy
  simp only[List.length_cons,Kr0]
  rw[h.used.1,h.used.2,h.free.1,h.free.2,h.q,h.f,h.k]
  by_cases H:D.quota≤((Kr6 P:Nat):Int)
  ·rw[if_pos H,if_pos H,if_pos H]
   exact⟨rfl,rfl,rfl,h,rfl,rfl⟩
  rw[if_neg H,if_neg H,if_neg H]
  by_cases I:wrap64 (D.writes+1)=D.fail
  ·rw[if_pos I,if_pos I,if_pos I]
   exact⟨rfl,rfl,rfl,h.count,rfl,rfl⟩
  rw[if_neg I,if_neg I,if_neg I]
  obtain⟨K,L,M,N,Y,Z⟩:=Kxk A (Zn D p) (Zn C p) (Kr2 P) (fun q X=>J q (by simp[X])) (h.wrote (J p (by simp)))
  have O:(Zn D p).quota=D.quota:=rfl
  have R:(Zn D p).fail=D.fail:=rfl
  have U:(Zn D p).writes=wrap64 (D.writes+1):=rfl
  rw[O,R,U]at K L M N
  simp only[K,L]
  exact⟨trivial,trivial,M,N,Y,Z⟩
theorem Kw5 (q f:Int):∀ (m n:Nat) (k:Int) (P:List RP),((Kr0 q f m k P).2.2=none→Kr0 q f (m+n) k P=((Kr0 q f n (Kr0 q f m k P).1.1 (Kr0 q f m k P).1.2).1,(Kr0 q f m k P).2.1++(Kr0 q f n (Kr0 q f m k P).1.1 (Kr0 q f m k P).1.2).2.1,(Kr0 q f n (Kr0 q f m k P).1.1 (Kr0 q f m k P).1.2).2.2))∧(∀ x,(Kr0 q f m k P).2.2=some x→Kr0 q f (m+n) k P=Kr0 q f m k P)
 |0,n,k,P=>by simp[Kr0]
 |m+1,n,k,P=>by
  rw[show m+1+n=(m+n)+1 by omega]
  by_cases I:q≤((Kr6 P:Nat):Int)
  ·have H:∀ A,Kr0 q f (A+1) k P=((k,P),[],some true):=fun A=>by simp only[Kr0,if_pos I]
   rw[H,H]
   exact⟨fun h=>(by cases h),fun _ _=>rfl⟩
  by_cases J:wrap64 (k+1)=f
  ·have H:∀ A,Kr0 q f (A+1) k P=((wrap64 (k+1),P),[],some false):=fun A=>by simp only[Kr0,if_neg I,if_pos J]
   rw[H,H]
   exact⟨fun h=>(by cases h),fun _ _=>rfl⟩
  have H:∀ A,Kr0 q f (A+1) k P=((Kr0 q f A (wrap64 (k+1)) (Kr2 P)).1,frP P::(Kr0 q f A (wrap64 (k+1)) (Kr2 P)).2.1,(Kr0 q f A (wrap64 (k+1)) (Kr2 P)).2.2):=fun A=>by simp only[Kr0,if_neg I,if_neg J]
  obtain⟨K,L⟩:=Kw5 q f m n (wrap64 (k+1)) (Kr2 P)
  rw[H,H]
  exact⟨fun h=>by rw[K h];rfl,fun x h=>by rw[L x h]⟩
theorem Kts (D:DS)(a b:List Nat):Jf4 (Jf4 D a) b=Jf4 D (a++b):=by
 simp[Jf4]
theorem Ku3:∀ (ts:List (List UInt8))(D C:DS)(P:List RP),Sim D C P →
  (Jq D ts).2.2=(Kr0 D.quota D.fail (Jch ts) D.writes P).2.2∧(Jq C ts).2=(Jq D ts).2∧(Jq D ts).1.writes=(Kr0 D.quota D.fail (Jch ts) D.writes P).1.1 ∧
  ((Jq D ts).2.2=none→(Jq D ts).2.1.flatten=(Kr0 D.quota D.fail (Jch ts) D.writes P).2.1∧Sim (Jq D ts).1 (Jq C ts).1 (Kr0 D.quota D.fail (Jch ts) D.writes P).1.2) ∧
  (∀ x,(Jq D ts).2.2=some x→∀ A,Sim (Jcg (Jf4 (Jq D ts).1 A) (Jq D ts).2.1) (Jcg (Jf4 (Jq C ts).1 A) (Jq D ts).2.1) (Kr5 (Kr0 D.quota D.fail (Jch ts) D.writes P).1.2 (A++(Kr0 D.quota D.fail (Jch ts) D.writes P).2.1)))
 |[],D,C,P,h=>⟨rfl,rfl,rfl,fun _=>⟨rfl,h⟩,fun x N=>by simp[Jq]at N⟩
 |t::ts,D,C,P,h=>by
  obtain⟨J,K,L,H,O,R⟩:=Kxk (Qu t) D C P (Jzu t) h
  rw[Ja1]
  have I:=Kw5 D.quota D.fail (Qu t).length (Jch ts) D.writes P
  unfold Jq
  rcases hD:Uy D (Qu t)with⟨E,l,r⟩
  rcases hC:Uy C (Qu t)with⟨F,lc,rc⟩
  rcases hQ:Kr0 D.quota D.fail (Qu t).length D.writes P with⟨⟨bi,ba⟩,bj,bk⟩
  rw[hD]at J L H O R
  rw[hC]at K H
  rw[hQ]at J K L H I
  simp only at J K L H O R I
  cases J
  cases K
  subst L
  cases r with
  |none=>
   obtain⟨U,bb,X,Y,Z⟩:=Ku3 ts E F ba H
   rw[O,R]at U X Y Z
   rw[I.1 rfl]
   simp only
   refine⟨U,by rw[bb],X,fun M=>?_,fun x N A=>?_⟩
   ·obtain⟨bc,bf⟩:=Y M
    exact⟨by rw[List.flatten_cons,bc],bf⟩
   have:=Z x N (A++l)
   rw[Od8]at this
   show Sim (Jcg (Jf4 (Jf4 (Jq E ts).1 A) l) (Jq E ts).2.1) (Jcg (Jf4 (Jf4 (Jq F ts).1 A) l) (Jq E ts).2.1) _
   rw[Kts,Kts]
   exact this
  |some x=>
   rw[I.2 x rfl]
   refine⟨rfl,rfl,(Jin l E).2.2,fun M=>(by cases M),fun y bh A=>?_⟩
   have:=(H.relD l).relD A
   rw[Kt1,Kyi]at this
   exact this
end
end Go.Proofs.YtcaocabmioafcaaGreatDoor
