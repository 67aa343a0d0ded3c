/- A store of the document on any disk: its Scan. -/
import Derived.Test.YtcaocabmioafcaaGreatDoorQh
set_option maxHeartbeats 4000000
set_option maxRecDepth 100000
namespace Go.Proofs.YtcaocabmioafcaaGreatDoor
open Go.RowKit Go.Shelf Tryz
attribute [local go_sem] Oc0
def Kto (P:List RP)(i:Nat):Bool:=decide (0<Kry (P.getD i (false,[])).2)
def Kun (P:List RP)(Rs:List RTb)(n:ByteArray):Option (List (List V)⊕Nat):=
 (Rs[Ksg (Rs.map nmT) n]?).map fun A=>match A.pages.find? (Kto P)with
  |some p=>.inr p
  |none=>.inl A.rows
def Qa0 (w:World)(r:Option (List (List V)⊕Nat))(e:Ending)(w':World):Prop:=
 Below w.heap.size w w'∧match r with
  |none=>e=.returned (.tuple #[.slice none 0 0,fault 4])
  |some (.inr p)=>e=.returned (.tuple #[.slice none 0 0,Jbz 7 (-1) (p:Int)])
  |some (.inl rs)=>∃ a c hs,e=.returned (.tuple #[.slice a rs.length c,fault 0])∧Zd w' a hs rs
theorem Qai {Z:Nat→Prop}{w:World}{st:Nat}{q f k:Int}{P:List RP}{Rs:List RTb}(h:RSt Z w st q f k P Rs)(n:ByteArray)(O:Rs.length≤1000)(R:¬ Ksg (Rs.map nmT) n<Rs.length) :
  Calls prog 48 #[.pointer (some ⟨st,0,none⟩),.string n] w fun e w'=>e=.returned (.tuple #[.slice none 0 0,fault 4])∧Below w.heap.size w w':=by
 have I:Below w.heap.size w (w.alloc Ka):=(Oa5 _ w).alloc (Oa2 _) _
 have J:=Ktc st (Rs.map nmT) n (w.alloc Ka) (h.rtabs.below I) (by rw[Oa6];exact O)
 have hF:Ksk (Rs.map nmT) n=-1:=by unfold Ksk;rw[Oa6,if_neg R]
 rw[hF]at J
 obtain⟨W,hW⟩:∃ W,W=w.alloc Ka:=⟨_,rfl⟩
 have L:W.heap[w.heap.size]?=some (.cells #[.int .i64 0,.int .i64 0,.int .i64 0,.int .i64 0,.int .i64 0] 68 (0,0)):=by rw[hW];exact heap_alloc_new _ _
 rw[←hW]at J I
 have U:Hid (Below w.heap.size w W):=I
 clear h O R hF I
 go_enter func48,ntmps48
 go_upto_region 1 with fail
 rw[←hW]
 clear hW
 go_upto_region 3 with(go_at_call 41;refine J.mono ?_;rintro e ba ⟨rfl,bu⟩;subst ba)
 clear J
 have N:=Kse 4 W
 go_wp2_with fail
 refine N.mono ?_
 rintro e H ⟨rfl,K⟩
 have A:=(K.block _ (Jd L)).trans L
 have bb:H.cell? ⟨w.heap.size,0,none⟩=some (.int .i64 0):=by simp[World.cell?,A]
 have bc:H.cell? ⟨w.heap.size,1,none⟩=some (.int .i64 0):=by simp[World.cell?,A]
 have bf:H.cell? ⟨w.heap.size,2,none⟩=some (.int .i64 0):=by simp[World.cell?,A]
 have bh:H.cell? ⟨w.heap.size,3,none⟩=some (.int .i64 0):=by simp[World.cell?,A]
 have bi:H.cell? ⟨w.heap.size,4,none⟩=some (.int .i64 0):=by simp[World.cell?,A]
 have bj:H.frozen? ⟨w.heap.size,0,none⟩=false:=by simp[World.frozen?,A]
 have bk:H.frozen? ⟨w.heap.size,1,none⟩=false:=by simp[World.frozen?,A]
 have bl:H.frozen? ⟨w.heap.size,2,none⟩=false:=by simp[World.frozen?,A]
 have bn:H.frozen? ⟨w.heap.size,3,none⟩=false:=by simp[World.frozen?,A]
 have br:H.frozen? ⟨w.heap.size,4,none⟩=false:=by simp[World.frozen?,A]
 have M:=Jk (Jk (Jk (Jk (Jk A 0 (.int .i64 4)) 1 (.int .i64 (-1))) 2 (.int .i64 (-1))) 3 (.int .i64 (-1))) 4 (.int .i64 (-1))
 simp only[Oa1,List.set_cons_zero,List.set_cons_succ]at M
 have Y:Hid _:=M
 have X:Hid _:=K
 clear M A K N L
 go_wp2
 exact bodyPost_ret (v:=.tuple #[.slice none 0 0,fault 4]) (by simp[results,results48,go_sem,World.cell?,Y.out]) rfl ⟨rfl,Um (Jb U.out X.out) (Oa2 _) _ _ _ _ _⟩
theorem Kzi {dq:Nat→Prop}{w:World}{st:Nat}{q f k:Int}{P:List RP}{Rs:List RTb}(h:RSt dq w st q f k P Rs)(n:ByteArray)(cK:Rs.length≤1000)(cN:P.length≤990000)(at_:Nat)(cF:Ksg (Rs.map nmT) n=at_)(I:RTb)(bX:Rs[at_]?=some I)(ck:I.pages.length≤1000000)(cQ:∀ i∈I.pages,i<P.length)(cS:I.rows.length≤1000)(cU:∀ r∈I.rows,1≤r.length∧r.length≤1000) :
  Calls prog 48 #[.pointer (some ⟨st,0,none⟩),.string n] w (Qa0 w (some (match I.pages.find? (Kto P)with|some p=>.inr p|none=>.inl I.rows))):=by
 have bi:Below w.heap.size w (w.alloc Ka):=(Oa5 _ w).alloc (Oa2 _) _
 have bI:=Ktc st (Rs.map nmT) n (w.alloc Ka) (h.rtabs.below bi) (by rw[Oa6];exact cK)
 have cG:at_<Rs.length:=(Ob9.1 bX).1
 have hF:Ksk (Rs.map nmT) n=(at_:Int):=by unfold Ksk;rw[Oa6,cF,if_pos cG]
 rw[hF]at bI
 obtain⟨W,hW⟩:∃ W,W=w.alloc Ka:=⟨_,rfl⟩
 have cf:W.heap[w.heap.size]?=some (.cells #[.int .i64 0,.int .i64 0,.int .i64 0,.int .i64 0,.int .i64 0] 68 (0,0)):=by rw[hW];exact heap_alloc_new _ _
 rw[←hW]at bI bi
 obtain⟨⟨F,sv,tv,cs,cD,bV⟩,ci⟩:=h
 have U:Ksz F W st q f k P Rs sv tv cs:=cD.stands bi.size fun i hi=>bi.block i (ci i (bV i hi))
 obtain⟨a,c,dJ⟩:=U.slice
 subst dJ
 obtain⟨g,cap,c4,cl,dE,⟨df,dg,bu,bM,hs,pa,pc,dD,dG,cW⟩,bB⟩:=U.at bX
 injection cl with cl _ hcc
 subst cl hcc dD
 have db:=bB 0 _ rfl
 have bk:=bB 1 _ rfl
 have dL:=bB 2 _ rfl
 have dc:=bB 3 _ rfl
 rw[Nat.add_zero]at db
 have dB:W.cell? ⟨st,4,none⟩=some (.slice (some ⟨g,0,none⟩) Rs.length c):=by simp[World.cell?,U.store]
 have bW:∀ i,i=st∨sv.ownBlock=some i∨(Value.slice (some ⟨g,0,none⟩) Rs.length c).ownBlock=some i∨F i→i<W.heap.size:=fun i hi=>by have Y:=ci i (bV i hi);have bU:=bi.size;omega
 have bS:Hid (∀ J,Below W.heap.size W J→Krz J sv P∧J.cell? ⟨st,3,none⟩=some sv∧Zd J bu hs I.rows∧Uh J pa (I.pages.map nv)):=fun J bh=>by
  have cE:Ksz F J st q f k P Rs sv _ cs:=U.stands bh.size fun i hi=>bh.block i (bW i hi)
  obtain⟨dX,dY,dM,dN⟩:=cW J bh.size fun i hi=>bh.block i (bW i (.inr (.inr (.inr hi))))
  exact⟨cE.pages,by simp[World.cell?,cE.store],dM,dN⟩
 have bc:Hid (I.pages.length≤1000000∧(∀ i∈I.pages,i<P.length)∧I.rows.length≤1000∧(∀ r∈I.rows,1≤r.length∧r.length≤1000)∧P.length≤990000∧Below w.heap.size w W∧W.heap.size=w.heap.size+1):=⟨ck,cQ,cS,cU,cN,bi,by rw[hW];simp⟩
 have dS:(0:Int)≤(at_:Int):=by omega
 have dT:(at_:Int)<(Rs.length:Int):=by omega
 have dU:¬ ((at_:Int)<0):=by omega
 obtain⟨bl,bf⟩:∃ bl:List (List V)⊕Nat,bl=(match I.pages.find? (Kto P)with|some p=>.inr p|none=>.inl I.rows):=⟨_,rfl⟩
 rw[←bf]
 have bz:Hid (bl=(match I.pages.find? (Kto P)with|some p=>.inr p|none=>.inl I.rows)):=bf
 have dI:I.pages.length≤1000000:=ck
 obtain⟨A,cP⟩:∃ A,A=I.pages:=⟨_,rfl⟩
 rw[←cP]at dc bS bc bz dI
 clear bX ck cQ cF hF cD U bV ci bB cW dE dG bi cK cG bW cS cU cN bf cP
 go_enter func48,ntmps48
 go_upto_region 1 with fail
 rw[←hW]
 clear hW
 go_upto_region 4 with(go_at_call 41;refine bI.mono ?_;rintro e bD ⟨rfl,cX⟩;subst bD)
 clear bI
 go_upto_region 6 with fail
 obtain⟨H,bH⟩:∃ H,H=W.alloc (.cells #[.string I.name,.slice df I.types.length dg,.slice bu I.rows.length bM,.slice pa A.length pc] 113):=⟨_,rfl⟩
 rw[←bH]
 have bY:H.heap[W.heap.size]?=some (.cells #[.string I.name,.slice df I.types.length dg,.slice bu I.rows.length bM,.slice pa A.length pc] 113 (0,0)):=by rw[bH];exact heap_alloc_new _ _
 have bA:Below W.heap.size W H:=by rw[bH];exact(Oa5 _ _).alloc (Oa2 _) _
 have dl:H.cell? ⟨W.heap.size,2,none⟩=some (.slice bu I.rows.length bM):=by simp[World.cell?,bY]
 have cu:H.cell? ⟨W.heap.size,3,none⟩=some (.slice pa A.length pc):=by simp[World.cell?,bY]
 have bC:=(bA.block _ (Jd cf)).trans cf
 obtain⟨di,dk,dj,dh⟩:=bS.out H bA
 have Z:Hid (Krz H sv P∧H.cell? ⟨st,3,none⟩=some sv∧Zd H bu hs I.rows∧Uh H pa (A.map nv)∧Below w.heap.size w H∧w.heap.size<H.heap.size):=⟨di,dk,dj,dh,Jb bc.out.2.2.2.2.2.1 bA,by have Y:=bA.size;have bU:=bc.out.2.2.2.2.2.2;omega⟩
 obtain⟨cn,cZ⟩:∃ cn,cn=W.heap.size:=⟨_,rfl⟩
 rw[←cZ]at dl cu ⊢
 clear bH bY bA di dk dj dh db bk dL dc dB cf bS cZ
 go_loopw [8] (fun i wr=>∃ j:Nat,j≤A.length∧i=.int .i64 (j:Int)∧wr=H∧Hid (∀ x∈A.take j,Kto P x=false)) (fun i _=>A.length-(intOf i).toNat)
 case atStart=>exact⟨0,Ob7 _,rfl,rfl,(show ∀ x∈A.take 0,Kto P x=false from fun x R=>by simp at R)⟩
 case round=>
  obtain⟨j,dQ,rfl,cY,bx⟩:=hrel
  rw[cY]
  clear cY
  by_cases bK:j<A.length
  ·obtain⟨cA,da,dH,_,bk⟩:=Z.out.2.2.2.1.at (i:=j) (by rw[Oa6];exact bK)
   subst dH
   rw[Od9]at bk
   unfold nv at bk
   have cj:A[j]<P.length:=bc.out.2.1 _ (Ob3 bK)
   have cy:Hid (A.take (j+1)=A.take j++[A[j]]):=Oc4 bK
   have bO:Hid (Kto P A[j]=true→bl=.inr A[j]):=fun bh=>by
    rw[bz.out]
    have cI:A=A.take j++(A[j]::A.drop (j+1)):=by rw[List.getElem_cons_drop,Ok3]
    have:A.find? (Kto P)=some A[j]:=by
     have Y:(A.take j).find? (Kto P)=none:=List.find?_eq_none.2 (fun x R=>by simp[bx.out x R])
     generalize A[j]=dW at cI bh
     rw[cI,List.find?_append,Y,Option.none_or,List.find?_cons,bh]
    rw[this]
   generalize A[j]=p at bk cj cy bO
   obtain⟨x,R⟩:∃ x,P[p]?=some x:=⟨_,Oa3 cj⟩
   have bE:Hid (Kto P p=decide (0<Kry x.2)):=by
    show _=_
    unfold Kto
    rw[Oa0,R]
    rfl
   have bL:=Kw4 st sv P p x R H Z.out.2.1 Z.out.1 (by have:=bc.out.2.2.2.2.1;omega)
   have bP:Hid (j<A.length):=bK
   have k1:(0:Int)≤(j:Int):=by omega
   have dV:(j:Int)<(A.length:Int):=by omega
   clear R cj
   generalize Kry x.2=de at bL bE
   by_cases cO:de=0
   ·subst cO
    go_wp2_with (go_at_call 56;refine bL.mono ?_;rintro e bD ⟨rfl,cX⟩;subst bD)
    go_roundw
    case rel=>
     refine⟨j+1,bP.out,by have:=bP.out;go_num,(by first|rfl|trivial),(show ∀ x∈A.take (j+1),Kto P x=false from fun x R=>?_)⟩
     rw[cy.out]at R
     rcases Od2.1 R with Y|Y
     ·exact bx.out x Y
     rw[Oc6]at Y
     rw[Y,bE.out]
     rfl
    case measure=>have:=bP.out;simp[intOf];omega
   have bf:bl=.inr p:=bO.out (by rw[bE.out];simp;omega)
   subst bf
   have dK:(de:Int)>0:=by omega
   clear cO bO bE bz
   go_upto_region 9 with(go_at_call 56;refine bL.mono ?_;rintro e bD ⟨rfl,cX⟩;subst bD)
   clear bL
   have cH:=Kse 7 H
   have cv:Hid (∀ J,Below H.heap.size H J→J.cell? ⟨cA,da+j,none⟩=some (.int .i64 (p:Int))∧J.cell? ⟨cn,3,none⟩=some (.slice (some ⟨cA,da,none⟩) A.length pc)∧J.heap[w.heap.size]?=some (.cells #[.int .i64 0,.int .i64 0,.int .i64 0,.int .i64 0,.int .i64 0] 68 (0,0))):=fun J U=>⟨Ja U bk,Ja U cu,(U.block _ (Jd bC)).trans bC⟩
   go_upto_region 10 with(go_at_call 42;refine cH.mono ?_;rintro e L ⟨rfl,bj⟩)
   have cx:=cv.out _ (Jc (show Below H.heap.size H L from bj) (.cells #[.int .i64 7,.int .i64 (-1),.int .i64 (-1),.int .i64 (-1),.int .i64 (-1)] 68))
   have ca:Below H.heap.size H (L.alloc (.cells #[.int .i64 7,.int .i64 (-1),.int .i64 (-1),.int .i64 (-1),.int .i64 (-1)] 68)):=Jc bj _
   have ba:=heap_alloc_new L (.cells #[.int .i64 7,.int .i64 (-1),.int .i64 (-1),.int .i64 (-1),.int .i64 (-1)] 68)
   have cc:H.heap.size≤L.heap.size:=bj.size
   obtain⟨K,cJ⟩:∃ K,K=L.heap.size:=⟨_,rfl⟩
   rw[←cJ]at ba cc ⊢
   generalize L.alloc (.cells #[.int .i64 7,.int .i64 (-1),.int .i64 (-1),.int .i64 (-1),.int .i64 (-1)] 68)=X at cx ca ba ⊢
   obtain⟨u1,u2,u3⟩:=cx
   have HZ:Hid (Below H.heap.size H X∧X.heap[K]?=some (.cells #[.int .i64 7,.int .i64 (-1),.int .i64 (-1),.int .i64 (-1),.int .i64 (-1)] 68 (0,0))∧H.heap.size≤K∧X.heap[w.heap.size]?=some (.cells #[.int .i64 0,.int .i64 0,.int .i64 0,.int .i64 0,.int .i64 0] 68 (0,0))∧w.heap.size<K):=⟨ca,ba,cc,u3,by have:=Z.out.2.2.2.2.2;omega⟩
   have dP:X.cell? ⟨K,4,none⟩=some (.int .i64 (-1)):=by simp[World.cell?,ba]
   have dZ:X.frozen? ⟨K,4,none⟩=false:=by simp[World.frozen?,ba]
   clear cJ bj cH ca ba cc u3 cv dl cu bk bC
   go_upto_region 11 with fail
   have bb:=Jk HZ.out.2.1 4 (.int .i64 (p:Int))
   simp only[Oa1,List.set_cons_zero,List.set_cons_succ]at bb
   have O:(X.setCell ⟨K,4,none⟩ (.int .i64 (p:Int))).heap[w.heap.size]?=some (.cells #[.int .i64 0,.int .i64 0,.int .i64 0,.int .i64 0,.int .i64 0] 68 (0,0)):=by
    rw[heap_setCell_other _ _ _ _ (by have:=HZ.out.2.2.2.2;show w.heap.size≠K;omega)]
    exact HZ.out.2.2.2.1
   have cb:Below w.heap.size w (X.setCell ⟨K,4,none⟩ (.int .i64 (p:Int))):=(Jb Z.out.2.2.2.2.1 HZ.out.1).setCell (p:=⟨K,4,none⟩) (by have:=HZ.out.2.2.2.2;show w.heap.size≤K;omega) _
   generalize X.setCell ⟨K,4,none⟩ (.int .i64 (p:Int))=V at bb O cb ⊢
   have b0:V.cell? ⟨K,0,none⟩=some (.int .i64 7):=by simp[World.cell?,bb]
   have b1:V.cell? ⟨K,1,none⟩=some (.int .i64 (-1)):=by simp[World.cell?,bb]
   have b2:V.cell? ⟨K,2,none⟩=some (.int .i64 (-1)):=by simp[World.cell?,bb]
   have b3:V.cell? ⟨K,3,none⟩=some (.int .i64 (-1)):=by simp[World.cell?,bb]
   have cz:V.cell? ⟨K,4,none⟩=some (.int .i64 (p:Int)):=by simp[World.cell?,bb]
   have dr:V.cell? ⟨w.heap.size,0,none⟩=some (.int .i64 0):=by simp[World.cell?,O]
   have ds:V.cell? ⟨w.heap.size,1,none⟩=some (.int .i64 0):=by simp[World.cell?,O]
   have dt:V.cell? ⟨w.heap.size,2,none⟩=some (.int .i64 0):=by simp[World.cell?,O]
   have du:V.cell? ⟨w.heap.size,3,none⟩=some (.int .i64 0):=by simp[World.cell?,O]
   have dv:V.cell? ⟨w.heap.size,4,none⟩=some (.int .i64 0):=by simp[World.cell?,O]
   have dw:V.frozen? ⟨w.heap.size,0,none⟩=false:=by simp[World.frozen?,O]
   have dx:V.frozen? ⟨w.heap.size,1,none⟩=false:=by simp[World.frozen?,O]
   have dy:V.frozen? ⟨w.heap.size,2,none⟩=false:=by simp[World.frozen?,O]
   have dz:V.frozen? ⟨w.heap.size,3,none⟩=false:=by simp[World.frozen?,O]
   have dA:V.frozen? ⟨w.heap.size,4,none⟩=false:=by simp[World.frozen?,O]
   have br:=Jk (Jk (Jk (Jk (Jk O 0 (.int .i64 7)) 1 (.int .i64 (-1))) 2 (.int .i64 (-1))) 3 (.int .i64 (-1))) 4 (.int .i64 (p:Int))
   simp only[Oa1,List.set_cons_zero,List.set_cons_succ]at br
   have bQ:Hid _:=br
   have dn:Hid (Below w.heap.size w V):=cb
   have ba:K≠w.heap.size:=by have:=HZ.out.2.2.2.2;omega
   clear br bb O cb
   refine wp_region_held_drew (S:=fun J=>J.cell? ⟨K,0,none⟩=some (.int .i64 7)∧J.cell? ⟨K,1,none⟩=some (.int .i64 (-1))∧J.cell? ⟨K,2,none⟩=some (.int .i64 (-1))∧J.cell? ⟨K,3,none⟩=some (.int .i64 (-1))∧J.cell? ⟨K,4,none⟩=some (.int .i64 (p:Int))) (by kernel_rfl) ⟨Jh b0,Jh b1,Jh b2,Jh b3,Jh cz⟩ (fun bG=>?_)
   refine Kn 0 rfl bG ?_
   refine Kn 1 rfl bG ?_
   refine tkn ?_
   refine tkr 2 rfl fun dp cC=>?_
   go_simp
   have bn:∀ o,(((((V.setCell ⟨w.heap.size,0,none⟩ (.int .i64 7)).setCell ⟨w.heap.size,1,none⟩ (.int .i64 (-1))).setCell ⟨w.heap.size,2,none⟩ (.int .i64 (-1))).setCell ⟨w.heap.size,3,none⟩ (.int .i64 (-1))).setCell ⟨w.heap.size,4,none⟩ (.int .i64 (p:Int))).drew.cell? ⟨K,o,none⟩=V.cell? ⟨K,o,none⟩:=fun o=>by show World.cell? (World.setCell _ _ _) _=_;simp only[World.cell?,Zh _ _ _ _ _ _ _ K ba]
   refine cC.out _ _ ⟨(bn _).trans b0,(bn _).trans b1,(bn _).trans b2,(bn _).trans b3,(bn _).trans cz⟩ (fun bG=>?_)
   clear cC dp bn bG
   refine wpAnyH_done (by kernel_rfl) ?_ _
   have bJ:=Kt6 (Um dn.out (Oa2 _) (.int .i64 7) (.int .i64 (-1)) (.int .i64 (-1)) (.int .i64 (-1)) (.int .i64 (p:Int)))
   have cM:(((((V.setCell ⟨w.heap.size,0,none⟩ (.int .i64 7)).setCell ⟨w.heap.size,1,none⟩ (.int .i64 (-1))).setCell ⟨w.heap.size,2,none⟩ (.int .i64 (-1))).setCell ⟨w.heap.size,3,none⟩ (.int .i64 (-1))).setCell ⟨w.heap.size,4,none⟩ (.int .i64 (p:Int))).drew.heap[w.heap.size]?=_:=bQ.out
   generalize (((((V.setCell ⟨w.heap.size,0,none⟩ (.int .i64 7)).setCell ⟨w.heap.size,1,none⟩ (.int .i64 (-1))).setCell ⟨w.heap.size,2,none⟩ (.int .i64 (-1))).setCell ⟨w.heap.size,3,none⟩ (.int .i64 (-1))).setCell ⟨w.heap.size,4,none⟩ (.int .i64 (p:Int))).drew=dO at bJ cM ⊢
   go_wp2
   exact bodyPost_ret (v:=.tuple #[.slice none 0 0,Jbz 7 (-1) (p:Int)]) (by simp[results,results48,go_sem,World.cell?,cM]) rfl ⟨bJ,rfl⟩
  obtain rfl:j=A.length:=by omega
  have dK:¬ ((A.length:Int)<(A.length:Int)):=by omega
  have bf:bl=.inl I.rows:=by
   rw[bz.out]
   rw[Of2]at bx
   have:A.find? (Kto P)=none:=List.find?_eq_none.2 fun x R=>by simp[bx.out x R]
   rw[this]
  subst bf
  have cT:=Kv0 bu bM hs I.rows H Z.out.2.2.1 bc.out.2.2.1 bc.out.2.2.2.1
  have dm:Hid (∀ J,Below H.heap.size H J→J.heap[w.heap.size]?=some (.cells #[.int .i64 0,.int .i64 0,.int .i64 0,.int .i64 0,.int .i64 0] 68 (0,0))):=fun J U=>(U.block _ (Jd bC)).trans bC
  clear bz bx
  go_upto_region 12 with fail
  go_wp2_with (first|(go_at_call 78;refine cT.mono ?_;rintro e L ⟨bT,cB,cV,rfl,cR,bj⟩;have cL:=Kta L;have bR:Hid ((∀ J:World,L.heap.size≤J.heap.size→(∀ k,H.heap.size≤k→k<L.heap.size→J.heap[k]?=L.heap[k]?)→Zd J bT cV I.rows)∧Below H.heap.size H L):=⟨cR,bj⟩;clear cR)|(go_at_call 44;refine cL.mono ?_;rintro e M ⟨rfl,bZ⟩;have N:=dm.out M (Jb bR.out.2 bZ);have dr:M.cell? ⟨w.heap.size,0,none⟩=some (.int .i64 0):=(by simp[World.cell?,N]);have ds:M.cell? ⟨w.heap.size,1,none⟩=some (.int .i64 0):=(by simp[World.cell?,N]);have dt:M.cell? ⟨w.heap.size,2,none⟩=some (.int .i64 0):=(by simp[World.cell?,N]);have du:M.cell? ⟨w.heap.size,3,none⟩=some (.int .i64 0):=(by simp[World.cell?,N]);have dv:M.cell? ⟨w.heap.size,4,none⟩=some (.int .i64 0):=(by simp[World.cell?,N]);have dw:M.frozen? ⟨w.heap.size,0,none⟩=false:=(by simp[World.frozen?,N]);have dx:M.frozen? ⟨w.heap.size,1,none⟩=false:=(by simp[World.frozen?,N]);have dy:M.frozen? ⟨w.heap.size,2,none⟩=false:=(by simp[World.frozen?,N]);have dz:M.frozen? ⟨w.heap.size,3,none⟩=false:=(by simp[World.frozen?,N]);have dA:M.frozen? ⟨w.heap.size,4,none⟩=false:=(by simp[World.frozen?,N]);have bQ:Hid (∃ X,X=M∧M.heap[w.heap.size]?=some (.cells #[.int .i64 0,.int .i64 0,.int .i64 0,.int .i64 0,.int .i64 0] 68 (0,0))):=⟨_,rfl,N⟩;have bN:Hid (Below L.heap.size L M):=bZ;clear N bZ bj cL cT))
  have N:=bQ.out.choose_spec.2
  have br:=Jk (Jk (Jk (Jk (Jk N 0 (.int .i64 0)) 1 (.int .i64 (-1))) 2 (.int .i64 (-1))) 3 (.int .i64 (-1))) 4 (.int .i64 (-1))
  simp only[Oa1,List.set_cons_zero,List.set_cons_succ]at br
  have dC:=Jb Z.out.2.2.2.2.1 (Jb bR.out.2 bN.out)
  have bJ:=Um dC (Oa2 _) (.int .i64 0) (.int .i64 (-1)) (.int .i64 (-1)) (.int .i64 (-1)) (.int .i64 (-1))
  refine bodyPost_ret (v:=.tuple #[.slice bT I.rows.length cB,fault 0]) (by simp[results,results48,go_sem,World.cell?,br]) rfl ⟨bJ,bT,cB,cV,rfl,bR.out.1 _ (by rw[Jg2];exact bN.out.size) fun i Y bU=>?_⟩
  have dR:=Z.out.2.2.2.2.2
  rw[Zh _ _ _ _ _ _ _ i (by omega)]
  exact bN.out.block i bU
theorem Qcc {I:Nat→Prop}{w:World}{st:Nat}{q f k:Int}{P:List RP}{Rs:List RTb}(h:RSt I w st q f k P Rs)(n:ByteArray)(H:Rs.length≤1000)(N:P.length≤990000)(L:∀ A∈Rs,A.rows.length≤200∧(∀ r∈A.rows,1≤r.length∧r.length≤6)∧A.pages.length≤132000∧∀ i∈A.pages,i<P.length) :
  Calls prog 48 #[.pointer (some ⟨st,0,none⟩),.string n] w (Qa0 w (Kun P Rs n)):=by
 unfold Kun
 cases hr:Rs[Ksg (Rs.map nmT) n]? with
 |none=>
  refine(Qai h n H fun M=>by rw[Oa3 M]at hr;cases hr).mono fun e w' ⟨J,K⟩=>⟨K,J⟩
 |some A=>
  obtain⟨X,R,Y,U⟩:=L A (Of6 hr)
  exact Kzi h n H N _ rfl A hr (by omega) U (by omega) fun r O=>by have:=R r O;omega
theorem Qb2 {H:Nat→Prop}{w:World}{st:Nat}{q f k:Int}{P:List RP}{Rs:List RTb}(h:RSt H w st q f k P Rs)(n:ByteArray)(I:Rs.length≤1000)(L:P.length≤990000)(J:∀ A∈Rs,A.pages.length≤132000∧∀ i∈A.pages,i<P.length) :
  Calls prog 14 #[.pointer (some ⟨st,0,none⟩),.string n] w (Kwm H w st q f k P Rs n):=by
 unfold Kwm
 cases hr:Rs[Ksg (Rs.map nmT) n]? with
 |none=>exact Qaz h n I fun K=>by rw[Oa3 K]at hr;cases hr
 |some A=>
  obtain⟨N,M⟩:=J A (Of6 hr)
  exact Kzo h n I L _ rfl A hr (by omega) M
end Go.Proofs.YtcaocabmioafcaaGreatDoor
