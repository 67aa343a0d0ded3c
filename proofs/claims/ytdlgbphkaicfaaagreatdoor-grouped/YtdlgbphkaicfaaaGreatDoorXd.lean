/- The parts of expressions worked on a batch of rows: row by row. -/
import Derived.Test.YtdlgbphkaicfaaaGreatDoorXc
set_option maxHeartbeats 1000000
set_option maxRecDepth 100000
namespace Go.Proofs.YtdlgbphkaicfaaaGreatDoor
open Go.RowKit Go.Shelf Tryz
attribute [local go_sem] Oc0
def Jhg (y:V→V→V×Nat)(l r:List V)(n:Nat):List V:=(List.range n).map fun i=>(y (l.getD i Jf) (r.getD i Jf)).1
theorem Ud (y:V→V→V×Nat)(l r:List V)(n:Nat):(Jhg y l r n).length=n:=by simp[Jhg]
theorem Ji7 (y:V→V→V×Nat)(l r:List V)(n i:Nat)(h:i<n):(Jhg y l r n)[i]'(by rw[Ud];exact h)=(y (l.getD i Jf) (r.getD i Jf)).1:=by simp[Jhg]
def Je5 (H M:Addr)(b:Nat)(ex D:Value)(first n:Nat)(E K:Value)(k:Nat)(w:World)(y:Nat→Nat)(m:Nat)(w':World):Prop:=
 Ju (·=b) w w'∧m≤n∧(∀ i,i<m→y i=0)∧((m=n∧Uz w' b ex D first n E K)∨(m<n∧y m≠0∧∃ A,w.heap.size≤A∧Uz w' b ex D first m E (Qv A)∧Ja8 w' A ((first+m:Nat):Int) k (Jdb H M (y m))))
def Qa (H M:Addr)(b:Nat)(ex E:Value)(first n:Nat)(O K:Value)(k:Nat)(w:World)(y:V→V→V×Nat)(A D:List V):Ending→World→Prop:=fun e w'=>∃ (g m:Nat) (vs:List V),e=.returned (.slice (some ⟨g,0,none⟩) n n)∧w.heap.size≤g∧g≠b∧vs.length=n∧Kv w' g vs []∧(∀ i,i<m→vs.getD i Jf=(y (A.getD i Jf) (D.getD i Jf)).1)∧Je5 H M b ex E first n O K k w (fun i=>(y (A.getD i Jf) (D.getD i Jf)).2) m w'
theorem Je5.back {E M:Addr}{b:Nat}{ex A:Value}{first n:Nat}{O H:Value}{k:Nat}{w w1 w':World}{D:Nat→Nat}{m:Nat}(h:Je5 E M b ex A first n O H k w1 D m w')(K:Below w.heap.size w w1):Je5 E M b ex A first n O H k w D m w':=by
 obtain⟨h1,h2,U,y⟩:=h
 refine⟨(Ju.of_below K).trans h1,h2,U,?_⟩
 rcases y with y|⟨y,X,R,Z,ba⟩
 ·exact .inl y
 exact .inr ⟨y,X,R,Ob2 K.size Z,ba⟩
theorem Qa.back {D M:Addr}{b:Nat}{ex A:Value}{first n:Nat}{O E:Value}{k:Nat}{w w1 w':World}{y:V→V→V×Nat}{K R:List V}{e:Ending}(h:Qa D M b ex A first n O E k w1 y K R e w')(H:Below w.heap.size w w1):Qa D M b ex A first n O E k w y K R e w':=by
 obtain⟨g,m,vs,h1,h2,U,X,Z,ba,bb⟩:=h
 exact⟨g,m,vs,h1,Ob2 H.size h2,U,X,Z,ba,bb.back H⟩
theorem Jpe (b:Nat)(p:Pt)(f:Nat)(bN:Array Value)(Z:V→V→V×Nat)(G:V→Prop)(bi bj:Addr)(ex bM:Value)(first n:Nat)(bk bl k cp:Nat)(bO:Value)(L ba:Nat)(bK bL:Option Addr)(cJ cK:Nat)(E H:List V)(w:World)
  (h:Uz w b ex bM first n (.slice (some ⟨bk,bl,none⟩) k cp) bO) (dz:p.l=L) (dA:p.r=ba) (hL:L<k) (hR:ba<k) (hn:n≤100000) (hf:first+n≤10000000)
  (cL:w.cell? ⟨bk,bl+L,none⟩=some (.slice bK E.length cJ)) (cR:w.cell? ⟨bk,bl+ba,none⟩=some (.slice bL H.length cK)) (cS:Jv w bK E) (cY:Jv w bL H) (nl:n≤E.length) (nr:n≤H.length) (gl:∀ i (hi:i<E.length),i<n→G E[i]) (gr:∀ i (hi:i<H.length),i<n→G H[i])
  (dM:∀ (args:Array Value) (W:World),(callFunc f args).run prog W=.ok (.enter f args) W)
  (cV:∀ x M D,G x→G M→Below w.heap.size w D→Calls prog f (#[x.val,M.val]++bN) D (Jah bi bj D (Z x M))) :
  Calls prog 224 #[.pointer (some ⟨b,0,none⟩),p.val,.func (.func f) #[] bN] w (Qa bi bj b ex bM first n (.slice (some ⟨bk,bl,none⟩) k cp) bO k w Z E H):=by
 obtain⟨c0,c1,c2,c3,c4,c5⟩:=h.cells
 have bJ:Hid (Uz w b ex bM first n (.slice (some ⟨bk,bl,none⟩) k cp) bO):=h
 have dj:Hid (∀ x M D,G x→G M→Below w.heap.size w D→Calls prog f (#[x.val,M.val]++bN) D (Jah bi bj D (Z x M))):=cV
 have cI:Hid ((∀ i (hi:i<E.length),i<n→G E[i])∧(∀ i (hi:i<H.length),i<n→G H[i])):=⟨gl,gr⟩
 have dm:Hid (Jv w bK E):=cS
 have dp:Hid (Jv w bL H):=cY
 have di:Hid (first+n≤10000000):=hf
 clear h cV gl gr cS cY hf
 rw[Pt.val,dz,dA]
 obtain⟨w1,bH⟩:∃ w1,w1=(w.alloc (.cells #[.int .i64 p.op,.int .i64 (L:Int),.int .i64 (ba:Int),.int .i64 p.c,.int .i64 p.v.k,.int .i64 p.v.n,.string p.v.s] 65)).drew:=⟨_,rfl⟩
 have bZ:Below w.heap.size w w1:=by rw[bH];exact Jj (Jc (Oa5 _ _) _)
 obtain⟨C,cU,cn⟩:=Jqo n hn w1
 have dO:(0:Int)≤(L:Int):=by omega
 have dP:(L:Int)<(k:Int):=by omega
 have dQ:(0:Int)≤(ba:Int):=by omega
 have dR:(ba:Int)<(k:Int):=by omega
 have cM:=Ja bZ c3
 have ds:=Ja bZ c4
 rw[bH]at cU cM
 have bE:=heap_alloc_new w (.cells #[.int .i64 p.op,.int .i64 (L:Int),.int .i64 (ba:Int),.int .i64 p.c,.int .i64 p.v.k,.int .i64 p.v.n,.string p.v.s] 65)
 have cW:(w.alloc (.cells #[.int .i64 p.op,.int .i64 (L:Int),.int .i64 (ba:Int),.int .i64 p.c,.int .i64 p.v.k,.int .i64 p.v.n,.string p.v.s] 65)).cell? ⟨w.heap.size,1,none⟩=some (.int .i64 (L:Int)):=by unfold World.cell?;rw[bE];rfl
 have cX:(w.alloc (.cells #[.int .i64 p.op,.int .i64 (L:Int),.int .i64 (ba:Int),.int .i64 p.c,.int .i64 p.v.k,.int .i64 p.v.n,.string p.v.s] 65)).cell? ⟨w.heap.size,2,none⟩=some (.int .i64 (ba:Int)):=by unfold World.cell?;rw[bE];rfl
 go_enter func224,ntmps224
 go_wp2
 refine wp_region_held_drew (S:=fun D=>D.cell? ⟨b,4,none⟩=some (.slice (some ⟨bk,bl,none⟩) k cp)∧D.cell? ⟨bk,bl+L,none⟩=some (.slice bK E.length cJ)∧D.cell? ⟨bk,bl+ba,none⟩=some (.slice bL H.length cK)∧D.cell? ⟨w.heap.size,1,none⟩=some (.int .i64 (L:Int))∧D.cell? ⟨w.heap.size,2,none⟩=some (.int .i64 (ba:Int))) (by kernel_rfl) ⟨Jh (Kf c4),Jh (Kf cL),Jh (Kf cR),Jh cW,Jh cX⟩ (fun y=>?_)
 refine tk 0 ?_ rfl y ?_ (tk 1 ?_ rfl y ?_ (tk 2 ?_ rfl y ?_ (tk 3 ?_ rfl y ?_ (tk 4 ?_ rfl y ?_ (tk 5 ?_ rfl y ?_ (tk 6 ?_ rfl y ?_ (tk 7 ?_ rfl y ?_ (tk 8 ?_ rfl y ?_ (tk 9 ?_ rfl y ?_ (tk 10 ?_ rfl y ?_ (tk 11 ?_ rfl y ?_ (tk 12 ?_ rfl y ?_ (tk 13 ?_ rfl y ?_ (tk 14 ?_ rfl y ?_ (tk 15 ?_ rfl y ?_ (tk 16 ?_ rfl y ?_ (tk 17 ?_ rfl y ?_ ?_)))))))))))))))))
 iterate 18
  rotate_left 1
  ·intro w bc;(try dsimp only at bc);go_simp;try rfl
 simp only[Act.put,List.getElem_toArray,List.getElem_cons_zero,List.getElem_cons_succ,Oa1,List.set_cons_zero,List.set_cons_succ]
 refine wpAnyH_done (by kernel_rfl) ?_ _
 go_wp2
 have cZ:Kv (((w.alloc (.cells #[.int .i64 p.op,.int .i64 (L:Int),.int .i64 (ba:Int),.int .i64 p.c,.int .i64 p.v.k,.int .i64 p.v.n,.string p.v.s] 65)).alloc (.cells C 63)).drew) (w.heap.size+1) (List.replicate n Jf) []:=by
  have dE:w1.heap.size=w.heap.size+1:=by rw[bH,heap_drew];simp
  rw[←dE]
  rw[bH]at cn ⊢
  exact cn
 clear cn cU cM bE cW cX ds bH bZ cL cR c0 c1 c2 c3 c4 c5
 go_loopw [36] (fun i wr=>∃ c:Nat,c≤n∧i=.int .i64 (c:Int)∧Kv wr (w.heap.size+1) ((Jhg Z E H n).take c++List.replicate (n-c) Jf) []∧Hid (∀ i,i<c→(Z (E.getD i Jf) (H.getD i Jf)).2=0)∧Below w.heap.size w wr) (fun i _=>n-(intOf i).toNat)
 case atStart=>exact⟨0,Ob7 _,rfl,by simpa using cZ,fun i hi=>absurd hi (Oe0 _),Jj (Jc (Jc (Oa5 _ _) _) _)⟩
 case round=>
  obtain⟨c,dL,rfl,cr,bV,bx⟩:=hrel
  have bU:Hid (Kv wr (w.heap.size+1) ((Jhg Z E H n).take c++List.replicate (n-c) Jf) []):=cr
  have cP:=cr.lt
  clear cr cZ
  by_cases bA:c<n
  ·have cf:c<E.length:=by omega
   have ci:c<H.length:=by omega
   obtain⟨b1,cz,du,bC,dc,dd,de⟩:=(dm.out.below bx).at cf
   obtain⟨b2,cA,dv,bD,df,dg,dh⟩:=(dp.out.below bx).at ci
   have bW:=cI.out.1 c cf bA
   have bX:=cI.out.2 c ci bA
   obtain⟨x,cx⟩:∃ x,x=E[c]:=⟨_,rfl⟩
   obtain⟨M,cy⟩:∃ M,M=H[c]:=⟨_,rfl⟩
   rw[←cx]at dc dd de bW
   rw[←cy]at df dg dh bX
   have bn:Hid (E.getD c Jf=x∧H.getD c Jf=M):=⟨by rw[cx,Oa0,Oa3 cf];rfl,by rw[cy,Oa0,Oa3 ci];rfl⟩
   clear cx cy
   have cc:=fun D=>dj.out x M D bW bX
   obtain⟨v,br,bY⟩:∃ v br,Z x M=(v,br):=⟨_,_,rfl⟩
   rw[bY]at cc
   have bI:Hid (Z x M=(v,br)):=bY
   have bT:Hid (∀ D,Below w.heap.size w D→Calls prog f (#[x.val,M.val]++bN) D (OpP D v (Jdb bi bj br))):=cc
   clear cc bY bW bX
   subst du dv
   have j1:(0:Int)≤(c:Int):=by omega
   have j2:(c:Int)<(E.length:Int):=by omega
   have dS:(c:Int)<(H.length:Int):=by omega
   go_upto_region 6 with fail
   go_cut [11,12] from 39 to 52 (fun dG dH db=>∃ fa:Nat,dG=.pointer (some ⟨fa,0,none⟩)∧dH=Jdb bi bj br∧db.heap[fa]?=some (.cells #[.int .i64 v.k,.int .i64 v.n,.string v.s] 63 (0,0))∧Below wr.heap.size wr db∧wr.heap.size≤fa)
   case first=>
    obtain⟨ev,cj⟩:∃ ev,ev=Jdb bi bj br:=⟨_,rfl⟩
    rw[←cj]at bT
    have cO:Below wr.heap.size wr wr.drew:=Jj (Oa5 _ _)
    refine wp_region_held_drew (S:=fun D=>D.cell? ⟨b1,cz+c*3,none⟩=some (.int .i64 x.k)∧D.cell? ⟨b1,cz+c*3+1,none⟩=some (.int .i64 x.n)∧D.cell? ⟨b1,cz+c*3+2,none⟩=some (.string x.s)∧D.cell? ⟨b2,cA+c*3,none⟩=some (.int .i64 M.k)∧D.cell? ⟨b2,cA+c*3+1,none⟩=some (.int .i64 M.n)∧D.cell? ⟨b2,cA+c*3+2,none⟩=some (.string M.s)) (by kernel_rfl) ⟨dc,dd,de,df,dg,dh⟩ (fun y=>?_)
    refine tk 0 ?_ rfl y ?_ (tk 1 ?_ rfl y ?_ (tk 2 ?_ rfl y ?_ (tk 3 ?_ rfl y ?_ (tk 4 ?_ rfl y ?_ (tk 5 ?_ rfl y ?_ (tk 6 ?_ rfl y ?_ (tk 7 ?_ rfl y ?_ (tk 8 ?_ rfl y ?_ ?_))))))))
    iterate 9
     rotate_left 1
     ·intro w bc;(try dsimp only at bc);go_simp;try rfl
    simp only[Act.put,List.getElem_toArray,List.getElem_cons_zero,List.getElem_cons_succ,Oa1,List.set_cons_zero,List.set_cons_succ]
    refine wpAnyH_ready (rs:=[9,13]) (by kernel_rfl) (by simp) (AllReadyH.cons rfl (fun bb O=>?_) (AllReadyH.cons rfl (fun bb O=>?_) AllReadyH.nil))
    ·go_simp
     refine(bT.out wr.drew (Jb bx cO)).mono ?_
     rintro e A ⟨rfl,X⟩
     have cN:Below wr.heap.size wr A:=Jb cO X
     go_simp
     refine O.out _ _ ⟨Ja X y.1,Ja X y.2.1,Ja X y.2.2.1,Ja X y.2.2.2.1,Ja X y.2.2.2.2.1,Ja X y.2.2.2.2.2⟩ (fun y=>?_)
     clear O bb
     refine tk 10 ?_ rfl y ?_ (tk 11 ?_ rfl y ?_ (tk 12 ?_ rfl y ?_ ?_))
     iterate 3
      rotate_left 1
      ·intro w bc;(try dsimp only at bc);go_simp;try rfl
     simp only[Act.put,List.getElem_toArray,List.getElem_cons_zero,List.getElem_cons_succ,Oa1,List.set_cons_zero,List.set_cons_succ]
     refine wpAnyH_ready (rs:=[13]) (by kernel_rfl) (by simp) (AllReadyH.cons rfl (fun bb O=>?_) AllReadyH.nil)
     go_simp
     have R:Below A.heap.size A (A.alloc (.cells #[.int .i64 0,.int .i64 0,.string ⟨#[]⟩] 63)):=(Oa5 _ A).alloc (Oa2 _) _
     have K:(A.alloc (.cells #[.int .i64 0,.int .i64 0,.string ⟨#[]⟩] 63)).heap[A.heap.size]?=some (.cells #[.int .i64 0,.int .i64 0,.string ⟨#[]⟩] 63 (0,0)):=heap_alloc_new A _
     refine O.out _ _ ⟨Ja R y.1,Ja R y.2.1,Ja R y.2.2.1,Ja R y.2.2.2.1,Ja R y.2.2.2.2.1,Ja R y.2.2.2.2.2⟩ (fun y=>?_)
     clear O bb
     have bP:=Jb cN R
     have bh:wr.heap.size≤A.heap.size:=cN.size
     generalize A.alloc (.cells #[.int .i64 0,.int .i64 0,.string ⟨#[]⟩] 63)=bf at bP R K y ⊢
     have cB:bf.cell? ⟨A.heap.size,0,none⟩=some (.int .i64 0):=by simp[World.cell?,K]
     have cC:bf.cell? ⟨A.heap.size,1,none⟩=some (.int .i64 0):=by simp[World.cell?,K]
     have cD:bf.cell? ⟨A.heap.size,2,none⟩=some (.string ⟨#[]⟩):=by simp[World.cell?,K]
     have cE:bf.frozen? ⟨A.heap.size,0,none⟩=false:=by simp[World.frozen?,K]
     have cF:bf.frozen? ⟨A.heap.size,1,none⟩=false:=by simp[World.frozen?,K]
     have cG:bf.frozen? ⟨A.heap.size,2,none⟩=false:=by simp[World.frozen?,K]
     have bu:=Jk (Jk (Jk K 0 (.int .i64 v.k)) 1 (.int .i64 v.n)) 2 (.string v.s)
     simp only[Oa1,List.set_cons_zero,List.set_cons_succ]at bu
     have ca:Below wr.heap.size wr (((bf.setCell ⟨A.heap.size,0,none⟩ (.int .i64 v.k)).setCell ⟨A.heap.size,1,none⟩ (.int .i64 v.n)).setCell ⟨A.heap.size,2,none⟩ (.string v.s)):=((bP.setCell (p:=⟨A.heap.size,0,none⟩) bh _).setCell (p:=⟨A.heap.size,1,none⟩) bh _).setCell (p:=⟨A.heap.size,2,none⟩) bh _
     have U:∀ (b o:Nat) (u:Value),b<wr.heap.size→bf.cell? ⟨b,o,none⟩=some u→(((bf.setCell ⟨A.heap.size,0,none⟩ (.int .i64 v.k)).setCell ⟨A.heap.size,1,none⟩ (.int .i64 v.n)).setCell ⟨A.heap.size,2,none⟩ (.string v.s)).cell? ⟨b,o,none⟩=some u:=fun b o u dw bG=>by
      have bB:A.heap.size≠b:=by omega
      exact Uc (fun e=>bB (congrArg Addr.block e)) (Uc (fun e=>bB (congrArg Addr.block e)) (Uc (fun e=>bB (congrArg Addr.block e)) bG))
     have bS:Hid ((((bf.setCell ⟨A.heap.size,0,none⟩ (.int .i64 v.k)).setCell ⟨A.heap.size,1,none⟩ (.int .i64 v.n)).setCell ⟨A.heap.size,2,none⟩ (.string v.s)).heap[A.heap.size]?=some (.cells #[.int .i64 v.k,.int .i64 v.n,.string v.s] 63 (0,0))):=bu
     clear bu K
     refine wpAnyH_ready (rs:=[14]) (by kernel_rfl) (by simp) (AllReadyH.cons rfl (fun bb O=>?_) AllReadyH.nil)
     go_simp
     refine O.out _ _ ⟨U _ _ _ bC y.1,U _ _ _ bC y.2.1,U _ _ _ bC y.2.2.1,U _ _ _ bD y.2.2.2.1,U _ _ _ bD y.2.2.2.2.1,U _ _ _ bD y.2.2.2.2.2⟩ (fun y=>?_)
     clear O bb U cB cC cD cE cF cG
     refine tk 15 ?_ rfl y ?_ ?_
     rotate_left 1
     ·intro w bc;(try dsimp only at bc);go_simp;try rfl
     simp only[Act.put,List.getElem_toArray,List.getElem_cons_zero,List.getElem_cons_succ,Oa1,List.set_cons_zero,List.set_cons_succ]
     refine wpAnyH_done (by kernel_rfl) ?_ _
     go_wp2_with fail
     go_meet
     case rel=>exact⟨A.heap.size,rfl,by first|rfl|exact cj,bS.out,ca,bh⟩
    go_simp
    have R:Below wr.heap.size wr ((wr.alloc (.cells #[.int .i64 0,.int .i64 0,.string ⟨#[]⟩] 63)).drew):=Jj (Jc (Oa5 _ _) _)
    have cl:((wr.alloc (.cells #[.int .i64 0,.int .i64 0,.string ⟨#[]⟩] 63)).drew).heap[wr.heap.size]?=some (.cells #[.int .i64 0,.int .i64 0,.string ⟨#[]⟩] 63 (0,0)):=heap_alloc_new wr _
    have bz:Below wr.drew.heap.size wr.drew ((wr.alloc (.cells #[.int .i64 0,.int .i64 0,.string ⟨#[]⟩] 63)).drew):=⟨R.os,R.tape,R.output,R.size,R.block⟩
    refine O.out _ _ ⟨Ja bz y.1,Ja bz y.2.1,Ja bz y.2.2.1,Ja bz y.2.2.2.1,Ja bz y.2.2.2.2.1,Ja bz y.2.2.2.2.2⟩ (fun y=>?_)
    clear O bb
    generalize dt:(wr.alloc (.cells #[.int .i64 0,.int .i64 0,.string ⟨#[]⟩] 63)).drew=dr at R bz cl y ⊢
    clear dt
    refine wpAnyH_ready (rs:=[9]) (by kernel_rfl) (by simp) (AllReadyH.cons rfl (fun bb O=>?_) AllReadyH.nil)
    go_simp
    refine(bT.out dr (Jb bx R)).mono ?_
    rintro e A ⟨rfl,X⟩
    have bP:Below wr.heap.size wr A:=Jb R X
    have K:A.heap[wr.heap.size]?=some (.cells #[.int .i64 0,.int .i64 0,.string ⟨#[]⟩] 63 (0,0)):=(X.block _ (Jd cl)).trans cl
    have bh:wr.heap.size≤wr.heap.size:=Oa2 _
    go_simp
    refine O.out _ _ ⟨Ja X y.1,Ja X y.2.1,Ja X y.2.2.1,Ja X y.2.2.2.1,Ja X y.2.2.2.2.1,Ja X y.2.2.2.2.2⟩ (fun y=>?_)
    clear O bb
    refine tk 10 ?_ rfl y ?_ (tk 11 ?_ rfl y ?_ (tk 12 ?_ rfl y ?_ ?_))
    iterate 3
     rotate_left 1
     ·intro w bc;(try dsimp only at bc);go_simp;try rfl
    simp only[Act.put,List.getElem_toArray,List.getElem_cons_zero,List.getElem_cons_succ,Oa1,List.set_cons_zero,List.set_cons_succ]
    have cB:A.cell? ⟨wr.heap.size,0,none⟩=some (.int .i64 0):=by simp[World.cell?,K]
    have cC:A.cell? ⟨wr.heap.size,1,none⟩=some (.int .i64 0):=by simp[World.cell?,K]
    have cD:A.cell? ⟨wr.heap.size,2,none⟩=some (.string ⟨#[]⟩):=by simp[World.cell?,K]
    have cE:A.frozen? ⟨wr.heap.size,0,none⟩=false:=by simp[World.frozen?,K]
    have cF:A.frozen? ⟨wr.heap.size,1,none⟩=false:=by simp[World.frozen?,K]
    have cG:A.frozen? ⟨wr.heap.size,2,none⟩=false:=by simp[World.frozen?,K]
    have bu:=Jk (Jk (Jk K 0 (.int .i64 v.k)) 1 (.int .i64 v.n)) 2 (.string v.s)
    simp only[Oa1,List.set_cons_zero,List.set_cons_succ]at bu
    have ca:Below wr.heap.size wr (((A.setCell ⟨wr.heap.size,0,none⟩ (.int .i64 v.k)).setCell ⟨wr.heap.size,1,none⟩ (.int .i64 v.n)).setCell ⟨wr.heap.size,2,none⟩ (.string v.s)):=((bP.setCell (p:=⟨wr.heap.size,0,none⟩) bh _).setCell (p:=⟨wr.heap.size,1,none⟩) bh _).setCell (p:=⟨wr.heap.size,2,none⟩) bh _
    have U:∀ (b o:Nat) (u:Value),b<wr.heap.size→A.cell? ⟨b,o,none⟩=some u→(((A.setCell ⟨wr.heap.size,0,none⟩ (.int .i64 v.k)).setCell ⟨wr.heap.size,1,none⟩ (.int .i64 v.n)).setCell ⟨wr.heap.size,2,none⟩ (.string v.s)).cell? ⟨b,o,none⟩=some u:=fun b o u dw bG=>by
     have bB:wr.heap.size≠b:=by omega
     exact Uc (fun e=>bB (congrArg Addr.block e)) (Uc (fun e=>bB (congrArg Addr.block e)) (Uc (fun e=>bB (congrArg Addr.block e)) bG))
    have bS:Hid ((((A.setCell ⟨wr.heap.size,0,none⟩ (.int .i64 v.k)).setCell ⟨wr.heap.size,1,none⟩ (.int .i64 v.n)).setCell ⟨wr.heap.size,2,none⟩ (.string v.s)).heap[wr.heap.size]?=some (.cells #[.int .i64 v.k,.int .i64 v.n,.string v.s] 63 (0,0))):=bu
    clear bu K
    refine wpAnyH_ready (rs:=[14]) (by kernel_rfl) (by simp) (AllReadyH.cons rfl (fun bb O=>?_) AllReadyH.nil)
    go_simp
    refine O.out _ _ ⟨U _ _ _ bC y.1,U _ _ _ bC y.2.1,U _ _ _ bC y.2.2.1,U _ _ _ bD y.2.2.2.1,U _ _ _ bD y.2.2.2.2.1,U _ _ _ bD y.2.2.2.2.2⟩ (fun y=>?_)
    clear O bb U cB cC cD cE cF cG
    refine tk 15 ?_ rfl y ?_ ?_
    rotate_left 1
    ·intro w bc;(try dsimp only at bc);go_simp;try rfl
    simp only[Act.put,List.getElem_toArray,List.getElem_cons_zero,List.getElem_cons_succ,Oa1,List.set_cons_zero,List.set_cons_succ]
    refine wpAnyH_done (by kernel_rfl) ?_ _
    go_wp2_with fail
    go_meet
    case rel=>exact⟨wr.heap.size,rfl,by first|rfl|exact cj,bS.out,ca,bh⟩
   case rest=>
    obtain⟨fa,rfl,rfl,bR,cb,bh⟩:=hcut
    have bQ:=Jb bx cb
    have cH:Hid (Below wr.heap.size wr wc):=cb
    by_cases ch:br=0
    ·subst ch
     have dU:wc.cell? ⟨fa,0,none⟩=some (.int .i64 v.k):=by simp[World.cell?,bR]
     have dV:wc.cell? ⟨fa,1,none⟩=some (.int .i64 v.n):=by simp[World.cell?,bR]
     have dW:wc.cell? ⟨fa,2,none⟩=some (.string v.s):=by simp[World.cell?,bR]
     have da:=bU.out.of_block (cb.block _ cP)
     have cT:((Jhg Z E H n).take c++List.replicate (n-c) Jf).length=n:=by rw[Oa8,Oc7,Ud,Od6];omega
     obtain⟨dT,⟨c0,dI⟩,⟨c1,dJ⟩,⟨c2,dK⟩,cv⟩:=da.put v c (by rw[cT];exact bA)
     have bG:(Jhg Z E H n)[c]'(by rw[Ud];exact bA)=v:=by rw[Ji7 _ _ _ _ _ bA,bn.out.1,bn.out.2,bI.out]
     have cu:=Jk1 (Jhg Z E H n) c n (Ud _ _ _ _) bA
     rw[bG]at cu
     rw[cu]at cv
     have dk:Hid (Kv (((wc.setCell ⟨w.heap.size+1,c*3,none⟩ (.int .i64 v.k)).setCell ⟨w.heap.size+1,c*3+1,none⟩ (.int .i64 v.n)).setCell ⟨w.heap.size+1,c*3+2,none⟩ (.string v.s)) (w.heap.size+1) ((Jhg Z E H n).take (c+1)++List.replicate (n-(c+1)) Jf) []):=cv
     have dx:Below w.heap.size w (((wc.setCell ⟨w.heap.size+1,c*3,none⟩ (.int .i64 v.k)).setCell ⟨w.heap.size+1,c*3+1,none⟩ (.int .i64 v.n)).setCell ⟨w.heap.size+1,c*3+2,none⟩ (.string v.s)):=
      ((bQ.setCell (p:=⟨w.heap.size+1,c*3,none⟩) (by show w.heap.size≤w.heap.size+1;omega) _).setCell (p:=⟨w.heap.size+1,c*3+1,none⟩) (by show w.heap.size≤w.heap.size+1;omega) _).setCell (p:=⟨w.heap.size+1,c*3+2,none⟩) (by show w.heap.size≤w.heap.size+1;omega) _
     have j4:(c:Int)<(n:Int):=by omega
     clear cv cu bG cT da bR
     rw[show Jdb bi bj 0=Value.nilIface from rfl]
     go_wp2
     go_roundw
     case rel=>
      refine⟨c+1,by omega,by go_num,dk.out,fun i hi=>?_,dx⟩
      by_cases dy:i=c
      ·subst dy;rw[bn.out.1,bn.out.2,bI.out]
      exact bV.out i (by omega)
     case measure=>simp[intOf];omega
    obtain⟨q,bE⟩:∃ q,Jdb bi bj br=.iface 435 (.pointer (some q)):=by
     unfold Jdb
     rw[if_neg ch]
     split
     ·exact⟨_,rfl⟩
     ·exact⟨_,rfl⟩
    have dC:=Jd bJ.out
    have U:=Jzk b c q ex bM first n (some ⟨bk,bl,none⟩) k cp bO wc (by have:=di.out;omega) (bJ.out.below bQ)
    rw[bE]
    go_wp2_with (go_at_call 265;refine U.mono ?_;rintro e dq ⟨rfl,dN,dB,dD,cQ⟩)
    go_ret
    refine⟨w.heap.size+1,c,_,rfl,by omega,by omega,?_,((bU.out.of_block (cH.out.block _ cP)).of_block (cQ.block _ (by have:=cH.out.size;omega) (by show ¬ w.heap.size+1=b;omega))),fun i hi=>?_,(Ju.of_below bQ).trans cQ,by omega,bV.out,.inr ⟨bA,?_,wc.heap.size,bQ.size,dB,?_⟩⟩
    ·rw[Oa8,Oc7,Ud,Od6];omega
    ·rw[Oa0,Ob0 (by rw[Oc7,Ud];omega),Oe7,if_pos hi,Oa3 (by rw[Ud];omega),Ji7 _ _ _ _ _ (by omega)];rfl
    ·show (Z (E.getD c Jf) (H.getD c Jf)).2≠0
     rw[bn.out.1,bn.out.2,bI.out];exact ch
    show Ja8 dq wc.heap.size _ _ (Jdb bi bj (Z (E.getD c Jf) (H.getD c Jf)).2)
    rw[bn.out.1,bn.out.2,bI.out,bE];exact dD
  obtain rfl:c=n:=by omega
  have dC:=Jd bJ.out
  go_wp2
  go_ret
  refine⟨w.heap.size+1,c,_,rfl,by omega,by omega,?_,bU.out,fun i hi=>?_,Ju.of_below bx,Oa2 _,bV.out,.inl ⟨rfl,bJ.out.below bx⟩⟩
  ·rw[Oa8,Oc7,Ud,Od6];omega
  rw[Oa0,Ob0 (by rw[Oc7,Ud];omega),Oe7,if_pos hi,Oa3 (by rw[Ud];omega),Ji7 _ _ _ _ _ (by omega)];rfl
end Go.Proofs.YtdlgbphkaicfaaaGreatDoor
