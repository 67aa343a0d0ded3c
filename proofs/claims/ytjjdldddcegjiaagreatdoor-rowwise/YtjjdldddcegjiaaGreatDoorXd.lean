/- The parts of expressions worked on a batch of rows: row by row. -/
import Derived.Test.YtjjdldddcegjiaaGreatDoorXc
set_option maxHeartbeats 1000000
set_option maxRecDepth 100000
namespace Go.Proofs.YtjjdldddcegjiaaGreatDoor
open Go.RowKit Go.Shelf Tryz
attribute [local go_sem] Oc0
def Jhg (y:V→V→V×Nat)(l r:List V)(n:Nat):List V:=(List.range n).map fun i=>(y (l.getD i Jf) (r.getD i Jf)).1
theorem Ud (y:V→V→V×Nat)(l r:List V)(n:Nat):(Jhg y l r n).length=n:=by simp[Jhg]
theorem Ji7 (y:V→V→V×Nat)(l r:List V)(n i:Nat)(h:i<n):(Jhg y l r n)[i]'(by rw[Ud];exact h)=(y (l.getD i Jf) (r.getD i Jf)).1:=by simp[Jhg]
def Je5 (C E:Addr)(b:Nat)(ex ba:Value)(first n:Nat)(A D:Value)(k:Nat)(w:World)(y:Nat→Nat)(m:Nat)(w':World):Prop:=
 Ju (·=b) w w'∧m≤n∧(∀ i,i<m→y i=0)∧((m=n∧Uz w' b ex ba first n A D)∨(m<n∧y m≠0∧∃ z,w.heap.size≤z∧Uz w' b ex ba first m A (Qv z)∧Ja8 w' z ((first+m:Nat):Int) k (Jdb C E (y m))))
def Qa (C E:Addr)(b:Nat)(ex ba:Value)(first n:Nat)(H D:Value)(k:Nat)(w:World)(y:V→V→V×Nat)(z A:List V):Ending→World→Prop:=fun e w'=>∃ (g m:Nat) (vs:List V),e=.returned (.slice (some ⟨g,0,none⟩) n n)∧w.heap.size≤g∧g≠b∧vs.length=n∧Kv w' g vs []∧(∀ i,i<m→vs.getD i Jf=(y (z.getD i Jf) (A.getD i Jf)).1)∧Je5 C E b ex ba first n H D k w (fun i=>(y (z.getD i Jf) (A.getD i Jf)).2) m w'
theorem Je5.back {A E:Addr}{b:Nat}{ex ba:Value}{first n:Nat}{H C:Value}{k:Nat}{w w1 w':World}{z:Nat→Nat}{m:Nat}(h:Je5 A E b ex ba first n H C k w1 z m w')(D:Below w.heap.size w w1):Je5 A E b ex ba first n H C k w z m w':=by
 obtain⟨M,O,R,y⟩:=h
 refine⟨(Ju.of_below D).trans M,O,R,?_⟩
 rcases y with y|⟨y,U,K,X,Z⟩
 ·exact .inl y
 exact .inr ⟨y,U,K,Ob2 D.size X,Z⟩
theorem Qa.back {z E:Addr}{b:Nat}{ex ba:Value}{first n:Nat}{H A:Value}{k:Nat}{w w1 w':World}{y:V→V→V×Nat}{D K:List V}{e:Ending}(h:Qa z E b ex ba first n H A k w1 y D K e w')(C:Below w.heap.size w w1):Qa z E b ex ba first n H A k w y D K e w':=by
 obtain⟨g,m,vs,M,O,R,U,X,Z,bc⟩:=h
 exact⟨g,m,vs,M,Ob2 C.size O,R,U,X,Z,bc.back C⟩
theorem Jpe (b:Nat)(p:Pt)(f:Nat)(bN:Array Value)(U:V→V→V×Nat)(G:V→Prop)(bi bj:Addr)(ex ba:Value)(first n:Nat)(bl bn k cp:Nat)(bO:Value)(L X:Nat)(bL bM:Option Addr)(cJ cK:Nat)(C D:List V)(w:World)
  (h:Uz w b ex ba first n (.slice (some ⟨bl,bn,none⟩) k cp) bO) (dA:p.l=L) (dB:p.r=X) (hL:L<k) (hR:X<k) (hn:n≤100000) (hf:first+n≤10000000)
  (cL:w.cell? ⟨bl,bn+L,none⟩=some (.slice bL C.length cJ)) (cR:w.cell? ⟨bl,bn+X,none⟩=some (.slice bM D.length cK)) (cS:Jv w bL C) (cY:Jv w bM D) (nl:n≤C.length) (nr:n≤D.length) (gl:∀ i (hi:i<C.length),i<n→G C[i]) (gr:∀ i (hi:i<D.length),i<n→G D[i])
  (dN:∀ (args:Array Value) (W:World),(callFunc f args).run prog W=.ok (.enter f args) W)
  (cV:∀ x H A,G x→G H→Below w.heap.size w A→Calls prog f (#[x.val,H.val]++bN) A (Jah bi bj A (U x H))) :
  Calls prog 235 #[.pointer (some ⟨b,0,none⟩),p.val,.func (.func f) #[] bN] w (Qa bi bj b ex ba first n (.slice (some ⟨bl,bn,none⟩) k cp) bO k w U C D):=by
 obtain⟨c0,c1,c2,c3,c4,c5⟩:=h.cells
 have bK:Hid (Uz w b ex ba first n (.slice (some ⟨bl,bn,none⟩) k cp) bO):=h
 have dk:Hid (∀ x H A,G x→G H→Below w.heap.size w A→Calls prog f (#[x.val,H.val]++bN) A (Jah bi bj A (U x H))):=cV
 have cI:Hid ((∀ i (hi:i<C.length),i<n→G C[i])∧(∀ i (hi:i<D.length),i<n→G D[i])):=⟨gl,gr⟩
 have dp:Hid (Jv w bL C):=cS
 have dq:Hid (Jv w bM D):=cY
 have dj:Hid (first+n≤10000000):=hf
 clear h cV gl gr cS cY hf
 rw[Pt.val,dA,dB]
 obtain⟨w1,bI⟩:∃ w1,w1=(w.alloc (.cells #[.int .i64 p.op,.int .i64 (L:Int),.int .i64 (X:Int),.int .i64 p.c,.int .i64 p.v.k,.int .i64 p.v.n,.string p.v.s] 51)).drew:=⟨_,rfl⟩
 have bZ:Below w.heap.size w w1:=by rw[bI];exact Jj (Jc (Oa5 _ _) _)
 obtain⟨di,cU,cn⟩:=Jqo n hn w1
 have dP:(0:Int)≤(L:Int):=by omega
 have dQ:(L:Int)<(k:Int):=by omega
 have dR:(0:Int)≤(X:Int):=by omega
 have dS:(X:Int)<(k:Int):=by omega
 have cM:=Ja bZ c3
 have dt:=Ja bZ c4
 rw[bI]at cU cM
 have bG:=heap_alloc_new w (.cells #[.int .i64 p.op,.int .i64 (L:Int),.int .i64 (X:Int),.int .i64 p.c,.int .i64 p.v.k,.int .i64 p.v.n,.string p.v.s] 51)
 have cW:(w.alloc (.cells #[.int .i64 p.op,.int .i64 (L:Int),.int .i64 (X:Int),.int .i64 p.c,.int .i64 p.v.k,.int .i64 p.v.n,.string p.v.s] 51)).cell? ⟨w.heap.size,1,none⟩=some (.int .i64 (L:Int)):=by unfold World.cell?;rw[bG];rfl
 have cX:(w.alloc (.cells #[.int .i64 p.op,.int .i64 (L:Int),.int .i64 (X:Int),.int .i64 p.c,.int .i64 p.v.k,.int .i64 p.v.n,.string p.v.s] 51)).cell? ⟨w.heap.size,2,none⟩=some (.int .i64 (X:Int)):=by unfold World.cell?;rw[bG];rfl
 go_enter func235,ntmps235
 go_wp2
 refine wp_region_held_drew (S:=fun A=>A.cell? ⟨b,4,none⟩=some (.slice (some ⟨bl,bn,none⟩) k cp)∧A.cell? ⟨bl,bn+L,none⟩=some (.slice bL C.length cJ)∧A.cell? ⟨bl,bn+X,none⟩=some (.slice bM D.length cK)∧A.cell? ⟨w.heap.size,1,none⟩=some (.int .i64 (L:Int))∧A.cell? ⟨w.heap.size,2,none⟩=some (.int .i64 (X:Int))) (by kernel_rfl) ⟨Jh (Kf c4),Jh (Kf cL),Jh (Kf cR),Jh cW,Jh cX⟩ (fun y=>?_)
 refine tk 0 ?_ rfl y ?_ (tk 1 ?_ rfl y ?_ (tk 2 ?_ rfl y ?_ (tk 3 ?_ rfl y ?_ (tk 4 ?_ rfl y ?_ (tk 5 ?_ rfl y ?_ (tk 6 ?_ rfl y ?_ (tk 7 ?_ rfl y ?_ (tk 8 ?_ rfl y ?_ (tk 9 ?_ rfl y ?_ (tk 10 ?_ rfl y ?_ (tk 11 ?_ rfl y ?_ (tk 12 ?_ rfl y ?_ (tk 13 ?_ rfl y ?_ (tk 14 ?_ rfl y ?_ (tk 15 ?_ rfl y ?_ (tk 16 ?_ rfl y ?_ (tk 17 ?_ rfl y ?_ ?_)))))))))))))))))
 iterate 18
  rotate_left 1
  ·intro w bc;(try dsimp only at bc);go_simp;try rfl
 simp only[Act.put,List.getElem_toArray,List.getElem_cons_zero,List.getElem_cons_succ,Oa1,List.set_cons_zero,List.set_cons_succ]
 refine wpAnyH_done (by kernel_rfl) ?_ _
 go_wp2
 have cZ:Kv (((w.alloc (.cells #[.int .i64 p.op,.int .i64 (L:Int),.int .i64 (X:Int),.int .i64 p.c,.int .i64 p.v.k,.int .i64 p.v.n,.string p.v.s] 51)).alloc (.cells di 49)).drew) (w.heap.size+1) (List.replicate n Jf) []:=by
  have dG:w1.heap.size=w.heap.size+1:=by rw[bI,heap_drew];simp
  rw[←dG]
  rw[bI]at cn ⊢
  exact cn
 clear cn cU cM bG cW cX dt bI bZ cL cR c0 c1 c2 c3 c4 c5
 go_loopw [36] (fun i wr=>∃ c:Nat,c≤n∧i=.int .i64 (c:Int)∧Kv wr (w.heap.size+1) ((Jhg U C D n).take c++List.replicate (n-c) Jf) []∧Hid (∀ i,i<c→(U (C.getD i Jf) (D.getD i Jf)).2=0)∧Below w.heap.size w wr) (fun i _=>n-(intOf i).toNat)
 case atStart=>exact⟨0,Ob7 _,rfl,by simpa using cZ,fun i hi=>absurd hi (Oe0 _),Jj (Jc (Jc (Oa5 _ _) _) _)⟩
 case round=>
  obtain⟨c,dM,rfl,cr,bV,bz⟩:=hrel
  have bU:Hid (Kv wr (w.heap.size+1) ((Jhg U C D n).take c++List.replicate (n-c) Jf) []):=cr
  have cP:=cr.lt
  clear cr cZ
  by_cases bB:c<n
  ·have cf:c<C.length:=by omega
   have ci:c<D.length:=by omega
   obtain⟨b1,cz,dv,bD,dc,dd,de⟩:=(dp.out.below bz).at cf
   obtain⟨b2,cA,dw,bE,df,dg,dh⟩:=(dq.out.below bz).at ci
   have bW:=cI.out.1 c cf bB
   have bX:=cI.out.2 c ci bB
   obtain⟨x,cx⟩:∃ x,x=C[c]:=⟨_,rfl⟩
   obtain⟨H,cy⟩:∃ H,H=D[c]:=⟨_,rfl⟩
   rw[←cx]at dc dd de bW
   rw[←cy]at df dg dh bX
   have br:Hid (C.getD c Jf=x∧D.getD c Jf=H):=⟨by rw[cx,Oa0,Oa3 cf];rfl,by rw[cy,Oa0,Oa3 ci];rfl⟩
   clear cx cy
   have cc:=fun A=>dk.out x H A bW bX
   obtain⟨v,bu,bY⟩:∃ v bu,U x H=(v,bu):=⟨_,_,rfl⟩
   rw[bY]at cc
   have bJ:Hid (U x H=(v,bu)):=bY
   have bT:Hid (∀ A,Below w.heap.size w A→Calls prog f (#[x.val,H.val]++bN) A (OpP A v (Jdb bi bj bu))):=cc
   clear cc bY bW bX
   subst dv dw
   have dT:(0:Int)≤(c:Int):=by omega
   have dU:(c:Int)<(C.length:Int):=by omega
   have dV:(c:Int)<(D.length:Int):=by omega
   go_upto_region 6 with fail
   go_cut [11,12] from 39 to 52 (fun dH dI db=>∃ fa:Nat,dH=.pointer (some ⟨fa,0,none⟩)∧dI=Jdb bi bj bu∧db.heap[fa]?=some (.cells #[.int .i64 v.k,.int .i64 v.n,.string v.s] 49 (0,0))∧Below wr.heap.size wr db∧wr.heap.size≤fa)
   case first=>
    obtain⟨ev,cj⟩:∃ ev,ev=Jdb bi bj bu:=⟨_,rfl⟩
    rw[←cj]at bT
    have cO:Below wr.heap.size wr wr.drew:=Jj (Oa5 _ _)
    refine wp_region_held_drew (S:=fun A=>A.cell? ⟨b1,cz+c*3,none⟩=some (.int .i64 x.k)∧A.cell? ⟨b1,cz+c*3+1,none⟩=some (.int .i64 x.n)∧A.cell? ⟨b1,cz+c*3+2,none⟩=some (.string x.s)∧A.cell? ⟨b2,cA+c*3,none⟩=some (.int .i64 H.k)∧A.cell? ⟨b2,cA+c*3+1,none⟩=some (.int .i64 H.n)∧A.cell? ⟨b2,cA+c*3+2,none⟩=some (.string H.s)) (by kernel_rfl) ⟨dc,dd,de,df,dg,dh⟩ (fun y=>?_)
    refine tk 0 ?_ rfl y ?_ (tk 1 ?_ rfl y ?_ (tk 2 ?_ rfl y ?_ (tk 3 ?_ rfl y ?_ (tk 4 ?_ rfl y ?_ (tk 5 ?_ rfl y ?_ (tk 6 ?_ rfl y ?_ (tk 7 ?_ rfl y ?_ (tk 8 ?_ rfl y ?_ ?_))))))))
    iterate 9
     rotate_left 1
     ·intro w bc;(try dsimp only at bc);go_simp;try rfl
    simp only[Act.put,List.getElem_toArray,List.getElem_cons_zero,List.getElem_cons_succ,Oa1,List.set_cons_zero,List.set_cons_succ]
    refine wpAnyH_ready (rs:=[9,13]) (by kernel_rfl) (by simp) (AllReadyH.cons rfl (fun Z K=>?_) (AllReadyH.cons rfl (fun Z K=>?_) AllReadyH.nil))
    ·go_simp
     refine(bT.out wr.drew (Jb bz cO)).mono ?_
     rintro e z ⟨rfl,R⟩
     have cN:Below wr.heap.size wr z:=Jb cO R
     go_simp
     refine K.out _ _ ⟨Ja R y.1,Ja R y.2.1,Ja R y.2.2.1,Ja R y.2.2.2.1,Ja R y.2.2.2.2.1,Ja R y.2.2.2.2.2⟩ (fun y=>?_)
     clear K Z
     refine tk 10 ?_ rfl y ?_ (tk 11 ?_ rfl y ?_ (tk 12 ?_ rfl y ?_ ?_))
     iterate 3
      rotate_left 1
      ·intro w bc;(try dsimp only at bc);go_simp;try rfl
     simp only[Act.put,List.getElem_toArray,List.getElem_cons_zero,List.getElem_cons_succ,Oa1,List.set_cons_zero,List.set_cons_succ]
     refine wpAnyH_ready (rs:=[13]) (by kernel_rfl) (by simp) (AllReadyH.cons rfl (fun Z K=>?_) AllReadyH.nil)
     go_simp
     have M:Below z.heap.size z (z.alloc (.cells #[.int .i64 0,.int .i64 0,.string ⟨#[]⟩] 49)):=(Oa5 _ z).alloc (Oa2 _) _
     have E:(z.alloc (.cells #[.int .i64 0,.int .i64 0,.string ⟨#[]⟩] 49)).heap[z.heap.size]?=some (.cells #[.int .i64 0,.int .i64 0,.string ⟨#[]⟩] 49 (0,0)):=heap_alloc_new z _
     refine K.out _ _ ⟨Ja M y.1,Ja M y.2.1,Ja M y.2.2.1,Ja M y.2.2.2.1,Ja M y.2.2.2.2.1,Ja M y.2.2.2.2.2⟩ (fun y=>?_)
     clear K Z
     have bP:=Jb cN M
     have bh:wr.heap.size≤z.heap.size:=cN.size
     generalize z.alloc (.cells #[.int .i64 0,.int .i64 0,.string ⟨#[]⟩] 49)=bf at bP M E y ⊢
     have cB:bf.cell? ⟨z.heap.size,0,none⟩=some (.int .i64 0):=by simp[World.cell?,E]
     have cC:bf.cell? ⟨z.heap.size,1,none⟩=some (.int .i64 0):=by simp[World.cell?,E]
     have cD:bf.cell? ⟨z.heap.size,2,none⟩=some (.string ⟨#[]⟩):=by simp[World.cell?,E]
     have cE:bf.frozen? ⟨z.heap.size,0,none⟩=false:=by simp[World.frozen?,E]
     have cF:bf.frozen? ⟨z.heap.size,1,none⟩=false:=by simp[World.frozen?,E]
     have cG:bf.frozen? ⟨z.heap.size,2,none⟩=false:=by simp[World.frozen?,E]
     have bx:=Jk (Jk (Jk E 0 (.int .i64 v.k)) 1 (.int .i64 v.n)) 2 (.string v.s)
     simp only[Oa1,List.set_cons_zero,List.set_cons_succ]at bx
     have ca:Below wr.heap.size wr (((bf.setCell ⟨z.heap.size,0,none⟩ (.int .i64 v.k)).setCell ⟨z.heap.size,1,none⟩ (.int .i64 v.n)).setCell ⟨z.heap.size,2,none⟩ (.string v.s)):=((bP.setCell (p:=⟨z.heap.size,0,none⟩) bh _).setCell (p:=⟨z.heap.size,1,none⟩) bh _).setCell (p:=⟨z.heap.size,2,none⟩) bh _
     have O:∀ (b o:Nat) (u:Value),b<wr.heap.size→bf.cell? ⟨b,o,none⟩=some u→(((bf.setCell ⟨z.heap.size,0,none⟩ (.int .i64 v.k)).setCell ⟨z.heap.size,1,none⟩ (.int .i64 v.n)).setCell ⟨z.heap.size,2,none⟩ (.string v.s)).cell? ⟨b,o,none⟩=some u:=fun b o u dx bH=>by
      have bC:z.heap.size≠b:=by omega
      exact Uc (fun e=>bC (congrArg Addr.block e)) (Uc (fun e=>bC (congrArg Addr.block e)) (Uc (fun e=>bC (congrArg Addr.block e)) bH))
     have bS:Hid ((((bf.setCell ⟨z.heap.size,0,none⟩ (.int .i64 v.k)).setCell ⟨z.heap.size,1,none⟩ (.int .i64 v.n)).setCell ⟨z.heap.size,2,none⟩ (.string v.s)).heap[z.heap.size]?=some (.cells #[.int .i64 v.k,.int .i64 v.n,.string v.s] 49 (0,0))):=bx
     clear bx E
     refine wpAnyH_ready (rs:=[14]) (by kernel_rfl) (by simp) (AllReadyH.cons rfl (fun Z K=>?_) AllReadyH.nil)
     go_simp
     refine K.out _ _ ⟨O _ _ _ bD y.1,O _ _ _ bD y.2.1,O _ _ _ bD y.2.2.1,O _ _ _ bE y.2.2.2.1,O _ _ _ bE y.2.2.2.2.1,O _ _ _ bE y.2.2.2.2.2⟩ (fun y=>?_)
     clear K Z O cB cC cD cE cF cG
     refine tk 15 ?_ rfl y ?_ ?_
     rotate_left 1
     ·intro w bc;(try dsimp only at bc);go_simp;try rfl
     simp only[Act.put,List.getElem_toArray,List.getElem_cons_zero,List.getElem_cons_succ,Oa1,List.set_cons_zero,List.set_cons_succ]
     refine wpAnyH_done (by kernel_rfl) ?_ _
     go_wp2_with fail
     go_meet
     case rel=>exact⟨z.heap.size,rfl,by first|rfl|exact cj,bS.out,ca,bh⟩
    go_simp
    have M:Below wr.heap.size wr ((wr.alloc (.cells #[.int .i64 0,.int .i64 0,.string ⟨#[]⟩] 49)).drew):=Jj (Jc (Oa5 _ _) _)
    have cl:((wr.alloc (.cells #[.int .i64 0,.int .i64 0,.string ⟨#[]⟩] 49)).drew).heap[wr.heap.size]?=some (.cells #[.int .i64 0,.int .i64 0,.string ⟨#[]⟩] 49 (0,0)):=heap_alloc_new wr _
    have bA:Below wr.drew.heap.size wr.drew ((wr.alloc (.cells #[.int .i64 0,.int .i64 0,.string ⟨#[]⟩] 49)).drew):=⟨M.os,M.tape,M.output,M.size,M.block⟩
    refine K.out _ _ ⟨Ja bA y.1,Ja bA y.2.1,Ja bA y.2.2.1,Ja bA y.2.2.2.1,Ja bA y.2.2.2.2.1,Ja bA y.2.2.2.2.2⟩ (fun y=>?_)
    clear K Z
    generalize du:(wr.alloc (.cells #[.int .i64 0,.int .i64 0,.string ⟨#[]⟩] 49)).drew=ds at M bA cl y ⊢
    clear du
    refine wpAnyH_ready (rs:=[9]) (by kernel_rfl) (by simp) (AllReadyH.cons rfl (fun Z K=>?_) AllReadyH.nil)
    go_simp
    refine(bT.out ds (Jb bz M)).mono ?_
    rintro e z ⟨rfl,R⟩
    have bP:Below wr.heap.size wr z:=Jb M R
    have E:z.heap[wr.heap.size]?=some (.cells #[.int .i64 0,.int .i64 0,.string ⟨#[]⟩] 49 (0,0)):=(R.block _ (Jd cl)).trans cl
    have bh:wr.heap.size≤wr.heap.size:=Oa2 _
    go_simp
    refine K.out _ _ ⟨Ja R y.1,Ja R y.2.1,Ja R y.2.2.1,Ja R y.2.2.2.1,Ja R y.2.2.2.2.1,Ja R y.2.2.2.2.2⟩ (fun y=>?_)
    clear K Z
    refine tk 10 ?_ rfl y ?_ (tk 11 ?_ rfl y ?_ (tk 12 ?_ rfl y ?_ ?_))
    iterate 3
     rotate_left 1
     ·intro w bc;(try dsimp only at bc);go_simp;try rfl
    simp only[Act.put,List.getElem_toArray,List.getElem_cons_zero,List.getElem_cons_succ,Oa1,List.set_cons_zero,List.set_cons_succ]
    have cB:z.cell? ⟨wr.heap.size,0,none⟩=some (.int .i64 0):=by simp[World.cell?,E]
    have cC:z.cell? ⟨wr.heap.size,1,none⟩=some (.int .i64 0):=by simp[World.cell?,E]
    have cD:z.cell? ⟨wr.heap.size,2,none⟩=some (.string ⟨#[]⟩):=by simp[World.cell?,E]
    have cE:z.frozen? ⟨wr.heap.size,0,none⟩=false:=by simp[World.frozen?,E]
    have cF:z.frozen? ⟨wr.heap.size,1,none⟩=false:=by simp[World.frozen?,E]
    have cG:z.frozen? ⟨wr.heap.size,2,none⟩=false:=by simp[World.frozen?,E]
    have bx:=Jk (Jk (Jk E 0 (.int .i64 v.k)) 1 (.int .i64 v.n)) 2 (.string v.s)
    simp only[Oa1,List.set_cons_zero,List.set_cons_succ]at bx
    have ca:Below wr.heap.size wr (((z.setCell ⟨wr.heap.size,0,none⟩ (.int .i64 v.k)).setCell ⟨wr.heap.size,1,none⟩ (.int .i64 v.n)).setCell ⟨wr.heap.size,2,none⟩ (.string v.s)):=((bP.setCell (p:=⟨wr.heap.size,0,none⟩) bh _).setCell (p:=⟨wr.heap.size,1,none⟩) bh _).setCell (p:=⟨wr.heap.size,2,none⟩) bh _
    have O:∀ (b o:Nat) (u:Value),b<wr.heap.size→z.cell? ⟨b,o,none⟩=some u→(((z.setCell ⟨wr.heap.size,0,none⟩ (.int .i64 v.k)).setCell ⟨wr.heap.size,1,none⟩ (.int .i64 v.n)).setCell ⟨wr.heap.size,2,none⟩ (.string v.s)).cell? ⟨b,o,none⟩=some u:=fun b o u dx bH=>by
     have bC:wr.heap.size≠b:=by omega
     exact Uc (fun e=>bC (congrArg Addr.block e)) (Uc (fun e=>bC (congrArg Addr.block e)) (Uc (fun e=>bC (congrArg Addr.block e)) bH))
    have bS:Hid ((((z.setCell ⟨wr.heap.size,0,none⟩ (.int .i64 v.k)).setCell ⟨wr.heap.size,1,none⟩ (.int .i64 v.n)).setCell ⟨wr.heap.size,2,none⟩ (.string v.s)).heap[wr.heap.size]?=some (.cells #[.int .i64 v.k,.int .i64 v.n,.string v.s] 49 (0,0))):=bx
    clear bx E
    refine wpAnyH_ready (rs:=[14]) (by kernel_rfl) (by simp) (AllReadyH.cons rfl (fun Z K=>?_) AllReadyH.nil)
    go_simp
    refine K.out _ _ ⟨O _ _ _ bD y.1,O _ _ _ bD y.2.1,O _ _ _ bD y.2.2.1,O _ _ _ bE y.2.2.2.1,O _ _ _ bE y.2.2.2.2.1,O _ _ _ bE y.2.2.2.2.2⟩ (fun y=>?_)
    clear K Z O cB cC cD cE cF cG
    refine tk 15 ?_ rfl y ?_ ?_
    rotate_left 1
    ·intro w bc;(try dsimp only at bc);go_simp;try rfl
    simp only[Act.put,List.getElem_toArray,List.getElem_cons_zero,List.getElem_cons_succ,Oa1,List.set_cons_zero,List.set_cons_succ]
    refine wpAnyH_done (by kernel_rfl) ?_ _
    go_wp2_with fail
    go_meet
    case rel=>exact⟨wr.heap.size,rfl,by first|rfl|exact cj,bS.out,ca,bh⟩
   case rest=>
    obtain⟨fa,rfl,rfl,bR,cb,bh⟩:=hcut
    have bQ:=Jb bz cb
    have cH:Hid (Below wr.heap.size wr wc):=cb
    by_cases ch:bu=0
    ·subst ch
     have dY:wc.cell? ⟨fa,0,none⟩=some (.int .i64 v.k):=by simp[World.cell?,bR]
     have dZ:wc.cell? ⟨fa,1,none⟩=some (.int .i64 v.n):=by simp[World.cell?,bR]
     have fb:wc.cell? ⟨fa,2,none⟩=some (.string v.s):=by simp[World.cell?,bR]
     have da:=bU.out.of_block (cb.block _ cP)
     have cT:((Jhg U C D n).take c++List.replicate (n-c) Jf).length=n:=by rw[Oa8,Oc7,Ud,Od6];omega
     obtain⟨dX,⟨c0,dJ⟩,⟨c1,dK⟩,⟨c2,dL⟩,cv⟩:=da.put v c (by rw[cT];exact bB)
     have bH:(Jhg U C D n)[c]'(by rw[Ud];exact bB)=v:=by rw[Ji7 _ _ _ _ _ bB,br.out.1,br.out.2,bJ.out]
     have cu:=Jk1 (Jhg U C D n) c n (Ud _ _ _ _) bB
     rw[bH]at cu
     rw[cu]at cv
     have dm:Hid (Kv (((wc.setCell ⟨w.heap.size+1,c*3,none⟩ (.int .i64 v.k)).setCell ⟨w.heap.size+1,c*3+1,none⟩ (.int .i64 v.n)).setCell ⟨w.heap.size+1,c*3+2,none⟩ (.string v.s)) (w.heap.size+1) ((Jhg U C D n).take (c+1)++List.replicate (n-(c+1)) Jf) []):=cv
     have dy:Below w.heap.size w (((wc.setCell ⟨w.heap.size+1,c*3,none⟩ (.int .i64 v.k)).setCell ⟨w.heap.size+1,c*3+1,none⟩ (.int .i64 v.n)).setCell ⟨w.heap.size+1,c*3+2,none⟩ (.string v.s)):=
      ((bQ.setCell (p:=⟨w.heap.size+1,c*3,none⟩) (by show w.heap.size≤w.heap.size+1;omega) _).setCell (p:=⟨w.heap.size+1,c*3+1,none⟩) (by show w.heap.size≤w.heap.size+1;omega) _).setCell (p:=⟨w.heap.size+1,c*3+2,none⟩) (by show w.heap.size≤w.heap.size+1;omega) _
     have dW:(c:Int)<(n:Int):=by omega
     clear cv cu bH cT da bR
     rw[show Jdb bi bj 0=Value.nilIface from rfl]
     go_wp2
     go_roundw
     case rel=>
      refine⟨c+1,by omega,by go_num,dm.out,fun i hi=>?_,dy⟩
      by_cases dz:i=c
      ·subst dz;rw[br.out.1,br.out.2,bJ.out]
      exact bV.out i (by omega)
     case measure=>simp[intOf];omega
    obtain⟨q,bG⟩:∃ q,Jdb bi bj bu=.iface 443 (.pointer (some q)):=by
     unfold Jdb
     rw[if_neg ch]
     split
     ·exact⟨_,rfl⟩
     ·exact⟨_,rfl⟩
    have dD:=Jd bK.out
    have O:=Jzk b c q ex ba first n (some ⟨bl,bn,none⟩) k cp bO wc (by have:=dj.out;omega) (bK.out.below bQ)
    rw[bG]
    go_wp2_with (go_at_call 276;refine O.mono ?_;rintro e dr ⟨rfl,dO,dC,dE,cQ⟩)
    go_ret
    refine⟨w.heap.size+1,c,_,rfl,by omega,by omega,?_,((bU.out.of_block (cH.out.block _ cP)).of_block (cQ.block _ (by have:=cH.out.size;omega) (by show ¬ w.heap.size+1=b;omega))),fun i hi=>?_,(Ju.of_below bQ).trans cQ,by omega,bV.out,.inr ⟨bB,?_,wc.heap.size,bQ.size,dC,?_⟩⟩
    ·rw[Oa8,Oc7,Ud,Od6];omega
    ·rw[Oa0,Ob0 (by rw[Oc7,Ud];omega),Oe7,if_pos hi,Oa3 (by rw[Ud];omega),Ji7 _ _ _ _ _ (by omega)];rfl
    ·show (U (C.getD c Jf) (D.getD c Jf)).2≠0
     rw[br.out.1,br.out.2,bJ.out];exact ch
    show Ja8 dr wc.heap.size _ _ (Jdb bi bj (U (C.getD c Jf) (D.getD c Jf)).2)
    rw[br.out.1,br.out.2,bJ.out,bG];exact dE
  obtain rfl:c=n:=by omega
  have dD:=Jd bK.out
  go_wp2
  go_ret
  refine⟨w.heap.size+1,c,_,rfl,by omega,by omega,?_,bU.out,fun i hi=>?_,Ju.of_below bz,Oa2 _,bV.out,.inl ⟨rfl,bK.out.below bz⟩⟩
  ·rw[Oa8,Oc7,Ud,Od6];omega
  rw[Oa0,Ob0 (by rw[Oc7,Ud];omega),Oe7,if_pos hi,Oa3 (by rw[Ud];omega),Ji7 _ _ _ _ _ (by omega)];rfl
end Go.Proofs.YtjjdldddcegjiaaGreatDoor
