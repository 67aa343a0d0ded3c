/- Rows held column by column, as the program's package columns hands them about: what is cut out of them. -/
import Derived.Test.YtjjdldddcegjiaaGreatDoorTl
import Derived.Test.YtjjdldddcegjiaaGreatDoorKl
import Derived.Test.YtjjdldddcegjiaaGreatDoorIv
import Derived.Test.YtjjdldddcegjiaaGreatDoorTi
set_option maxHeartbeats 4000000
set_option maxRecDepth 100000
namespace Go.Proofs.YtjjdldddcegjiaaGreatDoor
open Go.RowKit Go.Shelf Tryz
attribute [local go_sem] Oc0
abbrev Yo (hs:List (Option Addr×Nat))(j:Nat):Option Addr×Nat:=hs.getD j (none,0)
structure Qd (w:World) (g:Nat) (hs:List (Option Addr×Nat)) (cs:List (List V)):Prop where
 row:w.rowIs g 58 cs.length (fun j=>.slice (Yo hs j).1 (cs.getD j []).length (Yo hs j).2)
 vals:∀ j,j<cs.length→Jv w (Yo hs j).1 (cs.getD j [])
 cap:∀ j,j<cs.length→(cs.getD j []).length≤(Yo hs j).2
theorem Qd.below {w w':World}{g:Nat}{hs:List (Option Addr×Nat)}{cs:List (List V)}(h:Qd w g hs cs)(y:Below w.heap.size w w'):Qd w' g hs cs:=
 ⟨h.row.of_block (y.block _ h.row.lt),fun j z=>(h.vals j z).below y,h.cap⟩
def Jbx (f t:Nat)(c:List V):List V:=(c.take t).drop f
theorem Jca {f t:Nat}{c:List V}(y:t≤c.length):(Jbx f t c).length=t-f:=by
 unfold Jbx
 rw[Of7,Oc7,Oj1 y]
abbrev Jkl (a:Option Addr)(f t:Nat):Option Addr:=if t=f then a else a.map (·.add (f*3))
theorem Jv.cut {w:World}{a:Option Addr}{c:List V}(h:Jv w a c){f t:Nat}(hf:f≤t)(z:t≤c.length):Jv w (Jkl a f t) (Jbx f t c):=by
 by_cases e:t=f
 ·subst e
  left
  exact Od3.1 (by rw[Jca z,Oe1])
 rcases h with h|⟨b,o,rfl,C,h⟩
 ·subst h;simp at z;omega
 unfold Jkl
 rw[if_neg e]
 right
 have A:(⟨b,o,none⟩:Addr).add (f*3)=⟨b,o+f*3,none⟩:=Op7 b o (f*3)
 refine⟨b,o+f*3,by simp[A],C,fun i v hi=>?_⟩
 unfold Jbx at hi
 rw[Oh9]at hi
 have D:f+i<t:=by
  rcases Oc1 (f+i) t with y|y
  ·exact y
  rw[List.getElem?_take_eq_none y]at hi;simp at hi
 rw[Oh3 D]at hi
 have:=h (f+i) v hi
 rw[Nat.add_mul,←On5]at this
 exact this
def Jnt (hs:List (Option Addr×Nat))(k f t:Nat):List (Option Addr×Nat):=(List.range k).map fun j=>(Jkl (Yo hs j).1 f t,t-f)
theorem Kdx (g cap:Nat)(hs:List (Option Addr×Nat))(cs:List (List V))(n f t:Nat)(w:World)(K:Qd w g hs cs)(hn:∀ j,j<cs.length→(cs.getD j []).length=n)(hf:f≤t)(bj:t≤n)(bl:cs.length≤1000) :
  Calls prog 123 #[.slice (some ⟨g,0,none⟩) cs.length cap,.int .i64 (f:Int),.int .i64 (t:Int)] w fun e w'=>Below w.heap.size w w'∧e=.returned (.slice (some ⟨w.heap.size,0,none⟩) cs.length cs.length)∧Qd w' w.heap.size (Jnt hs cs.length f t) (cs.map (Jbx f t)):=by
 have Z:=Jiz cs.length w bl
 have bx:(f:Int)≤(t:Int):=by omega
 have br:(0:Int)≤(f:Int):=by omega
 have bu:(0:Int)≤(t:Int):=by omega
 go_enter func123,ntmps123
 go_wp2_with (first|(go_at_call 89;refine Z.mono ?_;rintro e bn ⟨rfl,X,bi⟩))
 have bc:=X.row
 rw[Od6]at bc
 clear Z X
 go_loopw [15] (fun i wr=>∃ k:Nat,k≤cs.length∧i=.int .i64 (k:Int)∧wr.rowIs w.heap.size 58 cs.length (fun j=>if j<k then .slice (Jkl (Yo hs j).1 f t) (t-f) (t-f)else .slice none 0 0)∧Below w.heap.size w wr) (fun i _=>cs.length-(intOf i).toNat)
 case atStart=>
  refine⟨0,Ob7 _,rfl,bc.congr fun j y=>?_,bi⟩
  rw[if_neg (Oe0 _)]
  unfold Uq
  rw[Oa0,Of3]
  split<;>rfl
 case round=>
  obtain⟨k,bz,rfl,E,D⟩:=hrel
  by_cases C:k<cs.length
  ·have R:=Ja D (K.row.cell C)
   rw[hn k C]at R
   have O:=K.cap k C
   rw[hn k C]at O
   have c1:=E.cell C
   have c2:=E.frozen k
   simp only[Oe3,if_false]at c1
   obtain⟨H,ck,M⟩:∃ H ck,Yo hs k=(H,ck):=⟨_,_,rfl⟩
   rw[M]at R O
   simp only at R O
   have bA:(t:Int)≤(ck:Int):=by omega
   have bf:Hid (Yo hs k=(H,ck)):=M
   clear M
   go_wp2
   go_roundw
   case rel=>
    refine⟨k+1,by omega,by go_num,(E.set k _).congr fun j y=>?_,D.setCell (p:=⟨w.heap.size,k,none⟩) (Oa2 _) _⟩
    have bh:=bf.out
    by_cases e:j=k
    ·subst e
     rw[if_pos (show j=j from rfl),if_pos (show j<j+1 from On2 _),bh]
    rw[if_neg e]
    by_cases U:j<k
    ·rw[if_pos U,if_pos (by omega)]
    rw[if_neg U,if_neg (by omega)]
   case measure=>simp[intOf];omega
  obtain rfl:k=cs.length:=by omega
  go_wp2
  go_ret
  refine⟨D,rfl,⟨?_,fun j y=>?_,fun j y=>?_⟩⟩
  all_goals unfold Jnt
  ·rw[Oa6]
   refine E.congr fun j y=>?_
   rw[if_pos y]
   have z:Yo ((List.range cs.length).map fun j=>(Jkl (Yo hs j).1 f t,t-f)) j=(Jkl (Yo hs j).1 f t,t-f):=by simp[Yo,y]
   have A:((cs.map (Jbx f t)).getD j []).length=t-f:=by
    rw[Oa0,Ob1,Oa3 y]
    have:=hn j y
    rw[Oa0,Oa3 y]at this
    exact Jca (by simp at this;omega)
   rw[z,A]
  ·rw[Oa6]at y
   have z:Yo ((List.range cs.length).map fun j=>(Jkl (Yo hs j).1 f t,t-f)) j=(Jkl (Yo hs j).1 f t,t-f):=by simp[Yo,y]
   have A:(cs.map (Jbx f t)).getD j []=Jbx f t (cs.getD j []):=by
    rw[Oa0,Ob1,Oa3 y,Oa0,Oa3 y]
    rfl
   rw[z,A]
   exact((K.vals j y).below D).cut hf (by rw[hn j y];exact bj)
  rw[Oa6]at y
  have z:Yo ((List.range cs.length).map fun j=>(Jkl (Yo hs j).1 f t,t-f)) j=(Jkl (Yo hs j).1 f t,t-f):=by simp[Yo,y]
  have A:((cs.map (Jbx f t)).getD j []).length=t-f:=by
   rw[Oa0,Ob1,Oa3 y]
   have:=hn j y
   rw[Oa0,Oa3 y]at this
   exact Jca (by simp at this;omega)
  rw[z,A]
  exact Oa2 _
theorem Jqo (n:Nat)(hn:n≤100000)(W:World):∃ y,(Instr.makeSlice 58 (.int .i64 (n:Int)) (.int .i64 (n:Int))).run prog W=.ok (.slice (some ⟨W.heap.size,0,none⟩) n n) (W.alloc (.cells y 49))∧Kv (W.alloc (.cells y 49)) W.heap.size (List.replicate n Jf) []:=by
 obtain⟨i,hi,D,C,A⟩:=info_parts Jow
 have z:=run_make (P:=prog) W 58 49 i _ (by kernel_rfl) hi D .i64 .i64 (n:Int) (n:Int) (by omega) (Int.le_refl _) (by rw[A];omega) (by omega)
 rw[Int.toNat_natCast,C]at z
 exact⟨_,z,_,(Oh1 W _).1,by rw[Od7];exact Jt9 n⟩
def Yq (ns:List Int)(c:List V):List V:=ns.map fun m=>if m=-1 then Jf else c.getD m.toNat Jf
theorem Ze (ns:List Int)(c:List V):(Yq ns c).length=ns.length:=by simp[Yq]
theorem Kcv (L:List V)(c n:Nat)(C:L.length=n)(A:c<n)(h0:L[c]=Jf):L.take c++List.replicate (n-c) Jf=L.take (c+1)++List.replicate (n-(c+1)) Jf:=by
 obtain⟨d,y⟩:∃ d,n-c=d+1:=⟨n-c-1,by omega⟩
 have z:n-(c+1)=d:=by omega
 rw[y,z,List.replicate_succ,Jec L c (by omega),Od8,h0]
 rfl
theorem Jzq (g cap:Nat)(hs:List (Option Addr×Nat))(cs:List (List V))(n:Nat)(bJ:Option Addr)(cD:Nat)(ns:List Int)(w:World)(bL:Qd w g hs cs)(hn:∀ j,j<cs.length→(cs.getD j []).length=n)(ci:Kc w bJ ns)(cc:∀ m∈ns,m=-1∨(0≤m∧m<(n:Int)))(cV:cs.length≤1000)(cN:ns.length≤100000) :
  Calls prog 118 #[.slice (some ⟨g,0,none⟩) cs.length cap,.slice bJ ns.length cD] w fun e w'=>Below w.heap.size w w'∧e=.returned (.slice (some ⟨w.heap.size,0,none⟩) cs.length cs.length)∧∃ cr,Qd w' w.heap.size cr (cs.map (Yq ns))∧∀ j,j<cs.length→∀ b o,(Yo cr j).1=some ⟨b,o,none⟩→w.heap.size≤b∧b<w'.heap.size:=by
 have cj:=Jiz cs.length w cV
 have cb:=bL.row.lt
 have cy:Hid (∀ m∈ns,m=-1∨(0≤m∧m<(n:Int))):=cc
 have cz:Hid (Kc w bJ ns):=ci
 have bU:Hid (Qd w g hs cs):=bL
 clear cc ci bL
 go_enter func118,ntmps118
 go_wp2_with (first|(go_at_call 89;refine cj.mono ?_;rintro e cZ ⟨rfl,ca,cK⟩))
 have cn:=ca.row
 rw[Od6]at cn
 clear cj ca
 go_loopw [15] (fun i wr=>∃ (k:Nat) (bs:List Nat),k≤cs.length∧i=.int .i64 (k:Int)∧Hid (bs.length=k)∧wr.rowIs w.heap.size 58 cs.length (fun j=>if j<k then .slice (some ⟨bs.getD j 0,0,none⟩) ns.length ns.length else .slice none 0 0)∧Hid (∀ j b,bs[j]?=some b→Kv wr b (Yq ns (cs.getD j [])) []∧w.heap.size<b)∧Below w.heap.size w wr) (fun i _=>cs.length-(intOf i).toNat)
 case atStart=>
  refine⟨0,[],Ob7 _,rfl,rfl,cn.congr fun j z=>?_,fun j b h=>by simp at h,cK⟩
  rw[if_neg (Oe0 _)]
  unfold Uq
  rw[Oa0,Of3]
  split<;>rfl
 case round=>
  obtain⟨k,bs,dg,rfl,bf,E,bE,O⟩:=hrel
  obtain⟨y,bc⟩:∃ y,y=wr:=⟨_,rfl⟩
  subst bc
  have dh:=E.lt
  by_cases U:k<cs.length
  ·obtain⟨bT,cO,bu⟩:=Jqo ns.length cN y
   have bB:=Ja O (bU.out.row.cell U)
   rw[hn k U]at bB
   obtain⟨bI,ck,bY⟩:∃ bI ck,Yo hs k=(bI,ck):=⟨_,_,rfl⟩
   have bz:=bU.out.vals k U
   rw[bY]at bB bz
   simp only at bB bz
   have bH:Hid (Jv w bI (cs.getD k [])∧(cs.getD k []).length=n):=⟨bz,hn k U⟩
   have c1:=E.cell U
   have c2:=E.frozen k
   simp only[Oe3,if_false]at c1
   clear bY bz
   go_wp2
   clear cO c1 c2
   have bl:=O.setCell (p:=⟨w.heap.size,k,none⟩) (Oa2 _) (.slice (some ⟨y.heap.size,0,none⟩) ns.length ns.length)
   have Z:(y.setCell ⟨w.heap.size,k,none⟩ (.slice (some ⟨y.heap.size,0,none⟩) ns.length ns.length)).heap.size=y.heap.size:=by simp[World.setCell]
   go_loopw [28] (fun i wr=>∃ c:Nat,c≤ns.length∧i=.int .i64 (c:Int)∧Kv wr y.heap.size ((Yq ns (cs.getD k [])).take c++List.replicate (ns.length-c) Jf) []∧wr.rowIs w.heap.size 58 cs.length (fun j=>if j=k then .slice (some ⟨y.heap.size,0,none⟩) ns.length ns.length else if j<k then .slice (some ⟨bs.getD j 0,0,none⟩) ns.length ns.length else .slice none 0 0)∧Hid (∀ x,x<y.heap.size→x≠w.heap.size→wr.heap[x]?=y.heap[x]?)∧y.heap.size<wr.heap.size∧Below w.heap.size w wr) (fun i _=>ns.length-(intOf i).toNat)
   case atStart=>
    obtain⟨cY,A,D⟩:=bu
    rw[heap_alloc_new]at A
    simp at A
    subst A
    refine⟨0,Ob7 _,rfl,⟨bT,?_,by simpa using D⟩,(E.set k _).alloc _,fun x bO bP=>?_,by rw[Oa7,Z];omega,Jc bl _⟩
    ·have:=heap_alloc_new (y.setCell ⟨w.heap.size,k,none⟩ (.slice (some ⟨y.heap.size,0,none⟩) ns.length ns.length)) (.cells bT 49)
     rw[Z]at this
     exact this
    rw[Oa9 _ _ x (by rw[Z];exact bO),Oa4 _ _ _ _ bP]
   case round=>
    obtain⟨c,df,rfl,K,bh,bD,cu,M⟩:=hrel
    have bC:Hid (wr.rowIs w.heap.size 58 cs.length (fun j=>if j=k then .slice (some ⟨y.heap.size,0,none⟩) ns.length ns.length else if j<k then .slice (some ⟨bs.getD j 0,0,none⟩) ns.length ns.length else .slice none 0 0)):=bh
    by_cases R:c<ns.length
    ·obtain⟨db,dm,rfl,de,cX⟩:=Kc.at (cz.out.below M) R
     have cP:c<(Yq ns (cs.getD k [])).length:=by rw[Ze];exact R
     by_cases X:ns[c]=-1
     ·have ch:(ns[c] != -1)=false:=by simp[X]
      have bV:=Kcv (Yq ns (cs.getD k [])) c ns.length (Ze _ _) R (by simp[Yq,X])
      rw[bV]at K
      have bG:Hid (Kv wr y.heap.size ((Yq ns (cs.getD k [])).take (c+1)++List.replicate (ns.length-(c+1)) Jf) []):=K
      clear K bh E bu bl Z bV X
      go_wp2
      go_roundw
      case rel=>exact⟨c+1,by omega,by go_num,bG.out,bC.out,bD,cu,M⟩
      case measure=>simp[intOf];omega
     have ch:(ns[c] != -1)=true:=by simp[X]
     have di:=(cy.out _ (Ob3 R)).resolve_left X
     obtain⟨u,cv⟩:∃ u:Nat,ns[c]=(u:Int):=⟨ns[c].toNat,by omega⟩
     have cT:u<n:=by omega
     rw[cv]at cX ch
     have bN:u<(cs.getD k []).length:=by rw[bH.out.2];exact cT
     obtain⟨b2,bA,cJ,dd,bQ,bR,bS⟩:=(bH.out.1.below M).at bN
     subst cJ
     obtain⟨da,dj,bZ,dc,_⟩:=bH.out.1.at bN
     simp only[Oc9,Oh2,and_true]at bZ
     obtain⟨rfl,rfl⟩:=bZ
     have bM:=bh.cell U
     simp only[if_true]at bM
     have cl:(Yq ns (cs.getD k []))[c]=(cs.getD k [])[u]:=by
      simp only[Yq,Od9,cv]
      rw[if_neg (by omega),Int.toNat_natCast,Oa0 (l:=cs.getD k []),Oa3 bN]
      rfl
     have cf:((Yq ns (cs.getD k [])).take c++List.replicate (ns.length-c) Jf).length=ns.length:=by
      rw[Oa8,Oc7,Ze,Od6];omega
     obtain⟨dk,⟨c0,cE⟩,⟨c1,A⟩,⟨c2,D⟩,bx⟩:=K.put (Yq ns (cs.getD k []))[c] c (by rw[cf];exact R)
     rw[Jk1 (Yq ns (cs.getD k [])) c ns.length (Ze _ _) R,cl]at bx
     have dq:wr.cell? ⟨g,k,none⟩=some (.slice (some ⟨b2,bA,none⟩) n ck):=by rw[M.cell (p:=⟨g,k,none⟩) cb,←O.cell (p:=⟨g,k,none⟩) cb];exact bB
     generalize (cs.getD k [])[u]=v at bQ bR bS bx
     have cB:Hid (Kv (((wr.setCell ⟨y.heap.size,c*3,none⟩ (.int .i64 v.k)).setCell ⟨y.heap.size,c*3+1,none⟩ (.int .i64 v.n)).setCell ⟨y.heap.size,c*3+2,none⟩ (.string v.s)) y.heap.size ((Yq ns (cs.getD k [])).take (c+1)++List.replicate (ns.length-(c+1)) Jf) []):=bx
     have bc:=O.size
     clear bx cf cP bh E bu bl Z cl X
     go_wp2
     refine wp_region_held_drew (S:=fun bj=>bj.cell? ⟨w.heap.size,k,none⟩=some (.slice (some ⟨y.heap.size,0,none⟩) ns.length ns.length)∧bj.cell? ⟨b2,bA+u*3,none⟩=some (.int .i64 v.k)∧bj.cell? ⟨b2,bA+u*3+1,none⟩=some (.int .i64 v.n)∧bj.cell? ⟨b2,bA+u*3+2,none⟩=some (.string v.s)) (by kernel_rfl) ⟨bM,bQ,bR,bS⟩ (fun C=>?_)
     refine tk 0 ?_ rfl C ?_ (tk 1 ?_ rfl C ?_ (tk 2 ?_ rfl C ?_ (tk 3 ?_ rfl C ?_ (tk 4 ?_ rfl C ?_ (tk 5 ?_ rfl C ?_ (tk 6 ?_ rfl C ?_ (tk 7 ?_ rfl C ?_ (tk 8 ?_ rfl C ?_ (tk 9 ?_ rfl C ?_ ?_)))))))))
     iterate 10
      rotate_left 1
      ·intro w cI;(try dsimp only at cI);go_simp;try rfl
     simp only[Act.put,List.getElem_toArray,List.getElem_cons_zero,List.getElem_cons_succ,Oa1,List.set_cons_zero,List.set_cons_succ]
     refine wpAnyH_ready (rs:=[10]) (by kernel_rfl) (by simp) (AllReadyH.cons rfl (fun cC bX=>?_) AllReadyH.nil)
     go_simp
     have bi:∀ (b o:Nat) (u:Value),b≠y.heap.size→wr.cell? ⟨b,o,none⟩=some u→(((wr.setCell ⟨y.heap.size,c*3,none⟩ (.int .i64 v.k)).setCell ⟨y.heap.size,c*3+1,none⟩ (.int .i64 v.n)).setCell ⟨y.heap.size,c*3+2,none⟩ (.string v.s)).cell? ⟨b,o,none⟩=some u:=fun b o u H cU=>by
      rw[Ob5 _ _ _ _ (by first|(simp;done)|(simp;omega)),Ob5 _ _ _ _ (by first|(simp;done)|(simp;omega)),Ob5 _ _ _ _ (by first|(simp;done)|(simp;omega))];exact cU
     refine bX.out _ _ ⟨bi _ _ _ (by omega) bM,bi _ _ _ (by omega) bQ,bi _ _ _ (by omega) bR,bi _ _ _ (by omega) bS⟩ (fun cH=>?_)
     clear bX cC bi C cH c0 cE c1 A c2 D
     refine wpAnyH_done (by kernel_rfl) ?_ _
     have cQ:Hid ((((wr.setCell ⟨y.heap.size,c*3,none⟩ (.int .i64 v.k)).setCell ⟨y.heap.size,c*3+1,none⟩ (.int .i64 v.n)).setCell ⟨y.heap.size,c*3+2,none⟩ (.string v.s)).rowIs w.heap.size 58 cs.length (fun j=>if j=k then .slice (some ⟨y.heap.size,0,none⟩) ns.length ns.length else if j<k then .slice (some ⟨bs.getD j 0,0,none⟩) ns.length ns.length else .slice none 0 0)):=
      ((bC.out.setOther (a:=⟨y.heap.size,c*3,none⟩) (by show w.heap.size≠y.heap.size;omega) _).setOther (a:=⟨y.heap.size,c*3+1,none⟩) (by show w.heap.size≠y.heap.size;omega) _).setOther (a:=⟨y.heap.size,c*3+2,none⟩) (by show w.heap.size≠y.heap.size;omega) _
     have cM:Below w.heap.size w (((wr.setCell ⟨y.heap.size,c*3,none⟩ (.int .i64 v.k)).setCell ⟨y.heap.size,c*3+1,none⟩ (.int .i64 v.n)).setCell ⟨y.heap.size,c*3+2,none⟩ (.string v.s)):=
      ((M.setCell (p:=⟨y.heap.size,c*3,none⟩) bc _).setCell (p:=⟨y.heap.size,c*3+1,none⟩) bc _).setCell (p:=⟨y.heap.size,c*3+2,none⟩) bc _
     have cA:Hid (∀ x,x<y.heap.size→x≠w.heap.size→(((wr.setCell ⟨y.heap.size,c*3,none⟩ (.int .i64 v.k)).setCell ⟨y.heap.size,c*3+1,none⟩ (.int .i64 v.n)).setCell ⟨y.heap.size,c*3+2,none⟩ (.string v.s)).heap[x]?=y.heap[x]?):=fun x bO bP=>by
      rw[Oa4 _ _ _ _ (by show x≠y.heap.size;omega),Oa4 _ _ _ _ (by show x≠y.heap.size;omega),Oa4 _ _ _ _ (by show x≠y.heap.size;omega)];exact bD.out x bO bP
     have cS:y.heap.size<(((wr.setCell ⟨y.heap.size,c*3,none⟩ (.int .i64 v.k)).setCell ⟨y.heap.size,c*3+1,none⟩ (.int .i64 v.n)).setCell ⟨y.heap.size,c*3+2,none⟩ (.string v.s)).heap.size:=by simp[World.setCell];exact cu
     generalize ((wr.setCell ⟨y.heap.size,c*3,none⟩ (.int .i64 v.k)).setCell ⟨y.heap.size,c*3+1,none⟩ (.int .i64 v.n)).setCell ⟨y.heap.size,c*3+2,none⟩ (.string v.s)=dp at *
     go_wp2
     go_roundw
     case rel=>exact⟨c+1,by omega,by go_num,cB.out,cQ.out,cA.out,cS,cM.drew⟩
     case measure=>simp[intOf];omega
    obtain rfl:c=ns.length:=by omega
    rw[Oe1,List.replicate_zero,Od7,Oc8 (by rw[Ze];exact Oa2 _)]at K
    have bG:Hid (Kv wr y.heap.size (Yq ns (cs.getD k [])) []):=K
    have bc:=O.size
    clear K bh E bu bl Z
    go_wp2
    go_roundw
    case rel=>
     refine⟨k+1,bs++[y.heap.size],by omega,by go_num,by show _=_;rw[Oa8,bf.out];rfl,bC.out.congr fun j z=>?_,fun j b H=>?_,M⟩
     ·have br:=bf.out
      by_cases e:j=k
      ·subst e
       simp[br]
      by_cases bW:j<k
      ·have bK:j<k+1:=by omega
       simp[e,bW,bK,Ob0 (show j<bs.length by omega)]
      have bK:¬ j<k+1:=by omega
      simp[e,bW,bK]
     by_cases e:j<bs.length
     ·rw[Ob0 e]at H
      obtain⟨cx,cW⟩:=bE.out j b H
      exact⟨cx.of_block (bD.out b cx.lt (by omega)),cW⟩
     have br:=bf.out
     have z:j=k:=by
      have:=(Ob9.1 H).1
      simp at this
      omega
     subst z
     rw[←br,Ob6 (Oa2 _),Oe1]at H
     simp at H
     subst H
     exact⟨bG.out,by omega⟩
    case measure=>simp[intOf];omega
  obtain rfl:k=cs.length:=by omega
  go_wp2
  go_ret
  refine⟨O,rfl,(List.range cs.length).map fun j=>((some ⟨bs.getD j 0,0,none⟩:Option Addr),ns.length),⟨?_,fun j z=>?_,fun j z=>?_⟩,fun j z b o e=>?_⟩
  ·rw[Oa6]
   refine E.congr fun j z=>?_
   rw[if_pos z]
   have A:Yo ((List.range cs.length).map fun j=>((some ⟨bs.getD j 0,0,none⟩:Option Addr),ns.length)) j=(some ⟨bs.getD j 0,0,none⟩,ns.length):=by simp[Yo,z]
   have D:((cs.map (Yq ns)).getD j []).length=ns.length:=by
    rw[Oa0,Ob1,Oa3 z]
    exact Ze _ _
   rw[A,D]
  ·rw[Oa6]at z
   have A:Yo ((List.range cs.length).map fun j=>((some ⟨bs.getD j 0,0,none⟩:Option Addr),ns.length)) j=(some ⟨bs.getD j 0,0,none⟩,ns.length):=by simp[Yo,z]
   have D:(cs.map (Yq ns)).getD j []=Yq ns (cs.getD j []):=by
    rw[Oa0,Ob1,Oa3 z,Oa0,Oa3 z]
    rfl
   rw[A,D]
   have bn:j<bs.length:=by rw[bf.out];exact z
   have:=(bE.out j bs[j] (Oa3 bn)).1.vals
   have cF:bs.getD j 0=bs[j]:=by rw[Oa0,Oa3 bn];rfl
   rw[cF]
   exact this
  ·rw[Oa6]at z
   have A:Yo ((List.range cs.length).map fun j=>((some ⟨bs.getD j 0,0,none⟩:Option Addr),ns.length)) j=(some ⟨bs.getD j 0,0,none⟩,ns.length):=by simp[Yo,z]
   have D:((cs.map (Yq ns)).getD j []).length=ns.length:=by
    rw[Oa0,Ob1,Oa3 z]
    exact Ze _ _
   rw[A,D]
   exact Oa2 _
  have br:=bf.out
  have bn:j<bs.length:=by omega
  have cG:(Yo ((List.range cs.length).map fun j=>((some ⟨bs.getD j 0,0,none⟩:Option Addr),ns.length)) j).1=some ⟨bs.getD j 0,0,none⟩:=by
   unfold Yo
   rw[Oa0,Ob1,Oh6 z]
   rfl
  rw[cG]at e
  cases e
  have:=bE.out j (bs.getD j 0) (by rw[Oa0,Oa3 bn];rfl)
  exact⟨Nat.le_of_lt this.2,this.1.lt⟩
end Go.Proofs.YtjjdldddcegjiaaGreatDoor
namespace Go.Proofs.YtjjdldddcegjiaaGreatDoor
open Go.RowKit Tryz
attribute [local go_sem] Oc0
def Zp (n:Int):Int:=if -9223372036854775808≤n∧n≤9223372036854775807 then n else 0
def Yn (n:Int):Int:=if -9223372036854775808≤n∧n≤9223372036854775807 then 0 else 10
abbrev Jxc (w:World)(x e:Int):Ending→World→Prop:=fun y w'=>y=.returned (.tuple #[.int .i64 x,.int .i64 e])∧w'=w
theorem Kfx {a b n:Int}(y:Jg a)(z:Jg b)(hn:IntKind.i64.wrap (a+b)=n) :
  (Zp (a+b)=n∧Yn (a+b)=0∧¬ ((0≤a↔0≤b)∧¬ (0≤n↔0≤a)))∨(Zp (a+b)=0∧Yn (a+b)=10∧(0≤a↔0≤b)∧¬ (0≤n↔0≤a)):=by
 rw[Od4]at hn
 unfold Jg at y z
 unfold Zp Yn
 split<;>omega
theorem Yg (a b:Int)(w:World)(z:Jg a)(A:Jg b) :
  Calls prog 33 #[.int .i64 2,.int .i64 a,.int .i64 b] w (Jxc w (Zp (a+b)) (Yn (a+b))):=by
 obtain⟨n,hn⟩:∃ n,IntKind.i64.wrap (a+b)=n:=⟨_,rfl⟩
 have y:=Kfx z A hn
 clear z A
 generalize Zp (a+b)=x at y ⊢
 generalize Yn (a+b)=H at y ⊢
 by_cases C:0≤a<;>by_cases D:0≤b<;>by_cases E:0≤n<;>simp only[C,D,E,iff_self,not_true_eq_false,not_false_eq_true,and_false,and_true,iff_false,iff_true,or_false,false_or]at y
 all_goals obtain⟨rfl,rfl⟩:=y
 all_goals go_enter func33,ntmps33
 all_goals go_wp2
 all_goals exact bodyPost_ret (v:=.tuple #[.int .i64 _,.int .i64 _]) (by simp[results,results33,go_sem]) rfl ⟨rfl,rfl⟩
theorem Kfk {a b n:Int}(y:Jg a)(z:Jg b)(hn:IntKind.i64.wrap (a-b)=n) :
  (Zp (a-b)=n∧Yn (a-b)=0∧¬ (¬ (0≤a↔0≤b)∧¬ (0≤n↔0≤a)))∨(Zp (a-b)=0∧Yn (a-b)=10∧¬ (0≤a↔0≤b)∧¬ (0≤n↔0≤a)):=by
 rw[Od4]at hn
 unfold Jg at y z
 unfold Zp Yn
 split<;>omega
theorem Jd1 (a b:Int)(w:World)(z:Jg a)(A:Jg b) :
  Calls prog 33 #[.int .i64 3,.int .i64 a,.int .i64 b] w (Jxc w (Zp (a-b)) (Yn (a-b))):=by
 obtain⟨n,hn⟩:∃ n,IntKind.i64.wrap (a-b)=n:=⟨_,rfl⟩
 have y:=Kfk z A hn
 clear z A
 generalize Zp (a-b)=x at y ⊢
 generalize Yn (a-b)=H at y ⊢
 by_cases C:0≤a<;>by_cases D:0≤b<;>by_cases E:0≤n<;>simp only[C,D,E,iff_self,not_true_eq_false,not_false_eq_true,and_false,and_true,iff_false,iff_true,or_false,false_or]at y
 all_goals obtain⟨rfl,rfl⟩:=y
 all_goals go_enter func33,ntmps33
 all_goals go_wp2
 all_goals exact bodyPost_ret (v:=.tuple #[.int .i64 _,.int .i64 _]) (by simp[results,results33,go_sem]) rfl ⟨rfl,rfl⟩
theorem Jjf {n:Int}(h:-9223372036854775808≤n∧n≤9223372036854775807):Zp n=n∧Yn n=0:=by unfold Zp Yn;rw[if_pos h,if_pos h];exact⟨rfl,rfl⟩
theorem Jml {n:Int}(h:¬ (-9223372036854775808≤n∧n≤9223372036854775807)):Zp n=0∧Yn n=10:=by unfold Zp Yn;rw[if_neg h,if_neg h];exact⟨rfl,rfl⟩
theorem Jw0 (z y:Nat):z / 2 ^ y=2*(z / 2 ^ (y+1))+z / 2 ^ y % 2:=by
 rw[Nat.pow_succ,←Nat.div_div_eq_div_mul]
 omega
theorem Keh (y k:Nat)(A:y≤9223372036854775808):bits BinOp.and IntKind.u64 ((y:Int) / 2 ^ k) 1=((y / 2 ^ k % 2:Nat):Int):=by
 have z:((y:Int) / 2 ^ k)=((y / 2 ^ k:Nat):Int):=by push_cast;rfl
 have C:y / 2 ^ k≤y:=Oo6 _ _
 rw[z]
 have:=u64_and_nat (y / 2 ^ k) 1 (by omega) (by decide)
 rw[Nat.and_one_is_mod]at this
 exact this
theorem Jj2 {y S:Int}{z k:Nat}(A:y≤0)(D:S=y*((z / 2 ^ (k+1):Nat):Int)):S≤0∧(z / 2 ^ k % 2=0→S+S=y*((z / 2 ^ k:Nat):Int))∧(z / 2 ^ k % 2=1→S+S+y=y*((z / 2 ^ k:Nat):Int))∧y*(z:Int)≤S+S∧(z / 2 ^ k % 2=1→y*(z:Int)≤S+S+y):=by
 have H:=Jw0 z k
 have K:z / 2 ^ k≤z:=Oo6 _ _
 generalize z / 2 ^ (k+1)=q at *
 generalize z / 2 ^ k=p at *
 have E:y*(q:Int)≤0:=Og6 A (by omega)
 have M:y*(z:Int)≤y*(p:Int):=Int.mul_le_mul_of_nonpos_left A (by omega)
 have O:y*(p:Int)=y*(q:Int)+y*(q:Int)+y*((p % 2:Nat):Int):=by
  rw[←Int.mul_add,←Int.mul_add]
  congr 1
  omega
 have R:y*((p % 2:Nat):Int)≤0:=Og6 A (by omega)
 have h0:p % 2=0→y*((p % 2:Nat):Int)=0:=fun h=>by rw[h];simp
 have C:p % 2=1→y*((p % 2:Nat):Int)=y:=fun h=>by rw[h];simp
 subst D
 refine⟨E,fun h=>?_,fun h=>?_,by omega,fun h=>?_⟩
 ·have:=h0 h;omega
 ·have:=C h;omega
 have:=C h;omega
theorem Jmt {a b y B:Int}{z:Nat}{s:Bool}(hs:(!(decide (a<0)==decide (b<0)))=s)(R:a=y∨(0<a∧y=-a))(U:b=B∨(0<b∧B=-b))(M:y≤0)(O:B=-(z:Int)):(s=true→a*b=y*z)∧(y*(z:Int)=0→a*b=0)∧(s=false→a*b=-(y*z)):=by
 have D:a=y∧a≤0∨a=-y∧0<a:=by omega
 have E:b=-(z:Int)∧b≤0∨b=z∧0<b:=by omega
 rcases D with⟨A,H⟩|⟨A,H⟩<;>rcases E with⟨C,K⟩|⟨C,K⟩
 all_goals subst A
 all_goals rw[C]
 ·refine⟨fun h=>?_,fun h=>by rw[Int.mul_neg,h];rfl,fun _=>Int.mul_neg ..⟩
  subst h
  simp only[Bool.not_eq_true',beq_eq_false_iff_ne,ne_eq,decide_eq_decide]at hs
  have:a=0∨(z:Int)=0:=by omega
  rcases this with h|h<;>simp[h]
 ·refine⟨fun _=>rfl,fun h=>h,fun h=>?_⟩
  subst h
  simp only[Bool.not_eq_false',beq_iff_eq,decide_eq_decide]at hs
  have:a=0:=by omega
  simp[this]
 ·refine⟨fun _=>by rw[Int.neg_mul_neg],fun h=>by rw[Int.neg_mul_neg,h],fun h=>?_⟩
  subst h
  simp only[Bool.not_eq_false',beq_iff_eq,decide_eq_decide]at hs
  have:(z:Int)=0:=by omega
  simp[this]
 refine⟨fun h=>?_,fun h=>by rw[Int.neg_mul,h];rfl,fun _=>Int.neg_mul ..⟩
 subst h
 simp only[Bool.not_eq_true',beq_eq_false_iff_ne,ne_eq,decide_eq_decide]at hs
 omega
def Jea (a b y B x A:Int)(z:Nat)(s:Bool):Prop:=(Zp (a*b)=x∧Yn (a*b)=A∧(!(decide (a<0)==decide (b<0)))=s∧(a=y∨(0<a∧y=-a))∧(b=B∨(0<b∧B=-b))∧y≤0∧-9223372036854775808≤y∧B=-(z:Int)∧z≤9223372036854775808)
theorem Jop {a b A B x D S:Int}{C:Nat}{s:Bool}(h:Jea a b A B x D C s)(K:S=A*(C:Int))(Z:-9223372036854775808≤S):(s=true→x=S∧D=0)∧(S=0→x=0∧D=0)∧(s=false→x=Zp (0-S)∧D=Yn (0-S)):=by
 obtain⟨y,z,hs,M,O,E,_,H,_⟩:=h
 obtain⟨R,U,X⟩:=Jmt hs M O E H
 have h0:A*(C:Int)≤0:=Og6 E (by omega)
 refine⟨fun e=>?_,fun e=>?_,fun e=>?_⟩
 ·rw[R e]at y z
  obtain⟨bc,bf⟩:=Jjf (n:=A*(C:Int)) (by omega)
  omega
 ·rw[U (by omega)]at y z
  exact⟨y.symm,z.symm⟩
 rw[X e,←K]at y z
 rw[Int.zero_sub]
 exact⟨y.symm,z.symm⟩
theorem Jmu {a b y B x A:Int}{z:Nat}{s:Bool}(h:Jea a b y B x A z s)(O:y*(z:Int) < -9223372036854775808):x=0∧A=10:=by
 obtain⟨R,U,hs,E,H,C,_,D,_⟩:=h
 obtain⟨K,X,M⟩:=Jmt hs E H C D
 have:¬ (-9223372036854775808≤a*b∧a*b≤9223372036854775807):=by
  cases s with
  |true=>rw[K rfl];omega
  |false=>rw[M rfl];omega
 obtain⟨Z,bc⟩:=Jml this
 omega
theorem Je2 (bJ B:Int)(C:Nat)(w:World)(bY:bJ≤0)(bZ:-9223372036854775808≤bJ)(ca:B=-(C:Int))(cb:C≤9223372036854775808)(a b:Int)(bK:a=bJ∨(0<a∧bJ=-a))(Z:b=B∨(0<b∧B=-b)) :
  Calls prog 47 #[.int .i64 a,.int .i64 b] w (Jxc w (Zp (a*b)) (Yn (a*b))):=by
 obtain⟨s,hs⟩:∃ s:Bool,(!(decide (a<0)==decide (b<0)))=s:=⟨_,rfl⟩
 generalize cf:Zp (a*b)=x
 generalize bL:Yn (a*b)=bx
 have y:Hid (Jea a b bJ B x bx C s):=⟨cf,bL,hs,bK,Z,bY,bZ,ca,cb⟩
 have bP:0<a→wrap64 (-a)=bJ:=fun h=>by unfold wrap64;omega
 have bz:0<b→wrap64 (-b)=B:=fun h=>by unfold wrap64;omega
 have cr:IntKind.u64.wrap (wrap64 (-B))=(C:Int):=by rw[Oh5];unfold wrap64;omega
 clear cf bL bY bZ ca cb
 rcases bK with bK|⟨cc,bK⟩
 ·have cc:¬ 0<a:=by have bu:=y.out;unfold Jea at bu;omega
  subst bK
  rcases Z with Z|⟨bN,Z⟩
  focus
   have bN:¬ 0<b:=by have bu:=y.out;unfold Jea at bu;omega
   subst Z
   clear bP bz
  rotate_left 1
  focus
   have bz:=bz bN
   clear bP Z
   subst bz
  all_goals
   go_enter func47,ntmps47
   go_wp2
   go_loopw [7,8,9] (fun s e k wr=>∃ D:Nat,D≤64∧k=.int .i64 ((D:Int)-1)∧wr=w∧((∃ S:Int,s=.int .i64 S∧e=.int .i64 0∧Hid (S=a*((C / 2 ^ D:Nat):Int)∧-9223372036854775808≤S))∨(s=.int .i64 0∧e=.int .i64 10∧Hid (a*(C:Int) < -9223372036854775808)))) (fun _ _ k _=>(intOf k+1).toNat)
   case atStart=>
    have h:=y.out
    unfold Jea at h
    refine⟨64,Oa2 _,rfl,rfl,.inl ⟨0,rfl,rfl,?_,by omega⟩⟩
    rw[Op6 (by omega)]
    simp
   case round=>
    obtain⟨D,ci,rfl,rfl,⟨S,rfl,rfl,X⟩|⟨rfl,rfl,bQ⟩⟩:=hrel
    ·have A:D=0→(s=true→x=S∧bx=0)∧(S=0→x=0∧bx=0)∧(s=false→x=Zp (0-S)∧bx=Yn (0-S)):=fun h0=>by
      have bG:=X.out
      subst h0
      simp only[Nat.pow_zero,Nat.div_one]at bG
      exact Jop y.out bG.1 bG.2
     cases D with
     |zero=>
      replace A:=A rfl
      have z:=X.out.2
      have bB:S≤0:=by
       rw[X.out.1]
       exact Og6 y.out.2.2.2.2.2.1 (by omega)
      rw[show ((0:Nat):Int)-1=-1 by omega]
      go_upto_region 14 with fail
      by_cases br:s=true
      ·obtain⟨E,H⟩:=A.1 br
       subst E H
       subst br
       have ch:Hid _:=z
       clear A z bB
       go_wp2
       exact bodyPost_ret (v:=.tuple #[.int .i64 x,.int .i64 0]) (by simp[results,results47,go_sem]) rfl ⟨rfl,rfl⟩
      have bE:s=false:=by simpa using br
      clear br
      by_cases R:S=0
      ·obtain⟨E,H⟩:=A.2.1 R
       subst E H
       subst bE
       have bV:(S==0)=true:=by simp[R]
       have bR:Hid (S=0):=R
       clear A z bB R
       go_wp2
       exact bodyPost_ret (v:=.tuple #[.int .i64 S,.int .i64 0]) (by simp[results,results47,go_sem]) rfl ⟨by rw[bR.out],rfl⟩
      obtain⟨E,H⟩:=A.2.2 bE
      subst E H
      subst bE
      have bV:(S==0)=false:=by simp[R]
      have bU:Jg S:=⟨z,by omega⟩
      have cj:Jg 0:=⟨by omega,by omega⟩
      clear A z bB R
      go_wp2_with (go_at_call 33;refine(Jd1 _ _ _ (by assumption) (by assumption)).mono ?_;rintro bl bj ⟨rfl,rfl⟩)
      exact bodyPost_ret (v:=.tuple #[.int .i64 (Zp (0-S)),.int .i64 (Yn (0-S))]) (by simp[results,results47,go_sem]) rfl ⟨rfl,rfl⟩
     |succ k=>
      clear A
      have bc:=Jj2 (y.out.2.2.2.2.2.1) X.out.1
      rw[show ((k+1:Nat):Int)-1=(k:Int) by omega]
      have z:=X.out.2
      have bU:Jg S:=⟨z,by omega⟩
      obtain⟨T,K⟩:∃ T:Int,T=S+S:=⟨_,rfl⟩
      rw[←K]at bc
      have U:Hid _:=bc
      by_cases M:-9223372036854775808≤T
      ·obtain⟨bH,bW⟩:=Jjf (n:=S+S) (by omega)
       replace bH:=bH.trans K.symm
       have cl:Jg T:=⟨M,by omega⟩
       have cn:Jg a:=⟨y.out.2.2.2.2.2.2.1,by have:=y.out.2.2.2.2.2.1;omega⟩
       have bh:Hid (T=S+S∧-9223372036854775808≤T):=⟨K,M⟩
       have bO:=Keh C k y.out.2.2.2.2.2.2.2.2
       by_cases bn:C / 2 ^ k % 2=1
       ·have bf:Hid (C / 2 ^ k % 2=1):=bn
        rw[bn]at bO
        clear K M z bc bn
        by_cases O:-9223372036854775808≤T+a
        ·obtain⟨bI,bX⟩:=Jjf (n:=T+a) ⟨O,by have:=U.out;have bu:=y.out;unfold Jea at bu;have:=bh.out;omega⟩
         have bA:Hid (-9223372036854775808≤T+a):=O
         obtain⟨bi,bC⟩:∃ bi:Int,bi=T+a:=⟨_,rfl⟩
         replace bI:=bI.trans bC.symm
         have bM:Hid (bi=T+a):=bC
         clear O bC
         go_wp2_with (go_at_call 33;refine(Yg _ _ _ (by assumption) (by assumption)).mono ?_;rintro bl bj ⟨rfl,rfl⟩)
         go_roundw
         case rel=>
          refine⟨k,by omega,rfl,by trivial,.inl ⟨bi,rfl,rfl,?_,?_⟩⟩
          ·rw[bM.out];exact U.out.2.2.1 bf.out
          rw[bM.out];exact bA.out
         case measure=>simp[intOf]<;>omega
        obtain⟨bI,bX⟩:=Jml (n:=T+a) (fun h=>O h.1)
        have bA:Hid (¬ -9223372036854775808≤T+a):=O
        clear O
        go_wp2_with (go_at_call 33;refine(Yg _ _ _ (by assumption) (by assumption)).mono ?_;rintro bl bj ⟨rfl,rfl⟩)
        go_roundw
        case rel=>
         refine⟨k,by omega,rfl,by trivial,.inr ⟨rfl,rfl,?_⟩⟩
         show _<_
         have bS:=U.out.2.2.2.2 bf.out
         have bT:=bA.out
         omega
        case measure=>simp[intOf]<;>omega
       have bD:C / 2 ^ k % 2=0:=by omega
       have bf:Hid (C / 2 ^ k % 2=0):=bD
       rw[bD]at bO
       clear K M z bc bn bD
       go_wp2_with (go_at_call 33;refine(Yg _ _ _ (by assumption) (by assumption)).mono ?_;rintro bl bj ⟨rfl,rfl⟩)
       go_roundw
       case rel=>exact⟨k,by omega,rfl,by trivial,.inl ⟨T,rfl,rfl,U.out.2.1 bf.out,bh.out.2⟩⟩
       case measure=>simp[intOf]<;>omega
      obtain⟨bH,bW⟩:=Jml (n:=S+S) (by omega)
      have bh:Hid (¬ -9223372036854775808≤T):=M
      clear K M z bc
      go_wp2_with (go_at_call 33;refine(Yg _ _ _ (by assumption) (by assumption)).mono ?_;rintro bl bj ⟨rfl,rfl⟩)
      go_roundw
      case rel=>
       refine⟨k,by omega,rfl,by trivial,.inr ⟨rfl,rfl,?_⟩⟩
       show _<_
       have bS:=U.out.2.2.2.1
       have bT:=bh.out
       omega
      case measure=>simp[intOf]<;>omega
    have bL:x=0∧bx=10:=Jmu y.out bQ.out
    obtain⟨E,H⟩:=bL
    subst E H
    cases D with
    |succ k=>
     rw[show ((k+1:Nat):Int)-1=(k:Int) by omega]
     go_wp2
     exact bodyPost_ret (v:=.tuple #[.int .i64 0,.int .i64 10]) (by simp[results,results47,go_sem]) rfl ⟨rfl,rfl⟩
    |zero=>
     rw[show ((0:Nat):Int)-1=-1 by omega]
     go_wp2
     exact bodyPost_ret (v:=.tuple #[.int .i64 0,.int .i64 10]) (by simp[results,results47,go_sem]) rfl ⟨rfl,rfl⟩
 have bP:=bP cc
 clear bK
 subst bP
 rcases Z with Z|⟨bN,Z⟩
 focus
  have bN:¬ 0<b:=by have bu:=y.out;unfold Jea at bu;omega
  subst Z
  clear bz
 rotate_left 1
 focus
  have bz:=bz bN
  clear Z
  subst bz
 all_goals
  go_enter func47,ntmps47
  go_wp2
  go_loopw [7,8,9] (fun s e k wr=>∃ D:Nat,D≤64∧k=.int .i64 ((D:Int)-1)∧wr=w∧((∃ S:Int,s=.int .i64 S∧e=.int .i64 0∧Hid (S=(wrap64 (-a))*((C / 2 ^ D:Nat):Int)∧-9223372036854775808≤S))∨(s=.int .i64 0∧e=.int .i64 10∧Hid ((wrap64 (-a))*(C:Int) < -9223372036854775808)))) (fun _ _ k _=>(intOf k+1).toNat)
  case atStart=>
   have h:=y.out
   unfold Jea at h
   refine⟨64,Oa2 _,rfl,rfl,.inl ⟨0,rfl,rfl,?_,by omega⟩⟩
   rw[Op6 (by omega)]
   simp
  case round=>
   obtain⟨D,ci,rfl,rfl,⟨S,rfl,rfl,X⟩|⟨rfl,rfl,bQ⟩⟩:=hrel
   ·have A:D=0→(s=true→x=S∧bx=0)∧(S=0→x=0∧bx=0)∧(s=false→x=Zp (0-S)∧bx=Yn (0-S)):=fun h0=>by
     have bG:=X.out
     subst h0
     simp only[Nat.pow_zero,Nat.div_one]at bG
     exact Jop y.out bG.1 bG.2
    cases D with
    |zero=>
     replace A:=A rfl
     have z:=X.out.2
     have bB:S≤0:=by
      rw[X.out.1]
      exact Og6 y.out.2.2.2.2.2.1 (by omega)
     rw[show ((0:Nat):Int)-1=-1 by omega]
     go_upto_region 14 with fail
     by_cases br:s=true
     ·obtain⟨E,H⟩:=A.1 br
      subst E H
      subst br
      have ch:Hid _:=z
      clear A z bB
      go_wp2
      exact bodyPost_ret (v:=.tuple #[.int .i64 x,.int .i64 0]) (by simp[results,results47,go_sem]) rfl ⟨rfl,rfl⟩
     have bE:s=false:=by simpa using br
     clear br
     by_cases R:S=0
     ·obtain⟨E,H⟩:=A.2.1 R
      subst E H
      subst bE
      have bV:(S==0)=true:=by simp[R]
      have bR:Hid (S=0):=R
      clear A z bB R
      go_wp2
      exact bodyPost_ret (v:=.tuple #[.int .i64 S,.int .i64 0]) (by simp[results,results47,go_sem]) rfl ⟨by rw[bR.out],rfl⟩
     obtain⟨E,H⟩:=A.2.2 bE
     subst E H
     subst bE
     have bV:(S==0)=false:=by simp[R]
     have bU:Jg S:=⟨z,by omega⟩
     have cj:Jg 0:=⟨by omega,by omega⟩
     clear A z bB R
     go_wp2_with (go_at_call 33;refine(Jd1 _ _ _ (by assumption) (by assumption)).mono ?_;rintro bl bj ⟨rfl,rfl⟩)
     exact bodyPost_ret (v:=.tuple #[.int .i64 (Zp (0-S)),.int .i64 (Yn (0-S))]) (by simp[results,results47,go_sem]) rfl ⟨rfl,rfl⟩
    |succ k=>
     clear A
     have bc:=Jj2 (y.out.2.2.2.2.2.1) X.out.1
     rw[show ((k+1:Nat):Int)-1=(k:Int) by omega]
     have z:=X.out.2
     have bU:Jg S:=⟨z,by omega⟩
     obtain⟨T,K⟩:∃ T:Int,T=S+S:=⟨_,rfl⟩
     rw[←K]at bc
     have U:Hid _:=bc
     by_cases M:-9223372036854775808≤T
     ·obtain⟨bH,bW⟩:=Jjf (n:=S+S) (by omega)
      replace bH:=bH.trans K.symm
      have cl:Jg T:=⟨M,by omega⟩
      have cn:Jg (wrap64 (-a)):=⟨y.out.2.2.2.2.2.2.1,by have:=y.out.2.2.2.2.2.1;omega⟩
      have bh:Hid (T=S+S∧-9223372036854775808≤T):=⟨K,M⟩
      have bO:=Keh C k y.out.2.2.2.2.2.2.2.2
      by_cases bn:C / 2 ^ k % 2=1
      ·have bf:Hid (C / 2 ^ k % 2=1):=bn
       rw[bn]at bO
       clear K M z bc bn
       by_cases O:-9223372036854775808≤T+(wrap64 (-a))
       ·obtain⟨bI,bX⟩:=Jjf (n:=T+(wrap64 (-a))) ⟨O,by have:=U.out;have bu:=y.out;unfold Jea at bu;have:=bh.out;omega⟩
        have bA:Hid (-9223372036854775808≤T+(wrap64 (-a))):=O
        obtain⟨bi,bC⟩:∃ bi:Int,bi=T+(wrap64 (-a)):=⟨_,rfl⟩
        replace bI:=bI.trans bC.symm
        have bM:Hid (bi=T+(wrap64 (-a))):=bC
        clear O bC
        go_wp2_with (go_at_call 33;refine(Yg _ _ _ (by assumption) (by assumption)).mono ?_;rintro bl bj ⟨rfl,rfl⟩)
        go_roundw
        case rel=>
         refine⟨k,by omega,rfl,by trivial,.inl ⟨bi,rfl,rfl,?_,?_⟩⟩
         ·rw[bM.out];exact U.out.2.2.1 bf.out
         rw[bM.out];exact bA.out
        case measure=>simp[intOf]<;>omega
       obtain⟨bI,bX⟩:=Jml (n:=T+(wrap64 (-a))) (fun h=>O h.1)
       have bA:Hid (¬ -9223372036854775808≤T+(wrap64 (-a))):=O
       clear O
       go_wp2_with (go_at_call 33;refine(Yg _ _ _ (by assumption) (by assumption)).mono ?_;rintro bl bj ⟨rfl,rfl⟩)
       go_roundw
       case rel=>
        refine⟨k,by omega,rfl,by trivial,.inr ⟨rfl,rfl,?_⟩⟩
        show _<_
        have bS:=U.out.2.2.2.2 bf.out
        have bT:=bA.out
        omega
       case measure=>simp[intOf]<;>omega
      have bD:C / 2 ^ k % 2=0:=by omega
      have bf:Hid (C / 2 ^ k % 2=0):=bD
      rw[bD]at bO
      clear K M z bc bn bD
      go_wp2_with (go_at_call 33;refine(Yg _ _ _ (by assumption) (by assumption)).mono ?_;rintro bl bj ⟨rfl,rfl⟩)
      go_roundw
      case rel=>exact⟨k,by omega,rfl,by trivial,.inl ⟨T,rfl,rfl,U.out.2.1 bf.out,bh.out.2⟩⟩
      case measure=>simp[intOf]<;>omega
     obtain⟨bH,bW⟩:=Jml (n:=S+S) (by omega)
     have bh:Hid (¬ -9223372036854775808≤T):=M
     clear K M z bc
     go_wp2_with (go_at_call 33;refine(Yg _ _ _ (by assumption) (by assumption)).mono ?_;rintro bl bj ⟨rfl,rfl⟩)
     go_roundw
     case rel=>
      refine⟨k,by omega,rfl,by trivial,.inr ⟨rfl,rfl,?_⟩⟩
      show _<_
      have bS:=U.out.2.2.2.1
      have bT:=bh.out
      omega
     case measure=>simp[intOf]<;>omega
   have bL:x=0∧bx=10:=Jmu y.out bQ.out
   obtain⟨E,H⟩:=bL
   subst E H
   cases D with
   |succ k=>
    rw[show ((k+1:Nat):Int)-1=(k:Int) by omega]
    go_wp2
    exact bodyPost_ret (v:=.tuple #[.int .i64 0,.int .i64 10]) (by simp[results,results47,go_sem]) rfl ⟨rfl,rfl⟩
   |zero=>
    rw[show ((0:Nat):Int)-1=-1 by omega]
    go_wp2
    exact bodyPost_ret (v:=.tuple #[.int .i64 0,.int .i64 10]) (by simp[results,results47,go_sem]) rfl ⟨rfl,rfl⟩
theorem Jxn (a b:Int)(w:World)(A:Jg a)(C:Jg b) :
  Calls prog 47 #[.int .i64 a,.int .i64 b] w (Jxc w (Zp (a*b)) (Yn (a*b))):=by
 unfold Jg at A C
 by_cases y:0<a<;>by_cases z:0<b
 ·exact Je2 (-a) (-b) b.toNat w (by omega) (by omega) (by omega) (by omega) a b (.inr ⟨y,rfl⟩) (.inr ⟨z,rfl⟩)
 ·exact Je2 (-a) b (-b).toNat w (by omega) (by omega) (by omega) (by omega) a b (.inr ⟨y,rfl⟩) (.inl rfl)
 ·exact Je2 a (-b) b.toNat w (by omega) (by omega) (by omega) (by omega) a b (.inl rfl) (.inr ⟨z,rfl⟩)
 exact Je2 a b (-b).toNat w (by omega) (by omega) (by omega) (by omega) a b (.inl rfl) (.inl rfl)
theorem Jrk (a b:Int)(w:World)(z:Jg a)(A:Jg b) :
  Calls prog 33 #[.int .i64 4,.int .i64 a,.int .i64 b] w (Jxc w (Zp (a*b)) (Yn (a*b))):=by
 have y:=Jxn a b w z A
 clear z A
 generalize Zp (a*b)=x at y ⊢
 generalize Yn (a*b)=C at y ⊢
 go_enter func33,ntmps33
 go_wp2_with (go_at_call 47;refine y.mono ?_;rintro E D ⟨rfl,rfl⟩)
 exact bodyPost_ret (v:=.tuple #[.int .i64 x,.int .i64 C]) (by simp[results,results33,go_sem]) rfl ⟨rfl,rfl⟩
def Kbr (a b:Int):Int:=if b=0 then 0 else Zp (a.tdiv b)
def Jq4 (a b:Int):Int:=if b=0 then 9 else Yn (a.tdiv b)
theorem Jrt (a b:Int)(w:World)(y:Jg a)(A:Jg b) :
  Calls prog 33 #[.int .i64 5,.int .i64 a,.int .i64 b] w (Jxc w (Kbr a b) (Jq4 a b)):=by
 by_cases h0:b=0
 ·subst h0
  unfold Kbr Jq4
  rw[if_pos rfl,if_pos rfl]
  clear y A
  go_enter func33,ntmps33
  go_wp2
  exact bodyPost_ret (v:=.tuple #[.int .i64 0,.int .i64 9]) (by simp[results,results33,go_sem]) rfl ⟨rfl,rfl⟩
 unfold Kbr Jq4
 rw[if_neg h0,if_neg h0]
 by_cases C:b=-1
 ·subst C
  have z:a.tdiv (-1)=0-a:=by rw[Int.tdiv_neg,Int.tdiv_one];omega
  rw[z]
  have hs:=Jd1 0 a w ⟨by decide,by decide⟩ y
  generalize Zp (0-a)=x at hs ⊢
  generalize Yn (0-a)=R at hs ⊢
  clear y A h0 z
  go_enter func33,ntmps33
  go_wp2_with (go_at_call 33;refine hs.mono ?_;rintro Z X ⟨rfl,rfl⟩)
  exact bodyPost_ret (v:=.tuple #[.int .i64 x,.int .i64 R]) (by simp[results,results33,go_sem]) rfl ⟨rfl,rfl⟩
 have D:2≤b.natAbs∨b=1:=by omega
 have E:(a.tdiv b).natAbs=a.natAbs / b.natAbs:=Int.natAbs_tdiv a b
 have O:(a.tdiv b).natAbs≤a.natAbs / 2∨a.tdiv b=a:=by
  rcases D with h|h
  ·left;rw[E];exact Nat.div_le_div_left h (by decide)
  right;rw[h,Int.tdiv_one]
 unfold Jg at y
 obtain⟨K,M⟩:=Jjf (n:=a.tdiv b) (by omega)
 have H:wrap64 (a.tdiv b)=a.tdiv b:=by unfold wrap64;omega
 rw[K,M]
 have bc:(b==0)=false:=by simp[h0]
 have z:(b==-1)=false:=by simp[C]
 generalize bf:a.tdiv b=d at H ⊢
 have U:Hid (b≠0):=h0
 clear K M O E D y A
 go_enter func33,ntmps33
 go_wp2
 exact bodyPost_ret (v:=.tuple #[.int .i64 d,.int .i64 0]) (by simp[results,results33,go_sem,H]) rfl ⟨rfl,rfl⟩
end Go.Proofs.YtjjdldddcegjiaaGreatDoor
namespace Go.Proofs.YtjjdldddcegjiaaGreatDoor
open Go.RowKit Go.Shelf Tryz
def KpB (Fx:Nat→Prop)(W y:World):Prop:=W.heap.size≤y.heap.size∧∀ k,Fx k→y.heap[k]?=W.heap[k]?
theorem KpB.trans {Fx:Nat→Prop}{y B z:World}(h:KpB Fx y B)(k:KpB Fx B z):KpB Fx y z:=⟨Ob2 h.1 k.1,fun i hi=>(k.2 i hi).trans (h.2 i hi)⟩
theorem KpB.of_below {Fx:Nat→Prop}{y B:World}(h:Below y.heap.size y B)(hF:∀ k,Fx k→k<y.heap.size):KpB Fx y B:=⟨h.size,fun k z=>h.block k (hF k z)⟩
def Jbo (g:Nat)(hs:List (Option Addr×Nat))(k:Nat)(F:Nat→Prop):Prop:=F g∧∀ j,j<k→∀ b o,(Yo hs j).1=some ⟨b,o,none⟩→F b
theorem Qd.kp {Fx:Nat→Prop}{W z:World}{g:Nat}{hs:List (Option Addr×Nat)}{cs:List (List V)}(h:Qd W g hs cs)(y:KpB Fx W z)(hF:Jbo g hs cs.length Fx):Qd z g hs cs:=
 ⟨h.row.of_block (y.2 g hF.1),fun j A=>(h.vals j A).of_block y.1 fun b o e _=>y.2 b (hF.2 j A b o e),h.cap⟩
abbrev Bat:=Nat×Nat×Nat
def Kgp (B:Nat)(hs:List (Option Addr×Nat))(cols:List (List V))(N y:Nat)(x:Bat)(W:World):Prop:=x.1+x.2.1≤N∧(1≤x.2.1∧x.2.1≤y)∧B≤x.2.2∧Qd W x.2.2 (Jnt hs cols.length x.1 (x.1+x.2.1)) (cols.map (Jbx x.1 (x.1+x.2.1)))
theorem Jjx (n:Nat)(hn:1≤n)(E C g cap:Nat)(hs:List (Option Addr×Nat))(cols:List (List V))(N y:Nat)(bK:1≤y)(cx:y≤100000)(ci:N≤100000)(bj:1≤cols.length)(cc:cols.length≤1000)(w:World)(bz:Qd w g hs cols)(bG:∀ j,j<cols.length→(cols.getD j []).length=N)
  (bx:w.cell? ⟨E,0,none⟩=some (.slice (some ⟨g,0,none⟩) cols.length cap)) (bu:w.cell? ⟨C,0,none⟩=some (.int .i64 (y:Int))) (Fx:Nat→Prop) (hF:Fx E∧Fx C∧Jbo g hs cols.length Fx) (bA:∀ k,Fx k→k<w.heap.size) :
  Kh4 Fence.wide n prog 150 #[.pointer (some ⟨E,0,none⟩),.pointer (some ⟨C,0,none⟩)] (fun x:Bat=>#[.int .i64 (x.1:Int),.slice (some ⟨x.2.2,0,none⟩) cols.length cols.length]) (Kgp w.heap.size hs cols N y) (KpB Fx) (fun A=>A.map (fun x=>(x.1,x.2.1))=cks N y (ckN N y)) (fun K=>∃ k,k≤ckN N y∧K.map (fun x=>(x.1,x.2.1))=cks N y k) (ckN N y) w:=by
 intro l J bP W hW bB bT bD h0
 have bC:∀ s z D,Below z.heap.size z D→J s z→J s D:=fun s z D O h=>bB s z D none h ⟨O.os,O.tape,O.output,O.size,fun k H _=>O.block k H⟩ (fun r e=>by cases e)
 have bL:Hid (∀ s z D,Below z.heap.size z D→J s z→J s D):=bC
 have bO:Hid (∀ K x Z,J K Z→Kgp w.heap.size hs cols N y x Z→K.length<ckN N y→YieldAt Fence.wide (n-1) prog l #[.int .i64 (x.1:Int),.slice (some ⟨x.2.2,0,none⟩) cols.length cols.length] Z fun e bf=>(e=.returned (.bool true)∧J (K++[x]) bf∧KpB Fx Z bf)∨(e=.returned (.bool false)∧bP (K++[x]) bf)):=bD
 have U:Hid (Qd W g hs cols∧(∀ j,j<cols.length→(cols.getD j []).length=N)):=⟨bz.below hW,bG⟩
 have M:Hid ((Fx E∧Fx C∧Jbo g hs cols.length Fx)∧∀ k,Fx k→k<W.heap.size):=⟨hF,fun k H=>Oc2 (bA k H) hW.size⟩
 have bR:=Ja hW bx
 have br:=Ja hW bu
 have cj:=hW.size
 clear bC bD bz bG hF bA bx bu bB bT
 have bh:=U.out.1.row.cell bj
 rw[U.out.2 0 bj]at bh
 have bX:=Jlg g cols.length cap (Yo hs 0).1 N (Yo hs 0).2 W bj bh
 clear bh
 refine callsIn_of_wp func150 rfl trivial ?_ rfl
 simp only[ntmps150,Om3,List.length_cons,List.length_nil,Nat.reduceAdd,Nat.reduceSub,Ok9,Array.replicate_zero,Om4,Ol2,List.nil_append,List.cons_append]
 gi_wp2_with (refine⟨trivial,?_⟩;gi_at_call 65;refine(callsIn_wide.2 bX).mono ?_;rintro e w' ⟨rfl,cb⟩;rw[cb])
 gi_loopw [5] (fun i wr=>∃ (k:Nat) (A:List Bat),k≤ckN N y∧i=.int .i64 ((k*y:Nat):Int)∧Hid (A.map (fun x=>(x.1,x.2.1))=cks N y k)∧J A wr∧KpB Fx W wr) (fun i _=>N+100000-(intOf i).toNat)
 case atStart=>exact⟨0,[],Ob7 _,by simp,rfl,h0,Oa2 _,fun _ _=>rfl⟩
 case round=>
  obtain⟨k,A,H,rfl,X,bi,R⟩:=hrel
  have c1:wr.cell? ⟨E,0,none⟩=some (.slice (some ⟨g,0,none⟩) cols.length cap):=by rw[Oc3 (w:=W) (R.2 E M.out.1.1)];exact bR
  have c2:wr.cell? ⟨C,0,none⟩=some (.int .i64 (y:Int)):=by rw[Oc3 (w:=W) (R.2 C M.out.1.2.1)];exact br
  by_cases bJ:k*y<N
  ·have bH:=Khi bK bJ
   have bc:Hid (cks N y (k+1)=cks N y k++[(k*y,min y (N-k*y))]):=Jbj N y k
   have bN:Hid ((k+1)*y=k*y+y):=Of5 k y
   have cv:A.length=k:=by have:=congrArg List.length X.out;rw[Oa6,Jbp]at this;exact this
   generalize k*y=i at *
   obtain⟨m,bY,bl⟩:∃ m:Nat,(i+m≤N∧1≤m∧m≤y)∧Hid (m=min y (N-i)):=⟨min y (N-i),by omega,rfl⟩
   rw[←bl.out]at bc
   obtain⟨cl,bZ,ca⟩:=bY
   have cn:min ((i:Int)+(y:Int)) (N:Int)=(i:Int)+(m:Int):=by have:=bl.out;omega
   have cr:IntKind.i64.wrap ((i:Int)+(y:Int))=(i:Int)+(y:Int):=by rw[Od4];omega
   have hcut:=Kdx g cap hs cols N i (i+m) wr (U.out.1.kp R M.out.1.2.2) U.out.2 (by omega) (by omega) cc
   rw[Int.natCast_add]at hcut
   have cu:W.heap.size≤wr.heap.size:=R.1
   have ch:=bi
   gi_wp2_with (refine⟨trivial,?_⟩;gi_at_call 123;refine(callsIn_wide.2 hcut).mono ?_;rintro e bQ ⟨bE,rfl,bV⟩;obtain⟨fn,tmps,assign,body,cf,hR⟩:=bO.out A (i,m,wr.heap.size) bQ (bL.out _ _ _ bE bi) ⟨by show i+m≤N;omega,⟨bZ,ca⟩,by show w.heap.size≤wr.heap.size;omega,bV⟩ (by omega);dsimp only at cf)
   refine hR.mono ?_
   rintro e bn (⟨rfl,bS,bW⟩|⟨rfl,bU⟩)
   ·have bI:KpB Fx W bn:=(R.trans (KpB.of_below bE (fun k H=>by have:=M.out.2 k H;omega))).trans bW
    have c3:bn.cell? ⟨C,0,none⟩=some (.int .i64 (y:Int)):=by rw[Oc3 (w:=W) (bI.2 C M.out.1.2.1)];exact br
    gi_wp2
    go_roundw
    case rel=>exact⟨k+1,A++[(i,m,wr.heap.size)],bH,by rw[bN.out];go_num,by show _=_;rw[Ob8,X.out,bc.out];rfl,bS,bI⟩
    case measure=>simp[intOf];omega
   gi_wp2
   refine bodyPost_ret (results_none rfl _ _ _) rfl ?_
   exact⟨⟨_,rfl⟩,.inr ⟨_,⟨k+1,bH,by rw[Ob8,X.out,bc.out];rfl⟩,bU⟩⟩
  have bM:Hid (k=ckN N y):=by
   rcases Oc1 k (ckN N y)with h'|h'
   ·exact absurd (Jqs bK h') bJ
   ·show k=_;omega
  gi_wp2
  go_end0
  exact⟨⟨_,rfl⟩,.inl ⟨A,by rw[X.out,bM.out],bi⟩⟩
attribute [local go_sem] Oc0
theorem Jfy (w:World)(a:Option Addr)(n cap c:Nat)(h:n≤cap)(ty:TypeId):(Builtin.append_ #[58,58] ty #[.slice a n cap,.slice none 0 c]).run prog w=.ok (.slice a n cap) w:=by
 have y:(sizeOf 49).run prog w=.ok 3 w:=by kernel_rfl
 cases a with
 |none=>simp[Builtin.append_,run_underlying underlying58,y,Builtin.lenOf,Builtin.firstCells,h,Result.andThen]
 |some z=>simp[Builtin.append_,run_underlying underlying58,y,Builtin.lenOf,Builtin.firstCells,storeCells,h,Result.andThen]
theorem Jju {w:World}{R:Array Oper}{rest:List Oper}{o:Oper}{a:Act}{Q:Exit→Act→World→Prop}(K:o.guard=none)(s x:Operand)
  (O:o.op=.call {callee:=.builtin .append,args:=#[s,x],argTypes:=#[58,58]})
  (B:Nat) (sv:Value) (z:List V) (hs:a.eval s=sv) (C:Yt w B sv z)
  (H:Option Addr) (c:Nat) (vs:List V) (E:a.eval x=.slice H vs.length c) (y:Jv w H vs) (bC:z.length+vs.length≤1000000) (bh:B≤w.heap.size)
  (h:∀ sv' w',Yt w' B sv' (z++vs)→w.grownBy w' sv.ownBlock→(sv'.ownBlock=sv.ownBlock∨sv'.ownBlock=some w.heap.size)→wpList prog R Q rest (a.put o.dst sv') w') :
  wpList prog R Q (o::rest) a w:=by
 cases H with
 |none=>
  have br:vs=[]:=by
   rcases y with y|⟨b,bx,A,_⟩
   ·exact y
   simp at A
  subst br
  refine wpList_plain K fun bA bf=>?_
  have bl:(Builtin.append_ #[58,58] o.type #[sv,.slice none 0 c]).run prog w=.ok sv w:=by
   rcases C.2 with⟨D,_⟩|⟨g,cap,bB,D,_,_,bj,_⟩
   ·rw[D];exact Jfy w none 0 0 c (Oa2 _) _
   rw[D];exact Jfy w _ _ cap c bj _
  unfold Oper.wp execOp
  simp only[List.length_nil]at E
  simp only[O,resolve,invoke,builtin,Og8,Sem.run_pure,Result.andThen_ok,List.map_toArray,Oe4,Oi4,hs,E,bl]
  exact bf _ _ (h sv w (by rw[Od7];exact C) (World.grownBy.refl _ _) (.inl rfl))
 |some U=>
  obtain⟨i,hi,bu,bn,bi⟩:=info_parts Jow
  refine wpList_append_own_at w K s x 58 O B 49 i _ 3 32 (by kernel_rfl) hi bu bn bi rfl (by decide) sv z.length (z.flatMap V.cells) hs C U vs.length c (vs.flatMap V.cells) E (Ja5 vs) ?_ ?_ ?_ ?_ bh ?_
  ·intro j u M
   rcases y with y|⟨b,bx,A,_,y⟩
   ·subst y;simp at M
   simp only[Oc9]at A
   subst A
   have:=Kem y j u M
   exact this
  ·exact Kap vs
  ·unfold maxLen;omega
  ·omega
  intro bz w' X Z _ bc
  refine h bz w' ?_ Z bc
  unfold Yt
  simpa using X
def Jdi (cs y:List (List V))(k:Nat):List (List V):=(List.range cs.length).map fun j=>if j<k then cs.getD j []++y.getD j []else cs.getD j []
theorem Jf9 (cs y:List (List V))(k:Nat):(Jdi cs y k).length=cs.length:=by simp[Jdi]
theorem Jlm (cs y:List (List V))(k j:Nat)(z:j<cs.length):(Jdi cs y k).getD j []=if j<k then cs.getD j []++y.getD j []else cs.getD j []:=by
 rw[Oa0]
 simp only[Jdi,Ob1,Oh6 z,Option.map_some,Option.getD_some]
theorem Kat (cs y:List (List V)):Jdi cs y 0=cs:=by
 apply Oh4
 ·simp[Jdi]
 intro j A z
 simp[Jdi,z]
theorem Jy5 (cs y:List (List V))(k:Nat)(C:k<cs.length):(Jdi cs y k).set k ((Jdi cs y k).getD k []++y.getD k [])=Jdi cs y (k+1):=by
 apply Oh4
 ·simp[Jdi]
 intro j D A
 have E:j<cs.length:=by simpa [Jdi] using A
 rw[List.getElem_set]
 by_cases e:k=j
 ·subst e
  rw[if_pos rfl,Jlm cs y k k C,if_neg (Oe3 _)]
  simp[Jdi]
 rw[if_neg e]
 simp only[Jdi,Od9,Oo7]
 by_cases z:j<k
 ·rw[if_pos z,if_pos (by omega)]
 rw[if_neg z,if_neg (by omega)]
structure Kgu (w:World) (g:Nat) (hs:List (Option Addr×Nat)) (cs:List (List V)):Prop where
 lt:g<w.heap.size
 cell:∀ j,j<cs.length→w.cell? ⟨g,j,none⟩=some (.slice (Yo hs j).1 (cs.getD j []).length (Yo hs j).2)
 vals:∀ j,j<cs.length→Jv w (Yo hs j).1 (cs.getD j [])
theorem Kb4 (B g cap:Nat)(D:List Value)(cs:List (List V))(g2 cc:Nat)(hs:List (Option Addr×Nat))(y:List (List V))(w:World)(ch:Jar w B g D cs)(bD:Kgu w g2 hs y)(cr:y.length=cs.length)(bH:∀ j,j<cs.length→(cs.getD j []).length+(y.getD j []).length≤1000000)(cf:B≤w.heap.size)(cA:cs.length≤1000)
  (bE:∀ j b,j<cs.length→(Uq D j).ownBlock=some b→b≠g2∧∀ k z K,k<y.length→(Yo hs k).1=some ⟨z,K,none⟩→b≠z) (bK:g≠g2∧∀ k z K,k<y.length→(Yo hs k).1=some ⟨z,K,none⟩→g≠z) :
  Calls prog 119 #[.slice (some ⟨g,0,none⟩) cs.length cap,.slice (some ⟨g2,0,none⟩) y.length cc] w fun e w'=>e=.returned (.tuple #[])∧(∃ bV,Jar w' B g bV (Jdi cs y cs.length)∧∀ j b,j<cs.length→(Uq bV j).ownBlock=some b→(Uq D j).ownBlock=some b∨w.heap.size≤b)∧Below B w w'∧w.heap.size≤w'.heap.size∧∀ x,x<w.heap.size→x≠g→(∀ j,j<cs.length→(Uq D j).ownBlock≠some x)→w'.heap[x]?=w.heap[x]?:=by
 have bl:Hid (Kgu w g2 hs y):=bD
 have bA:Hid (∀ j b,j<cs.length→(Uq D j).ownBlock=some b→b≠g2∧∀ k z K,k<y.length→(Yo hs k).1=some ⟨z,K,none⟩→b≠z):=bE
 have bB:Hid (g≠g2∧∀ k z K,k<y.length→(Yo hs k).1=some ⟨z,K,none⟩→g≠z):=bK
 have bX:Hid (∀ j,j<cs.length→(cs.getD j []).length+(y.getD j []).length≤1000000):=bH
 clear bD bE bK bH
 rw[cr]
 go_enter func119,ntmps119
 go_wp2
 go_loopw [8] (fun i wr=>∃ (k:Nat) (E:List Value),k≤cs.length∧i=.int .i64 (k:Int)∧Jar wr B g E (Jdi cs y k)∧Hid ((∀ j,k≤j→Uq E j=Uq D j)∧∀ j b,j<cs.length→(Uq E j).ownBlock=some b→(Uq D j).ownBlock=some b∨w.heap.size≤b)∧Below B w wr∧Hid (w.heap.size≤wr.heap.size∧∀ x,x<w.heap.size→x≠g→(∀ j,j<cs.length→(Uq D j).ownBlock≠some x)→wr.heap[x]?=w.heap[x]?)) (fun i _=>cs.length-(intOf i).toNat)
 case atStart=>exact⟨0,D,Ob7 _,rfl,by rw[Kat];exact ch,⟨fun j _=>rfl,fun j b _ e=>.inl e⟩,Oa5 _ _,⟨Oa2 _,fun x _ _ _=>rfl⟩⟩
 case round=>
  obtain⟨k,E,cz,rfl,C,bf,bJ,A⟩:=hrel
  by_cases X:k<cs.length
  ·have U:k<(Jdi cs y k).length:=by rw[Jf9];exact X
   have bh:k<y.length:=by omega
   have cl:=bl.out.lt
   have bG:wr.heap[g2]?=w.heap[g2]?:=A.out.2 g2 cl (Oc5 bB.out.1) (fun j O e=>(bA.out j g2 O e).1 rfl)
   have bz:=(Oc3 (a:=⟨g2,k,none⟩) bG).trans (bl.out.cell k bh)
   obtain⟨br,ck,R⟩:∃ br ck,Yo hs k=(br,ck):=⟨_,_,rfl⟩
   have bQ:Jv wr br (y.getD k []):=by
    have:=bl.out.vals k bh
    rw[R]at this
    refine this.of_block A.out.1 fun b o H ci=>A.out.2 b ci ?_ ?_
    ·exact fun e=>bB.out.2 k b o bh (by rw[R];exact H) e.symm
    exact fun j O e=>(bA.out j b O e).2 k b o bh (by rw[R];exact H) rfl
   rw[R]at bz
   simp only at bz
   obtain⟨vs,bj⟩:∃ vs,y.getD k []=vs:=⟨_,rfl⟩
   rw[bj]at bz bQ
   have ca:Hid (y.getD k []=vs):=bj
   obtain⟨sv,Z⟩:∃ sv,Uq E k=sv:=⟨_,rfl⟩
   have bn:Hid (Uq E k=sv):=Z
   obtain⟨M,bi⟩:∃ M,(Jdi cs y k).getD k []=M:=⟨_,rfl⟩
   have bZ:Hid ((Jdi cs y k).getD k []=M):=bi
   have bY:Hid (M.length+vs.length≤1000000):=by
    show _≤_
    rw[←bi,←bj,Jlm cs y k k X,if_neg (Oe3 _)]
    exact bX.out k X
   have bW:=C.row.cell (i:=k) (by rw[C.len];exact U)
   rw[Z]at bW
   have cv:=C.row.frozen k
   have bu:=C.own k U
   rw[Z,bi]at bu
   have cb:Hid (∀ Y,wr.grownBy Y sv.ownBlock→Y.cell? ⟨g,k,none⟩=some sv∧Y.frozen? ⟨g,k,none⟩=false):=fun Y cj=>by
    have hn:=C.ne k U
    rw[Z]at hn
    have H:=cj.block g C.row.lt (fun e=>hn e.symm)
    exact⟨by rw[Oc3 H];exact bW,by rw[Ol7 H];exact cv⟩
   have bI:B≤wr.heap.size:=Ob2 cf A.out.1
   clear R bj Z bi bG
   go_wp2_with (first|(at_builtin;refine Jju (by rfl) _ _ (by rfl) B _ M (by rfl) bu _ _ vs (by rfl) bQ bY.out bI ?_;intro sv' bx bT bc bU;obtain⟨cB,cC⟩:=cb.out bx bc;obtain⟨bC,c5,bP,_⟩:=bT.vals;rw[Oa8]at bP;subst bP))
   go_roundw
   case rel=>
    have bN:(Uq D k).ownBlock=sv.ownBlock:=by rw[←bf.out.1 k (Oa2 _),bn.out]
    have bM:=C.put (vs:=vs) (sv':=.slice bC (M.length+vs.length) c5) U (by rw[bZ.out];exact bT) (by rw[bn.out];exact bc) (by rw[bn.out];exact bU)
    have bO:=Jy5 cs y k X
    rw[ca.out]at bO
    rw[bO]at bM
    have bL:k<E.length:=by rw[C.len];exact U
    refine⟨k+1,_,by omega,by go_num,bM,⟨fun j O=>?_,fun j b O e=>?_⟩,(bJ.grown bc bI (fun b H=>(Je bu H).1)).setCell (p:=⟨g,k,none⟩) C.low _,⟨?_,fun x cu bR bS=>?_⟩⟩
    ·rw[Jem bL,if_neg (by omega)]
     exact bf.out.1 j (by omega)
    ·rw[Jem bL]at e
     split at e
     ·rename_i cn
      subst cn
      rcases bU with q|q
      ·rw[q]at e;exact .inl (bN.trans e)
      rw[q]at e;simp only[Oc9]at e;exact .inr (by have:=A.out.1;omega)
     exact bf.out.2 j b O e
    ·have cx:=A.out.1
     have cy:=bc.size
     have:(bx.setCell ⟨g,k,none⟩ (.slice bC (M.length+vs.length) c5)).heap.size=bx.heap.size:=by simp[World.setCell]
     omega
    rw[Oa4 _ _ _ _ bR,bc.block x (by have:=A.out.1;omega) (fun e=>bS k X (by rw[bN];exact e.symm))]
    exact A.out.2 x cu bR bS
   case measure=>simp[intOf];omega
  obtain rfl:k=cs.length:=by omega
  go_wp2
  go_end0
  exact⟨rfl,⟨E,C,bf.out.2⟩,bJ,A.out.1,A.out.2⟩
end Go.Proofs.YtjjdldddcegjiaaGreatDoor
