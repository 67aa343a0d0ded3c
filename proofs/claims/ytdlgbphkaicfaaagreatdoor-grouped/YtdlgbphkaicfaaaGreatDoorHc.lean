/- Rows held column by column, as the program's package columns hands them about: what is cut out of them. -/
import Derived.Test.YtdlgbphkaicfaaaGreatDoorTl
import Derived.Test.YtdlgbphkaicfaaaGreatDoorKm
import Derived.Test.YtdlgbphkaicfaaaGreatDoorKq
set_option maxHeartbeats 2000000
set_option maxRecDepth 100000
namespace Go.Proofs.YtdlgbphkaicfaaaGreatDoor
open Go.RowKit Go.Shelf Tryz
attribute [local go_sem] Oc0
abbrev Yo (hs:List (Option Addr×Nat))(j:Nat):Option Addr×Nat:=hs.getD j (none,0)
structure Qd (w:World) (g:Nat) (hs:List (Option Addr×Nat)) (cs:List (List V)):Prop where
 row:w.rowIs g 54 cs.length (fun j=>.slice (Yo hs j).1 (cs.getD j []).length (Yo hs j).2)
 vals:∀ j,j<cs.length→Jv w (Yo hs j).1 (cs.getD j [])
 cap:∀ j,j<cs.length→(cs.getD j []).length≤(Yo hs j).2
theorem Qd.below {w w':World}{g:Nat}{hs:List (Option Addr×Nat)}{cs:List (List V)}(h:Qd w g hs cs)(y:Below w.heap.size w w'):Qd w' g hs cs:=
 ⟨h.row.of_block (y.block _ h.row.lt),fun j A=>(h.vals j A).below y,h.cap⟩
def Jbx (f t:Nat)(c:List V):List V:=(c.take t).drop f
theorem Jca {f t:Nat}{c:List V}(y:t≤c.length):(Jbx f t c).length=t-f:=by
 unfold Jbx
 rw[Of7,Oc7,Oj1 y]
abbrev Jkl (a:Option Addr)(f t:Nat):Option Addr:=if t=f then a else a.map (·.add (f*3))
theorem Jv.cut {w:World}{a:Option Addr}{c:List V}(h:Jv w a c){f t:Nat}(hf:f≤t)(A:t≤c.length):Jv w (Jkl a f t) (Jbx f t c):=by
 by_cases e:t=f
 ·subst e
  left
  exact Od3.1 (by rw[Jca A,Oe1])
 rcases h with h|⟨b,o,rfl,E,h⟩
 ·subst h;simp at A;omega
 unfold Jkl
 rw[if_neg e]
 right
 have D:(⟨b,o,none⟩:Addr).add (f*3)=⟨b,o+f*3,none⟩:=Op7 b o (f*3)
 refine⟨b,o+f*3,by simp[D],E,fun i v hi=>?_⟩
 unfold Jbx at hi
 rw[Oh9]at hi
 have H:f+i<t:=by
  rcases Oc1 (f+i) t with y|y
  ·exact y
  rw[List.getElem?_take_eq_none y]at hi;simp at hi
 rw[Oh3 H]at hi
 have:=h (f+i) v hi
 rw[Nat.add_mul,←On5]at this
 exact this
def Jnt (hs:List (Option Addr×Nat))(k f t:Nat):List (Option Addr×Nat):=(List.range k).map fun j=>(Jkl (Yo hs j).1 f t,t-f)
theorem Kdx (g cap:Nat)(hs:List (Option Addr×Nat))(cs:List (List V))(n f t:Nat)(w:World)(O:Qd w g hs cs)(hn:∀ j,j<cs.length→(cs.getD j []).length=n)(hf:f≤t)(bi:t≤n)(bj:cs.length≤1000) :
  Calls prog 112 #[.slice (some ⟨g,0,none⟩) cs.length cap,.int .i64 (f:Int),.int .i64 (t:Int)] w fun e w'=>Below w.heap.size w w'∧e=.returned (.slice (some ⟨w.heap.size,0,none⟩) cs.length cs.length)∧Qd w' w.heap.size (Jnt hs cs.length f t) (cs.map (Jbx f t)):=by
 have ba:=Jiz cs.length w bj
 have br:(f:Int)≤(t:Int):=by omega
 have bl:(0:Int)≤(f:Int):=by omega
 have bn:(0:Int)≤(t:Int):=by omega
 go_enter func112,ntmps112
 go_wp2_with (first|(go_at_call 78;refine ba.mono ?_;rintro e bk ⟨rfl,Z,bh⟩))
 have bb:=Z.row
 rw[Od6]at bb
 clear ba Z
 go_loopw [15] (fun i wr=>∃ k:Nat,k≤cs.length∧i=.int .i64 (k:Int)∧wr.rowIs w.heap.size 54 cs.length (fun j=>if j<k then .slice (Jkl (Yo hs j).1 f t) (t-f) (t-f)else .slice none 0 0)∧Below w.heap.size w wr) (fun i _=>cs.length-(intOf i).toNat)
 case atStart=>
  refine⟨0,Ob7 _,rfl,bb.congr fun j y=>?_,bh⟩
  rw[if_neg (Oe0 _)]
  unfold Uq
  rw[Oa0,Of3]
  split<;>rfl
 case round=>
  obtain⟨k,bu,rfl,K,H⟩:=hrel
  by_cases E:k<cs.length
  ·have X:=Ja H (O.row.cell E)
   rw[hn k E]at X
   have U:=O.cap k E
   rw[hn k E]at U
   have c1:=K.cell E
   have c2:=K.frozen k
   simp only[Oe3,if_false]at c1
   obtain⟨M,ck,R⟩:∃ M ck,Yo hs k=(M,ck):=⟨_,_,rfl⟩
   rw[R]at X U
   simp only at X U
   have bx:(t:Int)≤(ck:Int):=by omega
   have bc:Hid (Yo hs k=(M,ck)):=R
   clear R
   go_wp2
   go_roundw
   case rel=>
    refine⟨k+1,by omega,by go_num,(K.set k _).congr fun j y=>?_,H.setCell (p:=⟨w.heap.size,k,none⟩) (Oa2 _) _⟩
    have bf:=bc.out
    by_cases e:j=k
    ·subst e
     rw[if_pos (show j=j from rfl),if_pos (show j<j+1 from On2 _),bf]
    rw[if_neg e]
    by_cases h1:j<k
    ·rw[if_pos h1,if_pos (by omega)]
    rw[if_neg h1,if_neg (by omega)]
   case measure=>simp[intOf];omega
  obtain rfl:k=cs.length:=by omega
  go_wp2
  go_ret
  refine⟨H,rfl,⟨?_,fun j y=>?_,fun j y=>?_⟩⟩
  all_goals unfold Jnt
  ·rw[Oa6]
   refine K.congr fun j y=>?_
   rw[if_pos y]
   have A:Yo ((List.range cs.length).map fun j=>(Jkl (Yo hs j).1 f t,t-f)) j=(Jkl (Yo hs j).1 f t,t-f):=by simp[Yo,y]
   have D:((cs.map (Jbx f t)).getD j []).length=t-f:=by
    rw[Oa0,Ob1,Oa3 y]
    have:=hn j y
    rw[Oa0,Oa3 y]at this
    exact Jca (by simp at this;omega)
   rw[A,D]
  ·rw[Oa6]at y
   have A:Yo ((List.range cs.length).map fun j=>(Jkl (Yo hs j).1 f t,t-f)) j=(Jkl (Yo hs j).1 f t,t-f):=by simp[Yo,y]
   have D:(cs.map (Jbx f t)).getD j []=Jbx f t (cs.getD j []):=by
    rw[Oa0,Ob1,Oa3 y,Oa0,Oa3 y]
    rfl
   rw[A,D]
   exact((O.vals j y).below H).cut hf (by rw[hn j y];exact bi)
  rw[Oa6]at y
  have A:Yo ((List.range cs.length).map fun j=>(Jkl (Yo hs j).1 f t,t-f)) j=(Jkl (Yo hs j).1 f t,t-f):=by simp[Yo,y]
  have D:((cs.map (Jbx f t)).getD j []).length=t-f:=by
   rw[Oa0,Ob1,Oa3 y]
   have:=hn j y
   rw[Oa0,Oa3 y]at this
   exact Jca (by simp at this;omega)
  rw[A,D]
  exact Oa2 _
theorem Jqo (n:Nat)(hn:n≤100000)(W:World):∃ C,(Instr.makeSlice 54 (.int .i64 (n:Int)) (.int .i64 (n:Int))).run prog W=.ok (.slice (some ⟨W.heap.size,0,none⟩) n n) (W.alloc (.cells C 63))∧Kv (W.alloc (.cells C 63)) W.heap.size (List.replicate n Jf) []:=by
 obtain⟨i,hi,E,D,A⟩:=info_parts Jow
 have y:=run_make (P:=prog) W 54 63 i _ (by kernel_rfl) hi E .i64 .i64 (n:Int) (n:Int) (by omega) (Int.le_refl _) (by rw[A];omega) (by omega)
 rw[Int.toNat_natCast,D]at y
 exact⟨_,y,_,(Oh1 W _).1,by rw[Od7];exact Jt9 n⟩
def Yq (ns:List Int)(c:List V):List V:=ns.map fun m=>if m=-1 then Jf else c.getD m.toNat Jf
end Go.Proofs.YtdlgbphkaicfaaaGreatDoor
namespace Go.Proofs.YtdlgbphkaicfaaaGreatDoor
open Go.RowKit
attribute [local go_sem] Oc0
def Zp (n:Int):Int:=if -9223372036854775808≤n∧n≤9223372036854775807 then n else 0
def Yn (n:Int):Int:=if -9223372036854775808≤n∧n≤9223372036854775807 then 0 else 10
def Kbr (a b:Int):Int:=if b=0 then 0 else Zp (a.tdiv b)
def Jq4 (a b:Int):Int:=if b=0 then 9 else Yn (a.tdiv b)
end Go.Proofs.YtdlgbphkaicfaaaGreatDoor
namespace Go.Proofs.YtdlgbphkaicfaaaGreatDoor
open Go.RowKit Tryz
theorem Jqj (a O:Option Addr)(cap X:Nat)(xs y:List V)(w:World)(hn:xs.length≤maxLen)(bf:Jv w a xs)(bh:Jv w O y)(b:Bool)(U:b=true↔xs=y) :
  Calls prog 15 #[.slice a xs.length cap,.slice O y.length X] w fun e w'=>e=.returned (.bool b)∧Below w.heap.size w w':=by
 unfold maxLen at hn
 have H:Hid (b=true↔xs=y):=U
 clear U
 by_cases E:xs.length=y.length
 ·have M:Hid (xs.length=y.length):=E
  have Z:((xs.length:Int) != (y.length:Int))=false:=by simp[E]
  clear E
  go_enter func15,ntmps15
  go_wp2
  go_loopw [5] (fun i wr=>∃ k:Nat,k≤xs.length∧i=.int .i64 k∧(∃ m,wr=w.drewN m)∧Hid (∀ j (A:j<xs.length),j<k→xs[j]=y[j]'(M.out▸A))) (fun i _=>xs.length-(intOf i).toNat)
  case atStart=>exact⟨0,Ob7 _,rfl,⟨0,rfl⟩,fun j _ A=>absurd A (Oe0 _)⟩
  case round=>
   obtain⟨k,bj,rfl,⟨m,rfl⟩,R⟩:=hrel
   by_cases ba:k<xs.length
   ·have bb:k<y.length:=by have:=M.out;omega
    obtain⟨b1,bk,rfl,_,bn,br,bu⟩:=bf.at ba
    obtain⟨b2,bl,rfl,_,bx,bz,bA⟩:=bh.at bb
    by_cases D:xs[k]=y[k]
    ·have bc:=Jql _ _ D
     have K:Hid (xs[k]=y[k]):=D
     clear D
     go_wp2
     go_quiet (fail)
     go_wp2
     go_roundw
     case rel=>
      refine⟨k+1,by omega,by go_num,⟨_,rfl⟩,fun j A bi=>?_⟩
      by_cases e:j=k
      ·subst e;exact K.out
      exact R.out j A (by omega)
     case measure=>simp[intOf];omega
    have bc:=Jqe _ _ D
    have K:Hid (¬ xs[k]=y[k]):=D
    clear D
    go_wp2
    go_quiet (fail)
    go_wp2
    go_ret
    refine⟨Qr ?_,Jp (Jp (Oa5 _ _) _) _⟩
    cases b
    ·rfl
    exact absurd (by rw[List.getElem_of_eq (H.out.1 rfl)]) K.out
   go_wp2
   go_ret
   exact⟨Qr (H.out.2 (Ka6 xs y M.out fun j A=>R.out j A (by omega))).symm,Jp (Oa5 _ _) _⟩
 have Z:((xs.length:Int) != (y.length:Int))=true:=by simp;omega
 go_enter func15,ntmps15
 go_wp2
 go_ret
 refine⟨Qr ?_,Oa5 _ _⟩
 cases b
 ·rfl
 exact absurd (congrArg List.length (H.out.1 rfl)) E
theorem Jpb (n:Int):Jg (wrap64 n):=by
 unfold Jg wrap64
 omega
def tOk (t:Int):Prop:=t=1∨t=2∨t=3
theorem Jvl (a:Option Addr)(cap:Nat)(ns:List Int)(w:World)(hn:ns.length≤maxLen)(bz:Kc w a ns) :
  Calls prog 18 #[.slice a ns.length cap,.int .i64 6] w fun e w'=>∃ (y:List Int) (sv:Value),e=.returned sv∧Jo w' w.heap.size 3 sv (y.map iv)∧(1≤y.length∧y.length≤6)∧(∀ t∈y,tOk t)∧Below w.heap.size w w':=by
 unfold maxLen at hn
 go_enter func18,ntmps18
 go_wp2
 go_loopw [5,6] (fun sv i wr=>∃ (k:Nat) (y:List Int),k≤ns.length∧k≤6∧i=.int .i64 k∧Hid (y.length=k)∧Hid (∀ t∈y,tOk t)∧Jo wr w.heap.size 3 sv (y.map iv)∧Below w.heap.size w wr) (fun _ i _=>6-(intOf i).toNat)
 case atStart=>exact⟨0,[],Ob7 _,Ob7 _,rfl,rfl,by intro t E;simp at E,Jo.nil _ _ _,Oa5 _ _⟩
 case round=>
  rename_i sv i
  obtain⟨k,y,bE,bG,rfl,R,O,A,D⟩:=hrel
  obtain⟨bB,c1,K,_⟩:=A.cells
  rw[Oa6]at K
  have bD:=D.size
  have bJ:y.length≤6:=by have:=R.out;omega
  by_cases Z:k<ns.length∧k<6
  ·obtain⟨h1,h2⟩:=Z
   obtain⟨b1,bL,rfl,bC,bM⟩:=Kc.at (bz.below D) h1
   have bf:=fun W=>Jfw (wrap64 (ns[k]-1)) 3 W (Jpb _) (by decide) (by decide)
   have bh:Hid (∀ W,Calls prog 8 #[.int .i64 (wrap64 (ns[k]-1)),.int .i64 ((3:Nat):Int)] W fun e w'=>(∃ r:Nat,e=.returned (.int .i64 r)∧r<3)∧w'=W):=bf
   clear bf
   subst K
   go_wp2_with (first|(go_at_call 8;go_must (refine(bh.out _).mono ?_);rintro e w1 ⟨⟨r,rfl,bI⟩,bK⟩;subst w1)|(at_builtin;go_must (refine Ks (by rfl) _ _ 22 3 _ 8 Zw (by rfl) (by decide) (by kernel_rfl) (by rfl) w.heap.size _ _ (by rfl) (Jo.alloc A _) ⟨wr.heap.size,0,none⟩ 1 [iv (1+(r:Int))] (by rfl) (by exact Ua wr _ _) (by intro u M;simp at M;subst M;rfl) (by simp only[List.length_cons,List.length_nil,Oa6];omega) (by simp;omega) ?_);intro sv' bA H U bk;obtain⟨bi,bj,ba,_⟩:=H.cells;subst ba))
   go_roundw
   case rel=>
    refine⟨k+1,y++[1+(r:Int)],by omega,by omega,by go_num,by show _=_;rw[Oa8,R.out];rfl,?_,by simpa using H,Jy (Jc D _) U (fun g X=>(Je A X).1)⟩
    intro t E
    rcases Od2.1 E with h|h
    ·exact O.out t h
    simp at h;subst h;unfold tOk;omega
   case measure=>simp[intOf];omega
  by_cases h0:y.length=0
  ·have bx:y=[]:=Od3.1 h0
   subst bx
   have bu:=K
   subst bu
   have bn:k=0:=by have:=R.out;simp at this;omega
   subst bn
   by_cases bb:0<ns.length
   ·exact absurd ⟨bb,by omega⟩ Z
   have bc:ns.length=0:=by omega
   have br:=Od3.1 bc
   subst br
   clear Z bb bc h0
   simp at A
   go_wp2_with (first|(at_builtin;go_must (refine Ks (by rfl) _ _ 22 3 _ 8 Zw (by rfl) (by decide) (by kernel_rfl) (by rfl) w.heap.size _ [] (by rfl) (Jo.alloc (by exact A) _) ⟨wr.heap.size,0,none⟩ 1 [iv 1] (by rfl) (by exact Ua wr _ _) (by intro u M;simp at M;subst M;rfl) (by simp) (by simp;omega) ?_);intro sv' bA H U bk;obtain⟨bi,bj,ba,_⟩:=H.cells;subst ba))
   go_ret
   exact⟨[1],_,rfl,by simpa using H,by simp,by intro t E;simp at E;subst E;exact .inl rfl,Jy (Jc D _) U (fun g X=>(Je A X).1)⟩
  have bH:(((y.length:Nat):Int)==0)=false:=by rw[beq_eq_false_iff_ne];omega
  by_cases h1:k<ns.length
  ·have bl:k=6:=by omega
   subst bl
   subst K
   go_wp2
   go_ret
   exact⟨y,_,rfl,A,by omega,O.out,D⟩
  subst K
  go_wp2
  go_ret
  exact⟨y,_,rfl,A,by omega,O.out,D⟩
theorem Jpy (t h:Int)(A:tOk t)(h0:0≤h)(y:h≤3)(hn:¬ (t=3∧h=3)):way t h=true:=by
 unfold way tOk at *
 rw[decide_eq_true_eq]
 omega
structure Jfz (ts ns L:List Int) (k:Nat):Prop where
 len:L.length=k
 ok:∀ j (hj:j<L.length),way (ts.getD j 0) L[j]=true
 plain:∀ j (hj:j<L.length),ns.length≤j→L[j]=0
theorem Jfz.more {A ns L:List Int}{k:Nat}(h:Jfz A ns L k)(v:Int)(H:way (A.getD k 0) v=true)(E:ns.length≤k→v=0):Jfz A ns (L++[v]) (k+1):=by
 have D:=h.len
 refine⟨by simp[D],fun j y=>?_,fun j y hn=>?_⟩
 ·by_cases e:j<L.length
  ·rw[Oi2 e];exact h.ok j e
  have:j=L.length:=by simp at y;omega
  subst this
  rw[Ok8 (Oa2 _)]
  simpa [D] using H
 by_cases e:j<L.length
 ·rw[Oi2 e];exact h.plain j e hn
 have:j=L.length:=by simp at y;omega
 subst this
 rw[Ok8 (Oa2 _)]
 simpa using E (by omega)
theorem Jzt (bk bl:Value)(U a:Option Addr)(ct cap:Nat)(y ns:List Int)(w:World)(bR:y.length≤6)(bz:∀ t∈y,tOk t)(bu:∀ n∈ns,Jg n)(bH:Kc w U y)(bI:Kc w a ns) :
  Calls prog 22 #[.agg #[bk,.slice U y.length ct,bl],.slice a ns.length cap] w fun e w'=>∃ (hs:List Int) (sv:Value),e=.returned sv∧Jo w' w.heap.size 3 sv (hs.map iv)∧Jfz y ns hs y.length∧Below w.heap.size w w':=by
 have bB:Hid (∀ t∈y,tOk t):=bz
 have bA:Hid (∀ n∈ns,Jg n):=bu
 clear bz bu
 have bD:Below w.heap.size w (w.alloc (.cells #[bk,.slice U y.length ct,bl] 25)):=(Oa5 _ _).alloc (Oa2 _) _
 go_enter func22,ntmps22
 go_wp2
 go_loopw [5,6] (fun sv i wr=>∃ (c:Nat) (L:List Int),c≤y.length∧i=.int .i64 c∧Hid (Jfz y ns L c)∧Jo wr (w.heap.size+1) 3 sv (L.map iv)∧Below (w.heap.size+1) (w.alloc (.cells #[bk,.slice U y.length ct,bl] 25)) wr) (fun _ i _=>y.length-(intOf i).toNat)
 case atStart=>exact⟨0,[],Ob7 _,rfl,⟨rfl,by simp,by simp⟩,Jo.nil _ _ _,Oa5 _ _⟩
 case round=>
  rename_i sv i
  obtain⟨c,L,bP,rfl,R,E,K⟩:=hrel
  obtain⟨bK,c1,bi,_⟩:=E.cells
  rw[Oa6]at bi
  have bE:=K.size
  simp at bE
  have bM:L.length≤6:=by have:=R.out.len;omega
  have bf:Below w.heap.size w wr:=bD.trans (K.mono (Nat.le_succ _))
  have bL:wr.cell? ⟨w.heap.size,1,none⟩=some (.slice U y.length ct):=by rw[K.cell (p:=⟨w.heap.size,1,none⟩) (by simp)];simp
  by_cases bh:c<y.length
  ·obtain⟨b1,bT,rfl,bN,bJ⟩:=Kc.at (bH.below bf) bh
   have Z:Hid (y.getD c 0=y[c]):=by show _=_;simp[bh]
   have X:=bB.out _ (Ob3 bh)
   unfold tOk at X
   subst bi
   by_cases br:c<ns.length
   ·obtain⟨b2,bU,rfl,bO,bV⟩:=Kc.at (bI.below bf) br
    have bG:=Jfw ns[c] 4 wr (bA.out _ (Ob3 br)) (by decide) (by decide)
    go_wp2_with fail
    refine bG.mono ?_
    rintro e w1 ⟨⟨r,rfl,bQ⟩,bS⟩
    subst w1
    by_cases bC:r=3
    ·subst bC
     by_cases bj:y[c]=3
     ·have bx:(y[c]==3)=true:=by rw[beq_iff_eq];exact bj
      rw[bj]at bJ
      go_wp2_with (at_builtin;go_must (refine Ks (by rfl) _ _ 22 3 _ 8 Zw (by rfl) (by decide) (by kernel_rfl) (by rfl) (w.heap.size+1) _ _ (by rfl) (Jo.alloc E _) ⟨wr.heap.size,0,none⟩ 1 [iv 2] (by rfl) (by exact Ua wr _ _) (by intro u D;simp at D;subst D;rfl) (by simp only[List.length_cons,List.length_nil,Oa6];omega) (by simp;omega) ?_);intro sv' bn A H bc;obtain⟨ba,bb,O,_⟩:=A.cells;subst O)
      go_roundw
      case rel=>exact⟨c+1,L++[2],by omega,by go_num,R.out.more 2 (by rw[Z.out];exact Jpy _ _ X (by omega) (by omega) (by omega)) (fun h=>by omega),by simpa using A,(K.alloc (by omega) _).grown H (by simp;omega) (fun g M=>(Je E M).1)⟩
      case measure=>simp[intOf];omega
     have bx:(y[c]==3)=false:=by rw[beq_eq_false_iff_ne];exact bj
     go_wp2_with (at_builtin;go_must (refine Ks (by rfl) _ _ 22 3 _ 8 Zw (by rfl) (by decide) (by kernel_rfl) (by rfl) (w.heap.size+1) _ _ (by rfl) (Jo.alloc E _) ⟨wr.heap.size,0,none⟩ 1 [iv 3] (by rfl) (by exact Ua wr _ _) (by intro u D;simp at D;subst D;rfl) (by simp only[List.length_cons,List.length_nil,Oa6];omega) (by simp;omega) ?_);intro sv' bn A H bc;obtain⟨ba,bb,O,_⟩:=A.cells;subst O)
     go_roundw
     case rel=>exact⟨c+1,L++[3],by omega,by go_num,R.out.more 3 (by rw[Z.out];exact Jpy _ _ X (by omega) (by omega) (by omega)) (fun h=>by omega),by simpa using A,(K.alloc (by omega) _).grown H (by simp;omega) (fun g M=>(Je E M).1)⟩
     case measure=>simp[intOf];omega
    have bx:((r:Int)==3)=false:=by rw[beq_eq_false_iff_ne];omega
    go_wp2_with (at_builtin;go_must (refine Ks (by rfl) _ _ 22 3 _ 8 Zw (by rfl) (by decide) (by kernel_rfl) (by rfl) (w.heap.size+1) _ _ (by rfl) (Jo.alloc E _) ⟨wr.heap.size,0,none⟩ 1 [iv (r:Int)] (by rfl) (by exact Ua wr _ _) (by intro u D;simp at D;subst D;rfl) (by simp only[List.length_cons,List.length_nil,Oa6];omega) (by simp;omega) ?_);intro sv' bn A H bc;obtain⟨ba,bb,O,_⟩:=A.cells;subst O)
    go_roundw
    case rel=>exact⟨c+1,L++[(r:Int)],by omega,by go_num,R.out.more (r:Int) (by rw[Z.out];exact Jpy _ _ X (by omega) (by omega) (by omega)) (fun h=>by omega),by simpa using A,(K.alloc (by omega) _).grown H (by simp;omega) (fun g M=>(Je E M).1)⟩
    case measure=>simp[intOf];omega
   go_wp2_with (at_builtin;go_must (refine Ks (by rfl) _ _ 22 3 _ 8 Zw (by rfl) (by decide) (by kernel_rfl) (by rfl) (w.heap.size+1) _ _ (by rfl) (Jo.alloc E _) ⟨wr.heap.size,0,none⟩ 1 [iv 0] (by rfl) (by exact Ua wr _ _) (by intro u D;simp at D;subst D;rfl) (by simp only[List.length_cons,List.length_nil,Oa6];omega) (by simp;omega) ?_);intro sv' bn A H bc;obtain⟨ba,bb,O,_⟩:=A.cells;subst O)
   go_roundw
   case rel=>exact⟨c+1,L++[0],by omega,by go_num,R.out.more 0 (by rw[Z.out];exact Jpy _ _ X (by omega) (by omega) (by omega)) (fun _=>rfl),by simpa using A,(K.alloc (by omega) _).grown H (by simp;omega) (fun g M=>(Je E M).1)⟩
   case measure=>simp[intOf];omega
  obtain rfl:c=y.length:=by omega
  subst bi
  go_wp2
  go_ret
  exact⟨L,_,rfl,Jgl E (Nat.le_succ _),R.out,bf⟩
def Kgs (y:List Int)(r:List V):Prop:=r.length=y.length∧∀ j (A:j<r.length),okB (y.getD j 0) r[j].k r[j].n r[j].s=true∧Jg r[j].n
theorem Kgd (t:Int):okB t Jf.k Jf.n Jf.s=true:=by simp[okB,Jf]
theorem Kf0:Jg Jf.n:=by simp[Jg,Jf]
structure Jkr (w:World) (tb:Nat) (name:ByteArray) (tsv rv:Value) (bs:List Nat) (rs:List (List V)):Prop where
 cells:w.heap[tb]?=some (.cells #[.string name,tsv,rv] 25 (0,0))
 own:Jo w (tb+1) 55 rv (List.zipWith Jad bs rs)
 len:bs.length=rs.length
 rows:∀ (i:Nat) b r,bs[i]?=some b→rs[i]?=some r→Kv w b r []
 new:∀ b∈bs,tb<b∧rv.ownBlock≠some b
theorem Jkr.lt {w:World}{y:Nat}{name:ByteArray}{D A:Value}{bs:List Nat}{rs:List (List V)}(h:Jkr w y name D A bs rs):y<w.heap.size:=Jd h.cells
theorem Jkr.below {w w':World}{E:Nat}{name:ByteArray}{H D:Value}{bs:List Nat}{rs:List (List V)}(h:Jkr w E name H D bs rs)(y:Below w.heap.size w w'):Jkr w' E name H D bs rs:=
 ⟨(y.block _ h.lt).trans h.cells,h.own.below y,h.len,fun i b r hi A=>(h.rows i b r hi A).of_block (y.block _ (h.rows i b r hi A).lt),h.new⟩
theorem Jpz (bs:List Nat)(rs:List (List V))(h:bs.length=rs.length)(b:Nat)(r:List V):List.zipWith Jad (bs++[b]) (rs++[r])=List.zipWith Jad bs rs++[Jad b r]:=by
 rw[List.zipWith_append h];rfl
theorem Jkr.more {w w4:World}{A:Nat}{name:ByteArray}{X y rv':Value}{bs:List Nat}{rs:List (List V)}(h:Jkr w A name X y bs rs)(E:Nat)(r:List V)(R:Kv w E r [])(bl:A<E)(ba:y.ownBlock≠some E)(o:Obj)
  (bc:Jo w4 (A+1) 55 rv' (List.zipWith Jad bs rs++[Jad E r])) (bh:(w.alloc o).grownBy w4 y.ownBlock) (bf:rv'.ownBlock=y.ownBlock∨rv'.ownBlock=some (w.alloc o).heap.size) :
  Jkr (w4.setCell ⟨A,2,none⟩ rv') A name X rv' (bs++[E]) (rs++[r]):=by
 have U:∀ k,k<w.heap.size→y.ownBlock≠some k→w4.heap[k]?=w.heap[k]?:=fun k bj hn=>(bh.block k (by simp;omega) (Oc5 hn)).trans (Oa9 w o k bj)
 have bn:w4.heap[A]?=some (.cells #[.string name,X,y] 25 (0,0)):=(U A h.lt fun e=>by have:=(Je h.own e).1;omega).trans h.cells
 have bb:∀ b,b<w.heap.size→y.ownBlock≠some b→rv'.ownBlock≠some b:=fun b Z hn e=>by
  rcases bf with M|M
  ·exact hn (M▸e)
  rw[M]at e;simp at e;omega
 refine⟨by have:=Jk bn 2 rv';simpa using this,?_,by simp[h.len],?_,?_⟩
 ·rw[Jpz bs rs h.len]
  exact Yd bc fun g bi=>Oa4 _ _ _ _ (by have:=(Je bc bi).1;simp;omega)
 ·intro i b q hi H
  rcases Kec hi with⟨O,hi⟩|⟨O,rfl⟩
  ·rw[Ob0 (by rw[←h.len];exact O)]at H
   have K:=h.rows i b q hi H
   have bk:=h.new b (Of6 hi)
   exact(K.of_block (U b K.lt bk.2)).of_block (Oa4 _ _ _ _ (by simp;omega))
  rw[O,h.len,Ob6 (Oa2 _)]at H
  simp at H
  subst H
  exact(R.of_block (U E R.lt ba)).of_block (Oa4 _ _ _ _ (by simp;omega))
 intro b Z
 rcases Od2.1 Z with D|D
 ·obtain⟨i,hi,e⟩:=Od5 D
  have K:=h.rows i b (rs[i]'(by rw[←h.len];exact hi)) (by rw[←e];simp[hi]) (by simp[show i<rs.length by rw[←h.len];exact hi])
  exact⟨(h.new b D).1,bb b K.lt (h.new b D).2⟩
 simp at D
 subst D
 exact⟨bl,bb b R.lt ba⟩
theorem Jya (bs:List Nat):∀ rs:List (List V),List.zipWith Je1 (List.zipWith (fun b (r:List V)=>((some ⟨b,0,none⟩:Option Addr),r.length)) bs rs) rs=List.zipWith Jad bs rs:=by
 induction bs with
 |nil=>intro rs;simp
 |cons b bs y=>
  intro rs
  cases rs with
  |nil=>simp
  |cons r rs=>simp[Je1,Jad,y rs]
theorem Jyi (bs:List Nat)(rs:List (List V))(h:bs.length=rs.length){i:Nat}{x:Option Addr×Nat}(y:(List.zipWith (fun b (r:List V)=>((some ⟨b,0,none⟩:Option Addr),r.length)) bs rs)[i]?=some x):∃ b,bs[i]?=some b∧x.1=some ⟨b,0,none⟩:=by
 have hi:i<bs.length:=by
  rcases Oc1 i bs.length with A|A
  ·exact A
  rw[Ob4 (by simp;omega)]at y;simp at y
 have D:i<rs.length:=by omega
 rw[Ok5,Oa3 hi,Oa3 D]at y
 simp at y
 exact⟨bs[i],by simp[hi],by rw[←y]⟩
theorem Jkr.out {w w':World}{A:Nat}{name:ByteArray}{X:Value}{a:Option Addr}{n c q:Nat}{bs:List Nat}{rs:List (List V)}(h:Jkr w A name X (.slice a n c) bs rs)(hs:w.heap.size≤w'.heap.size)(ba:q≤A)(E:∀ k,k≠q→w'.heap[k]?=w.heap[k]?) :
  Zd w' a (List.zipWith (fun b (r:List V)=>((some ⟨b,0,none⟩:Option Addr),r.length)) bs rs) rs∧rs.length≤c∧(∀ b o,a=some ⟨b,o,none⟩→A<b)∧∀ b∈bs,A<b:=by
 have D:∀ b o,a=some ⟨b,o,none⟩→A<b:=fun b o y=>by have:=(Je h.own ((Jji h.own).2 b o y)).1;omega
 refine⟨⟨by simp[h.len],?_,fun i x r R O=>?_⟩,?_,D,fun b y=>(h.new b y).1⟩
 ·rw[Jya]
  exact(Jji h.own).1.of_block hs fun b o y _=>E b (by have:=D b o y;omega)
 ·obtain⟨b,y,U⟩:=Jyi bs rs h.len R
  rw[U]
  exact((h.rows i b r y O).of_block (E b (by have:=(h.new b (Of6 y)).1;omega))).vals
 have H:(List.zipWith Jad bs rs).length=rs.length:=by simp[h.len]
 rcases h.own.2 with⟨K,h0⟩|⟨g,cap,Z,K,_,_,M,_⟩
 ·rw[H]at h0;omega
 simp at K
 rw[H]at M
 omega
structure Jug (w w':World) (name:ByteArray) (ts:List Int) (rs:List (List V)) (v:Value):Prop where
 val:∃ ta tc ra rc bs,v=.agg #[.string name,.slice ta ts.length tc,.slice ra rs.length rc]∧Kc w' ta ts∧Zd w' ra (List.zipWith (fun b (r:List V)=>((some ⟨b,0,none⟩:Option Addr),r.length)) bs rs) rs∧rs.length≤rc∧(∀ b o,ta=some ⟨b,o,none⟩→w.heap.size≤b)∧(∀ b o,ra=some ⟨b,o,none⟩→w.heap.size≤b)∧∀ b∈bs,w.heap.size≤b
 types:(1≤ts.length∧ts.length≤6)∧∀ t∈ts,tOk t
 rows:∀ r∈rs,Kgs ts r
theorem Jt8 (bW name:ByteArray)(bu bk:Option Addr)(ct bl bj:Nat)(ns:List Int)(xs:List (Option Addr×Nat))(E:List (List V))(w:World)(dY:bj≤200)(hn:ns.length≤maxLen)(cr:∀ r∈E,r.length≤maxLen)(ci:∀ r∈E,∀ v∈r,Jg v.k∧Jg v.n)(dy:Kc w bu ns)(dz:Zd w bk xs E) :
  Calls prog 5 #[.agg #[.string bW,.slice bu ns.length ct,.slice bk E.length bl],.string name,.int .i64 (bj:Int)] w fun e w'=>∃ y rs v,e=.returned v∧Jug w w' name y rs v∧rs.length≤bj∧Below w.heap.size w w':=by
 have cb:Below w.heap.size w ((w.alloc (.cells #[.string bW,.slice bu ns.length ct,.slice bk E.length bl] 25)).alloc (.cells #[.string ⟨#[]⟩,.slice none 0 0,.slice none 0 0] 25)):=((Oa5 _ _).alloc (Oa2 _) _).alloc (by simp) _
 have cB:=Jvl bu ct ns _ hn (dy.below cb)
 unfold maxLen at hn
 have dP:Hid (∀ r∈E,r.length≤maxLen):=cr
 have cG:Hid (∀ r∈E,∀ v∈r,Jg v.k∧Jg v.n):=ci
 clear cr ci
 go_enter func5,ntmps5
 go_wp2_with (go_at_call 18;refine cB.mono ?_;rintro e w1 ⟨y,fl,rfl,bT,dt,cz,bE⟩;obtain⟨H,K,cA,cx⟩:=bT.cells;rw[Oa6]at cA;subst cA)
 have dx:=bE.size
 simp at dx
 have cc:Below w.heap.size w w1:=cb.trans (bE.mono (by simp;omega))
 have cF:∀ (M:World),Below w1.heap.size w1 M→M.cell? ⟨w.heap.size,2,none⟩=some (.slice bk E.length bl):=fun M cX=>by
  rw[cX.cell (p:=⟨w.heap.size,2,none⟩) (by simp;omega),bE.cell (p:=⟨w.heap.size,2,none⟩) (by simp;omega)]
  simp
 have bY:Hid (∀ (M:World),Below w1.heap.size w1 M→M.cell? ⟨w.heap.size,2,none⟩=some (.slice bk E.length bl)):=cF
 have cy:∀ b o,H=some ⟨b,o,none⟩→w.heap.size+2≤b∧b<w1.heap.size:=fun b o R=>by
  have:=Je bT ((Jji bT).2 b o R)
  simp at this
  omega
 have bK:Hid (∀ b o,H=some ⟨b,o,none⟩→w.heap.size+2≤b∧b<w1.heap.size):=cy
 have ca:Hid (∀ t∈y,tOk t):=cz
 clear cF cy cz cB
 have dp:Jkr (w1.alloc (.cells #[.string name,.slice H y.length K,.slice none 0 0] 25)) w1.heap.size name (.slice H y.length K) (.slice none 0 0) [] []:=
  ⟨heap_alloc_new _ _,Jo.nil _ _ _,rfl,fun i b r hi=>by simp at hi,fun b R=>by simp at R⟩
 go_loopw [8] (fun i wr=>∃ (k:Nat) (bX:Value) (bs:List Nat) (rs:List (List V)),k≤E.length∧k≤bj∧i=.int .i64 k∧rs.length≤k∧Hid (∀ r∈rs,Kgs y r)∧Jkr wr w1.heap.size name (.slice H y.length K) bX bs rs∧Below w1.heap.size w1 wr) (fun i _=>bj-(intOf i).toNat)
 case atStart=>exact⟨0,_,[],[],Ob7 _,Ob7 _,rfl,Oa2 _,by intro r bR;simp at bR,dp,(Oa5 _ _).alloc (Oa2 _) _⟩
 case round=>
  rename_i i
  obtain⟨k,bX,bs,rs,bG,fg,rfl,fh,bZ,O,bb⟩:=hrel
  obtain⟨A,bB⟩:∃ A,A=wr:=⟨_,rfl⟩
  subst bB
  have c2:=bY.out A bb
  have cO:A.cell? ⟨w1.heap.size,1,none⟩=some (.slice H y.length K):=by simp[World.cell?,O.cells]
  have dT:A.cell? ⟨w1.heap.size,2,none⟩=some bX:=by simp[World.cell?,O.cells]
  have cZ:=cc.trans (bb.mono (by omega))
  obtain⟨U,X,cu,_⟩:=O.own.cells
  have bU:(List.zipWith Jad bs rs).length=rs.length:=by simp[O.len]
  rw[bU]at cu
  have cM:Hid ((List.zipWith Jad bs rs).length=rs.length):=bU
  clear bU
  subst cu
  by_cases cl:k<E.length∧k<bj
  ·obtain⟨h1,h2⟩:=cl
   obtain⟨C,dh,di⟩:=Jtn y.length (by omega) A
   go_wp2
   clear dh
   go_loopw [10] (fun i wr=>∃ (c:Nat) (L:List V),c≤y.length∧i=.int .i64 c∧Hid (L.length=c∧∀ j (bn:j<L.length),okB (y.getD j 0) L[j].k L[j].n L[j].s=true∧Jg L[j].n)∧Kv wr A.heap.size (L++List.replicate (y.length-c) Jf) []∧Below A.heap.size A wr) (fun i _=>y.length-(intOf i).toNat)
   case atStart=>exact⟨0,[],Ob7 _,rfl,⟨rfl,fun j bn=>by simp at bn⟩,by simpa using di,(Oa5 _ _).alloc (Oa2 _) _⟩
   case round=>
    rename_i fi
    obtain⟨c,L,fe,rfl,bc,bA,bi⟩:=hrel
    have bP:=bb.trans (bi.mono bb.size)
    have bD:=cc.trans (bP.mono (by omega))
    have cP:=bY.out wr bP
    have cQ:wr.cell? ⟨w1.heap.size,1,none⟩=some (.slice H y.length K):=by rw[bi.cell (p:=⟨w1.heap.size,1,none⟩) O.lt];exact cO
    obtain⟨b1,bI,fk,dD,cY,dZ,dH,dw⟩:=dz.at h1
    subst cY
    have dG:=Ja bD dH
    by_cases bz:c<y.length
    ·obtain⟨bt,bV,dr,fc,dI⟩:=Kc.at (cx.below bP) bz
     subst dr
     by_cases ch:c<E[k].length
     ·obtain⟨b2,br,dk,fb,dK,dM,dO⟩:=dw.at ch
      subst dk
      have dJ:=Ja bD dK
      have dL:=Ja bD dM
      have dN:=Ja bD dO
      have fd:=bK.out bt bV rfl
      have bB:=bb.size
      have cW:=O.lt
      have cC:=bi.size
      have cD:=cG.out _ (Ob3 h1) _ (Ob3 ch)
      have cH:Hid (∀ W,Calls prog 19 #[E[k][c].val,.int .i64 y[c]] W fun e w'=>(∃ u:V,e=.returned u.val∧okB y[c] u.k u.n u.s=true∧Jg u.n)∧Below W.heap.size W w'):=fun W=>Jk8 E[k][c] y[c] W (ca.out _ (Ob3 bz)) cD.1 cD.2
      have cj:(L++List.replicate (y.length-c) Jf).length=y.length:=by rw[Oa8,bc.out.1,Od6];omega
      have cI:Hid ((L++List.replicate (y.length-c) Jf).length=y.length):=cj
      clear cj
      go_wp2
      refine wp_region_held_drew (S:=fun M=>M.cell? ⟨w.heap.size,2,none⟩=some (.slice (some ⟨b1,bI,none⟩) E.length bl)∧M.cell? ⟨b1,bI+k,none⟩=some (.slice (some ⟨b2,br,none⟩) E[k].length dD)∧M.cell? ⟨b2,br+c*3,none⟩=some (.int .i64 E[k][c].k)∧M.cell? ⟨b2,br+c*3+1,none⟩=some (.int .i64 E[k][c].n)∧M.cell? ⟨b2,br+c*3+2,none⟩=some (.string E[k][c].s)∧M.cell? ⟨w1.heap.size,1,none⟩=some (.slice (some ⟨bt,bV,none⟩) y.length K)∧M.cell? ⟨bt,bV+c,none⟩=some (.int .i64 y[c])) (by kernel_rfl) ⟨cP,dG,dJ,dL,dN,cQ,dI⟩ (fun D=>?_)
      refine tk 0 ?_ rfl D ?_ (tk 1 ?_ rfl D ?_ (tk 2 ?_ rfl D ?_ (tk 3 ?_ rfl D ?_ (tk 4 ?_ rfl D ?_ (tk 5 ?_ rfl D ?_ (tk 6 ?_ rfl D ?_ (tk 7 ?_ rfl D ?_ (tk 8 ?_ rfl D ?_ (tk 9 ?_ rfl D ?_ (tk 10 ?_ rfl D ?_ (tk 11 ?_ rfl D ?_ (tk 12 ?_ rfl D ?_ (tk 13 ?_ rfl D ?_ (tk 14 ?_ rfl D ?_ ?_))))))))))))))
      iterate 15
       rotate_left 1
       ·intro w bN;(try dsimp only at bN);go_simp;try rfl
      simp only[Act.put,List.getElem_toArray,List.getElem_cons_zero,List.getElem_cons_succ,Oa1,List.set_cons_zero,List.set_cons_succ]
      refine wpAnyH_ready (rs:=[15]) (by kernel_rfl) (by simp) (AllReadyH.cons rfl (fun bL bx=>?_) AllReadyH.nil)
      go_simp
      refine(cH.out _).mono ?_
      rintro e ba ⟨⟨u,rfl,bH,du⟩,bO⟩
      go_simp
      obtain⟨kk,_⟩:=Kx bO
      refine bx.out _ _ ⟨(kk _ _ (by show w.heap.size<wr.heap.size;omega)).trans D.1,(kk _ _ (by show b1<wr.heap.size;omega)).trans D.2.1,(kk _ _ (by show b2<wr.heap.size;omega)).trans D.2.2.1,(kk _ _ (by show b2<wr.heap.size;omega)).trans D.2.2.2.1,(kk _ _ (by show b2<wr.heap.size;omega)).trans D.2.2.2.2.1,(kk _ _ (by show w1.heap.size<wr.heap.size;omega)).trans D.2.2.2.2.2.1,(kk _ _ (by show bt<wr.heap.size;omega)).trans D.2.2.2.2.2.2⟩ (fun bf=>?_)
      clear bx bL kk D
      refine tk 16 ?_ rfl bf ?_ ?_
      rotate_left 1
      ·intro w bN;(try dsimp only at bN);go_simp;try rfl
      simp only[Act.put,List.getElem_toArray,List.getElem_cons_zero,List.getElem_cons_succ,Oa1,List.set_cons_zero,List.set_cons_succ]
      have dm:Kv ba A.heap.size (L++List.replicate (y.length-c) Jf) []:=bA.of_block ((Jw bO).block _ bA.lt)
      obtain⟨fj,⟨c0,cS⟩,⟨c1,cT⟩,⟨cN,bM⟩,bS⟩:=dm.put u c (by rw[cI.out];exact bz)
      rw[Jna L c y.length u bc.out.1 bz]at bS
      have cJ:Hid (Kv (((ba.setCell ⟨A.heap.size,c*3,none⟩ (.int .i64 u.k)).setCell ⟨A.heap.size,c*3+1,none⟩ (.int .i64 u.n)).setCell ⟨A.heap.size,c*3+2,none⟩ (.string u.s)) A.heap.size (L++[u]++List.replicate (y.length-(c+1)) Jf) []):=bS
      clear bS
      refine wpAnyH_ready (rs:=[17]) (by kernel_rfl) (by simp) (AllReadyH.cons rfl (fun bL bx=>?_) AllReadyH.nil)
      go_simp
      have Z:∀ (b o:Nat) (v:Value),b≠A.heap.size→ba.cell? ⟨b,o,none⟩=some v→(((ba.setCell ⟨A.heap.size,c*3,none⟩ (.int .i64 u.k)).setCell ⟨A.heap.size,c*3+1,none⟩ (.int .i64 u.n)).setCell ⟨A.heap.size,c*3+2,none⟩ (.string u.s)).cell? ⟨b,o,none⟩=some v:=fun b o v R dv=>by
       rw[Ob5 _ _ _ _ (by first|(simp;done)|(simp;omega)),Ob5 _ _ _ _ (by first|(simp;done)|(simp;omega)),Ob5 _ _ _ _ (by first|(simp;done)|(simp;omega))];exact dv
      refine bx.out _ _ ⟨Z _ _ _ (by omega) bf.1,Z _ _ _ (by omega) bf.2.1,Z _ _ _ (by omega) bf.2.2.1,Z _ _ _ (by omega) bf.2.2.2.1,Z _ _ _ (by omega) bf.2.2.2.2.1,Z _ _ _ (by omega) bf.2.2.2.2.2.1,Z _ _ _ (by omega) bf.2.2.2.2.2.2⟩ (fun cU=>?_)
      clear bx bL Z bf cU c0 cS c1 cT cN bM
      refine wpAnyH_done (by kernel_rfl) ?_ _
      have db:Below A.heap.size A (((ba.setCell ⟨A.heap.size,c*3,none⟩ (.int .i64 u.k)).setCell ⟨A.heap.size,c*3+1,none⟩ (.int .i64 u.n)).setCell ⟨A.heap.size,c*3+2,none⟩ (.string u.s)):=
       (((bi.trans ((Jw bO).mono cC)).setCell (p:=⟨A.heap.size,c*3,none⟩) (Oa2 _) _).setCell (p:=⟨A.heap.size,c*3+1,none⟩) (Oa2 _) _).setCell (p:=⟨A.heap.size,c*3+2,none⟩) (Oa2 _) _
      generalize ((ba.setCell ⟨A.heap.size,c*3,none⟩ (.int .i64 u.k)).setCell ⟨A.heap.size,c*3+1,none⟩ (.int .i64 u.n)).setCell ⟨A.heap.size,c*3+2,none⟩ (.string u.s)=dE at *
      go_wp2
      go_roundw
      case rel=>
       refine⟨c+1,L++[u],by omega,by go_num,⟨by rw[Oa8,bc.out.1];rfl,fun j bn=>?_⟩,cJ.out,db⟩
       by_cases e:j<L.length
       ·rw[Oi2 e];exact bc.out.2 j e
       have bQ:j=L.length:=by simp at bn;omega
       subst bQ
       rw[Ok8 (Oa2 _)]
       have dg:y.getD L.length 0=y[c]:=by rw[bc.out.1];simp[bz]
       simp only[Oe1,List.getElem_cons_zero,dg]
       exact⟨bH,du⟩
      case measure=>simp[intOf];omega
     have cK:Hid (L++List.replicate (y.length-c) Jf=(L++[Jf])++List.replicate (y.length-(c+1)) Jf):=by
      show _=_
      obtain⟨d,dd⟩:∃ d,y.length-c=d+1:=⟨y.length-c-1,by omega⟩
      have de:y.length-(c+1)=d:=by omega
      rw[dd,de,List.replicate_succ]
      simp
     go_wp2
     go_roundw
     case rel=>
      refine⟨c+1,L++[Jf],by omega,by go_num,⟨by rw[Oa8,bc.out.1];rfl,fun j bn=>?_⟩,by rw[←cK.out];exact bA,bi⟩
      by_cases e:j<L.length
      ·rw[Oi2 e];exact bc.out.2 j e
      have bQ:j=L.length:=by simp at bn;omega
      subst bQ
      rw[Ok8 (Oa2 _)]
      simp only[Oe1,List.getElem_cons_zero]
      exact⟨Kgd _,Kf0⟩
     case measure=>simp[intOf];omega
    obtain rfl:c=y.length:=by omega
    rw[Oe1,List.replicate_zero,Od7]at bA
    have bh:=O.below bi
    have cW:=bh.lt
    have bB:=bb.size
    have cC:=bi.size
    have bM:wr.cell? ⟨w1.heap.size,2,none⟩=some (.slice U rs.length X):=by simp[World.cell?,bh.cells]
    have dj:(Value.slice U rs.length X).ownBlock≠some A.heap.size:=fun e=>by have:=(Je O.own e).2;omega
    have cV:=O.lt
    go_wp2_with (at_builtin;go_must (refine Ul (by rfl) _ _ 23 55 _ 24 Jip (by rfl) (by decide) (by kernel_rfl) (by rfl) (w1.heap.size+1) _ _ (by rfl) (Jo.alloc bh.own _) ⟨wr.heap.size,0,none⟩ 1 [.slice (some ⟨A.heap.size,0,none⟩) y.length y.length] (by rfl) (by exact Ua wr _ _) (by intro u bH;simp at bH;subst bH;rfl) (by rw[cM.out];simp only[List.length_cons,List.length_nil];omega) (by simp;omega) ?_);intro sv' ba cE bJ dC;go_must (have cn:=bh.more A.heap.size L bA (by omega) dj _ (rv':=sv') (w4:=ba) (by unfold Jad;rw[bc.out.1];exact cE) bJ dC);obtain⟨dQ,dR,dq,_⟩:=cE.cells;subst dq;go_must (have dU:ba.cell? ⟨w1.heap.size,2,none⟩=some (.slice U rs.length X):=(by rw[bJ.cell_far _ (by simp;omega) (fun e=>absurd (Je bh.own e.symm).1 (by simp))];exact(Jnf wr _ _ 2 (by omega)).trans bM));go_must (have dV:ba.frozen? ⟨w1.heap.size,2,none⟩=false:=(by rw[bJ.frozen_far _ (by simp;omega) (fun e=>absurd (Je bh.own e.symm).1 (by simp))];refine(Jh9 wr _ _ 2 (by omega)).trans ?_;simp[World.frozen?,bh.cells])))
    have dc:Below w1.heap.size w1 ba:=((bb.trans (bi.mono bB)).alloc (by omega) _).grown bJ (by simp;omega) (fun g df=>by have:=(Je bh.own df).1;omega)
    go_roundw
    case rel=>
     simp only[Oa8,List.length_zipWith,List.length_cons,List.length_nil,Od0]at cn
     refine⟨k+1,_,bs++[A.heap.size],rs++[L],by omega,by omega,by go_num,by simp;omega,?_,cn,dc.setCell (p:=⟨w1.heap.size,2,none⟩) (Oa2 _) _⟩
     intro r bR
     rcases Od2.1 bR with h|h
     ·exact bZ.out r h
     simp at h
     subst h
     exact bc.out
    case measure=>simp[intOf];omega
  have cV:=O.lt
  have ff:A.heap[w1.heap.size]?=some (.cells #[.string name,.slice H y.length K,.slice U rs.length X] 25 (0,0)):=O.cells
  have dS:A.cell? ⟨w1.heap.size,0,none⟩=some (.string name):=by simp[World.cell?,O.cells]
  have bC:A.heap[w.heap.size+1]?=some (.cells #[.string ⟨#[]⟩,.slice none 0 0,.slice none 0 0] 25 (0,0)):=by
   rw[bb.block _ (by omega),bE.block _ (by simp)]
   have:=heap_alloc_new (w.alloc (.cells #[.string bW,.slice bu ns.length ct,.slice bk E.length bl] 25)) (.cells #[.string ⟨#[]⟩,.slice none 0 0,.slice none 0 0] 25)
   rw[Oa7]at this
   exact this
  have dX:A.cell? ⟨w.heap.size+1,0,none⟩=some (.string ⟨#[]⟩):=by simp[World.cell?,bC]
  have g1:A.cell? ⟨w.heap.size+1,1,none⟩=some (.slice none 0 0):=by simp[World.cell?,bC]
  have g2:A.cell? ⟨w.heap.size+1,2,none⟩=some (.slice none 0 0):=by simp[World.cell?,bC]
  have dW:∀ o,A.frozen? ⟨w.heap.size+1,o,none⟩=false:=fun o=>by simp[World.frozen?,bC]
  by_cases h1:k<E.length
  focus
   have h2:¬ k<bj:=fun h=>cl ⟨h1,h⟩
  rotate_left 1
  all_goals
   go_wp2
   have Z:∀ k,k≠w.heap.size+1→(((A.setCell ⟨w.heap.size+1,0,none⟩ (.string name)).setCell ⟨w.heap.size+1,1,none⟩ (.slice H y.length K)).setCell ⟨w.heap.size+1,2,none⟩ (.slice U rs.length X)).heap[k]?=A.heap[k]?:=fun k bG=>by
    rw[Oa4 _ _ _ _ bG,Oa4 _ _ _ _ bG,Oa4 _ _ _ _ bG]
   have bB:=bb.size
   have cv:A.heap.size≤(((A.setCell ⟨w.heap.size+1,0,none⟩ (.string name)).setCell ⟨w.heap.size+1,1,none⟩ (.slice H y.length K)).setCell ⟨w.heap.size+1,2,none⟩ (.slice U rs.length X)).heap.size:=by simp[World.setCell]
   have cf:=Jk (Jk (Jk bC 0 (.string name)) 1 (.slice H y.length K)) 2 (.slice U rs.length X)
   simp at cf
   obtain⟨bI,br,dA,dB⟩:=O.out (q:=w.heap.size+1) cv (by omega) Z
   have da:Below w.heap.size w (((A.setCell ⟨w.heap.size+1,0,none⟩ (.string name)).setCell ⟨w.heap.size+1,1,none⟩ (.slice H y.length K)).setCell ⟨w.heap.size+1,2,none⟩ (.slice U rs.length X)):=
    ((cZ.setCell (p:=⟨w.heap.size+1,0,none⟩) (by simp) _).setCell (p:=⟨w.heap.size+1,1,none⟩) (by simp) _).setCell (p:=⟨w.heap.size+1,2,none⟩) (by simp) _
   have ds:Kc (((A.setCell ⟨w.heap.size+1,0,none⟩ (.string name)).setCell ⟨w.heap.size+1,1,none⟩ (.slice H y.length K)).setCell ⟨w.heap.size+1,2,none⟩ (.slice U rs.length X)) H y:=(cx.below bb).of_block cv fun b o R _=>Z b (by have:=(bK.out b o R).1;omega)
   generalize ((A.setCell ⟨w.heap.size+1,0,none⟩ (.string name)).setCell ⟨w.heap.size+1,1,none⟩ (.slice H y.length K)).setCell ⟨w.heap.size+1,2,none⟩ (.slice U rs.length X)=dE at *
   refine bodyPost_ret (v:=.agg #[.string name,.slice H y.length K,.slice U rs.length X]) (by simp[results,results5,go_sem,World.cell?,cf]) rfl ⟨y,rs,_,rfl,⟨⟨H,K,U,X,bs,rfl,ds,bI,br,fun b o R=>by have:=(bK.out b o R).1;omega,fun b o R=>by have:=dA b o R;omega,fun b R=>by have:=dB b R;omega⟩,⟨dt,ca.out⟩,bZ.out⟩,by omega,da⟩
end Go.Proofs.YtdlgbphkaicfaaaGreatDoor
