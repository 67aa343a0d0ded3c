/- A column of rows; blank rows; a segment's values. -/
import Derived.Test.YtjjdldddcegjiaaGreatDoorIv
import Derived.Test.YtjjdldddcegjiaaGreatDoorKk
import Derived.Test.YtjjdldddcegjiaaGreatDoorKq
set_option maxHeartbeats 2000000
set_option maxRecDepth 100000
namespace Go.Proofs.YtjjdldddcegjiaaGreatDoor
open Go.RowKit Tryz
def Jaj (rs:List (List V))(c:Nat):List V:=rs.map fun r=>r.getD c Jf
theorem Kj6 (rs:List (List V))(c k:Nat)(y:k<rs.length):Jaj (rs.take (k+1)) c=Jaj (rs.take k) c++[rs[k].getD c Jf]:=by
 unfold Jaj
 rw[Oc4 y,Ob8]
 rfl
theorem Kj5 (a:Option Addr)(cap:Nat)(hs:List (Option Addr×Nat))(rs:List (List V))(c:Nat)(w:World)(hn:rs.length≤1000)(bf:Zd w a hs rs)(D:∀ r∈rs,c<r.length)(M:∀ r∈rs,r.length≤1000) :
  Calls prog 76 #[.slice a rs.length cap,.int .i64 (c:Int)] w fun e w'=>∃ v,e=.returned v∧Jc9 w w' (Jaj rs c) v∧Below w.heap.size w w':=by
 obtain⟨bh,X,Z⟩:=Jl9 rs.length hn w
 have O:Hid (∀ r∈rs,c<r.length):=D
 have R:Hid (∀ r∈rs,r.length≤1000):=M
 clear D M
 go_enter func76,ntmps76
 go_wp2
 clear X
 go_loopw [13] (fun i wr=>∃ k:Nat,k≤rs.length∧i=.int .i64 k∧Kv wr w.heap.size (Jaj (rs.take k) c++List.replicate (rs.length-k) Jf) []∧Below w.heap.size w wr) (fun i _=>rs.length-(intOf i).toNat)
 case atStart=>exact⟨0,by omega,rfl,by simpa [Jaj] using Z,(Oa5 _ _).alloc (Oa2 _) _⟩
 case round=>
  obtain⟨k,bx,rfl,K,z⟩:=hrel
  by_cases y:k<rs.length
  ·obtain⟨b,o,bC,bD,rfl,br,bi,bc⟩:=(bf.below z).at y
   have E:=O.out _ (Ob3 y)
   have bz:=R.out _ (Ob3 y)
   obtain⟨b2,bA,rfl,bu,bE,bG,bH⟩:=bc.at E
   have A:(Jaj (rs.take k) c).length=k:=by simp[Jaj];omega
   have H:(Jaj (rs.take k) c++List.replicate (rs.length-k) Jf).length=rs.length:=by rw[Oa8,A,Od6];omega
   obtain⟨bB,⟨c0,bj⟩,⟨c1,bl⟩,⟨c2,bn⟩,C⟩:=K.put rs[k][c] k (by rw[H];exact y)
   rw[Jna _ k rs.length _ A y]at C
   have U:Hid (Kv (((wr.setCell ⟨w.heap.size,k*3,none⟩ (.int .i64 rs[k][c].k)).setCell ⟨w.heap.size,k*3+1,none⟩ (.int .i64 rs[k][c].n)).setCell ⟨w.heap.size,k*3+2,none⟩ (.string rs[k][c].s)) w.heap.size (Jaj (rs.take (k+1)) c++List.replicate (rs.length-(k+1)) Jf) []):=by
    rw[Kj6 rs c k y]
    have:rs[k].getD c Jf=rs[k][c]:=by simp[E]
    rw[this]
    exact C
   clear C A H
   go_wp2
   go_roundw
   case rel=>exact⟨k+1,by omega,by go_num,U.out,((z.setCell (p:=⟨w.heap.size,k*3,none⟩) (Oa2 _) _).setCell (p:=⟨w.heap.size,k*3+1,none⟩) (Oa2 _) _).setCell (p:=⟨w.heap.size,k*3+2,none⟩) (Oa2 _) _⟩
   case measure=>simp[intOf];omega
  obtain rfl:k=rs.length:=by omega
  go_wp2
  go_ret
  refine⟨_,rfl,⟨w.heap.size,?_,Oa2 _,by simpa using K⟩,z⟩
  simp[Jaj]
def Us (y:DS)(l:List Nat)(typ:Int)(n:Nat):List V⊕Nat:=
 match Uf y l with
 |.inr j=>.inr j
 |.inl t=>match Jbf t with
  |some (ty,_,vs)=>if (ty:Int)=typ∧vs.length=n then .inl vs else .inr (l.getD 0 0)
  |none=>.inr (l.getD 0 0)
def Jl8 (w:World)(pg:Addr)(r:List V⊕Nat)(e:Ending)(w':World):Prop:=
 Below w.heap.size w w'∧match r with
  |.inl vs=>∃ b,e=.returned (.tuple #[.slice (some ⟨b,0,none⟩) vs.length vs.length,.nilIface])∧w.heap.size≤b∧Kv w' b vs []
  |.inr j=>∃ b,e=.returned (.tuple #[.slice none 0 0,.iface 168 (.pointer (some ⟨b,0,none⟩))])∧w.heap.size≤b∧Yu w' (.iface 168 (.pointer (some ⟨b,0,none⟩))) pg none (some (j:Int))
theorem Jsc (z:DS):∀ (l:List Nat) (t:List UInt8),Uf z l=.inl t→t.length≤56*l.length
 |[],t,h=>by simp[Uf]at h;subst h;simp
 |i::l,t,h=>by
  simp only[Uf]at h
  split at h
  ·simp at h
  rename_i u y
  have C:u.length≤56:=by
   cases hp:z.pages.getD i none with
   |none=>rw[hp]at y;simp at y
   |some p=>rw[hp]at y;exact Jrf y
  split at h
  ·rename_i r A
   have:=Jsc z l r A
   simp at h
   subst h
   simp
   omega
  simp at h
theorem Jqz (t:List UInt8)(hW:Kje t)(typ:Int)(n:Nat)(w:World)(y:t.length≤maxLen)(U X K:Addr)(M:Jf0 w U X K) :
  Calls prog 125 #[.string (Qw t),.int .i64 typ,.int .i64 (n:Int)] w fun e w'=>Below w.heap.size w w'∧((∃ ty z vs b,Jbf t=some (ty,z,vs)∧(ty:Int)=typ∧vs.length=n∧e=.returned (.tuple #[.slice (some ⟨b,0,none⟩) vs.length vs.length,.nilIface])∧w.heap.size≤b∧Kv w' b vs []) ∨
   ((∀ ty z vs,Jbf t=some (ty,z,vs)→¬ ((ty:Int)=typ∧vs.length=n))∧e=.returned (.tuple #[.slice none 0 0,.iface 443 (.pointer (some K))]))):=by
 have R:=Ki3 t hW w y U X K M
 clear hW
 have br:=run_neq_nil_nil (P:=prog)
 go_enter func125,ntmps125
 go_wp2_with (first|(go_at_call 172;refine R.mono ?_))
 rintro e bn ⟨A,⟨D,rfl⟩|⟨ty,z,vs,b,D,rfl,bc,bh⟩⟩
 ·have c2:=Ja A M.c2
  have C:Hid (Jbf t=none):=D
  clear D R
  go_wp2
  go_quiet (fail)
  go_wp2
  go_ret2
  exact⟨Jp A _,.inr ⟨fun ty z vs h=>by rw[C.out]at h;simp at h,rfl⟩⟩
 have c2:=Ja A M.c2
 have C:Hid (Jbf t=some (ty,z,vs)):=D
 clear D R
 by_cases y:(ty:Int)=typ
 ·by_cases hn:vs.length=n
  ·have Z:((ty:Int) != typ)=false:=by simp[y]
   have bi:(((vs.length:Nat):Int) != (n:Int))=false:=by simp[hn]
   have H:Hid ((ty:Int)=typ):=y
   have E:Hid (vs.length=n):=hn
   clear y hn
   go_wp2
   go_ret2
   exact⟨A,.inl ⟨ty,z,vs,b,C.out,H.out,E.out,rfl,bc,bh⟩⟩
  have Z:((ty:Int) != typ)=false:=by simp[y]
  have bi:(((vs.length:Nat):Int) != (n:Int))=true:=by rw[bne_iff_ne];omega
  have E:Hid (¬ vs.length=n):=hn
  clear y hn
  go_wp2
  go_quiet (fail)
  go_wp2
  go_ret2
  refine⟨Jp A _,.inr ⟨fun bj bf bl h O=>?_,rfl⟩⟩
  rw[C.out]at h
  simp at h
  obtain⟨_,_,rfl⟩:=h
  exact E.out O.2
 have Z:((ty:Int) != typ)=true:=by rw[bne_iff_ne];exact y
 have H:Hid (¬ (ty:Int)=typ):=y
 clear y
 go_wp2
 go_quiet (fail)
 go_wp2
 go_ret2
 refine⟨Jp A _,.inr ⟨fun bj bf bl h O=>?_,rfl⟩⟩
 rw[C.out]at h
 simp at h
 obtain⟨rfl,_,_⟩:=h
 exact H.out O.1
theorem Jto (s d:Nat)(a:Option Addr)(cap:Nat)(l:List Nat)(typ:Int)(n:Nat)(w:World)(F:Nat→Prop)(y:DS)(h:Zb w F d y)(bP:w.cell? ⟨s,0,none⟩=some (.pointer (some ⟨d,0,none⟩)))(z:Uh w a (l.map nv))(bu:l≠[])(bI:l.length≤1000000)(H:∀ t,Uf y l=.inl t→t≠[]∧Kje t)(bj bl X:Addr)(bG:Jf0 w bj bl X)(pg:Addr)(bA:w.cell? ⟨8,0,none⟩=some (.iface 443 (.pointer (some pg)))) :
  Calls prog 90 #[.pointer (some ⟨s,0,none⟩),.slice a l.length cap,.int .i64 typ,.int .i64 (n:Int)] w fun e w'=>Jl8 w pg (Us y l typ n) e w':=by
 have M:=Kag d a cap l w F y h z bI pg bA fun t O=>(H t O).1
 have bx:0<l.length:=Oi9.2 bu
 have bO:=run_neq_nil_nil (P:=prog)
 cases hr:Uf y l with
 |inr j=>
  have E:Hid (Us y l typ n=.inr j):=by show _=_;simp[Us,hr]
  rw[hr]at M
  clear hr H
  go_enter func90,ntmps90
  go_wp2_with (first|(go_at_call 124;refine M.mono ?_;rintro e bi ⟨A,b,rfl,Z,bc⟩))
  go_ret2
  rw[E.out]
  exact⟨A,b,rfl,Z,bc⟩
 |inl t=>
  have bQ:=Jsc y l t hr
  have hW:=(H t hr).2
  rw[hr]at M
  have bf:Hid (∀ W:World,Below w.heap.size w W→Calls prog 125 #[.string (Qw t),.int .i64 typ,.int .i64 (n:Int)] W fun e w'=>Below W.heap.size W w'∧((∃ ty D vs b,Jbf t=some (ty,D,vs)∧(ty:Int)=typ∧vs.length=n∧e=.returned (.tuple #[.slice (some ⟨b,0,none⟩) vs.length vs.length,.nilIface])∧W.heap.size≤b∧Kv w' b vs []) ∨
   ((∀ ty D vs,Jbf t=some (ty,D,vs)→¬ ((ty:Int)=typ∧vs.length=n))∧e=.returned (.tuple #[.slice none 0 0,.iface 443 (.pointer (some X))])))):=fun W bC=>Jqz t hW typ n W (by unfold maxLen;omega) bj bl X (bG.below bC)
  have bh:Hid (Uf y l=.inl t):=hr
  clear hW
  rcases z with z|⟨b0,bK,rfl,bN,z⟩
  ·simp at z;exact absurd z bu
  have bn:w.cell? ⟨b0,bK,none⟩=some (.int .i64 ((l.getD 0 0:Nat):Int)):=by
   have:=z 0 _ (by simp[bx];rfl)
   rw[Nat.add_zero]at this
   rw[this]
   simp[bx,nv]
  obtain⟨R,U⟩:∃ R,Hid (l.getD 0 0=R):=⟨_,rfl⟩
  rw[U.out]at bn
  clear hr H z h
  go_enter func90,ntmps90
  go_wp2_with (first|(go_at_call 124;refine M.mono ?_;rintro e bi ⟨A,rfl⟩)|(go_at_call 125;refine(bf.out bi A).mono ?_))
  rintro e bB ⟨br,⟨ty,D,vs,b,K,O,hn,rfl,Z,bH⟩|⟨bz,rfl⟩⟩
  ·have E:Hid (Us y l typ n=.inl vs):=by show _=_;simp only[Us,bh.out,K];rw[if_pos ⟨O,hn⟩]
   have C:=Jb A br
   clear K bf O hn
   go_wp2
   go_ret2
   rw[E.out]
   exact⟨C,b,rfl,Ob2 A.size Z,bH⟩
  have E:Hid (Us y l typ n=.inr R):=by
   show _=_
   simp only[Us,bh.out]
   cases K:Jbf t with
   |none=>simp only;exact congrArg _ U.out
   |some x=>
    obtain⟨ty,D,vs⟩:=x
    simp only
    rw[if_neg (bz ty D vs K),U.out]
  have C:=Jb A br
  have bJ:=Jfv (R:Int) bB pg (Ja C bA)
  have bM:=Ja C bn
  clear bz bf
  go_wp2_with (first|(go_at_call 126;refine bJ.mono ?_;rintro e bL ⟨bD,b3,rfl,bE,bc⟩))
  go_ret2
  rw[E.out]
  exact⟨Jb C bD,b3,rfl,Ob2 C.size bE,bc⟩
end Go.Proofs.YtjjdldddcegjiaaGreatDoor
