/- A column of rows; blank rows; a segment's values. -/
import Derived.Test.YtpchafocmlhmbaaGreatDoorKk
import Derived.Test.YtpchafocmlhmbaaGreatDoorKq
set_option maxHeartbeats 2000000
set_option maxRecDepth 100000
namespace Go.Proofs.YtpchafocmlhmbaaGreatDoor
open Go.RowKit Tryz
def Jaj (rs:List (List V))(c:Nat):List V:=rs.map fun r=>r.getD c Jf
theorem Kj6 (rs:List (List V))(c k:Nat)(y:k<rs.length):Jaj (rs.take (k+1)) c=Jaj (rs.take k) c++[rs[k].getD c Jf]:=by
 unfold Jaj;rw[Oc4 y,Ob8];rfl
theorem Kj5 (a:Option Addr)(cap:Nat)(hs:List (Option Addr×Nat))(rs:List (List V))(c:Nat)(w:World)(hn:rs.length≤1000)(bi:Zd w a hs rs)(K:∀ r∈rs,c<r.length)(X:∀ r∈rs,r.length≤1000) :
  Calls prog 64 #[.slice a rs.length cap,.int .i64 (c:Int)] w fun e w'=>∃ v,e=.returned v∧Jc9 w w' (Jaj rs c) v∧Below w.heap.size w w':=by
 obtain⟨C,bc,bf⟩:=Jl9 rs.length hn w;have Y:Hid (∀ r∈rs,c<r.length):=K;have Z:Hid (∀ r∈rs,r.length≤1000):=X;clear K X;go_enter func64,ntmps64
 go_wp2;clear bc;go_loopw [13] (fun i wr=>∃ k:Nat,k≤rs.length∧i=.int .i64 k∧Kv wr w.heap.size (Jaj (rs.take k) c++List.replicate (rs.length-k) Jf) []∧Below w.heap.size w wr) (fun i _=>rs.length-(intOf i).toNat)
 case atStart=>exact⟨0,by omega,rfl,by simpa [Jaj] using bf,(Oa5 _ _).alloc (Oa2 _) _⟩
 case round=>
  obtain⟨k,bB,rfl,U,D⟩:=hrel;by_cases y:k<rs.length
  ·obtain⟨b,o,bG,rc,rfl,bz,bj,bh⟩:=(bi.below D).at y;have O:=Y.out _ (Ob3 y);have bC:=Z.out _ (Ob3 y);obtain⟨b2,bD,rfl,bA,bH,bI,bJ⟩:=bh.at O;have E:(Jaj (rs.take k) c).length=k:=by simp[Jaj];omega
   have R:(Jaj (rs.take k) c++List.replicate (rs.length-k) Jf).length=rs.length:=by rw[Oa8,E,Od6];omega
   obtain⟨bE,⟨c0,bn⟩,⟨c1,br⟩,⟨c2,bx⟩,H⟩:=U.put rs[k][c] k (by rw[R];exact y);rw[Jna _ k rs.length _ E y]at H;have ba:Hid (Kv (((wr.setCell ⟨w.heap.size,k*3,none⟩ (.int .i64 rs[k][c].k)).setCell ⟨w.heap.size,k*3+1,none⟩ (.int .i64 rs[k][c].n)).setCell ⟨w.heap.size,k*3+2,none⟩ (.string rs[k][c].s)) w.heap.size (Jaj (rs.take (k+1)) c++List.replicate (rs.length-(k+1)) Jf) []):=by
    rw[Kj6 rs c k y];have:rs[k].getD c Jf=rs[k][c]:=(by simp[O]);rw[this];exact H
   clear H E R;go_wp2;go_roundw
   case rel=>exact⟨k+1,by omega,by go_num,ba.out,((D.setCell (p:=⟨w.heap.size,k*3,none⟩) (Oa2 _) _).setCell (p:=⟨w.heap.size,k*3+1,none⟩) (Oa2 _) _).setCell (p:=⟨w.heap.size,k*3+2,none⟩) (Oa2 _) _⟩
   case measure=>simp[intOf];omega
  obtain rfl:k=rs.length:=by omega
  go_wp2;go_ret
  refine⟨_,rfl,⟨w.heap.size,?_,Oa2 _,by simpa using U⟩,D⟩;simp[Jaj]
def Us (y:DS)(l:List Nat)(D:Int)(n:Nat):List V⊕Nat:=
 match Uf y l with
 |.inr j=>.inr j
 |.inl t=>match Jbf t with
  |some (ty,_,vs)=>if (ty:Int)=D∧vs.length=n then .inl vs else .inr (l.getD 0 0)
  |none=>.inr (l.getD 0 0)
def Jl8 (w:World)(pg:Addr)(r:List V⊕Nat)(e:Ending)(w':World):Prop:=
 Below w.heap.size w w'∧match r with
  |.inl vs=>∃ b,e=.returned (.tuple #[.slice (some ⟨b,0,none⟩) vs.length vs.length,.nilIface])∧w.heap.size≤b∧Kv w' b vs []
  |.inr j=>∃ b,e=.returned (.tuple #[.slice none 0 0,.iface 157 (.pointer (some ⟨b,0,none⟩))])∧w.heap.size≤b∧Yu w' (.iface 157 (.pointer (some ⟨b,0,none⟩))) pg none (some (j:Int))
theorem Jsc (D:DS):∀ (l:List Nat) (t:List UInt8),Uf D l=.inl t→t.length≤56*l.length
 |[],t,h=>by simp[Uf]at h;subst h;simp
 |i::l,t,h=>by
  simp only[Uf]at h;split at h
  ·simp at h
  rename_i u y
  have E:u.length≤56:=by
   cases hp:D.pages.getD i none with
   |none=>rw[hp]at y;simp at y
   |some p=>rw[hp]at y;exact Jrf y
  split at h
  ·rename_i r hr
   have:=Jsc D l r hr;simp at h;subst h;simp;omega
  simp at h
theorem Jqz (t:List UInt8)(bf:Kje t)(D:Int)(n:Nat)(w:World)(y:t.length≤maxLen)(ba bc U:Addr)(X:Jf0 w ba bc U) :
  Calls prog 113 #[.string (Qw t),.int .i64 D,.int .i64 (n:Int)] w fun e w'=>Below w.heap.size w w'∧((∃ ty E vs b,Jbf t=some (ty,E,vs)∧(ty:Int)=D∧vs.length=n∧e=.returned (.tuple #[.slice (some ⟨b,0,none⟩) vs.length vs.length,.nilIface])∧w.heap.size≤b∧Kv w' b vs []) ∨
   ((∀ ty E vs,Jbf t=some (ty,E,vs)→¬ ((ty:Int)=D∧vs.length=n))∧e=.returned (.tuple #[.slice none 0 0,.iface 433 (.pointer (some U))]))):=by
 have Z:=Ki3 t bf w y ba bc U X;clear bf;have bB:=run_neq_nil_nil (P:=prog);go_enter func113,ntmps113
 go_wp2_with (first|(go_at_call 160;refine Z.mono ?_))
 rintro e bA ⟨H,⟨hp,rfl⟩|⟨ty,E,vs,b,hp,rfl,bi,bn⟩⟩
 ·have c2:=Ja H X.c2;have K:Hid (Jbf t=none):=hp;clear hp Z;go_wp2;go_quiet (fail)
  go_wp2;go_ret2
  exact⟨Jp H _,.inr ⟨fun ty E vs h=>by rw[K.out]at h;simp at h,rfl⟩⟩
 have c2:=Ja H X.c2;have K:Hid (Jbf t=some (ty,E,vs)):=hp;clear hp Z;by_cases y:(ty:Int)=D
 ·by_cases hn:vs.length=n
  ·have bh:((ty:Int) != D)=false:=(by simp[y]);have br:(((vs.length:Nat):Int) != (n:Int))=false:=(by simp[hn]);have R:Hid ((ty:Int)=D):=y;have O:Hid (vs.length=n):=hn;clear y hn;go_wp2;go_ret2
   exact⟨H,.inl ⟨ty,E,vs,b,K.out,R.out,O.out,rfl,bi,bn⟩⟩
  have bh:((ty:Int) != D)=false:=by simp[y]
  have br:(((vs.length:Nat):Int) != (n:Int))=true:=by rw[bne_iff_ne];omega
  have O:Hid (¬ vs.length=n):=hn;clear y hn;go_wp2;go_quiet (fail)
  go_wp2;go_ret2
  refine⟨Jp H _,.inr ⟨fun bx bj bz h Y=>?_,rfl⟩⟩;rw[K.out]at h;simp at h;obtain⟨_,_,rfl⟩:=h;exact O.out Y.2
 have bh:((ty:Int) != D)=true:=by rw[bne_iff_ne];exact y
 have R:Hid (¬ (ty:Int)=D):=y;clear y;go_wp2;go_quiet (fail)
 go_wp2;go_ret2
 refine⟨Jp H _,.inr ⟨fun bx bj bz h Y=>?_,rfl⟩⟩;rw[K.out]at h;simp at h;obtain⟨rfl,_,_⟩:=h;exact R.out Y.1
theorem Jto (s d:Nat)(a:Option Addr)(cap:Nat)(l:List Nat)(D:Int)(n:Nat)(w:World)(F:Nat→Prop)(y:DS)(h:Zb w F d y)(bT:w.cell? ⟨s,0,none⟩=some (.pointer (some ⟨d,0,none⟩)))(hl:Uh w a (l.map nv))(bB:l≠[])(bM:l.length≤1000000)(R:∀ t,Uf y l=.inl t→t≠[]∧Kje t)(bn br ba:Addr)(bK:Jf0 w bn br ba)(pg:Addr)(bE:w.cell? ⟨8,0,none⟩=some (.iface 433 (.pointer (some pg)))) :
  Calls prog 78 #[.pointer (some ⟨s,0,none⟩),.slice a l.length cap,.int .i64 D,.int .i64 (n:Int)] w fun e w'=>Jl8 w pg (Us y l D n) e w':=by
 have U:=Kag d a cap l w F y h hl bM pg bE fun t X=>(R t X).1;have bC:0<l.length:=Oi9.2 bB;have bS:=run_neq_nil_nil (P:=prog);cases hr:Uf y l with
 |inr j=>
  have O:Hid (Us y l D n=.inr j):=by show _=_;simp[Us,hr]
  rw[hr]at U;clear hr R;go_enter func78,ntmps78
  go_wp2_with (first|(go_at_call 112;refine U.mono ?_;rintro e bj ⟨E,b,rfl,bc,bf⟩))
  go_ret2
  rw[O.out];exact⟨E,b,rfl,bc,bf⟩
 |inl t=>
  have bU:=Jsc y l t hr;have bz:=(R t hr).2;rw[hr]at U;have bh:Hid (∀ W:World,Below w.heap.size w W→Calls prog 113 #[.string (Qw t),.int .i64 D,.int .i64 (n:Int)] W fun e w'=>Below W.heap.size W w'∧((∃ ty K vs b,Jbf t=some (ty,K,vs)∧(ty:Int)=D∧vs.length=n∧e=.returned (.tuple #[.slice (some ⟨b,0,none⟩) vs.length vs.length,.nilIface])∧W.heap.size≤b∧Kv w' b vs []) ∨
   ((∀ ty K vs,Jbf t=some (ty,K,vs)→¬ ((ty:Int)=D∧vs.length=n))∧e=.returned (.tuple #[.slice none 0 0,.iface 433 (.pointer (some ba))])))):=fun W bH=>Jqz t bz D n W (by unfold maxLen;omega) bn br ba (bK.below bH)
  have bi:Hid (Uf y l=.inl t):=hr;clear bz;rcases hl with hl|⟨b0,bO,rfl,bR,hl⟩
  ·simp at hl;exact absurd hl bB
  have bx:w.cell? ⟨b0,bO,none⟩=some (.int .i64 ((l.getD 0 0:Nat):Int)):=by
   have:=hl 0 _ (by simp[bC];rfl);rw[Nat.add_zero]at this;rw[this];simp[bC,nv]
  obtain⟨Y,Z⟩:∃ Y,Hid (l.getD 0 0=Y):=⟨_,rfl⟩;rw[Z.out]at bx;clear hr R hl h;go_enter func78,ntmps78
  go_wp2_with (first|(go_at_call 112;refine U.mono ?_;rintro e bj ⟨E,rfl⟩)|(go_at_call 113;refine(bh.out bj E).mono ?_))
  rintro e bG ⟨bA,⟨ty,K,vs,b,hp,X,hn,rfl,bc,bL⟩|⟨bD,rfl⟩⟩
  ·have O:Hid (Us y l D n=.inl vs):=by show _=_;simp only[Us,bi.out,hp];rw[if_pos ⟨X,hn⟩]
   have H:=Jb E bA;clear hp bh X hn;go_wp2;go_ret2
   rw[O.out];exact⟨H,b,rfl,Ob2 E.size bc,bL⟩
  have O:Hid (Us y l D n=.inr Y):=by
   show _=_;simp only[Us,bi.out];cases hp:Jbf t with
   |none=>simp only;exact congrArg _ Z.out
   |some x=>
    obtain⟨ty,K,vs⟩:=x;simp only;rw[if_neg (bD ty K vs hp),Z.out]
  have H:=Jb E bA;have bN:=Jfv (Y:Int) bG pg (Ja H bE);have bQ:=Ja H bx;clear bD bh;go_wp2_with (first|(go_at_call 114;refine bN.mono ?_;rintro e bP ⟨bI,b3,rfl,bJ,bf⟩))
  go_ret2
  rw[O.out];exact⟨Jb H bI,b3,rfl,Ob2 H.size bJ,bf⟩
end Go.Proofs.YtpchafocmlhmbaaGreatDoor
