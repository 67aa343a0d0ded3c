/- A column of rows; blank rows; a segment's values. -/
import Derived.Test.YtdlgbphkaicfaaaGreatDoorIv
import Derived.Test.YtdlgbphkaicfaaaGreatDoorKk
import Derived.Test.YtdlgbphkaicfaaaGreatDoorKq
import Derived.RangeFuncBox
import Derived.Maps.OwnIn
import Derived.Maps.AppendAt
set_option maxHeartbeats 2000000
set_option maxRecDepth 100000
namespace Go.Proofs.YtdlgbphkaicfaaaGreatDoor
open Go.RowKit Tryz
def Jaj (rs:List (List V))(c:Nat):List V:=rs.map fun r=>r.getD c Jf
theorem Kj6 (rs:List (List V))(c k:Nat)(y:k<rs.length):Jaj (rs.take (k+1)) c=Jaj (rs.take k) c++[rs[k].getD c Jf]:=by
 unfold Jaj
 rw[Oc4 y,Ob8]
 rfl
theorem Kj5 (a:Option Addr)(cap:Nat)(hs:List (Option Addr×Nat))(rs:List (List V))(c:Nat)(w:World)(hn:rs.length≤1000)(bf:Zd w a hs rs)(H:∀ r∈rs,c<r.length)(R:∀ r∈rs,r.length≤1000) :
  Calls prog 65 #[.slice a rs.length cap,.int .i64 (c:Int)] w fun e w'=>∃ v,e=.returned v∧Jc9 w w' (Jaj rs c) v∧Below w.heap.size w w':=by
 obtain⟨C,ba,bb⟩:=Jl9 rs.length hn w
 have U:Hid (∀ r∈rs,c<r.length):=H
 have X:Hid (∀ r∈rs,r.length≤1000):=R
 clear H R
 go_enter func65,ntmps65
 go_wp2
 clear ba
 go_loopw [13] (fun i wr=>∃ k:Nat,k≤rs.length∧i=.int .i64 k∧Kv wr w.heap.size (Jaj (rs.take k) c++List.replicate (rs.length-k) Jf) []∧Below w.heap.size w wr) (fun i _=>rs.length-(intOf i).toNat)
 case atStart=>exact⟨0,by omega,rfl,by simpa [Jaj] using bb,(Oa5 _ _).alloc (Oa2 _) _⟩
 case round=>
  obtain⟨k,br,rfl,O,A⟩:=hrel
  by_cases y:k<rs.length
  ·obtain⟨b,o,bA,bB,rfl,bl,bh,bc⟩:=(bf.below A).at y
   have K:=U.out _ (Ob3 y)
   have bu:=X.out _ (Ob3 y)
   obtain⟨b2,bx,rfl,bn,bC,bD,bE⟩:=bc.at K
   have D:(Jaj (rs.take k) c).length=k:=by simp[Jaj];omega
   have M:(Jaj (rs.take k) c++List.replicate (rs.length-k) Jf).length=rs.length:=by rw[Oa8,D,Od6];omega
   obtain⟨bz,⟨c0,bi⟩,⟨c1,bj⟩,⟨c2,bk⟩,E⟩:=O.put rs[k][c] k (by rw[M];exact y)
   rw[Jna _ k rs.length _ D y]at E
   have Z:Hid (Kv (((wr.setCell ⟨w.heap.size,k*3,none⟩ (.int .i64 rs[k][c].k)).setCell ⟨w.heap.size,k*3+1,none⟩ (.int .i64 rs[k][c].n)).setCell ⟨w.heap.size,k*3+2,none⟩ (.string rs[k][c].s)) w.heap.size (Jaj (rs.take (k+1)) c++List.replicate (rs.length-(k+1)) Jf) []):=by
    rw[Kj6 rs c k y]
    have:rs[k].getD c Jf=rs[k][c]:=by simp[K]
    rw[this]
    exact E
   clear E D M
   go_wp2
   go_roundw
   case rel=>exact⟨k+1,by omega,by go_num,Z.out,((A.setCell (p:=⟨w.heap.size,k*3,none⟩) (Oa2 _) _).setCell (p:=⟨w.heap.size,k*3+1,none⟩) (Oa2 _) _).setCell (p:=⟨w.heap.size,k*3+2,none⟩) (Oa2 _) _⟩
   case measure=>simp[intOf];omega
  obtain rfl:k=rs.length:=by omega
  go_wp2
  go_ret
  refine⟨_,rfl,⟨w.heap.size,?_,Oa2 _,by simpa using O⟩,A⟩
  simp[Jaj]
def Us (y:DS)(l:List Nat)(typ:Int)(n:Nat):List V⊕Nat:=
 match Uf y l with
 |.inr j=>.inr j
 |.inl t=>match Jbf t with
  |some (ty,_,vs)=>if (ty:Int)=typ∧vs.length=n then .inl vs else .inr (l.getD 0 0)
  |none=>.inr (l.getD 0 0)
def Jl8 (w:World)(pg:Addr)(r:List V⊕Nat)(e:Ending)(w':World):Prop:=
 Below w.heap.size w w'∧match r with
  |.inl vs=>∃ b,e=.returned (.tuple #[.slice (some ⟨b,0,none⟩) vs.length vs.length,.nilIface])∧w.heap.size≤b∧Kv w' b vs []
  |.inr j=>∃ b,e=.returned (.tuple #[.slice none 0 0,.iface 160 (.pointer (some ⟨b,0,none⟩))])∧w.heap.size≤b∧Yu w' (.iface 160 (.pointer (some ⟨b,0,none⟩))) pg none (some (j:Int))
theorem Jsc (A:DS):∀ (l:List Nat) (t:List UInt8),Uf A l=.inl t→t.length≤56*l.length
 |[],t,h=>by simp[Uf]at h;subst h;simp
 |i::l,t,h=>by
  simp only[Uf]at h
  split at h
  ·simp at h
  rename_i u y
  have E:u.length≤56:=by
   cases hp:A.pages.getD i none with
   |none=>rw[hp]at y;simp at y
   |some p=>rw[hp]at y;exact Jrf y
  split at h
  ·rename_i r D
   have:=Jsc A l r D
   simp at h
   subst h
   simp
   omega
  simp at h
theorem Jqz (t:List UInt8)(hW:Kje t)(typ:Int)(n:Nat)(w:World)(y:t.length≤maxLen)(Z ba O:Addr)(R:Jf0 w Z ba O) :
  Calls prog 114 #[.string (Qw t),.int .i64 typ,.int .i64 (n:Int)] w fun e w'=>Below w.heap.size w w'∧((∃ ty A vs b,Jbf t=some (ty,A,vs)∧(ty:Int)=typ∧vs.length=n∧e=.returned (.tuple #[.slice (some ⟨b,0,none⟩) vs.length vs.length,.nilIface])∧w.heap.size≤b∧Kv w' b vs []) ∨
   ((∀ ty A vs,Jbf t=some (ty,A,vs)→¬ ((ty:Int)=typ∧vs.length=n))∧e=.returned (.tuple #[.slice none 0 0,.iface 435 (.pointer (some O))]))):=by
 have X:=Ki3 t hW w y Z ba O R
 clear hW
 have bn:=run_neq_nil_nil (P:=prog)
 go_enter func114,ntmps114
 go_wp2_with (first|(go_at_call 161;refine X.mono ?_))
 rintro e bl ⟨D,⟨H,rfl⟩|⟨ty,A,vs,b,H,rfl,bc,bh⟩⟩
 ·have c2:=Ja D R.c2
  have E:Hid (Jbf t=none):=H
  clear H X
  go_wp2
  go_quiet (fail)
  go_wp2
  go_ret2
  exact⟨Jp D _,.inr ⟨fun ty A vs h=>by rw[E.out]at h;simp at h,rfl⟩⟩
 have c2:=Ja D R.c2
 have E:Hid (Jbf t=some (ty,A,vs)):=H
 clear H X
 by_cases y:(ty:Int)=typ
 ·by_cases hn:vs.length=n
  ·have bb:((ty:Int) != typ)=false:=by simp[y]
   have bi:(((vs.length:Nat):Int) != (n:Int))=false:=by simp[hn]
   have M:Hid ((ty:Int)=typ):=y
   have K:Hid (vs.length=n):=hn
   clear y hn
   go_wp2
   go_ret2
   exact⟨D,.inl ⟨ty,A,vs,b,E.out,M.out,K.out,rfl,bc,bh⟩⟩
  have bb:((ty:Int) != typ)=false:=by simp[y]
  have bi:(((vs.length:Nat):Int) != (n:Int))=true:=by rw[bne_iff_ne];omega
  have K:Hid (¬ vs.length=n):=hn
  clear y hn
  go_wp2
  go_quiet (fail)
  go_wp2
  go_ret2
  refine⟨Jp D _,.inr ⟨fun bj bf bk h U=>?_,rfl⟩⟩
  rw[E.out]at h
  simp at h
  obtain⟨_,_,rfl⟩:=h
  exact K.out U.2
 have bb:((ty:Int) != typ)=true:=by rw[bne_iff_ne];exact y
 have M:Hid (¬ (ty:Int)=typ):=y
 clear y
 go_wp2
 go_quiet (fail)
 go_wp2
 go_ret2
 refine⟨Jp D _,.inr ⟨fun bj bf bk h U=>?_,rfl⟩⟩
 rw[E.out]at h
 simp at h
 obtain⟨rfl,_,_⟩:=h
 exact M.out U.1
theorem Jto (s d:Nat)(a:Option Addr)(cap:Nat)(l:List Nat)(typ:Int)(n:Nat)(w:World)(F:Nat→Prop)(y:DS)(h:Zb w F d y)(bO:w.cell? ⟨s,0,none⟩=some (.pointer (some ⟨d,0,none⟩)))(A:Uh w a (l.map nv))(br:l≠[])(bH:l.length≤1000000)(M:∀ t,Uf y l=.inl t→t≠[]∧Kje t)(bj bk ba:Addr)(bE:Jf0 w bj bk ba)(pg:Addr)(bz:w.cell? ⟨8,0,none⟩=some (.iface 435 (.pointer (some pg)))) :
  Calls prog 79 #[.pointer (some ⟨s,0,none⟩),.slice a l.length cap,.int .i64 typ,.int .i64 (n:Int)] w fun e w'=>Jl8 w pg (Us y l typ n) e w':=by
 have R:=Kag d a cap l w F y h A bH pg bz fun t U=>(M t U).1
 have bu:0<l.length:=Oi9.2 br
 have bN:=run_neq_nil_nil (P:=prog)
 cases hr:Uf y l with
 |inr j=>
  have K:Hid (Us y l typ n=.inr j):=by show _=_;simp[Us,hr]
  rw[hr]at R
  clear hr M
  go_enter func79,ntmps79
  go_wp2_with (first|(go_at_call 113;refine R.mono ?_;rintro e bi ⟨D,b,rfl,bb,bc⟩))
  go_ret2
  rw[K.out]
  exact⟨D,b,rfl,bb,bc⟩
 |inl t=>
  have bP:=Jsc y l t hr
  have hW:=(M t hr).2
  rw[hr]at R
  have bf:Hid (∀ W:World,Below w.heap.size w W→Calls prog 114 #[.string (Qw t),.int .i64 typ,.int .i64 (n:Int)] W fun e w'=>Below W.heap.size W w'∧((∃ ty H vs b,Jbf t=some (ty,H,vs)∧(ty:Int)=typ∧vs.length=n∧e=.returned (.tuple #[.slice (some ⟨b,0,none⟩) vs.length vs.length,.nilIface])∧W.heap.size≤b∧Kv w' b vs []) ∨
   ((∀ ty H vs,Jbf t=some (ty,H,vs)→¬ ((ty:Int)=typ∧vs.length=n))∧e=.returned (.tuple #[.slice none 0 0,.iface 435 (.pointer (some ba))])))):=fun W bB=>Jqz t hW typ n W (by unfold maxLen;omega) bj bk ba (bE.below bB)
  have bh:Hid (Uf y l=.inl t):=hr
  clear hW
  rcases A with A|⟨b0,bJ,rfl,bM,A⟩
  ·simp at A;exact absurd A br
  have bl:w.cell? ⟨b0,bJ,none⟩=some (.int .i64 ((l.getD 0 0:Nat):Int)):=by
   have:=A 0 _ (by simp[bu];rfl)
   rw[Nat.add_zero]at this
   rw[this]
   simp[bu,nv]
  obtain⟨X,Z⟩:∃ X,Hid (l.getD 0 0=X):=⟨_,rfl⟩
  rw[Z.out]at bl
  clear hr M A h
  go_enter func79,ntmps79
  go_wp2_with (first|(go_at_call 113;refine R.mono ?_;rintro e bi ⟨D,rfl⟩)|(go_at_call 114;refine(bf.out bi D).mono ?_))
  rintro e bA ⟨bn,⟨ty,H,vs,b,O,U,hn,rfl,bb,bG⟩|⟨bx,rfl⟩⟩
  ·have K:Hid (Us y l typ n=.inl vs):=by show _=_;simp only[Us,bh.out,O];rw[if_pos ⟨U,hn⟩]
   have E:=Jb D bn
   clear O bf U hn
   go_wp2
   go_ret2
   rw[K.out]
   exact⟨E,b,rfl,Ob2 D.size bb,bG⟩
  have K:Hid (Us y l typ n=.inr X):=by
   show _=_
   simp only[Us,bh.out]
   cases O:Jbf t with
   |none=>simp only;exact congrArg _ Z.out
   |some x=>
    obtain⟨ty,H,vs⟩:=x
    simp only
    rw[if_neg (bx ty H vs O),Z.out]
  have E:=Jb D bn
  have bI:=Jfv (X:Int) bA pg (Ja E bz)
  have bL:=Ja E bl
  clear bx bf
  go_wp2_with (first|(go_at_call 115;refine bI.mono ?_;rintro e bK ⟨bC,b3,rfl,bD,bc⟩))
  go_ret2
  rw[K.out]
  exact⟨Jb E bC,b3,rfl,Ob2 E.size bD,bc⟩
end Go.Proofs.YtdlgbphkaicfaaaGreatDoor
namespace Go.Proofs.YtdlgbphkaicfaaaGreatDoor
open Go.RowKit Go.Shelf Tryz
attribute [local go_sem] Oc0
theorem Kiz {W W':World}(h:Below W.heap.size W W'):KeepsOthers W W':=⟨h.size,fun k _ y _=>(h.block k (Oe2.1 y).1).trans y⟩
theorem Kke (a:Option Addr)(len cap g:Nat)(y:1≤g)(w:World) :
  Calls prog 63 #[.slice a len cap,.int .i64 (g:Int)] w fun e w'=>e=.returned (.func (.func 88) #[] #[.pointer (some ⟨w.heap.size,0,none⟩),.pointer (some ⟨w.heap.size+1,0,none⟩)])∧w'=(w.alloc (.cells #[.slice a len cap] 23)).alloc (.cells #[.int .i64 (g:Int)] 3):=by
 have A:∀ (fn:Fn) (first cap:Array Value) (w:World),(Instr.makeFunc fn first cap).run prog w=.ok (.func fn first cap) w:=fun _ _ _ _=>rfl
 go_enter func63,ntmps63
 go_wp2
 go_ret
 exact⟨rfl,rfl⟩
theorem Kj8 (n:Nat)(l y A:Nat)(a:Option Addr)(cap:Nat)(J:World→Prop)(W:World)(D:W.cell? ⟨y,0,none⟩=some (.slice a 0 cap))(h0:J W) :
  CallsIn Fence.wide n prog 88 #[.func (.yield l) #[] #[],.pointer (some ⟨y,0,none⟩),.pointer (some ⟨A,0,none⟩)] W fun e W'=>(∃ v,e=.returned v)∧J W':=by
 refine callsIn_of_wp func88 rfl trivial ?_ rfl
 simp only[ntmps88,Om3,List.length_cons,List.length_nil,Nat.reduceAdd,Nat.reduceSub,Ok9,Array.replicate_zero,Om4,Ol2,List.nil_append,List.cons_append]
 gi_wp2
 gi_loopw [4] (fun i wr=>i=.int .i64 0∧J wr∧wr.cell? ⟨y,0,none⟩=some (.slice a 0 cap)) (fun _ _=>0)
 case atStart=>exact⟨rfl,h0,D⟩
 case round=>
  obtain⟨rfl,E,H⟩:=hrel
  gi_wp2
  go_end0
  exact⟨⟨_,rfl⟩,E⟩
def ckV (a:Option Addr)(x:Nat×Nat):Value:=match a with
 |some p=>.slice (some ⟨p.block,p.off+x.1,none⟩) x.2 x.2
 |none=>.slice none 0 0
theorem Kjw (n:Nat)(hn:1≤n)(A y:Nat)(a:Option Addr)(len cap g:Nat)(ba:1≤g)(bb:g≤64)(bi:len≤1000)(X:len≤cap)(bj:len=0∨∃ b o,a=some ⟨b,o,none⟩)(w:World)(bh:A<w.heap.size)(bf:y<w.heap.size)
  (M:w.cell? ⟨A,0,none⟩=some (.slice a len cap)) (H:w.cell? ⟨y,0,none⟩=some (.int .i64 (g:Int))) :
  SeqStopsK Fence.wide n prog 88 #[.pointer (some ⟨A,0,none⟩),.pointer (some ⟨y,0,none⟩)] (fun x:Ck len=>#[ckV a x.1]) (KpC A y) (fun bl=>bl.map Subtype.val=cks len g (ckN len g)) (fun bk=>∃ k,k≤ckN len g∧bk.map Subtype.val=cks len g k) (ckN len g) w:=fun l J E W hW O _ U h0=>by
 have D:=(hW.cell (p:=⟨A,0,none⟩) bh).trans M
 have K:=(hW.cell (p:=⟨y,0,none⟩) bf).trans H
 have R:∀ s W,J s W→J s W.drew:=fun s W' h=>O s W' W'.drew none h ⟨rfl,rfl,rfl,Oa2 _,fun _ _ _=>rfl⟩ (fun r e=>by cases e)
 rcases bj with h|⟨b,o,rfl⟩
 ·subst h
  refine(Kj8 n l A y a cap (J []) W D h0).mono fun e W' ⟨Z,bc⟩=>⟨Z,.inl ⟨[],?_,bc⟩⟩
  have:ckN 0 g=0:=by unfold ckN;exact Nat.div_eq_of_lt (by omega)
  rw[this];rfl
 exact Kkd n hn l A y b o len cap g ba bb bi X J E U R W D K h0
def Uo (rows:List (List V))(y hs:List Int)(c:Nat):List UInt8×Int:=Jev (y.getD c 0) (hs.getD c 0) (Jaj rows c)
def Jeo (rows:List (List V))(y hs:List Int):Nat→List (List UInt8)⊕Nat
 |0=>.inl []
 |k+1=>match Jeo rows y hs k with
  |.inr c=>.inr c
  |.inl l=>if (Uo rows y hs k).2=0 then .inl (l++[(Uo rows y hs k).1])else .inr k
theorem Jjc (rows:List (List V))(y hs:List Int):∀ (k:Nat) (l:List (List UInt8)),Jeo rows y hs k=.inl l→l.length=k
 |0,l,h=>by simp[Jeo]at h;subst h;rfl
 |k+1,l,h=>by
  simp only[Jeo]at h
  split at h
  ·simp at h
  rename_i D A
  split at h
  ·simp at h
   subst h
   simp[Jjc rows y hs k D A]
  simp at h
theorem Kkc (rows:List (List V))(y hs:List Int)(c:Nat):∀ (k m:Nat),Jeo rows y hs k=.inr c→k≤m→Jeo rows y hs m=.inr c:=by
 intro k m h D
 induction m with
 |zero=>
      have:k=0:=by omega
      subst this;exact h
 |succ m A=>
  by_cases e:k=m+1
  ·subst e;exact h
  simp only[Jeo,A (by omega)]
def Uk (rs:List (List V))(x:Nat×Nat):List (List V):=(rs.drop x.1).take x.2
def Jiu (rs:List (List V))(y hs:List Int)(A:List (List UInt8)⊕Nat)(x:Nat×Nat):List (List UInt8)⊕Nat:=
 match A with
 |.inr c=>.inr c
 |.inl T=>match Jeo (Uk rs x) y hs y.length with
  |.inl l=>.inl (T++l)
  |.inr c=>.inr c
def Jfg (rs:List (List V))(y hs:List Int)(xs:List (Nat×Nat)):List (List UInt8)⊕Nat:=xs.foldl (Jiu rs y hs) (.inl [])
theorem Juv (rs:List (List V))(y hs:List Int)(xs:List (Nat×Nat))(x:Nat×Nat):Jfg rs y hs (xs++[x])=Jiu rs y hs (Jfg rs y hs xs) x:=by simp[Jfg]
theorem Kkl (rs:List (List V))(A hs:List Int)(xs y:List (Nat×Nat))(c:Nat)(h:Jfg rs A hs xs=.inr c):Jfg rs A hs (xs++y)=.inr c:=by
 have E:∀ y:List (Nat×Nat),y.foldl (Jiu rs A hs) (.inr c)=.inr c:=by
  intro y
  induction y with
  |nil=>rfl
  |cons H y D=>exact D
 unfold Jfg at h ⊢
 rw[Ol1,h,E]
theorem Jvd (len g k m:Nat)(h:k≤m):∃ y,cks len g m=cks len g k++y:=by
 obtain⟨d,rfl⟩:=Nat.exists_eq_add_of_le h
 exact⟨(List.range d).map (fun i=>Jaa len g (k+i)),by simp[cks,List.range_add]⟩
theorem Zd.piece {w:World}{a:Option Addr}{hs:List (Option Addr×Nat)}{rs:List (List V)}(h:Zd w a hs rs)(x:Ck rs.length):∃ a' O,ckV a x.1=.slice a' (Uk rs x.1).length x.1.2∧Zd w a' O (Uk rs x.1):=by
 obtain⟨⟨o,m⟩,R,U,X⟩:=x
 simp only at R U X
 have M:(Uk rs (o,m)).length=m:=by unfold Uk;simp;omega
 rcases h.cells with E|⟨b,ob,rfl,K,E⟩
 ·have:=congrArg List.length E
  simp[h.len]at this
  have:=Od3.2 this
  omega
 refine⟨some ⟨b,ob+o,none⟩,(hs.drop o).take m,by simp[ckV,M],⟨by simp[Uk,h.len],.inr ⟨b,ob+o,rfl,K,fun i v A=>?_⟩,fun i Z r H D=>?_⟩⟩
 ·have hi:i<m:=by
   rcases Oc1 i m with y|y
   ·exact y
   ·rw[Ob4 (by simp[Uk];omega)]at A;simp at A
  rw[On5]
  refine E (o+i) v ?_
  rw[Ok5]at A ⊢
  simp only[Uk,Oh3 hi,Oh9]at A
  exact A
 have hi:i<m:=by
  rcases Oc1 i m with y|y
  ·exact y
  ·rw[Ob4 (by simp[Uk];omega)]at D;simp at D
 simp only[Uk,Oh3 hi,Oh9]at H D
 exact h.rows (o+i) Z r H D
end Go.Proofs.YtdlgbphkaicfaaaGreatDoor
