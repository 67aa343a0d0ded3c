/- A set's names; a table's rows. -/
import Derived.Test.YtcaocabmioafcaaGreatDoorTl
set_option maxHeartbeats 1000000
set_option maxRecDepth 100000
namespace Go.Proofs.YtcaocabmioafcaaGreatDoor
open Go.RowKit Go.Shelf Tryz
def Kty (A:List TS)(j:Nat):Value:=.string ((A.map TS.name).getD j ⟨#[]⟩)
theorem Kyc (w:World)(F:Nat→Prop)(s d:Nat)(A:List TS)(sv:Value)(bs:List Nat)(h:Jfl w F s d A sv bs) :
  Calls prog 45 #[.pointer (some ⟨s,0,none⟩)] w fun e w'=>e=.returned (.slice (some ⟨w.heap.size,0,none⟩) A.length A.length)∧w'.rowIs w.heap.size 9 A.length (Kty A)∧Below w.heap.size w w':=by
 have ba:=h.few
 have U:∀ W,(Instr.makeSlice 70 (.int .i64 (A.length:Int)) (.int .i64 (A.length:Int))).run prog W=.ok (.slice (some ⟨W.heap.size,0,none⟩) A.length A.length) (W.alloc (.cells (madeCells #[.string ⟨#[]⟩] A.length) 9)):=
  fun W=>run_make_row' 70 9 (.string ⟨#[]⟩) 16 (by kernel_rfl) Kjq rfl .i64 .i64 A.length (by omega) (by omega) W
 obtain⟨_,c1⟩:=h.field
 obtain⟨a,cap,O,_⟩:=h.own.cells
 rw[Oa6,h.len]at O
 have X:=Jd h.cells
 have Z:∀ o,(w.alloc o).cell? ⟨s,1,none⟩=some sv:=fun o=>(Jnf w o _ _ X).trans c1
 subst O
 go_enter func45,ntmps45
 go_wp2
 clear U
 go_loopw [17] (fun i wr=>∃ k:Nat,k≤A.length∧i=.int .i64 k∧wr.rowIs w.heap.size 9 A.length (fun j=>if j<k then Kty A j else .string ⟨#[]⟩)∧Below w.heap.size w wr) (fun i _=>A.length-(intOf i).toNat)
 case atStart=>exact⟨0,Ob7 _,rfl,(Ol3 w _ _ _).congr fun j K=>by simp,(Oa5 _ _).alloc (Oa2 _) _⟩
 case round=>
  obtain⟨k,hk,rfl,H,J⟩:=hrel
  by_cases L:k<A.length
  ·obtain⟨b,o,N,c2,Y⟩:=(h.below J).at L
   simp at N
   subst N
   obtain⟨bh,bi,bb,bc,hs,R⟩:=Y
   obtain⟨bf,_,_,_,_⟩:=R.field
   have c3:=H.cell L
   have c4:=H.frozen k
   simp only[Oe3,if_false]at c3
   go_wp2
   go_roundw
   case rel=>
    refine⟨k+1,by omega,by go_num,(H.set k _).congr fun j K=>?_,J.setCell (p:=⟨w.heap.size,k,none⟩) (Oa2 _) _⟩
    by_cases e:j=k
    ·subst e
     simp[Kty,L]
    by_cases M:j<k
    ·have I:j<k+1:=by omega
     simp[e,M,I]
    have I:¬ j<k+1:=by omega
    simp[e,M,I]
   case measure=>simp[intOf];omega
  obtain rfl:k=A.length:=by omega
  go_wp2
  go_ret
  exact⟨rfl,H.congr fun j K=>by simp[K],J⟩
structure Jid (D:DS) (T:TS):Prop where
 cols:1≤T.types.length∧T.types.length≤6
 rows:T.rows≤200
 group:1≤T.group∧T.group≤64
 count:T.segs.length=ckN T.rows T.group*T.types.length
 segs:∀ l∈T.segs,l≠[]∧l.length≤1000
 full:∀ l∈T.segs,∀ t,Uf D l=.inl t→t≠[]∧Kje t
def Jgp (D:DS)(T:TS):List (List V)⊕Nat:=(Jkh D T.types T.segs (List.replicate T.rows (List.replicate T.types.length Jf)) (cks T.rows T.group (ckN T.rows T.group))).1
def Zo (D:DS)(T:TS):List (List V)⊕Nat:=(Jfx D T.types T.segs (List.replicate T.types.length []) (cks T.rows T.group (ckN T.rows T.group))).1
theorem Jmq (D:DS)(T:TS)(A:1≤T.group):Jgp D T=Sum.map (Qf T.rows) id (Zo D T)∧∀ cs,Zo D T=.inl cs→cs.length=T.types.length∧∀ c,c<cs.length→(cs.getD c []).length=T.rows:=by
 obtain⟨H,I⟩:=Jwa D T.types T.segs T.rows T.group A (fun l t m vs h=>Jnk h) (ckN T.rows T.group) (Oa2 _)
 refine⟨H,fun cs h=>?_⟩
 obtain⟨K,L⟩:=I cs h
 refine⟨K,fun c J=>?_⟩
 rw[L c J]
 exact Ol4 (Jcy A)
def Jrr (w:World)(et pg:Addr)(r:Option (List (List V)⊕Nat))(e:Ending)(w':World):Prop:=
 Below w.heap.size w w'∧match r with
  |none=>e=.returned (.tuple #[.slice none 0 0,.iface 528 (.pointer (some et))])
  |some (.inl cs)=>∃ g A,e=.returned (.tuple #[.slice (some ⟨g,0,none⟩) cs.length cs.length,.nilIface])∧Jar w' w.heap.size g A cs
  |some (.inr j)=>∃ b,e=.returned (.tuple #[.slice none 0 0,.iface 187 (.pointer (some ⟨b,0,none⟩))])∧w.heap.size≤b∧Yu w' (.iface 187 (.pointer (some ⟨b,0,none⟩))) pg (some (-1)) (some (j:Int))
def Jf8 (D:DS)(A:List TS)(n:ByteArray):Option (List (List V)⊕Nat):=(A[Ub A n]?).map (Jgp D)
def Jcm (D:DS)(A:List TS)(n:ByteArray):Option (List (List V)⊕Nat):=(A[Ub A n]?).map (Zo D)
theorem Keq (D:DS)(A:List TS)(n:ByteArray)(L:∀ T∈A,Jid D T):(Jcm D A n=none∧Jf8 D A n=none)∨(∃ j,Jcm D A n=some (.inr j)∧Jf8 D A n=some (.inr j))∨∃ cs m,Jcm D A n=some (.inl cs)∧Jf8 D A n=some (.inl (Qf m cs))∧m≤200∧1≤cs.length∧cs.length≤6∧∀ c,c<cs.length→(cs.getD c []).length=m:=by
 unfold Jcm Jf8
 cases h:A[Ub A n]? with
 |none=>exact .inl ⟨rfl,rfl⟩
 |some T=>
  have H:=L T (Of6 h)
  obtain⟨J,K⟩:=Jmq D T H.group.1
  simp only[Option.map_some]
  rw[J]
  cases hc:Zo D T with
  |inr j=>exact .inr (.inl ⟨j,rfl,rfl⟩)
  |inl cs=>
   obtain⟨I,M⟩:=K cs hc
   exact .inr (.inr ⟨cs,T.rows,rfl,rfl,H.rows,by rw[I];exact H.cols.1,by rw[I];exact H.cols.2,M⟩)
theorem Jou (n:ByteArray)(w:World)(F G:Nat→Prop)(s d:Nat)(D:DS)(A:List TS)(sv:Value)(bs:List Nat)(h:Jfl w G s d A sv bs)(bG:Zb w F d D)(Z:∀ T∈A,Jid D T)(bf bh bi:Addr)(bH:Jf0 w bf bh bi)(et pg:Addr)(bJ:w.cell? ⟨6,0,none⟩=some (.iface 528 (.pointer (some pg))))(bI:w.cell? ⟨0,0,none⟩=some (.iface 528 (.pointer (some et)))) :
  Calls prog 76 #[.pointer (some ⟨s,0,none⟩),.string n] w fun e w'=>Jrr w et pg (Jcm D A n) e w':=by
 have N:=Jo8 n w G s d A sv bs h
 have bQ:=run_neq_nil_nil (P:=prog)
 by_cases M:Ub A n<A.length
 ·have O:Jhc A n=(Ub A n:Int):=by unfold Jhc;rw[if_pos M]
  have bj:Jcm D A n=some (Zo D A[Ub A n]):=by simp[Jcm,M]
  rw[O]at N
  generalize hk:Ub A n=k at *
  have J:=Z _ (Ob3 M)
  have bc:Hid (∀ W b,Below w.heap.size w W→Jmg W G b A[k]→Calls prog 105 #[.pointer (some ⟨s,0,none⟩),.pointer (some ⟨b,0,none⟩)] W fun e w'=>Ji1 W pg (Zo D A[k]) e w'):=fun W b I bD=>
   Kas s d b A[k] W F G D (bG.below I) (Ja I h.field.1) bD J.cols J.rows J.group.1 J.group.2 J.count J.segs J.full bf bh bi (bH.below I) pg (Ja I bJ)
  have R:Hid (Jcm D A n=some (Zo D A[k])):=bj
  obtain⟨b,o,br,c2,bb⟩:=h.at M
  obtain⟨_,c1⟩:=h.field
  obtain⟨a,cap,bu,_⟩:=h.own.cells
  rw[Oa6,h.len]at bu
  subst bu
  simp at br
  subst br
  have bP:=h.few
  generalize bs[k]'_=tk at c2 bb
  have bn:=fun W I=>bc.out W tk I (bb.stands I.size fun x _ bK=>I.block x bK)
  have U:Hid (∀ W,Below w.heap.size w W→Calls prog 105 #[.pointer (some ⟨s,0,none⟩),.pointer (some ⟨tk,0,none⟩)] W fun e w'=>Ji1 W pg (Zo D A[k]) e w'):=bn
  clear bj O Z J hk h bn bc bb
  generalize bR:Zo D A[k]=r at *
  rcases r with rs|j
  ·have ba:Hid (∀ W,Below w.heap.size w W→Calls prog 105 #[.pointer (some ⟨s,0,none⟩),.pointer (some ⟨tk,0,none⟩)] W fun e w'=>Below W.heap.size W w'∧∃ g bs,e=.returned (.tuple #[.slice (some ⟨g,0,none⟩) rs.length rs.length,.nilIface])∧Jar w' W.heap.size g bs rs):=U.out
   clear U
   go_enter func76,ntmps76
   go_wp2_with (first|(go_at_call 73;refine N.mono ?_;rintro e X ⟨rfl,H⟩;have bx:=Ja H c1;have bz:=Ja H c2)|(go_at_call 105;refine(ba.out X H).mono ?_;rintro e K ⟨Y,g,bA,rfl,L⟩))
   go_ret2
   rw[R.out]
   exact⟨Jb H Y,g,bA,rfl,⟨L.row,Ob2 H.size L.low,L.len,fun i hi=>(L.own i hi).mono H.size,L.ne,L.apart⟩⟩
  have ba:Hid (∀ W,Below w.heap.size w W→Calls prog 105 #[.pointer (some ⟨s,0,none⟩),.pointer (some ⟨tk,0,none⟩)] W fun e w'=>Below W.heap.size W w'∧∃ b,e=.returned (.tuple #[.slice none 0 0,.iface 211 (.pointer (some ⟨b,0,none⟩))])∧W.heap.size≤b∧Yu w' (.iface 211 (.pointer (some ⟨b,0,none⟩))) pg none (some (j:Int))):=U.out
  clear U
  go_enter func76,ntmps76
  go_wp2_with (first|(go_at_call 73;refine N.mono ?_;rintro e X ⟨rfl,H⟩;have bx:=Ja H c1;have bz:=Ja H c2)|(go_at_call 105;refine(ba.out X H).mono ?_;rintro e K ⟨Y,be,rfl,bN,bE⟩))
  go_ret2
  rw[R.out]
  have bk:=Jb H Y
  have bl:Below K.heap.size K (K.alloc (.cells #[.string n,.int .i64 (-1),.iface 211 (.pointer (some ⟨be,0,none⟩))] 189)):=(Oa5 _ _).alloc (Oa2 _) _
  obtain⟨_,bL,bM⟩:=Kil K (.string n) (.int .i64 (-1)) (.iface 211 (.pointer (some ⟨be,0,none⟩))) 189
  obtain⟨bB,bC⟩:=bE.disk_at
  exact⟨Jc bk _,K.heap.size,rfl,bk.size,.both K.heap.size be pg (-1) j bL bM (Ja bl bB) (Ja bl bC)⟩
 have O:Jhc A n=-1:=by unfold Jhc;rw[if_neg M]
 have R:Hid (Jcm D A n=none):=by show _=_;simp[Jcm];omega
 rw[O]at N
 clear O M Z h
 go_enter func76,ntmps76
 go_wp2_with (first|(go_at_call 73;refine N.mono ?_;rintro e X ⟨rfl,H⟩;have bO:=Ja H bI))
 go_quiet (fail)
 go_wp2
 go_ret2
 rw[R.out]
 exact⟨Jp H _,rfl⟩
end Go.Proofs.YtcaocabmioafcaaGreatDoor
