/- The text that lies on pages: read, or the first page that is spoilt. -/
import Derived.Test.YtcaocabmioafcaaGreatDoorDg
import Derived.Test.YtcaocabmioafcaaGreatDoorKe
import Derived.Test.YtcaocabmioafcaaGreatDoorKk
import Derived.RangeFuncBox
import Derived.Maps.OwnIn
import Derived.Maps.AppendAt
set_option maxHeartbeats 2000000
set_option maxRecDepth 100000
namespace Go.Proofs.YtcaocabmioafcaaGreatDoor
section
open Go.RowKit Tryz
def Uf (D:DS):List Nat→List UInt8⊕Nat
 |[]=>.inl []
 |i::l=>match (D.pages.getD i none).bind Jd2 with
  |none=>.inr i
  |some t=>match Uf D l with
   |.inl u=>.inl (t++u)
   |.inr j=>.inr j
theorem Jrf {p t:List UInt8}(h:Jd2 p=some t):t.length≤56:=by
 unfold Jd2 at h
 split at h
 ·simp at h
 simp at h
 subst h
 rename_i A
 rw[Oa0]at A
 rw[Oc7]
 omega
theorem Jv5 {D:DS}{l:List Nat}(k:Nat)(hk:k<l.length)(t u:List UInt8)(A:(D.pages.getD l[k] none).bind Jd2=some u)(h:Uf D l=(match Uf D (l.drop k)with|.inl r=>.inl (t++r)|.inr j=>.inr j)) :
  Uf D l=(match Uf D (l.drop (k+1))with|.inl r=>.inl ((t++u)++r)|.inr j=>.inr j):=by
 rw[h,Oi1 hk]
 simp only[Uf,A]
 cases Uf D (l.drop (k+1))<;>simp
theorem Jo9 {D:DS}{l:List Nat}(k:Nat)(hk:k<l.length)(t:List UInt8)(A:(D.pages.getD l[k] none).bind Jd2=none)(h:Uf D l=(match Uf D (l.drop k)with|.inl r=>.inl (t++r)|.inr j=>.inr j)):Uf D l=.inr l[k]:=by
 rw[h,Oi1 hk]
 simp only[Uf,A]
theorem Je0 {l:List (Option (List UInt8))}{i:Nat}(h:Jai l (i:Int)=false):l.getD i none=none:=by
 cases hq:l.getD i none with
 |none=>rfl
 |some p=>
  rw[Oa0]at hq
  have:l[i]?=some (some p):=by
   cases hh:l[i]? with
   |none=>rw[hh]at hq;simp at hq
   |some x=>rw[hh]at hq;simp at hq;rw[hq]
  rw[Jtc this]at h
  simp at h
theorem Jfv (n:Int)(w:World)(pg:Addr)(A:w.cell? ⟨6,0,none⟩=some (.iface 528 (.pointer (some pg)))) :
  Calls prog 169 #[.int .i64 n] w fun e w'=>Below w.heap.size w w'∧∃ b,e=.returned (.iface 211 (.pointer (some ⟨b,0,none⟩)))∧w.heap.size≤b∧Yu w' (.iface 211 (.pointer (some ⟨b,0,none⟩))) pg none (some n):=by
 go_enter func169,ntmps169
 go_wp2
 go_ret
 exact⟨(Oa5 _ w).alloc (Oa2 _) _,_,rfl,Oa2 _,Jwl w pg n⟩
def Keo (w:World)(pg:Addr)(r:List UInt8⊕Nat)(e:Ending)(w':World):Prop:=
 Below w.heap.size w w'∧match r with
  |.inl t=>e=.returned (.tuple #[.string (Qw t),.nilIface])
  |.inr i=>∃ b,e=.returned (.tuple #[.string ⟨#[]⟩,.iface 211 (.pointer (some ⟨b,0,none⟩))])∧w.heap.size≤b∧Yu w' (.iface 211 (.pointer (some ⟨b,0,none⟩))) pg none (some (i:Int))
theorem Jzx {w:World}{F:Nat→Prop}{d:Nat}{D:DS}{sv:Value}{A:List (Option Nat)}(h:Jf1 w F d D sv A)(i:Nat)(U:Jai D.pages (i:Int)=true) :
  ∃ g cap b p,sv=.slice (some ⟨g,0,none⟩) A.length cap∧i<A.length∧w.cell? ⟨g,i,none⟩=some (.pointer (some ⟨b,0,none⟩))∧D.pages.getD i none=some p∧Jdp w b p:=by
 obtain⟨p,J⟩:=Jf3 U
 obtain⟨a,cap,N,M⟩:=h.list
 have H:i<A.length:=by
  rw[h.len]
  rcases Oc1 i D.pages.length with I|I
  ·exact I
  rw[Ob4 I]at J;simp at J
 obtain⟨g,rfl,_,_,cg,_⟩:=M i H
 have K:=h.which i H
 rw[Oa0,J]at K
 obtain⟨b,L⟩:∃ b,A[i]=some b:=by
  cases hq:A[i]with
  |none=>rw[hq]at K;simp at K
  |some b=>exact⟨b,rfl⟩
 obtain⟨_,_,_,X,O,R⟩:=h.page i b (by rw[←L];simp[H])
 rw[L]at cg
 exact⟨g,cap,b,X,N,H,cg,by rw[Oa0,O];rfl,R⟩
theorem Kag (d:Nat)(a:Option Addr)(cap:Nat)(l:List Nat)(w:World)(F:Nat→Prop)(D:DS)(h:Zb w F d D)(L:Uh w a (l.map nv))(bH:l.length≤1000000)(pg:Addr)(bz:w.cell? ⟨6,0,none⟩=some (.iface 528 (.pointer (some pg))))(R:∀ t,Uf D l=.inl t→t≠[]) :
  Calls prog 167 #[.pointer (some ⟨d,0,none⟩),.slice a l.length cap] w fun e w'=>Keo w pg (Uf D l) e w':=by
 go_enter func167,ntmps167
 go_wp2
 go_loopw [13] (fun i wr=>∃ (k:Nat) (t:List UInt8),k≤l.length∧t.length≤56*k∧i=.int .i64 k∧Jkw wr w.heap.size w.heap.size t∧Below w.heap.size w wr∧Hid (Uf D l=(match Uf D (l.drop k)with|.inl r=>.inl (t++r)|.inr j=>.inr j))) (fun i _=>l.length-(intOf i).toNat)
 case atStart=>exact⟨0,[],Ob7 _,by simp,rfl,Jkw.new w _ (Oa2 _),(Oa5 _ _).alloc (Oa2 _) _,by show _=_;rw[List.drop_zero];cases Uf D l<;>rfl⟩
 case round=>
  rename_i i
  obtain⟨k,t,hk,bI,rfl,bh,A,I⟩:=hrel
  by_cases O:k<l.length
  ·rcases L with L|⟨b,o,rfl,bn,L⟩
   ·simp at L;subst L;simp at O
   have bD:wr.cell? ⟨b,o+k,none⟩=some (.int .i64 ((l[k]:Nat):Int)):=by rw[(Kx A).1 b (o+k) bn];exact L k _ (by simp[O];rfl)
   have bi:=Ja A bz
   have bf:=h.below A
   have N:=Jwv d (l[k]:Int) wr F D bf
   have bj:=Jfv (l[k]:Int) wr pg bi
   by_cases J:Jai D.pages ((l[k]:Nat):Int)=true
   ·rw[J]at N
    obtain⟨sv,bC,Z⟩:=bf
    obtain⟨_,_,_,_,_,c5⟩:=Z.field
    obtain⟨g,cp,bp,p,rfl,bE,cg,X,bx⟩:=Jzx Z l[k] J
    have Y:=Ke1 bp p wr bx
    have bG:((l[k]:Nat):Int)<(bC.length:Int):=by omega
    cases ho:Jd2 p with
    |none=>
     have K:Hid (Uf D l=.inr l[k]):=Jo9 k O t (by rw[X];exact ho) I.out
     rw[ho]at Y
     clear I R X J Z ho
     generalize l[k]=i at *
     go_wp2_with (first|(go_at_call 80;refine N.mono ?_;rintro e w' ⟨rfl,bk⟩;subst w')|(go_at_call 196;refine Y.mono ?_;rintro e U ⟨rfl,H⟩;have bA:=Jfv (i:Int) U pg (Ja H bi))|(go_at_call 169;refine bA.mono ?_;rintro e bc ⟨M,b2,rfl,ba,bb⟩))
     go_ret2
     rw[K.out]
     exact⟨Jb A (Jb H M),b2,rfl,Ob2 A.size (Ob2 H.size ba),bb⟩
    |some u=>
     have bl:Hid (Uf D l=(match Uf D (l.drop (k+1))with|.inl r=>.inl ((t++u)++r)|.inr j=>.inr j)):=Jv5 k O t u (by rw[X];exact ho) I.out
     have bJ:=Jrf ho
     rw[ho]at Y
     clear I R X J Z ho bj
     generalize l[k]=i at *
     go_wp2_with (first|(go_at_call 80;refine N.mono ?_;rintro e w' ⟨rfl,bk⟩;subst w')|(go_at_call 196;refine Y.mono ?_;rintro e U ⟨rfl,H⟩;have br:=Jv2 w.heap.size w.heap.size t u U (bh.below H) (by omega) (Ob2 A.size H.size))|(go_at_call 197;refine br.mono ?_;rintro e bc ⟨rfl,bu,M⟩))
     go_roundw
     case rel=>exact⟨k+1,t++u,by omega,by simp;omega,by go_num,bu,(Jb A H).trans M,bl.out⟩
     case measure=>simp[intOf];omega
   rw[Oo1]at J
   rw[J]at N
   have K:Hid (Uf D l=.inr l[k]):=Jo9 k O t (by rw[Je0 J];rfl) I.out
   clear I R
   generalize l[k]=i at *
   go_wp2_with (first|(go_at_call 80;refine N.mono ?_;rintro e w' ⟨rfl,bk⟩;subst w')|(go_at_call 169;refine bj.mono ?_;rintro e bc ⟨M,b2,rfl,ba,bb⟩))
   go_ret2
   rw[K.out]
   exact⟨Jb A M,b2,rfl,Ob2 A.size ba,bb⟩
  obtain rfl:k=l.length:=by omega
  have K:Hid (Uf D l=.inl t):=by show _=_;rw[I.out,List.drop_length];simp[Uf]
  have bB:=Jsp w.heap.size w.heap.size t wr bh (R t K.out)
  clear I R
  go_wp2_with (go_at_call 198;refine bB.mono ?_;rintro e U ⟨rfl,H⟩)
  go_ret2
  rw[K.out]
  exact⟨A.trans H,rfl⟩
def Jaj (rs:List (List V))(c:Nat):List V:=rs.map fun r=>r.getD c Jf
theorem Kj6 (rs:List (List V))(c k:Nat)(hk:k<rs.length):Jaj (rs.take (k+1)) c=Jaj (rs.take k) c++[rs[k].getD c Jf]:=by
 unfold Jaj
 rw[Oc4 hk,Ob8]
 rfl
theorem Kj5 (a:Option Addr)(cap:Nat)(hs:List (Option Addr×Nat))(rs:List (List V))(c:Nat)(w:World)(Z:rs.length≤1000)(bc:Zd w a hs rs)(K:∀ r∈rs,c<r.length)(O:∀ r∈rs,r.length≤1000) :
  Calls prog 129 #[.slice a rs.length cap,.int .i64 (c:Int)] w fun e w'=>∃ v,e=.returned v∧Jc9 w w' (Jaj rs c) v∧Below w.heap.size w w':=by
 obtain⟨C,Y,ba⟩:=Jl9 rs.length Z w
 have R:Hid (∀ r∈rs,c<r.length):=K
 have U:Hid (∀ r∈rs,r.length≤1000):=O
 clear K O
 go_enter func129,ntmps129
 go_wp2
 clear Y
 go_loopw [13] (fun i wr=>∃ k:Nat,k≤rs.length∧i=.int .i64 k∧Kv wr w.heap.size (Jaj (rs.take k) c++List.replicate (rs.length-k) Jf) []∧Below w.heap.size w wr) (fun i _=>rs.length-(intOf i).toNat)
 case atStart=>exact⟨0,by omega,rfl,by simpa [Jaj] using ba,(Oa5 _ _).alloc (Oa2 _) _⟩
 case round=>
  obtain⟨k,hk,rfl,N,H⟩:=hrel
  by_cases A:k<rs.length
  ·obtain⟨b,o,br,bu,rfl,bk,bf,bb⟩:=(bc.below H).at A
   have L:=R.out _ (Ob3 A)
   have bn:=U.out _ (Ob3 A)
   obtain⟨b2,o2,rfl,bl,bx,bz,bA⟩:=bb.at L
   have I:(Jaj (rs.take k) c).length=k:=by simp[Jaj];omega
   have M:(Jaj (rs.take k) c++List.replicate (rs.length-k) Jf).length=rs.length:=by rw[Oa8,I,Od6];omega
   obtain⟨old,⟨c0,bh⟩,⟨c1,bi⟩,⟨c2,bj⟩,J⟩:=N.put rs[k][c] k (by rw[M];exact A)
   rw[Jna _ k rs.length _ I A]at J
   have X:Hid (Kv (((wr.setCell ⟨w.heap.size,k*3,none⟩ (.int .i64 rs[k][c].k)).setCell ⟨w.heap.size,k*3+1,none⟩ (.int .i64 rs[k][c].n)).setCell ⟨w.heap.size,k*3+2,none⟩ (.string rs[k][c].s)) w.heap.size (Jaj (rs.take (k+1)) c++List.replicate (rs.length-(k+1)) Jf) []):=by
    rw[Kj6 rs c k A]
    have:rs[k].getD c Jf=rs[k][c]:=by simp[L]
    rw[this]
    exact J
   clear J I M
   go_wp2
   go_roundw
   case rel=>exact⟨k+1,by omega,by go_num,X.out,((H.setCell (p:=⟨w.heap.size,k*3,none⟩) (Oa2 _) _).setCell (p:=⟨w.heap.size,k*3+1,none⟩) (Oa2 _) _).setCell (p:=⟨w.heap.size,k*3+2,none⟩) (Oa2 _) _⟩
   case measure=>simp[intOf];omega
  obtain rfl:k=rs.length:=by omega
  go_wp2
  go_ret
  refine⟨_,rfl,⟨w.heap.size,?_,Oa2 _,by simpa using N⟩,H⟩
  simp[Jaj]
def Us (D:DS)(l:List Nat)(typ:Int)(n:Nat):List V⊕Nat:=
 match Uf D l with
 |.inr j=>.inr j
 |.inl t=>match Jbf t with
  |some (ty,_,vs)=>if (ty:Int)=typ∧vs.length=n then .inl vs else .inr (l.getD 0 0)
  |none=>.inr (l.getD 0 0)
def Jl8 (w:World)(pg:Addr)(r:List V⊕Nat)(e:Ending)(w':World):Prop:=
 Below w.heap.size w w'∧match r with
  |.inl vs=>∃ b,e=.returned (.tuple #[.slice (some ⟨b,0,none⟩) vs.length vs.length,.nilIface])∧w.heap.size≤b∧Kv w' b vs []
  |.inr j=>∃ b,e=.returned (.tuple #[.slice none 0 0,.iface 211 (.pointer (some ⟨b,0,none⟩))])∧w.heap.size≤b∧Yu w' (.iface 211 (.pointer (some ⟨b,0,none⟩))) pg none (some (j:Int))
theorem Jsc (D:DS):∀ (l:List Nat) (t:List UInt8),Uf D l=.inl t→t.length≤56*l.length
 |[],t,h=>by simp[Uf]at h;subst h;simp
 |i::l,t,h=>by
  simp only[Uf]at h
  split at h
  ·simp at h
  rename_i u A
  have I:u.length≤56:=by
   cases hp:D.pages.getD i none with
   |none=>rw[hp]at A;simp at A
   |some p=>rw[hp]at A;exact Jrf A
  split at h
  ·rename_i r H
   have:=Jsc D l r H
   simp at h
   subst h
   simp
   omega
  simp at h
theorem Jqz (t:List UInt8)(hW:Kje t)(typ:Int)(n:Nat)(w:World)(A:t.length≤maxLen)(Y Z O:Addr)(R:Jf0 w Y Z O) :
  Calls prog 168 #[.string (Qw t),.int .i64 typ,.int .i64 (n:Int)] w fun e w'=>Below w.heap.size w w'∧((∃ ty H vs b,Jbf t=some (ty,H,vs)∧(ty:Int)=typ∧vs.length=n∧e=.returned (.tuple #[.slice (some ⟨b,0,none⟩) vs.length vs.length,.nilIface])∧w.heap.size≤b∧Kv w' b vs []) ∨
   ((∀ ty H vs,Jbf t=some (ty,H,vs)→¬ ((ty:Int)=typ∧vs.length=n))∧e=.returned (.tuple #[.slice none 0 0,.iface 528 (.pointer (some O))]))):=by
 have X:=Ki3 t hW w A Y Z O R
 clear hW
 have bl:=run_neq_nil_nil (P:=prog)
 go_enter func168,ntmps168
 go_wp2_with (first|(go_at_call 199;refine X.mono ?_))
 rintro e bk ⟨I,⟨L,rfl⟩|⟨ty,H,vs,b,L,rfl,bb,bf⟩⟩
 ·have c2:=Ja I R.c2
  have J:Hid (Jbf t=none):=L
  clear L X
  go_wp2
  go_quiet (fail)
  go_wp2
  go_ret2
  exact⟨Jp I _,.inr ⟨fun ty H vs h=>by rw[J.out]at h;simp at h,rfl⟩⟩
 have c2:=Ja I R.c2
 have J:Hid (Jbf t=some (ty,H,vs)):=L
 clear L X
 by_cases A:(ty:Int)=typ
 ·by_cases K:vs.length=n
  ·have ba:((ty:Int) != typ)=false:=by simp[A]
   have bh:(((vs.length:Nat):Int) != (n:Int))=false:=by simp[K]
   have N:Hid ((ty:Int)=typ):=A
   have M:Hid (vs.length=n):=K
   clear A K
   go_wp2
   go_ret2
   exact⟨I,.inl ⟨ty,H,vs,b,J.out,N.out,M.out,rfl,bb,bf⟩⟩
  have ba:((ty:Int) != typ)=false:=by simp[A]
  have bh:(((vs.length:Nat):Int) != (n:Int))=true:=by rw[bne_iff_ne];omega
  have M:Hid (¬ vs.length=n):=K
  clear A K
  go_wp2
  go_quiet (fail)
  go_wp2
  go_ret2
  refine⟨Jp I _,.inr ⟨fun bi bc bj h U=>?_,rfl⟩⟩
  rw[J.out]at h
  simp at h
  obtain⟨_,_,rfl⟩:=h
  exact M.out U.2
 have ba:((ty:Int) != typ)=true:=by rw[bne_iff_ne];exact A
 have N:Hid (¬ (ty:Int)=typ):=A
 clear A
 go_wp2
 go_quiet (fail)
 go_wp2
 go_ret2
 refine⟨Jp I _,.inr ⟨fun bi bc bj h U=>?_,rfl⟩⟩
 rw[J.out]at h
 simp at h
 obtain⟨rfl,_,_⟩:=h
 exact N.out U.1
theorem Jto (s d:Nat)(a:Option Addr)(cap:Nat)(l:List Nat)(typ:Int)(n:Nat)(w:World)(F:Nat→Prop)(D:DS)(h:Zb w F d D)(bL:w.cell? ⟨s,0,none⟩=some (.pointer (some ⟨d,0,none⟩)))(A:Uh w a (l.map nv))(bk:l≠[])(bE:l.length≤1000000)(L:∀ t,Uf D l=.inl t→t≠[]∧Kje t)(bf bh X:Addr)(bC:Jf0 w bf bh X)(pg:Addr)(bu:w.cell? ⟨6,0,none⟩=some (.iface 528 (.pointer (some pg)))) :
  Calls prog 142 #[.pointer (some ⟨s,0,none⟩),.slice a l.length cap,.int .i64 typ,.int .i64 (n:Int)] w fun e w'=>Jl8 w pg (Us D l typ n) e w':=by
 have N:=Kag d a cap l w F D h A bE pg bu fun t O=>(L t O).1
 have bl:0<l.length:=Oi9.2 bk
 have bK:=run_neq_nil_nil (P:=prog)
 cases hr:Uf D l with
 |inr j=>
  have K:Hid (Us D l typ n=.inr j):=by show _=_;simp[Us,hr]
  rw[hr]at N
  clear hr L
  go_enter func142,ntmps142
  go_wp2_with (first|(go_at_call 167;refine N.mono ?_;rintro e bc ⟨H,b,rfl,Y,Z⟩))
  go_ret2
  rw[K.out]
  exact⟨H,b,rfl,Y,Z⟩
 |inl t=>
  have bM:=Jsc D l t hr
  have hW:=(L t hr).2
  rw[hr]at N
  have ba:Hid (∀ W:World,Below w.heap.size w W→Calls prog 168 #[.string (Qw t),.int .i64 typ,.int .i64 (n:Int)] W fun e w'=>Below W.heap.size W w'∧((∃ ty J vs b,Jbf t=some (ty,J,vs)∧(ty:Int)=typ∧vs.length=n∧e=.returned (.tuple #[.slice (some ⟨b,0,none⟩) vs.length vs.length,.nilIface])∧W.heap.size≤b∧Kv w' b vs []) ∨
   ((∀ ty J vs,Jbf t=some (ty,J,vs)→¬ ((ty:Int)=typ∧vs.length=n))∧e=.returned (.tuple #[.slice none 0 0,.iface 528 (.pointer (some X))])))):=fun W bz=>Jqz t hW typ n W (by unfold maxLen;omega) bf bh X (bC.below bz)
  have bb:Hid (Uf D l=.inl t):=hr
  clear hW
  rcases A with A|⟨b0,o0,rfl,bJ,A⟩
  ·simp at A;exact absurd A bk
  have bi:w.cell? ⟨b0,o0,none⟩=some (.int .i64 ((l.getD 0 0:Nat):Int)):=by
   have:=A 0 _ (by simp[bl];rfl)
   rw[Nat.add_zero]at this
   rw[this]
   simp[bl,nv]
  obtain⟨R,U⟩:∃ R,Hid (l.getD 0 0=R):=⟨_,rfl⟩
  rw[U.out]at bi
  clear hr L A h
  go_enter func142,ntmps142
  go_wp2_with (first|(go_at_call 167;refine N.mono ?_;rintro e bc ⟨H,rfl⟩)|(go_at_call 168;refine(ba.out bc H).mono ?_))
  rintro e bx ⟨bj,⟨ty,J,vs,b,M,O,bn,rfl,Y,bD⟩|⟨br,rfl⟩⟩
  ·have K:Hid (Us D l typ n=.inl vs):=by show _=_;simp only[Us,bb.out,M];rw[if_pos ⟨O,bn⟩]
   have I:=Jb H bj
   clear M ba O bn
   go_wp2
   go_ret2
   rw[K.out]
   exact⟨I,b,rfl,Ob2 H.size Y,bD⟩
  have K:Hid (Us D l typ n=.inr R):=by
   show _=_
   simp only[Us,bb.out]
   cases M:Jbf t with
   |none=>simp only;exact congrArg _ U.out
   |some x=>
    obtain⟨ty,J,vs⟩:=x
    simp only
    rw[if_neg (br ty J vs M),U.out]
  have I:=Jb H bj
  have bG:=Jfv (R:Int) bx pg (Ja I bu)
  have bI:=Ja I bi
  clear br ba
  go_wp2_with (first|(go_at_call 169;refine bG.mono ?_;rintro e bH ⟨bA,b3,rfl,bB,Z⟩))
  go_ret2
  rw[K.out]
  exact⟨Jb I bA,b3,rfl,Ob2 I.size bB,Z⟩
end
section
open Go.RowKit Go.Shelf Tryz
attribute [local go_sem] Oc0
theorem Kiz {W A:World}(h:Below W.heap.size W A):KeepsOthers W A:=⟨h.size,fun k _ hk _=>(h.block k (Oe2.1 hk).1).trans hk⟩
theorem Kke (a:Option Addr)(len cap g:Nat)(H:1≤g)(w:World) :
  Calls prog 127 #[.slice a len cap,.int .i64 (g:Int)] w fun e w'=>e=.returned (.func (.func 157) #[] #[.pointer (some ⟨w.heap.size,0,none⟩),.pointer (some ⟨w.heap.size+1,0,none⟩)])∧w'=(w.alloc (.cells #[.slice a len cap] 28)).alloc (.cells #[.int .i64 (g:Int)] 3):=by
 have I:∀ (A:Fn) (first cap:Array Value) (w:World),(Instr.makeFunc A first cap).run prog w=.ok (.func A first cap) w:=fun _ _ _ _=>rfl
 go_enter func127,ntmps127
 go_wp2
 go_ret
 exact⟨rfl,rfl⟩
theorem Kj8 (n:Nat)(l A I:Nat)(a:Option Addr)(cap:Nat)(H:World→Prop)(W:World)(K:W.cell? ⟨A,0,none⟩=some (.slice a 0 cap))(h0:H W) :
  CallsIn Fence.wide n prog 157 #[.func (.yield l) #[] #[],.pointer (some ⟨A,0,none⟩),.pointer (some ⟨I,0,none⟩)] W fun e J=>(∃ v,e=.returned v)∧H J:=by
 refine callsIn_of_wp func157 rfl trivial ?_ rfl
 simp only[ntmps157,Om3,List.length_cons,List.length_nil,Nat.reduceAdd,Nat.reduceSub,Ok9,Array.replicate_zero,Om4,Ol2,List.nil_append,List.cons_append]
 gi_wp2
 gi_loopw [4] (fun i wr=>i=.int .i64 0∧H wr∧wr.cell? ⟨A,0,none⟩=some (.slice a 0 cap)) (fun _ _=>0)
 case atStart=>exact⟨rfl,h0,K⟩
 case round=>
  obtain⟨rfl,L,M⟩:=hrel
  gi_wp2
  go_end0
  exact⟨⟨_,rfl⟩,L⟩
def ckV (a:Option Addr)(x:Nat×Nat):Value:=match a with
 |some p=>.slice (some ⟨p.block,p.off+x.1,none⟩) x.2 x.2
 |none=>.slice none 0 0
theorem Kjw (n:Nat)(bj:1≤n)(H A:Nat)(a:Option Addr)(len cap g:Nat)(ba:1≤g)(bb:g≤64)(bi:len≤1000)(Y:len≤cap)(bk:len=0∨∃ b o,a=some ⟨b,o,none⟩)(w:World)(bh:H<w.heap.size)(bf:A<w.heap.size)
  (O:w.cell? ⟨H,0,none⟩=some (.slice a len cap)) (M:w.cell? ⟨A,0,none⟩=some (.int .i64 (g:Int))) :
  SeqStopsK Fence.wide n prog 157 #[.pointer (some ⟨H,0,none⟩),.pointer (some ⟨A,0,none⟩)] (fun x:Ck len=>#[ckV a x.1]) (KpC H A) (fun bl=>bl.map Subtype.val=cks len g (ckN len g)) (fun pre=>∃ k,k≤ckN len g∧pre.map Subtype.val=cks len g k) (ckN len g) w:=fun l I L W hW R _ X h0=>by
 have K:=(hW.cell (p:=⟨H,0,none⟩) bh).trans O
 have N:=(hW.cell (p:=⟨A,0,none⟩) bf).trans M
 have U:∀ s W,I s W→I s W.drew:=fun s J h=>R s J J.drew none h ⟨rfl,rfl,rfl,Oa2 _,fun _ _ _=>rfl⟩ (fun r e=>by cases e)
 rcases bk with h|⟨b,o,rfl⟩
 ·subst h
  refine(Kj8 n l H A a cap (I []) W K h0).mono fun e J ⟨Z,bc⟩=>⟨Z,.inl ⟨[],?_,bc⟩⟩
  have:ckN 0 g=0:=by unfold ckN;exact Nat.div_eq_of_lt (by omega)
  rw[this];rfl
 exact Kkd n bj l H A b o len cap g ba bb bi Y I L X U W K N h0
def Uo (rows:List (List V))(ts hs:List Int)(c:Nat):List UInt8×Int:=Jev (ts.getD c 0) (hs.getD c 0) (Jaj rows c)
def Jeo (rows:List (List V))(ts hs:List Int):Nat→List (List UInt8)⊕Nat
 |0=>.inl []
 |k+1=>match Jeo rows ts hs k with
  |.inr c=>.inr c
  |.inl l=>if (Uo rows ts hs k).2=0 then .inl (l++[(Uo rows ts hs k).1])else .inr k
theorem Jjc (rows:List (List V))(ts hs:List Int):∀ (k:Nat) (l:List (List UInt8)),Jeo rows ts hs k=.inl l→l.length=k
 |0,l,h=>by simp[Jeo]at h;subst h;rfl
 |k+1,l,h=>by
  simp only[Jeo]at h
  split at h
  ·simp at h
  rename_i H A
  split at h
  ·simp at h
   subst h
   simp[Jjc rows ts hs k H A]
  simp at h
theorem Kkc (rows:List (List V))(ts hs:List Int)(c:Nat):∀ (k m:Nat),Jeo rows ts hs k=.inr c→k≤m→Jeo rows ts hs m=.inr c:=by
 intro k m h H
 induction m with
 |zero=>
      have:k=0:=by omega
      subst this;exact h
 |succ m A=>
  by_cases e:k=m+1
  ·subst e;exact h
  simp only[Jeo,A (by omega)]
def Uk (rs:List (List V))(x:Nat×Nat):List (List V):=(rs.drop x.1).take x.2
def Jiu (rs:List (List V))(ts hs:List Int)(A:List (List UInt8)⊕Nat)(x:Nat×Nat):List (List UInt8)⊕Nat:=
 match A with
 |.inr c=>.inr c
 |.inl T=>match Jeo (Uk rs x) ts hs ts.length with
  |.inl l=>.inl (T++l)
  |.inr c=>.inr c
def Jfg (rs:List (List V))(ts hs:List Int)(xs:List (Nat×Nat)):List (List UInt8)⊕Nat:=xs.foldl (Jiu rs ts hs) (.inl [])
theorem Juv (rs:List (List V))(ts hs:List Int)(xs:List (Nat×Nat))(x:Nat×Nat):Jfg rs ts hs (xs++[x])=Jiu rs ts hs (Jfg rs ts hs xs) x:=by simp[Jfg]
theorem Kkl (rs:List (List V))(ts hs:List Int)(xs A:List (Nat×Nat))(c:Nat)(h:Jfg rs ts hs xs=.inr c):Jfg rs ts hs (xs++A)=.inr c:=by
 have I:∀ A:List (Nat×Nat),A.foldl (Jiu rs ts hs) (.inr c)=.inr c:=by
  intro A
  induction A with
  |nil=>rfl
  |cons y A H=>exact H
 unfold Jfg at h ⊢
 rw[Ol1,h,I]
theorem Jvd (len g k m:Nat)(h:k≤m):∃ A,cks len g m=cks len g k++A:=by
 obtain⟨d,rfl⟩:=Nat.exists_eq_add_of_le h
 exact⟨(List.range d).map (fun i=>Jaa len g (k+i)),by simp[cks,List.range_add]⟩
theorem Zd.piece {w:World}{a:Option Addr}{hs:List (Option Addr×Nat)}{rs:List (List V)}(h:Zd w a hs rs)(x:Ck rs.length):∃ K R,ckV a x.1=.slice K (Uk rs x.1).length x.1.2∧Zd w K R (Uk rs x.1):=by
 obtain⟨⟨o,m⟩,U,X,Y⟩:=x
 simp only at U X Y
 have O:(Uk rs (o,m)).length=m:=by unfold Uk;simp;omega
 rcases h.cells with J|⟨b,M,rfl,N,J⟩
 ·have:=congrArg List.length J
  simp[h.len]at this
  have:=Od3.2 this
  omega
 refine⟨some ⟨b,M+o,none⟩,(hs.drop o).take m,by simp[ckV,O],⟨by simp[Uk,h.len],.inr ⟨b,M+o,rfl,N,fun i v H=>?_⟩,fun i y r L I=>?_⟩⟩
 ·have hi:i<m:=by
   rcases Oc1 i m with A|A
   ·exact A
   ·rw[Ob4 (by simp[Uk];omega)]at H;simp at H
  rw[On5]
  refine J (o+i) v ?_
  rw[Ok5]at H ⊢
  simp only[Uk,Oh3 hi,Oh9]at H
  exact H
 have hi:i<m:=by
  rcases Oc1 i m with A|A
  ·exact A
  ·rw[Ob4 (by simp[Uk];omega)]at I;simp at I
 simp only[Uk,Oh3 hi,Oh9]at L I
 exact h.rows (o+i) y r L I
end
end Go.Proofs.YtcaocabmioafcaaGreatDoor
