/- Expressions worked on a batch: what a part is worth on a row, and what comes of a method's call. -/
import Derived.Test.YtdlgbphkaicfaaaGreatDoorXe
set_option maxRecDepth 100000
namespace Go.Proofs.YtdlgbphkaicfaaaGreatDoor
open Go.RowKit Go.Shelf Tryz
attribute [local go_sem] Oc0
def opR (op:Int):V→V→V×Nat:=
 if op=2 then Kd Jik else if op=3 then Kd Jiw else if op=4 then Kd Jkj else if op=5 then Kd Jg4 else if op=6 then Kd Jsg else if op=7 then Kd Jkc else if op=8 then Jse else if op=9 then orR else if op=10 then Kd Ju0 else Jle
theorem Jdj (cs:List (List V))(i j:Nat)(y:j<cs.length):(Ji cs i).getD j Jf=(cs.getD j []).getD i Jf:=by
 unfold Ji
 rw[Oa0,Ob1,Oa3 y,Oa0 (l:=cs),Oa3 y]
 rfl
def Qp (p:Pt)(x done:List V):V×Nat:=
 if p.op=0 then (x.getD p.c.toNat Jf,0)else if p.op=1 then (p.v,0)else opR p.op (done.getD p.l.toNat Jf) (done.getD (if p.op≤9 then p.r else p.l).toNat Jf)
def Zv (op:Int):Nat:=if op=0 then 174 else if op=1 then 175 else if op=2 then 176 else if op=3 then 177 else if op=4 then 178 else if op=5 then 179 else if op=6 then 180 else if op=7 then 181 else if op=8 then 182 else if op=9 then 183 else if op=10 then 184 else 185
structure Jr0 (W k:Nat) (p:Pt):Prop where
 lo:0≤p.op
 hi:p.op≤11
 col:p.op=0→0≤p.c∧p.c<W
 con:p.op=1→p.v.s.size≤255∧Jg p.v.n
 left:2≤p.op→0≤p.l∧p.l<k
 right:2≤p.op→p.op≤9→0≤p.r∧p.r<k
structure Jha (w:World) (b g:Nat) (hs:List (Option Addr×Nat)) (cs:List (List V)):Prop where
 ne:g≠b
 cell:∀ j,j<cs.length→w.cell? ⟨g,j,none⟩=some (.slice (Yo hs j).1 (cs.getD j []).length (Yo hs j).2)
 vals:∀ j,j<cs.length→Jv w (Yo hs j).1 (cs.getD j [])
 off:∀ j,j<cs.length→∀ g' o,(Yo hs j).1=some ⟨g',o,none⟩→g'≠b
theorem Jv.keep {b:Nat}{w w':World}{a:Option Addr}{vs:List V}(h:Jv w a vs)(y:Ju (·=b) w w')(D:∀ g o,a=some ⟨g,o,none⟩→g≠b):Jv w' a vs:=h.of_block y.size fun g o e A=>y.block g A (D g o e)
theorem Jha.keep {w w':World}{b g:Nat}{hs:List (Option Addr×Nat)}{cs:List (List V)}(h:Jha w b g hs cs)(A:Ju (·=b) w w'):Jha w' b g hs cs:=
 ⟨h.ne,fun j y=>A.cell (h.cell j y) h.ne,fun j y=>(h.vals j y).keep A (h.off j y),h.off⟩
theorem Jbi.val {B y:Nat}{D H:Addr}{b:Nat}{ex A:Value}{first n:Nat}{K E:Value}{k:Nat}{w w':World}{f g:Nat→V×Nat}{e:Ending}(h:Jbi B y D H b ex A first n K E k w f e w')(M:∀ i,f i=g i):Jbi B y D H b ex A first n K E k w g e w':=by
 rwa [show f=g from funext M]at h
theorem Kcm (B D b:Nat)(ex:Value)(first n:Nat)(ba cap:Nat)(hs:List (Option Addr×Nat))(cols:List (List V))(bc Z:Value)(bP:List (Option Addr×Nat))(ps:List (List V))(p:Pt)(X bb:Addr)(w:World)
  (hW:Uz w b ex (.slice (some ⟨ba,0,none⟩) cols.length cap) first n bc Z) (bi:Jha w b ba hs cols) (bL:∀ j,j<cols.length→n≤(cols.getD j []).length) (bJ:∀ j,j<cols.length→∀ g o,(Yo hs j).1=some ⟨g,o,none⟩→g<B) (bG:B≤w.heap.size) (bK:∀ j,j<cols.length→(cols.getD j []).length≤D) (E:n≤D)
  (bI:ps.length=0∨∃ bh cp,bc=.slice (some ⟨bh,0,none⟩) ps.length cp∧Jha w b bh bP ps) (bD:∀ j,j<ps.length→n≤(ps.getD j []).length) (bE:∀ j,j<ps.length→∀ i,i<n→Jg ((ps.getD j []).getD i Jf).n)
  (U:Jr0 cols.length ps.length p) (hn:n≤100000) (hf:first+n≤10000000) (bH:Jdo w X bb) :
  Calls prog (Zv p.op) #[.pointer (some ⟨b,0,none⟩),p.val] w (Jbi B D X bb b ex (.slice (some ⟨ba,0,none⟩) cols.length cap) first n bc Z ps.length w fun i=>Qp p (Ji cols i) (Ji ps i)):=by
 have bR:=U.lo
 have bQ:=U.hi
 by_cases h0:p.op=0
 ·obtain⟨bS,bT⟩:=U.col h0
  obtain⟨C,bB⟩:∃ C:Nat,p.c=C:=⟨p.c.toNat,by omega⟩
  have R:C<cols.length:=by omega
  have:=Kdu B D b p ex ba 0 cols.length cap C (Yo hs C).1 (Yo hs C).2 (cols.getD C []) first n bc Z ps.length w X bb hW bB R (by rw[Od0];exact bi.cell C R) (bi.vals C R) (bL C R) (fun g o e=>⟨bi.off C R g o e,bJ C R g o e⟩) bG (bK C R)
  rw[show Zv p.op=174 by rw[h0];rfl]
  refine this.mono fun e w' h=>h.val fun i=>?_
  unfold Qp
  rw[if_pos h0,bB,Int.toNat_natCast,Jdj _ _ _ R]
 by_cases h1:p.op=1
 ·rw[show Zv p.op=175 by rw[h1];rfl]
  refine(Jtv B D b p ex _ first n bc Z ps.length w X bb hW hn (U.con h1).1 E).mono fun e w' h=>h.val fun i=>?_
  unfold Qp
  rw[if_neg h0,if_pos h1]
 obtain⟨l1,l2⟩:=U.left (by omega)
 obtain⟨L,hL⟩:∃ L:Nat,p.l=L:=⟨p.l.toNat,by omega⟩
 have K:L<ps.length:=by omega
 obtain⟨bh,cp,bO,bf⟩:=bI.resolve_left (by omega)
 subst bO
 have O:∀ (y:Nat) (f:V→V→V×Nat),y<ps.length→((if p.op≤9 then p.r else p.l)=(y:Int))→opR p.op=f→∀ i,f ((ps.getD L []).getD i Jf) ((ps.getD y []).getD i Jf)=Qp p (Ji cols i) (Ji ps i):=fun y f hR M hf i=>by
  unfold Qp
  rw[if_neg h0,if_neg h1,M,hL,Int.toNat_natCast,Int.toNat_natCast,Jdj _ _ _ K,Jdj _ _ _ hR,hf]
 have bC:∀ j,j<ps.length→∀ i (hi:i<(ps.getD j []).length),i<n→Jg ((ps.getD j [])[i]).n:=fun j bN i hi bM=>by
  have:=bE j bN i bM
  rwa [Oa0 (l:=ps.getD j []),Oa3 hi]at this
 have H:∀ y,y<ps.length→Jg5 w b ex (.slice (some ⟨ba,0,none⟩) cols.length cap) first n bh 0 ps.length cp Z L y (ps.getD L []) (ps.getD y []) X bb:=fun y hR=>
  ⟨hW,K,hR,hn,hf,⟨_,_,by rw[Od0];exact bf.cell L K,bf.vals L K⟩,⟨_,_,by rw[Od0];exact bf.cell y hR,bf.vals y hR⟩,bD L K,bD y hR,bC L K,bC y hR,bH⟩
 by_cases bj:p.op=10
 ·rw[show Zv p.op=184 by rw[bj];rfl]
  exact(Ke6 (H L K) p hL).mono fun e w' h=>(h.meth B D E).val (O L _ K (by rw[if_neg (by omega)];exact hL) (by rw[bj];rfl))
 by_cases bk:p.op=11
 ·rw[show Zv p.op=185 by rw[bk];rfl]
  exact(Jtq (H L K) p hL).mono fun e w' h=>(h.meth B D E).val (O L _ K (by rw[if_neg (by omega)];exact hL) (by rw[bk];rfl))
 obtain⟨bU,bV⟩:=U.right (by omega) (by omega)
 obtain⟨y,hR⟩:∃ y:Nat,p.r=y:=⟨p.r.toNat,by omega⟩
 have A:y<ps.length:=by omega
 have M:(if p.op≤9 then p.r else p.l)=(y:Int):=by rw[if_pos (by omega)];exact hR
 by_cases h2:p.op=2
 ·rw[show Zv p.op=176 by rw[h2];rfl]
  exact(Kdq (H y A) p hL hR).mono fun e w' h=>(h.meth B D E).val (O y _ A M (by rw[h2];rfl))
 by_cases bl:p.op=3
 ·rw[show Zv p.op=177 by rw[bl];rfl]
  exact(Kdv (H y A) p hL hR).mono fun e w' h=>(h.meth B D E).val (O y _ A M (by rw[bl];rfl))
 by_cases bn:p.op=4
 ·rw[show Zv p.op=178 by rw[bn];rfl]
  exact(Kcp (H y A) p hL hR).mono fun e w' h=>(h.meth B D E).val (O y _ A M (by rw[bn];rfl))
 by_cases br:p.op=5
 ·rw[show Zv p.op=179 by rw[br];rfl]
  exact(Ke0 (H y A) p hL hR).mono fun e w' h=>(h.meth B D E).val (O y _ A M (by rw[br];rfl))
 by_cases bu:p.op=6
 ·rw[show Zv p.op=180 by rw[bu];rfl]
  exact(Kfa (H y A) p hL hR).mono fun e w' h=>(h.meth B D E).val (O y _ A M (by rw[bu];rfl))
 by_cases bx:p.op=7
 ·rw[show Zv p.op=181 by rw[bx];rfl]
  exact(Kbh (H y A) p hL hR).mono fun e w' h=>(h.meth B D E).val (O y _ A M (by rw[bx];rfl))
 by_cases bz:p.op=8
 ·rw[show Zv p.op=182 by rw[bz];rfl]
  exact(Ke3 (H y A) p hL hR).mono fun e w' h=>(h.meth B D E).val (O y _ A M (by rw[bz];rfl))
 have bA:p.op=9:=by omega
 rw[show Zv p.op=183 by rw[bA];rfl]
 exact(Kgj (H y A) p hL hR).mono fun e w' h=>(h.meth B D E).val (O y _ A M (by rw[bA];rfl))
theorem Kaz (a b:V):Jg (Jik a b).1.n:=by
 unfold Jik;split
 ·rename_i h;exact(Qj _).1 h
 exact(Qj _).1 rfl
theorem Jym (a b:V):Jg (Jiw a b).1.n:=by
 unfold Jiw;split
 ·rename_i h;exact(Qj _).1 h
 exact(Qj _).1 rfl
theorem Kbf (a b:V):Jg (Jkj a b).1.n:=by
 unfold Jkj;split
 ·rename_i h;exact(Qj _).1 h
 exact(Qj _).1 rfl
theorem Je7:Jg Jf.n:=(Qj _).1 rfl
theorem Jzw (a b:V):Jg (Jg4 a b).1.n:=by
 unfold Jg4;split
 ·exact Je7
 split
 ·rename_i h;exact(Qj _).1 h
 exact Je7
theorem Jc0 (b:Bool):Jg (Yi b).n:=by cases b<;>exact(Qj _).1 rfl
theorem Jod {a b d:V}(y:Jg a.n)(A:Jg b.n)(D:Jg d.n):Jg (Jk6 a b d).n:=by
 unfold Jk6
 split
 ·exact D
 split
 ·exact y
 exact A
theorem Zr {y:V→V→V×Nat}{a b:V}(h:Jg (y a b).1.n):Jg (Kd y a b).1.n:=by
 unfold Kd
 split
 ·exact Je7
 exact h
theorem Kbx (op:Int)(a b:V)(y:Jg a.n)(A:Jg b.n):Jg (opR op a b).1.n:=by
 unfold opR
 split
 ·exact Zr (Kaz a b)
 split
 ·exact Zr (Jym a b)
 split
 ·exact Zr (Kbf a b)
 split
 ·exact Zr (Jzw a b)
 split
 ·exact Zr (Jc0 _)
 split
 ·exact Zr (Jc0 _)
 split
 ·exact Jod y A (Jc0 _)
 split
 ·exact Jod y A (Jc0 _)
 split
 ·exact Zr (Jc0 _)
 exact Jc0 _
theorem Jg3 {l:List V}(h:∀ v∈l,Jg v.n)(i:Nat):Jg (l.getD i Jf).n:=by
 rw[Oa0]
 by_cases hi:i<l.length
 ·rw[Oa3 hi];exact h _ (Ob3 hi)
 rw[Ob4 (by omega)];exact Je7
theorem Kak {W k:Nat}{p:Pt}(A:Jr0 W k p){x done:List V}(D:∀ v∈x,Jg v.n)(y:∀ v∈done,Jg v.n):Jg (Qp p x done).1.n:=by
 unfold Qp
 split
 ·exact Jg3 D _
 split
 ·rename_i h;exact(A.con h).2
 exact Kbx _ _ _ (Jg3 y _) (Jg3 y _)
def Yy:List Pt→List V→List V→List V⊕Nat
 |[],_,d=>.inl d
 |p::ps,x,d=>if (Qp p x d).2=0 then Yy ps x (d++[(Qp p x d).1])else .inr (Qp p x d).2
theorem Jdz (ps y:List Pt)(x:List V):∀ d,Yy (ps++y) x d=match Yy ps x d with|.inl d'=>Yy y x d'|.inr c=>.inr c:=by
 induction ps with
 |nil=>intro d;rfl
 |cons p ps A=>
  intro d
  simp only[List.cons_append,Yy]
  split
  ·exact A _
  rfl
theorem Jsv {ps:List Pt}{x d y:List V}(p:Pt)(h:Yy ps x d=.inl y):Yy (ps++[p]) x d=if (Qp p x y).2=0 then .inl (y++[(Qp p x y).1])else .inr (Qp p x y).2:=by
 rw[Jdz,h]
 simp only[Yy]
theorem Jo0 {W:Nat}{x:List V}(K:∀ v∈x,Jg v.n):∀ (ps:List Pt) (d y:List V),(∀ j p,ps[j]?=some p→Jr0 W (d.length+j) p)→(∀ v∈d,Jg v.n)→Yy ps x d=.inl y→∀ v∈y,Jg v.n:=by
 intro ps
 induction ps with
 |nil=>intro d y _ A h;simp only[Yy]at h;cases h;exact A
 |cons p ps M=>
  intro d y E A h
  simp only[Yy]at h
  split at h
  ·refine M _ _ (fun j q H=>?_) (fun v D=>?_) h
   ·have:=E (j+1) q (by simpa using H)
    rw[Oa8,List.length_singleton]
    have e:d.length+1+j=d.length+(j+1):=by omega
    rw[e];exact this
   rw[Od2,Oc6]at D
   rcases D with D|rfl
   ·exact A v D
   exact Kak (E 0 p rfl) K A
  cases h
end Go.Proofs.YtdlgbphkaicfaaaGreatDoor
