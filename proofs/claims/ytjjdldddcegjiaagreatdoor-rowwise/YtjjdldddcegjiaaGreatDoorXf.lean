/- Expressions worked on a batch: what a part is worth on a row, and what comes of a method's call. -/
import Derived.Test.YtjjdldddcegjiaaGreatDoorXe
set_option maxRecDepth 100000
namespace Go.Proofs.YtjjdldddcegjiaaGreatDoor
open Go.RowKit Go.Shelf Tryz
attribute [local go_sem] Oc0
def opR (op:Int):V→V→V×Nat:=
 if op=2 then Kd Jik else if op=3 then Kd Jiw else if op=4 then Kd Jkj else if op=5 then Kd Jg4 else if op=6 then Kd Jsg else if op=7 then Kd Jkc else if op=8 then Jse else if op=9 then orR else if op=10 then Kd Ju0 else Jle
theorem Jdj (cs:List (List V))(i j:Nat)(y:j<cs.length):(Ji cs i).getD j Jf=(cs.getD j []).getD i Jf:=by
 unfold Ji
 rw[Oa0,Ob1,Oa3 y,Oa0 (l:=cs),Oa3 y]
 rfl
def Qp (p:Pt)(x done:List V):V×Nat:=
 if p.op=0 then (x.getD p.c.toNat Jf,0)else if p.op=1 then (p.v,0)else opR p.op (done.getD p.l.toNat Jf) (done.getD (if p.op≤9 then p.r else p.l).toNat Jf)
def Zv (op:Int):Nat:=if op=0 then 185 else if op=1 then 186 else if op=2 then 187 else if op=3 then 188 else if op=4 then 189 else if op=5 then 190 else if op=6 then 191 else if op=7 then 192 else if op=8 then 193 else if op=9 then 194 else if op=10 then 195 else 196
structure Jr0 (W k:Nat) (p:Pt):Prop where
 lo:0≤p.op
 hi:p.op≤11
 col:p.op=0→0≤p.c∧p.c<W
 con:p.op=1→p.v.s.size≤255∧Jg p.v.n
 left:2≤p.op→0≤p.l∧p.l<k
 right:2≤p.op→p.op≤9→0≤p.r∧p.r<k
structure Jha (w:World) (b g:Nat) (hs:List (Option Addr×Nat)) (cs:List (List V)):Prop where
 ne:g≠b
 cell:∀ j,j<cs.length→w.cell? ⟨g,j,none⟩=some (.slice (Yo hs j).1 (cs.getD j []).length (Yo hs j).2)
 vals:∀ j,j<cs.length→Jv w (Yo hs j).1 (cs.getD j [])
 off:∀ j,j<cs.length→∀ g' o,(Yo hs j).1=some ⟨g',o,none⟩→g'≠b
theorem Jv.keep {b:Nat}{w w':World}{a:Option Addr}{vs:List V}(h:Jv w a vs)(y:Ju (·=b) w w')(A:∀ g o,a=some ⟨g,o,none⟩→g≠b):Jv w' a vs:=h.of_block y.size fun g o e z=>y.block g z (A g o e)
theorem Jha.keep {w w':World}{b g:Nat}{hs:List (Option Addr×Nat)}{cs:List (List V)}(h:Jha w b g hs cs)(z:Ju (·=b) w w'):Jha w' b g hs cs:=
 ⟨h.ne,fun j y=>z.cell (h.cell j y) h.ne,fun j y=>(h.vals j y).keep z (h.off j y),h.off⟩
theorem Jha.below {w w':World}{b g:Nat}{hs:List (Option Addr×Nat)}{cs:List (List V)}(h:Jha w b g hs cs)(y:Below w.heap.size w w'):Jha w' b g hs cs:=h.keep (Ju.of_below y)
theorem Jbi.val {B y:Nat}{z C:Addr}{b:Nat}{ex ba:Value}{first n:Nat}{D A:Value}{k:Nat}{w w':World}{f g:Nat→V×Nat}{e:Ending}(h:Jbi B y z C b ex ba first n D A k w f e w')(E:∀ i,f i=g i):Jbi B y z C b ex ba first n D A k w g e w':=by
 rwa [show f=g from funext E]at h
theorem Kcm (B A b:Nat)(ex:Value)(first n:Nat)(Z cap:Nat)(hs:List (Option Addr×Nat))(cols:List (List V))(bf X:Value)(bT:List (Option Addr×Nat))(ps:List (List V))(p:Pt)(U bc:Addr)(w:World)
  (hW:Uz w b ex (.slice (some ⟨Z,0,none⟩) cols.length cap) first n bf X) (bl:Jha w b Z hs cols) (bP:∀ j,j<cols.length→n≤(cols.getD j []).length) (bN:∀ j,j<cols.length→∀ g o,(Yo hs j).1=some ⟨g,o,none⟩→g<B) (bK:B≤w.heap.size) (bO:∀ j,j<cols.length→(cols.getD j []).length≤A) (D:n≤A)
  (bM:ps.length=0∨∃ bj cp,bf=.slice (some ⟨bj,0,none⟩) ps.length cp∧Jha w b bj bT ps) (bI:∀ j,j<ps.length→n≤(ps.getD j []).length) (bJ:∀ j,j<ps.length→∀ i,i<n→Jg ((ps.getD j []).getD i Jf).n)
  (R:Jr0 cols.length ps.length p) (hn:n≤100000) (hf:first+n≤10000000) (bL:Jdo w U bc) :
  Calls prog (Zv p.op) #[.pointer (some ⟨b,0,none⟩),p.val] w (Jbi B A U bc b ex (.slice (some ⟨Z,0,none⟩) cols.length cap) first n bf X ps.length w fun i=>Qp p (Ji cols i) (Ji ps i)):=by
 have bV:=R.lo
 have bU:=R.hi
 by_cases h0:p.op=0
 ·obtain⟨bY,bZ⟩:=R.col h0
  obtain⟨C,bG⟩:∃ C:Nat,p.c=C:=⟨p.c.toNat,by omega⟩
  have O:C<cols.length:=by omega
  have:=Kdu B A b p ex Z 0 cols.length cap C (Yo hs C).1 (Yo hs C).2 (cols.getD C []) first n bf X ps.length w U bc hW bG O (by rw[Od0];exact bl.cell C O) (bl.vals C O) (bP C O) (fun g o e=>⟨bl.off C O g o e,bN C O g o e⟩) bK (bO C O)
  rw[show Zv p.op=185 by rw[h0];rfl]
  refine this.mono fun e w' h=>h.val fun i=>?_
  unfold Qp
  rw[if_pos h0,bG,Int.toNat_natCast,Jdj _ _ _ O]
 by_cases bh:p.op=1
 ·rw[show Zv p.op=186 by rw[bh];rfl]
  refine(Jtv B A b p ex _ first n bf X ps.length w U bc hW hn (R.con bh).1 D).mono fun e w' h=>h.val fun i=>?_
  unfold Qp
  rw[if_neg h0,if_pos bh]
 obtain⟨bW,bX⟩:=R.left (by omega)
 obtain⟨L,hL⟩:∃ L:Nat,p.l=L:=⟨p.l.toNat,by omega⟩
 have H:L<ps.length:=by omega
 obtain⟨bj,cp,bS,bi⟩:=bM.resolve_left (by omega)
 subst bS
 have M:∀ (y:Nat) (f:V→V→V×Nat),y<ps.length→((if p.op≤9 then p.r else p.l)=(y:Int))→opR p.op=f→∀ i,f ((ps.getD L []).getD i Jf) ((ps.getD y []).getD i Jf)=Qp p (Ji cols i) (Ji ps i):=fun y f hR K hf i=>by
  unfold Qp
  rw[if_neg h0,if_neg bh,K,hL,Int.toNat_natCast,Int.toNat_natCast,Jdj _ _ _ H,Jdj _ _ _ hR,hf]
 have bH:∀ j,j<ps.length→∀ i (hi:i<(ps.getD j []).length),i<n→Jg ((ps.getD j [])[i]).n:=fun j bR i hi bQ=>by
  have:=bJ j bR i bQ
  rwa [Oa0 (l:=ps.getD j []),Oa3 hi]at this
 have E:∀ y,y<ps.length→Jg5 w b ex (.slice (some ⟨Z,0,none⟩) cols.length cap) first n bj 0 ps.length cp X L y (ps.getD L []) (ps.getD y []) U bc:=fun y hR=>
  ⟨hW,H,hR,hn,hf,⟨_,_,by rw[Od0];exact bi.cell L H,bi.vals L H⟩,⟨_,_,by rw[Od0];exact bi.cell y hR,bi.vals y hR⟩,bI L H,bI y hR,bH L H,bH y hR,bL⟩
 by_cases bn:p.op=10
 ·rw[show Zv p.op=195 by rw[bn];rfl]
  exact(Ke6 (E L H) p hL).mono fun e w' h=>(h.meth B A D).val (M L _ H (by rw[if_neg (by omega)];exact hL) (by rw[bn];rfl))
 by_cases br:p.op=11
 ·rw[show Zv p.op=196 by rw[br];rfl]
  exact(Jtq (E L H) p hL).mono fun e w' h=>(h.meth B A D).val (M L _ H (by rw[if_neg (by omega)];exact hL) (by rw[br];rfl))
 obtain⟨ca,cb⟩:=R.right (by omega) (by omega)
 obtain⟨y,hR⟩:∃ y:Nat,p.r=y:=⟨p.r.toNat,by omega⟩
 have z:y<ps.length:=by omega
 have K:(if p.op≤9 then p.r else p.l)=(y:Int):=by rw[if_pos (by omega)];exact hR
 by_cases bu:p.op=2
 ·rw[show Zv p.op=187 by rw[bu];rfl]
  exact(Kdq (E y z) p hL hR).mono fun e w' h=>(h.meth B A D).val (M y _ z K (by rw[bu];rfl))
 by_cases bx:p.op=3
 ·rw[show Zv p.op=188 by rw[bx];rfl]
  exact(Kdv (E y z) p hL hR).mono fun e w' h=>(h.meth B A D).val (M y _ z K (by rw[bx];rfl))
 by_cases bz:p.op=4
 ·rw[show Zv p.op=189 by rw[bz];rfl]
  exact(Kcp (E y z) p hL hR).mono fun e w' h=>(h.meth B A D).val (M y _ z K (by rw[bz];rfl))
 by_cases bA:p.op=5
 ·rw[show Zv p.op=190 by rw[bA];rfl]
  exact(Ke0 (E y z) p hL hR).mono fun e w' h=>(h.meth B A D).val (M y _ z K (by rw[bA];rfl))
 by_cases bB:p.op=6
 ·rw[show Zv p.op=191 by rw[bB];rfl]
  exact(Kfa (E y z) p hL hR).mono fun e w' h=>(h.meth B A D).val (M y _ z K (by rw[bB];rfl))
 by_cases bC:p.op=7
 ·rw[show Zv p.op=192 by rw[bC];rfl]
  exact(Kbh (E y z) p hL hR).mono fun e w' h=>(h.meth B A D).val (M y _ z K (by rw[bC];rfl))
 by_cases bD:p.op=8
 ·rw[show Zv p.op=193 by rw[bD];rfl]
  exact(Ke3 (E y z) p hL hR).mono fun e w' h=>(h.meth B A D).val (M y _ z K (by rw[bD];rfl))
 have bE:p.op=9:=by omega
 rw[show Zv p.op=194 by rw[bE];rfl]
 exact(Kgj (E y z) p hL hR).mono fun e w' h=>(h.meth B A D).val (M y _ z K (by rw[bE];rfl))
theorem Kaz (a b:V):Jg (Jik a b).1.n:=by
 unfold Jik;split
 ·rename_i h;exact(Qj _).1 h
 exact(Qj _).1 rfl
theorem Jym (a b:V):Jg (Jiw a b).1.n:=by
 unfold Jiw;split
 ·rename_i h;exact(Qj _).1 h
 exact(Qj _).1 rfl
theorem Kbf (a b:V):Jg (Jkj a b).1.n:=by
 unfold Jkj;split
 ·rename_i h;exact(Qj _).1 h
 exact(Qj _).1 rfl
theorem Je7:Jg Jf.n:=(Qj _).1 rfl
theorem Jzw (a b:V):Jg (Jg4 a b).1.n:=by
 unfold Jg4;split
 ·exact Je7
 split
 ·rename_i h;exact(Qj _).1 h
 exact Je7
theorem Jc0 (b:Bool):Jg (Yi b).n:=by cases b<;>exact(Qj _).1 rfl
theorem Jod {a b d:V}(y:Jg a.n)(z:Jg b.n)(A:Jg d.n):Jg (Jk6 a b d).n:=by
 unfold Jk6
 split
 ·exact A
 split
 ·exact y
 exact z
theorem Zr {y:V→V→V×Nat}{a b:V}(h:Jg (y a b).1.n):Jg (Kd y a b).1.n:=by
 unfold Kd
 split
 ·exact Je7
 exact h
theorem Kbx (op:Int)(a b:V)(y:Jg a.n)(z:Jg b.n):Jg (opR op a b).1.n:=by
 unfold opR
 split
 ·exact Zr (Kaz a b)
 split
 ·exact Zr (Jym a b)
 split
 ·exact Zr (Kbf a b)
 split
 ·exact Zr (Jzw a b)
 split
 ·exact Zr (Jc0 _)
 split
 ·exact Zr (Jc0 _)
 split
 ·exact Jod y z (Jc0 _)
 split
 ·exact Jod y z (Jc0 _)
 split
 ·exact Zr (Jc0 _)
 exact Jc0 _
theorem Jg3 {l:List V}(h:∀ v∈l,Jg v.n)(i:Nat):Jg (l.getD i Jf).n:=by
 rw[Oa0]
 by_cases hi:i<l.length
 ·rw[Oa3 hi];exact h _ (Ob3 hi)
 rw[Ob4 (by omega)];exact Je7
theorem Kak {W k:Nat}{p:Pt}(z:Jr0 W k p){x done:List V}(A:∀ v∈x,Jg v.n)(y:∀ v∈done,Jg v.n):Jg (Qp p x done).1.n:=by
 unfold Qp
 split
 ·exact Jg3 A _
 split
 ·rename_i h;exact(z.con h).2
 exact Kbx _ _ _ (Jg3 y _) (Jg3 y _)
def Yy:List Pt→List V→List V→List V⊕Nat
 |[],_,d=>.inl d
 |p::ps,x,d=>if (Qp p x d).2=0 then Yy ps x (d++[(Qp p x d).1])else .inr (Qp p x d).2
theorem Jdz (ps y:List Pt)(x:List V):∀ d,Yy (ps++y) x d=match Yy ps x d with|.inl d'=>Yy y x d'|.inr c=>.inr c:=by
 induction ps with
 |nil=>intro d;rfl
 |cons p ps z=>
  intro d
  simp only[List.cons_append,Yy]
  split
  ·exact z _
  rfl
theorem Kdn {ps:List Pt}{x d:List V}{c:Nat}(y:List Pt)(h:Yy ps x d=.inr c):Yy (ps++y) x d=.inr c:=by rw[Jdz,h]
theorem Jsv {ps:List Pt}{x d y:List V}(p:Pt)(h:Yy ps x d=.inl y):Yy (ps++[p]) x d=if (Qp p x y).2=0 then .inl (y++[(Qp p x y).1])else .inr (Qp p x y).2:=by
 rw[Jdz,h]
 simp only[Yy]
theorem Jo0 {W:Nat}{x:List V}(E:∀ v∈x,Jg v.n):∀ (ps:List Pt) (d y:List V),(∀ j p,ps[j]?=some p→Jr0 W (d.length+j) p)→(∀ v∈d,Jg v.n)→Yy ps x d=.inl y→∀ v∈y,Jg v.n:=by
 intro ps
 induction ps with
 |nil=>intro d y _ z h;simp only[Yy]at h;cases h;exact z
 |cons p ps H=>
  intro d y C z h
  simp only[Yy]at h
  split at h
  ·refine H _ _ (fun j q D=>?_) (fun v A=>?_) h
   ·have:=C (j+1) q (by simpa using D)
    rw[Oa8,List.length_singleton]
    have e:d.length+1+j=d.length+(j+1):=by omega
    rw[e];exact this
   rw[Od2,Oc6]at A
   rcases A with A|rfl
   ·exact z v A
   exact Kak (C 0 p rfl) E z
  cases h
end Go.Proofs.YtjjdldddcegjiaaGreatDoor
