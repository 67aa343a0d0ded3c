/- The parts of expressions worked on a batch of rows: row by row. -/
import Derived.Test.YtkdojacdolidfaaGreatDoorXc
namespace Go.Proofs.YtkdojacdolidfaaGreatDoor
section
open Go.RowKit Go.Shelf
attribute [local go_sem] Oc0
attribute [local go_sem] Oc0
attribute [local go_sem] Oc0
def opR (op:Int):V->V->V×Nat:=
 if op=2 then Kd Jik else if op=3 then Kd Jiw else if op=4 then Kd Jkj else if op=5 then Kd Jg4 else if op=6 then Kd Jsg else if op=7 then Kd Jkc else if op=8 then Jse else if op=9 then orR else if op=10 then Kd Ju0 else Jle
def Qp (p:Pt)(x done:List V):V×Nat:=
 if p.op=0 then (x.getD p.c.toNat Jf,0)else if p.op=1 then (p.v,0)else opR p.op (done.getD p.l.toNat Jf) (done.getD (if p.op<=9 then p.r else p.l).toNat Jf)
def Zv (op:Int):Nat:=if op=0 then 176 else if op=1 then 177 else if op=2 then 178 else if op=3 then 179 else if op=4 then 180 else if op=5 then 181 else if op=6 then 182 else if op=7 then 183 else if op=8 then 184 else if op=9 then 185 else if op=10 then 186 else 187
structure Qcv (W k:Nat) (p:Pt):Prop where
 lo:0<=p.op
 hi:p.op<=11
 col:p.op=0->0<=p.c/\p.c<W
 con:p.op=1->p.v.s.size<=255/\Jg p.v.n
 left:2<=p.op->0<=p.l/\p.l<k
 right:2<=p.op->p.op<=9->0<=p.r/\p.r<k
theorem zaH {p:Prop}(h:p:=by
 split
 ·rename_i h;exact(Qj _).1 h
 exact(Qj _).1 rfl):p:=h
theorem Kaz a b:Jg (Jik a b).1.n:=by
 unfold Jik;exact zaH
theorem Jym a b:Jg (Jiw a b).1.n:=by
 unfold Jiw;exact zaH
theorem Kbf a b:Jg (Jkj a b).1.n:=by
 unfold Jkj;exact zaH
theorem Je7:Jg Jf.n:=(Qj _).1 rfl
theorem Jzw a b:Jg (Jg4 a b).1.n:=by
 unfold Jg4;split
 ·exact Je7
 split
 ·rename_i h;exact(Qj _).1 h
 exact Je7
theorem Jc0 b:Jg (Yi b).n:=by cases b<;>exact(Qj _).1 rfl
theorem Jod {a b d}(y:Jg a.n)(hb:Jg b.n)(H:Jg d.n):Jg (Jk6 a b d).n:=by
 unfold Jk6;split
 ·exact H
 split
 ·exact y
 exact hb
theorem Zr {R:V->V->V×Nat}{a b}(h:Jg (R a b).1.n):Jg (Kd R a b).1.n:=by
 unfold Kd;split
 ·exact Je7
 exact h
theorem Kbx op a b(y:Jg a.n)(hb:Jg b.n):Jg (opR op a b).1.n:=by
 unfold opR;split
 ·exact Zr (Kaz a b)
 split
 ·exact Zr (Jym a b)
 split
 ·exact Zr (Kbf a b)
 split
 ·exact Zr (Jzw a b)
 split
 ·exact Zr (Jc0 _)
 split
 ·exact Zr (Jc0 _)
 split
 ·exact Jod y hb (Jc0 _)
 split
 ·exact Jod y hb (Jc0 _)
 split
 ·exact Zr (Jc0 _)
 exact Jc0 _
theorem Jg3 {l:List V}(h:∀ v∈l,Jg v.n)(i:Nat):Jg (l.getD i Jf).n:=by
 rw[Oa0];by_cases hi:i<l.length
 ·rw[Oa3 hi];exact h _ (Ob3 hi)
 rw[Ob4 zo];exact Je7
theorem Kak {W k p}(hp:Qcv W k p){x done}(H:∀ v∈x,Jg v.n)(y:∀ v∈done,Jg v.n):Jg (Qp p x done).1.n:=by
 unfold Qp;split
 ·exact Jg3 H _
 split
 ·rename_i h;exact(hp.con h).2
 exact Kbx _ _ _ (Jg3 y _) (Jg3 y _)
def Yy:List Pt->List V->List V->List V⊕Nat
 |[],_,d=>.inl d
 |p::ps,x,d=>if (Qp p x d).2=0 then Yy ps x (d++[(Qp p x d).1])else .inr (Qp p x d).2
theorem Jdz ps y x:∀ d,Yy (ps++y) x d=match Yy ps x d with|.inl d'=>Yy y x d'|.inr c=>.inr c:=by
 induction ps with
 |nil=>intro d;rfl
 |cons p ps H=>
  intro d;simp only[List.cons_append,Yy];split
  ·exact H _
  rfl
theorem Jsv {ps x d y}p(h:Yy ps x d=.inl y):Yy (ps++[p]) x d=if (Qp p x y).2=0 then .inl (y++[(Qp p x y).1])else .inr (Qp p x y).2:=by
 rw[Jdz,h];simp only[Yy]
theorem Jo0 {W x}(I:∀ v∈x,Jg v.n):∀ (ps:List Pt) (d y:List V),(∀ j p,ps[j]?=some p->Qcv W (d.length+j) p)->(∀ v∈d,Jg v.n)->Yy ps x d=.inl y->∀ v∈y,Jg v.n:=by
 intro ps;induction ps with
 |nil=>intro d y _ H h;simp only[Yy]at h;cases h;exact H
 |cons p ps K=>
  intro d y hp H h;simp only[Yy]at h;split at h
  ·refine K _ _ (fun j q hq=>?_) (fun v hv=>?_) h
   ·have:=hp (j+1) q (by simpa using hq);rw[Oa8,List.length_singleton];have e:d.length+1+j=d.length+(j+1):=zo;rw[e];exact this
   rw[Od2,Oc6]at hv;rcases hv with hv|rfl
   ·exact H v hv
   exact Kak (hp 0 p rfl) I H
  cases h
end
section
open Go.RowKit Go.Shelf Tryz
attribute [local go_sem] Oc0
def Jp6 (w:World)(g o b:Nat)(p:Pt):Prop:=
 w.cell? ⟨g,o,none⟩=some (.int .i64 p.op)/\w.cell? ⟨g,o+1,none⟩=some (.int .i64 p.l)/\w.cell? ⟨g,o+2,none⟩=some (.int .i64 p.r)/\w.cell? ⟨g,o+3,none⟩=some (.int .i64 p.c)/\w.cell? ⟨g,o+4,none⟩=some (.int .i64 p.v.k)/\w.cell? ⟨g,o+5,none⟩=some (.int .i64 p.v.n)/\w.cell? ⟨g,o+6,none⟩=some (.string p.v.s)/\w.cell? ⟨g,o+7,none⟩=some (.func (.func (Zv p.op)) #[.pointer (some ⟨b,0,none⟩)] #[])
theorem Jp6.keep {w w' g o b p}(h:Jp6 w g o b p)(H:Ju (·=b) w w')(y:g≠b):Jp6 w' g o b p:=
 ⟨H.cell h.1 y,H.cell h.2.1 y,H.cell h.2.2.1 y,H.cell h.2.2.2.1 y,H.cell h.2.2.2.2.1 y,H.cell h.2.2.2.2.2.1 y,H.cell h.2.2.2.2.2.2.1 y,H.cell h.2.2.2.2.2.2.2 y⟩
structure Jco (w:World) (g b:Nat) (es:List Pt):Prop where
 ne:g≠b
 step:∀ j p,es[j]?=some p->Jp6 w g (j*8) b p
theorem Jco.keep {w w' g b es}(h:Jco w g b es)(H:Ju (·=b) w w'):Jco w' g b es:=⟨h.ne,fun j p y=>(h.step j p y).keep H h.ne⟩
theorem Js0 op args W:(callFunc (Zv op) args).run prog W=.ok (.enter (Zv op) args) W:=by
 unfold Zv;repeat (split;(first|kernel_rfl|skip))
 kernel_rfl
def Kl (es:List Pt)(x:List V):V⊕Nat:=match Yy es x []with|.inl d=>.inl (d.getLastD Jf)|.inr c=>.inr c
end
section
open Go.RowKit Go.Shelf
attribute [local go_sem] Oc0
def Kr:List (List Pt)->List V->Nat
 |[],_=>0
 |e::es,x=>match Kl e x with|.inl _=>Kr es x|.inr c=>c
end
open Go.RowKit Go.Shelf Tryz
attribute [local go_sem] Oc0
def Qi (w:World)(g o:Nat)(p:Pt):Prop:=
 w.cell? ⟨g,o,none⟩=some (.int .i64 p.op)/\w.cell? ⟨g,o+1,none⟩=some (.int .i64 p.l)/\w.cell? ⟨g,o+2,none⟩=some (.int .i64 p.r)/\w.cell? ⟨g,o+3,none⟩=some (.int .i64 p.c)/\w.cell? ⟨g,o+4,none⟩=some (.int .i64 p.v.k)/\w.cell? ⟨g,o+5,none⟩=some (.int .i64 p.v.n)/\w.cell? ⟨g,o+6,none⟩=some (.string p.v.s)
theorem Qi.below {w w' g o p}(h:Qi w g o p)(hb:Below w.heap.size w w'):Qi w' g o p:=
 ⟨Ja hb h.1,Ja hb h.2.1,Ja hb h.2.2.1,Ja hb h.2.2.2.1,Ja hb h.2.2.2.2.1,Ja hb h.2.2.2.2.2.1,Ja hb h.2.2.2.2.2.2⟩
def Jaz (w:World)(eb I:Nat)(K:List (List Pt)):Prop:=∀ j es,K[j]?=some es->∃ y H pc,w.cell? ⟨eb,I+j,none⟩=some (.slice (some ⟨y,H,none⟩) es.length pc)/\∀ k p,es[k]?=some p->Qi w y (H+k*7) p
def Jft (b:Nat)(p:Pt):List Value:=[.int .i64 p.op,.int .i64 p.l,.int .i64 p.r,.int .i64 p.c,.int .i64 p.v.k,.int .i64 p.v.n,.string p.v.s,.func (.func (Zv p.op)) #[.pointer (some ⟨b,0,none⟩)] #[]]
theorem Jek {α:Type}(f:α->List Value)(z:Nat)(y:∀ a,(f a).length=z):∀ (l:List α) (k i:Nat) (a:α),l[k]?=some a->i<z->(l.flatMap f)[k*z+i]?=(f a)[i]?:=by
 intro l;induction l with
 |nil=>intro k i a h;simp at h
 |cons x l H=>
  intro k i a h hi;rw[Og7];cases k with
  |zero=>
   simp at h;subst h;rw[Nat.zero_mul,Od0,Ob0 (by rw[y];exact hi)]
  |succ k=>
   have e:(k+1)*z+i=z+(k*z+i):=by rw[Of5];omega
   rw[e,Ob6 (by rw[y];omega),y,Nat.add_sub_cancel_left];exact H k i a (by simpa using h) hi
theorem Kci {α:Type}(f:α->List Value)(z:Nat)(y:∀ a,(f a).length=z)(l:List α):(l.flatMap f).length=l.length*z:=by
 induction l with
 |nil=>simp
 |cons x l H=>rw[Og7,Oa8,H,y,List.length_cons,Of5];omega
def Jxp (w:World)(B b:Nat)(sv:Value)(es:List Pt):Prop:=w.ownsRow B 268 8 sv es.length (es.flatMap (Jft b))
theorem Jnn {w B b sb sc es}(h:Jxp w B b (.slice (some ⟨sb,0,none⟩) es.length sc) es)(hb:sb≠b):Jco w sb b es:=by
 obtain⟨_,⟨H,_⟩|⟨g,cap,M,H,_,I,_,_,O,K⟩⟩:=h
 ·cases H
 simp only[On8,Oc9,Oh2,and_true]at H;obtain⟨rfl,-,rfl⟩:=H;refine⟨hb,fun j p hp=>?_⟩;have U:j<es.length:=(Ob9.1 hp).1;have y:∀ i,i<8->w.cell? ⟨sb,j*8+i,none⟩=(Jft b p)[i]?:=fun i hi=>by
  have:=Jek (Jft b) 8 (fun _=>rfl) es j i p hp hi;rw[<-K,Oe7,if_pos zo,Oe6]at this;rw[<-this];simp[World.cell?,I]
 exact⟨y 0 zo,y 1 zo,y 2 zo,y 3 zo,y 4 zo,y 5 zo,y 6 zo,y 7 zo⟩
theorem Jue:(prog.info? 268).map (fun i=>(i.zero,i.size,i.bytes))=some (some (.agg #[.int .i64 0,.int .i64 0,.int .i64 0,.int .i64 0,.int .i64 0,.int .i64 0,.string ⟨#[]⟩,.nilFunc]),8,72):=zK
theorem Jsw:(prog.info? 266).map (fun i=>(i.zero,i.size,i.bytes))=some (some (.slice none 0 0),1,24):=zK
theorem Ja4 {w:World}{B:Nat}{e:TypeId}{z:Nat}{sv:Value}{n:Nat}{xs:List Value}{g:Nat}(h:w.ownsRow B e z sv n xs)(y:sv.ownBlock=some g):∃ H,w.heap[g]?=some (.cells H e (0,0)):=by
 obtain⟨_,⟨I,_⟩|⟨M,cap,H,I,_,K,_⟩⟩:=h
 ·rw[I]at y;cases y
 rw[I]at y;simp only[Value.ownBlock,Oc9]at y;exact⟨H,y▸K⟩
