/- The parts of expressions worked on a batch of rows: row by row. -/
import Derived.Test.YtnlnlamdilifcaaGreatDoorXc
namespace Go.Proofs.YtnlnlamdilifcaaGreatDoor
section
open Go.RowKit Go.Shelf
attribute [local go_sem] Oc0
attribute [local go_sem] Oc0
attribute [local go_sem] Oc0
def opR (op:Int):V->V->V×Nat:=
 if op=2 then Kd Jik else if op=3 then Kd Jiw else if op=4 then Kd Jkj else if op=5 then Kd Jg4 else if op=6 then Kd Jsg else if op=7 then Kd Jkc else if op=8 then Jse else if op=9 then orR else if op=10 then Kd Ju0 else Jle
def Qp (p:Pt)(x done:List V):V×Nat:=
 if p.op=0 then (x.getD p.c.toNat Jf,0)else if p.op=1 then (p.v,0)else opR p.op (done.getD p.l.toNat Jf) (done.getD (if p.op<=9 then p.r else p.l).toNat Jf)
def Zv (op:Int):Nat:=if op=0 then 180 else if op=1 then 181 else if op=2 then 182 else if op=3 then 183 else if op=4 then 184 else if op=5 then 185 else if op=6 then 186 else if op=7 then 187 else if op=8 then 188 else if op=9 then 189 else if op=10 then 190 else 191
structure Qd1 (W k:Nat) (p:Pt):Prop where
 lo:0<=p.op
 hi:p.op<=11
 col:p.op=0->0<=p.c/\p.c<W
 con:p.op=1->p.v.s.size<=255/\Jg p.v.n
 left:2<=p.op->0<=p.l/\p.l<k
 right:2<=p.op->p.op<=9->0<=p.r/\p.r<k
def Yy:List Pt->List V->List V->List V⊕Nat
 |[],_,d=>.inl d
 |p::ps,x,d=>if (Qp p x d).2=0 then Yy ps x (d++[(Qp p x d).1])else .inr (Qp p x d).2
end
section
open Go.RowKit Go.Shelf Tryz
attribute [local go_sem] Oc0
def Jp6 (w:World)(g o b:Nat)(p:Pt):Prop:=
 w.cell? (Ar g o)=some (Iq p.op)/\w.cell? (Ar g (o+1))=some (Iq p.l)/\w.cell? (Ar g (o+2))=some (Iq p.r)/\w.cell? (Ar g (o+3))=some (Iq p.c)/\w.cell? (Ar g (o+4))=some (Iq p.v.k)/\w.cell? (Ar g (o+5))=some (Iq p.v.n)/\w.cell? (Ar g (o+6))=some (.string p.v.s)/\w.cell? (Ar g (o+7))=some (.func (.func (Zv p.op)) #[Pq b] #[])
theorem Jp6.keep {w w' g o b p}(h:Jp6 w g o b p)(H:Ju (·=b) w w')(y:g≠b):Jp6 w' g o b p:=
 ⟨H.cell h.1 y,H.cell h.2.1 y,H.cell h.2.2.1 y,H.cell h.2.2.2.1 y,H.cell h.2.2.2.2.1 y,H.cell h.2.2.2.2.2.1 y,H.cell h.2.2.2.2.2.2.1 y,H.cell h.2.2.2.2.2.2.2 y⟩
structure Jco (w:World) (g b:Nat) (es:List Pt):Prop where
 ne:g≠b
 step:∀ j p,es[j]?=some p->Jp6 w g (j*8) b p
theorem Jco.keep {w w' g b es}(h:Jco w g b es)(H:Ju (·=b) w w'):Jco w' g b es:=⟨h.ne,fun j p y=>(h.step j p y).keep H h.ne⟩
theorem Js0 op args W:(callFunc (Zv op) args).run prog W=.ok (.enter (Zv op) args) W:=by
 unfold Zv;repeat (split;(first|kernel_rfl|skip))
 kernel_rfl
def Kl (es:List Pt)(x:List V):V⊕Nat:=match Yy es x []with|.inl d=>.inl (d.getLastD Jf)|.inr c=>.inr c
end
section
open Go.RowKit Go.Shelf
attribute [local go_sem] Oc0
def Kr:List (List Pt)->List V->Nat
 |[],_=>0
 |e::es,x=>match Kl e x with|.inl _=>Kr es x|.inr c=>c
end
section
open Go.RowKit Go.Shelf Tryz
attribute [local go_sem] Oc0
def Qi (w:World)(g o:Nat)(p:Pt):Prop:=
 w.cell? (Ar g o)=some (Iq p.op)/\w.cell? (Ar g (o+1))=some (Iq p.l)/\w.cell? (Ar g (o+2))=some (Iq p.r)/\w.cell? (Ar g (o+3))=some (Iq p.c)/\w.cell? (Ar g (o+4))=some (Iq p.v.k)/\w.cell? (Ar g (o+5))=some (Iq p.v.n)/\w.cell? (Ar g (o+6))=some (.string p.v.s)
theorem Qi.below {w w' g o p}(h:Qi w g o p)(hb:Bq w w'):Qi w' g o p:=
 ⟨Ja hb h.1,Ja hb h.2.1,Ja hb h.2.2.1,Ja hb h.2.2.2.1,Ja hb h.2.2.2.2.1,Ja hb h.2.2.2.2.2.1,Ja hb h.2.2.2.2.2.2⟩
def Jaz (w:World)(eb I:Nat)(K:List (List Pt)):Prop:=∀ j es,K[j]?=some es->∃ y H pc,w.cell? (Ar eb (I+j))=some (Sr y H es.length pc)/\∀ k p,es[k]?=some p->Qi w y (H+k*7) p
def Jft (b:Nat)(p:Pt):List Value:=[Iq p.op,Iq p.l,Iq p.r,Iq p.c,Iq p.v.k,Iq p.v.n,.string p.v.s,.func (.func (Zv p.op)) #[Pq b] #[]]
theorem Jek {α:Type}(f:α->List Value)(z:Nat)(y:∀ a,(f a).length=z):∀ (l:List α) (k i:Nat) (a:α),l[k]?=some a->i<z->(l.flatMap f)[k*z+i]?=(f a)[i]?:=by
 intro l;induction l with
 |nil=>intro k i a h;simp at h
 |cons x l H=>
  intro k i a h hi;rw[Og7];cases k with
  |zero=>
   simp at h;subst h;rw[Oo9,Od0,Ob0 (by rw[y];exact hi)]
  |succ k=>
   have e:(k+1)*z+i=z+(k*z+i):=by rw[Of5];omega
   rw[e,Ob6 (by rw[y];omega),y,Nat.add_sub_cancel_left];exact H k i a (by simpa using h) hi
theorem Kci {α:Type}(f:α->List Value)(z:Nat)(y:∀ a,(f a).length=z)(l:List α):(l.flatMap f).length=l.length*z:=by
 induction l with
 |nil=>simp
 |cons x l H=>rw[Og7,Oa8,H,y,List.length_cons,Of5];omega
def Jxp (w:World)(B b:Nat)(sv:Value)(es:List Pt):Prop:=w.ownsRow B 288 8 sv es.length (es.flatMap (Jft b))
theorem Jnn {w B b sb sc es}(h:Jxp w B b (Sq sb es.length sc) es)(hb:sb≠b):Jco w sb b es:=by
 obtain⟨_,⟨H,_⟩|⟨g,cap,M,H,_,I,_,_,O,K⟩⟩:=h
 ·cases H
 simp only[On8,Oc9,Oh2,and_true]at H;obtain⟨rfl,-,rfl⟩:=H;refine⟨hb,fun j p hp=>?_⟩;have U:j<es.length:=(Ob9.1 hp).1;have y:∀ i,i<8->w.cell? (Ar sb (j*8+i))=(Jft b p)[i]?:=fun i hi=>by
  have:=Jek (Jft b) 8 (fun _=>rfl) es j i p hp hi;rw[<-K,Oe7,if_pos zo,Oe6]at this;rw[<-this];simp[World.cell?,I]
 exact⟨y 0 zo,y 1 zo,y 2 zo,y 3 zo,y 4 zo,y 5 zo,y 6 zo,y 7 zo⟩
theorem Jue:(prog.info? 288).map (fun i=>(i.zero,i.size,i.bytes))=some (some (.agg #[iZ,iZ,iZ,iZ,iZ,iZ,.string ⟨#[]⟩,.nilFunc]),8,72):=zK
theorem Jsw:(prog.info? 286).map (fun i=>(i.zero,i.size,i.bytes))=some (some Sz,1,24):=zK
theorem Ja4 {w:World}{B:Nat}{e:TypeId}{z:Nat}{sv:Value}{n:Nat}{xs:List Value}{g:Nat}(h:w.ownsRow B e z sv n xs)(y:sv.ownBlock=some g):∃ H,w.heap[g]?=some (.cells H e (0,0)):=by
 obtain⟨_,⟨I,_⟩|⟨M,cap,H,I,_,K,_⟩⟩:=h
 ·rw[I]at y;cases y
 rw[I]at y;simp only[Value.ownBlock,Oc9]at y;exact⟨H,y▸K⟩
end
open Go.RowKit Go.Shelf
attribute [local go_sem] Oc0
abbrev okV (t:Int)(v:V):Prop:=okB t v.k v.n v.s=true
theorem Ja6 {s:ByteArray}(h:s.toList.isEmpty=true):s=⟨#[]⟩:=by
 rw[Og4]at h;cases s with
 |mk d=>
  congr 1
  have:d.toList=[]:=by simpa using h
  exact Array.toList_eq_nil_iff.1 this
theorem Jgh {t v}(h:okV t v):v=Jf\/(v.k=t/\t≠0/\((t=1/\v.s=⟨#[]⟩)\/(t=2/\(v.n=0\/v.n=1)/\v.s=⟨#[]⟩)\/(t=3/\v.n=0))):=by
 unfold okV okB okK at h;simp only[decide_eq_true_eq]at h;rcases h with⟨I,H,y⟩|⟨I,H⟩
 ·exact .inl (V.ext' I H (Ja6 y))
 refine .inr ⟨I,?_⟩;rcases H with⟨H,y⟩|⟨H,K,y⟩|⟨H,y,_⟩
 ·exact⟨zo,.inl ⟨zo,Ja6 y⟩⟩
 ·exact⟨zo,.inr (.inl ⟨zo,K,Ja6 y⟩)⟩
 exact⟨zo,.inr (.inr ⟨zo,y⟩)⟩
def tyP (sch:List Int)(p:Pt):Int:=if p.op=0 then sch.getD p.c.toNat 0 else if p.op=1 then p.c else if p.op<=5 then 1 else 2
structure Jeg (sch T:List Int) (j:Nat) (p:Pt):Prop where
 ok:Qd1 sch.length j p
 r:2<=p.op->0<=p.r/\p.r<j
 con:p.op=1->(1<=p.c/\p.c<=3)/\okV p.c p.v
 num:2<=p.op->p.op<=5->T.getD p.l.toNat 0=1/\T.getD p.r.toNat 0=1
 same:6<=p.op->p.op<=7->T.getD p.l.toNat 0=T.getD p.r.toNat 0
 tru:8<=p.op->p.op<=9->T.getD p.l.toNat 0=2/\T.getD p.r.toNat 0=2
 nt:p.op=10->T.getD p.l.toNat 0=2
def Uj (sch:List Int)(es:List Pt):Prop:=∀ j p,es[j]?=some p->Jeg sch (es.map (tyP sch)) j p
def Jee (sch:List Int)(x:List V):Prop:=x.length=sch.length/\(∀ i,i<x.length->okV (sch.getD i 0) (x.getD i Jf))/\∀ v∈x,Jg v.n
