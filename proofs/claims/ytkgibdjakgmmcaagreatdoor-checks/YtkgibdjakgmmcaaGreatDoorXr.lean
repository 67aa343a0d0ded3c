/- The parts of expressions worked on a batch of rows: what a method of Work answers. -/
import Derived.Test.YtkgibdjakgmmcaaGreatDoorXb
import Derived.Test.YtkgibdjakgmmcaaGreatDoorCa
import Derived.Deep.AppendLies
import Derived.Test.YtkgibdjakgmmcaaGreatDoorTe
import Derived.Test.YtkgibdjakgmmcaaGreatDoorYa
import Derived.Test.YtkgibdjakgmmcaaGreatDoorRh
set_option maxRecDepth 100000
namespace Go.Proofs.YtkgibdjakgmmcaaGreatDoor
open Go.RowKit Go.Shelf
attribute [local go_sem] Oper.semAt_some
theorem cell_other {w:World}{a p:Addr}{v x:Value}(hn:p≠a)(h:w.cell? a=some v):(w.setCell p x).cell? a=some v:=by rw[World.cell?_setCell_other _ _ _ _ hn];exact h
structure Pt where
 op:Int
 l:Int
 r:Int
 c:Int
 v:V
abbrev Pt.val (p:Pt):Value:=.agg #[.int .i64 p.op,.int .i64 p.l,.int .i64 p.r,.int .i64 p.c,.int .i64 p.v.k,.int .i64 p.v.n,.string p.v.s]
attribute [local go_sem] Oper.semAt_some
attribute [local go_sem] Oper.semAt_some
attribute [local go_sem] Oper.semAt_some
attribute [local go_sem] Oper.semAt_some
attribute [local go_sem] Oper.semAt_some
attribute [local go_sem] Oper.semAt_some
def PartAt (w:World)(g o:Nat)(p:Pt):Prop:=
 w.cell? ⟨g,o,none⟩=some (.int .i64 p.op)∧w.cell? ⟨g,o+1,none⟩=some (.int .i64 p.l)∧w.cell? ⟨g,o+2,none⟩=some (.int .i64 p.r)∧w.cell? ⟨g,o+3,none⟩=some (.int .i64 p.c)∧w.cell? ⟨g,o+4,none⟩=some (.int .i64 p.v.k)∧w.cell? ⟨g,o+5,none⟩=some (.int .i64 p.v.n)∧w.cell? ⟨g,o+6,none⟩=some (.string p.v.s)
theorem PartAt.below {w w':World}{g o:Nat}{p:Pt}(h:PartAt w g o p)(hb:Below w.heap.size w w'):PartAt w' g o p:=
 ⟨cell_below hb h.1,cell_below hb h.2.1,cell_below hb h.2.2.1,cell_below hb h.2.2.2.1,cell_below hb h.2.2.2.2.1,cell_below hb h.2.2.2.2.2.1,cell_below hb h.2.2.2.2.2.2⟩
theorem flat_get {α:Type}(f:α→List Value)(z:Nat)(hf:∀ a,(f a).length=z):∀ (l:List α) (k i:Nat) (a:α),l[k]?=some a→i<z→(l.flatMap f)[k*z+i]?=(f a)[i]?:=by
 intro l
 induction l with
 |nil=>intro k i a h;simp at h
 |cons x l ih=>
  intro k i a h hi
  rw[List.flatMap_cons]
  cases k with
  |zero=>
   simp at h
   subst h
   rw[Nat.zero_mul,Nat.zero_add,List.getElem?_append_left (by rw[hf];exact hi)]
  |succ k=>
   have e:(k+1)*z+i=z+(k*z+i):=by rw[Nat.succ_mul];omega
   rw[e,List.getElem?_append_right (by rw[hf];omega),hf,Nat.add_sub_cancel_left]
   exact ih k i a (by simpa using h) hi
theorem flat_len {α:Type}(f:α→List Value)(z:Nat)(hf:∀ a,(f a).length=z)(l:List α):(l.flatMap f).length=l.length*z:=by
 induction l with
 |nil=>simp
 |cons x l ih=>rw[List.flatMap_cons,List.length_append,ih,hf,List.length_cons,Nat.succ_mul];omega
attribute [local go_sem] Oper.semAt_some
def tyP (sch:List Int)(p:Pt):Int:=if p.op=0 then sch.getD p.c.toNat 0 else if p.op=1 then p.c else if p.op≤5 then 1 else 2
attribute [local go_sem] Oper.semAt_some
theorem typeAt_ok (a:Option Addr)(cap:Nat)(ts:List Int)(i:Nat)(w:World)(hi:i<ts.length)(h:Ints w a ts) :
  Calls Tryz.prog 130 #[.slice a ts.length cap,.int .i64 (i:Int)] w fun e w'=>e=.returned (.tuple #[.int .i64 (ts.getD i 0),.bool true])∧w'=w:=by
 obtain⟨b,o,rfl,hb,hc⟩:=h.at hi
 have ht:ts.getD i 0=ts[i]:=by rw[List.getD_eq_getElem?_getD,List.getElem?_eq_getElem hi];rfl
 rw[ht]
 generalize ts[i]=t at hc ⊢
 clear ht h
 have i1:(0:Int)≤(i:Int):=by omega
 have i2:(i:Int)<(ts.length:Int):=by omega
 go_enter Tryz.func130,Tryz.ntmps130
 go_wp2
 exact bodyPost_ret (v:=.tuple #[.int .i64 t,.bool true]) (by simp[results,Tryz.results130,go_sem]) rfl ⟨rfl,rfl⟩
def TyAt (w:World)(tb:Nat)(cv ev:Value):Prop:=w.heap[tb]?=some (.cells #[cv,ev] 265 (0,0))
theorem TyAt.cells {w:World}{tb:Nat}{cv ev:Value}(h:TyAt w tb cv ev):w.cell? ⟨tb,0,none⟩=some cv∧w.cell? ⟨tb,1,none⟩=some ev:=by
 constructor<;>simp[World.cell?,show w.heap[tb]?=_ from h]
abbrev ptBox (w:World)(p:Pt):World:=w.alloc (.cells #[.int .i64 p.op,.int .i64 p.l,.int .i64 p.r,.int .i64 p.c,.int .i64 p.v.k,.int .i64 p.v.n,.string p.v.s] 63)
theorem box_cells (w:World)(p:Pt):(ptBox w p).cell? ⟨w.heap.size,1,none⟩=some (.int .i64 p.l)∧(ptBox w p).cell? ⟨w.heap.size,2,none⟩=some (.int .i64 p.r)∧(ptBox w p).cell? ⟨w.heap.size,3,none⟩=some (.int .i64 p.c):=by
 have:=heap_alloc_new w (.cells #[.int .i64 p.op,.int .i64 p.l,.int .i64 p.r,.int .i64 p.c,.int .i64 p.v.k,.int .i64 p.v.n,.string p.v.s] 63)
 refine⟨?_,?_,?_⟩<;>(unfold World.cell?;rw[this];rfl)
theorem heap_below_alloc {w:World}{tb:Nat}{cv ev:Value}(h:TyAt w tb cv ev)(o:Obj):TyAt (w.alloc o) tb cv ev:=(Below.heap_alloc _ _ _ (lt_of_heap h)).trans h
attribute [local go_sem] Oper.semAt_some
def tyF (op:Int):Nat:=if op=0 then 157 else if op=1 then 158 else if op≤5 then 159 else if op≤7 then 160 else if op≤9 then 161 else if op=10 then 162 else 163
abbrev tyC (tb:Nat):Array Value:=#[.func (.func 157) #[.pointer (some ⟨tb,0,none⟩)] #[],.func (.func 158) #[.pointer (some ⟨tb,0,none⟩)] #[],.func (.func 159) #[.pointer (some ⟨tb,0,none⟩)] #[],.func (.func 159) #[.pointer (some ⟨tb,0,none⟩)] #[],.func (.func 159) #[.pointer (some ⟨tb,0,none⟩)] #[],.func (.func 159) #[.pointer (some ⟨tb,0,none⟩)] #[],.func (.func 160) #[.pointer (some ⟨tb,0,none⟩)] #[],.func (.func 160) #[.pointer (some ⟨tb,0,none⟩)] #[],.func (.func 161) #[.pointer (some ⟨tb,0,none⟩)] #[],.func (.func 161) #[.pointer (some ⟨tb,0,none⟩)] #[],.func (.func 162) #[.pointer (some ⟨tb,0,none⟩)] #[],.func (.func 163) #[.pointer (some ⟨tb,0,none⟩)] #[]]
theorem tKinds_any (b:Nat)(w:World):Calls Tryz.prog 155 #[.pointer (some ⟨b,0,none⟩)] w fun e w'=>e=.returned (.agg (tyC b))∧Below w.heap.size w w':=by
 have hsf:∀ (f:Nat) (a:Addr) (W:World),(store a (.func (.func f) #[.pointer (some ⟨b,0,none⟩)] #[])).run Tryz.prog W=stored Tryz.prog W a (.func (.func f) #[.pointer (some ⟨b,0,none⟩)] #[]) .plain:=fun f a W=>run_store _ _ _ _ _ rfl
 go_enter Tryz.func155,Tryz.ntmps155
 go_wp2
 exact bodyPost_ret (v:=.agg (tyC b)) (by simp[results,Tryz.results155,go_sem]) rfl ⟨rfl,(by repeat (first|exact Below.refl _ _|refine below_alloc ?_ _|refine below_drew1 ?_))⟩
theorem tyF_enter (op:Int)(args:Array Value)(W:World):(callFunc (tyF op) args).run Tryz.prog W=.ok (.enter (tyF op) args) W:=by
 unfold tyF
 repeat' split
 all_goals kernel_rfl
theorem tyC_at (tb n:Nat)(h1:n<12):(tyC tb)[n]?=some (.func (.func (tyF (n:Int))) #[.pointer (some ⟨tb,0,none⟩)] #[]):=by
 have:n=0∨n=1∨n=2∨n=3∨n=4∨n=5∨n=6∨n=7∨n=8∨n=9∨n=10∨n=11:=by omega
 rcases this with rfl|rfl|rfl|rfl|rfl|rfl|rfl|rfl|rfl|rfl|rfl|rfl<;>rfl
end Go.Proofs.YtkgibdjakgmmcaaGreatDoor
