/- The parts of expressions worked on a batch of rows: what a method of Work answers. -/
import Derived.Test.YtdlgbphkaicfaaaGreatDoorXb
import Derived.Test.YtdlgbphkaicfaaaGreatDoorHc
set_option maxHeartbeats 1000000
set_option maxRecDepth 100000
namespace Go.Proofs.YtdlgbphkaicfaaaGreatDoor
open Go.RowKit Go.Shelf Tryz
attribute [local go_sem] Oc0
theorem Uc {w:World}{a p:Addr}{v x:Value}(hn:p≠a)(h:w.cell? a=some v):(w.setCell p x).cell? a=some v:=by rw[Ob5 _ _ _ _ hn];exact h
structure Pt where
 op:Int
 l:Int
 r:Int
 c:Int
 v:V
abbrev Pt.val (p:Pt):Value:=.agg #[.int .i64 p.op,.int .i64 p.l,.int .i64 p.r,.int .i64 p.c,.int .i64 p.v.k,.int .i64 p.v.n,.string p.v.s]
def Uz (w:World)(b:Nat)(ex y:Value)(first n:Int)(D A:Value):Prop:=w.heap[b]?=some (.cells #[ex,y,.int .i64 first,.int .i64 n,D,A] 264 (0,0))
theorem Uz.below {w w':World}{b:Nat}{ex y:Value}{first n:Int}{D A:Value}(h:Uz w b ex y first n D A)(E:Below w.heap.size w w'):Uz w' b ex y first n D A:=(E.block b (Jd h)).trans h
theorem Uz.cells {w:World}{b:Nat}{ex y:Value}{first n:Int}{D A:Value}(h:Uz w b ex y first n D A) :
  w.cell? ⟨b,0,none⟩=some ex∧w.cell? ⟨b,1,none⟩=some y∧w.cell? ⟨b,2,none⟩=some (.int .i64 first)∧w.cell? ⟨b,3,none⟩=some (.int .i64 n)∧w.cell? ⟨b,4,none⟩=some D∧w.cell? ⟨b,5,none⟩=some A:=by
 unfold Uz at h
 simp[World.cell?,h]
theorem Uz.thaw {w:World}{b:Nat}{ex y:Value}{first n:Int}{D A:Value}(h:Uz w b ex y first n D A)(o:Nat):w.frozen? ⟨b,o,none⟩=false:=by
 unfold Uz at h
 simp[World.frozen?,h]
def Ja8 (w:World)(y:Nat)(row A:Int)(D:Value):Prop:=w.heap[y]?=some (.cells #[.int .i64 row,.int .i64 A,D] 155 (0,0))
abbrev Qv (y:Nat):Value:=.iface 151 (.pointer (some ⟨y,0,none⟩))
theorem Jzk (b:Nat)(row:Nat)(q:Addr)(ex E:Value)(first n:Nat)(y:Option Addr)(k cp:Nat)(K:Value)(w:World)(hf:first+row≤10000000)(h:Uz w b ex E first n (.slice y k cp) K) :
  Calls prog 265 #[.pointer (some ⟨b,0,none⟩),.int .i64 (row:Int),.iface 435 (.pointer (some q))] w fun e w'=>e=.returned (.tuple #[])∧w.heap.size≤w'.heap.size∧Uz w' b ex E first row (.slice y k cp) (Qv w.heap.size)∧Ja8 w' w.heap.size ((first+row:Nat):Int) k (.iface 435 (.pointer (some q)))∧Ju (·=b) w w':=by
 obtain⟨c0,c1,c2,c3,c4,c5⟩:=h.cells
 have U:=h.thaw 3
 have X:=h.thaw 5
 have R:=Jd h
 have Z:IntKind.i64.wrap ((first:Int)+(row:Int))=(first:Int)+(row:Int):=by rw[Od4];omega
 have O:Hid (Uz w b ex E first n (.slice y k cp) K):=h
 clear h
 have ba:(w.setCell ⟨b,3,none⟩ (.int .i64 (row:Int))).cell? ⟨b,2,none⟩=some (.int .i64 (first:Int)):=by rw[Ob5 _ _ _ _ (by simp)];exact c2
 have bb:(w.setCell ⟨b,3,none⟩ (.int .i64 (row:Int))).cell? ⟨b,4,none⟩=some (.slice y k cp):=by rw[Ob5 _ _ _ _ (by simp)];exact c4
 go_enter func265,ntmps265
 go_wp2
 go_region_held3 (fun A=>A.cell? ⟨b,2,none⟩=some (.int .i64 (first:Int))∧A.cell? ⟨b,4,none⟩=some (.slice y k cp))
  (first|(refine⟨?_,?_⟩<;>(repeat (first|assumption|refine Kf ?_|refine Jh ?_|refine Uc (by simp) ?_)))|go_keep)
  (fail)
 go_wp2
 have H:=Jk (Jk O.out 3 (.int .i64 (row:Int))) 5 (Qv w.heap.size)
 simp only[Oa1,List.set_cons_zero,List.set_cons_succ]at H
 have M:Ju (·=b) w ((w.setCell ⟨b,3,none⟩ (.int .i64 (row:Int))).setCell ⟨b,5,none⟩ (Qv w.heap.size)):=Ju.set (F:=fun x=>x=b) (Ju.set (F:=fun x=>x=b) (Ju.refl _ w) rfl 3 _) rfl 5 _
 have D:((w.setCell ⟨b,3,none⟩ (.int .i64 (row:Int))).setCell ⟨b,5,none⟩ (Qv w.heap.size)).heap.size=w.heap.size:=by simp[World.setCell]
 generalize (w.setCell ⟨b,3,none⟩ (.int .i64 (row:Int))).setCell ⟨b,5,none⟩ (Qv w.heap.size)=A at H M D ⊢
 go_end0
 refine⟨rfl,by rw[heap_drew,Oa7,D];omega,(Oa9 _ _ b (by rw[D];exact R)).trans H,?_,(M.alloc _).drewN 1⟩
 have:=heap_alloc_new A (.cells #[.int .i64 ((first:Int)+(row:Int)),.int .i64 (k:Int),.iface 435 (.pointer (some q))] 155)
 rw[D]at this
 unfold Ja8
 rw[Int.natCast_add]
 exact this
theorem Js9 (a b:V)(ba f:Nat)(A:V→V→V×Nat)(w:World)(K R:Addr)(bf:∀ (args:Array Value) (W:World),(callFunc f args).run prog W=.ok (.enter f args) W)(M:w.cell? ⟨ba,0,none⟩=some (.func (.func f) #[] #[]))
  (O:∀ Z,Below w.heap.size w Z→Calls prog f #[a.val,b.val] Z (Jah K R Z (A a b))) :
  Calls prog 260 #[a.val,b.val,.pointer (some ⟨ba,0,none⟩)] w (Jah K R w (Kd A a b)):=by
 unfold Kd
 by_cases h1:a.k=0
 ·rw[if_pos (.inl h1)]
  show Calls _ _ _ _ (OpP w Jf .nilIface)
  have bi:(a.k==0)=true:=by simp[h1]
  clear h1 O bf M
  go_enter func260,ntmps260
  go_wp2
  exact bodyPost_ret (v:=.tuple #[Jf.val,.nilIface]) (by simp[results,results260,go_sem,Jf]) rfl ⟨rfl,(by repeat (first|exact Oa5 _ _|refine Jc ?_ _|refine Jj ?_))⟩
 have bi:(a.k==0)=false:=by simp[h1]
 by_cases h2:b.k=0
 ·rw[if_pos (.inr h2)]
  show Calls _ _ _ _ (OpP w Jf .nilIface)
  have bj:(b.k==0)=true:=by simp[h2]
  clear h1 h2 O bf M
  go_enter func260,ntmps260
  go_wp2
  exact bodyPost_ret (v:=.tuple #[Jf.val,.nilIface]) (by simp[results,results260,go_sem,Jf]) rfl ⟨rfl,(by repeat (first|exact Oa5 _ _|refine Jc ?_ _|refine Jj ?_))⟩
 have bj:(b.k==0)=false:=by simp[h2]
 rw[if_neg (by simp[h1,h2])]
 clear h1 h2
 show Calls _ _ _ _ (OpP w (A a b).1 (Jdb K R (A a b).2))
 have H:=O _ (((Oa5 _ w).alloc (Oa2 _) (.cells #[.int .i64 a.k,.int .i64 a.n,.string a.s] 63)).alloc (by simp) (.cells #[.int .i64 b.k,.int .i64 b.n,.string b.s] 63) |>.alloc (by simp;omega) (.cells #[.int .i64 0,.int .i64 0,.string ⟨#[]⟩] 63))
 unfold Jah at H
 have bk:(((w.alloc (.cells #[.int .i64 a.k,.int .i64 a.n,.string a.s] 63)).alloc (.cells #[.int .i64 b.k,.int .i64 b.n,.string b.s] 63)).alloc (.cells #[.int .i64 0,.int .i64 0,.string ⟨#[]⟩] 63)).cell? ⟨ba,0,none⟩=some (.func (.func f) #[] #[]):=Kf (Kf (Kf M))
 generalize (A a b).1=x at H ⊢
 generalize Jdb K R (A a b).2=ev at H ⊢
 clear O
 go_enter func260,ntmps260
 go_wp2_with fail
 refine H.mono ?_
 rintro e y ⟨rfl,bb⟩
 have D:y.heap[w.heap.size+1+1]?=some (.cells #[.int .i64 0,.int .i64 0,.string ⟨#[]⟩] 63 (0,0)):=by
  rw[bb.block _ (by simp)]
  have:=heap_alloc_new ((w.alloc (.cells #[.int .i64 a.k,.int .i64 a.n,.string a.s] 63)).alloc (.cells #[.int .i64 b.k,.int .i64 b.n,.string b.s] 63)) (.cells #[.int .i64 0,.int .i64 0,.string ⟨#[]⟩] 63)
  simpa using this
 have bu:y.cell? ⟨w.heap.size+1+1,0,none⟩=some (.int .i64 0):=by simp[World.cell?,D]
 have bx:y.cell? ⟨w.heap.size+1+1,1,none⟩=some (.int .i64 0):=by simp[World.cell?,D]
 have m2:y.cell? ⟨w.heap.size+1+1,2,none⟩=some (.string ⟨#[]⟩):=by simp[World.cell?,D]
 have U:∀ o:Nat,y.frozen? ⟨w.heap.size+1+1,o,none⟩=false:=fun o=>by simp[World.frozen?,D]
 have bz:=U 0
 have bA:=U 1
 have bB:=U 2
 have bh:Hid (y.heap[w.heap.size+1+1]?=some (.cells #[.int .i64 0,.int .i64 0,.string ⟨#[]⟩] 63 (0,0))):=D
 clear D U H bk M
 go_wp2_with fail
 have E:=Jk (Jk (Jk bh.out 0 (.int .i64 x.k)) 1 (.int .i64 x.n)) 2 (.string x.s)
 simp only[Oa1,List.set_cons_zero,List.set_cons_succ]at E
 have bc:Below w.heap.size w (((y.setCell ⟨w.heap.size+1+1,0,none⟩ (.int .i64 x.k)).setCell ⟨w.heap.size+1+1,1,none⟩ (.int .i64 x.n)).setCell ⟨w.heap.size+1+1,2,none⟩ (.string x.s)):=
  (((Jb (Kw w _ _ _) bb).setCell (p:=⟨w.heap.size+1+1,0,none⟩) (by simp;omega) _).setCell (p:=⟨w.heap.size+1+1,1,none⟩) (by simp;omega) _).setCell (p:=⟨w.heap.size+1+1,2,none⟩) (by simp;omega) _
 generalize ((y.setCell ⟨w.heap.size+1+1,0,none⟩ (.int .i64 x.k)).setCell ⟨w.heap.size+1+1,1,none⟩ (.int .i64 x.n)).setCell ⟨w.heap.size+1+1,2,none⟩ (.string x.s)=X at E bc ⊢
 have bl:X.cell? ⟨w.heap.size+1+1,0,none⟩=some (.int .i64 x.k):=by simp[World.cell?,E]
 have bn:X.cell? ⟨w.heap.size+1+1,1,none⟩=some (.int .i64 x.n):=by simp[World.cell?,E]
 have br:X.cell? ⟨w.heap.size+1+1,2,none⟩=some (.string x.s):=by simp[World.cell?,E]
 exact bodyPost_ret (v:=.tuple #[x.val,ev]) (by simp[results,results260,go_sem,bl,bn,br]) rfl ⟨rfl,bc⟩
end Go.Proofs.YtdlgbphkaicfaaaGreatDoor
