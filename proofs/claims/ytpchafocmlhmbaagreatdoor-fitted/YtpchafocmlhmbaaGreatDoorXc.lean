/- The parts of expressions worked on a batch of rows: what a method of Work answers. -/
import Derived.Test.YtpchafocmlhmbaaGreatDoorXb
import Derived.Test.YtpchafocmlhmbaaGreatDoorCa
set_option maxHeartbeats 1000000
set_option maxRecDepth 100000
namespace Go.Proofs.YtpchafocmlhmbaaGreatDoor
open Go.RowKit Go.Shelf Tryz
attribute [local go_sem] Oc0
theorem Uc {w:World}{a p:Addr}{v x:Value}(hn:p≠a)(h:w.cell? a=some v):(w.setCell p x).cell? a=some v:=by rw[Ob5 _ _ _ _ hn];exact h
structure Pt where
 op:Int
 l:Int
 r:Int
 c:Int
 v:V
abbrev Pt.val (p:Pt):Value:=.agg #[.int .i64 p.op,.int .i64 p.l,.int .i64 p.r,.int .i64 p.c,.int .i64 p.v.k,.int .i64 p.v.n,.string p.v.s]
def Uz (w:World)(b:Nat)(ex y:Value)(first n:Int)(D er:Value):Prop:=w.heap[b]?=some (.cells #[ex,y,.int .i64 first,.int .i64 n,D,er] 261 (0,0))
theorem Uz.below {w w':World}{b:Nat}{ex y:Value}{first n:Int}{D er:Value}(h:Uz w b ex y first n D er)(E:Below w.heap.size w w'):Uz w' b ex y first n D er:=(E.block b (Jd h)).trans h
theorem Uz.cells {w:World}{b:Nat}{ex y:Value}{first n:Int}{D er:Value}(h:Uz w b ex y first n D er) :
  w.cell? ⟨b,0,none⟩=some ex∧w.cell? ⟨b,1,none⟩=some y∧w.cell? ⟨b,2,none⟩=some (.int .i64 first)∧w.cell? ⟨b,3,none⟩=some (.int .i64 n)∧w.cell? ⟨b,4,none⟩=some D∧w.cell? ⟨b,5,none⟩=some er:=by
 unfold Uz at h;simp[World.cell?,h]
theorem Uz.thaw {w:World}{b:Nat}{ex y:Value}{first n:Int}{D er:Value}(h:Uz w b ex y first n D er)(o:Nat):w.frozen? ⟨b,o,none⟩=false:=by
 unfold Uz at h;simp[World.frozen?,h]
def Ja8 (w:World)(y:Nat)(row D:Int)(E:Value):Prop:=w.heap[y]?=some (.cells #[.int .i64 row,.int .i64 D,E] 152 (0,0))
abbrev Qv (y:Nat):Value:=.iface 148 (.pointer (some ⟨y,0,none⟩))
theorem Jzk (b:Nat)(row:Nat)(q:Addr)(ex H:Value)(first n:Nat)(y:Option Addr)(k cp:Nat)(er:Value)(w:World)(hf:first+row≤10000000)(h:Uz w b ex H first n (.slice y k cp) er) :
  Calls prog 264 #[.pointer (some ⟨b,0,none⟩),.int .i64 (row:Int),.iface 433 (.pointer (some q))] w fun e w'=>e=.returned (.tuple #[])∧w.heap.size≤w'.heap.size∧Uz w' b ex H first row (.slice y k cp) (Qv w.heap.size)∧Ja8 w' w.heap.size ((first+row:Nat):Int) k (.iface 433 (.pointer (some q)))∧Ju (·=b) w w':=by
 obtain⟨c0,c1,c2,c3,c4,c5⟩:=h.cells;have X:=h.thaw 3;have Y:=h.thaw 5;have U:=Jd h;have Z:IntKind.i64.wrap ((first:Int)+(row:Int))=(first:Int)+(row:Int):=by rw[Od4];omega
 have R:Hid (Uz w b ex H first n (.slice y k cp) er):=h;clear h;have ba:(w.setCell ⟨b,3,none⟩ (.int .i64 (row:Int))).cell? ⟨b,2,none⟩=some (.int .i64 (first:Int)):=by rw[Ob5 _ _ _ _ (by simp)];exact c2
 have bc:(w.setCell ⟨b,3,none⟩ (.int .i64 (row:Int))).cell? ⟨b,4,none⟩=some (.slice y k cp):=by rw[Ob5 _ _ _ _ (by simp)];exact c4
 go_enter func264,ntmps264
 go_wp2;go_region_held3 (fun D=>D.cell? ⟨b,2,none⟩=some (.int .i64 (first:Int))∧D.cell? ⟨b,4,none⟩=some (.slice y k cp))
  (first|(refine⟨?_,?_⟩<;>(repeat (first|assumption|refine Kf ?_|refine Jh ?_|refine Uc (by simp) ?_)))|go_keep)
  (fail)
 go_wp2;have K:=Jk (Jk R.out 3 (.int .i64 (row:Int))) 5 (Qv w.heap.size);simp only[Oa1,List.set_cons_zero,List.set_cons_succ]at K;have O:Ju (·=b) w ((w.setCell ⟨b,3,none⟩ (.int .i64 (row:Int))).setCell ⟨b,5,none⟩ (Qv w.heap.size)):=Ju.set (F:=fun x=>x=b) (Ju.set (F:=fun x=>x=b) (Ju.refl _ w) rfl 3 _) rfl 5 _;have E:((w.setCell ⟨b,3,none⟩ (.int .i64 (row:Int))).setCell ⟨b,5,none⟩ (Qv w.heap.size)).heap.size=w.heap.size:=by simp[World.setCell]
 generalize (w.setCell ⟨b,3,none⟩ (.int .i64 (row:Int))).setCell ⟨b,5,none⟩ (Qv w.heap.size)=D at K O E ⊢;go_end0
 refine⟨rfl,by rw[heap_drew,Oa7,E];omega,(Oa9 _ _ b (by rw[E];exact U)).trans K,?_,(O.alloc _).drewN 1⟩;have:=heap_alloc_new D (.cells #[.int .i64 ((first:Int)+(row:Int)),.int .i64 (k:Int),.iface 433 (.pointer (some q))] 152);rw[E]at this;unfold Ja8;rw[Int.natCast_add];exact this
theorem Js9 (a b:V)(bh f:Nat)(E:V→V→V×Nat)(w:World)(U Z:Addr)(bn:∀ (args:Array Value) (W:World),(callFunc f args).run prog W=.ok (.enter f args) W)(X:w.cell? ⟨bh,0,none⟩=some (.func (.func f) #[] #[]))
  (Y:∀ bf,Below w.heap.size w bf→Calls prog f #[a.val,b.val] bf (Jah U Z bf (E a b))) :
  Calls prog 259 #[a.val,b.val,.pointer (some ⟨bh,0,none⟩)] w (Jah U Z w (Kd E a b)):=by
 unfold Kd;by_cases D:a.k=0
 ·rw[if_pos (.inl D)];show Calls _ _ _ _ (OpP w Jf .nilIface);have bx:(a.k==0)=true:=by simp[D]
  clear D Y bn X;go_enter func259,ntmps259
  go_wp2;exact bodyPost_ret (v:=.tuple #[Jf.val,.nilIface]) (by simp[results,results259,go_sem,Jf]) rfl ⟨rfl,(by repeat (first|exact Oa5 _ _|refine Jc ?_ _|refine Jj ?_))⟩
 have bx:(a.k==0)=false:=by simp[D]
 by_cases H:b.k=0
 ·rw[if_pos (.inr H)];show Calls _ _ _ _ (OpP w Jf .nilIface);have bz:(b.k==0)=true:=by simp[H]
  clear D H Y bn X;go_enter func259,ntmps259
  go_wp2;exact bodyPost_ret (v:=.tuple #[Jf.val,.nilIface]) (by simp[results,results259,go_sem,Jf]) rfl ⟨rfl,(by repeat (first|exact Oa5 _ _|refine Jc ?_ _|refine Jj ?_))⟩
 have bz:(b.k==0)=false:=by simp[H]
 rw[if_neg (by simp[D,H])];clear D H;show Calls _ _ _ _ (OpP w (E a b).1 (Jdb U Z (E a b).2));have R:=Y _ (((Oa5 _ w).alloc (Oa2 _) (.cells #[.int .i64 a.k,.int .i64 a.n,.string a.s] 39)).alloc (by simp) (.cells #[.int .i64 b.k,.int .i64 b.n,.string b.s] 39) |>.alloc (by simp;omega) (.cells #[.int .i64 0,.int .i64 0,.string ⟨#[]⟩] 39));unfold Jah at R;have bA:(((w.alloc (.cells #[.int .i64 a.k,.int .i64 a.n,.string a.s] 39)).alloc (.cells #[.int .i64 b.k,.int .i64 b.n,.string b.s] 39)).alloc (.cells #[.int .i64 0,.int .i64 0,.string ⟨#[]⟩] 39)).cell? ⟨bh,0,none⟩=some (.func (.func f) #[] #[]):=Kf (Kf (Kf X));generalize (E a b).1=x at R ⊢;generalize Jdb U Z (E a b).2=ev at R ⊢;clear Y;go_enter func259,ntmps259
 go_wp2_with fail
 refine R.mono ?_;rintro e y ⟨rfl,bi⟩;have K:y.heap[w.heap.size+1+1]?=some (.cells #[.int .i64 0,.int .i64 0,.string ⟨#[]⟩] 39 (0,0)):=by
  rw[bi.block _ (by simp)];have:=heap_alloc_new ((w.alloc (.cells #[.int .i64 a.k,.int .i64 a.n,.string a.s] 39)).alloc (.cells #[.int .i64 b.k,.int .i64 b.n,.string b.s] 39)) (.cells #[.int .i64 0,.int .i64 0,.string ⟨#[]⟩] 39);simpa using this
 have bE:y.cell? ⟨w.heap.size+1+1,0,none⟩=some (.int .i64 0):=by simp[World.cell?,K]
 have bG:y.cell? ⟨w.heap.size+1+1,1,none⟩=some (.int .i64 0):=by simp[World.cell?,K]
 have m2:y.cell? ⟨w.heap.size+1+1,2,none⟩=some (.string ⟨#[]⟩):=by simp[World.cell?,K]
 have ba:∀ o:Nat,y.frozen? ⟨w.heap.size+1+1,o,none⟩=false:=fun o=>by simp[World.frozen?,K]
 have z1:=ba 0;have z2:=ba 1;have bH:=ba 2;have br:Hid (y.heap[w.heap.size+1+1]?=some (.cells #[.int .i64 0,.int .i64 0,.string ⟨#[]⟩] 39 (0,0))):=K;clear K ba R bA X;go_wp2_with fail
 have O:=Jk (Jk (Jk br.out 0 (.int .i64 x.k)) 1 (.int .i64 x.n)) 2 (.string x.s);simp only[Oa1,List.set_cons_zero,List.set_cons_succ]at O;have bj:Below w.heap.size w (((y.setCell ⟨w.heap.size+1+1,0,none⟩ (.int .i64 x.k)).setCell ⟨w.heap.size+1+1,1,none⟩ (.int .i64 x.n)).setCell ⟨w.heap.size+1+1,2,none⟩ (.string x.s)):=
  (((Jb (Kw w _ _ _) bi).setCell (p:=⟨w.heap.size+1+1,0,none⟩) (by simp;omega) _).setCell (p:=⟨w.heap.size+1+1,1,none⟩) (by simp;omega) _).setCell (p:=⟨w.heap.size+1+1,2,none⟩) (by simp;omega) _
 generalize ((y.setCell ⟨w.heap.size+1+1,0,none⟩ (.int .i64 x.k)).setCell ⟨w.heap.size+1+1,1,none⟩ (.int .i64 x.n)).setCell ⟨w.heap.size+1+1,2,none⟩ (.string x.s)=bc at O bj ⊢;have bB:bc.cell? ⟨w.heap.size+1+1,0,none⟩=some (.int .i64 x.k):=by simp[World.cell?,O]
 have bC:bc.cell? ⟨w.heap.size+1+1,1,none⟩=some (.int .i64 x.n):=by simp[World.cell?,O]
 have bD:bc.cell? ⟨w.heap.size+1+1,2,none⟩=some (.string x.s):=by simp[World.cell?,O]
 exact bodyPost_ret (v:=.tuple #[x.val,ev]) (by simp[results,results259,go_sem,bB,bC,bD]) rfl ⟨rfl,bj⟩
end Go.Proofs.YtpchafocmlhmbaaGreatDoor
