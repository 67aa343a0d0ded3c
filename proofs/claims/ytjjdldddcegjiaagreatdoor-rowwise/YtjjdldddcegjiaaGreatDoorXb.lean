/- What the parts of an expression are worth: values compared, truth values, values that may be NULL. -/
import Derived.Test.YtjjdldddcegjiaaGreatDoorXa
set_option maxHeartbeats 1000000
set_option maxRecDepth 100000
namespace Go.Proofs.YtjjdldddcegjiaaGreatDoor
open Go.RowKit Go.Shelf Tryz
attribute [local go_sem] Oc0
theorem Kf {w:World}{a:Addr}{v:Value}{o:Obj}(h:w.cell? a=some v):(w.alloc o).cell? a=some v:=(World.cell?_alloc_some w a o (by rw[h];rfl)).trans h
theorem Jh {w:World}{a:Addr}{v:Value}(h:w.cell? a=some v):w.drew.cell? a=some v:=h
def Jxt (a b:V):Int:=if a.n<b.n then -1 else if b.n<a.n then 1 else Lib.compareBytes a.s.data.toList b.s.data.toList
theorem Jqx (a b:V)(w:World):Calls prog 246 #[a.val,b.val] w fun e w'=>e=.returned (.int .i64 (Jxt a b))∧∃ x y:Int,w'=((Jak (Jak w a) b).alloc (.cells #[.int .i64 x,.int .i64 y] 3)).drew:=by
 obtain⟨x,D⟩:∃ x:Int,x=(if a.n<b.n then -1 else if b.n<a.n then 1 else 0):=⟨_,rfl⟩
 obtain⟨y,E⟩:∃ y:Int,y=Lib.compareBytes a.s.data.toList b.s.data.toList:=⟨_,rfl⟩
 have A:∀ W,Calls prog 281 #[.int .i64 a.n,.int .i64 b.n] W fun e w'=>e=.returned (.int .i64 x)∧w'=W:=fun W=>by rw[D];exact Jk7 _ _ W
 have C:∀ W,Calls prog 282 #[.string a.s,.string b.s] W fun e w'=>e=.returned (.int .i64 y)∧w'=W:=fun W=>by rw[E];exact Jlb _ _ W
 have O:Jxt a b=if x=0 then y else x:=by
  unfold Jxt
  rw[D,E]
  by_cases A:a.n<b.n
  ·simp[A]
  by_cases C:b.n<a.n<;>simp[A,C]
 rw[O]
 obtain⟨K,H⟩:∃ K:Int,(if x=0 then y else x)=K:=⟨_,rfl⟩
 have R:∀ g W,W.cell? ⟨g,0,none⟩=some (.int .i64 x)→W.cell? ⟨g,1,none⟩=some (.int .i64 y)→Calls prog 280 #[.slice (some ⟨g,0,none⟩) 2 2] W fun e w'=>e=.returned (.int .i64 K)∧w'=W:=fun g W U X=>by rw[←H];exact Jzv g x y W U X
 rw[H]
 clear O D E H
 go_enter func246,ntmps246
 go_wp2
 go_region_held3 (fun z=>z.cell? ⟨w.heap.size,1,none⟩=some (.int .i64 a.n)∧z.cell? ⟨w.heap.size,2,none⟩=some (.string a.s)∧z.cell? ⟨w.heap.size+1,1,none⟩=some (.int .i64 b.n)∧z.cell? ⟨w.heap.size+1,2,none⟩=some (.string b.s))
  (first|go_keep|(go_split_ands;refine⟨?_,?_,?_,?_⟩<;>assumption))
  (first|(go_at_call 281;refine(A _).mono ?_;rintro e M ⟨rfl,rfl⟩)|(go_at_call 282;refine(C _).mono ?_;rintro e M ⟨rfl,rfl⟩)|(go_at_call 280;refine(R _ _ (by go_simp) (by go_simp)).mono ?_;rintro e M ⟨rfl,rfl⟩))
 go_wp2
 go_ret
 exact⟨rfl,_,_,rfl⟩
def Jsg (a b:V):V×Nat:=(Yi (a.beq b),0)
def Jkc (a b:V):V×Nat:=(Yi (decide (Jxt a b<0)),0)
def Jk6 (a b d:V):V:=if a.beq d||b.beq d then d else if a.k=0 then a else b
def Jse (a b:V):V×Nat:=(Jk6 a b (Yi false),0)
def orR (a b:V):V×Nat:=(Jk6 a b (Yi true),0)
def Ju0 (a _b:V):V×Nat:=(Yi (a.n==0),0)
def Jle (a _b:V):V×Nat:=(Yi (a.k==0),0)
def Kd (y:V→V→V×Nat)(a b:V):V×Nat:=if a.k=0∨b.k=0 then (Jf,0)else y a b
theorem Jh2 (a b d:V)(w:World):Calls prog 277 #[a.val,b.val,d.val] w fun e w'=>e=.returned (Jk6 a b d).val∧w'=Jak (Jak (Jak (Jak w a) b) d) (Jk6 a b d):=by
 have z:∀ W,(binOp .eql 49 a.val d.val).run prog W=.ok (.bool (a.beq d)) W:=fun W=>Jcx W ..
 have A:∀ W,(binOp .eql 49 b.val d.val).run prog W=.ok (.bool (b.beq d)) W:=fun W=>Jcx W ..
 unfold Jk6
 cases h1:a.beq d with
 |true=>
  rw[h1]at z
  simp only[Bool.true_or,if_true]
  go_enter func277,ntmps277
  go_wp2
  exact bodyPost_ret (v:=d.val) (by simp[results,results277,go_sem]) rfl ⟨rfl,rfl⟩
 |false=>
  rw[h1]at z
  cases h2:b.beq d with
  |true=>
   rw[h2]at A
   simp only[Bool.or_true,if_true]
   go_enter func277,ntmps277
   go_wp2
   exact bodyPost_ret (v:=d.val) (by simp[results,results277,go_sem]) rfl ⟨rfl,rfl⟩
  |false=>
   rw[h2]at A
   simp only[Bool.or_self,Ol9,if_false]
   by_cases y:a.k=0
   ·rw[if_pos y]
    have C:(a.k==0)=true:=by simp[y]
    clear y
    go_enter func277,ntmps277
    go_wp2
    exact bodyPost_ret (v:=a.val) (by simp[results,results277,go_sem]) rfl ⟨rfl,rfl⟩
   rw[if_neg y]
   have C:(a.k==0)=false:=by simp[y]
   clear y
   go_enter func277,ntmps277
   go_wp2
   exact bodyPost_ret (v:=b.val) (by simp[results,results277,go_sem]) rfl ⟨rfl,rfl⟩
theorem Jzy (a b:V)(w:World)(y z:Addr):Calls prog 233 #[a.val,b.val] w (Jah y z w (Jsg a b)):=by
 show Calls _ _ _ _ (OpP w (Yi (a.beq b)) .nilIface)
 have A:∀ W,(binOp .eql 49 a.val b.val).run prog W=.ok (.bool (a.beq b)) W:=fun W=>Jcx W ..
 generalize a.beq b=r at A ⊢
 go_enter func233,ntmps233
 go_wp2_with (go_at_call 275;refine(Jbt _ _).mono ?_;rintro e C ⟨rfl,rfl⟩)
 exact bodyPost_ret (v:=.tuple #[(Yi r).val,.nilIface]) (by simp[results,results233,go_sem]) rfl ⟨rfl,Jaq _ _ _ _ _⟩
theorem Ke4 (a b:V)(w:World)(y z:Addr):Calls prog 239 #[a.val,b.val] w (Jah y z w (Ju0 a b)):=by
 show Calls _ _ _ _ (OpP w (Yi (a.n==0)) .nilIface)
 go_enter func239,ntmps239
 go_wp2_with (go_at_call 275;refine(Jbt _ _).mono ?_;rintro e A ⟨rfl,rfl⟩)
 exact bodyPost_ret (v:=.tuple #[(Yi (a.n==0)).val,.nilIface]) (by simp[results,results239,go_sem]) rfl ⟨rfl,Jaq _ _ _ _ _⟩
theorem Jyo (a b:V)(w:World)(y z:Addr):Calls prog 240 #[a.val,b.val] w (Jah y z w (Jle a b)):=by
 show Calls _ _ _ _ (OpP w (Yi (a.k==0)) .nilIface)
 go_enter func240,ntmps240
 go_wp2_with (go_at_call 275;refine(Jbt _ _).mono ?_;rintro e A ⟨rfl,rfl⟩)
 exact bodyPost_ret (v:=.tuple #[(Yi (a.k==0)).val,.nilIface]) (by simp[results,results240,go_sem]) rfl ⟨rfl,Jaq _ _ _ _ _⟩
theorem Jxr (a b:V)(w:World)(z A:Addr):Calls prog 234 #[a.val,b.val] w (Jah z A w (Jkc a b)):=by
 show Calls _ _ _ _ (OpP w (Yi (decide (Jxt a b<0))) .nilIface)
 have y:=fun W=>Jqx a b W
 generalize Jxt a b=c at y ⊢
 go_enter func234,ntmps234
 go_wp2_with (first|(go_at_call 246;refine(y _).mono ?_;rintro e C ⟨rfl,x,E,rfl⟩)|(go_at_call 275;refine(Jbt _ _).mono ?_;rintro e D ⟨rfl,rfl⟩))
 exact bodyPost_ret (v:=.tuple #[(Yi (decide (c<0))).val,.nilIface]) (by simp[results,results234,go_sem]) rfl ⟨rfl,(by repeat (first|exact Oa5 _ _|refine Jc ?_ _|refine Jj ?_))⟩
theorem Kay (a b:V)(w:World)(D E:Addr):Calls prog 236 #[a.val,b.val] w (Jah D E w (Jse a b)):=by
 show Calls _ _ _ _ (OpP w (Jk6 a b (Yi false)) .nilIface)
 have z:=fun W=>Jh2 a b (Yi false) W
 obtain⟨r,A⟩:∃ r,Jk6 a b (Yi false)=r:=⟨_,rfl⟩
 rw[A]at z ⊢
 clear A
 have H:(Jak (Jak w a) b).cell? ⟨w.heap.size,0,none⟩=some (.int .i64 a.k):=by simp
 have K:(Jak (Jak w a) b).cell? ⟨w.heap.size,1,none⟩=some (.int .i64 a.n):=by simp
 have M:(Jak (Jak w a) b).cell? ⟨w.heap.size,2,none⟩=some (.string a.s):=by simp
 have O:(Jak (Jak w a) b).cell? ⟨w.heap.size+1,0,none⟩=some (.int .i64 b.k):=by simp
 have R:(Jak (Jak w a) b).cell? ⟨w.heap.size+1,1,none⟩=some (.int .i64 b.n):=by simp
 have U:(Jak (Jak w a) b).cell? ⟨w.heap.size+1,2,none⟩=some (.string b.s):=by simp
 go_enter func236,ntmps236
 go_wp2
 go_region_held3 (fun y=>y.cell? ⟨w.heap.size,0,none⟩=some (.int .i64 a.k)∧y.cell? ⟨w.heap.size,1,none⟩=some (.int .i64 a.n)∧y.cell? ⟨w.heap.size,2,none⟩=some (.string a.s)∧y.cell? ⟨w.heap.size+1,0,none⟩=some (.int .i64 b.k)∧y.cell? ⟨w.heap.size+1,1,none⟩=some (.int .i64 b.n)∧y.cell? ⟨w.heap.size+1,2,none⟩=some (.string b.s))
  (first|(refine⟨?_,?_,?_,?_,?_,?_⟩<;>(repeat (first|assumption|refine Kf ?_|refine Jh ?_)))|go_keep)
  (first|(go_at_call 275;refine(Jbt _ _).mono ?_;rintro e C ⟨rfl,rfl⟩)|(go_at_call 277;refine(z _).mono ?_;rintro e C ⟨rfl,rfl⟩))
 go_wp2
 exact bodyPost_ret (v:=.tuple #[r.val,.nilIface]) (by simp[results,results236,go_sem]) rfl ⟨rfl,(by repeat (first|exact Oa5 _ _|refine Jc ?_ _|refine Jj ?_))⟩
theorem Js1 (a b:V)(w:World)(D E:Addr):Calls prog 237 #[a.val,b.val] w (Jah D E w (orR a b)):=by
 show Calls _ _ _ _ (OpP w (Jk6 a b (Yi true)) .nilIface)
 have z:=fun W=>Jh2 a b (Yi true) W
 obtain⟨r,A⟩:∃ r,Jk6 a b (Yi true)=r:=⟨_,rfl⟩
 rw[A]at z ⊢
 clear A
 have H:(Jak (Jak w a) b).cell? ⟨w.heap.size,0,none⟩=some (.int .i64 a.k):=by simp
 have K:(Jak (Jak w a) b).cell? ⟨w.heap.size,1,none⟩=some (.int .i64 a.n):=by simp
 have M:(Jak (Jak w a) b).cell? ⟨w.heap.size,2,none⟩=some (.string a.s):=by simp
 have O:(Jak (Jak w a) b).cell? ⟨w.heap.size+1,0,none⟩=some (.int .i64 b.k):=by simp
 have R:(Jak (Jak w a) b).cell? ⟨w.heap.size+1,1,none⟩=some (.int .i64 b.n):=by simp
 have U:(Jak (Jak w a) b).cell? ⟨w.heap.size+1,2,none⟩=some (.string b.s):=by simp
 go_enter func237,ntmps237
 go_wp2
 go_region_held3 (fun y=>y.cell? ⟨w.heap.size,0,none⟩=some (.int .i64 a.k)∧y.cell? ⟨w.heap.size,1,none⟩=some (.int .i64 a.n)∧y.cell? ⟨w.heap.size,2,none⟩=some (.string a.s)∧y.cell? ⟨w.heap.size+1,0,none⟩=some (.int .i64 b.k)∧y.cell? ⟨w.heap.size+1,1,none⟩=some (.int .i64 b.n)∧y.cell? ⟨w.heap.size+1,2,none⟩=some (.string b.s))
  (first|(refine⟨?_,?_,?_,?_,?_,?_⟩<;>(repeat (first|assumption|refine Kf ?_|refine Jh ?_)))|go_keep)
  (first|(go_at_call 275;refine(Jbt _ _).mono ?_;rintro e C ⟨rfl,rfl⟩)|(go_at_call 277;refine(z _).mono ?_;rintro e C ⟨rfl,rfl⟩))
 go_wp2
 exact bodyPost_ret (v:=.tuple #[r.val,.nilIface]) (by simp[results,results237,go_sem]) rfl ⟨rfl,(by repeat (first|exact Oa5 _ _|refine Jc ?_ _|refine Jj ?_))⟩
end Go.Proofs.YtjjdldddcegjiaaGreatDoor
