/- What the parts of an expression are worth: values compared, truth values, values that may be NULL. -/
import Derived.Test.YtdlgbphkaicfaaaGreatDoorXa
set_option maxHeartbeats 1000000
set_option maxRecDepth 100000
namespace Go.Proofs.YtdlgbphkaicfaaaGreatDoor
open Go.RowKit Go.Shelf Tryz
attribute [local go_sem] Oc0
theorem Kf {w:World}{a:Addr}{v:Value}{o:Obj}(h:w.cell? a=some v):(w.alloc o).cell? a=some v:=(World.cell?_alloc_some w a o (by rw[h];rfl)).trans h
theorem Jh {w:World}{a:Addr}{v:Value}(h:w.cell? a=some v):w.drew.cell? a=some v:=h
def Jxt (a b:V):Int:=if a.n<b.n then -1 else if b.n<a.n then 1 else Lib.compareBytes a.s.data.toList b.s.data.toList
theorem Jqx (a b:V)(w:World):Calls prog 235 #[a.val,b.val] w fun e w'=>e=.returned (.int .i64 (Jxt a b))∧∃ x y:Int,w'=((Jak (Jak w a) b).alloc (.cells #[.int .i64 x,.int .i64 y] 3)).drew:=by
 obtain⟨x,D⟩:∃ x:Int,x=(if a.n<b.n then -1 else if b.n<a.n then 1 else 0):=⟨_,rfl⟩
 obtain⟨y,E⟩:∃ y:Int,y=Lib.compareBytes a.s.data.toList b.s.data.toList:=⟨_,rfl⟩
 have h1:∀ W,Calls prog 270 #[.int .i64 a.n,.int .i64 b.n] W fun e w'=>e=.returned (.int .i64 x)∧w'=W:=fun W=>by rw[D];exact Jk7 _ _ W
 have h2:∀ W,Calls prog 271 #[.string a.s,.string b.s] W fun e w'=>e=.returned (.int .i64 y)∧w'=W:=fun W=>by rw[E];exact Jlb _ _ W
 have M:Jxt a b=if x=0 then y else x:=by
  unfold Jxt
  rw[D,E]
  by_cases h1:a.n<b.n
  ·simp[h1]
  by_cases h2:b.n<a.n<;>simp[h1,h2]
 rw[M]
 obtain⟨z,H⟩:∃ z:Int,(if x=0 then y else x)=z:=⟨_,rfl⟩
 have O:∀ g W,W.cell? ⟨g,0,none⟩=some (.int .i64 x)→W.cell? ⟨g,1,none⟩=some (.int .i64 y)→Calls prog 269 #[.slice (some ⟨g,0,none⟩) 2 2] W fun e w'=>e=.returned (.int .i64 z)∧w'=W:=fun g W R U=>by rw[←H];exact Jzv g x y W R U
 rw[H]
 clear M D E H
 go_enter func235,ntmps235
 go_wp2
 go_region_held3 (fun A=>A.cell? ⟨w.heap.size,1,none⟩=some (.int .i64 a.n)∧A.cell? ⟨w.heap.size,2,none⟩=some (.string a.s)∧A.cell? ⟨w.heap.size+1,1,none⟩=some (.int .i64 b.n)∧A.cell? ⟨w.heap.size+1,2,none⟩=some (.string b.s))
  (first|go_keep|(go_split_ands;refine⟨?_,?_,?_,?_⟩<;>assumption))
  (first|(go_at_call 270;refine(h1 _).mono ?_;rintro e K ⟨rfl,rfl⟩)|(go_at_call 271;refine(h2 _).mono ?_;rintro e K ⟨rfl,rfl⟩)|(go_at_call 269;refine(O _ _ (by go_simp) (by go_simp)).mono ?_;rintro e K ⟨rfl,rfl⟩))
 go_wp2
 go_ret
 exact⟨rfl,_,_,rfl⟩
def Jsg (a b:V):V×Nat:=(Yi (a.beq b),0)
def Jkc (a b:V):V×Nat:=(Yi (decide (Jxt a b<0)),0)
def Jk6 (a b d:V):V:=if a.beq d||b.beq d then d else if a.k=0 then a else b
def Jse (a b:V):V×Nat:=(Jk6 a b (Yi false),0)
def orR (a b:V):V×Nat:=(Jk6 a b (Yi true),0)
def Ju0 (a _b:V):V×Nat:=(Yi (a.n==0),0)
def Jle (a _b:V):V×Nat:=(Yi (a.k==0),0)
def Kd (y:V→V→V×Nat)(a b:V):V×Nat:=if a.k=0∨b.k=0 then (Jf,0)else y a b
theorem Jh2 (a b d:V)(w:World):Calls prog 266 #[a.val,b.val,d.val] w fun e w'=>e=.returned (Jk6 a b d).val∧w'=Jak (Jak (Jak (Jak w a) b) d) (Jk6 a b d):=by
 have A:∀ W,(binOp .eql 63 a.val d.val).run prog W=.ok (.bool (a.beq d)) W:=fun W=>Jcx W ..
 have D:∀ W,(binOp .eql 63 b.val d.val).run prog W=.ok (.bool (b.beq d)) W:=fun W=>Jcx W ..
 unfold Jk6
 cases h1:a.beq d with
 |true=>
  rw[h1]at A
  simp only[Bool.true_or,if_true]
  go_enter func266,ntmps266
  go_wp2
  exact bodyPost_ret (v:=d.val) (by simp[results,results266,go_sem]) rfl ⟨rfl,rfl⟩
 |false=>
  rw[h1]at A
  cases h2:b.beq d with
  |true=>
   rw[h2]at D
   simp only[Bool.or_true,if_true]
   go_enter func266,ntmps266
   go_wp2
   exact bodyPost_ret (v:=d.val) (by simp[results,results266,go_sem]) rfl ⟨rfl,rfl⟩
  |false=>
   rw[h2]at D
   simp only[Bool.or_self,Ol9,if_false]
   by_cases y:a.k=0
   ·rw[if_pos y]
    have E:(a.k==0)=true:=by simp[y]
    clear y
    go_enter func266,ntmps266
    go_wp2
    exact bodyPost_ret (v:=a.val) (by simp[results,results266,go_sem]) rfl ⟨rfl,rfl⟩
   rw[if_neg y]
   have E:(a.k==0)=false:=by simp[y]
   clear y
   go_enter func266,ntmps266
   go_wp2
   exact bodyPost_ret (v:=b.val) (by simp[results,results266,go_sem]) rfl ⟨rfl,rfl⟩
theorem Jzy (a b:V)(w:World)(y A:Addr):Calls prog 222 #[a.val,b.val] w (Jah y A w (Jsg a b)):=by
 show Calls _ _ _ _ (OpP w (Yi (a.beq b)) .nilIface)
 have D:∀ W,(binOp .eql 63 a.val b.val).run prog W=.ok (.bool (a.beq b)) W:=fun W=>Jcx W ..
 generalize a.beq b=r at D ⊢
 go_enter func222,ntmps222
 go_wp2_with (go_at_call 264;refine(Jbt _ _).mono ?_;rintro e E ⟨rfl,rfl⟩)
 exact bodyPost_ret (v:=.tuple #[(Yi r).val,.nilIface]) (by simp[results,results222,go_sem]) rfl ⟨rfl,Jaq _ _ _ _ _⟩
theorem Ke4 (a b:V)(w:World)(y A:Addr):Calls prog 228 #[a.val,b.val] w (Jah y A w (Ju0 a b)):=by
 show Calls _ _ _ _ (OpP w (Yi (a.n==0)) .nilIface)
 go_enter func228,ntmps228
 go_wp2_with (go_at_call 264;refine(Jbt _ _).mono ?_;rintro e D ⟨rfl,rfl⟩)
 exact bodyPost_ret (v:=.tuple #[(Yi (a.n==0)).val,.nilIface]) (by simp[results,results228,go_sem]) rfl ⟨rfl,Jaq _ _ _ _ _⟩
theorem Jyo (a b:V)(w:World)(y A:Addr):Calls prog 229 #[a.val,b.val] w (Jah y A w (Jle a b)):=by
 show Calls _ _ _ _ (OpP w (Yi (a.k==0)) .nilIface)
 go_enter func229,ntmps229
 go_wp2_with (go_at_call 264;refine(Jbt _ _).mono ?_;rintro e D ⟨rfl,rfl⟩)
 exact bodyPost_ret (v:=.tuple #[(Yi (a.k==0)).val,.nilIface]) (by simp[results,results229,go_sem]) rfl ⟨rfl,Jaq _ _ _ _ _⟩
theorem Jxr (a b:V)(w:World)(A D:Addr):Calls prog 223 #[a.val,b.val] w (Jah A D w (Jkc a b)):=by
 show Calls _ _ _ _ (OpP w (Yi (decide (Jxt a b<0))) .nilIface)
 have y:=fun W=>Jqx a b W
 generalize Jxt a b=c at y ⊢
 go_enter func223,ntmps223
 go_wp2_with (first|(go_at_call 235;refine(y _).mono ?_;rintro e E ⟨rfl,x,K,rfl⟩)|(go_at_call 264;refine(Jbt _ _).mono ?_;rintro e H ⟨rfl,rfl⟩))
 exact bodyPost_ret (v:=.tuple #[(Yi (decide (c<0))).val,.nilIface]) (by simp[results,results223,go_sem]) rfl ⟨rfl,(by repeat (first|exact Oa5 _ _|refine Jc ?_ _|refine Jj ?_))⟩
theorem Kay (a b:V)(w:World)(H K:Addr):Calls prog 225 #[a.val,b.val] w (Jah H K w (Jse a b)):=by
 show Calls _ _ _ _ (OpP w (Jk6 a b (Yi false)) .nilIface)
 have A:=fun W=>Jh2 a b (Yi false) W
 obtain⟨r,D⟩:∃ r,Jk6 a b (Yi false)=r:=⟨_,rfl⟩
 rw[D]at A ⊢
 clear D
 have M:(Jak (Jak w a) b).cell? ⟨w.heap.size,0,none⟩=some (.int .i64 a.k):=by simp
 have O:(Jak (Jak w a) b).cell? ⟨w.heap.size,1,none⟩=some (.int .i64 a.n):=by simp
 have R:(Jak (Jak w a) b).cell? ⟨w.heap.size,2,none⟩=some (.string a.s):=by simp
 have U:(Jak (Jak w a) b).cell? ⟨w.heap.size+1,0,none⟩=some (.int .i64 b.k):=by simp
 have X:(Jak (Jak w a) b).cell? ⟨w.heap.size+1,1,none⟩=some (.int .i64 b.n):=by simp
 have Z:(Jak (Jak w a) b).cell? ⟨w.heap.size+1,2,none⟩=some (.string b.s):=by simp
 go_enter func225,ntmps225
 go_wp2
 go_region_held3 (fun y=>y.cell? ⟨w.heap.size,0,none⟩=some (.int .i64 a.k)∧y.cell? ⟨w.heap.size,1,none⟩=some (.int .i64 a.n)∧y.cell? ⟨w.heap.size,2,none⟩=some (.string a.s)∧y.cell? ⟨w.heap.size+1,0,none⟩=some (.int .i64 b.k)∧y.cell? ⟨w.heap.size+1,1,none⟩=some (.int .i64 b.n)∧y.cell? ⟨w.heap.size+1,2,none⟩=some (.string b.s))
  (first|(refine⟨?_,?_,?_,?_,?_,?_⟩<;>(repeat (first|assumption|refine Kf ?_|refine Jh ?_)))|go_keep)
  (first|(go_at_call 264;refine(Jbt _ _).mono ?_;rintro e E ⟨rfl,rfl⟩)|(go_at_call 266;refine(A _).mono ?_;rintro e E ⟨rfl,rfl⟩))
 go_wp2
 exact bodyPost_ret (v:=.tuple #[r.val,.nilIface]) (by simp[results,results225,go_sem]) rfl ⟨rfl,(by repeat (first|exact Oa5 _ _|refine Jc ?_ _|refine Jj ?_))⟩
theorem Js1 (a b:V)(w:World)(H K:Addr):Calls prog 226 #[a.val,b.val] w (Jah H K w (orR a b)):=by
 show Calls _ _ _ _ (OpP w (Jk6 a b (Yi true)) .nilIface)
 have A:=fun W=>Jh2 a b (Yi true) W
 obtain⟨r,D⟩:∃ r,Jk6 a b (Yi true)=r:=⟨_,rfl⟩
 rw[D]at A ⊢
 clear D
 have M:(Jak (Jak w a) b).cell? ⟨w.heap.size,0,none⟩=some (.int .i64 a.k):=by simp
 have O:(Jak (Jak w a) b).cell? ⟨w.heap.size,1,none⟩=some (.int .i64 a.n):=by simp
 have R:(Jak (Jak w a) b).cell? ⟨w.heap.size,2,none⟩=some (.string a.s):=by simp
 have U:(Jak (Jak w a) b).cell? ⟨w.heap.size+1,0,none⟩=some (.int .i64 b.k):=by simp
 have X:(Jak (Jak w a) b).cell? ⟨w.heap.size+1,1,none⟩=some (.int .i64 b.n):=by simp
 have Z:(Jak (Jak w a) b).cell? ⟨w.heap.size+1,2,none⟩=some (.string b.s):=by simp
 go_enter func226,ntmps226
 go_wp2
 go_region_held3 (fun y=>y.cell? ⟨w.heap.size,0,none⟩=some (.int .i64 a.k)∧y.cell? ⟨w.heap.size,1,none⟩=some (.int .i64 a.n)∧y.cell? ⟨w.heap.size,2,none⟩=some (.string a.s)∧y.cell? ⟨w.heap.size+1,0,none⟩=some (.int .i64 b.k)∧y.cell? ⟨w.heap.size+1,1,none⟩=some (.int .i64 b.n)∧y.cell? ⟨w.heap.size+1,2,none⟩=some (.string b.s))
  (first|(refine⟨?_,?_,?_,?_,?_,?_⟩<;>(repeat (first|assumption|refine Kf ?_|refine Jh ?_)))|go_keep)
  (first|(go_at_call 264;refine(Jbt _ _).mono ?_;rintro e E ⟨rfl,rfl⟩)|(go_at_call 266;refine(A _).mono ?_;rintro e E ⟨rfl,rfl⟩))
 go_wp2
 exact bodyPost_ret (v:=.tuple #[r.val,.nilIface]) (by simp[results,results226,go_sem]) rfl ⟨rfl,(by repeat (first|exact Oa5 _ _|refine Jc ?_ _|refine Jj ?_))⟩
end Go.Proofs.YtdlgbphkaicfaaaGreatDoor
