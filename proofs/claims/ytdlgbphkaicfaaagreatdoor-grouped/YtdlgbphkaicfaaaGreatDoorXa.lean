/- What the parts of an expression are worth: the program's small functions on two values. -/
import Derived.Test.YtdlgbphkaicfaaaGreatDoorTl
import Derived.Test.YtdlgbphkaicfaaaGreatDoorKm
import Derived.Shelf.Bits.Mul64
import Derived.Lib.Bytealg
set_option maxHeartbeats 2000000
set_option maxRecDepth 100000
namespace Go.Proofs.YtdlgbphkaicfaaaGreatDoor
open Go.RowKit Go.Shelf Tryz
attribute [local go_sem] Oc0
abbrev Jbg (n:Int):V:=⟨1,n,⟨#[]⟩⟩
def Kae (b:Bool):Int:=if b then 1 else 0
abbrev Yi (b:Bool):V:=⟨2,Kae b,⟨#[]⟩⟩
structure Jdo (w:World) (dv ov:Addr):Prop where
 d:w.cell? ⟨10,0,none⟩=some (.iface 435 (.pointer (some dv)))
 o:w.cell? ⟨11,0,none⟩=some (.iface 435 (.pointer (some ov)))
theorem Jdo.below {w w':World}{y D:Addr}(h:Jdo w y D)(A:Below w.heap.size w w'):Jdo w' y D:=⟨Ja A h.d,Ja A h.o⟩
def Jdb (y A:Addr)(e:Nat):Value:=if e=0 then .nilIface else if e=9 then .iface 435 (.pointer (some y))else .iface 435 (.pointer (some A))
theorem Jcw {a:Int}(h:Jg a):(BitVec.ofInt 64 a).msb=decide (a<0):=by
 unfold Jg at h
 rw[BitVec.msb_eq_toInt,BitVec.toInt_ofInt]
 congr 1
 rw[Int.bmod_eq_of_le (by omega) (by omega)]
theorem Jre (x:BitVec 64):(IntKind.i64.wrap ((x.toNat:Nat):Int)<0)↔x.msb=true:=by
 rw[Od4,BitVec.msb_eq_decide,decide_eq_true_iff]
 have:=x.isLt
 omega
theorem Jew (x:BitVec 64):BitVec.ofInt 64 (IntKind.i64.wrap ((x.toNat:Nat):Int))=x:=by
 apply BitVec.eq_of_toNat_eq
 rw[Ok6,Od4]
 have:=x.isLt
 omega
theorem Kg2 {a b n:Int}(A:Jg a)(D:Jg b)(hn:Jg n):(bits .and .i64 (bits .xor .i64 a n) (bits .xor .i64 b n)<0)↔((a<0)≠(n<0))∧((b<0)≠(n<0)):=by
 show IntKind.i64.wrap ((((BitVec.ofInt 64 (IntKind.i64.wrap (((BitVec.ofInt 64 a ^^^ BitVec.ofInt 64 n).toNat:Nat):Int)) &&& BitVec.ofInt 64 (IntKind.i64.wrap (((BitVec.ofInt 64 b ^^^ BitVec.ofInt 64 n).toNat:Nat):Int))):BitVec 64).toNat:Nat):Int)<0↔_
 rw[Jre,Jew,Jew,BitVec.msb_and,BitVec.msb_xor,BitVec.msb_xor,Jcw A,Jcw D,Jcw hn]
 by_cases h1:a<0<;>by_cases h2:b<0<;>by_cases y:n<0<;>simp[h1,h2,y]
theorem Kgm {a b n:Int}(A:Jg a)(D:Jg b)(hn:Jg n):(bits .and .i64 (bits .xor .i64 a b) (bits .xor .i64 a n)<0)↔((a<0)≠(b<0))∧((a<0)≠(n<0)):=by
 show IntKind.i64.wrap ((((BitVec.ofInt 64 (IntKind.i64.wrap (((BitVec.ofInt 64 a ^^^ BitVec.ofInt 64 b).toNat:Nat):Int)) &&& BitVec.ofInt 64 (IntKind.i64.wrap (((BitVec.ofInt 64 a ^^^ BitVec.ofInt 64 n).toNat:Nat):Int))):BitVec 64).toNat:Nat):Int)<0↔_
 rw[Jre,Jew,Jew,BitVec.msb_and,BitVec.msb_xor,BitVec.msb_xor,Jcw A,Jcw D,Jcw hn]
 by_cases h1:a<0<;>by_cases h2:b<0<;>by_cases y:n<0<;>simp[h1,h2,y]
theorem Kb6 {a b:Int}(y:Jg a)(A:Jg b):(bits .and .i64 (bits .xor .i64 a (IntKind.i64.wrap (a+b))) (bits .xor .i64 b (IntKind.i64.wrap (a+b)))<0)↔¬ Jg (a+b):=by
 have D:Jg (IntKind.i64.wrap (a+b)):=by unfold Jg;rw[Od4];omega
 rw[Kg2 y A D]
 unfold Jg at *
 rw[Od4]
 simp only[ne_eq,eq_iff_iff]
 omega
theorem Kdf {a b:Int}(y:Jg a)(A:Jg b):(bits .and .i64 (bits .xor .i64 a b) (bits .xor .i64 a (IntKind.i64.wrap (a-b)))<0)↔¬ Jg (a-b):=by
 have D:Jg (IntKind.i64.wrap (a-b)):=by unfold Jg;rw[Od4];omega
 rw[Kgm y A D]
 unfold Jg at *
 rw[Od4]
 simp only[ne_eq,eq_iff_iff]
 omega
abbrev Jak (w:World)(v:V):World:=w.alloc (.cells #[.int .i64 v.k,.int .i64 v.n,.string v.s] 63)
theorem Ja7 (n:Int)(w:World):Calls prog 261 #[.int .i64 n] w fun e w'=>e=.returned (Jbg n).val∧w'=Jak w (Jbg n):=by
 go_enter func261,ntmps261
 go_wp2
 exact bodyPost_ret (v:=(Jbg n).val) (by simp[results,results261,go_sem]) rfl ⟨rfl,rfl⟩
theorem Jbt (b:Bool)(w:World):Calls prog 264 #[.bool b] w fun e w'=>e=.returned (Yi b).val∧w'=Jak w (Yi b):=by
 go_enter func264,ntmps264
 cases b
 ·go_wp2
  exact bodyPost_ret (v:=(Yi false).val) (by simp[results,results264,go_sem,Kae]) rfl ⟨rfl,rfl⟩
 go_wp2
 exact bodyPost_ret (v:=(Yi true).val) (by simp[results,results264,go_sem,Kae]) rfl ⟨rfl,rfl⟩
def Jd0 (n:Int):Bool:=decide (-9223372036854775808≤n)&&decide (n≤9223372036854775807)
theorem Qj (n:Int):Jd0 n=true↔Jg n:=by unfold Jd0 Jg;simp
def Jik (a b:V):V×Nat:=if Jd0 (a.n+b.n)then (Jbg (a.n+b.n),0)else (Jf,10)
def Jiw (a b:V):V×Nat:=if Jd0 (a.n-b.n)then (Jbg (a.n-b.n),0)else (Jf,10)
def Jkj (a b:V):V×Nat:=if Jd0 (a.n*b.n)then (Jbg (a.n*b.n),0)else (Jf,10)
def Jg4 (a b:V):V×Nat:=if b.n=0 then (Jf,9)else if Jd0 (a.n.tdiv b.n)then (Jbg (a.n.tdiv b.n),0)else (Jf,10)
abbrev OpP (w:World)(x:V)(ev:Value):Ending→World→Prop:=fun e w'=>e=.returned (.tuple #[x.val,ev])∧Below w.heap.size w w'
abbrev Jah (y A:Addr)(w:World)(r:V×Nat):Ending→World→Prop:=OpP w r.1 (Jdb y A r.2)
theorem Kw (w:World)(y A D:Obj):Below w.heap.size w (((w.alloc y).alloc A).alloc D):=(((Oa5 _ _).alloc (Oa2 _) _).alloc (by simp) _).alloc (by simp;omega) _
theorem Jaq (w:World)(y A D E:Obj):Below w.heap.size w ((((w.alloc y).alloc A).alloc D).alloc E):=(Kw w y A D).alloc (by simp;omega) _
theorem Jj {B:Nat}{a w:World}(h:Below B a w):Below B a w.drew:=⟨h.os,h.tape,h.output,h.size,h.block⟩
theorem Kdj (a b:V)(w:World)(E y:Addr)(H:Jdo w E y)(A:Jg a.n)(D:Jg b.n) :
  Calls prog 218 #[a.val,b.val] w (Jah E y w (Jik a b)):=by
 have K:=H.o
 have hs:=Kb6 A D
 obtain⟨n,hn⟩:∃ n,IntKind.i64.wrap (a.n+b.n)=n:=⟨_,rfl⟩
 rw[hn]at hs
 by_cases h:Jg (a.n+b.n)
 ·have hR:Jik a b=(Jbg n,0):=by
   have:IntKind.i64.wrap (a.n+b.n)=a.n+b.n:=by unfold Jg at h;rw[Od4];omega
   unfold Jik;rw[if_pos ((Qj _).2 h),←hn,this]
  rw[hR]
  show Calls _ _ _ _ (OpP w (Jbg n) .nilIface)
  have M:0≤bits .and .i64 (bits .xor .i64 a.n n) (bits .xor .i64 b.n n):=by
   have:=mt hs.1 (not_not_intro h)
   omega
  clear hs A D h hR
  go_enter func218,ntmps218
  go_wp2_with (go_at_call 261;refine(Ja7 _ _).mono ?_;rintro e O ⟨rfl,rfl⟩)
  exact bodyPost_ret (v:=.tuple #[(Jbg n).val,.nilIface]) (by simp[results,results218,go_sem]) rfl ⟨rfl,Jaq _ _ _ _ _⟩
 have hR:Jik a b=(Jf,10):=by unfold Jik;rw[if_neg (fun e=>h ((Qj _).1 e))]
 rw[hR]
 show Calls _ _ _ _ (OpP w Jf (.iface 435 (.pointer (some y))))
 have M:=hs.2 h
 have R:=Ja (Kw w (.cells #[.int .i64 a.k,.int .i64 a.n,.string a.s] 63) (.cells #[.int .i64 b.k,.int .i64 b.n,.string b.s] 63) (.cells #[.int .i64 0,.int .i64 0,.string ⟨#[]⟩] 63)) K
 clear hs A D h hR
 go_enter func218,ntmps218
 go_wp2
 go_region
 go_wp2
 all_goals exact bodyPost_ret (v:=.tuple #[Jf.val,.iface 435 (.pointer (some y))]) (by simp[results,results218,go_sem,Jf]) rfl ⟨rfl,Jp (Kw _ _ _ _) _⟩
theorem Ka9 (a b:V)(w:World)(E y:Addr)(H:Jdo w E y)(A:Jg a.n)(D:Jg b.n) :
  Calls prog 219 #[a.val,b.val] w (Jah E y w (Jiw a b)):=by
 have K:=H.o
 have hs:=Kdf A D
 obtain⟨n,hn⟩:∃ n,IntKind.i64.wrap (a.n-b.n)=n:=⟨_,rfl⟩
 rw[hn]at hs
 by_cases h:Jg (a.n-b.n)
 ·have hR:Jiw a b=(Jbg n,0):=by
   have:IntKind.i64.wrap (a.n-b.n)=a.n-b.n:=by unfold Jg at h;rw[Od4];omega
   unfold Jiw;rw[if_pos ((Qj _).2 h),←hn,this]
  rw[hR]
  show Calls _ _ _ _ (OpP w (Jbg n) .nilIface)
  have M:0≤bits .and .i64 (bits .xor .i64 a.n b.n) (bits .xor .i64 a.n n):=by
   have:=mt hs.1 (not_not_intro h)
   omega
  clear hs A D h hR
  go_enter func219,ntmps219
  go_wp2_with (go_at_call 261;refine(Ja7 _ _).mono ?_;rintro e O ⟨rfl,rfl⟩)
  exact bodyPost_ret (v:=.tuple #[(Jbg n).val,.nilIface]) (by simp[results,results219,go_sem]) rfl ⟨rfl,Jaq _ _ _ _ _⟩
 have hR:Jiw a b=(Jf,10):=by unfold Jiw;rw[if_neg (fun e=>h ((Qj _).1 e))]
 rw[hR]
 show Calls _ _ _ _ (OpP w Jf (.iface 435 (.pointer (some y))))
 have M:=hs.2 h
 have R:=Ja (Kw w (.cells #[.int .i64 a.k,.int .i64 a.n,.string a.s] 63) (.cells #[.int .i64 b.k,.int .i64 b.n,.string b.s] 63) (.cells #[.int .i64 0,.int .i64 0,.string ⟨#[]⟩] 63)) K
 clear hs A D h hR
 go_enter func219,ntmps219
 go_wp2
 go_region
 go_wp2
 all_goals exact bodyPost_ret (v:=.tuple #[Jf.val,.iface 435 (.pointer (some y))]) (by simp[results,results219,go_sem,Jf]) rfl ⟨rfl,Jp (Kw _ _ _ _) _⟩
theorem Kce (a b:V)(w:World)(y A:Addr)(H:Jdo w y A)(ba:Jg a.n)(bb:Jg b.n) :
  Calls prog 221 #[a.val,b.val] w (Jah y A w (Jg4 a b)):=by
 have X:=H.o
 have U:=H.d
 by_cases h0:b.n=0
 ·have hR:Jg4 a b=(Jf,9):=by unfold Jg4;rw[if_pos h0]
  rw[hR]
  show Calls _ _ _ _ (OpP w Jf (.iface 435 (.pointer (some y))))
  have Z:=Ja (Kw w (.cells #[.int .i64 a.k,.int .i64 a.n,.string a.s] 63) (.cells #[.int .i64 b.k,.int .i64 b.n,.string b.s] 63) (.cells #[.int .i64 0,.int .i64 0,.string ⟨#[]⟩] 63)) U
  have M:(b.n==0)=true:=by simp[h0]
  clear hR h0
  go_enter func221,ntmps221
  go_wp2
  go_region
  go_wp2
  all_goals exact bodyPost_ret (v:=.tuple #[Jf.val,.iface 435 (.pointer (some y))]) (by simp[results,results221,go_sem,Jf]) rfl ⟨rfl,Jp (Kw _ _ _ _) _⟩
 have M:(b.n==0)=false:=by simp[h0]
 by_cases h1:a.n=-9223372036854775808∧b.n=-1
 ·have hR:Jg4 a b=(Jf,10):=by
   unfold Jg4
   rw[if_neg h0,if_neg]
   rw[h1.1,h1.2]
   decide
  rw[hR]
  show Calls _ _ _ _ (OpP w Jf (.iface 435 (.pointer (some A))))
  have Z:=Ja (Kw w (.cells #[.int .i64 a.k,.int .i64 a.n,.string a.s] 63) (.cells #[.int .i64 b.k,.int .i64 b.n,.string b.s] 63) (.cells #[.int .i64 0,.int .i64 0,.string ⟨#[]⟩] 63)) X
  have h2:(a.n==-9223372036854775808)=true:=by simp[h1.1]
  have D:(b.n==-1)=true:=by simp[h1.2]
  clear hR h0 h1
  go_enter func221,ntmps221
  go_wp2
  go_region
  go_wp2
  all_goals exact bodyPost_ret (v:=.tuple #[Jf.val,.iface 435 (.pointer (some A))]) (by simp[results,results221,go_sem,Jf]) rfl ⟨rfl,Jp (Kw _ _ _ _) _⟩
 have E:Jg (a.n.tdiv b.n):=by
  unfold Jg at *
  have bh:(a.n.tdiv b.n).natAbs=a.n.natAbs / b.n.natAbs:=Int.natAbs_tdiv a.n b.n
  have bi:a.n.natAbs / b.n.natAbs≤a.n.natAbs:=Oo6 _ _
  by_cases O:b.n=-1
  ·rw[O,Int.tdiv_neg,Int.tdiv_one]
   omega
  ·by_cases R:b.n=1
   ·rw[R,Int.tdiv_one];omega
   have bj:a.n.natAbs / b.n.natAbs≤a.n.natAbs / 2:=Nat.div_le_div_left (by omega) (by omega)
   omega
 have hR:Jg4 a b=(Jbg (a.n.tdiv b.n),0):=by unfold Jg4;rw[if_neg h0,if_pos ((Qj _).2 E)]
 rw[hR]
 show Calls _ _ _ _ (OpP w (Jbg (a.n.tdiv b.n)) .nilIface)
 have bf:IntKind.i64.wrap (a.n.tdiv b.n)=a.n.tdiv b.n:=by unfold Jg at E;rw[Od4];omega
 obtain⟨n,hn⟩:∃ n,a.n.tdiv b.n=n:=⟨_,rfl⟩
 rw[hn]at bf ⊢
 have bc:(a.n==-9223372036854775808)=false∨((a.n==-9223372036854775808)=true∧(b.n==-1)=false):=by
  by_cases h2:a.n=-9223372036854775808
  ·exact .inr ⟨by simp[h2],by simp;intro D;exact h1 ⟨h2,D⟩⟩
  exact .inl (by simp[h2])
 clear hR h1 E ba bb
 rcases bc with h2|⟨h2,D⟩
 ·go_enter func221,ntmps221
  go_wp2_with (go_at_call 261;refine(Ja7 _ _).mono ?_;rintro e K ⟨rfl,rfl⟩)
  exact bodyPost_ret (v:=.tuple #[(Jbg n).val,.nilIface]) (by simp[results,results221,go_sem]) rfl ⟨rfl,Jaq _ _ _ _ _⟩
 go_enter func221,ntmps221
 go_wp2_with (go_at_call 261;refine(Ja7 _ _).mono ?_;rintro e K ⟨rfl,rfl⟩)
 exact bodyPost_ret (v:=.tuple #[(Jbg n).val,.nilIface]) (by simp[results,results221,go_sem]) rfl ⟨rfl,Jaq _ _ _ _ _⟩
theorem Jgn (n:Int)(w:World)(hn:Jg n):Calls prog 263 #[.int .i64 n] w fun e w'=>e=.returned (.int .u64 (n.natAbs:Int))∧w'=w:=by
 unfold Jg at hn
 by_cases h:n<0
 ·go_enter func263,ntmps263
  go_wp2
  go_ret
  exact⟨Yp (by rw[Oh5,Oh5];omega),rfl⟩
 have y:0≤n:=by omega
 go_enter func263,ntmps263
 go_wp2
 go_ret
 exact⟨Yp (by omega),rfl⟩
def Khc:Ren:=⟨fun _=>262,fun x=>if x=46 then 84 else 247,fun x=>x⟩
theorem Kfu:Lays.n264 prog Khc where
 mixed:=by kernel_rfl
 f264:=by kernel_rfl
 t46:=by kernel_rfl
 a46:=fun w=>by kernel_rfl
 z46:=fun w=>by kernel_rfl
 v46:=fun w=>by kernel_rfl
 t53:=by kernel_rfl
 a53:=fun w=>by kernel_rfl
 z53:=fun w=>by kernel_rfl
 v53:=fun w=>by kernel_rfl
theorem Ka0 (x y:Nat)(A:x<18446744073709551616)(D:y<18446744073709551616)(w:World) :
  Calls prog 262 #[.int .u64 x,.int .u64 y] w fun e w'=>e=.returned (.tuple #[.int .u64 ((x*y / 18446744073709551616:Nat):Int),.int .u64 ((x*y % 18446744073709551616:Nat):Int)])∧w'=w:=
 Any.bits_Mul64 Kfu x y A D w
theorem Jyn (a b:V)(w:World)(bk H:Addr)(bl:Jdo w bk H)(br:Jg a.n)(bu:Jg b.n) :
  Calls prog 220 #[a.val,b.val] w (Jah bk H w (Jkj a b)):=by
 have bn:=bl.o
 have bx:=Ja (Kw w (.cells #[.int .i64 a.k,.int .i64 a.n,.string a.s] 63) (.cells #[.int .i64 b.k,.int .i64 b.n,.string b.s] 63) (.cells #[.int .i64 0,.int .i64 0,.string ⟨#[]⟩] 63)) bn
 obtain⟨hi,bi⟩:∃ hi,a.n.natAbs*b.n.natAbs / 18446744073709551616=hi:=⟨_,rfl⟩
 obtain⟨lo,bj⟩:∃ lo,a.n.natAbs*b.n.natAbs % 18446744073709551616=lo:=⟨_,rfl⟩
 have Z:∀ W,Calls prog 262 #[.int .u64 (a.n.natAbs:Int),.int .u64 (b.n.natAbs:Int)] W fun e w'=>e=.returned (.tuple #[.int .u64 (hi:Int),.int .u64 (lo:Int)])∧w'=W:=fun W=>by
  unfold Jg at br bu
  rw[←bi,←bj]
  exact Ka0 _ _ (by omega) (by omega) W
 have bf:(a.n*b.n).natAbs=a.n.natAbs*b.n.natAbs:=Int.natAbs_mul _ _
 have M:(a.n<0↔b.n<0)∨a.n*b.n≤0:=by
  by_cases p:a.n<0
  ·by_cases q:b.n<0
   ·exact .inl ⟨fun _=>q,fun _=>p⟩
   exact .inr (Int.mul_nonpos_of_nonpos_of_nonneg (by omega) (by omega))
  by_cases q:b.n<0
  ·exact .inr (Int.mul_nonpos_of_nonneg_of_nonpos (by omega) (by omega))
  exact .inl ⟨fun h=>absurd h p,fun h=>absurd h q⟩
 have O:¬ (a.n<0↔b.n<0)∨0≤a.n*b.n:=by
  by_cases p:a.n<0
  ·by_cases q:b.n<0
   ·exact .inr (Int.mul_nonneg_of_nonpos_of_nonpos (by omega) (by omega))
   exact .inl (fun h=>q (h.1 p))
  by_cases q:b.n<0
  ·exact .inl (fun h=>p (h.2 q))
  exact .inr (Int.mul_nonneg (by omega) (by omega))
 have ba:lo<18446744073709551616:=by omega
 obtain⟨m,bb⟩:∃ m,a.n*b.n=m:=⟨_,rfl⟩
 have hR:Jkj a b=if Jd0 m then (Jbg m,0)else (Jf,10):=by unfold Jkj;rw[bb]
 rw[hR]
 have A:Hid (m.natAbs / 18446744073709551616=hi∧m.natAbs % 18446744073709551616=lo):=by
  rw[bb]at bf
  rw[bf]
  exact⟨bi,bj⟩
 rw[bb]at M O
 clear hR bb bf bi bj
 by_cases E:(a.n<0↔b.n<0)
 ·have hs:(!(decide (a.n<0)==decide (b.n<0)))=false:=by simp[E]
  have R:=O.resolve_left (not_not_intro E)
  by_cases X:hi≠0∨9223372036854775807<lo
  ·have hf:Jd0 m=false:=by
    rw[←Oo1,Qj]
    unfold Jg
    have:=A.out
    omega
   rw[hf]
   show Calls _ _ _ _ (OpP w Jf (.iface 435 (.pointer (some H))))
   have bh:((hi:Int) != 0)=true∨(((hi:Int) != 0)=false∧9223372036854775807<(lo:Int)):=by
    by_cases q:hi=0
    ·exact .inr ⟨by simp[q],by omega⟩
    exact .inl (by simp[q])
   clear hf X R E M O A ba
   go_enter func220,ntmps220
   go_wp2
   go_region_held3 (fun y=>y.cell? ⟨w.heap.size,1,none⟩=some (.int .i64 a.n)∧y.cell? ⟨w.heap.size+1,1,none⟩=some (.int .i64 b.n))
    (first|go_keep|(go_split_ands;refine⟨?_,?_⟩<;>assumption))
    (first|(go_at_call 263;refine(Jgn _ _ (by assumption)).mono ?_;rintro e D ⟨rfl,rfl⟩)|(go_at_call 262;refine(Z _).mono ?_;rintro e D ⟨rfl,rfl⟩))
   rcases bh with K|⟨K,bc⟩
   ·go_wp2
    go_region
    go_wp2
    exact bodyPost_ret (v:=.tuple #[Jf.val,.iface 435 (.pointer (some H))]) (by simp[results,results220,go_sem,Jf]) rfl ⟨rfl,Jj (Jj (Kw _ _ _ _))⟩
   go_wp2
   go_region
   go_wp2
   exact bodyPost_ret (v:=.tuple #[Jf.val,.iface 435 (.pointer (some H))]) (by simp[results,results220,go_sem,Jf]) rfl ⟨rfl,Jj (Jj (Kw _ _ _ _))⟩
  have hf:Jd0 m=true:=by
   rw[Qj]
   unfold Jg
   have:=A.out
   omega
  have U:m=(lo:Int):=by have:=A.out;omega
  rw[hf,U]
  show Calls _ _ _ _ (OpP w (Jbg (lo:Int)) .nilIface)
  have K:hi=0:=by omega
  have bc:(lo:Int)≤9223372036854775807:=by omega
  subst K
  clear hf U X R E M O A ba
  go_enter func220,ntmps220
  go_wp2
  go_region_held3 (fun y=>y.cell? ⟨w.heap.size,1,none⟩=some (.int .i64 a.n)∧y.cell? ⟨w.heap.size+1,1,none⟩=some (.int .i64 b.n))
   (first|go_keep|(go_split_ands;refine⟨?_,?_⟩<;>assumption))
   (first|(go_at_call 263;refine(Jgn _ _ (by assumption)).mono ?_;rintro e D ⟨rfl,rfl⟩)|(go_at_call 262;refine(Z _).mono ?_;rintro e D ⟨rfl,rfl⟩))
  go_wp2_with (go_at_call 261;refine(Ja7 _ _).mono ?_;rintro e D ⟨rfl,rfl⟩)
  exact bodyPost_ret (v:=.tuple #[(Jbg (lo:Int)).val,.nilIface]) (by simp[results,results220,go_sem]) rfl ⟨rfl,(Jp (Kw _ _ _ _) _).alloc (by simp;omega) _⟩
 have hs:(!(decide (a.n<0)==decide (b.n<0)))=true:=by
  by_cases p:a.n<0<;>by_cases q:b.n<0<;>simp[p,q]at E ⊢
 have R:=M.resolve_left E
 by_cases X:hi≠0∨9223372036854775808<lo
 ·have hf:Jd0 m=false:=by
   rw[←Oo1,Qj]
   unfold Jg
   have:=A.out
   omega
  rw[hf]
  show Calls _ _ _ _ (OpP w Jf (.iface 435 (.pointer (some H))))
  have bh:((hi:Int) != 0)=true∨(((hi:Int) != 0)=false∧9223372036854775808<(lo:Int)):=by
   by_cases q:hi=0
   ·exact .inr ⟨by simp[q],by omega⟩
   exact .inl (by simp[q])
  clear hf X R E M O A ba
  go_enter func220,ntmps220
  go_wp2
  go_region_held3 (fun y=>y.cell? ⟨w.heap.size,1,none⟩=some (.int .i64 a.n)∧y.cell? ⟨w.heap.size+1,1,none⟩=some (.int .i64 b.n))
   (first|go_keep|(go_split_ands;refine⟨?_,?_⟩<;>assumption))
   (first|(go_at_call 263;refine(Jgn _ _ (by assumption)).mono ?_;rintro e D ⟨rfl,rfl⟩)|(go_at_call 262;refine(Z _).mono ?_;rintro e D ⟨rfl,rfl⟩))
  rcases bh with K|⟨K,bc⟩
  ·go_wp2
   go_region
   go_wp2
   exact bodyPost_ret (v:=.tuple #[Jf.val,.iface 435 (.pointer (some H))]) (by simp[results,results220,go_sem,Jf]) rfl ⟨rfl,Jj (Jj (Kw _ _ _ _))⟩
  go_wp2
  go_region
  go_wp2
  exact bodyPost_ret (v:=.tuple #[Jf.val,.iface 435 (.pointer (some H))]) (by simp[results,results220,go_sem,Jf]) rfl ⟨rfl,Jj (Jj (Kw _ _ _ _))⟩
 have hf:Jd0 m=true:=by
  rw[Qj]
  unfold Jg
  have:=A.out
  omega
 have U:m=-(lo:Int):=by have:=A.out;omega
 have bz:IntKind.i64.wrap (IntKind.u64.wrap (-(lo:Int)))=-(lo:Int):=by rw[Od4,Oh5];omega
 rw[hf,U]
 show Calls _ _ _ _ (OpP w (Jbg (-(lo:Int))) .nilIface)
 have K:hi=0:=by omega
 have bc:(lo:Int)≤9223372036854775808:=by omega
 subst K
 clear hf U X R E M O A ba
 go_enter func220,ntmps220
 go_wp2
 go_region_held3 (fun y=>y.cell? ⟨w.heap.size,1,none⟩=some (.int .i64 a.n)∧y.cell? ⟨w.heap.size+1,1,none⟩=some (.int .i64 b.n))
  (first|go_keep|(go_split_ands;refine⟨?_,?_⟩<;>assumption))
  (first|(go_at_call 263;refine(Jgn _ _ (by assumption)).mono ?_;rintro e D ⟨rfl,rfl⟩)|(go_at_call 262;refine(Z _).mono ?_;rintro e D ⟨rfl,rfl⟩))
 go_wp2_with (go_at_call 261;refine(Ja7 _ _).mono ?_;rintro e D ⟨rfl,rfl⟩)
 exact bodyPost_ret (v:=.tuple #[(Jbg (-(lo:Int))).val,.nilIface]) (by simp[results,results220,go_sem]) rfl ⟨rfl,(Jp (Kw _ _ _ _) _).alloc (by simp;omega) _⟩
theorem Jk7 (x y:Int)(w:World):Calls prog 270 #[.int .i64 x,.int .i64 y] w fun e w'=>e=.returned (.int .i64 (if x<y then -1 else if y<x then 1 else 0))∧w'=w:=by
 have A:∀ (z:Int) (W:World),Calls prog 287 #[.int .i64 z] W fun e w'=>e=.returned (.bool false)∧w'=W:=fun z W=>by
  have K:(z != z)=false:=by simp
  go_enter func287,ntmps287
  go_wp2
  go_ret
  exact⟨rfl,rfl⟩
 by_cases h1:x<y
 ·rw[if_pos h1]
  go_enter func270,ntmps270
  go_wp2_with (go_at_call 287;refine(A _ _).mono ?_;rintro e D ⟨rfl,rfl⟩)
  go_ret
  exact⟨rfl,rfl⟩
 rw[if_neg h1]
 have E:y≤x:=by omega
 by_cases h2:y<x
 ·rw[if_pos h2]
  go_enter func270,ntmps270
  go_wp2_with (go_at_call 287;refine(A _ _).mono ?_;rintro e D ⟨rfl,rfl⟩)
  go_ret
  exact⟨rfl,rfl⟩
 rw[if_neg h2]
 have H:x≤y:=by omega
 go_enter func270,ntmps270
 go_wp2_with (go_at_call 287;refine(A _ _).mono ?_;rintro e D ⟨rfl,rfl⟩)
 go_ret
 exact⟨rfl,rfl⟩
theorem Jlb (a b:ByteArray)(w:World):Calls prog 271 #[.string a,.string b] w fun e w'=>e=.returned (.int .i64 (Lib.compareBytes a.data.toList b.data.toList))∧w'=w:=by
 have y:∀ W,Calls prog 288 #[.string a,.string b] W fun e w'=>e=.returned (.int .i64 (Lib.compareBytes a.data.toList b.data.toList))∧w'=W:=fun W=>by
  go_enter func288,ntmps288
  go_wp2
  rw[run_callFunc_extern func295 (by kernel_rfl) (by kernel_rfl) (by kernel_rfl) (e:=Extern.BytealgCompare.compare) (by kernel_rfl),Lib.run_compareString]
  simp only[Result.andThen]
  rw[Oper.upon_value]
  go_wp2
  go_ret
  exact⟨rfl,rfl⟩
 go_enter func271,ntmps271
 go_wp2_with (go_at_call 288;refine(y _).mono ?_;rintro e A ⟨rfl,rfl⟩)
 go_ret
 exact⟨rfl,rfl⟩
theorem Jzv (g:Nat)(x A:Int)(w:World)(h0:w.cell? ⟨g,0,none⟩=some (.int .i64 x))(h1:w.cell? ⟨g,1,none⟩=some (.int .i64 A)):Calls prog 269 #[.slice (some ⟨g,0,none⟩) 2 2] w fun e w'=>e=.returned (.int .i64 (if x=0 then A else x))∧w'=w:=by
 go_enter func269,ntmps269
 go_wp2
 go_loopw [8] (fun i wr=>wr=w∧(i=.int .i64 0∨(i=.int .i64 1∧x=0)∨(i=.int .i64 2∧x=0∧A=0))) (fun i _=>2-(intOf i).toNat)
 case atStart=>exact⟨rfl,.inl rfl⟩
 case round=>
  obtain⟨rfl,(rfl|⟨rfl,y⟩|⟨rfl,y,D⟩)⟩:=hrel
  ·by_cases y:x=0
   ·have H:(x != 0)=false:=by simp[y]
    have E:Hid (x=0):=y
    clear y
    go_wp2
    go_roundw
    case rel=>exact⟨by trivial,.inr (.inl ⟨rfl,E.out⟩)⟩
    case measure=>simp[intOf]
   have H:(x != 0)=true:=by simp[y]
   go_wp2
   go_ret
   exact⟨by first|rfl|rw[if_neg y],rfl⟩
  ·by_cases D:A=0
   ·have K:(A != 0)=false:=by simp[D]
    have E:Hid (x=0∧A=0):=⟨y,D⟩
    clear y D
    go_wp2
    go_roundw
    case rel=>exact⟨by trivial,.inr (.inr ⟨rfl,E.out.1,E.out.2⟩)⟩
    case measure=>simp[intOf]
   have K:(A != 0)=true:=by simp[D]
   go_wp2
   go_ret
   exact⟨by first|rfl|rw[if_pos y],rfl⟩
  go_wp2
  go_ret
  exact⟨by first|rfl|rw[if_pos y,D],rfl⟩
end Go.Proofs.YtdlgbphkaicfaaaGreatDoor
