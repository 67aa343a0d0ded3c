/- What the parts of an expression are worth: the program's small functions on two values. -/
import Derived.Test.YtpchafocmlhmbaaGreatDoorTl
import Derived.Shelf.Bits.Mul64
import Derived.Lib.Bytealg
set_option maxHeartbeats 1000000
set_option maxRecDepth 100000
namespace Go.Proofs.YtpchafocmlhmbaaGreatDoor
section
open Go.RowKit Go.Shelf Tryz
attribute [local go_sem] Oc0
abbrev Jbg (n:Int):V:=⟨1,n,⟨#[]⟩⟩
def Kae (b:Bool):Int:=if b then 1 else 0
abbrev Yi (b:Bool):V:=⟨2,Kae b,⟨#[]⟩⟩
structure Jdo (w:World) (dv ov:Addr):Prop where
 d:w.cell? ⟨10,0,none⟩=some (.iface 433 (.pointer (some dv)))
 o:w.cell? ⟨11,0,none⟩=some (.iface 433 (.pointer (some ov)))
theorem Jdo.below {w w':World}{y E:Addr}(h:Jdo w y E)(D:Below w.heap.size w w'):Jdo w' y E:=⟨Ja D h.d,Ja D h.o⟩
def Jdb (y D:Addr)(e:Nat):Value:=if e=0 then .nilIface else if e=9 then .iface 433 (.pointer (some y))else .iface 433 (.pointer (some D))
theorem Jcw {a:Int}(h:Jg a):(BitVec.ofInt 64 a).msb=decide (a<0):=by
 unfold Jg at h;rw[BitVec.msb_eq_toInt,BitVec.toInt_ofInt];congr 1
 rw[Int.bmod_eq_of_le (by omega) (by omega)]
theorem Jre (x:BitVec 64):(IntKind.i64.wrap ((x.toNat:Nat):Int)<0)↔x.msb=true:=by
 rw[Od4,BitVec.msb_eq_decide,decide_eq_true_iff];have:=x.isLt;omega
theorem Jew (x:BitVec 64):BitVec.ofInt 64 (IntKind.i64.wrap ((x.toNat:Nat):Int))=x:=by
 apply BitVec.eq_of_toNat_eq;rw[Ok6,Od4];have:=x.isLt;omega
theorem Kg2 {a b n:Int}(H:Jg a)(K:Jg b)(hn:Jg n):(bits .and .i64 (bits .xor .i64 a n) (bits .xor .i64 b n)<0)↔((a<0)≠(n<0))∧((b<0)≠(n<0)):=by
 show IntKind.i64.wrap ((((BitVec.ofInt 64 (IntKind.i64.wrap (((BitVec.ofInt 64 a ^^^ BitVec.ofInt 64 n).toNat:Nat):Int)) &&& BitVec.ofInt 64 (IntKind.i64.wrap (((BitVec.ofInt 64 b ^^^ BitVec.ofInt 64 n).toNat:Nat):Int))):BitVec 64).toNat:Nat):Int)<0↔_;rw[Jre,Jew,Jew,BitVec.msb_and,BitVec.msb_xor,BitVec.msb_xor,Jcw H,Jcw K,Jcw hn];by_cases y:a<0<;>by_cases D:b<0<;>by_cases E:n<0<;>simp[y,D,E]
theorem Kb6 {a b:Int}(y:Jg a)(D:Jg b):(bits .and .i64 (bits .xor .i64 a (IntKind.i64.wrap (a+b))) (bits .xor .i64 b (IntKind.i64.wrap (a+b)))<0)↔¬ Jg (a+b):=by
 have E:Jg (IntKind.i64.wrap (a+b)):=by unfold Jg;rw[Od4];omega
 rw[Kg2 y D E];unfold Jg at *;rw[Od4];simp only[ne_eq,eq_iff_iff];omega
abbrev Jak (w:World)(v:V):World:=w.alloc (.cells #[.int .i64 v.k,.int .i64 v.n,.string v.s] 39)
theorem Ja7 (n:Int)(w:World):Calls prog 260 #[.int .i64 n] w fun e w'=>e=.returned (Jbg n).val∧w'=Jak w (Jbg n):=by
 go_enter func260,ntmps260
 go_wp2;exact bodyPost_ret (v:=(Jbg n).val) (by simp[results,results260,go_sem]) rfl ⟨rfl,rfl⟩
def Jd0 (n:Int):Bool:=decide (-9223372036854775808≤n)&&decide (n≤9223372036854775807)
theorem Qj (n:Int):Jd0 n=true↔Jg n:=by unfold Jd0 Jg;simp
def Jik (a b:V):V×Nat:=if Jd0 (a.n+b.n)then (Jbg (a.n+b.n),0)else (Jf,10)
def Jiw (a b:V):V×Nat:=if Jd0 (a.n-b.n)then (Jbg (a.n-b.n),0)else (Jf,10)
def Jkj (a b:V):V×Nat:=if Jd0 (a.n*b.n)then (Jbg (a.n*b.n),0)else (Jf,10)
def Jg4 (a b:V):V×Nat:=if b.n=0 then (Jf,9)else if Jd0 (a.n.tdiv b.n)then (Jbg (a.n.tdiv b.n),0)else (Jf,10)
abbrev OpP (w:World)(x:V)(ev:Value):Ending→World→Prop:=fun e w'=>e=.returned (.tuple #[x.val,ev])∧Below w.heap.size w w'
abbrev Jah (y D:Addr)(w:World)(r:V×Nat):Ending→World→Prop:=OpP w r.1 (Jdb y D r.2)
theorem Kw (w:World)(y D E:Obj):Below w.heap.size w (((w.alloc y).alloc D).alloc E):=(((Oa5 _ _).alloc (Oa2 _) _).alloc (by simp) _).alloc (by simp;omega) _
theorem Jaq (w:World)(y D E H:Obj):Below w.heap.size w ((((w.alloc y).alloc D).alloc E).alloc H):=(Kw w y D E).alloc (by simp;omega) _
theorem Jj {B:Nat}{a w:World}(h:Below B a w):Below B a w.drew:=⟨h.os,h.tape,h.output,h.size,h.block⟩
theorem Kdj (a b:V)(w:World)(H y:Addr)(K:Jdo w H y)(D:Jg a.n)(E:Jg b.n) :
  Calls prog 217 #[a.val,b.val] w (Jah H y w (Jik a b)):=by
 have O:=K.o;have hs:=Kb6 D E;obtain⟨n,hn⟩:∃ n,IntKind.i64.wrap (a.n+b.n)=n:=⟨_,rfl⟩;rw[hn]at hs;by_cases h:Jg (a.n+b.n)
 ·have hR:Jik a b=(Jbg n,0):=by
   have:IntKind.i64.wrap (a.n+b.n)=a.n+b.n:=by unfold Jg at h;rw[Od4];omega
   unfold Jik;rw[if_pos ((Qj _).2 h),←hn,this]
  rw[hR];show Calls _ _ _ _ (OpP w (Jbg n) .nilIface);have R:0≤bits .and .i64 (bits .xor .i64 a.n n) (bits .xor .i64 b.n n):=by
   have:=mt hs.1 (not_not_intro h);omega
  clear hs D E h hR;go_enter func217,ntmps217
  go_wp2_with (go_at_call 260;refine(Ja7 _ _).mono ?_;rintro e U ⟨rfl,rfl⟩)
  exact bodyPost_ret (v:=.tuple #[(Jbg n).val,.nilIface]) (by simp[results,results217,go_sem]) rfl ⟨rfl,Jaq _ _ _ _ _⟩
 have hR:Jik a b=(Jf,10):=by unfold Jik;rw[if_neg (fun e=>h ((Qj _).1 e))]
 rw[hR];show Calls _ _ _ _ (OpP w Jf (.iface 433 (.pointer (some y))));have R:=hs.2 h;have X:=Ja (Kw w (.cells #[.int .i64 a.k,.int .i64 a.n,.string a.s] 39) (.cells #[.int .i64 b.k,.int .i64 b.n,.string b.s] 39) (.cells #[.int .i64 0,.int .i64 0,.string ⟨#[]⟩] 39)) O;clear hs D E h hR;go_enter func217,ntmps217
 go_wp2;go_region
 go_wp2;all_goals exact bodyPost_ret (v:=.tuple #[Jf.val,.iface 433 (.pointer (some y))]) (by simp[results,results217,go_sem,Jf]) rfl ⟨rfl,Jp (Kw _ _ _ _) _⟩
end
section
open Go.RowKit Go.Shelf
attribute [local go_sem] Oc0
theorem Kf {w:World}{a:Addr}{v:Value}{o:Obj}(h:w.cell? a=some v):(w.alloc o).cell? a=some v:=(World.cell?_alloc_some w a o (by rw[h];rfl)).trans h
theorem Jh {w:World}{a:Addr}{v:Value}(h:w.cell? a=some v):w.drew.cell? a=some v:=h
def Jxt (a b:V):Int:=if a.n<b.n then -1 else if b.n<a.n then 1 else Lib.compareBytes a.s.data.toList b.s.data.toList
def Jsg (a b:V):V×Nat:=(Yi (a.beq b),0)
def Jkc (a b:V):V×Nat:=(Yi (decide (Jxt a b<0)),0)
def Jk6 (a b d:V):V:=if a.beq d||b.beq d then d else if a.k=0 then a else b
def Jse (a b:V):V×Nat:=(Jk6 a b (Yi false),0)
def orR (a b:V):V×Nat:=(Jk6 a b (Yi true),0)
def Ju0 (a _b:V):V×Nat:=(Yi (a.n==0),0)
def Jle (a _b:V):V×Nat:=(Yi (a.k==0),0)
def Kd (y:V→V→V×Nat)(a b:V):V×Nat:=if a.k=0∨b.k=0 then (Jf,0)else y a b
end
end Go.Proofs.YtpchafocmlhmbaaGreatDoor
