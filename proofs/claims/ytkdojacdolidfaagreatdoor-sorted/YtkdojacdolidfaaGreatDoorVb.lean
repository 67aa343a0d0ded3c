/- The types of an expression's parts, whatever the parts are: the program's answers. -/
import Derived.Test.YtkdojacdolidfaaGreatDoorXs
set_option maxRecDepth 100000
namespace Go.Proofs.YtkdojacdolidfaaGreatDoor
section
open Go.RowKit Go.Shelf Tryz
attribute [local go_sem] Oc0
def tyI (T:List Int)(i:Int):Option Int:=if 0<=i/\i<T.length then some (T.getD i.toNat 0)else none
abbrev tyV (o:Option Int):Value:=.tuple #[.int .i64 (o.getD 0),.bool o.isSome]
theorem zau {p:Prop}(h:p:=by
 go_enter func138,ntmps138
 go_wp2;exact bodyPost_ret (v:=.tuple #[.int .i64 0,.bool false]) (by simp[results,results138,go_sem]) rfl ⟨rfl,rfl⟩):p:=h
theorem Ky3 a cap ts i w(h:Kc w a ts):
  Calls prog 138 #[.slice a ts.length cap,.int .i64 i] w fun e w'=>e=.returned (tyV (tyI ts i))/\w'=w:=by
 by_cases hi:0<=i/\i<ts.length
 ·obtain⟨k,rfl⟩:∃ k:Nat,i=(k:Int):=⟨i.toNat,zo⟩;have:=Jef a cap ts k w zo h;unfold tyI;rw[if_pos hi];exact this
 unfold tyI;rw[if_neg hi];clear h;by_cases h0:i<0
 ·clear hi;exact zau
 have y:(0:Int)<=i:=zo;have H:(ts.length:Int)<=i:=zo;clear hi h0;exact zau
end
open Go.RowKit Go.Shelf
attribute [local go_sem] Oc0
def Qb3 (w:World)(pl ex:Addr)(v:Value):Prop:=∃ a r,(a=pl\/a=ex)/\(r=none\/r=some (-1))/\Jny w v a none r none none none none
theorem Qb3.root {w}pl ex:Qb3 w pl ex (.iface 434 (.pointer (some pl))):=
 ⟨pl,none,.inl rfl,.inl rfl,⟨0,.root pl⟩,⟨0,.root pl⟩,⟨0,.root pl⟩,⟨0,.root pl⟩,⟨0,.root pl⟩,⟨0,.root pl⟩,⟨0,.root pl⟩⟩
