/- What errors.Is answers at the errors that the program makes. -/
import Derived.Test.YtjjdldddcegjiaaGreatDoorEr
import Derived.Deep.LoopGhost
set_option maxHeartbeats 1000000
set_option maxRecDepth 100000
namespace Go.Proofs.YtjjdldddcegjiaaGreatDoor
open Go.RowKit Go.Extern.Stop Go.Stop Go.Extern Tryz
theorem Kbo (v:Value)(a t:Addr)(w:World)(h:∃ k,Zg w k v a)(y:∃ c t,w.heap[a.block]?=some (.cells c t (0,0)))(A:∃ c u,w.heap[t.block]?=some (.cells c u (0,0)))(r:Bool)(E:r=true↔a=t) :
  Calls prog 92 #[v,.iface 443 (.pointer (some t)),.bool true] w fun e w'=>e=.returned (.bool r)∧w'=w:=by
 obtain⟨bA,bH,y⟩:=y
 obtain⟨ct,bI,A⟩:=A
 obtain⟨i,hi,C⟩:=Oe9.1 Khh
 obtain⟨j,D,U⟩:=Oe9.1 Kha
 have O:Hid ((binOp .eql 77 (.iface 443 (.pointer (some a))) (.iface 443 (.pointer (some t)))).run prog w=.ok (.bool r) w):=by
  show _=_
  by_cases z:a=t
  ·rw[E.2 z];subst z
   exact run_eql_iface_ptr_same (P:=prog) w a underlying77 underlying443 hi C D
  have:r=false:=by cases r with
   |false=>rfl
   |true=>exact absurd (E.1 rfl) z
  rw[this]
  exact run_eql_iface_ptr_other (P:=prog) w underlying77 underlying443 hi C D (by rw[U];decide) z y A
 have M:Hid (∃ k,Zg w k v a):=h
 obtain⟨bJ,bL,rfl⟩:∃ ty x,v=.iface ty x:=by obtain⟨_,bf⟩:=h;exact bf.iface
 clear h E y A hi C D U
 go_enter func92,ntmps92
 go_wp2_with fail
 obtain⟨bl,X⟩:=M.out
 go_loopg [0] bl (fun k ev wr=>wr=w∧Zg w k ev a)
 case atStart=>exact⟨rfl,X⟩
 case round=>
  obtain⟨bi,K⟩:=hrel
  subst bi
  clear M X
  rcases gk with _|n
  ·have bj:_=Value.iface 443 (.pointer (some a)):=K
   subst bj
   clear K
   have bn:=Kcw
   have bu:=Jmp
   have bK:=Jhb
   have bD:=O.out
   cases r with
   |true=>
    go_wp2_with fail
    go_ret
    exact⟨rfl,rfl⟩
   |false=>
    go_wp2_with fail
    go_ret
    exact⟨rfl,rfl⟩
  obtain⟨ty,off,bx,b,v,hW,bh,R,H⟩:=K
  subst bh
  have Z:Hid (Zg wr n v a):=H
  have bc:Hid (Calls prog bx #[.pointer (some ⟨b,0,none⟩)] wr fun e w'=>e=.returned v∧w'=wr):=hW.walk b v _ R
  obtain⟨br,bz,rfl⟩:=H.iface
  have bn:=hW.noIs
  have bu:=hW.unwrap
  have bG:=hW.meth
  have bB:=hW.enter
  have bC:=hW.eql
  have bE:=run_eql_held_nil (P:=prog) wr 77 br bz (by kernel_rfl)
  clear hW R H O
  go_wp2_with fail
  refine bc.out.mono ?_
  rintro e w' ⟨rfl,rfl⟩
  go_wp2_with fail
  go_roundg n
  case measure=>exact On2 n
  case rel=>exact⟨by first|trivial|rfl,Z.out⟩
theorem Jci (v:Value)(a t:Addr)(w:World)(h:∃ k,Zg w k v a)(z:∃ c t,w.heap[a.block]?=some (.cells c t (0,0)))(C:∃ c u,w.heap[t.block]?=some (.cells c u (0,0)))(r:Bool)(A:r=true↔a=t) :
  Calls prog 67 #[v,.iface 443 (.pointer (some t))] w fun e w'=>e=.returned (.bool r)∧w'=w:=by
 have K:=@run_callFunc_extern prog 91 _ Extern.ReflectliteType.typeOf func91 (by kernel_rfl) (by kernel_rfl) (by kernel_rfl) (by kernel_rfl)
 have H:=Kcb
 have O:=Jld
 have E:=Jpv
 have M:=Jhv
 have y:=Kbo v a t w h z C r A
 obtain⟨ty,x,rfl⟩:∃ ty x,v=.iface ty x:=by obtain⟨_,y⟩:=h;exact y.iface
 have D:Hid (Calls prog 92 #[.iface ty x,.iface 443 (.pointer (some t)),.bool true] w fun e w'=>e=.returned (.bool r)∧w'=w):=y
 clear y A z C h
 go_enter func67,ntmps67
 go_wp2_with fail
 refine D.out.mono ?_
 rintro e w' ⟨rfl,rfl⟩
 go_wp2_with fail
 go_ret
 exact⟨rfl,rfl⟩
end Go.Proofs.YtjjdldddcegjiaaGreatDoor
