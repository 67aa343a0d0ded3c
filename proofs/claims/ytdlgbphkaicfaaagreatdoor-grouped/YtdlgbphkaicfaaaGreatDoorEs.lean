/- What errors.Is answers at the errors that the program makes. -/
import Derived.Test.YtdlgbphkaicfaaaGreatDoorEr
import Derived.Deep.LoopGhost
set_option maxHeartbeats 1000000
set_option maxRecDepth 100000
namespace Go.Proofs.YtdlgbphkaicfaaaGreatDoor
open Go.RowKit Go.Extern.Stop Go.Stop Go.Extern Tryz
theorem Kbo (v:Value)(a t:Addr)(w:World)(h:∃ k,Zg w k v a)(y:∃ c t,w.heap[a.block]?=some (.cells c t (0,0)))(D:∃ c u,w.heap[t.block]?=some (.cells c u (0,0)))(r:Bool)(K:r=true↔a=t) :
  Calls prog 81 #[v,.iface 435 (.pointer (some t)),.bool true] w fun e w'=>e=.returned (.bool r)∧w'=w:=by
 obtain⟨bz,bG,y⟩:=y
 obtain⟨ct,bH,D⟩:=D
 obtain⟨i,hi,E⟩:=Oe9.1 Khh
 obtain⟨j,H,Z⟩:=Oe9.1 Kha
 have U:Hid ((binOp .eql 76 (.iface 435 (.pointer (some a))) (.iface 435 (.pointer (some t)))).run prog w=.ok (.bool r) w):=by
  show _=_
  by_cases A:a=t
  ·rw[K.2 A];subst A
   exact run_eql_iface_ptr_same (P:=prog) w a underlying76 underlying435 hi E H
  have:r=false:=by cases r with
   |false=>rfl
   |true=>exact absurd (K.1 rfl) A
  rw[this]
  exact run_eql_iface_ptr_other (P:=prog) w underlying76 underlying435 hi E H (by rw[Z];decide) A y D
 have R:Hid (∃ k,Zg w k v a):=h
 obtain⟨bI,bK,rfl⟩:∃ ty x,v=.iface ty x:=by obtain⟨_,bf⟩:=h;exact bf.iface
 clear h K y D hi E H Z
 go_enter func81,ntmps81
 go_wp2_with fail
 obtain⟨bk,ba⟩:=R.out
 go_loopg [0] bk (fun k ev wr=>wr=w∧Zg w k ev a)
 case atStart=>exact⟨rfl,ba⟩
 case round=>
  obtain⟨bi,O⟩:=hrel
  subst bi
  clear R ba
  rcases gk with _|n
  ·have bj:_=Value.iface 435 (.pointer (some a)):=O
   subst bj
   clear O
   have bl:=Kcw
   have br:=Jmp
   have bJ:=Jhb
   have bC:=U.out
   cases r with
   |true=>
    go_wp2_with fail
    go_ret
    exact⟨rfl,rfl⟩
   |false=>
    go_wp2_with fail
    go_ret
    exact⟨rfl,rfl⟩
  obtain⟨ty,off,bu,b,v,hW,bh,X,M⟩:=O
  subst bh
  have bb:Hid (Zg wr n v a):=M
  have bc:Hid (Calls prog bu #[.pointer (some ⟨b,0,none⟩)] wr fun e w'=>e=.returned v∧w'=wr):=hW.walk b v _ X
  obtain⟨bn,bx,rfl⟩:=M.iface
  have bl:=hW.noIs
  have br:=hW.unwrap
  have bE:=hW.meth
  have bA:=hW.enter
  have bB:=hW.eql
  have bD:=run_eql_held_nil (P:=prog) wr 76 bn bx (by kernel_rfl)
  clear hW X M U
  go_wp2_with fail
  refine bc.out.mono ?_
  rintro e w' ⟨rfl,rfl⟩
  go_wp2_with fail
  go_roundg n
  case measure=>exact On2 n
  case rel=>exact⟨by first|trivial|rfl,bb.out⟩
theorem Jci (v:Value)(a t:Addr)(w:World)(h:∃ k,Zg w k v a)(A:∃ c t,w.heap[a.block]?=some (.cells c t (0,0)))(E:∃ c u,w.heap[t.block]?=some (.cells c u (0,0)))(r:Bool)(D:r=true↔a=t) :
  Calls prog 56 #[v,.iface 435 (.pointer (some t))] w fun e w'=>e=.returned (.bool r)∧w'=w:=by
 have O:=@run_callFunc_extern prog 80 _ Extern.ReflectliteType.typeOf func80 (by kernel_rfl) (by kernel_rfl) (by kernel_rfl) (by kernel_rfl)
 have M:=Kcb
 have U:=Jld
 have K:=Jpv
 have R:=Jhv
 have y:=Kbo v a t w h A E r D
 obtain⟨ty,x,rfl⟩:∃ ty x,v=.iface ty x:=by obtain⟨_,y⟩:=h;exact y.iface
 have H:Hid (Calls prog 81 #[.iface ty x,.iface 435 (.pointer (some t)),.bool true] w fun e w'=>e=.returned (.bool r)∧w'=w):=y
 clear y D A E h
 go_enter func56,ntmps56
 go_wp2_with fail
 refine H.out.mono ?_
 rintro e w' ⟨rfl,rfl⟩
 go_wp2_with fail
 go_ret
 exact⟨rfl,rfl⟩
end Go.Proofs.YtdlgbphkaicfaaaGreatDoor
