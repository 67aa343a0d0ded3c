/- errors.As, by Go's own text, at the errors that the program makes, at its targets. -/
import Derived.Test.YtcaocabmioafcaaGreatDoorEt
import Derived.Test.YtcaocabmioafcaaGreatDoorDb
set_option maxHeartbeats 4000000
set_option maxRecDepth 100000
namespace Go.Proofs.YtcaocabmioafcaaGreatDoor
open Go.RowKit Go.Extern.Stop Go.Stop Go.Extern
theorem Ji9 (t:Value)(w:World):Calls Tryz.prog 101 #[.nilIface,t] w fun e w'=>e=.returned (.bool false)∧w'=w:=by
 have A:=run_eql_nil_nil (P:=Tryz.prog) w 108 (by kernel_rfl)
 go_enter Tryz.func101,Tryz.ntmps101
 go_wp2
 go_ret
 exact⟨rfl,rfl⟩
theorem Jyl {B:Nat}{w:World}{t:Addr}(o1 o2:Obj)(v:Value)(A:B≤t.block)(H:B≤w.heap.size):Below B w (((w.alloc o1).alloc o2).setCell t v):=
 (((Oa5 B w).alloc H o1).alloc (by simp;omega) o2).setCell A v
theorem Kch {w:World}{t:Addr}{old:Value}(o1 o2:Obj)(v:Value)(A:w.cell? t=some old):(((w.alloc o1).alloc o2).setCell t v).cell? t=some v:=by
 have h:=Jm A
 exact World.cell?_setCell_same _ _ _ (u:=old) (by rw[Oe5 _ _ t (by simp;omega),Oe5 _ _ t h];exact A)
theorem Jpq {w:World}{t:Addr}{b k:Nat}{x:Value}(o1 o2:Obj)(v:Value)(A:w.cell? ⟨b,k,none⟩=some x)(H:b≠t.block):(((w.alloc o1).alloc o2).setCell t v).cell? ⟨b,k,none⟩=some x:=by
 have h:=Jm A
 simp only at h
 rw[Ob5 _ _ _ _ (fun e=>H (by rw[e]) ),Oe5 _ _ ⟨b,k,none⟩ (by simp;omega),Oe5 _ _ ⟨b,k,none⟩ h];exact A
theorem Jyv (tg pt off:Nat)(hT:IsT tg pt)(v:Value)(x:Option Int)(t av:Addr)(old:Value)(w:World)(B:Nat)(h:∃ k,Qn w tg off k v x)(hv:w.cell? av=some (.pointer (some t)))(ht:w.cell? t=some old)(hf:w.frozen? t=false)(hB:B≤t.block)(hBw:B≤w.heap.size)
  (hno:∀ b k y,w.cell? ⟨b,k,none⟩=some (.int .i64 y)→b≠t.block) :
  Calls Tryz.prog 140 #[v,.iface pt (.pointer (some t)),.agg #[.pointer (some ⟨17,pt,none⟩),.pointer (some av),.int .u64 150],.iface 302 (.agg #[.pointer (some ⟨17,tg,none⟩)])] w fun e w'=>Below B w w'∧((x=none∧e=.returned (.bool false)∧Below w.heap.size w w')∨∃ b y,x=some y∧e=.returned (.bool true)∧w'.cell? t=some (.pointer (some ⟨b,0,none⟩))∧w'.cell? ⟨b,off,none⟩=some (.int .i64 y)):=by
 have hTO:=@run_callFunc_extern Tryz.prog 135 _ ReflectliteType.typeOf Tryz.func135 (by kernel_rfl) (by kernel_rfl) (by kernel_rfl) (by kernel_rfl)
 have hAS := @run_callFunc_extern Tryz.prog 412 _ (ReflectliteType.relation "AssignableTo" ReflectliteType.assignableTo) Tryz.func412 (by kernel_rfl) (by kernel_rfl) (by kernel_rfl) (by kernel_rfl)
 have hVO:=@run_callFunc_extern Tryz.prog 137 _ (fun args=>ReflectliteValue.unpack (args.getD 0 (.tuple #[]))) Tryz.func137 (by kernel_rfl) (by kernel_rfl) (by kernel_rfl) (by kernel_rfl)
 have hEL := @run_callFunc_extern Tryz.prog 165 _ (ReflectliteValue.method (ReflectliteValue.valueError "reflectlite.Value.Elem" 0) ReflectliteValue.elem) Tryz.func165 (by kernel_rfl) (by kernel_rfl) (by kernel_rfl) (by kernel_rfl)
 have hST:=@run_callFunc_extern Tryz.prog 166 _ ReflectliteValue.set Tryz.func166 (by kernel_rfl) (by kernel_rfl) (by kernel_rfl) (by kernel_rfl)
 have mA:=Jsu
 have HH:Hid (∃ k,Qn w tg off k v x):=h
 obtain⟨ty0,x0,rfl⟩:∃ ty x,v=.iface ty x:=by obtain⟨_,hc⟩:=h;exact hc.iface
 have HNO:Hid (∀ b k y,w.cell? ⟨b,k,none⟩=some (.int .i64 y)→b≠t.block):=hno
 have HV:Hid (w.cell? av=some (.pointer (some t))):=hv
 have HT:Hid (w.cell? t=some old):=ht
 have HF:Hid (w.frozen? t=false):=hf
 have hBW:Hid (B≤w.heap.size):=hBw
 have hBT:Hid (B≤t.block):=hB
 clear h hno hv ht hf hB hBw
 go_enter Tryz.func140,Tryz.ntmps140
 go_wp2_with fail
 obtain⟨k0,hk0⟩:=HH.out
 go_loopg [0] k0 (fun k ev wr=>wr=w.alloc (.cells #[.pointer (some ⟨17,pt,none⟩),.pointer (some av),.int .u64 150] 262)∧Qn w tg off k ev x)
 case atStart=>exact⟨rfl,hk0⟩
 case round=>
  obtain⟨hwr,hx⟩:=hrel
  subst hwr
  clear HH hk0
  rcases gk with _|n
  ·rcases hx with⟨a,hev,hxx⟩|⟨b,y,hev,hxx,hy⟩
   ·subst hev hxx
    have tO:=Jld
    have aS:=hT.root
    simp only[Asg]at aS
    have nA:=Kb9
    have uU:=Jmp
    have nU:=Jhb
    clear hT
    go_wp2_with fail
    go_ret
    exact⟨(Oa5 B w).alloc hBW.out _,rfl,(Oa5 _ w).alloc (Oa2 _) _⟩
   subst hev hxx
   have tO:=hT.typ
   have aS:=hT.self
   simp only[Asg]at aS
   have vO:=hT.vT
   have htl:t.block<w.heap.size:=Jm HT.out
   have hvl:av.block<w.heap.size:=Jm HV.out
   have eV:=hT.eV av t (w.alloc (.cells #[.pointer (some ⟨17,pt,none⟩),.pointer (some av),.int .u64 150] 262)) (by rw[Oe5 _ _ _ hvl];exact HV.out)
   have sT:=hT.st t ⟨w.heap.size+1,0,none⟩ ⟨b,0,none⟩ old ((w.alloc (.cells #[.pointer (some ⟨17,pt,none⟩),.pointer (some av),.int .u64 150] 262)).alloc (.cells #[.pointer (some ⟨b,0,none⟩)] tg))
    (by rw[World.cell?_alloc_at _ _ _ _ (by simp)];rfl)
    (by rw[Oe5 _ _ t (by simp;omega),Oe5 _ _ t htl];exact HT.out)
    (by rw[World.frozen?_alloc_old _ _ t (by simp;omega),World.frozen?_alloc_old _ _ t (Nat.ne_of_lt htl)];exact HF.out)
   clear hT
   go_wp2_with fail
   go_ret
   exact⟨Jyl _ _ _ hBT.out hBW.out,.inr ⟨b,y,rfl,rfl,Kch _ _ _ HT.out,Jpq _ _ _ hy (HNO.out _ _ _ hy)⟩⟩
  obtain⟨ty,o,un,b,v,hW,hA,hev,hcell,hrest⟩:=hx
  subst hev
  have HR:Hid (Qn w tg off n v x):=hrest
  have HW:Hid (Calls Tryz.prog un #[.pointer (some ⟨b,0,none⟩)] (w.alloc (.cells #[.pointer (some ⟨17,pt,none⟩),.pointer (some av),.int .u64 150] 262)) fun e w'=>e=.returned v∧w'=w.alloc (.cells #[.pointer (some ⟨17,pt,none⟩),.pointer (some av),.int .u64 150] 262)):=
   hW.walk b v _ (by rw[Oe5 _ _ ⟨b,o,none⟩ (Jm hcell)];exact hcell)
  obtain⟨ty1,x1,rfl⟩:=hrest.iface
  have tO:=hW.typ
  have aS:=hA
  simp only[Asg]at aS
  have nA:=hW.noAs
  have uU:=hW.unwrap
  have mU:=hW.meth
  have eN:=hW.enter
  have hn1:=run_eql_held_nil (P:=Tryz.prog) (w.alloc (.cells #[.pointer (some ⟨17,pt,none⟩),.pointer (some av),.int .u64 150] 262)) 108 ty1 x1 (by kernel_rfl)
  clear hT hW hA hcell hrest
  go_wp2_with fail
  refine HW.out.mono ?_
  rintro e w' ⟨rfl,rfl⟩
  go_wp2_with fail
  go_roundg n
  case measure=>exact On2 n
  case rel=>exact⟨by first|trivial|rfl,HR.out⟩
theorem Jgu (tg pt off:Nat)(hT:IsT tg pt)(v:Value)(c:Option Int)(t:Nat)(w:World)(B:Nat)(h:∃ k,Qn w tg off k v c)(hg:w.cell? ⟨14,0,none⟩=some (.iface 302 (.agg #[.pointer (some ⟨17,108,none⟩)])))
  (ht:w.heap[t]?=some (.cells #[.pointer none] tg (0,0))) (hB:B≤t) :
  Calls Tryz.prog 101 #[v,.iface pt (.pointer (some ⟨t,0,none⟩))] w fun e w'=>Below B w w'∧((c=none∧e=.returned (.bool false)∧Below w.heap.size w w')∨∃ b x,c=some x∧e=.returned (.bool true)∧w'.cell? ⟨t,0,none⟩=some (.pointer (some ⟨b,0,none⟩))∧w'.cell? ⟨b,off,none⟩=some (.int .i64 x)):=by
 have hTl:=Jd ht
 have hWl:=Jm hg
 simp only at hWl
 have hVO:=@run_callFunc_extern Tryz.prog 137 _ (fun args=>ReflectliteValue.unpack (args.getD 0 (.tuple #[]))) Tryz.func137 (by kernel_rfl) (by kernel_rfl) (by kernel_rfl) (by kernel_rfl)
 have hTY := @run_callFunc_extern Tryz.prog 138 _ (ReflectliteValue.methodAny (ReflectliteValue.valueError "reflectlite.Value.Type" 0) (fun t _ _ _ => ReflectliteType.toType t)) Tryz.func138 (by kernel_rfl) (by kernel_rfl) (by kernel_rfl) (by kernel_rfl)
 have hNI := @run_callFunc_extern Tryz.prog 139 _ (ReflectliteValue.method (ReflectliteValue.valueError "reflectlite.Value.IsNil" 0) ReflectliteValue.isNil) Tryz.func139 (by kernel_rfl) (by kernel_rfl) (by kernel_rfl) (by kernel_rfl)
 have hKI:=@run_callFunc_extern Tryz.prog 395 _ (ReflectliteType.abiMethod fun t=>do pure (.int .u8 (←Rtype.kind t))) Tryz.func395 (by kernel_rfl) (by kernel_rfl) (by kernel_rfl) (by kernel_rfl)
 have hEL:=@run_callFunc_extern Tryz.prog 414 _ (ReflectliteType.method ReflectliteType.elem) Tryz.func414 (by kernel_rfl) (by kernel_rfl) (by kernel_rfl) (by kernel_rfl)
 have hIM := @run_callFunc_extern Tryz.prog 415 _ (ReflectliteType.relation "Implements" ReflectliteType.implements_) Tryz.func415 (by kernel_rfl) (by kernel_rfl) (by kernel_rfl) (by kernel_rfl)
 have f6:=hT.vP
 have f7:=hT.tyP
 have mK:=Kh9
 have mE:=Kii
 have mI:=Jr3
 have k1:=hT.kP
 have k2:=hT.kT
 have e1:=hT.elP
 have i1:=hT.imp
 obtain⟨ty,x,rfl⟩:∃ ty x,v=.iface ty x:=by obtain⟨_,hc⟩:=h;exact hc.iface
 have n8:=hT.nilP ⟨w.heap.size,0,none⟩ ⟨t,0,none⟩ ((w.alloc (.cells #[.pointer (some ⟨t,0,none⟩)] pt)).alloc (.cells #[.pointer (some ⟨17,pt,none⟩),.pointer (some ⟨w.heap.size,0,none⟩),.int .u64 150] 262)) (by simp)
 have hg2:((w.alloc (.cells #[.pointer (some ⟨t,0,none⟩)] pt)).alloc (.cells #[.pointer (some ⟨17,pt,none⟩),.pointer (some ⟨w.heap.size,0,none⟩),.int .u64 150] 262)).cell? ⟨14,0,none⟩=some (.iface 302 (.agg #[.pointer (some ⟨17,108,none⟩)])):=by
  rw[Oe5 _ _ ⟨14,0,none⟩ (by simp;omega),Oe5 _ _ ⟨14,0,none⟩ hWl];exact hg
 have hba:Below w.heap.size w ((w.alloc (.cells #[.pointer (some ⟨t,0,none⟩)] pt)).alloc (.cells #[.pointer (some ⟨17,pt,none⟩),.pointer (some ⟨w.heap.size,0,none⟩),.int .u64 150] 262)):=((Oa5 _ w).alloc (Oa2 _) _).alloc (by simp) _
 have ht2:((w.alloc (.cells #[.pointer (some ⟨t,0,none⟩)] pt)).alloc (.cells #[.pointer (some ⟨17,pt,none⟩),.pointer (some ⟨w.heap.size,0,none⟩),.int .u64 150] 262)).heap[t]?=some (.cells #[.pointer none] tg (0,0)):=by rw[hba.block t hTl];exact ht
 have hc:=Jyv tg pt off hT (.iface ty x) c ⟨t,0,none⟩ ⟨w.heap.size,0,none⟩ (.pointer none) ((w.alloc (.cells #[.pointer (some ⟨t,0,none⟩)] pt)).alloc (.cells #[.pointer (some ⟨17,pt,none⟩),.pointer (some ⟨w.heap.size,0,none⟩),.int .u64 150] 262)) B (by obtain⟨k,hh⟩:=h;exact⟨k,hh.stay hba⟩)
  (by rw[Oe5 _ _ ⟨w.heap.size,0,none⟩ (by simp)];simp) (by simp[World.cell?,ht2]) (by simp[World.frozen?,ht2]) hB (by simp;omega)
  (fun b k y hy hbt=>by simp only at hbt;subst hbt;rcases k with _|k<;>simp[World.cell?,ht2]at hy)
 have hb0:=hba.mono (show B≤w.heap.size by omega)
 have HBA:Hid (Below w.heap.size w ((w.alloc (.cells #[.pointer (some ⟨t,0,none⟩)] pt)).alloc (.cells #[.pointer (some ⟨17,pt,none⟩),.pointer (some ⟨w.heap.size,0,none⟩),.int .u64 150] 262))):=hba
 clear ht2 hba h hT
 go_enter Tryz.func101,Tryz.ntmps101
 go_wp2_with fail
 refine hc.mono ?_
 rintro e w' ⟨hbw,⟨hn,rfl,hbm⟩|⟨b,y,hs,rfl,q1,q2⟩⟩
 ·have HBM:Hid (Below w.heap.size w w'):=Jb HBA.out hbm
  clear hbm
  go_wp2_with fail
  go_ret
  exact⟨hb0.trans hbw,.inl ⟨hn,rfl,HBM.out⟩⟩
 go_wp2_with fail
 go_ret
 exact⟨hb0.trans hbw,.inr ⟨b,y,hs,rfl,q1,q2⟩⟩
end Go.Proofs.YtcaocabmioafcaaGreatDoor
