/- errors.As, by Go's own text, at the errors that the program makes, at its targets. -/
import Derived.Test.YtkgibdjakgmmcaaGreatDoorEt
import Derived.Test.YtkgibdjakgmmcaaGreatDoorRh
set_option maxHeartbeats 4000000
set_option maxRecDepth 100000
namespace Go.Proofs.YtkgibdjakgmmcaaGreatDoor
open Go.RowKit Go.Extern.Stop Go.Stop Go.Extern
theorem as_nil (t:Value)(w:World):Calls Tryz.prog 65 #[.nilIface,t] w fun e w'=>e=.returned (.bool false)∧w'=w:=by
 have hn:=run_eql_nil_nil (P:=Tryz.prog) w 81 (by kernel_rfl)
 go_enter Tryz.func65,Tryz.ntmps65
 go_wp2
 go_ret
 exact⟨rfl,rfl⟩
theorem below_hit {B:Nat}{w:World}{t:Addr}(o1 o2:Obj)(v:Value)(hB:B≤t.block)(hBw:B≤w.heap.size):Below B w (((w.alloc o1).alloc o2).setCell t v):=
 (((Below.refl B w).alloc hBw o1).alloc (by simp;omega) o2).setCell hB v
theorem cell_hit {w:World}{t:Addr}{old:Value}(o1 o2:Obj)(v:Value)(ht:w.cell? t=some old):(((w.alloc o1).alloc o2).setCell t v).cell? t=some v:=by
 have h:=lt_of_cell ht
 exact World.cell?_setCell_same _ _ _ (u:=old) (by rw[World.cell?_alloc_lt _ _ t (by simp;omega),World.cell?_alloc_lt _ _ t h];exact ht)
theorem cell_hit_old {w:World}{t:Addr}{b k:Nat}{x:Value}(o1 o2:Obj)(v:Value)(hx:w.cell? ⟨b,k,none⟩=some x)(hne:b≠t.block):(((w.alloc o1).alloc o2).setCell t v).cell? ⟨b,k,none⟩=some x:=by
 have h:=lt_of_cell hx
 simp only at h
 rw[World.cell?_setCell_other _ _ _ _ (fun e=>hne (by rw[e]) ),World.cell?_alloc_lt _ _ ⟨b,k,none⟩ (by simp;omega),World.cell?_alloc_lt _ _ ⟨b,k,none⟩ h];exact hx
theorem erras_any (tg pt off:Nat)(hT:IsT tg pt)(v:Value)(x:Option Int)(t av:Addr)(old:Value)(w:World)(B:Nat)(h:∃ k,ChainT w tg off k v x)(hv:w.cell? av=some (.pointer (some t)))(ht:w.cell? t=some old)(hf:w.frozen? t=false)(hB:B≤t.block)(hBw:B≤w.heap.size)
  (hno:∀ b k y,w.cell? ⟨b,k,none⟩=some (.int .i64 y)→b≠t.block) :
  Calls Tryz.prog 87 #[v,.iface pt (.pointer (some t)),.agg #[.pointer (some ⟨15,pt,none⟩),.pointer (some av),.int .u64 150],.iface 216 (.agg #[.pointer (some ⟨15,tg,none⟩)])] w fun e w'=>Below B w w'∧((x=none∧e=.returned (.bool false)∧Below w.heap.size w w')∨∃ b y,x=some y∧e=.returned (.bool true)∧w'.cell? t=some (.pointer (some ⟨b,0,none⟩))∧w'.cell? ⟨b,off,none⟩=some (.int .i64 y)):=by
 have hTO:=@run_callFunc_extern Tryz.prog 82 _ ReflectliteType.typeOf Tryz.func82 (by kernel_rfl) (by kernel_rfl) (by kernel_rfl) (by kernel_rfl)
 have hAS := @run_callFunc_extern Tryz.prog 197 _ (ReflectliteType.relation "AssignableTo" ReflectliteType.assignableTo) Tryz.func197 (by kernel_rfl) (by kernel_rfl) (by kernel_rfl) (by kernel_rfl)
 have hVO:=@run_callFunc_extern Tryz.prog 84 _ (fun args=>ReflectliteValue.unpack (args.getD 0 (.tuple #[]))) Tryz.func84 (by kernel_rfl) (by kernel_rfl) (by kernel_rfl) (by kernel_rfl)
 have hEL := @run_callFunc_extern Tryz.prog 110 _ (ReflectliteValue.method (ReflectliteValue.valueError "reflectlite.Value.Elem" 0) ReflectliteValue.elem) Tryz.func110 (by kernel_rfl) (by kernel_rfl) (by kernel_rfl) (by kernel_rfl)
 have hST:=@run_callFunc_extern Tryz.prog 111 _ ReflectliteValue.set Tryz.func111 (by kernel_rfl) (by kernel_rfl) (by kernel_rfl) (by kernel_rfl)
 have mA:=mAssignable
 have HH:Hid (∃ k,ChainT w tg off k v x):=h
 obtain⟨ty0,x0,rfl⟩:∃ ty x,v=.iface ty x:=by obtain⟨_,hc⟩:=h;exact hc.iface
 have HNO:Hid (∀ b k y,w.cell? ⟨b,k,none⟩=some (.int .i64 y)→b≠t.block):=hno
 have HV:Hid (w.cell? av=some (.pointer (some t))):=hv
 have HT:Hid (w.cell? t=some old):=ht
 have HF:Hid (w.frozen? t=false):=hf
 have hBW:Hid (B≤w.heap.size):=hBw
 have hBT:Hid (B≤t.block):=hB
 clear h hno hv ht hf hB hBw
 go_enter Tryz.func87,Tryz.ntmps87
 go_wp2_with fail
 obtain⟨k0,hk0⟩:=HH.out
 go_loopg [0] k0 (fun k ev wr=>wr=w.alloc (.cells #[.pointer (some ⟨15,pt,none⟩),.pointer (some av),.int .u64 150] 193)∧ChainT w tg off k ev x)
 case atStart=>exact⟨rfl,hk0⟩
 case round=>
  obtain⟨hwr,hx⟩:=hrel
  subst hwr
  clear HH hk0
  rcases gk with _|n
  ·rcases hx with⟨a,hev,hxx⟩|⟨b,y,hev,hxx,hy⟩
   ·subst hev hxx
    have tO:=typeOfRoot
    have aS:=hT.root
    simp only[Asg]at aS
    have nA:=noAsRoot
    have uU:=unwrapRoot
    have nU:=noUnwrapsRoot
    clear hT
    go_wp2_with fail
    go_ret
    exact⟨(Below.refl B w).alloc hBW.out _,rfl,(Below.refl _ w).alloc (Nat.le_refl _) _⟩
   subst hev hxx
   have tO:=hT.typ
   have aS:=hT.self
   simp only[Asg]at aS
   have vO:=hT.vT
   have htl:t.block<w.heap.size:=lt_of_cell HT.out
   have hvl:av.block<w.heap.size:=lt_of_cell HV.out
   have eV:=hT.eV av t (w.alloc (.cells #[.pointer (some ⟨15,pt,none⟩),.pointer (some av),.int .u64 150] 193)) (by rw[World.cell?_alloc_lt _ _ _ hvl];exact HV.out)
   have sT:=hT.st t ⟨w.heap.size+1,0,none⟩ ⟨b,0,none⟩ old ((w.alloc (.cells #[.pointer (some ⟨15,pt,none⟩),.pointer (some av),.int .u64 150] 193)).alloc (.cells #[.pointer (some ⟨b,0,none⟩)] tg))
    (by rw[World.cell?_alloc_at _ _ _ _ (by simp)];rfl)
    (by rw[World.cell?_alloc_lt _ _ t (by simp;omega),World.cell?_alloc_lt _ _ t htl];exact HT.out)
    (by rw[World.frozen?_alloc_old _ _ t (by simp;omega),World.frozen?_alloc_old _ _ t (Nat.ne_of_lt htl)];exact HF.out)
   clear hT
   go_wp2_with fail
   go_ret
   exact⟨below_hit _ _ _ hBT.out hBW.out,.inr ⟨b,y,rfl,rfl,cell_hit _ _ _ HT.out,cell_hit_old _ _ _ hy (HNO.out _ _ _ hy)⟩⟩
  obtain⟨ty,o,un,b,v,hW,hA,hev,hcell,hrest⟩:=hx
  subst hev
  have HR:Hid (ChainT w tg off n v x):=hrest
  have HW:Hid (Calls Tryz.prog un #[.pointer (some ⟨b,0,none⟩)] (w.alloc (.cells #[.pointer (some ⟨15,pt,none⟩),.pointer (some av),.int .u64 150] 193)) fun e w'=>e=.returned v∧w'=w.alloc (.cells #[.pointer (some ⟨15,pt,none⟩),.pointer (some av),.int .u64 150] 193)):=
   hW.walk b v _ (by rw[World.cell?_alloc_lt _ _ ⟨b,o,none⟩ (lt_of_cell hcell)];exact hcell)
  obtain⟨ty1,x1,rfl⟩:=hrest.iface
  have tO:=hW.typ
  have aS:=hA
  simp only[Asg]at aS
  have nA:=hW.noAs
  have uU:=hW.unwrap
  have mU:=hW.meth
  have eN:=hW.enter
  have hn1:=run_eql_held_nil (P:=Tryz.prog) (w.alloc (.cells #[.pointer (some ⟨15,pt,none⟩),.pointer (some av),.int .u64 150] 193)) 81 ty1 x1 (by kernel_rfl)
  clear hT hW hA hcell hrest
  go_wp2_with fail
  refine HW.out.mono ?_
  rintro e w' ⟨rfl,rfl⟩
  go_wp2_with fail
  go_roundg n
  case measure=>exact Nat.lt_succ_self n
  case rel=>exact⟨by first|trivial|rfl,HR.out⟩
theorem asT_any (tg pt off:Nat)(hT:IsT tg pt)(v:Value)(c:Option Int)(t:Nat)(w:World)(B:Nat)(h:∃ k,ChainT w tg off k v c)(hg:w.cell? ⟨13,0,none⟩=some (.iface 216 (.agg #[.pointer (some ⟨15,81,none⟩)])))
  (ht:w.heap[t]?=some (.cells #[.pointer none] tg (0,0))) (hB:B≤t) :
  Calls Tryz.prog 65 #[v,.iface pt (.pointer (some ⟨t,0,none⟩))] w fun e w'=>Below B w w'∧((c=none∧e=.returned (.bool false)∧Below w.heap.size w w')∨∃ b x,c=some x∧e=.returned (.bool true)∧w'.cell? ⟨t,0,none⟩=some (.pointer (some ⟨b,0,none⟩))∧w'.cell? ⟨b,off,none⟩=some (.int .i64 x)):=by
 have hTl:=lt_of_heap ht
 have hWl:=lt_of_cell hg
 simp only at hWl
 have hVO:=@run_callFunc_extern Tryz.prog 84 _ (fun args=>ReflectliteValue.unpack (args.getD 0 (.tuple #[]))) Tryz.func84 (by kernel_rfl) (by kernel_rfl) (by kernel_rfl) (by kernel_rfl)
 have hTY := @run_callFunc_extern Tryz.prog 85 _ (ReflectliteValue.methodAny (ReflectliteValue.valueError "reflectlite.Value.Type" 0) (fun t _ _ _ => ReflectliteType.toType t)) Tryz.func85 (by kernel_rfl) (by kernel_rfl) (by kernel_rfl) (by kernel_rfl)
 have hNI := @run_callFunc_extern Tryz.prog 86 _ (ReflectliteValue.method (ReflectliteValue.valueError "reflectlite.Value.IsNil" 0) ReflectliteValue.isNil) Tryz.func86 (by kernel_rfl) (by kernel_rfl) (by kernel_rfl) (by kernel_rfl)
 have hKI:=@run_callFunc_extern Tryz.prog 179 _ (ReflectliteType.abiMethod fun t=>do pure (.int .u8 (←Rtype.kind t))) Tryz.func179 (by kernel_rfl) (by kernel_rfl) (by kernel_rfl) (by kernel_rfl)
 have hEL:=@run_callFunc_extern Tryz.prog 199 _ (ReflectliteType.method ReflectliteType.elem) Tryz.func199 (by kernel_rfl) (by kernel_rfl) (by kernel_rfl) (by kernel_rfl)
 have hIM := @run_callFunc_extern Tryz.prog 200 _ (ReflectliteType.relation "Implements" ReflectliteType.implements_) Tryz.func200 (by kernel_rfl) (by kernel_rfl) (by kernel_rfl) (by kernel_rfl)
 have f6:=hT.vP
 have f7:=hT.tyP
 have mK:=mKind
 have mE:=mElem
 have mI:=mImplements
 have k1:=hT.kP
 have k2:=hT.kT
 have e1:=hT.elP
 have i1:=hT.imp
 obtain⟨ty,x,rfl⟩:∃ ty x,v=.iface ty x:=by obtain⟨_,hc⟩:=h;exact hc.iface
 have n8:=hT.nilP ⟨w.heap.size,0,none⟩ ⟨t,0,none⟩ ((w.alloc (.cells #[.pointer (some ⟨t,0,none⟩)] pt)).alloc (.cells #[.pointer (some ⟨15,pt,none⟩),.pointer (some ⟨w.heap.size,0,none⟩),.int .u64 150] 193)) (by simp)
 have hg2:((w.alloc (.cells #[.pointer (some ⟨t,0,none⟩)] pt)).alloc (.cells #[.pointer (some ⟨15,pt,none⟩),.pointer (some ⟨w.heap.size,0,none⟩),.int .u64 150] 193)).cell? ⟨13,0,none⟩=some (.iface 216 (.agg #[.pointer (some ⟨15,81,none⟩)])):=by
  rw[World.cell?_alloc_lt _ _ ⟨13,0,none⟩ (by simp;omega),World.cell?_alloc_lt _ _ ⟨13,0,none⟩ hWl];exact hg
 have hba:Below w.heap.size w ((w.alloc (.cells #[.pointer (some ⟨t,0,none⟩)] pt)).alloc (.cells #[.pointer (some ⟨15,pt,none⟩),.pointer (some ⟨w.heap.size,0,none⟩),.int .u64 150] 193)):=((Below.refl _ w).alloc (Nat.le_refl _) _).alloc (by simp) _
 have ht2:((w.alloc (.cells #[.pointer (some ⟨t,0,none⟩)] pt)).alloc (.cells #[.pointer (some ⟨15,pt,none⟩),.pointer (some ⟨w.heap.size,0,none⟩),.int .u64 150] 193)).heap[t]?=some (.cells #[.pointer none] tg (0,0)):=by rw[hba.block t hTl];exact ht
 have hc:=erras_any tg pt off hT (.iface ty x) c ⟨t,0,none⟩ ⟨w.heap.size,0,none⟩ (.pointer none) ((w.alloc (.cells #[.pointer (some ⟨t,0,none⟩)] pt)).alloc (.cells #[.pointer (some ⟨15,pt,none⟩),.pointer (some ⟨w.heap.size,0,none⟩),.int .u64 150] 193)) B (by obtain⟨k,hh⟩:=h;exact⟨k,hh.stay hba⟩)
  (by rw[World.cell?_alloc_lt _ _ ⟨w.heap.size,0,none⟩ (by simp)];simp) (by simp[World.cell?,ht2]) (by simp[World.frozen?,ht2]) hB (by simp;omega)
  (fun b k y hy hbt=>by simp only at hbt;subst hbt;rcases k with _|k<;>simp[World.cell?,ht2]at hy)
 have hb0:=hba.mono (show B≤w.heap.size by omega)
 have HBA:Hid (Below w.heap.size w ((w.alloc (.cells #[.pointer (some ⟨t,0,none⟩)] pt)).alloc (.cells #[.pointer (some ⟨15,pt,none⟩),.pointer (some ⟨w.heap.size,0,none⟩),.int .u64 150] 193))):=hba
 clear ht2 hba h hT
 go_enter Tryz.func65,Tryz.ntmps65
 go_wp2_with fail
 refine hc.mono ?_
 rintro e w' ⟨hbw,⟨hn,rfl,hbm⟩|⟨b,y,hs,rfl,q1,q2⟩⟩
 ·have HBM:Hid (Below w.heap.size w w'):=below_then HBA.out hbm
  clear hbm
  go_wp2_with fail
  go_ret
  exact⟨hb0.trans hbw,.inl ⟨hn,rfl,HBM.out⟩⟩
 go_wp2_with fail
 go_ret
 exact⟨hb0.trans hbw,.inr ⟨b,y,hs,rfl,q1,q2⟩⟩
theorem nodeOf_nil (w:World):Calls Tryz.prog 38 #[.nilIface] w fun e w'=>e=.returned (.int .i64 (-1))∧Below w.heap.size w w':=by
 go_enter Tryz.func38,Tryz.ntmps38
 go_wp2_with fail
 refine(as_nil _ _).mono ?_
 rintro e w' ⟨rfl,rfl⟩
 go_wp2_with fail
 go_ret
 exact⟨rfl,(Below.refl _ _).alloc (Nat.le_refl _) _⟩
theorem nodeOf_any (v:Value)(x:Option Int)(w:World)(h:∃ k,ChainT w 133 0 k v x)(hg:w.cell? ⟨13,0,none⟩=some (.iface 216 (.agg #[.pointer (some ⟨15,81,none⟩)]))) :
  Calls Tryz.prog 38 #[v] w fun e w'=>e=.returned (.int .i64 (x.getD (-1)))∧Below w.heap.size w w':=by
 have hba:Below w.heap.size w (w.alloc (.cells #[.pointer none] 133)):=(Below.refl _ w).alloc (Nat.le_refl _) _
 have hc:=asT_any _ _ 0 isT_plan v x w.heap.size (w.alloc (.cells #[.pointer none] 133)) w.heap.size (by obtain⟨k,hh⟩:=h;exact⟨k,hh.stay hba⟩) (cell_below hba hg) (heap_alloc_new _ _) (Nat.le_refl _)
 clear h
 go_enter Tryz.func38,Tryz.ntmps38
 go_wp2_with fail
 refine hc.mono ?_
 rintro e w' ⟨hbw,⟨rfl,rfl,_⟩|⟨b,y,rfl,rfl,q1,q2⟩⟩
 ·go_wp2_with fail
  go_ret
  exact⟨rfl,hba.trans hbw⟩
 go_wp2_with fail
 go_ret
 exact⟨rfl,hba.trans hbw⟩
theorem rowOf_nil (w:World):Calls Tryz.prog 39 #[.nilIface] w fun e w'=>e=.returned (.int .i64 (-1))∧Below w.heap.size w w':=by
 go_enter Tryz.func39,Tryz.ntmps39
 go_wp2_with fail
 refine(as_nil _ _).mono ?_
 rintro e w' ⟨rfl,rfl⟩
 go_wp2_with fail
 refine(as_nil _ _).mono ?_
 rintro e w' ⟨rfl,rfl⟩
 go_wp2_with fail
 go_ret
 exact⟨rfl,((Below.refl _ _).alloc (Nat.le_refl _) _).alloc (by simp) _⟩
theorem rowOf_any (v:Value)(x y:Option Int)(w:World)(h:∃ k,ChainT w 150 0 k v x)(h2:∃ k,ChainT w 151 0 k v y)(hg:w.cell? ⟨13,0,none⟩=some (.iface 216 (.agg #[.pointer (some ⟨15,81,none⟩)]))) :
  Calls Tryz.prog 39 #[v] w fun e w'=>e=.returned (.int .i64 ((x.or y).getD (-1)))∧Below w.heap.size w w':=by
 have hba:Below w.heap.size w ((w.alloc (.cells #[.pointer none] 150)).alloc (.cells #[.pointer none] 151)):=((Below.refl _ w).alloc (Nat.le_refl _) _).alloc (by simp) _
 have k1:((w.alloc (.cells #[.pointer none] 150)).alloc (.cells #[.pointer none] 151)).heap[w.heap.size]?=some (.cells #[.pointer none] 150 (0,0)):=by
  rw[((Below.refl _ (w.alloc (.cells #[.pointer none] 150))).alloc (Nat.le_refl _) (.cells #[.pointer none] 151)).block _ (by simp)];exact heap_alloc_new _ _
 have k2:((w.alloc (.cells #[.pointer none] 150)).alloc (.cells #[.pointer none] 151)).heap[w.heap.size+1]?=some (.cells #[.pointer none] 151 (0,0)):=by
  have:=heap_alloc_new (w.alloc (.cells #[.pointer none] 150)) (.cells #[.pointer none] 151)
  simpa using this
 have hc:=asT_any _ _ 0 isT_expr v x w.heap.size ((w.alloc (.cells #[.pointer none] 150)).alloc (.cells #[.pointer none] 151)) w.heap.size (by obtain⟨k,hh⟩:=h;exact⟨k,hh.stay hba⟩) (cell_below hba hg) k1 (Nat.le_refl _)
 have HD:Hid (∀ W,Below ((w.alloc (.cells #[.pointer none] 150)).alloc (.cells #[.pointer none] 151)).heap.size ((w.alloc (.cells #[.pointer none] 150)).alloc (.cells #[.pointer none] 151)) W→Below w.heap.size w W∧Calls Tryz.prog 65 #[v,.iface 155 (.pointer (some ⟨w.heap.size+1,0,none⟩))] W fun e w'=>Below w.heap.size W w'∧((y=none∧e=.returned (.bool false)∧Below W.heap.size W w')∨∃ b z,y=some z∧e=.returned (.bool true)∧w'.cell? ⟨w.heap.size+1,0,none⟩=some (.pointer (some ⟨b,0,none⟩))∧w'.cell? ⟨b,0,none⟩=some (.int .i64 z))):=fun W hW=>by
  have hbW:=below_then hba hW
  exact⟨hbW,asT_any _ _ 0 isT_grp v y (w.heap.size+1) W w.heap.size (by obtain⟨k,hh⟩:=h2;exact⟨k,hh.stay hbW⟩) (cell_below hbW hg) (by rw[hW.block _ (by simp)];exact k2) (by omega)⟩
 clear h h2 k1 k2 hg
 go_enter Tryz.func39,Tryz.ntmps39
 go_wp2_with fail
 refine hc.mono ?_
 rintro e w' ⟨hbw,⟨rfl,rfl,hm⟩|⟨b,z,rfl,rfl,q1,q2⟩⟩
 ·obtain⟨hb1,hc2⟩:=HD.out _ hm
  have HB:Hid (Below w.heap.size w w'):=hb1
  clear hb1 hm hbw hc HD
  go_wp2_with fail
  refine hc2.mono ?_
  rintro e w2 ⟨hbw,⟨rfl,rfl,hm⟩|⟨b,z,rfl,rfl,q1,q2⟩⟩
  ·clear hm
   go_wp2_with fail
   go_ret
   exact⟨rfl,HB.out.trans hbw⟩
  go_wp2_with fail
  go_ret
  exact⟨rfl,HB.out.trans hbw⟩
 clear HD
 go_wp2_with fail
 go_ret
 exact⟨rfl,hba.trans hbw⟩
theorem columnOf_nil (w:World):Calls Tryz.prog 40 #[.nilIface] w fun e w'=>e=.returned (.int .i64 (-1))∧Below w.heap.size w w':=by
 go_enter Tryz.func40,Tryz.ntmps40
 go_wp2_with fail
 refine(as_nil _ _).mono ?_
 rintro e w' ⟨rfl,rfl⟩
 go_wp2_with fail
 refine(as_nil _ _).mono ?_
 rintro e w' ⟨rfl,rfl⟩
 go_wp2_with fail
 go_ret
 exact⟨rfl,((Below.refl _ _).alloc (Nat.le_refl _) _).alloc (by simp) _⟩
theorem columnOf_any (v:Value)(x y:Option Int)(w:World)(h:∃ k,ChainT w 158 1 k v x)(h2:∃ k,ChainT w 151 1 k v y)(hg:w.cell? ⟨13,0,none⟩=some (.iface 216 (.agg #[.pointer (some ⟨15,81,none⟩)]))) :
  Calls Tryz.prog 40 #[v] w fun e w'=>e=.returned (.int .i64 ((x.or y).getD (-1)))∧Below w.heap.size w w':=by
 have hba:Below w.heap.size w ((w.alloc (.cells #[.pointer none] 158)).alloc (.cells #[.pointer none] 151)):=((Below.refl _ w).alloc (Nat.le_refl _) _).alloc (by simp) _
 have k1:((w.alloc (.cells #[.pointer none] 158)).alloc (.cells #[.pointer none] 151)).heap[w.heap.size]?=some (.cells #[.pointer none] 158 (0,0)):=by
  rw[((Below.refl _ (w.alloc (.cells #[.pointer none] 158))).alloc (Nat.le_refl _) (.cells #[.pointer none] 151)).block _ (by simp)];exact heap_alloc_new _ _
 have k2:((w.alloc (.cells #[.pointer none] 158)).alloc (.cells #[.pointer none] 151)).heap[w.heap.size+1]?=some (.cells #[.pointer none] 151 (0,0)):=by
  have:=heap_alloc_new (w.alloc (.cells #[.pointer none] 158)) (.cells #[.pointer none] 151)
  simpa using this
 have hc:=asT_any _ _ 1 isT_tab v x w.heap.size ((w.alloc (.cells #[.pointer none] 158)).alloc (.cells #[.pointer none] 151)) w.heap.size (by obtain⟨k,hh⟩:=h;exact⟨k,hh.stay hba⟩) (cell_below hba hg) k1 (Nat.le_refl _)
 have HD:Hid (∀ W,Below ((w.alloc (.cells #[.pointer none] 158)).alloc (.cells #[.pointer none] 151)).heap.size ((w.alloc (.cells #[.pointer none] 158)).alloc (.cells #[.pointer none] 151)) W→Below w.heap.size w W∧Calls Tryz.prog 65 #[v,.iface 155 (.pointer (some ⟨w.heap.size+1,0,none⟩))] W fun e w'=>Below w.heap.size W w'∧((y=none∧e=.returned (.bool false)∧Below W.heap.size W w')∨∃ b z,y=some z∧e=.returned (.bool true)∧w'.cell? ⟨w.heap.size+1,0,none⟩=some (.pointer (some ⟨b,0,none⟩))∧w'.cell? ⟨b,1,none⟩=some (.int .i64 z))):=fun W hW=>by
  have hbW:=below_then hba hW
  exact⟨hbW,asT_any _ _ 1 isT_grp v y (w.heap.size+1) W w.heap.size (by obtain⟨k,hh⟩:=h2;exact⟨k,hh.stay hbW⟩) (cell_below hbW hg) (by rw[hW.block _ (by simp)];exact k2) (by omega)⟩
 clear h h2 k1 k2 hg
 go_enter Tryz.func40,Tryz.ntmps40
 go_wp2_with fail
 refine hc.mono ?_
 rintro e w' ⟨hbw,⟨rfl,rfl,hm⟩|⟨b,z,rfl,rfl,q1,q2⟩⟩
 ·obtain⟨hb1,hc2⟩:=HD.out _ hm
  have HB:Hid (Below w.heap.size w w'):=hb1
  clear hb1 hm hbw hc HD
  go_wp2_with fail
  refine hc2.mono ?_
  rintro e w2 ⟨hbw,⟨rfl,rfl,hm⟩|⟨b,z,rfl,rfl,q1,q2⟩⟩
  ·clear hm
   go_wp2_with fail
   go_ret
   exact⟨rfl,HB.out.trans hbw⟩
  go_wp2_with fail
  go_ret
  exact⟨rfl,HB.out.trans hbw⟩
 clear HD
 go_wp2_with fail
 go_ret
 exact⟨rfl,hba.trans hbw⟩
theorem pageOf_nil (w:World):Calls Tryz.prog 41 #[.nilIface] w fun e w'=>e=.returned (.int .i64 (-1))∧Below w.heap.size w w':=by
 go_enter Tryz.func41,Tryz.ntmps41
 go_wp2_with fail
 refine(as_nil _ _).mono ?_
 rintro e w' ⟨rfl,rfl⟩
 go_wp2_with fail
 go_ret
 exact⟨rfl,(Below.refl _ _).alloc (Nat.le_refl _) _⟩
theorem pageOf_any (v:Value)(x:Option Int)(w:World)(h:∃ k,ChainT w 162 1 k v x)(hg:w.cell? ⟨13,0,none⟩=some (.iface 216 (.agg #[.pointer (some ⟨15,81,none⟩)]))) :
  Calls Tryz.prog 41 #[v] w fun e w'=>e=.returned (.int .i64 (x.getD (-1)))∧Below w.heap.size w w':=by
 have hba:Below w.heap.size w (w.alloc (.cells #[.pointer none] 162)):=(Below.refl _ w).alloc (Nat.le_refl _) _
 have hc:=asT_any _ _ 1 isT_disk v x w.heap.size (w.alloc (.cells #[.pointer none] 162)) w.heap.size (by obtain⟨k,hh⟩:=h;exact⟨k,hh.stay hba⟩) (cell_below hba hg) (heap_alloc_new _ _) (Nat.le_refl _)
 clear h
 go_enter Tryz.func41,Tryz.ntmps41
 go_wp2_with fail
 refine hc.mono ?_
 rintro e w' ⟨hbw,⟨rfl,rfl,_⟩|⟨b,y,rfl,rfl,q1,q2⟩⟩
 ·go_wp2_with fail
  go_ret
  exact⟨rfl,hba.trans hbw⟩
 go_wp2_with fail
 go_ret
 exact⟨rfl,hba.trans hbw⟩
end Go.Proofs.YtkgibdjakgmmcaaGreatDoor
