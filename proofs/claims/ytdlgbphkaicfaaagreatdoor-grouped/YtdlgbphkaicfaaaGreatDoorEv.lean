/- errors.As, by Go's own text, at the errors that the program makes, at its targets. -/
import Derived.Test.YtdlgbphkaicfaaaGreatDoorEt
import Derived.Test.YtdlgbphkaicfaaaGreatDoorEs
set_option maxHeartbeats 4000000
set_option maxRecDepth 100000
namespace Go.Proofs.YtdlgbphkaicfaaaGreatDoor
open Go.RowKit Go.Extern.Stop Go.Stop Go.Extern
theorem Ji9 (t:Value)(w:World):Calls Tryz.prog 57 #[.nilIface,t] w fun e w'=>e=.returned (.bool false)∧w'=w:=by
 have hn:=run_eql_nil_nil (P:=Tryz.prog) w 76 (by kernel_rfl)
 go_enter Tryz.func57,Tryz.ntmps57
 go_wp2
 go_ret
 exact⟨rfl,rfl⟩
theorem Jyl {B:Nat}{w:World}{t:Addr}(y A:Obj)(v:Value)(D:B≤t.block)(E:B≤w.heap.size):Below B w (((w.alloc y).alloc A).setCell t v):=
 (((Oa5 B w).alloc E y).alloc (by simp;omega) A).setCell D v
theorem Kch {w:World}{t:Addr}{A:Value}(D E:Obj)(v:Value)(y:w.cell? t=some A):(((w.alloc D).alloc E).setCell t v).cell? t=some v:=by
 have h:=Jm y
 exact World.cell?_setCell_same _ _ _ (u:=A) (by rw[Oe5 _ _ t (by simp;omega),Oe5 _ _ t h];exact y)
theorem Jpq {w:World}{t:Addr}{b k:Nat}{x:Value}(D E:Obj)(v:Value)(y:w.cell? ⟨b,k,none⟩=some x)(A:b≠t.block):(((w.alloc D).alloc E).setCell t v).cell? ⟨b,k,none⟩=some x:=by
 have h:=Jm y
 simp only at h
 rw[Ob5 _ _ _ _ (fun e=>A (by rw[e]) ),Oe5 _ _ ⟨b,k,none⟩ (by simp;omega),Oe5 _ _ ⟨b,k,none⟩ h];exact y
theorem Jyv (tg pt off:Nat)(hT:IsT tg pt)(v:Value)(x:Option Int)(t av:Addr)(old:Value)(w:World)(B:Nat)(h:∃ k,Qn w tg off k v x)(hv:w.cell? av=some (.pointer (some t)))(ht:w.cell? t=some old)(hf:w.frozen? t=false)(hB:B≤t.block)(hBw:B≤w.heap.size)
  (hno:∀ b k y,w.cell? ⟨b,k,none⟩=some (.int .i64 y)→b≠t.block) :
  Calls Tryz.prog 85 #[v,.iface pt (.pointer (some t)),.agg #[.pointer (some ⟨17,pt,none⟩),.pointer (some av),.int .u64 150],.iface 228 (.agg #[.pointer (some ⟨17,tg,none⟩)])] w fun e w'=>Below B w w'∧((x=none∧e=.returned (.bool false)∧Below w.heap.size w w')∨∃ b y,x=some y∧e=.returned (.bool true)∧w'.cell? t=some (.pointer (some ⟨b,0,none⟩))∧w'.cell? ⟨b,off,none⟩=some (.int .i64 y)):=by
 have hTO:=@run_callFunc_extern Tryz.prog 80 _ ReflectliteType.typeOf Tryz.func80 (by kernel_rfl) (by kernel_rfl) (by kernel_rfl) (by kernel_rfl)
 have hAS := @run_callFunc_extern Tryz.prog 330 _ (ReflectliteType.relation "AssignableTo" ReflectliteType.assignableTo) Tryz.func330 (by kernel_rfl) (by kernel_rfl) (by kernel_rfl) (by kernel_rfl)
 have hVO:=@run_callFunc_extern Tryz.prog 82 _ (fun args=>ReflectliteValue.unpack (args.getD 0 (.tuple #[]))) Tryz.func82 (by kernel_rfl) (by kernel_rfl) (by kernel_rfl) (by kernel_rfl)
 have hEL := @run_callFunc_extern Tryz.prog 116 _ (ReflectliteValue.method (ReflectliteValue.valueError "reflectlite.Value.Elem" 0) ReflectliteValue.elem) Tryz.func116 (by kernel_rfl) (by kernel_rfl) (by kernel_rfl) (by kernel_rfl)
 have hST:=@run_callFunc_extern Tryz.prog 117 _ ReflectliteValue.set Tryz.func117 (by kernel_rfl) (by kernel_rfl) (by kernel_rfl) (by kernel_rfl)
 have mA:=Jsu
 have HH:Hid (∃ k,Qn w tg off k v x):=h
 obtain⟨ty0,x0,rfl⟩:∃ ty x,v=.iface ty x:=by obtain⟨_,hc⟩:=h;exact hc.iface
 have HNO:Hid (∀ b k y,w.cell? ⟨b,k,none⟩=some (.int .i64 y)→b≠t.block):=hno
 have HV:Hid (w.cell? av=some (.pointer (some t))):=hv
 have HT:Hid (w.cell? t=some old):=ht
 have HF:Hid (w.frozen? t=false):=hf
 have hBW:Hid (B≤w.heap.size):=hBw
 have hBT:Hid (B≤t.block):=hB
 clear h hno hv ht hf hB hBw
 go_enter Tryz.func85,Tryz.ntmps85
 go_wp2_with fail
 obtain⟨k0,hk0⟩:=HH.out
 go_loopg [0] k0 (fun k ev wr=>wr=w.alloc (.cells #[.pointer (some ⟨17,pt,none⟩),.pointer (some av),.int .u64 150] 188)∧Qn w tg off k ev x)
 case atStart=>exact⟨rfl,hk0⟩
 case round=>
  obtain⟨hwr,hx⟩:=hrel
  subst hwr
  clear HH hk0
  rcases gk with _|n
  ·rcases hx with⟨a,hev,hxx⟩|⟨b,y,hev,hxx,hy⟩
   ·subst hev hxx
    have tO:=Jld
    have aS:=hT.root
    simp only[Asg]at aS
    have nA:=Kb9
    have uU:=Jmp
    have nU:=Jhb
    clear hT
    go_wp2_with fail
    go_ret
    exact⟨(Oa5 B w).alloc hBW.out _,rfl,(Oa5 _ w).alloc (Oa2 _) _⟩
   subst hev hxx
   have tO:=hT.typ
   have aS:=hT.self
   simp only[Asg]at aS
   have vO:=hT.vT
   have htl:t.block<w.heap.size:=Jm HT.out
   have hvl:av.block<w.heap.size:=Jm HV.out
   have eV:=hT.eV av t (w.alloc (.cells #[.pointer (some ⟨17,pt,none⟩),.pointer (some av),.int .u64 150] 188)) (by rw[Oe5 _ _ _ hvl];exact HV.out)
   have sT:=hT.st t ⟨w.heap.size+1,0,none⟩ ⟨b,0,none⟩ old ((w.alloc (.cells #[.pointer (some ⟨17,pt,none⟩),.pointer (some av),.int .u64 150] 188)).alloc (.cells #[.pointer (some ⟨b,0,none⟩)] tg))
    (by rw[World.cell?_alloc_at _ _ _ _ (by simp)];rfl)
    (by rw[Oe5 _ _ t (by simp;omega),Oe5 _ _ t htl];exact HT.out)
    (by rw[World.frozen?_alloc_old _ _ t (by simp;omega),World.frozen?_alloc_old _ _ t (Nat.ne_of_lt htl)];exact HF.out)
   clear hT
   go_wp2_with fail
   go_ret
   exact⟨Jyl _ _ _ hBT.out hBW.out,.inr ⟨b,y,rfl,rfl,Kch _ _ _ HT.out,Jpq _ _ _ hy (HNO.out _ _ _ hy)⟩⟩
  obtain⟨ty,o,un,b,v,hW,hA,hev,hcell,hrest⟩:=hx
  subst hev
  have HR:Hid (Qn w tg off n v x):=hrest
  have HW:Hid (Calls Tryz.prog un #[.pointer (some ⟨b,0,none⟩)] (w.alloc (.cells #[.pointer (some ⟨17,pt,none⟩),.pointer (some av),.int .u64 150] 188)) fun e w'=>e=.returned v∧w'=w.alloc (.cells #[.pointer (some ⟨17,pt,none⟩),.pointer (some av),.int .u64 150] 188)):=
   hW.walk b v _ (by rw[Oe5 _ _ ⟨b,o,none⟩ (Jm hcell)];exact hcell)
  obtain⟨ty1,x1,rfl⟩:=hrest.iface
  have tO:=hW.typ
  have aS:=hA
  simp only[Asg]at aS
  have nA:=hW.noAs
  have uU:=hW.unwrap
  have mU:=hW.meth
  have eN:=hW.enter
  have hn1:=run_eql_held_nil (P:=Tryz.prog) (w.alloc (.cells #[.pointer (some ⟨17,pt,none⟩),.pointer (some av),.int .u64 150] 188)) 76 ty1 x1 (by kernel_rfl)
  clear hT hW hA hcell hrest
  go_wp2_with fail
  refine HW.out.mono ?_
  rintro e w' ⟨rfl,rfl⟩
  go_wp2_with fail
  go_roundg n
  case measure=>exact On2 n
  case rel=>exact⟨by first|trivial|rfl,HR.out⟩
theorem Jgu (tg pt off:Nat)(hT:IsT tg pt)(v:Value)(c:Option Int)(t:Nat)(w:World)(B:Nat)(h:∃ k,Qn w tg off k v c)(hg:w.cell? ⟨14,0,none⟩=some (.iface 228 (.agg #[.pointer (some ⟨17,76,none⟩)])))
  (ht:w.heap[t]?=some (.cells #[.pointer none] tg (0,0))) (hB:B≤t) :
  Calls Tryz.prog 57 #[v,.iface pt (.pointer (some ⟨t,0,none⟩))] w fun e w'=>Below B w w'∧((c=none∧e=.returned (.bool false)∧Below w.heap.size w w')∨∃ b x,c=some x∧e=.returned (.bool true)∧w'.cell? ⟨t,0,none⟩=some (.pointer (some ⟨b,0,none⟩))∧w'.cell? ⟨b,off,none⟩=some (.int .i64 x)):=by
 have hTl:=Jd ht
 have hWl:=Jm hg
 simp only at hWl
 have hVO:=@run_callFunc_extern Tryz.prog 82 _ (fun args=>ReflectliteValue.unpack (args.getD 0 (.tuple #[]))) Tryz.func82 (by kernel_rfl) (by kernel_rfl) (by kernel_rfl) (by kernel_rfl)
 have hTY := @run_callFunc_extern Tryz.prog 83 _ (ReflectliteValue.methodAny (ReflectliteValue.valueError "reflectlite.Value.Type" 0) (fun t _ _ _ => ReflectliteType.toType t)) Tryz.func83 (by kernel_rfl) (by kernel_rfl) (by kernel_rfl) (by kernel_rfl)
 have hNI := @run_callFunc_extern Tryz.prog 84 _ (ReflectliteValue.method (ReflectliteValue.valueError "reflectlite.Value.IsNil" 0) ReflectliteValue.isNil) Tryz.func84 (by kernel_rfl) (by kernel_rfl) (by kernel_rfl) (by kernel_rfl)
 have hKI:=@run_callFunc_extern Tryz.prog 311 _ (ReflectliteType.abiMethod fun t=>do pure (.int .u8 (←Rtype.kind t))) Tryz.func311 (by kernel_rfl) (by kernel_rfl) (by kernel_rfl) (by kernel_rfl)
 have hEL:=@run_callFunc_extern Tryz.prog 332 _ (ReflectliteType.method ReflectliteType.elem) Tryz.func332 (by kernel_rfl) (by kernel_rfl) (by kernel_rfl) (by kernel_rfl)
 have hIM := @run_callFunc_extern Tryz.prog 333 _ (ReflectliteType.relation "Implements" ReflectliteType.implements_) Tryz.func333 (by kernel_rfl) (by kernel_rfl) (by kernel_rfl) (by kernel_rfl)
 have f6:=hT.vP
 have f7:=hT.tyP
 have mK:=Kh9
 have mE:=Kii
 have mI:=Jr3
 have k1:=hT.kP
 have k2:=hT.kT
 have e1:=hT.elP
 have i1:=hT.imp
 obtain⟨ty,x,rfl⟩:∃ ty x,v=.iface ty x:=by obtain⟨_,hc⟩:=h;exact hc.iface
 have n8:=hT.nilP ⟨w.heap.size,0,none⟩ ⟨t,0,none⟩ ((w.alloc (.cells #[.pointer (some ⟨t,0,none⟩)] pt)).alloc (.cells #[.pointer (some ⟨17,pt,none⟩),.pointer (some ⟨w.heap.size,0,none⟩),.int .u64 150] 188)) (by simp)
 have hg2:((w.alloc (.cells #[.pointer (some ⟨t,0,none⟩)] pt)).alloc (.cells #[.pointer (some ⟨17,pt,none⟩),.pointer (some ⟨w.heap.size,0,none⟩),.int .u64 150] 188)).cell? ⟨14,0,none⟩=some (.iface 228 (.agg #[.pointer (some ⟨17,76,none⟩)])):=by
  rw[Oe5 _ _ ⟨14,0,none⟩ (by simp;omega),Oe5 _ _ ⟨14,0,none⟩ hWl];exact hg
 have hba:Below w.heap.size w ((w.alloc (.cells #[.pointer (some ⟨t,0,none⟩)] pt)).alloc (.cells #[.pointer (some ⟨17,pt,none⟩),.pointer (some ⟨w.heap.size,0,none⟩),.int .u64 150] 188)):=((Oa5 _ w).alloc (Oa2 _) _).alloc (by simp) _
 have ht2:((w.alloc (.cells #[.pointer (some ⟨t,0,none⟩)] pt)).alloc (.cells #[.pointer (some ⟨17,pt,none⟩),.pointer (some ⟨w.heap.size,0,none⟩),.int .u64 150] 188)).heap[t]?=some (.cells #[.pointer none] tg (0,0)):=by rw[hba.block t hTl];exact ht
 have hc:=Jyv tg pt off hT (.iface ty x) c ⟨t,0,none⟩ ⟨w.heap.size,0,none⟩ (.pointer none) ((w.alloc (.cells #[.pointer (some ⟨t,0,none⟩)] pt)).alloc (.cells #[.pointer (some ⟨17,pt,none⟩),.pointer (some ⟨w.heap.size,0,none⟩),.int .u64 150] 188)) B (by obtain⟨k,hh⟩:=h;exact⟨k,hh.stay hba⟩)
  (by rw[Oe5 _ _ ⟨w.heap.size,0,none⟩ (by simp)];simp) (by simp[World.cell?,ht2]) (by simp[World.frozen?,ht2]) hB (by simp;omega)
  (fun b k y hy hbt=>by simp only at hbt;subst hbt;rcases k with _|k<;>simp[World.cell?,ht2]at hy)
 have hb0:=hba.mono (show B≤w.heap.size by omega)
 have HBA:Hid (Below w.heap.size w ((w.alloc (.cells #[.pointer (some ⟨t,0,none⟩)] pt)).alloc (.cells #[.pointer (some ⟨17,pt,none⟩),.pointer (some ⟨w.heap.size,0,none⟩),.int .u64 150] 188))):=hba
 clear ht2 hba h hT
 go_enter Tryz.func57,Tryz.ntmps57
 go_wp2_with fail
 refine hc.mono ?_
 rintro e w' ⟨hbw,⟨hn,rfl,hbm⟩|⟨b,y,hs,rfl,q1,q2⟩⟩
 ·have HBM:Hid (Below w.heap.size w w'):=Jb HBA.out hbm
  clear hbm
  go_wp2_with fail
  go_ret
  exact⟨hb0.trans hbw,.inl ⟨hn,rfl,HBM.out⟩⟩
 go_wp2_with fail
 go_ret
 exact⟨hb0.trans hbw,.inr ⟨b,y,hs,rfl,q1,q2⟩⟩
end Go.Proofs.YtdlgbphkaicfaaaGreatDoor
namespace Go.Proofs.YtdlgbphkaicfaaaGreatDoor
open Go.RowKit Go.Extern.Stop Go.Stop Go.Extern Tryz
theorem Jxf (w:World):Calls prog 39 #[.nilIface] w fun e w'=>e=.returned (.int .i64 (-1))∧Below w.heap.size w w':=by
 go_enter func39,ntmps39
 go_wp2_with fail
 refine(Ji9 _ _).mono ?_
 rintro e w' ⟨rfl,rfl⟩
 go_wp2_with fail
 go_ret
 exact⟨rfl,(Oa5 _ _).alloc (Oa2 _) _⟩
theorem Jvx (v:Value)(x:Option Int)(w:World)(h:∃ k,Qn w 105 0 k v x)(E:w.cell? ⟨14,0,none⟩=some (.iface 228 (.agg #[.pointer (some ⟨17,76,none⟩)]))) :
  Calls prog 39 #[v] w fun e w'=>e=.returned (.int .i64 (x.getD (-1)))∧Below w.heap.size w w':=by
 have y:Below w.heap.size w (w.alloc (.cells #[.pointer none] 105)):=(Oa5 _ w).alloc (Oa2 _) _
 have D:=Jgu _ _ 0 Kdd v x w.heap.size (w.alloc (.cells #[.pointer none] 105)) w.heap.size (by obtain⟨k,H⟩:=h;exact⟨k,H.stay y⟩) (Ja y E) (heap_alloc_new _ _) (Oa2 _)
 clear h
 go_enter func39,ntmps39
 go_wp2_with fail
 refine D.mono ?_
 rintro e w' ⟨A,⟨rfl,rfl,_⟩|⟨b,O,rfl,rfl,K,M⟩⟩
 ·go_wp2_with fail
  go_ret
  exact⟨rfl,y.trans A⟩
 go_wp2_with fail
 go_ret
 exact⟨rfl,y.trans A⟩
theorem Jz5 (w:World):Calls prog 40 #[.nilIface] w fun e w'=>e=.returned (.int .i64 (-1))∧Below w.heap.size w w':=by
 go_enter func40,ntmps40
 go_wp2_with fail
 refine(Ji9 _ _).mono ?_
 rintro e w' ⟨rfl,rfl⟩
 go_wp2_with fail
 refine(Ji9 _ _).mono ?_
 rintro e w' ⟨rfl,rfl⟩
 go_wp2_with fail
 go_ret
 exact⟨rfl,((Oa5 _ _).alloc (Oa2 _) _).alloc (by simp) _⟩
theorem Kau (v:Value)(x A:Option Int)(w:World)(h:∃ k,Qn w 151 0 k v x)(h2:∃ k,Qn w 152 0 k v A)(M:w.cell? ⟨14,0,none⟩=some (.iface 228 (.agg #[.pointer (some ⟨17,76,none⟩)]))) :
  Calls prog 40 #[v] w fun e w'=>e=.returned (.int .i64 ((x.or A).getD (-1)))∧Below w.heap.size w w':=by
 have D:Below w.heap.size w ((w.alloc (.cells #[.pointer none] 151)).alloc (.cells #[.pointer none] 152)):=((Oa5 _ w).alloc (Oa2 _) _).alloc (by simp) _
 have Z:((w.alloc (.cells #[.pointer none] 151)).alloc (.cells #[.pointer none] 152)).heap[w.heap.size]?=some (.cells #[.pointer none] 151 (0,0)):=by
  rw[((Oa5 _ (w.alloc (.cells #[.pointer none] 151))).alloc (Oa2 _) (.cells #[.pointer none] 152)).block _ (by simp)];exact heap_alloc_new _ _
 have ba:((w.alloc (.cells #[.pointer none] 151)).alloc (.cells #[.pointer none] 152)).heap[w.heap.size+1]?=some (.cells #[.pointer none] 152 (0,0)):=by
  have:=heap_alloc_new (w.alloc (.cells #[.pointer none] 151)) (.cells #[.pointer none] 152)
  simpa using this
 have X:=Jgu _ _ 0 Kea v x w.heap.size ((w.alloc (.cells #[.pointer none] 151)).alloc (.cells #[.pointer none] 152)) w.heap.size (by obtain⟨k,O⟩:=h;exact⟨k,O.stay D⟩) (Ja D M) Z (Oa2 _)
 have H:Hid (∀ W,Below ((w.alloc (.cells #[.pointer none] 151)).alloc (.cells #[.pointer none] 152)).heap.size ((w.alloc (.cells #[.pointer none] 151)).alloc (.cells #[.pointer none] 152)) W→Below w.heap.size w W∧Calls prog 57 #[v,.iface 156 (.pointer (some ⟨w.heap.size+1,0,none⟩))] W fun e w'=>Below w.heap.size W w'∧((A=none∧e=.returned (.bool false)∧Below W.heap.size W w')∨∃ b z,A=some z∧e=.returned (.bool true)∧w'.cell? ⟨w.heap.size+1,0,none⟩=some (.pointer (some ⟨b,0,none⟩))∧w'.cell? ⟨b,0,none⟩=some (.int .i64 z))):=fun W hW=>by
  have K:=Jb D hW
  exact⟨K,Jgu _ _ 0 Jx1 v A (w.heap.size+1) W w.heap.size (by obtain⟨k,O⟩:=h2;exact⟨k,O.stay K⟩) (Ja K M) (by rw[hW.block _ (by simp)];exact ba) (by omega)⟩
 clear h h2 Z ba M
 go_enter func40,ntmps40
 go_wp2_with fail
 refine X.mono ?_
 rintro e w' ⟨y,⟨rfl,rfl,E⟩|⟨b,z,rfl,rfl,bc,bf⟩⟩
 ·obtain⟨U,bb⟩:=H.out _ E
  have R:Hid (Below w.heap.size w w'):=U
  clear U E y X H
  go_wp2_with fail
  refine bb.mono ?_
  rintro e bh ⟨y,⟨rfl,rfl,E⟩|⟨b,z,rfl,rfl,bc,bf⟩⟩
  ·clear E
   go_wp2_with fail
   go_ret
   exact⟨rfl,R.out.trans y⟩
  go_wp2_with fail
  go_ret
  exact⟨rfl,R.out.trans y⟩
 clear H
 go_wp2_with fail
 go_ret
 exact⟨rfl,D.trans y⟩
theorem Jqq (w:World):Calls prog 41 #[.nilIface] w fun e w'=>e=.returned (.int .i64 (-1))∧Below w.heap.size w w':=by
 go_enter func41,ntmps41
 go_wp2_with fail
 refine(Ji9 _ _).mono ?_
 rintro e w' ⟨rfl,rfl⟩
 go_wp2_with fail
 refine(Ji9 _ _).mono ?_
 rintro e w' ⟨rfl,rfl⟩
 go_wp2_with fail
 go_ret
 exact⟨rfl,((Oa5 _ _).alloc (Oa2 _) _).alloc (by simp) _⟩
theorem Jqi (v:Value)(x A:Option Int)(w:World)(h:∃ k,Qn w 126 1 k v x)(h2:∃ k,Qn w 152 1 k v A)(M:w.cell? ⟨14,0,none⟩=some (.iface 228 (.agg #[.pointer (some ⟨17,76,none⟩)]))) :
  Calls prog 41 #[v] w fun e w'=>e=.returned (.int .i64 ((x.or A).getD (-1)))∧Below w.heap.size w w':=by
 have D:Below w.heap.size w ((w.alloc (.cells #[.pointer none] 126)).alloc (.cells #[.pointer none] 152)):=((Oa5 _ w).alloc (Oa2 _) _).alloc (by simp) _
 have Z:((w.alloc (.cells #[.pointer none] 126)).alloc (.cells #[.pointer none] 152)).heap[w.heap.size]?=some (.cells #[.pointer none] 126 (0,0)):=by
  rw[((Oa5 _ (w.alloc (.cells #[.pointer none] 126))).alloc (Oa2 _) (.cells #[.pointer none] 152)).block _ (by simp)];exact heap_alloc_new _ _
 have ba:((w.alloc (.cells #[.pointer none] 126)).alloc (.cells #[.pointer none] 152)).heap[w.heap.size+1]?=some (.cells #[.pointer none] 152 (0,0)):=by
  have:=heap_alloc_new (w.alloc (.cells #[.pointer none] 126)) (.cells #[.pointer none] 152)
  simpa using this
 have X:=Jgu _ _ 1 Kf1 v x w.heap.size ((w.alloc (.cells #[.pointer none] 126)).alloc (.cells #[.pointer none] 152)) w.heap.size (by obtain⟨k,O⟩:=h;exact⟨k,O.stay D⟩) (Ja D M) Z (Oa2 _)
 have H:Hid (∀ W,Below ((w.alloc (.cells #[.pointer none] 126)).alloc (.cells #[.pointer none] 152)).heap.size ((w.alloc (.cells #[.pointer none] 126)).alloc (.cells #[.pointer none] 152)) W→Below w.heap.size w W∧Calls prog 57 #[v,.iface 156 (.pointer (some ⟨w.heap.size+1,0,none⟩))] W fun e w'=>Below w.heap.size W w'∧((A=none∧e=.returned (.bool false)∧Below W.heap.size W w')∨∃ b z,A=some z∧e=.returned (.bool true)∧w'.cell? ⟨w.heap.size+1,0,none⟩=some (.pointer (some ⟨b,0,none⟩))∧w'.cell? ⟨b,1,none⟩=some (.int .i64 z))):=fun W hW=>by
  have K:=Jb D hW
  exact⟨K,Jgu _ _ 1 Jx1 v A (w.heap.size+1) W w.heap.size (by obtain⟨k,O⟩:=h2;exact⟨k,O.stay K⟩) (Ja K M) (by rw[hW.block _ (by simp)];exact ba) (by omega)⟩
 clear h h2 Z ba M
 go_enter func41,ntmps41
 go_wp2_with fail
 refine X.mono ?_
 rintro e w' ⟨y,⟨rfl,rfl,E⟩|⟨b,z,rfl,rfl,bc,bf⟩⟩
 ·obtain⟨U,bb⟩:=H.out _ E
  have R:Hid (Below w.heap.size w w'):=U
  clear U E y X H
  go_wp2_with fail
  refine bb.mono ?_
  rintro e bh ⟨y,⟨rfl,rfl,E⟩|⟨b,z,rfl,rfl,bc,bf⟩⟩
  ·clear E
   go_wp2_with fail
   go_ret
   exact⟨rfl,R.out.trans y⟩
  go_wp2_with fail
  go_ret
  exact⟨rfl,R.out.trans y⟩
 clear H
 go_wp2_with fail
 go_ret
 exact⟨rfl,D.trans y⟩
theorem Jvp (w:World):Calls prog 42 #[.nilIface] w fun e w'=>e=.returned (.int .i64 (-1))∧Below w.heap.size w w':=by
 go_enter func42,ntmps42
 go_wp2_with fail
 refine(Ji9 _ _).mono ?_
 rintro e w' ⟨rfl,rfl⟩
 go_wp2_with fail
 go_ret
 exact⟨rfl,(Oa5 _ _).alloc (Oa2 _) _⟩
theorem Jv7 (v:Value)(x:Option Int)(w:World)(h:∃ k,Qn w 160 1 k v x)(E:w.cell? ⟨14,0,none⟩=some (.iface 228 (.agg #[.pointer (some ⟨17,76,none⟩)]))) :
  Calls prog 42 #[v] w fun e w'=>e=.returned (.int .i64 (x.getD (-1)))∧Below w.heap.size w w':=by
 have y:Below w.heap.size w (w.alloc (.cells #[.pointer none] 160)):=(Oa5 _ w).alloc (Oa2 _) _
 have D:=Jgu _ _ 1 Kco v x w.heap.size (w.alloc (.cells #[.pointer none] 160)) w.heap.size (by obtain⟨k,H⟩:=h;exact⟨k,H.stay y⟩) (Ja y E) (heap_alloc_new _ _) (Oa2 _)
 clear h
 go_enter func42,ntmps42
 go_wp2_with fail
 refine D.mono ?_
 rintro e w' ⟨A,⟨rfl,rfl,_⟩|⟨b,O,rfl,rfl,K,M⟩⟩
 ·go_wp2_with fail
  go_ret
  exact⟨rfl,y.trans A⟩
 go_wp2_with fail
 go_ret
 exact⟨rfl,y.trans A⟩
end Go.Proofs.YtdlgbphkaicfaaaGreatDoor
