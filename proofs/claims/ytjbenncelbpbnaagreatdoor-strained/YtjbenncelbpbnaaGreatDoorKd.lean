/- errors.As, by Go's own text, at the errors that the program makes, at its targets. -/
import Derived.Test.YtjbenncelbpbnaaGreatDoorEt
import Derived.Test.YtjbenncelbpbnaaGreatDoorEs
set_option maxHeartbeats 8000000
set_option maxRecDepth 100000
namespace Go.Proofs.YtjbenncelbpbnaaGreatDoor
section
open Go.RowKit Go.Extern.Stop Go.Stop Go.Extern
theorem Ji9 t w:Calls Tryz.prog 58 #[.nilIface,t] w fun e w'=>e=.returned (.bool false)/\w'=w:=by
 have hn:=run_eql_nil_nil (P:=Tryz.prog) w 78 zK;go_enter Tryz.func58,Tryz.ntmps58
 go_wp2;go_ret
 exact⟨rfl,rfl⟩
theorem Jyl {B w t}y H v(I:B<=t.block)(K:B<=w.heap.size):Below B w (((w.alloc y).alloc H).setCell t v):=
 (((Oa5 B w).alloc K y).alloc zt H).setCell I v
theorem Kch {w:World}{t:Addr}{old:Value}(y H:Obj)(v:Value)(ht:w.cell? t=some old):(((w.alloc y).alloc H).setCell t v).cell? t=some v:=by
 have h:=Jm ht;exact World.cell?_setCell_same _ _ _ (u:=old) (by rw[Oe5 _ _ t zt,Oe5 _ _ t h];exact ht)
theorem Jpq {w:World}{t:Addr}{b k:Nat}{x:Value}(I K:Obj)(v:Value)(y:w.cell? ⟨b,k,none⟩=some x)(H:b≠t.block):(((w.alloc I).alloc K).setCell t v).cell? ⟨b,k,none⟩=some x:=by
 have h:=Jm y;simp only at h;rw[Ob5 _ _ _ _ (fun e=>H (by rw[e]) ),Oe5 _ _ ⟨b,k,none⟩ zt,Oe5 _ _ ⟨b,k,none⟩ h];exact y
theorem Jyv tg pt off(hT:IsT tg pt)v x t av old w B(h:∃ k,Qn w tg off k v x)(hv:w.cell? av=some (.pointer (some t)))(ht:w.cell? t=some old)(hf:w.frozen? t=false)(hB:B<=t.block)(hBw:B<=w.heap.size)(hno:∀ b k y,w.cell? ⟨b,k,none⟩=some (.int .i64 y)->b≠t.block):
  Calls Tryz.prog 86 #[v,.iface pt (.pointer (some t)),.agg #[.pointer (some ⟨17,pt,none⟩),.pointer (some av),.int .u64 150],.iface 224 (.agg #[.pointer (some ⟨17,tg,none⟩)])] w fun e w'=>Below B w w'/\((x=none/\e=.returned (.bool false)/\Below w.heap.size w w')\/∃ b y,x=some y/\e=.returned (.bool true)/\w'.cell? t=some (.pointer (some ⟨b,0,none⟩))/\w'.cell? ⟨b,off,none⟩=some (.int .i64 y)):=by
 have hTO:=@run_callFunc_extern Tryz.prog 81 _ ReflectliteType.typeOf Tryz.func81 zK zK zK zK;have hAS := @run_callFunc_extern Tryz.prog 329 _ (ReflectliteType.relation "AssignableTo" ReflectliteType.assignableTo) Tryz.func329 (by kernel_rfl) (by kernel_rfl) (by kernel_rfl) (by kernel_rfl)
 have hVO:=@run_callFunc_extern Tryz.prog 83 _ (fun args=>ReflectliteValue.unpack (args.getD 0 (.tuple #[]))) Tryz.func83 zK zK zK zK;have hEL := @run_callFunc_extern Tryz.prog 117 _ (ReflectliteValue.method (ReflectliteValue.valueError "reflectlite.Value.Elem" 0) ReflectliteValue.elem) Tryz.func117 (by kernel_rfl) (by kernel_rfl) (by kernel_rfl) (by kernel_rfl)
 have hST:=@run_callFunc_extern Tryz.prog 118 _ ReflectliteValue.set Tryz.func118 zK zK zK zK;have mA:=Jsu;have HH:=zh h;obtain⟨ty0,x0,rfl⟩:∃ ty x,v=.iface ty x:=by obtain⟨_,hc⟩:=h;exact hc.iface
 have HNO:=zh hno;have HV:=zh hv;have HT:=zh ht;have HF:=zh hf;have hBW:=zh hBw;have hBT:=zh hB;clear h hno hv ht hf hB hBw;go_enter Tryz.func86,Tryz.ntmps86
 go_wp2_with fail
 obtain⟨k0,hk0⟩:=HH.out;go_loopg [0] k0 (fun k ev wr=>wr=w.alloc (.cells #[.pointer (some ⟨17,pt,none⟩),.pointer (some av),.int .u64 150] 184)/\Qn w tg off k ev x)
 case atStart=>exact⟨rfl,hk0⟩
 case round=>
  obtain⟨hwr,hx⟩:=hrel;subst hwr;clear HH hk0;rcases gk with _|n
  ·rcases hx with⟨a,hev,hxx⟩|⟨b,y,hev,hxx,hy⟩
   ·subst hev hxx;have tO:=Jld;have aS:=hT.root;simp only[Asg]at aS;have nA:=Kb9;have uU:=Jmp;have nU:=Jhb;clear hT;go_wp2_with fail
    go_ret
    exact⟨(Oa5 B w).alloc hBW.out _,rfl,(Oa5 _ w).alloc (Oa2 _) _⟩
   subst hev hxx;have tO:=hT.typ;have aS:=hT.self;simp only[Asg]at aS;have vO:=hT.vT;have htl:t.block<w.heap.size:=Jm HT.out;have hvl:av.block<w.heap.size:=Jm HV.out;have eV:=hT.eV av t (w.alloc (.cells #[.pointer (some ⟨17,pt,none⟩),.pointer (some av),.int .u64 150] 184)) (by rw[Oe5 _ _ _ hvl];exact HV.out);have sT:=hT.st t ⟨w.heap.size+1,0,none⟩ ⟨b,0,none⟩ old ((w.alloc (.cells #[.pointer (some ⟨17,pt,none⟩),.pointer (some av),.int .u64 150] 184)).alloc (.cells #[.pointer (some ⟨b,0,none⟩)] tg))
    (by rw[World.cell?_alloc_at _ _ _ _ zS];rfl)
    (by rw[Oe5 _ _ t zt,Oe5 _ _ t htl];exact HT.out)
    (by rw[World.frozen?_alloc_old _ _ t zt,World.frozen?_alloc_old _ _ t (Nat.ne_of_lt htl)];exact HF.out)
   clear hT;go_wp2_with fail
   go_ret
   exact⟨Jyl _ _ _ hBT.out hBW.out,.inr ⟨b,y,rfl,rfl,Kch _ _ _ HT.out,Jpq _ _ _ hy (HNO.out _ _ _ hy)⟩⟩
  obtain⟨ty,o,un,b,v,hW,hA,hev,hcell,hrest⟩:=hx;subst hev;have HR:=zh hrest;have HW:Hid (Calls Tryz.prog un #[.pointer (some ⟨b,0,none⟩)] (w.alloc (.cells #[.pointer (some ⟨17,pt,none⟩),.pointer (some av),.int .u64 150] 184)) fun e w'=>e=.returned v/\w'=w.alloc (.cells #[.pointer (some ⟨17,pt,none⟩),.pointer (some av),.int .u64 150] 184)):=
   hW.walk b v _ (by rw[Oe5 _ _ ⟨b,o,none⟩ (Jm hcell)];exact hcell)
  obtain⟨ty1,x1,rfl⟩:=hrest.iface;have tO:=hW.typ;have aS:=hA;simp only[Asg]at aS;have nA:=hW.noAs;have uU:=hW.unwrap;have mU:=hW.meth;have eN:=hW.enter;have hn1:=run_eql_held_nil (P:=Tryz.prog) (w.alloc (.cells #[.pointer (some ⟨17,pt,none⟩),.pointer (some av),.int .u64 150] 184)) 78 ty1 x1 zK;clear hT hW hA hcell hrest;go_wp2_with fail
  refine HW.out.mono ?_;rintro e w' ⟨rfl,rfl⟩;go_wp2_with fail
  go_roundg n
  case measure=>exact On2 n
  case rel=>exact⟨by first|trivial|rfl,HR.out⟩
theorem Jgu tg pt off(hT:IsT tg pt)v c t w B(h:∃ k,Qn w tg off k v c)(hg:w.cell? ⟨14,0,none⟩=some (.iface 224 (.agg #[.pointer (some ⟨17,78,none⟩)])))(ht:w.heap[t]?=some (.cells #[.pointer none] tg (0,0)))(hB:B<=t):
  Calls Tryz.prog 58 #[v,.iface pt (.pointer (some ⟨t,0,none⟩))] w fun e w'=>Below B w w'/\((c=none/\e=.returned (.bool false)/\Below w.heap.size w w')\/∃ b x,c=some x/\e=.returned (.bool true)/\w'.cell? ⟨t,0,none⟩=some (.pointer (some ⟨b,0,none⟩))/\w'.cell? ⟨b,off,none⟩=some (.int .i64 x)):=by
 have hTl:=Jd ht;have hWl:=Jm hg;simp only at hWl;have hVO:=@run_callFunc_extern Tryz.prog 83 _ (fun args=>ReflectliteValue.unpack (args.getD 0 (.tuple #[]))) Tryz.func83 zK zK zK zK;have hTY := @run_callFunc_extern Tryz.prog 84 _ (ReflectliteValue.methodAny (ReflectliteValue.valueError "reflectlite.Value.Type" 0) (fun t _ _ _ => ReflectliteType.toType t)) Tryz.func84 (by kernel_rfl) (by kernel_rfl) (by kernel_rfl) (by kernel_rfl)
 have hNI := @run_callFunc_extern Tryz.prog 85 _ (ReflectliteValue.method (ReflectliteValue.valueError "reflectlite.Value.IsNil" 0) ReflectliteValue.isNil) Tryz.func85 (by kernel_rfl) (by kernel_rfl) (by kernel_rfl) (by kernel_rfl)
 have hKI:=@run_callFunc_extern Tryz.prog 312 _ (ReflectliteType.abiMethod fun t=>do pure (.int .u8 (<-Rtype.kind t))) Tryz.func312 zK zK zK zK;have hEL:=@run_callFunc_extern Tryz.prog 331 _ (ReflectliteType.method ReflectliteType.elem) Tryz.func331 zK zK zK zK;have hIM := @run_callFunc_extern Tryz.prog 332 _ (ReflectliteType.relation "Implements" ReflectliteType.implements_) Tryz.func332 (by kernel_rfl) (by kernel_rfl) (by kernel_rfl) (by kernel_rfl)
 have f6:=hT.vP;have f7:=hT.tyP;have mK:=Kh9;have mE:=Kii;have mI:=Jr3;have k1:=hT.kP;have k2:=hT.kT;have e1:=hT.elP;have i1:=hT.imp;obtain⟨ty,x,rfl⟩:∃ ty x,v=.iface ty x:=by obtain⟨_,hc⟩:=h;exact hc.iface
 have n8:=hT.nilP ⟨w.heap.size,0,none⟩ ⟨t,0,none⟩ ((w.alloc (.cells #[.pointer (some ⟨t,0,none⟩)] pt)).alloc (.cells #[.pointer (some ⟨17,pt,none⟩),.pointer (some ⟨w.heap.size,0,none⟩),.int .u64 150] 184)) zS;have hg2:((w.alloc (.cells #[.pointer (some ⟨t,0,none⟩)] pt)).alloc (.cells #[.pointer (some ⟨17,pt,none⟩),.pointer (some ⟨w.heap.size,0,none⟩),.int .u64 150] 184)).cell? ⟨14,0,none⟩=some (.iface 224 (.agg #[.pointer (some ⟨17,78,none⟩)])):=by
  rw[Oe5 _ _ ⟨14,0,none⟩ zt,Oe5 _ _ ⟨14,0,none⟩ hWl];exact hg
 have hba:Below w.heap.size w ((w.alloc (.cells #[.pointer (some ⟨t,0,none⟩)] pt)).alloc (.cells #[.pointer (some ⟨17,pt,none⟩),.pointer (some ⟨w.heap.size,0,none⟩),.int .u64 150] 184)):=((Oa5 _ w).alloc (Oa2 _) _).alloc zS _;have ht2:((w.alloc (.cells #[.pointer (some ⟨t,0,none⟩)] pt)).alloc (.cells #[.pointer (some ⟨17,pt,none⟩),.pointer (some ⟨w.heap.size,0,none⟩),.int .u64 150] 184)).heap[t]?=some (.cells #[.pointer none] tg (0,0)):=by rw[hba.block t hTl];exact ht
 have hc:=Jyv tg pt off hT (.iface ty x) c ⟨t,0,none⟩ ⟨w.heap.size,0,none⟩ (.pointer none) ((w.alloc (.cells #[.pointer (some ⟨t,0,none⟩)] pt)).alloc (.cells #[.pointer (some ⟨17,pt,none⟩),.pointer (some ⟨w.heap.size,0,none⟩),.int .u64 150] 184)) B (by obtain⟨k,hh⟩:=h;exact⟨k,hh.stay hba⟩)
  (by rw[Oe5 _ _ ⟨w.heap.size,0,none⟩ zS];simp) (by simp[World.cell?,ht2]) (by simp[World.frozen?,ht2]) hB zt
  (fun b k y hy hbt=>by simp only at hbt;subst hbt;rcases k with _|k<;>simp[World.cell?,ht2]at hy)
 have hb0:=hba.mono (show B<=w.heap.size by omega);have HBA:=zh hba;clear ht2 hba h hT;go_enter Tryz.func58,Tryz.ntmps58
 go_wp2_with fail
 refine hc.mono ?_;rintro e w' ⟨hbw,⟨hn,rfl,hbm⟩|⟨b,y,hs,rfl,q1,q2⟩⟩
 ·have HBM:Hid (Below w.heap.size w w'):=Jb HBA.out hbm;clear hbm;go_wp2_with fail
  go_ret
  exact⟨hb0.trans hbw,.inl ⟨hn,rfl,HBM.out⟩⟩
 go_wp2_with fail
 go_ret
 exact⟨hb0.trans hbw,.inr ⟨b,y,hs,rfl,q1,q2⟩⟩
end
section
open Go.RowKit Go.Extern.Stop Go.Stop Go.Extern Tryz
theorem zaw {p:Prop}(h:p:=by
 go_wp2_with fail
 refine(Ji9 _ _).mono ?_;rintro e w' ⟨rfl,rfl⟩;go_wp2_with fail
 go_ret
 exact⟨rfl,(Oa5 _ _).alloc (Oa2 _) _⟩):p:=h
theorem Jxf w:Calls prog 40 #[.nilIface] w fun e w'=>e=.returned (.int .i64 (-1))/\Below w.heap.size w w':=by
 go_enter func40,ntmps40
 exact zaw
theorem zao {p:Prop}(h:p:=by
 go_wp2_with fail
 refine I.mono ?_;rintro e w' ⟨H,⟨rfl,rfl,_⟩|⟨b,U,rfl,rfl,M,O⟩⟩
 ·go_wp2_with fail
  go_ret
  exact⟨rfl,y.trans H⟩
 go_wp2_with fail
 go_ret
 exact⟨rfl,y.trans H⟩):p:=h
theorem Jvx v x w(h:∃ k,Qn w 105 0 k v x)(K:w.cell? ⟨14,0,none⟩=some (.iface 224 (.agg #[.pointer (some ⟨17,78,none⟩)]))):
  Calls prog 40 #[v] w fun e w'=>e=.returned (.int .i64 (x.getD (-1)))/\Below w.heap.size w w':=by
 have y:Below w.heap.size w (w.alloc (.cells #[.pointer none] 105)):=(Oa5 _ w).alloc (Oa2 _) _;have I:=Jgu _ _ 0 Kdd v x w.heap.size (w.alloc (.cells #[.pointer none] 105)) w.heap.size (by obtain⟨k,hh⟩:=h;exact⟨k,hh.stay y⟩) (Ja y K) (heap_alloc_new _ _) (Oa2 _);clear h;go_enter func40,ntmps40
 exact zao
theorem zam {p:Prop}(h:p:=by
 go_wp2_with fail
 refine(Ji9 _ _).mono ?_;rintro e w' ⟨rfl,rfl⟩;go_wp2_with fail
 refine(Ji9 _ _).mono ?_;rintro e w' ⟨rfl,rfl⟩;go_wp2_with fail
 go_ret
 exact⟨rfl,((Oa5 _ _).alloc (Oa2 _) _).alloc zS _⟩):p:=h
theorem Jz5 w:Calls prog 41 #[.nilIface] w fun e w'=>e=.returned (.int .i64 (-1))/\Below w.heap.size w w':=by
 go_enter func41,ntmps41
 exact zam
theorem zab {p:Prop}(h:p:=by
 go_wp2_with fail
 refine bh.mono ?_;rintro e w' ⟨y,⟨rfl,rfl,K⟩|⟨b,z,rfl,rfl,br,bx⟩⟩
 ·obtain⟨bf,bk⟩:=M.out _ K;have Y:=zh bf;clear bf K y bh M;go_wp2_with fail
  refine bk.mono ?_;rintro e bz ⟨y,⟨rfl,rfl,K⟩|⟨b,z,rfl,rfl,br,bx⟩⟩
  ·clear K;go_wp2_with fail
   go_ret
   exact⟨rfl,Y.out.trans y⟩
  go_wp2_with fail
  go_ret
  exact⟨rfl,Y.out.trans y⟩
 clear M;go_wp2_with fail
 go_ret
 exact⟨rfl,I.trans y⟩):p:=h
theorem Kau v x H w(h:∃ k,Qn w 147 0 k v x)(Z:∃ k,Qn w 148 0 k v H)(U:w.cell? ⟨14,0,none⟩=some (.iface 224 (.agg #[.pointer (some ⟨17,78,none⟩)]))):
  Calls prog 41 #[v] w fun e w'=>e=.returned (.int .i64 ((x.or H).getD (-1)))/\Below w.heap.size w w':=by
 have I:Below w.heap.size w ((w.alloc (.cells #[.pointer none] 147)).alloc (.cells #[.pointer none] 148)):=((Oa5 _ w).alloc (Oa2 _) _).alloc zS _;have bi:((w.alloc (.cells #[.pointer none] 147)).alloc (.cells #[.pointer none] 148)).heap[w.heap.size]?=some (.cells #[.pointer none] 147 (0,0)):=by
  rw[((Oa5 _ (w.alloc (.cells #[.pointer none] 147))).alloc (Oa2 _) (.cells #[.pointer none] 148)).block _ zS];exact heap_alloc_new _ _
 have bj:((w.alloc (.cells #[.pointer none] 147)).alloc (.cells #[.pointer none] 148)).heap[w.heap.size+1]?=some (.cells #[.pointer none] 148 (0,0)):=by
  have:=heap_alloc_new (w.alloc (.cells #[.pointer none] 147)) (.cells #[.pointer none] 148);simpa using this
 have bh:=Jgu _ _ 0 Kea v x w.heap.size ((w.alloc (.cells #[.pointer none] 147)).alloc (.cells #[.pointer none] 148)) w.heap.size (by obtain⟨k,hh⟩:=h;exact⟨k,hh.stay I⟩) (Ja I U) bi (Oa2 _);have M:Hid (∀ W,Below ((w.alloc (.cells #[.pointer none] 147)).alloc (.cells #[.pointer none] 148)).heap.size ((w.alloc (.cells #[.pointer none] 147)).alloc (.cells #[.pointer none] 148)) W->Below w.heap.size w W/\Calls prog 58 #[v,.iface 152 (.pointer (some ⟨w.heap.size+1,0,none⟩))] W fun e w'=>Below w.heap.size W w'/\((H=none/\e=.returned (.bool false)/\Below W.heap.size W w')\/∃ b z,H=some z/\e=.returned (.bool true)/\w'.cell? ⟨w.heap.size+1,0,none⟩=some (.pointer (some ⟨b,0,none⟩))/\w'.cell? ⟨b,0,none⟩=some (.int .i64 z))):=fun W hW=>by
  have O:=Jb I hW;exact⟨O,Jgu _ _ 0 Jx1 v H (w.heap.size+1) W w.heap.size (by obtain⟨k,hh⟩:=Z;exact⟨k,hh.stay O⟩) (Ja O U) (by rw[hW.block _ zS];exact bj) zo⟩
 clear h Z bi bj U;go_enter func41,ntmps41
 exact zab
theorem Jqq w:Calls prog 42 #[.nilIface] w fun e w'=>e=.returned (.int .i64 (-1))/\Below w.heap.size w w':=by
 go_enter func42,ntmps42
 exact zam
theorem Jqi v x H w(h:∃ k,Qn w 123 1 k v x)(Z:∃ k,Qn w 148 1 k v H)(U:w.cell? ⟨14,0,none⟩=some (.iface 224 (.agg #[.pointer (some ⟨17,78,none⟩)]))):
  Calls prog 42 #[v] w fun e w'=>e=.returned (.int .i64 ((x.or H).getD (-1)))/\Below w.heap.size w w':=by
 have I:Below w.heap.size w ((w.alloc (.cells #[.pointer none] 123)).alloc (.cells #[.pointer none] 148)):=((Oa5 _ w).alloc (Oa2 _) _).alloc zS _;have bi:((w.alloc (.cells #[.pointer none] 123)).alloc (.cells #[.pointer none] 148)).heap[w.heap.size]?=some (.cells #[.pointer none] 123 (0,0)):=by
  rw[((Oa5 _ (w.alloc (.cells #[.pointer none] 123))).alloc (Oa2 _) (.cells #[.pointer none] 148)).block _ zS];exact heap_alloc_new _ _
 have bj:((w.alloc (.cells #[.pointer none] 123)).alloc (.cells #[.pointer none] 148)).heap[w.heap.size+1]?=some (.cells #[.pointer none] 148 (0,0)):=by
  have:=heap_alloc_new (w.alloc (.cells #[.pointer none] 123)) (.cells #[.pointer none] 148);simpa using this
 have bh:=Jgu _ _ 1 Kf1 v x w.heap.size ((w.alloc (.cells #[.pointer none] 123)).alloc (.cells #[.pointer none] 148)) w.heap.size (by obtain⟨k,hh⟩:=h;exact⟨k,hh.stay I⟩) (Ja I U) bi (Oa2 _);have M:Hid (∀ W,Below ((w.alloc (.cells #[.pointer none] 123)).alloc (.cells #[.pointer none] 148)).heap.size ((w.alloc (.cells #[.pointer none] 123)).alloc (.cells #[.pointer none] 148)) W->Below w.heap.size w W/\Calls prog 58 #[v,.iface 152 (.pointer (some ⟨w.heap.size+1,0,none⟩))] W fun e w'=>Below w.heap.size W w'/\((H=none/\e=.returned (.bool false)/\Below W.heap.size W w')\/∃ b z,H=some z/\e=.returned (.bool true)/\w'.cell? ⟨w.heap.size+1,0,none⟩=some (.pointer (some ⟨b,0,none⟩))/\w'.cell? ⟨b,1,none⟩=some (.int .i64 z))):=fun W hW=>by
  have O:=Jb I hW;exact⟨O,Jgu _ _ 1 Jx1 v H (w.heap.size+1) W w.heap.size (by obtain⟨k,hh⟩:=Z;exact⟨k,hh.stay O⟩) (Ja O U) (by rw[hW.block _ zS];exact bj) zo⟩
 clear h Z bi bj U;go_enter func42,ntmps42
 exact zab
theorem Jvp w:Calls prog 43 #[.nilIface] w fun e w'=>e=.returned (.int .i64 (-1))/\Below w.heap.size w w':=by
 go_enter func43,ntmps43
 exact zaw
theorem Jv7 v x w(h:∃ k,Qn w 156 1 k v x)(K:w.cell? ⟨14,0,none⟩=some (.iface 224 (.agg #[.pointer (some ⟨17,78,none⟩)]))):
  Calls prog 43 #[v] w fun e w'=>e=.returned (.int .i64 (x.getD (-1)))/\Below w.heap.size w w':=by
 have y:Below w.heap.size w (w.alloc (.cells #[.pointer none] 156)):=(Oa5 _ w).alloc (Oa2 _) _;have I:=Jgu _ _ 1 Kco v x w.heap.size (w.alloc (.cells #[.pointer none] 156)) w.heap.size (by obtain⟨k,hh⟩:=h;exact⟨k,hh.stay y⟩) (Ja y K) (heap_alloc_new _ _) (Oa2 _);clear h;go_enter func43,ntmps43
 exact zao
structure Jig (w:World) (l:List Addr) (dv ov gv mn:Addr):Prop where
 cd:w.cell? ⟨10,0,none⟩=some (.iface 432 (.pointer (some dv)))
 co:w.cell? ⟨11,0,none⟩=some (.iface 432 (.pointer (some ov)))
 cg:w.cell? ⟨12,0,none⟩=some (.iface 432 (.pointer (some gv)))
 cm:w.cell? ⟨13,0,none⟩=some (.iface 432 (.pointer (some mn)))
 bd:∃ c t,w.heap[dv.block]?=some (.cells c t (0,0))
 bo:∃ c t,w.heap[ov.block]?=some (.cells c t (0,0))
 bg:∃ c t,w.heap[gv.block]?=some (.cells c t (0,0))
 bm:∃ c t,w.heap[mn.block]?=some (.cells c t (0,0))
 nd:dv∉l
 no:ov∉dv::l
 ng:gv∉ov::dv::l
 nm:mn∉gv::ov::dv::l
structure Jhy (w:World) (l:List Addr) (pl ex:Addr):Prop where
 cp:w.cell? ⟨3,0,none⟩=some (.iface 432 (.pointer (some pl)))
 ce:w.cell? ⟨9,0,none⟩=some (.iface 432 (.pointer (some ex)))
 bp:∃ c t,w.heap[pl.block]?=some (.cells c t (0,0))
 be:∃ c t,w.heap[ex.block]?=some (.cells c t (0,0))
 np:pl∉l
 ne:ex∉l
 m3:∃ dv ov gv mn,Jig w (ex::pl::l) dv ov gv mn
structure Jkn (w:World) (a0 a1 a2 tt q wr pg:Addr):Prop where
 ct:w.cell? ⟨2,0,none⟩=some (.iface 432 (.pointer (some tt)))
 cq:w.cell? ⟨6,0,none⟩=some (.iface 432 (.pointer (some q)))
 cw:w.cell? ⟨7,0,none⟩=some (.iface 432 (.pointer (some wr)))
 cp:w.cell? ⟨8,0,none⟩=some (.iface 432 (.pointer (some pg)))
 et:w.cell? ⟨14,0,none⟩=some (.iface 224 (.agg #[.pointer (some ⟨17,78,none⟩)]))
 bt:∃ c t,w.heap[tt.block]?=some (.cells c t (0,0))
 bq:∃ c t,w.heap[q.block]?=some (.cells c t (0,0))
 bw:∃ c t,w.heap[wr.block]?=some (.cells c t (0,0))
 bp:∃ c t,w.heap[pg.block]?=some (.cells c t (0,0))
 nd:[a0,a1,a2,tt,q,wr,pg].Nodup
 m2:∃ pl ex,Jhy w [a0,a1,a2,tt,q,wr,pg] pl ex
structure Jf0 (w:World) (a0 a1 a2:Addr):Prop where
 c0:w.cell? ⟨15,0,none⟩=some (.iface 432 (.pointer (some a0)))
 c1:w.cell? ⟨4,0,none⟩=some (.iface 432 (.pointer (some a1)))
 c2:w.cell? ⟨5,0,none⟩=some (.iface 432 (.pointer (some a2)))
 b0:∃ c t,w.heap[a0.block]?=some (.cells c t (0,0))
 b1:∃ c t,w.heap[a1.block]?=some (.cells c t (0,0))
 b2:∃ c t,w.heap[a2.block]?=some (.cells c t (0,0))
 more:∃ tt q wr pg,Jkn w a0 a1 a2 tt q wr pg
theorem Kg {w w'}(hb:Below w.heap.size w w'){k:Nat}(h:∃ c t,w.heap[k]?=some (.cells c t (0,0))):∃ c t,w'.heap[k]?=some (.cells c t (0,0)):=by
 obtain⟨c,t,h⟩:=h;exact⟨c,t,by rw[hb.block _ (Jd h)];exact h⟩
theorem Jig.below {w w'}{l:List Addr}{y H gv mn}(h:Jig w l y H gv mn)(hb:Below w.heap.size w w'):Jig w' l y H gv mn:=
 ⟨Ja hb h.cd,Ja hb h.co,Ja hb h.cg,Ja hb h.cm,Kg hb h.bd,Kg hb h.bo,Kg hb h.bg,Kg hb h.bm,h.nd,h.no,h.ng,h.nm⟩
theorem Jhy.below {w w'}{l:List Addr}{pl ex}(h:Jhy w l pl ex)(hb:Below w.heap.size w w'):Jhy w' l pl ex:=
 ⟨Ja hb h.cp,Ja hb h.ce,Kg hb h.bp,Kg hb h.be,h.np,h.ne,by obtain⟨y,I,gv,mn,H⟩:=h.m3;exact⟨y,I,gv,mn,H.below hb⟩⟩
theorem Jkn.below {w w' a0 a1 a2 y q wr pg}(h:Jkn w a0 a1 a2 y q wr pg)(hb:Below w.heap.size w w'):Jkn w' a0 a1 a2 y q wr pg:=
 ⟨Ja hb h.ct,Ja hb h.cq,Ja hb h.cw,Ja hb h.cp,Ja hb h.et,Kg hb h.bt,Kg hb h.bq,Kg hb h.bw,Kg hb h.bp,h.nd,by obtain⟨pl,ex,H⟩:=h.m2;exact⟨pl,ex,H.below hb⟩⟩
theorem Jf0.below {w w' a0 a1 a2}(h:Jf0 w a0 a1 a2)(hb:Below w.heap.size w w'):Jf0 w' a0 a1 a2:=by
 obtain⟨H,q,wr,pg,y⟩:=h.more;exact⟨Ja hb h.c0,Ja hb h.c1,Ja hb h.c2,Kg hb h.b0,Kg hb h.b1,Kg hb h.b2,H,q,wr,pg,y.below hb⟩
def Jdh (a1 a2 y q wr pg a:Addr):Int:=if a=a1 then 2 else if a=a2 then 3 else if a=y then 4 else if a=q then 5 else if a=wr then 6 else if a=pg then 7 else 1
def Jby (a1 a2 I q wr pg pl ex y H gv mn a:Addr):Int:=if a=a1 then 2 else if a=a2 then 3 else if a=I then 4 else if a=q then 5 else if a=wr then 6 else if a=pg then 7 else if a=pl then 8 else if a=ex then 8 else if a=y then 9 else if a=H then 10 else if a=gv then 10 else if a=mn then 11 else 1
theorem Jwm w:Calls prog 39 #[.nilIface] w fun e w'=>e=.returned (.int .i64 0)/\w'=w:=by
 have hn:=run_eql_nil_nil (P:=prog) w 78 zK;go_enter func39,ntmps39
 go_wp2;go_ret
 exact⟨rfl,rfl⟩
theorem zaa {p:Prop}(h:p:=by
 have K:=H.out;rw[if_pos y]at K;subst K;rw[decide_eq_true y];clear y;go_wp2_with fail
 go_ret
 exact⟨rfl,rfl⟩):p:=h
theorem Ju5 v a w(h:∃ k,Zg w k v a)(hb:∃ c t,w.heap[a.block]?=some (.cells c t (0,0)))a0 a1 a2 O q wr pg pl ex Z bf gv mn(bi:Jf0 w a0 a1 a2)(Y:Jkn w a0 a1 a2 O q wr pg)(bh:Jhy w [a0,a1,a2,O,q,wr,pg] pl ex)(U:Jig w [ex,pl,a0,a1,a2,O,q,wr,pg] Z bf gv mn):
  Calls prog 39 #[v] w fun e w'=>e=.returned (.int .i64 (Jby a1 a2 O q wr pg pl ex Z bf gv mn a))/\w'=w:=by
 obtain⟨ty,x,rfl⟩:∃ ty x,v=.iface ty x:=by obtain⟨_,bP⟩:=h;exact bP.iface
 have hn:=run_eql_held_nil (P:=prog) w 78 ty x zK;have c1:=bi.c1;have c2:=bi.c2;have c3:=Y.ct;have c4:=Y.cq;have c5:=Y.cw;have bM:=Y.cp;have bN:=bh.cp;have c8:=bh.ce;have bO:=U.cd;have bJ:=U.co;have bK:=U.cg;have bL:=U.cm;have bj:=Jci _ a a1 w h hb bi.b1 (decide (a=a1)) zS;have bz:=Jci _ a a2 w h hb bi.b2 (decide (a=a2)) zS;have bA:=Jci _ a O w h hb Y.bt (decide (a=O)) zS;have bB:=Jci _ a q w h hb Y.bq (decide (a=q)) zS;have bC:=Jci _ a wr w h hb Y.bw (decide (a=wr)) zS;have bD:=Jci _ a pg w h hb Y.bp (decide (a=pg)) zS;have bE:=Jci _ a pl w h hb bh.bp (decide (a=pl)) zS;have bG:=Jci _ a ex w h hb bh.be (decide (a=ex)) zS;have bH:=Jci _ a Z w h hb U.bd (decide (a=Z)) zS;have bk:=Jci _ a bf w h hb U.bo (decide (a=bf)) zS;have br:=Jci _ a gv w h hb U.bg (decide (a=gv)) zS;have bx:=Jci _ a mn w h hb U.bm (decide (a=mn)) zS;clear h hb bi Y bh U;have H:Hid (Jby a1 a2 O q wr pg pl ex Z bf gv mn a=if a=a1 then 2 else if a=a2 then 3 else if a=O then 4 else if a=q then 5 else if a=wr then 6 else if a=pg then 7 else if a=pl then 8 else if a=ex then 8 else if a=Z then 9 else if a=bf then 10 else if a=gv then 10 else if a=mn then 11 else 1):=rfl;generalize Jby a1 a2 O q wr pg pl ex Z bf gv mn a=bI at *;go_enter func39,ntmps39
 go_wp2_with fail
 refine bj.mono ?_;rintro e w' ⟨rfl,M⟩;subst w';clear bj;by_cases y:a=a1
 ·exact zaa
 have I:=H.out;rw[if_neg y]at I;clear H;have H:=zh I;clear I;rw[decide_eq_false y];clear y c1;go_wp2_with fail
 refine bz.mono ?_;rintro e w' ⟨rfl,M⟩;subst w';clear bz;by_cases y:a=a2
 ·exact zaa
 have I:=H.out;rw[if_neg y]at I;clear H;have H:=zh I;clear I;rw[decide_eq_false y];clear y c2;go_wp2_with fail
 refine bA.mono ?_;rintro e w' ⟨rfl,M⟩;subst w';clear bA;by_cases y:a=O
 ·exact zaa
 have I:=H.out;rw[if_neg y]at I;clear H;have H:=zh I;clear I;rw[decide_eq_false y];clear y c3;go_wp2_with fail
 refine bB.mono ?_;rintro e w' ⟨rfl,M⟩;subst w';clear bB;by_cases y:a=q
 ·exact zaa
 have I:=H.out;rw[if_neg y]at I;clear H;have H:=zh I;clear I;rw[decide_eq_false y];clear y c4;go_wp2_with fail
 refine bC.mono ?_;rintro e w' ⟨rfl,M⟩;subst w';clear bC;by_cases y:a=wr
 ·exact zaa
 have I:=H.out;rw[if_neg y]at I;clear H;have H:=zh I;clear I;rw[decide_eq_false y];clear y c5;go_wp2_with fail
 refine bD.mono ?_;rintro e w' ⟨rfl,M⟩;subst w';clear bD;by_cases y:a=pg
 ·exact zaa
 have I:=H.out;rw[if_neg y]at I;clear H;have H:=zh I;clear I;rw[decide_eq_false y];clear y bM;go_wp2_with fail
 refine bE.mono ?_;rintro e w' ⟨rfl,M⟩;subst w';clear bE;by_cases y:a=pl
 ·exact zaa
 have I:=H.out;rw[if_neg y]at I;clear H;have H:=zh I;clear I;rw[decide_eq_false y];clear y bN;go_wp2_with fail
 refine bG.mono ?_;rintro e w' ⟨rfl,M⟩;subst w';clear bG;by_cases y:a=ex
 ·exact zaa
 have I:=H.out;rw[if_neg y]at I;clear H;have H:=zh I;clear I;rw[decide_eq_false y];clear y c8;go_wp2_with fail
 refine bH.mono ?_;rintro e w' ⟨rfl,M⟩;subst w';clear bH;by_cases y:a=Z
 ·exact zaa
 have I:=H.out;rw[if_neg y]at I;clear H;have H:=zh I;clear I;rw[decide_eq_false y];clear y bO;go_wp2_with fail
 refine bk.mono ?_;rintro e w' ⟨rfl,M⟩;subst w';clear bk;by_cases y:a=bf
 ·exact zaa
 have I:=H.out;rw[if_neg y]at I;clear H;have H:=zh I;clear I;rw[decide_eq_false y];clear y bJ;go_wp2_with fail
 refine br.mono ?_;rintro e w' ⟨rfl,M⟩;subst w';clear br;by_cases y:a=gv
 ·exact zaa
 have I:=H.out;rw[if_neg y]at I;clear H;have H:=zh I;clear I;rw[decide_eq_false y];clear y bK;go_wp2_with fail
 refine bx.mono ?_;rintro e w' ⟨rfl,M⟩;subst w';clear bx;by_cases y:a=mn
 ·exact zaa
 have I:=H.out;rw[if_neg y]at I;clear H;have H:=zh I;clear I;rw[decide_eq_false y];clear y bL;have K:bI=1:=H.out;subst K;go_wp2_with fail
 go_ret
 exact⟨rfl,rfl⟩
abbrev Ko (c nd row col pg:Int):Value:=.agg #[.int .i64 c,.int .i64 nd,.int .i64 row,.int .i64 col,.int .i64 pg]
abbrev Jjp (c nd col pg:Int):Value:=Ko c nd (-1) col pg
abbrev Jbz (c col pg:Int):Value:=Jjp c (-1) col pg
theorem Jk {w:World}{b:Nat}{cs:Array Value}{t:TypeId}(h:w.heap[b]?=some (.cells cs t (0,0)))(o:Nat)(v:Value):(w.setCell ⟨b,o,none⟩ v).heap[b]?=some (.cells (cs.setIfInBounds o v) t (0,0)):=by
 simp[World.setCell,Array.getElem?_modify,h]
theorem Jl6 x c nd row col pg w(I:∀ W,Below w.heap.size w W->Calls prog 39 #[x] W fun e w'=>e=.returned (.int .i64 c)/\w'=W)(O:∀ W,Below w.heap.size w W->Calls prog 40 #[x] W fun e w'=>e=.returned (.int .i64 nd)/\Below W.heap.size W w')(hR:∀ W,Below w.heap.size w W->Calls prog 41 #[x] W fun e w'=>e=.returned (.int .i64 row)/\Below W.heap.size W w')(K:∀ W,Below w.heap.size w W->Calls prog 42 #[x] W fun e w'=>e=.returned (.int .i64 col)/\Below W.heap.size W w')(M:∀ W,Below w.heap.size w W->Calls prog 43 #[x] W fun e w'=>e=.returned (.int .i64 pg)/\Below W.heap.size W w'):
  Calls prog 30 #[x] w fun e w'=>e=.returned (Ko c nd row col pg)/\Below w.heap.size w w':=by
 have bx:=zh I;have bB:=zh O;have bz:=zh K;have bA:=zh M;have bC:=zh hR;clear I K M O hR;have H:Below w.heap.size w (w.alloc (.cells #[.int .i64 0,.int .i64 0,.int .i64 0,.int .i64 0,.int .i64 0] 51)):=(Oa5 _ _).alloc (Oa2 _) _;go_enter func30,ntmps30
 go_wp2_with fail
 refine(bx.out _ H).mono ?_;rintro e w' ⟨rfl,bL⟩;subst w';go_wp2_with fail
 refine(bB.out _ H).mono ?_;rintro e bR ⟨rfl,bi⟩;go_wp2_with fail
 have bf:=Jb H bi;refine(bC.out _ bf).mono ?_;rintro e bS ⟨rfl,bj⟩;go_wp2_with fail
 have bh:=Jb bf bj;refine(bz.out _ bh).mono ?_;rintro e w1 ⟨rfl,U⟩;go_wp2_with fail
 have Y:=Jb bh U;refine(bA.out _ Y).mono ?_;rintro e br ⟨rfl,Z⟩;have bD:=Jb Y Z;have bE:=Jb bi (Jb bj (Jb U Z));have hk:br.heap[w.heap.size]?=some (.cells #[.int .i64 0,.int .i64 0,.int .i64 0,.int .i64 0,.int .i64 0] 51 (0,0)):=by
  rw[bE.block _ zS];exact heap_alloc_new _ _
 have bM:=zc 0 hk;have bN:=zc 1 hk;have bO:=zc 2 hk;have bP:=zc 3 hk;have bQ:=zc 4 hk;have y:∀ o,br.frozen? ⟨w.heap.size,o,none⟩=false:=fun o=>by simp[World.frozen?,hk]
 have bG:=y 0;have bH:=y 1;have bI:=y 2;have bJ:=y 3;have bK:=y 4;have bk:=Jk (Jk (Jk (Jk (Jk hk 0 (.int .i64 c)) 1 (.int .i64 nd)) 2 (.int .i64 row)) 3 (.int .i64 col)) 4 (.int .i64 pg);simp only[Oa1,List.set_cons_zero,List.set_cons_succ]at bk;clear hk y;go_wp2;exact bodyPost_ret (v:=Ko c nd row col pg) (by simp[results,results30,go_sem,Ko,World.cell?,bk]) rfl ⟨rfl,Um bD (Oa2 _) _ _ _ _ _⟩
theorem Jjq w:Calls prog 30 #[.nilIface] w fun e w'=>e=.returned (Jb6 0)/\Below w.heap.size w w':=
 Jl6 .nilIface 0 (-1) (-1) (-1) (-1) w (fun W _=>Jwm W) (fun W _=>Jxf W) (fun W _=>Jz5 W) (fun W _=>Jqq W) (fun W _=>Jvp W)
theorem Jic v a n r c p g gc w(h:Jny w v a n r c p g gc)(hb:∃ c t,w.heap[a.block]?=some (.cells c t (0,0)))a0 a1 a2 H q wr pg pl ex I K gv mn(U:Jf0 w a0 a1 a2)(y:Jkn w a0 a1 a2 H q wr pg)(M:Jhy w [a0,a1,a2,H,q,wr,pg] pl ex)(O:Jig w [ex,pl,a0,a1,a2,H,q,wr,pg] I K gv mn):
  Calls prog 30 #[v] w fun e w'=>e=.returned (Ko (Jby a1 a2 H q wr pg pl ex I K gv mn a) (n.getD (-1)) ((r.or g).getD (-1)) ((c.or gc).getD (-1)) (p.getD (-1)))/\Below w.heap.size w w':=
 Jl6 v _ _ _ _ _ w (fun W hW=>Ju5 v a W (h.below hW).r (Kg hW hb) a0 a1 a2 H q wr pg pl ex I K gv mn (U.below hW) (y.below hW) (M.below hW) (O.below hW)) (fun W hW=>Jvx v n W (h.below hW).n (y.below hW).et) (fun W hW=>Kau v r g W (h.below hW).x (h.below hW).g (y.below hW).et) (fun W hW=>Jqi v c gc W (h.below hW).c (h.below hW).gc (y.below hW).et) (fun W hW=>Jv7 v p W (h.below hW).p (y.below hW).et)
theorem Jim {w a0 a1 a2 y q wr pg}(H:Jkn w a0 a1 a2 y q wr pg):
  Jdh a1 a2 y q wr pg a0=1/\Jdh a1 a2 y q wr pg a1=2/\Jdh a1 a2 y q wr pg a2=3/\Jdh a1 a2 y q wr pg y=4/\Jdh a1 a2 y q wr pg q=5/\Jdh a1 a2 y q wr pg wr=6/\Jdh a1 a2 y q wr pg pg=7:=by
 have h:=H.nd;simp only[Og0,Of1,Oi0,or_false,not_or]at h;obtain⟨⟨I,K,M,O,U,Y⟩,⟨Z,bf,bh,bi,bj⟩,⟨bk,br,bx,bz⟩,⟨bA,bB,bC⟩,⟨bD,bE⟩,bG,_⟩:=h;refine⟨?_,?_,?_,?_,?_,?_,?_⟩<;>simp only[Jdh]<;>(repeat' split)<;>simp_all
end
open Go.RowKit Tryz
theorem Jvw:(prog.info? 201).map (fun i=>i.size)=some 1:=zK
theorem Jbb y x1 x2 H w:
  (Instr.index 202 (.agg #[y,x1,x2,H]) (.int .i64 0)).run prog w=.ok y w /\
  (Instr.index 202 (.agg #[y,x1,x2,H]) (.int .i64 1)).run prog w=.ok x1 w /\
  (Instr.index 202 (.agg #[y,x1,x2,H]) (.int .i64 2)).run prog w=.ok x2 w /\
  (Instr.index 202 (.agg #[y,x1,x2,H]) (.int .i64 3)).run prog w=.ok H w:=by
 obtain⟨i,hi,hs⟩:=Oe9.1 Jvw;refine⟨?_,?_,?_,?_⟩<;>simp[Instr.index,run_underlying underlying202,run_underlying underlying201,asIntOf,part,isAgg,sizeOf,typeInfo,hi,hs]
def Jdq (t:Int)(xs:List V):Prop:=xs.length<=64/\∀ j (y:j<xs.length),okB t xs[j].k xs[j].n xs[j].s=true
def Jdt (t y:Int)(l:List V):List UInt8:=
 if y=0 then Yv l else if y=1 then Jds l else if y=2 then Yc l else Zz t l
def Jav (t y:Int)(xs:List V):List UInt8:=Kz t y xs++Jdt t y (Jz xs)
theorem Jgz t xs(h:Jdq t xs):∀ v∈Jz xs,good v.k v.s:=by
 intro v hv;obtain⟨H,hk⟩:=Om0.1 hv;obtain⟨j,y,rfl⟩:=Od5 H;have:=h.2 j y;unfold okB okK at this;simp at this hk;unfold good;omega
theorem Jkz (w:World)(B:Nat)(t:Int)(y:B<=w.heap.size):WAt (w.alloc (.cells #[.int .i64 t,.slice none 0 0] 199)) B w.heap.size t []:=
 ⟨y,.slice none 0 0,heap_alloc_new _ _,Jo.nil _ _ _,by simp[Value.ownBlock]⟩
theorem Jgw (w:World)(t:Int){k:Nat}(hk:k<w.heap.size):Ya (w.alloc (.cells #[.int .i64 t,.slice none 0 0] 199)) w.heap.size k:=by
 refine⟨by simp;omega,zo,fun sv hs=>?_⟩;have:sv=.slice none 0 0:=by simpa using hs.symm
 subst this;simp[Value.ownBlock]
theorem Jdw {w w' B g t bs}(h:WAt w B g t bs)(hk:Ky w w' g)w0(H:B=w0.heap.size)(h0:Below w0.heap.size w0 w):Below w0.heap.size w0 w':=by
 refine⟨hk.os.trans h0.os,hk.tape.trans h0.tape,hk.output.trans h0.output,Ob2 h0.size hk.size,fun k y=>?_⟩;have hs:=h0.size;rw[(hk.block k (h.apart zo zo)).1,h0.block k y]
theorem Jzl t H a cap xs w(hn:xs.length<=maxLen)(Z:Jv w a xs)y(I:w.cell? ⟨15,0,none⟩=some y)(M:¬ (way t H=true/\Jdq t xs)):
  Calls prog 65 #[.int .i64 t,.int .i64 H,.slice a xs.length cap] w fun e w'=>e=.returned (.tuple #[.string (Qw []),y])/\Below w.heap.size w w':=by
 cases hway:way t H
 ·go_enter func65,ntmps65
  go_wp2_with (go_at_call 61;refine(Ja3 _ _ _).mono ?_;rintro e w' ⟨rfl,Y⟩;rw[hway];subst w')
  go_quiet (fail)
  go_wp2;go_ret2
  exact⟨rfl,Jp (Oa5 _ _) _⟩
 have hb:¬ Jdq t xs:=fun h=>M ⟨hway,h⟩;have U:Hid (false=true↔xs.length<=64/\∀ j (bh:j<xs.length),okB t xs[j].k xs[j].n xs[j].s=true):=⟨fun h=>by simp at h,fun h=>absurd h hb⟩;clear M hb;have O:=Jm I;simp only at O;go_enter func65,ntmps65
 go_wp2_with (first
  |(go_at_call 61;refine(Ja3 _ _ _).mono ?_;rintro e w' ⟨rfl,Y⟩;rw[hway];subst w')
  |(go_at_call 90;refine(Zl t a cap xs _ hn Z false U.out).mono ?_;rintro e w1 ⟨rfl,K⟩;have bf:w1.cell? ⟨15,0,none⟩=some y:=(by rw[(Kx K).1 15 0 O];exact I)))
 go_quiet (fail)
 go_wp2;go_ret2
 exact⟨rfl,Jp K _⟩
theorem Jiv {w B g t bs}(h:WAt w B g t bs)(M:bs≠[]){sv}(I:w.cell? ⟨g,1,none⟩=some sv):(convert 197 9 sv).run prog w=.ok (.string (Qw bs)) w:=by
 obtain⟨sv',_,H,_,ho,_⟩:=h.cells;rw[I]at H;cases H
 obtain⟨a,cap,rfl,y⟩:=ho.cells;rw[Oa6];rcases y with y|⟨b,o,rfl,_,y⟩
 ·exact absurd (List.map_eq_nil_iff.1 y) M
 refine Jc6 w ⟨b,o,none⟩ cap bs fun j u K=>?_;rw[Addr.add_mid];exact y j u K
theorem Jtj t a cap xs w(hn:xs.length<=maxLen)(Y:Jv w a xs)(bX:way t 0=true)(O:Jdq t xs):
  Calls prog 65 #[.int .i64 t,.int .i64 0,.slice a xs.length cap] w fun e w'=>e=.returned (.tuple #[.string (Qw (Jav t 0 xs)),.nilIface])/\Below w.heap.size w w':=by
 have Z:=O.1;have ci:=Zy xs;have bO:=Jgz t xs O;have bC:Hid (Jav t 0 xs=Kz t 0 xs++Yv (Jz xs)):=rfl;have cf:(Kz t 0 xs).length<=1000:=by unfold Kz;rw[Oa8,Qb,Oa6];simp only[List.length_cons,List.length_nil];omega
 have bP:Kz t 0 xs≠[]:=by simp[Kz]
 go_enter func65,ntmps65
 go_wp2_with fail
 refine(Ja3 _ _ _).mono ?_;rintro e w' ⟨rfl,cu⟩;rw[bX];subst w';go_wp2_with fail
 refine(Zl t a cap xs _ hn Y true ⟨fun _=>O,fun _=>rfl⟩).mono ?_;rintro e w1 ⟨rfl,bh⟩;go_wp2_with fail
 refine(Yr a cap xs w1 Z (Y.below bh)).mono ?_;rintro e y ⟨cx,rfl,U,bI⟩;have bK:=fun b hb=>Je U (g:=b) hb;obtain⟨a2,bD,rfl,bT⟩:=U.vals;clear U;generalize Jz xs=hl at *;have bi:=Jb bh bI;have bA:=Y.below bi;have cn:y.heap.size<=y.heap.size:=Oa2 _;have bj:=bi;go_wp2_with fail
 have br:=Jkz y w.heap.size t bj.size;have I:∀ k,k<y.heap.size->Ya (y.alloc (.cells #[.int .i64 t,.slice none 0 0] 199)) y.heap.size k:=fun k hk=>Jgw y t hk;have H:Below y.heap.size y (y.alloc (.cells #[.int .i64 t,.slice none 0 0] 199)):=(Oa5 _ _).alloc (Oa2 _) _;have bY:=bA.below H;have bU:=bT.below H;have bJ:=Jb bj H;have bf:∀ b o,a2=some ⟨b,o,none⟩->Ya (y.alloc (.cells #[.int .i64 t,.slice none 0 0] 199)) y.heap.size b:=by
  intro b o K;subst K;have:=bK b rfl;exact I b zo
 have bH:xs≠[]->∀ b o,a=some ⟨b,o,none⟩->Ya (y.alloc (.cells #[.int .i64 t,.slice none 0 0] 199)) y.heap.size b:=by
  intro bS b o K;rcases bA with h|⟨cb,cv,e,hb,_⟩
  ·exact absurd h bS
  rw[K]at e;cases e;exact I b hb
 generalize bE:y.alloc (.cells #[.int .i64 t,.slice none 0 0] 199)=bZ at *;generalize bN:y.heap.size=g at *;clear bE I H bN;refine(Jg0 w.heap.size g t 0 a cap xs bZ br Z bY bH).mono ?_;rintro e ca ⟨rfl,bx,bQ⟩;go_wp2_with fail
 refine(Jgs g ca).mono ?_;rintro e bB ⟨rfl,bk⟩;have bW:=bx.below bk;have M:=bQ.trans (Ky.of_below bk bx.lt);have bV:=Zk bU M bf;have bG:=Jde M bf;have cj:=(Jbb (.func (.func 123) #[.pointer (some ⟨g,0,none⟩)] #[]) (.func (.func 124) #[.pointer (some ⟨g,0,none⟩)] #[]) (.func (.func 125) #[.pointer (some ⟨g,0,none⟩)] #[]) (.func (.func 126) #[.pointer (some ⟨g,0,none⟩)] #[]) bB).1;generalize Kz t 0 xs=cc at *;go_wp2_with fail
 refine(Jk4 w.heap.size g t a2 bD hl _ bB bW zo zo bO bV bG).mono ?_;rintro e cz ⟨rfl,bz,bR⟩;obtain⟨cy,c0,c1,_,_,_⟩:=bz.cells;have bL:=Jiv bz (by simp[bP]) c1;have bM:=Jdw br (M.trans bR) w rfl bJ;rw[<-bC.out]at bL;go_wp2;go_ret2
 exact⟨rfl,bM⟩
def Jfr (t:Int)(xs:List V):Bool:=decide (xs.length<=64)&&xs.all fun v=>okB t v.k v.n v.s
theorem Jfd t xs:Jfr t xs=true↔Jdq t xs:=by
 unfold Jfr Jdq;rw[Og5,decide_eq_true_eq,List.all_eq_true];constructor
 ·intro h;exact⟨h.1,fun j y=>h.2 _ (Ob3 y)⟩
 intro h;refine⟨h.1,fun v hv=>?_⟩;obtain⟨j,y,rfl⟩:=Od5 hv;exact h.2 j y
def Jev (t y:Int)(xs:List V):List UInt8×Int:=
 if (way t y&&Jfr t xs)=true then (if y=1/\16<(Ym [] (Jz xs)).length then ([],2)else (Jav t y xs,0))else ([],1)
theorem Jo7 t y(h:way t y=true):y=0\/y=1\/y=2\/y=3:=by
 unfold way at h;simp at h;omega
