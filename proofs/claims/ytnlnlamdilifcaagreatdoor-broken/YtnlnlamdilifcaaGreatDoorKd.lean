/- errors.As, by Go's own text, at the errors that the program makes, at its targets. -/
import Derived.Test.YtnlnlamdilifcaaGreatDoorEt
import Derived.Test.YtnlnlamdilifcaaGreatDoorEs
set_option maxHeartbeats 8000000
set_option maxRecDepth 100000
namespace Go.Proofs.YtnlnlamdilifcaaGreatDoor
section
open Go.RowKit Go.Extern.Stop Go.Stop Go.Extern
theorem Ji9 t w:Cq 55 #[.nilIface,t] w fun e w'=>e=.returned (.bool false)/\w'=w:=by
 have y:=run_eql_nil_nil (P:=Tryz.prog) w 77 zK;go_enter Tryz.func55,Tryz.ntmps55
 go_wp2;go_ret
 exact⟨rfl,rfl⟩
theorem Jyl {B w t}y H v(I:B<=t.block)(K:B<=w.heap.size):Below B w (((w.alloc y).alloc H).setCell t v):=
 (((Oa5 B w).alloc K y).alloc zt H).setCell I v
theorem Kch {w:World}{t:Addr}{old:Value}(y H:Obj)(v:Value)(ht:w.cell? t=some old):(((w.alloc y).alloc H).setCell t v).cell? t=some v:=by
 have h:=Jm ht;exact World.cell?_setCell_same _ _ _ (u:=old) (by rw[Oe5 _ _ t zt,Oe5 _ _ t h];exact ht)
theorem Jpq {w:World}{t:Addr}{b k:Nat}{x:Value}(I K:Obj)(v:Value)(y:w.cell? (Ar b k)=some x)(H:b≠t.block):(((w.alloc I).alloc K).setCell t v).cell? (Ar b k)=some x:=by
 have h:=Jm y;simp only at h;rw[Ob5 _ _ _ _ (fun e=>H (by rw[e]) ),Oe5 _ _ ⟨b,k,none⟩ zt,Oe5 _ _ ⟨b,k,none⟩ h];exact y
theorem Jyv tg pt off(hT:IsT tg pt)v x t av old w B(h:∃ k,Qn w tg off k v x)(hv:w.cell? av=some (Po t))(ht:w.cell? t=some old)(hf:w.frozen? t=false)(hB:B<=t.block)(hBw:B<=w.heap.size)(hno:∀ b k y,w.cell? (Ar b k)=some (Iq y)->b≠t.block):
  Cq 79 #[v,.iface pt (Po t),.agg #[Pr 17 pt,Po av,.int .u64 150],.iface 216 (.agg #[Pr 17 tg])] w fun e w'=>Below B w w'/\((x=none/\e=.returned (.bool false)/\Bq w w')\/∃ b y,x=some y/\e=.returned (.bool true)/\w'.cell? t=some (Pq b)/\w'.cell? (Ar b off)=some (Iq y)):=by
 have hTO:=@run_callFunc_extern Tryz.prog 74 _ ReflectliteType.typeOf Tryz.func74 zK zK zK zK;have hAS := @run_callFunc_extern Tryz.prog 330 _ (ReflectliteType.relation "AssignableTo" ReflectliteType.assignableTo) Tryz.func330 (by kernel_rfl) (by kernel_rfl) (by kernel_rfl) (by kernel_rfl)
 have hVO:=@run_callFunc_extern Tryz.prog 76 _ (fun args=>ReflectliteValue.unpack (args.getD 0 (.tuple #[]))) Tryz.func76 zK zK zK zK;have hEL := @run_callFunc_extern Tryz.prog 102 _ (ReflectliteValue.method (ReflectliteValue.valueError "reflectlite.Value.Elem" 0) ReflectliteValue.elem) Tryz.func102 (by kernel_rfl) (by kernel_rfl) (by kernel_rfl) (by kernel_rfl)
 have hST:=@run_callFunc_extern Tryz.prog 103 _ ReflectliteValue.set Tryz.func103 zK zK zK zK;have mA:=Jsu;have HH:=zh h;obtain⟨ty0,x0,rfl⟩:∃ ty x,v=.iface ty x:=by obtain⟨_,hc⟩:=h;exact hc.iface
 have HNO:=zh hno;have HV:=zh hv;have HT:=zh ht;have HF:=zh hf;have hBW:=zh hBw;have hBT:=zh hB;clear h hno hv ht hf hB hBw;go_enter Tryz.func79,Tryz.ntmps79
 go_wp2_with fail
 obtain⟨k0,hk0⟩:=HH.out;go_loopg [0] k0 (fun k ev wr=>wr=w.alloc (.cells #[Pr 17 pt,Po av,.int .u64 150] 187)/\Qn w tg off k ev x)
 case atStart=>exact⟨rfl,hk0⟩
 case round=>
  obtain⟨hwr,hx⟩:=hrel;subst hwr;clear HH hk0;rcases gk with _|n
  ·rcases hx with⟨a,hev,hxx⟩|⟨b,y,hev,hxx,hy⟩
   ·subst hev hxx;have tO:=Jld;have aS:=hT.root;simp only[Asg]at aS;have nA:=Kb9;have uU:=Jmp;have nU:=Jhb;clear hT;go_wp2_with fail
    go_ret
    exact⟨(Oa5 B w).alloc hBW.out _,rfl,(Oa5 _ w).alloc (Oa2 _) _⟩
   subst hev hxx;have tO:=hT.typ;have aS:=hT.self;simp only[Asg]at aS;have vO:=hT.vT;have htl:t.block<w.heap.size:=Jm HT.out;have hvl:av.block<w.heap.size:=Jm HV.out;have eV:=hT.eV av t (w.alloc (.cells #[Pr 17 pt,Po av,.int .u64 150] 187)) (by rw[Oe5 _ _ _ hvl];exact HV.out);have sT:=hT.st t ⟨w.heap.size+1,0,none⟩ ⟨b,0,none⟩ old ((w.alloc (.cells #[Pr 17 pt,Po av,.int .u64 150] 187)).alloc (.cells #[Pq b] tg))
    (by rw[World.cell?_alloc_at _ _ _ _ zS];rfl)
    (by rw[Oe5 _ _ t zt,Oe5 _ _ t htl];exact HT.out)
    (by rw[World.frozen?_alloc_old _ _ t zt,World.frozen?_alloc_old _ _ t (Nat.ne_of_lt htl)];exact HF.out)
   clear hT;go_wp2_with fail
   go_ret
   exact⟨Jyl _ _ _ hBT.out hBW.out,.inr ⟨b,y,rfl,rfl,Kch _ _ _ HT.out,Jpq _ _ _ hy (HNO.out _ _ _ hy)⟩⟩
  obtain⟨ty,o,un,b,v,hW,hA,hev,hcell,hrest⟩:=hx;subst hev;have HR:=zh hrest;have HW:Hid (Cq un #[Pq b] (w.alloc (.cells #[Pr 17 pt,Po av,.int .u64 150] 187)) fun e w'=>e=.returned v/\w'=w.alloc (.cells #[Pr 17 pt,Po av,.int .u64 150] 187)):=
   hW.walk b v _ (by rw[Oe5 _ _ ⟨b,o,none⟩ (Jm hcell)];exact hcell)
  obtain⟨ty1,x1,rfl⟩:=hrest.iface;have tO:=hW.typ;have aS:=hA;simp only[Asg]at aS;have nA:=hW.noAs;have uU:=hW.unwrap;have mU:=hW.meth;have eN:=hW.enter;have hn1:=run_eql_held_nil (P:=Tryz.prog) (w.alloc (.cells #[Pr 17 pt,Po av,.int .u64 150] 187)) 77 ty1 x1 zK;clear hT hW hA hcell hrest;go_wp2_with fail
  refine HW.out.mono ?_;rintro e w' ⟨rfl,rfl⟩;go_wp2_with fail
  go_roundg n
  case measure=>exact On2 n
  case rel=>exact⟨by first|trivial|rfl,HR.out⟩
theorem Jgu tg pt off(hT:IsT tg pt)v c t w B(h:∃ k,Qn w tg off k v c)(hg:w.cell? (Aq 14)=some (.iface 216 (.agg #[Pr 17 77])))(ht:w.heap[t]?=some (.cells #[.pointer none] tg (0,0)))(hB:B<=t):
  Cq 55 #[v,.iface pt (Pq t)] w fun e w'=>Below B w w'/\((c=none/\e=.returned (.bool false)/\Bq w w')\/∃ b x,c=some x/\e=.returned (.bool true)/\w'.cell? (Aq t)=some (Pq b)/\w'.cell? (Ar b off)=some (Iq x)):=by
 have hTl:=Jd ht;have hWl:=Jm hg;simp only at hWl;have hVO:=@run_callFunc_extern Tryz.prog 76 _ (fun args=>ReflectliteValue.unpack (args.getD 0 (.tuple #[]))) Tryz.func76 zK zK zK zK;have hTY := @run_callFunc_extern Tryz.prog 77 _ (ReflectliteValue.methodAny (ReflectliteValue.valueError "reflectlite.Value.Type" 0) (fun t _ _ _ => ReflectliteType.toType t)) Tryz.func77 (by kernel_rfl) (by kernel_rfl) (by kernel_rfl) (by kernel_rfl)
 have hNI := @run_callFunc_extern Tryz.prog 78 _ (ReflectliteValue.method (ReflectliteValue.valueError "reflectlite.Value.IsNil" 0) ReflectliteValue.isNil) Tryz.func78 (by kernel_rfl) (by kernel_rfl) (by kernel_rfl) (by kernel_rfl)
 have hKI:=@run_callFunc_extern Tryz.prog 313 _ (ReflectliteType.abiMethod fun t=>do pure (.int .u8 (<-Rtype.kind t))) Tryz.func313 zK zK zK zK;have hEL:=@run_callFunc_extern Tryz.prog 332 _ (ReflectliteType.method ReflectliteType.elem) Tryz.func332 zK zK zK zK;have hIM := @run_callFunc_extern Tryz.prog 333 _ (ReflectliteType.relation "Implements" ReflectliteType.implements_) Tryz.func333 (by kernel_rfl) (by kernel_rfl) (by kernel_rfl) (by kernel_rfl)
 have f6:=hT.vP;have f7:=hT.tyP;have mK:=Kh9;have mE:=Kii;have mI:=Jr3;have k1:=hT.kP;have k2:=hT.kT;have e1:=hT.elP;have i1:=hT.imp;obtain⟨ty,x,rfl⟩:∃ ty x,v=.iface ty x:=by obtain⟨_,hc⟩:=h;exact hc.iface
 have n8:=hT.nilP ⟨w.heap.size,0,none⟩ ⟨t,0,none⟩ ((w.alloc (.cells #[Pq t] pt)).alloc (.cells #[Pr 17 pt,Pq w.heap.size,.int .u64 150] 187)) zS;have hg2:((w.alloc (.cells #[Pq t] pt)).alloc (.cells #[Pr 17 pt,Pq w.heap.size,.int .u64 150] 187)).cell? (Aq 14)=some (.iface 216 (.agg #[Pr 17 77])):=by
  rw[Oe5 _ _ ⟨14,0,none⟩ zt,Oe5 _ _ ⟨14,0,none⟩ hWl];exact hg
 have hba:Bq w ((w.alloc (.cells #[Pq t] pt)).alloc (.cells #[Pr 17 pt,Pq w.heap.size,.int .u64 150] 187)):=((Oa5 _ w).alloc (Oa2 _) _).alloc zS _;have ht2:((w.alloc (.cells #[Pq t] pt)).alloc (.cells #[Pr 17 pt,Pq w.heap.size,.int .u64 150] 187)).heap[t]?=some (.cells #[.pointer none] tg (0,0)):=by rw[hba.block t hTl];exact ht
 have hc:=Jyv tg pt off hT (.iface ty x) c ⟨t,0,none⟩ ⟨w.heap.size,0,none⟩ (.pointer none) ((w.alloc (.cells #[Pq t] pt)).alloc (.cells #[Pr 17 pt,Pq w.heap.size,.int .u64 150] 187)) B (by obtain⟨k,hh⟩:=h;exact⟨k,hh.stay hba⟩)
  (by rw[Oe5 _ _ ⟨w.heap.size,0,none⟩ zS];simp) (by simp[World.cell?,ht2]) (by simp[World.frozen?,ht2]) hB zt
  (fun b k y hy hbt=>by simp only at hbt;subst hbt;rcases k with _|k<;>simp[World.cell?,ht2]at hy)
 have hb0:=hba.mono (show B<=w.heap.size by omega);have HBA:=zh hba;clear ht2 hba h hT;go_enter Tryz.func55,Tryz.ntmps55
 go_wp2_with fail
 refine hc.mono ?_;rintro e w' ⟨hbw,⟨hn,rfl,hbm⟩|⟨b,y,hs,rfl,q1,q2⟩⟩
 ·have HBM:Hid (Bq w w'):=Jb HBA.out hbm;clear hbm;go_wp2_with fail
  go_ret
  exact⟨hb0.trans hbw,.inl ⟨hn,rfl,HBM.out⟩⟩
 go_wp2_with fail
 go_ret
 exact⟨hb0.trans hbw,.inr ⟨b,y,hs,rfl,q1,q2⟩⟩
end
section
open Go.RowKit Go.Extern.Stop Go.Stop Go.Extern Tryz
theorem zaD {p:Prop}(h:p:=by
 go_wp2_with fail
 refine(Ji9 _ _).mono ?_;rintro e w' ⟨rfl,rfl⟩;go_wp2_with fail
 go_ret
 exact⟨rfl,(Oa5 _ _).alloc (Oa2 _) _⟩):p:=h
theorem Jxf w:Cq 35 #[.nilIface] w fun e w'=>e=.returned iM /\Bq w w':=by
 go_enter func35,ntmps35
 exact zaD
theorem zau {p:Prop}(h:p:=by
 go_wp2_with fail
 refine I.mono ?_;rintro e w' ⟨H,⟨rfl,rfl,_⟩|⟨b,U,rfl,rfl,M,O⟩⟩
 ·go_wp2_with fail
  go_ret
  exact⟨rfl,y.trans H⟩
 go_wp2_with fail
 go_ret
 exact⟨rfl,y.trans H⟩):p:=h
theorem Jvx v x w(h:∃ k,Qn w 131 0 k v x)(K:w.cell? (Aq 14)=some (.iface 216 (.agg #[Pr 17 77]))):
  Cq 35 #[v] w fun e w'=>e=.returned (Iq (x.getD (-1)))/\Bq w w':=by
 have y:Bq w (w.alloc (.cells #[.pointer none] 131)):=(Oa5 _ w).alloc (Oa2 _) _;have I:=Jgu _ _ 0 Kdd v x w.heap.size (w.alloc (.cells #[.pointer none] 131)) w.heap.size (by obtain⟨k,hh⟩:=h;exact⟨k,hh.stay y⟩) (Ja y K) (heap_alloc_new _ _) (Oa2 _);clear h;go_enter func35,ntmps35
 exact zau
theorem zap {p:Prop}(h:p:=by
 go_wp2_with fail
 refine(Ji9 _ _).mono ?_;rintro e w' ⟨rfl,rfl⟩;go_wp2_with fail
 refine(Ji9 _ _).mono ?_;rintro e w' ⟨rfl,rfl⟩;go_wp2_with fail
 go_ret
 exact⟨rfl,((Oa5 _ _).alloc (Oa2 _) _).alloc zS _⟩):p:=h
theorem Jz5 w:Cq 36 #[.nilIface] w fun e w'=>e=.returned iM /\Bq w w':=by
 go_enter func36,ntmps36
 exact zap
theorem zae {p:Prop}(h:p:=by
 go_wp2_with fail
 refine bh.mono ?_;rintro e w' ⟨y,⟨rfl,rfl,K⟩|⟨b,z,rfl,rfl,br,bx⟩⟩
 ·obtain⟨bf,bk⟩:=M.out _ K;have Y:=zh bf;clear bf K y bh M;go_wp2_with fail
  refine bk.mono ?_;rintro e bz ⟨y,⟨rfl,rfl,K⟩|⟨b,z,rfl,rfl,br,bx⟩⟩
  ·clear K;go_wp2_with fail
   go_ret
   exact⟨rfl,Y.out.trans y⟩
  go_wp2_with fail
  go_ret
  exact⟨rfl,Y.out.trans y⟩
 clear M;go_wp2_with fail
 go_ret
 exact⟨rfl,I.trans y⟩):p:=h
theorem Kau v x H w(h:∃ k,Qn w 140 0 k v x)(Z:∃ k,Qn w 141 0 k v H)(U:w.cell? (Aq 14)=some (.iface 216 (.agg #[Pr 17 77]))):
  Cq 36 #[v] w fun e w'=>e=.returned (Iq ((x.or H).getD (-1)))/\Bq w w':=by
 have I:Bq w ((w.alloc (.cells #[.pointer none] 140)).alloc (.cells #[.pointer none] 141)):=((Oa5 _ w).alloc (Oa2 _) _).alloc zS _;have bi:((w.alloc (.cells #[.pointer none] 140)).alloc (.cells #[.pointer none] 141)).heap[w.heap.size]?=some (.cells #[.pointer none] 140 (0,0)):=by
  rw[((Oa5 _ (w.alloc (.cells #[.pointer none] 140))).alloc (Oa2 _) (.cells #[.pointer none] 141)).block _ zS];exact heap_alloc_new _ _
 have bj:((w.alloc (.cells #[.pointer none] 140)).alloc (.cells #[.pointer none] 141)).heap[w.heap.size+1]?=some (.cells #[.pointer none] 141 (0,0)):=by
  have:=heap_alloc_new (w.alloc (.cells #[.pointer none] 140)) (.cells #[.pointer none] 141);simpa using this
 have bh:=Jgu _ _ 0 Kea v x w.heap.size ((w.alloc (.cells #[.pointer none] 140)).alloc (.cells #[.pointer none] 141)) w.heap.size (by obtain⟨k,hh⟩:=h;exact⟨k,hh.stay I⟩) (Ja I U) bi (Oa2 _);have M:Hid (∀ W,Below ((w.alloc (.cells #[.pointer none] 140)).alloc (.cells #[.pointer none] 141)).heap.size ((w.alloc (.cells #[.pointer none] 140)).alloc (.cells #[.pointer none] 141)) W->Bq w W/\Cq 55 #[v,Ip 145 (w.heap.size+1)] W fun e w'=>Below w.heap.size W w'/\((H=none/\e=.returned (.bool false)/\Bq W w')\/∃ b z,H=some z/\e=.returned (.bool true)/\w'.cell? (Aq (w.heap.size+1))=some (Pq b)/\w'.cell? (Aq b)=some (Iq z))):=fun W hW=>by
  have O:=Jb I hW;exact⟨O,Jgu _ _ 0 Jx1 v H (w.heap.size+1) W w.heap.size (by obtain⟨k,hh⟩:=Z;exact⟨k,hh.stay O⟩) (Ja O U) (by rw[hW.block _ zS];exact bj) zo⟩
 clear h Z bi bj U;go_enter func36,ntmps36
 exact zae
theorem Jqq w:Cq 37 #[.nilIface] w fun e w'=>e=.returned iM /\Bq w w':=by
 go_enter func37,ntmps37
 exact zap
theorem Jqi v x H w(h:∃ k,Qn w 106 1 k v x)(Z:∃ k,Qn w 141 1 k v H)(U:w.cell? (Aq 14)=some (.iface 216 (.agg #[Pr 17 77]))):
  Cq 37 #[v] w fun e w'=>e=.returned (Iq ((x.or H).getD (-1)))/\Bq w w':=by
 have I:Bq w ((w.alloc (.cells #[.pointer none] 106)).alloc (.cells #[.pointer none] 141)):=((Oa5 _ w).alloc (Oa2 _) _).alloc zS _;have bi:((w.alloc (.cells #[.pointer none] 106)).alloc (.cells #[.pointer none] 141)).heap[w.heap.size]?=some (.cells #[.pointer none] 106 (0,0)):=by
  rw[((Oa5 _ (w.alloc (.cells #[.pointer none] 106))).alloc (Oa2 _) (.cells #[.pointer none] 141)).block _ zS];exact heap_alloc_new _ _
 have bj:((w.alloc (.cells #[.pointer none] 106)).alloc (.cells #[.pointer none] 141)).heap[w.heap.size+1]?=some (.cells #[.pointer none] 141 (0,0)):=by
  have:=heap_alloc_new (w.alloc (.cells #[.pointer none] 106)) (.cells #[.pointer none] 141);simpa using this
 have bh:=Jgu _ _ 1 Kf1 v x w.heap.size ((w.alloc (.cells #[.pointer none] 106)).alloc (.cells #[.pointer none] 141)) w.heap.size (by obtain⟨k,hh⟩:=h;exact⟨k,hh.stay I⟩) (Ja I U) bi (Oa2 _);have M:Hid (∀ W,Below ((w.alloc (.cells #[.pointer none] 106)).alloc (.cells #[.pointer none] 141)).heap.size ((w.alloc (.cells #[.pointer none] 106)).alloc (.cells #[.pointer none] 141)) W->Bq w W/\Cq 55 #[v,Ip 145 (w.heap.size+1)] W fun e w'=>Below w.heap.size W w'/\((H=none/\e=.returned (.bool false)/\Bq W w')\/∃ b z,H=some z/\e=.returned (.bool true)/\w'.cell? (Aq (w.heap.size+1))=some (Pq b)/\w'.cell? (Ar b 1)=some (Iq z))):=fun W hW=>by
  have O:=Jb I hW;exact⟨O,Jgu _ _ 1 Jx1 v H (w.heap.size+1) W w.heap.size (by obtain⟨k,hh⟩:=Z;exact⟨k,hh.stay O⟩) (Ja O U) (by rw[hW.block _ zS];exact bj) zo⟩
 clear h Z bi bj U;go_enter func37,ntmps37
 exact zae
theorem Jvp w:Cq 38 #[.nilIface] w fun e w'=>e=.returned iM /\Bq w w':=by
 go_enter func38,ntmps38
 exact zaD
theorem Jv7 v x w(h:∃ k,Qn w 149 1 k v x)(K:w.cell? (Aq 14)=some (.iface 216 (.agg #[Pr 17 77]))):
  Cq 38 #[v] w fun e w'=>e=.returned (Iq (x.getD (-1)))/\Bq w w':=by
 have y:Bq w (w.alloc (.cells #[.pointer none] 149)):=(Oa5 _ w).alloc (Oa2 _) _;have I:=Jgu _ _ 1 Kco v x w.heap.size (w.alloc (.cells #[.pointer none] 149)) w.heap.size (by obtain⟨k,hh⟩:=h;exact⟨k,hh.stay y⟩) (Ja y K) (heap_alloc_new _ _) (Oa2 _);clear h;go_enter func38,ntmps38
 exact zau
structure Jig (w:World) (l:List Addr) (dv ov gv mn:Addr):Prop where
 cd:w.cell? (Aq 10)=some (Ie 435 dv)
 co:w.cell? (Aq 11)=some (Ie 435 ov)
 cg:w.cell? (Aq 12)=some (Ie 435 gv)
 cm:w.cell? (Aq 13)=some (Ie 435 mn)
 bd:∃ c t,w.heap[dv.block]?=some (.cells c t (0,0))
 bo:∃ c t,w.heap[ov.block]?=some (.cells c t (0,0))
 bg:∃ c t,w.heap[gv.block]?=some (.cells c t (0,0))
 bm:∃ c t,w.heap[mn.block]?=some (.cells c t (0,0))
 nd:dv∉l
 no:ov∉dv::l
 ng:gv∉ov::dv::l
 nm:mn∉gv::ov::dv::l
structure Jhy (w:World) (l:List Addr) (pl ex:Addr):Prop where
 cp:w.cell? (Aq 8)=some (Ie 435 pl)
 ce:w.cell? (Aq 9)=some (Ie 435 ex)
 bp:∃ c t,w.heap[pl.block]?=some (.cells c t (0,0))
 be:∃ c t,w.heap[ex.block]?=some (.cells c t (0,0))
 np:pl∉l
 ne:ex∉l
 m3:∃ dv ov gv mn,Jig w (ex::pl::l) dv ov gv mn
structure Jkn (w:World) (a0 a1 a2 tt q wr pg:Addr):Prop where
 ct:w.cell? (Aq 1)=some (Ie 435 tt)
 cq:w.cell? (Aq 5)=some (Ie 435 q)
 cw:w.cell? (Aq 6)=some (Ie 435 wr)
 cp:w.cell? (Aq 7)=some (Ie 435 pg)
 et:w.cell? (Aq 14)=some (.iface 216 (.agg #[Pr 17 77]))
 bt:∃ c t,w.heap[tt.block]?=some (.cells c t (0,0))
 bq:∃ c t,w.heap[q.block]?=some (.cells c t (0,0))
 bw:∃ c t,w.heap[wr.block]?=some (.cells c t (0,0))
 bp:∃ c t,w.heap[pg.block]?=some (.cells c t (0,0))
 nd:[a0,a1,a2,tt,q,wr,pg].Nodup
 m2:∃ pl ex,Jhy w [a0,a1,a2,tt,q,wr,pg] pl ex
structure Jf0 (w:World) (a0 a1 a2:Addr):Prop where
 c0:w.cell? (Aq 15)=some (Ie 435 a0)
 c1:w.cell? (Aq 3)=some (Ie 435 a1)
 c2:w.cell? (Aq 4)=some (Ie 435 a2)
 b0:∃ c t,w.heap[a0.block]?=some (.cells c t (0,0))
 b1:∃ c t,w.heap[a1.block]?=some (.cells c t (0,0))
 b2:∃ c t,w.heap[a2.block]?=some (.cells c t (0,0))
 more:∃ tt q wr pg,Jkn w a0 a1 a2 tt q wr pg
theorem Kg {w w'}(hb:Bq w w'){k:Nat}(h:∃ c t,w.heap[k]?=some (.cells c t (0,0))):∃ c t,w'.heap[k]?=some (.cells c t (0,0)):=by
 obtain⟨c,t,h⟩:=h;exact⟨c,t,by rw[hb.block _ (Jd h)];exact h⟩
theorem Jig.below {w w'}{l:List Addr}{y H gv mn}(h:Jig w l y H gv mn)(hb:Bq w w'):Jig w' l y H gv mn:=
 ⟨Ja hb h.cd,Ja hb h.co,Ja hb h.cg,Ja hb h.cm,Kg hb h.bd,Kg hb h.bo,Kg hb h.bg,Kg hb h.bm,h.nd,h.no,h.ng,h.nm⟩
theorem Jhy.below {w w'}{l:List Addr}{pl ex}(h:Jhy w l pl ex)(hb:Bq w w'):Jhy w' l pl ex:=
 ⟨Ja hb h.cp,Ja hb h.ce,Kg hb h.bp,Kg hb h.be,h.np,h.ne,by obtain⟨y,I,gv,mn,H⟩:=h.m3;exact⟨y,I,gv,mn,H.below hb⟩⟩
theorem Jkn.below {w w' a0 a1 a2 y q wr pg}(h:Jkn w a0 a1 a2 y q wr pg)(hb:Bq w w'):Jkn w' a0 a1 a2 y q wr pg:=
 ⟨Ja hb h.ct,Ja hb h.cq,Ja hb h.cw,Ja hb h.cp,Ja hb h.et,Kg hb h.bt,Kg hb h.bq,Kg hb h.bw,Kg hb h.bp,h.nd,by obtain⟨pl,ex,H⟩:=h.m2;exact⟨pl,ex,H.below hb⟩⟩
theorem Jf0.below {w w' a0 a1 a2}(h:Jf0 w a0 a1 a2)(hb:Bq w w'):Jf0 w' a0 a1 a2:=by
 obtain⟨H,q,wr,pg,y⟩:=h.more;exact⟨Ja hb h.c0,Ja hb h.c1,Ja hb h.c2,Kg hb h.b0,Kg hb h.b1,Kg hb h.b2,H,q,wr,pg,y.below hb⟩
def Jdh (a1 a2 y q wr pg a:Addr):Int:=if a=a1 then 2 else if a=a2 then 3 else if a=y then 4 else if a=q then 5 else if a=wr then 6 else if a=pg then 7 else 1
def Jby (a1 a2 I q wr pg pl ex y H gv mn a:Addr):Int:=if a=a1 then 2 else if a=a2 then 3 else if a=I then 4 else if a=q then 5 else if a=wr then 6 else if a=pg then 7 else if a=pl then 8 else if a=ex then 8 else if a=y then 9 else if a=H then 10 else if a=gv then 10 else if a=mn then 11 else 1
theorem Jwm w:Cq 34 #[.nilIface] w fun e w'=>e=.returned iZ /\w'=w:=by
 have y:=run_eql_nil_nil (P:=prog) w 77 zK;go_enter func34,ntmps34
 go_wp2;go_ret
 exact⟨rfl,rfl⟩
theorem zaa {p:Prop}(h:p:=by
 have K:=H.out;rw[if_pos y]at K;subst K;rw[decide_eq_true y];clear y;go_wp2_with fail
 go_ret
 exact⟨rfl,rfl⟩):p:=h
theorem Ju5 v a w(h:∃ k,Zg w k v a)(hb:∃ c t,w.heap[a.block]?=some (.cells c t (0,0)))a0 a1 a2 O q wr pg pl ex Z bf gv mn(bi:Jf0 w a0 a1 a2)(Y:Jkn w a0 a1 a2 O q wr pg)(bh:Jhy w [a0,a1,a2,O,q,wr,pg] pl ex)(U:Jig w [ex,pl,a0,a1,a2,O,q,wr,pg] Z bf gv mn):
  Cq 34 #[v] w fun e w'=>e=.returned (Iq (Jby a1 a2 O q wr pg pl ex Z bf gv mn a))/\w'=w:=by
 obtain⟨ty,x,rfl⟩:∃ ty x,v=.iface ty x:=by obtain⟨_,bP⟩:=h;exact bP.iface
 have bQ:=run_eql_held_nil (P:=prog) w 77 ty x zK;have c1:=bi.c1;have c2:=bi.c2;have c3:=Y.ct;have c4:=Y.cq;have c5:=Y.cw;have bM:=Y.cp;have bN:=bh.cp;have c8:=bh.ce;have bO:=U.cd;have bJ:=U.co;have bK:=U.cg;have bL:=U.cm;have bj:=Jci _ a a1 w h hb bi.b1 (decide (a=a1)) zS;have bz:=Jci _ a a2 w h hb bi.b2 (decide (a=a2)) zS;have bA:=Jci _ a O w h hb Y.bt (decide (a=O)) zS;have bB:=Jci _ a q w h hb Y.bq (decide (a=q)) zS;have bC:=Jci _ a wr w h hb Y.bw (decide (a=wr)) zS;have bD:=Jci _ a pg w h hb Y.bp (decide (a=pg)) zS;have bE:=Jci _ a pl w h hb bh.bp (decide (a=pl)) zS;have bG:=Jci _ a ex w h hb bh.be (decide (a=ex)) zS;have bH:=Jci _ a Z w h hb U.bd (decide (a=Z)) zS;have bk:=Jci _ a bf w h hb U.bo (decide (a=bf)) zS;have br:=Jci _ a gv w h hb U.bg (decide (a=gv)) zS;have bx:=Jci _ a mn w h hb U.bm (decide (a=mn)) zS;clear h hb bi Y bh U;have H:Hid (Jby a1 a2 O q wr pg pl ex Z bf gv mn a=if a=a1 then 2 else if a=a2 then 3 else if a=O then 4 else if a=q then 5 else if a=wr then 6 else if a=pg then 7 else if a=pl then 8 else if a=ex then 8 else if a=Z then 9 else if a=bf then 10 else if a=gv then 10 else if a=mn then 11 else 1):=rfl;generalize Jby a1 a2 O q wr pg pl ex Z bf gv mn a=bI at *;go_enter func34,ntmps34
 go_wp2_with fail
 refine bj.mono ?_;rintro e w' ⟨rfl,M⟩;subst w';clear bj;by_cases y:a=a1
 ·exact zaa
 have I:=H.out;rw[if_neg y]at I;clear H;have H:=zh I;clear I;rw[decide_eq_false y];clear y c1;go_wp2_with fail
 refine bz.mono ?_;rintro e w' ⟨rfl,M⟩;subst w';clear bz;by_cases y:a=a2
 ·exact zaa
 have I:=H.out;rw[if_neg y]at I;clear H;have H:=zh I;clear I;rw[decide_eq_false y];clear y c2;go_wp2_with fail
 refine bA.mono ?_;rintro e w' ⟨rfl,M⟩;subst w';clear bA;by_cases y:a=O
 ·exact zaa
 have I:=H.out;rw[if_neg y]at I;clear H;have H:=zh I;clear I;rw[decide_eq_false y];clear y c3;go_wp2_with fail
 refine bB.mono ?_;rintro e w' ⟨rfl,M⟩;subst w';clear bB;by_cases y:a=q
 ·exact zaa
 have I:=H.out;rw[if_neg y]at I;clear H;have H:=zh I;clear I;rw[decide_eq_false y];clear y c4;go_wp2_with fail
 refine bC.mono ?_;rintro e w' ⟨rfl,M⟩;subst w';clear bC;by_cases y:a=wr
 ·exact zaa
 have I:=H.out;rw[if_neg y]at I;clear H;have H:=zh I;clear I;rw[decide_eq_false y];clear y c5;go_wp2_with fail
 refine bD.mono ?_;rintro e w' ⟨rfl,M⟩;subst w';clear bD;by_cases y:a=pg
 ·exact zaa
 have I:=H.out;rw[if_neg y]at I;clear H;have H:=zh I;clear I;rw[decide_eq_false y];clear y bM;go_wp2_with fail
 refine bE.mono ?_;rintro e w' ⟨rfl,M⟩;subst w';clear bE;by_cases y:a=pl
 ·exact zaa
 have I:=H.out;rw[if_neg y]at I;clear H;have H:=zh I;clear I;rw[decide_eq_false y];clear y bN;go_wp2_with fail
 refine bG.mono ?_;rintro e w' ⟨rfl,M⟩;subst w';clear bG;by_cases y:a=ex
 ·exact zaa
 have I:=H.out;rw[if_neg y]at I;clear H;have H:=zh I;clear I;rw[decide_eq_false y];clear y c8;go_wp2_with fail
 refine bH.mono ?_;rintro e w' ⟨rfl,M⟩;subst w';clear bH;by_cases y:a=Z
 ·exact zaa
 have I:=H.out;rw[if_neg y]at I;clear H;have H:=zh I;clear I;rw[decide_eq_false y];clear y bO;go_wp2_with fail
 refine bk.mono ?_;rintro e w' ⟨rfl,M⟩;subst w';clear bk;by_cases y:a=bf
 ·exact zaa
 have I:=H.out;rw[if_neg y]at I;clear H;have H:=zh I;clear I;rw[decide_eq_false y];clear y bJ;go_wp2_with fail
 refine br.mono ?_;rintro e w' ⟨rfl,M⟩;subst w';clear br;by_cases y:a=gv
 ·exact zaa
 have I:=H.out;rw[if_neg y]at I;clear H;have H:=zh I;clear I;rw[decide_eq_false y];clear y bK;go_wp2_with fail
 refine bx.mono ?_;rintro e w' ⟨rfl,M⟩;subst w';clear bx;by_cases y:a=mn
 ·exact zaa
 have I:=H.out;rw[if_neg y]at I;clear H;have H:=zh I;clear I;rw[decide_eq_false y];clear y bL;have K:bI=1:=H.out;subst K;go_wp2_with fail
 go_ret
 exact⟨rfl,rfl⟩
abbrev Ko (c nd row col pg:Int):Value:=.agg #[Iq c,Iq nd,Iq row,Iq col,Iq pg]
abbrev Jjp (c nd col pg:Int):Value:=Ko c nd (-1) col pg
abbrev Jbz (c col pg:Int):Value:=Jjp c (-1) col pg
theorem Jk {w:World}{b:Nat}{cs:Array Value}{t:TypeId}(h:w.heap[b]?=some (.cells cs t (0,0)))(o:Nat)(v:Value):(w.setCell (Ar b o) v).heap[b]?=some (.cells (cs.setIfInBounds o v) t (0,0)):=by
 simp[World.setCell,Array.getElem?_modify,h]
theorem Jl6 x c nd row col pg w(K:∀ W,Bq w W->Cq 34 #[x] W fun e w'=>e=.returned (Iq c)/\w'=W)(U:∀ W,Bq w W->Cq 35 #[x] W fun e w'=>e=.returned (Iq nd)/\Bq W w')(hR:∀ W,Bq w W->Cq 36 #[x] W fun e w'=>e=.returned (Iq row)/\Bq W w')(M:∀ W,Bq w W->Cq 37 #[x] W fun e w'=>e=.returned (Iq col)/\Bq W w')(O:∀ W,Bq w W->Cq 38 #[x] W fun e w'=>e=.returned (Iq pg)/\Bq W w'):
  Cq 24 #[x] w fun e w'=>e=.returned (Ko c nd row col pg)/\Bq w w':=by
 have bz:=zh K;have bC:=zh U;have bA:=zh M;have bB:=zh O;have bD:=zh hR;clear K M O U hR;have I:Bq w (w.alloc (.cells #[iZ,iZ,iZ,iZ,iZ] 39)):=(Oa5 _ _).alloc (Oa2 _) _;go_enter func24,ntmps24
 go_wp2_with fail
 refine(bz.out _ I).mono ?_;rintro e w' ⟨rfl,bM⟩;subst w';go_wp2_with fail
 refine(bC.out _ I).mono ?_;rintro e bS ⟨rfl,bj⟩;go_wp2_with fail
 have bh:=Jb I bj;refine(bD.out _ bh).mono ?_;rintro e bT ⟨rfl,bk⟩;go_wp2_with fail
 have bi:=Jb bh bk;refine(bA.out _ bi).mono ?_;rintro e w1 ⟨rfl,Y⟩;go_wp2_with fail
 have Z:=Jb bi Y;refine(bB.out _ Z).mono ?_;rintro e bx ⟨rfl,bf⟩;have bE:=Jb Z bf;have bG:=Jb bj (Jb bk (Jb Y bf));have y:bx.heap[w.heap.size]?=some (.cells #[iZ,iZ,iZ,iZ,iZ] 39 (0,0)):=by
  rw[bG.block _ zS];exact heap_alloc_new _ _
 have bN:=zc 0 y;have bO:=zc 1 y;have bP:=zc 2 y;have bQ:=zc 3 y;have bR:=zc 4 y;have H:∀ o,bx.frozen? ⟨w.heap.size,o,none⟩=false:=fun o=>by simp[World.frozen?,y]
 have bH:=H 0;have bI:=H 1;have bJ:=H 2;have bK:=H 3;have bL:=H 4;have br:=Jk (Jk (Jk (Jk (Jk y 0 (Iq c)) 1 (Iq nd)) 2 (Iq row)) 3 (Iq col)) 4 (Iq pg);simp only[Oa1,List.set_cons_zero,List.set_cons_succ]at br;clear y H;go_wp2;exact bodyPost_ret (v:=Ko c nd row col pg) (by simp[results,results24,go_sem,Ko,World.cell?,br]) rfl ⟨rfl,Um bE (Oa2 _) _ _ _ _ _⟩
theorem Jjq w:Cq 24 #[.nilIface] w fun e w'=>e=.returned (Jb6 0)/\Bq w w':=
 Jl6 .nilIface 0 (-1) (-1) (-1) (-1) w (fun W _=>Jwm W) (fun W _=>Jxf W) (fun W _=>Jz5 W) (fun W _=>Jqq W) (fun W _=>Jvp W)
theorem Jic v a n r c p g gc w(h:Jny w v a n r c p g gc)(hb:∃ c t,w.heap[a.block]?=some (.cells c t (0,0)))a0 a1 a2 H q wr pg pl ex I K gv mn(U:Jf0 w a0 a1 a2)(y:Jkn w a0 a1 a2 H q wr pg)(M:Jhy w [a0,a1,a2,H,q,wr,pg] pl ex)(O:Jig w [ex,pl,a0,a1,a2,H,q,wr,pg] I K gv mn):
  Cq 24 #[v] w fun e w'=>e=.returned (Ko (Jby a1 a2 H q wr pg pl ex I K gv mn a) (n.getD (-1)) ((r.or g).getD (-1)) ((c.or gc).getD (-1)) (p.getD (-1)))/\Bq w w':=
 Jl6 v _ _ _ _ _ w (fun W hW=>Ju5 v a W (h.below hW).r (Kg hW hb) a0 a1 a2 H q wr pg pl ex I K gv mn (U.below hW) (y.below hW) (M.below hW) (O.below hW)) (fun W hW=>Jvx v n W (h.below hW).n (y.below hW).et) (fun W hW=>Kau v r g W (h.below hW).x (h.below hW).g (y.below hW).et) (fun W hW=>Jqi v c gc W (h.below hW).c (h.below hW).gc (y.below hW).et) (fun W hW=>Jv7 v p W (h.below hW).p (y.below hW).et)
theorem Jt1 {a1 a2 I q wr pg pl ex y H gv mn a}(h:a∉[pl,ex,y,H,gv,mn]):Jby a1 a2 I q wr pg pl ex y H gv mn a=Jdh a1 a2 I q wr pg a:=by
 simp only[Of1,Oi0,or_false,not_or]at h;simp only[Jby,Jdh,if_neg h.1,if_neg h.2.1,if_neg h.2.2.1,if_neg h.2.2.2.1,if_neg h.2.2.2.2.1,if_neg h.2.2.2.2.2]
theorem Jj9 v a c p w(h:Yu w v a c p)(hb:∃ c t,w.heap[a.block]?=some (.cells c t (0,0)))a0 a1 a2 I q wr pg(hi:a∈[a0,a1,a2,I,q,wr,pg])(Y:Jf0 w a0 a1 a2)(M:Jkn w a0 a1 a2 I q wr pg):
  Cq 24 #[v] w fun e w'=>e=.returned (Jbz (Jdh a1 a2 I q wr pg a) (c.getD (-1)) (p.getD (-1)))/\Bq w w':=by
 obtain⟨pl,ex,H⟩:=M.m2;obtain⟨K,O,gv,mn,y⟩:=H.m3;have:=Jic v a none none c p none none w h.errV hb a0 a1 a2 I q wr pg pl ex K O gv mn Y M H y;have hp:a≠pl:=fun e=>H.np (by rw[<-e];exact hi);have bf:a≠ex:=fun e=>H.ne (by rw[<-e];exact hi);have U:a≠K:=fun e=>y.nd (by rw[<-e];exact .tail _ (.tail _ hi));have ho:a≠O:=fun e=>y.no (by rw[<-e];exact .tail _ (.tail _ (.tail _ hi)));have Z:a≠gv:=fun e=>y.ng (by rw[<-e];exact .tail _ (.tail _ (.tail _ (.tail _ hi))));have hq:a≠mn:=fun e=>y.nm (by rw[<-e];exact .tail _ (.tail _ (.tail _ (.tail _ (.tail _ hi)))));rw[Jt1 (by simp[hp,bf,U,ho,Z,hq])]at this;simpa using this
theorem Jim {w a0 a1 a2 y q wr pg}(H:Jkn w a0 a1 a2 y q wr pg):
  Jdh a1 a2 y q wr pg a0=1/\Jdh a1 a2 y q wr pg a1=2/\Jdh a1 a2 y q wr pg a2=3/\Jdh a1 a2 y q wr pg y=4/\Jdh a1 a2 y q wr pg q=5/\Jdh a1 a2 y q wr pg wr=6/\Jdh a1 a2 y q wr pg pg=7:=by
 have h:=H.nd;simp only[Og0,Of1,Oi0,or_false,not_or]at h;obtain⟨⟨I,K,M,O,U,Y⟩,⟨Z,bf,bh,bi,bj⟩,⟨bk,br,bx,bz⟩,⟨bA,bB,bC⟩,⟨bD,bE⟩,bG,_⟩:=h;refine⟨?_,?_,?_,?_,?_,?_,?_⟩<;>simp only[Jdh]<;>(repeat' split)<;>simp_all
end
open Go.RowKit Tryz
theorem Jvw:(prog.info? 203).map (fun i=>i.size)=some 1:=zK
theorem Jbb y x1 x2 H w:
  (Instr.index 204 (.agg #[y,x1,x2,H]) iZ).run prog w=.ok y w /\
  (Instr.index 204 (.agg #[y,x1,x2,H]) (Iq 1)).run prog w=.ok x1 w /\
  (Instr.index 204 (.agg #[y,x1,x2,H]) (Iq 2)).run prog w=.ok x2 w /\
  (Instr.index 204 (.agg #[y,x1,x2,H]) (Iq 3)).run prog w=.ok H w:=by
 obtain⟨i,hi,hs⟩:=Oe9.1 Jvw;refine⟨?_,?_,?_,?_⟩<;>simp[Instr.index,run_underlying underlying204,run_underlying underlying203,asIntOf,part,isAgg,sizeOf,typeInfo,hi,hs]
def Jdq (t:Int)(xs:List V):Prop:=xs.length<=64/\∀ j (y:j<xs.length),okB t xs[j].k xs[j].n xs[j].s=true
def Jdt (t y:Int)(l:List V):List UInt8:=
 if y=0 then Yv l else if y=1 then Jds l else if y=2 then Yc l else Zz t l
def Jav (t y:Int)(xs:List V):List UInt8:=Kz t y xs++Jdt t y (Jz xs)
theorem Jgz t xs(h:Jdq t xs):∀ v∈Jz xs,good v.k v.s:=by
 intro v hv;obtain⟨I,H⟩:=Om0.1 hv;obtain⟨j,y,rfl⟩:=Od5 I;have:=h.2 j y;unfold okB okK at this;simp at this H;unfold good;omega
theorem Jkz (w:World)(B:Nat)(t:Int)(y:B<=w.heap.size):WAt (w.alloc (.cells #[Iq t,Sz] 201)) B w.heap.size t []:=
 ⟨y,Sz,heap_alloc_new _ _,Jo.nil _ _ _,by simp[Value.ownBlock]⟩
theorem Jgw (w:World)(t:Int){k:Nat}(y:k<w.heap.size):Ya (w.alloc (.cells #[Iq t,Sz] 201)) w.heap.size k:=by
 refine⟨by simp;omega,zo,fun sv hs=>?_⟩;have:sv=Sz:=by simpa using hs.symm
 subst this;simp[Value.ownBlock]
theorem Jdw {w w' B g t bs}(h:WAt w B g t bs)(y:Ky w w' g)w0(I:B=w0.heap.size)(h0:Bq w0 w):Bq w0 w':=by
 refine⟨y.os.trans h0.os,y.tape.trans h0.tape,y.output.trans h0.output,Ob2 h0.size y.size,fun k H=>?_⟩;have hs:=h0.size;rw[(y.block k (h.apart zo zo)).1,h0.block k H]
theorem Jzl t H a cap xs w(Y:xs.length<=maxLen)(bf:Jv w a xs)y(I:w.cell? (Aq 15)=some y)(M:¬ (way t H=true/\Jdq t xs)):
  Cq 62 #[Iq t,Iq H,.slice a xs.length cap] w fun e w'=>e=.returned (.tuple #[.string (Qw []),y])/\Bq w w':=by
 cases hway:way t H
 ·go_enter func62,ntmps62
  go_wp2_with (go_at_call 58;refine(Ja3 _ _ _).mono ?_;rintro e w' ⟨rfl,Z⟩;rw[hway];subst w')
  go_quiet (fail)
  go_wp2;go_ret2
  exact⟨rfl,Jp (Oa5 _ _) _⟩
 have hb:¬ Jdq t xs:=fun h=>M ⟨hway,h⟩;have U:Hid (false=true↔xs.length<=64/\∀ j (bi:j<xs.length),okB t xs[j].k xs[j].n xs[j].s=true):=⟨fun h=>by simp at h,fun h=>absurd h hb⟩;clear M hb;have O:=Jm I;simp only at O;go_enter func62,ntmps62
 go_wp2_with (first
  |(go_at_call 58;refine(Ja3 _ _ _).mono ?_;rintro e w' ⟨rfl,Z⟩;rw[hway];subst w')
  |(go_at_call 83;refine(Zl t a cap xs _ Y bf false U.out).mono ?_;rintro e w1 ⟨rfl,K⟩;have bh:w1.cell? (Aq 15)=some y:=(by rw[(Kx K).1 15 0 O];exact I)))
 go_quiet (fail)
 go_wp2;go_ret2
 exact⟨rfl,Jp K _⟩
theorem Jvu t a cap xs w(bi:xs.length<=maxLen)(U:Jv w a xs)y(H:w.cell? (Aq 3)=some y)(bx:way t 1=true)(O:Jdq t xs)(bE:16<(Ym [] (Jz xs)).length):
  Cq 62 #[Iq t,Iq 1,.slice a xs.length cap] w fun e w'=>e=.returned (.tuple #[.string (Qw []),y])/\Bq w w':=by
 have M:=Jm H;simp only at M;have Z:=O.1;have bH:=Zy xs;go_enter func62,ntmps62
 go_wp2_with fail
 refine(Ja3 _ _ _).mono ?_;rintro e w' ⟨rfl,bJ⟩;rw[bx];subst w';go_wp2_with fail
 refine(Zl t a cap xs _ bi U true ⟨fun _=>O,fun _=>rfl⟩).mono ?_;rintro e w1 ⟨rfl,I⟩;go_wp2_with fail
 refine(Yr a cap xs w1 Z (U.below I)).mono ?_;rintro e bz ⟨bK,rfl,bj,bf⟩;obtain⟨a2,Y,rfl,br⟩:=bj.vals;generalize Jz xs=hl at *;go_wp2_with fail
 refine(Jd8 a2 Y hl bz zo br).mono ?_;rintro e bA ⟨bL,rfl,bk,bh⟩;obtain⟨bB,bC,rfl,bI⟩:=bk.vals;have K:=Jb I (Jb bf bh);have bD:bA.cell? (Aq 3)=some y:=by rw[(Kx K).1 3 0 M];exact H
 have bG:(16:Int)<((Ym [] hl).length:Int):=zo;generalize Ym [] hl=d at *;go_wp2;go_quiet (fail)
 go_wp2;go_ret2
 exact⟨rfl,Jp K _⟩
theorem Jiv {w B g t bs}(h:WAt w B g t bs)(M:bs≠[]){sv}(I:w.cell? (Ar g 1)=some sv):(convert 199 9 sv).run prog w=.ok (.string (Qw bs)) w:=by
 obtain⟨sv',_,H,_,ho,_⟩:=h.cells;rw[I]at H;cases H
 obtain⟨a,cap,rfl,y⟩:=ho.cells;rw[Oa6];rcases y with y|⟨b,o,rfl,_,y⟩
 ·exact absurd (List.map_eq_nil_iff.1 y) M
 refine Jc6 w ⟨b,o,none⟩ cap bs fun j u K=>?_;rw[Addr.add_mid];exact y j u K
theorem Yt.cap {w B a n c vs}(h:Yt w B (.slice a n c) vs):vs.length<=c:=by
 rcases h.2 with⟨_,h0⟩|⟨g,cap,y,hv,_,_,H,_⟩
 ·omega
 injection hv with _ _ h3;omega
theorem Jtj t a cap xs w(bT:xs.length<=maxLen)(Y:Jv w a xs)(bZ:way t 0=true)(O:Jdq t xs):
  Cq 62 #[Iq t,iZ,.slice a xs.length cap] w fun e w'=>e=.returned (.tuple #[.string (Qw (Jav t 0 xs)),.nilIface])/\Bq w w':=by
 have Z:=O.1;have cn:=Zy xs;have bO:=Jgz t xs O;have bC:Hid (Jav t 0 xs=Kz t 0 xs++Yv (Jz xs)):=rfl;have cj:(Kz t 0 xs).length<=1000:=by unfold Kz;rw[Oa8,Qb,Oa6];simp only[List.length_cons,List.length_nil];omega
 have bP:Kz t 0 xs≠[]:=by simp[Kz]
 go_enter func62,ntmps62
 go_wp2_with fail
 refine(Ja3 _ _ _).mono ?_;rintro e w' ⟨rfl,cx⟩;rw[bZ];subst w';go_wp2_with fail
 refine(Zl t a cap xs _ bT Y true ⟨fun _=>O,fun _=>rfl⟩).mono ?_;rintro e w1 ⟨rfl,bh⟩;go_wp2_with fail
 refine(Yr a cap xs w1 Z (Y.below bh)).mono ?_;rintro e y ⟨cz,rfl,U,bI⟩;have bK:=fun b hb=>Je U (g:=b) hb;obtain⟨a2,bD,rfl,bV⟩:=U.vals;clear U;generalize Jz xs=hl at *;have bi:=Jb bh bI;have bA:=Y.below bi;have cv:y.heap.size<=y.heap.size:=Oa2 _;have bj:=bi;go_wp2_with fail
 have br:=Jkz y w.heap.size t bj.size;have I:∀ k,k<y.heap.size->Ya (y.alloc (.cells #[Iq t,Sz] 201)) y.heap.size k:=fun k bQ=>Jgw y t bQ;have H:Bq y (y.alloc (.cells #[Iq t,Sz] 201)):=(Oa5 _ _).alloc (Oa2 _) _;have ca:=bA.below H;have bW:=bV.below H;have bJ:=Jb bj H;have bf:∀ b o,a2=some (Ar b o)->Ya (y.alloc (.cells #[Iq t,Sz] 201)) y.heap.size b:=by
  intro b o K;subst K;have:=bK b rfl;exact I b zo
 have bH:xs≠[]->∀ b o,a=some (Ar b o)->Ya (y.alloc (.cells #[Iq t,Sz] 201)) y.heap.size b:=by
  intro bU b o K;rcases bA with h|⟨cf,cy,e,hb,_⟩
  ·exact absurd h bU
  rw[K]at e;cases e;exact I b hb
 generalize bE:y.alloc (.cells #[Iq t,Sz] 201)=cb at *;generalize bN:y.heap.size=g at *;clear bE I H bN;refine(Jg0 w.heap.size g t 0 a cap xs cb br Z ca bH).mono ?_;rintro e cc ⟨rfl,bx,bR⟩;go_wp2_with fail
 refine(Jgs g cc).mono ?_;rintro e bB ⟨rfl,bk⟩;have bY:=bx.below bk;have M:=bR.trans (Ky.of_below bk bx.lt);have bX:=Zk bW M bf;have bG:=Jde M bf;have cu:=(Jbb (.func (.func 108) #[Pq g] #[]) (.func (.func 109) #[Pq g] #[]) (.func (.func 110) #[Pq g] #[]) (.func (.func 111) #[Pq g] #[]) bB).1;generalize Kz t 0 xs=ci at *;go_wp2_with fail
 refine(Jk4 w.heap.size g t a2 bD hl _ bB bY zo zo bO bX bG).mono ?_;rintro e cB ⟨rfl,bz,bS⟩;obtain⟨cA,c0,c1,_,_,_⟩:=bz.cells;have bL:=Jiv bz (by simp[bP]) c1;have bM:=Jdw br (M.trans bS) w rfl bJ;rw[<-bC.out]at bL;go_wp2;go_ret2
 exact⟨rfl,bM⟩
theorem Jja t a cap xs w(bW:xs.length<=maxLen)(bh:Jv w a xs)(cc:way t 1=true)(Z:Jdq t xs)(cy:(Ym [] (Jz xs)).length<=16):
  Cq 62 #[Iq t,Iq 1,.slice a xs.length cap] w fun e w'=>e=.returned (.tuple #[.string (Qw (Jav t 1 xs)),.nilIface])/\Bq w w':=by
 have bj:=Z.1;have cB:=Zy xs;have bQ:=Jgz t xs Z;have bG:Hid (Jav t 1 xs=Kz t 1 xs++Jds (Jz xs)):=rfl;have bR:(Kz t 1 xs).length<=1000:=by unfold Kz;rw[Oa8,Qb,Oa6];simp only[List.length_cons,List.length_nil];omega
 have bS:Kz t 1 xs≠[]:=by simp[Kz]
 go_enter func62,ntmps62
 go_wp2_with fail
 refine(Ja3 _ _ _).mono ?_;rintro e w' ⟨rfl,cE⟩;rw[cc];subst w';go_wp2_with fail
 refine(Zl t a cap xs _ bW bh true ⟨fun _=>Z,fun _=>rfl⟩).mono ?_;rintro e w1 ⟨rfl,br⟩;go_wp2_with fail
 refine(Yr a cap xs w1 bj (bh.below br)).mono ?_;rintro e ci ⟨cG,rfl,bf,bK⟩;have bM:=fun b hb=>Je bf (g:=b) hb;obtain⟨a2,bi,rfl,K⟩:=bf.vals;clear bf;generalize Jz xs=hl at *;have bx:=Jb br bK;have M:=bh.below bx;go_wp2_with fail
 refine(Jd8 a2 bi hl ci zo K).mono ?_;rintro e y ⟨cH,rfl,bY,H⟩;obtain⟨cu,cx,rfl,_⟩:=bY.vals;have cz:((Ym [] hl).length:Int)<=(16:Int):=zo;have cD:=H.size;have bz:=Jb bx H;replace M:=M.below H;replace K:=K.below H;go_wp2_with fail
 have bB:=Jkz y w.heap.size t bz.size;have O:∀ k,k<y.heap.size->Ya (y.alloc (.cells #[Iq t,Sz] 201)) y.heap.size k:=fun k bT=>Jgw y t bT;have I:Bq y (y.alloc (.cells #[Iq t,Sz] 201)):=(Oa5 _ _).alloc (Oa2 _) _;have cf:=M.below I;have bZ:=K.below I;have bL:=Jb bz I;have bk:∀ b o,a2=some (Ar b o)->Ya (y.alloc (.cells #[Iq t,Sz] 201)) y.heap.size b:=by
  intro b o U;subst U;have:=bM b rfl;exact O b zo
 have bJ:xs≠[]->∀ b o,a=some (Ar b o)->Ya (y.alloc (.cells #[Iq t,Sz] 201)) y.heap.size b:=by
  intro bX b o U;rcases M with h|⟨cv,cF,e,hb,_⟩
  ·exact absurd h bX
  rw[U]at e;cases e;exact O b hb
 generalize bH:y.alloc (.cells #[Iq t,Sz] 201)=cj at *;generalize bP:y.heap.size=g at *;clear bH O I bP;refine(Jg0 w.heap.size g t 1 a cap xs cj bB bj cf bJ).mono ?_;rintro e cn ⟨rfl,bC,bU⟩;go_wp2_with fail
 refine(Jgs g cn).mono ?_;rintro e bE ⟨rfl,bA⟩;have cb:=bC.below bA;have Y:=bU.trans (Ky.of_below bA bC.lt);have ca:=Zk bZ Y bk;have bI:=Jde Y bk;have cC:=(Jbb (.func (.func 108) #[Pq g] #[]) (.func (.func 109) #[Pq g] #[]) (.func (.func 110) #[Pq g] #[]) (.func (.func 111) #[Pq g] #[]) bE).2.1;generalize Kz t 1 xs=cA at *;go_wp2_with fail
 refine(Jki w.heap.size g t a2 bi hl _ bE cb bR zo bQ ca bI).mono ?_;rintro e cJ ⟨rfl,bD,bV⟩;obtain⟨cI,c0,c1,_,_,_⟩:=bD.cells;have bN:=Jiv bD (by simp[bS]) c1;have bO:=Jdw bB (Y.trans bV) w rfl bL;rw[<-bG.out]at bN;go_wp2;go_ret2
 exact⟨rfl,bO⟩
theorem Jtt t a cap xs w(bU:xs.length<=maxLen)(Y:Jv w a xs)(ca:way t 2=true)(U:Jdq t xs):
  Cq 62 #[Iq t,Iq 2,.slice a xs.length cap] w fun e w'=>e=.returned (.tuple #[.string (Qw (Jav t 2 xs)),.nilIface])/\Bq w w':=by
 have Z:=U.1;have cu:=Zy xs;have bP:=Jgz t xs U;have bC:Hid (Jav t 2 xs=Kz t 2 xs++Yc (Jz xs)):=rfl;have cn:(Kz t 2 xs).length<=1000:=by unfold Kz;rw[Oa8,Qb,Oa6];simp only[List.length_cons,List.length_nil];omega
 have bQ:Kz t 2 xs≠[]:=by simp[Kz]
 go_enter func62,ntmps62
 go_wp2_with fail
 refine(Ja3 _ _ _).mono ?_;rintro e w' ⟨rfl,cy⟩;rw[ca];subst w';go_wp2_with fail
 refine(Zl t a cap xs _ bU Y true ⟨fun _=>U,fun _=>rfl⟩).mono ?_;rintro e w1 ⟨rfl,bh⟩;go_wp2_with fail
 refine(Yr a cap xs w1 Z (Y.below bh)).mono ?_;rintro e y ⟨cA,rfl,I,bI⟩;have bK:=fun b hb=>Je I (g:=b) hb;obtain⟨a2,bD,rfl,bW⟩:=I.vals;have bL:=I.cap;clear I;generalize Jz xs=hl at *;have bi:=Jb bh bI;have bA:=Y.below bi;have cx:y.heap.size<=y.heap.size:=Oa2 _;have bj:=bi;go_wp2_with fail
 have br:=Jkz y w.heap.size t bj.size;have K:∀ k,k<y.heap.size->Ya (y.alloc (.cells #[Iq t,Sz] 201)) y.heap.size k:=fun k bR=>Jgw y t bR;have H:Bq y (y.alloc (.cells #[Iq t,Sz] 201)):=(Oa5 _ _).alloc (Oa2 _) _;have cb:=bA.below H;have bX:=bW.below H;have bJ:=Jb bj H;have bf:∀ b o,a2=some (Ar b o)->Ya (y.alloc (.cells #[Iq t,Sz] 201)) y.heap.size b:=by
  intro b o M;subst M;have:=bK b rfl;exact K b zo
 have bH:xs≠[]->∀ b o,a=some (Ar b o)->Ya (y.alloc (.cells #[Iq t,Sz] 201)) y.heap.size b:=by
  intro bV b o M;rcases bA with h|⟨ci,cz,e,hb,_⟩
  ·exact absurd h bV
  rw[M]at e;cases e;exact K b hb
 generalize bE:y.alloc (.cells #[Iq t,Sz] 201)=cc at *;generalize bO:y.heap.size=g at *;clear bE K H bO;refine(Jg0 w.heap.size g t 2 a cap xs cc br Z cb bH).mono ?_;rintro e cf ⟨rfl,bx,bS⟩;go_wp2_with fail
 refine(Jgs g cf).mono ?_;rintro e bB ⟨rfl,bk⟩;have bZ:=bx.below bk;have O:=bS.trans (Ky.of_below bk bx.lt);have bY:=Zk bX O bf;have bG:=Jde O bf;have cv:=(Jbb (.func (.func 108) #[Pq g] #[]) (.func (.func 109) #[Pq g] #[]) (.func (.func 110) #[Pq g] #[]) (.func (.func 111) #[Pq g] #[]) bB).2.2.1;generalize Kz t 2 xs=cj at *;go_wp2_with fail
 refine(Jz0 w.heap.size g t a2 bD hl _ bB bZ zo zo bL bP bY bG).mono ?_;rintro e cC ⟨rfl,bz,bT⟩;obtain⟨cB,c0,c1,_,_,_⟩:=bz.cells;have bM:=Jiv bz (by simp[bQ]) c1;have bN:=Jdw br (O.trans bT) w rfl bJ;rw[<-bC.out]at bM;go_wp2;go_ret2
 exact⟨rfl,bN⟩
theorem Jp7 t a cap xs w(bS:xs.length<=maxLen)(O:Jv w a xs)(bY:way t 3=true)(bj:Jdq t xs):
  Cq 62 #[Iq t,Iq 3,.slice a xs.length cap] w fun e w'=>e=.returned (.tuple #[.string (Qw (Jav t 3 xs)),.nilIface])/\Bq w w':=by
 have U:=bj.1;have ci:=Zy xs;have bB:Hid (Jav t 3 xs=Kz t 3 xs++Zz t (Jz xs)):=rfl;have bN:(Kz t 3 xs).length<=1000:=by unfold Kz;rw[Oa8,Qb,Oa6];simp only[List.length_cons,List.length_nil];omega
 have bO:Kz t 3 xs≠[]:=by simp[Kz]
 go_enter func62,ntmps62
 go_wp2_with fail
 refine(Ja3 _ _ _).mono ?_;rintro e w' ⟨rfl,cu⟩;rw[bY];subst w';go_wp2_with fail
 refine(Zl t a cap xs _ bS O true ⟨fun _=>bj,fun _=>rfl⟩).mono ?_;rintro e w1 ⟨rfl,Y⟩;go_wp2_with fail
 refine(Yr a cap xs w1 U (O.below Y)).mono ?_;rintro e y ⟨cx,rfl,M,bH⟩;have bJ:=fun b hb=>Je M (g:=b) hb;obtain⟨a2,bC,rfl,bU⟩:=M.vals;clear M;generalize Jz xs=hl at *;have Z:=Jb Y bH;have bz:=O.below Z;have cn:y.heap.size<=y.heap.size:=Oa2 _;have bf:=Z;go_wp2_with fail
 have bk:=Jkz y w.heap.size t bf.size;have I:∀ k,k<y.heap.size->Ya (y.alloc (.cells #[Iq t,Sz] 201)) y.heap.size k:=fun k bP=>Jgw y t bP;have H:Bq y (y.alloc (.cells #[Iq t,Sz] 201)):=(Oa5 _ _).alloc (Oa2 _) _;have bZ:=bz.below H;have bV:=bU.below H;have bI:=Jb bf H;have bE:∀ b o,a2=some (Ar b o)->Ya (y.alloc (.cells #[Iq t,Sz] 201)) y.heap.size b:=by
  intro b o K;subst K;have:=bJ b rfl;exact I b zo
 have bG:xs≠[]->∀ b o,a=some (Ar b o)->Ya (y.alloc (.cells #[Iq t,Sz] 201)) y.heap.size b:=by
  intro bT b o K;rcases bz with h|⟨cc,cv,e,hb,_⟩
  ·exact absurd h bT
  rw[K]at e;cases e;exact I b hb
 generalize bD:y.alloc (.cells #[Iq t,Sz] 201)=ca at *;generalize bM:y.heap.size=g at *;clear bD I H bM;refine(Jg0 w.heap.size g t 3 a cap xs ca bk U bZ bG).mono ?_;rintro e cb ⟨rfl,br,bQ⟩;go_wp2_with fail
 refine(Jgs g cb).mono ?_;rintro e bA ⟨rfl,bh⟩;have bX:=br.below bh;have bi:=bQ.trans (Ky.of_below bh br.lt);have bW:=Zk bV bi bE;have cj:=(Jbb (.func (.func 108) #[Pq g] #[]) (.func (.func 109) #[Pq g] #[]) (.func (.func 110) #[Pq g] #[]) (.func (.func 111) #[Pq g] #[]) bA).2.2.2;generalize Kz t 3 xs=cf at *;go_wp2_with fail
 refine(Jq7 w.heap.size g t a2 bC hl _ bA bX bN zo bW).mono ?_;rintro e cz ⟨rfl,bx,bR⟩;obtain⟨cy,c0,c1,_,_,_⟩:=bx.cells;have bK:=Jiv bx (by simp[bO]) c1;have bL:=Jdw bk (bi.trans bR) w rfl bI;rw[<-bB.out]at bK;go_wp2;go_ret2
 exact⟨rfl,bL⟩
def Jfr (t:Int)(xs:List V):Bool:=decide (xs.length<=64)&&xs.all fun v=>okB t v.k v.n v.s
theorem Jfd t xs:Jfr t xs=true↔Jdq t xs:=by
 unfold Jfr Jdq;rw[Og5,decide_eq_true_eq,List.all_eq_true];constructor
 ·intro h;exact⟨h.1,fun j y=>h.2 _ (Ob3 y)⟩
 intro h;refine⟨h.1,fun v hv=>?_⟩;obtain⟨j,y,rfl⟩:=Od5 hv;exact h.2 j y
def Jev (t y:Int)(xs:List V):List UInt8×Int:=
 if (way t y&&Jfr t xs)=true then (if y=1/\16<(Ym [] (Jz xs)).length then ([],2)else (Jav t y xs,0))else ([],1)
theorem Jo7 t y(h:way t y=true):y=0\/y=1\/y=2\/y=3:=by
 unfold way at h;simp at h;omega
