/- A Join: its kinds as functions; the columns of its keys on both sides. -/
import Derived.Test.YtpchafocmlhmbaaGreatDoorJl
import Derived.Laws.EntriesVeiled
set_option maxHeartbeats 1000000
set_option maxRecDepth 100000
namespace Go.Proofs.YtpchafocmlhmbaaGreatDoor
open Go.RowKit Go.Shelf Go.Maps Tryz
attribute [local go_sem] Oc0
def Kt5 (jb:Nat):Value:=.agg #[.func (.func 186) #[.pointer (some ⟨jb,0,none⟩)] #[],.func (.func 187) #[.pointer (some ⟨jb,0,none⟩)] #[],.func (.func 188) #[.pointer (some ⟨jb,0,none⟩)] #[],.func (.func 189) #[.pointer (some ⟨jb,0,none⟩)] #[]]
theorem Kvp (jb:Nat)(w:World):Calls prog 143 #[.pointer (some ⟨jb,0,none⟩)] w fun e w'=>e=.returned (Kt5 jb)∧Below w.heap.size w w':=by
 have O:Below w.heap.size w (w.alloc (.cells #[.nilFunc,.nilFunc,.nilFunc,.nilFunc] 279)):=Jc (Oa5 _ _) _;have y:=heap_alloc_new w (.cells #[.nilFunc,.nilFunc,.nilFunc,.nilFunc] 279);go_enter func143,ntmps143
 go_upto_region 1 with fail
 obtain⟨B,K⟩:∃ B,B=w.heap.size:=⟨_,rfl⟩;rw[←K]at y ⊢;have E:Hid (w.heap.size≤B):=by show _≤_;omega
 clear K;generalize w.alloc (.cells #[.nilFunc,.nilFunc,.nilFunc,.nilFunc] 279)=W at O y ⊢;have ba:W.cell? ⟨B,0,none⟩=some .nilFunc:=by simp[World.cell?,y]
 have bi:W.frozen? ⟨B,0,none⟩=false:=by simp[World.frozen?,y]
 have bc:W.cell? ⟨B,1,none⟩=some .nilFunc:=by simp[World.cell?,y]
 have z1:W.frozen? ⟨B,1,none⟩=false:=by simp[World.frozen?,y]
 have bf:W.cell? ⟨B,2,none⟩=some .nilFunc:=by simp[World.cell?,y]
 have z2:W.frozen? ⟨B,2,none⟩=false:=by simp[World.frozen?,y]
 have bh:W.cell? ⟨B,3,none⟩=some .nilFunc:=by simp[World.cell?,y]
 have bj:W.frozen? ⟨B,3,none⟩=false:=by simp[World.frozen?,y]
 have D:=Jk (Jk (Jk (Jk y 0 (.func (.func 186) #[.pointer (some ⟨jb,0,none⟩)] #[])) 1 (.func (.func 187) #[.pointer (some ⟨jb,0,none⟩)] #[])) 2 (.func (.func 188) #[.pointer (some ⟨jb,0,none⟩)] #[])) 3 (.func (.func 189) #[.pointer (some ⟨jb,0,none⟩)] #[]);simp only[Oa1,List.set_cons_zero,List.set_cons_succ]at D;go_wp2;have R:Below w.heap.size w ((((W.setCell ⟨B,0,none⟩ (.func (.func 186) #[.pointer (some ⟨jb,0,none⟩)] #[])).setCell ⟨B,1,none⟩ (.func (.func 187) #[.pointer (some ⟨jb,0,none⟩)] #[])).setCell ⟨B,2,none⟩ (.func (.func 188) #[.pointer (some ⟨jb,0,none⟩)] #[])).setCell ⟨B,3,none⟩ (.func (.func 189) #[.pointer (some ⟨jb,0,none⟩)] #[])):=(((O.setCell (p:=⟨B,0,none⟩) E.out _).setCell (p:=⟨B,1,none⟩) E.out _).setCell (p:=⟨B,2,none⟩) E.out _).setCell (p:=⟨B,3,none⟩) E.out _;generalize ((((W.setCell ⟨B,0,none⟩ (.func (.func 186) #[.pointer (some ⟨jb,0,none⟩)] #[])).setCell ⟨B,1,none⟩ (.func (.func 187) #[.pointer (some ⟨jb,0,none⟩)] #[])).setCell ⟨B,2,none⟩ (.func (.func 188) #[.pointer (some ⟨jb,0,none⟩)] #[])).setCell ⟨B,3,none⟩ (.func (.func 189) #[.pointer (some ⟨jb,0,none⟩)] #[]))=H at D R ⊢;have U:H.cell? ⟨B,0,none⟩=some (.func (.func 186) #[.pointer (some ⟨jb,0,none⟩)] #[]):=by simp[World.cell?,D]
 have X:H.cell? ⟨B,1,none⟩=some (.func (.func 187) #[.pointer (some ⟨jb,0,none⟩)] #[]):=by simp[World.cell?,D]
 have Y:H.cell? ⟨B,2,none⟩=some (.func (.func 188) #[.pointer (some ⟨jb,0,none⟩)] #[]):=by simp[World.cell?,D]
 have Z:H.cell? ⟨B,3,none⟩=some (.func (.func 189) #[.pointer (some ⟨jb,0,none⟩)] #[]):=by simp[World.cell?,D]
 exact bodyPost_ret (v:=Kt5 jb) (by simp[results,results143,go_sem,U,X,Y,Z,Kt5]) rfl ⟨rfl,R⟩
structure Ktv (base:Nat) (L R:List Int) (lv rv:Value) (W:World):Prop where
 left:Jo W base 3 lv (L.map Ksh)
 right:Jo W base 3 rv (R.map Ksh)
 apart:lv.ownBlock=none∨lv.ownBlock≠rv.ownBlock
section
variable {base:Nat} {L R:List Int} {lv rv sv:Value} {W Y X:World} {x:Int}
theorem Ktv.below (h:Ktv base L R lv rv W)(y:Below W.heap.size W X):Ktv base L R lv rv X:=⟨Jaw h.left y,Jaw h.right y,h.apart⟩
theorem Ktv.pushL (h:Ktv base L R lv rv W)(E:Below W.heap.size W Y)(U:Y.grownBy X lv.ownBlock)(Z:Jo X base 3 sv (L.map Ksh++[Ksh x]))(K:sv.ownBlock=lv.ownBlock∨sv.ownBlock=some Y.heap.size):Ktv base (L++[x]) R sv rv X:=by
 have ba:=E.size;have H:∀ b,rv.ownBlock=some b→b<W.heap.size:=fun b e=>(Je h.right e).2;refine⟨by rw[Ob8];exact Z,Jl h.right fun b e=>?_,?_⟩
 ·have O:=H b e;rw[U.block b (by omega) (fun D=>?_),E.block b O];rcases h.apart with y|y
  ·rw[y]at D;cases D
  exact y (D.symm.trans e.symm)
 rcases K with y|y
 ·rw[y];exact h.apart
 right;rw[y];intro e;have:=H _ e.symm;omega
theorem Ktv.pushR (h:Ktv base L R lv rv W)(D:Below W.heap.size W Y)(U:Y.grownBy X rv.ownBlock)(Z:Jo X base 3 sv (R.map Ksh++[Ksh x]))(K:sv.ownBlock=rv.ownBlock∨sv.ownBlock=some Y.heap.size):Ktv base L (R++[x]) lv sv X:=by
 have ba:=D.size;have E:∀ b,lv.ownBlock=some b→b<W.heap.size:=fun b e=>(Je h.left e).2;refine⟨Jl h.left fun b e=>?_,by rw[Ob8];exact Z,?_⟩
 ·have O:=E b e;rw[U.block b (by omega) (fun H=>?_),D.block b O];rcases h.apart with y|y
  ·rw[y]at e;cases e
  exact y (e.trans H)
 rcases K with y|y
 ·rw[y];exact h.apart
 right;rw[y];intro e;have:=E _ e;omega
end
theorem Kv6 (kb ko kc:Nat)(ks:List Krv)(w:World)(bx:Klj w kb ko ks)(bN:ks.length≤4) :
  Calls prog 141 #[.slice (some ⟨kb,ko,none⟩) ks.length kc] w fun e w'=>Below w.heap.size w w'∧∃ lv rv,e=.returned (.tuple #[lv,rv])∧Ktv w.heap.size (ks.map fun k=>(k.c:Int)) (ks.map fun k=>k.o) lv rv w':=by
 have bH:Hid (Klj w kb ko ks):=bx;clear bx;go_enter func141,ntmps141
 go_upto_region 2 with fail
 go_loopw [2,3,8] (fun lv rv s wr=>∃ i:Nat,i≤ks.length∧s=.int .i64 (i:Nat)∧Hid (Below w.heap.size w wr∧Ktv w.heap.size ((ks.take i).map fun k=>(k.c:Int)) ((ks.take i).map fun k=>k.o) lv rv wr)) (fun _ _ s _=>ks.length-(intOf s).toNat)
 case atStart=>exact⟨0,Ob7 _,rfl,Oa5 _ _,⟨Jo.nil _ _ _,Jo.nil _ _ _,.inl rfl⟩⟩
 case round=>
  obtain⟨i,hi,rfl,hI⟩:=hrel;by_cases bA:i<ks.length
  ·obtain⟨bB,bC,bD,bE⟩:=bH.out.below hI.out.1 i ks[i] (Oa3 bA);have Y:Hid ((ks.take (i+1)).map (fun k=>(k.c:Int))=(ks.take i).map (fun k=>(k.c:Int))++[(ks[i].c:Int)]∧(ks.take (i+1)).map (fun k=>k.o)=(ks.take i).map (fun k=>k.o)++[ks[i].o]):=by
    show _∧_;rw[Oc4 bA,Ob8,Ob8];exact⟨rfl,rfl⟩
   have bj:Hid (((ks.take i).map fun k=>(k.c:Int)).length≤4∧((ks.take i).map fun k=>k.o).length≤4):=by
    show _∧_;rw[Oa6,Oa6,Oc7];omega
   generalize ks[i]=k at bB bC bD bE Y;have bc:Below wr.heap.size wr (wr.alloc (.cells #[.int .i64 (k.c:Nat),.int .i64 k.o,.bool k.d,.int .i64 (k.f:Nat)] 54)):=Jc (Oa5 _ _) _;have R:=heap_alloc_new wr (.cells #[.int .i64 (k.c:Nat),.int .i64 k.o,.bool k.d,.int .i64 (k.f:Nat)] 54);have bf:=Oa7 wr (.cells #[.int .i64 (k.c:Nat),.int .i64 k.o,.bool k.d,.int .i64 (k.f:Nat)] 54);have j1:(i:Int)<(ks.length:Int):=(by omega);go_upto_region 4 with fail
   have U:Hid (Below w.heap.size w (wr.alloc (.cells #[.int .i64 (k.c:Nat),.int .i64 k.o,.bool k.d,.int .i64 (k.f:Nat)] 54))):=Jb hI.out.1 bc;have Z:Hid ((∀ g,u2.ownBlock=some g→g<wr.heap.size∧w.heap.size≤g)∧∀ g,u3.ownBlock=some g→g<wr.heap.size∧w.heap.size≤g):=⟨fun g e=>⟨(Je hI.out.2.left e).2,(Je hI.out.2.left e).1⟩,fun g e=>⟨(Je hI.out.2.right e).2,(Je hI.out.2.right e).1⟩⟩;obtain⟨y,bz⟩:∃ y,y=(wr.alloc (.cells #[.int .i64 (k.c:Nat),.int .i64 k.o,.bool k.d,.int .i64 (k.f:Nat)] 54)):=⟨_,rfl⟩;rw[←bz]at bc R bf U ⊢;have X:Hid (Ktv w.heap.size ((ks.take i).map fun k=>(k.c:Int)) ((ks.take i).map fun k=>k.o) u2 u3 y):=hI.out.2.below bc;clear bz bB bC bD bE hI;have bK:y.cell? ⟨wr.heap.size,0,none⟩=some (.int .i64 (k.c:Nat)):=by simp[World.cell?,R]
   have bG:y.cell? ⟨wr.heap.size,1,none⟩=some (.int .i64 k.o):=by simp[World.cell?,R]
   have br:Hid (w.heap.size≤y.heap.size+1):=by have:=U.out.size;show _≤_;omega
   have bI:Hid (y.heap.size=wr.heap.size+1):=bf;clear bf R;go_upto_region 5 with(at_builtin;go_must (refine Ks (by rfl) _ _ 22 3 _ 8 Kp4 (by rfl) (by decide) (by kernel_rfl) (by rfl) w.heap.size _ _ (by rfl) (Jo.alloc X.out.left _) ⟨y.heap.size,0,none⟩ 1 [Ksh (k.c:Int)] (by rfl) (by exact Ua y _ _) (by intro u H;simp at H;subst H;rfl) (by have:=bj.out;simp only[List.length_cons,List.length_nil,Oa6]at *;omega) (by simp;exact br.out) ?_);intro bL E K D O)
   have bn:Hid (Ktv w.heap.size ((ks.take i).map (fun k=>(k.c:Int))++[(k.c:Int)]) ((ks.take i).map fun k=>k.o) bL u3 E):=X.out.pushL (Jc (Oa5 _ _) _) D K O;have bO:E.cell? ⟨wr.heap.size,1,none⟩=some (.int .i64 k.o):=(D.cell_far ⟨wr.heap.size,1,none⟩ (by show wr.heap.size<(y.alloc _).heap.size;rw[Oa7];have:=bI.out;omega) fun e=>by have:=(Z.out.1 _ e.symm).1;exact absurd this (Oe3 _)).trans (Ja (Jc (Oa5 _ _) _) bG);have bh:Hid (Below w.heap.size w E):=Jy (Jc U.out _) D fun g e=>(Z.out.1 g e).2;have bJ:Hid (w.heap.size≤E.heap.size+1):=by have:=bh.out.size;show _≤_;omega
   clear bK bG K D O X br;go_wp2_with (at_builtin;go_must (refine Ks (by rfl) _ _ 22 3 _ 8 Kp4 (by rfl) (by decide) (by kernel_rfl) (by rfl) w.heap.size _ _ (by rfl) (Jo.alloc bn.out.right _) ⟨E.heap.size,0,none⟩ 1 [Ksh k.o] (by rfl) (by exact Ua E _ _) (by intro u H;simp at H;subst H;rfl) (by have:=bj.out;simp only[List.length_cons,List.length_nil,Oa6]at *;omega) (by simp;exact bJ.out) ?_);intro bP bM K D O)
   go_roundw
   case rel=>
    refine⟨i+1,by omega,by go_num,Jy (Jc bh.out _) D fun g e=>(Z.out.2 g e).2,?_⟩;rw[Y.out.1,Y.out.2];exact bn.out.pushR (Jc (Oa5 _ _) _) D K O
   case measure=>simp[intOf];omega
  obtain rfl:i=ks.length:=by omega
  have ba:=hI.out;rw[Of2]at ba;have bi:Hid _:=ba;clear ba hI;go_wp2;exact bodyPost_ret (v:=.tuple #[_,_]) (by simp[results,results141,go_sem]) rfl ⟨bi.out.1,_,_,rfl,bi.out.2⟩
end Go.Proofs.YtpchafocmlhmbaaGreatDoor
