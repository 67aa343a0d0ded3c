/- A script of the law, played: two pairs of stores, and the lists that came out. -/
import Derived.Test.YtcaocabmioafcaaGreatDoorNg
import Derived.Test.YtcaocabmioafcaaGreatDoorNb
import Derived.Test.YtcaocabmioafcaaGreatDoorNe
import Derived.Test.YtcaocabmioafcaaGreatDoorNf
set_option maxHeartbeats 4000000
set_option maxRecDepth 100000
namespace Go.Proofs.YtcaocabmioafcaaGreatDoor
open Go.RowKit Go.Shelf Tryz
attribute [local go_sem] Oc0
def Pl (A w:World)(wb pa Z p q ba bb bc ty u:Nat)(k:Int):Prop:=
 Below A.heap.size A w∧∃ (L M:Nat→Prop) (D:DS) (U:List TS) (P:List RP) (Rs:List RTb) (I J:Nat→Prop) (K:DS) (X:List TS) (N:List RP) (R:List RTb) (H:Nat→Prop) (Y:Int) (O:Ksl) (G:Nat→Prop),
  Kso w p ba bb L M D U P Rs∧Kso w q bc ty I J K X N R∧Kss H w wb pa Z u Y O G∧(∀ i,L i∨M i∨i=p→¬ H i∧¬ (I i∨J i∨i=q)∧A.heap.size≤i)∧(∀ i,I i∨J i∨i=q→¬ H i∧A.heap.size≤i)∧(∀ i,H i→A.heap.size≤i)∧D.writes≤k∧K.writes≤k
section
variable {w0 w w':World} {wb pa pb p q sx sy tx ty u:Nat} {k:Int}
theorem Pl.swap (h:Pl w0 w wb pa pb p q sx sy tx ty u k):Pl w0 w wb pa pb q p tx ty sx sy u k:=by
 obtain⟨bj,K,M,D,X,P,Rs,L,N,I,Y,O,U,J,Z,R,G,ba,bb,bc,A,H,bf,bh,bi⟩:=h
 exact⟨bj,L,N,I,Y,O,U,K,M,D,X,P,Rs,J,Z,R,G,bb,ba,bc,fun i hi=>⟨(H i hi).1,fun bk=>(A i bk).2.1 hi,(H i hi).2⟩,fun i hi=>⟨(A i hi).1,(A i hi).2.2⟩,bf,bi,bh⟩
theorem Pl.below (h:Pl w0 w wb pa pb p q sx sy tx ty u k)(A:Below w.heap.size w w'):Pl w0 w' wb pa pb p q sx sy tx ty u k:=by
 obtain⟨bf,J,L,D,U,P,Rs,K,M,H,X,N,R,I,Y,O,G,Z,ba,bb,bc⟩:=h
 exact⟨Jb bf A,J,L,D,U,P,Rs,K,M,H,X,N,R,I,Y,O,G,Z.below A,ba.below A,bb.below A,bc⟩
theorem Pl.wide {v:Nat}{l:Int}(h:Pl w0 w wb pa pb p q sx sy tx ty u k)(bi:u≤v)(_hk:k≤l):Pl w0 w wb pa pb p q sx sy tx ty v l:=by
 obtain⟨bh,I,K,D,R,P,Rs,J,L,A,U,M,O,H,X,N,G,Y,Z,ba,bb,bc,bf,bj,bk⟩:=h
 exact⟨bh,I,K,D,R,P,Rs,J,L,A,U,M,O,H,X,N,G,Y,Z,ba.wide bi,bb,bc,bf,by omega,by omega⟩
theorem Pl.looks (h:Pl w0 w wb pa pb p q sx sy tx ty u k)(H:u≤10000000000):Calls prog 9 #[.pointer (some ⟨wb,0,none⟩)] w fun e w'=>e=.returned (.bool true)∧Below w.heap.size w w':=by
 obtain⟨bf,K,M,D,X,P,Rs,L,N,I,Y,O,U,J,Z,R,G,ba,bb,A,bc⟩:=h
 exact Kyl A H
theorem Pl.step (o:Opx)(h:Pl w0 w wb pa pb p q sx sy tx ty u k)(bf:p=if bits BinOp.and IntKind.i64 o.h 1=1 then pb else pa)(cj:u≤9999990000)(_hk:k≤100000000000000000)(bW:Kte w0 o.d)(ca:∀ r∈o.d.rs,∀ v∈r,Jg v.n)(cc:o.kind≤6)(M N O Z X ba pg pl ex Y:Addr)(bc:Jax w0 M N O Z X ba pg pl ex Y) :
  Calls prog 8 #[.pointer (some ⟨wb,0,none⟩),o.val] w fun e w'=>e=.returned (.bool true)∧Pl w0 w' wb pa pb p q sx sy tx ty (u+1000) (k+132000):=by
 obtain⟨bk,I,J,D,L,P,Rs,bn,br,bH,bS,bN,bQ,H,R,K,G,bU,bh,bV,A,bj,bD,cu,cv⟩:=h
 have bb:Kt4 o w0 wb pa pb p sx sy u I J H D L P Rs R K G w:=⟨bU,bV,fun i hi=>(A i hi).1,cj,by omega,bk,fun i hi=>(A i hi).2.2,bW,ca⟩
 have bY:Calls prog 8 #[.pointer (some ⟨wb,0,none⟩),o.val] w fun e w'=>e=.returned (.bool true)∧Kst w wb pa pb p sx sy I J H (u+1000) D.writes w':=by
  by_cases bu:o.kind=1
  ·exact Qbl o wb pa pb p sx sy u I J H D L P Rs R K G w w0 bb bf bu M N O Z X ba pg pl ex Y bc
  by_cases bx:o.kind=2
  ·exact Qbi o wb pa pb p sx sy u I J H D L P Rs R K G w w0 bb bf bx M N O Z X ba pg pl ex Y bc
  by_cases bz:o.kind=3
  ·exact Qa3 o wb pa pb p sx sy u I J H D L P Rs R K G w w0 bb bf bz M N O Z X ba pg pl ex Y bc
  by_cases bA:o.kind=4
  ·exact Qat o wb pa pb p sx sy u I J H D L P Rs R K G w w0 bb bf bA M N O Z X ba pg pl ex Y bc
  by_cases bB:o.kind=5
  ·exact Qas o wb pa pb p sx sy u I J H D L P Rs R K G w w0 bb bf bB M N O Z X ba pg pl ex Y bc
  by_cases bC:o.kind=6
  ·exact Qbc o wb pa pb p sx sy u I J H D L P Rs R K G w w0 bb bf bC M N O Z X ba pg pl ex Y bc
  exact Qak o wb pa pb p sx sy u I J H D L P Rs R K G w w0 bb bf ⟨bu,bx,bz,bA,bB,bC,cc⟩ M N O Z X ba pg pl ex Y bc
 refine bY.mono fun e w' ⟨bZ,bl,bK,bL,bG,bR,bM,bP,bJ,bT,bO,bI,ck,cl,bi,bE,cn,cx⟩=>⟨bZ,?_⟩
 have cf:=bk.size
 have ci:∀ i,bn i∨br i∨i=q→w'.heap[i]?=w.heap[i]?:=fun i hi=>bl.block i (bh.lt i hi) fun e=>by
  rcases e with e|e|e
  ·exact(A i (.inl e)).2.1 hi
  ·exact(A i (.inr (.inl e))).2.1 hi
  exact(bj i hi).1 e
 refine⟨bk.trans (bl.below (fun i hi U=>?_) cf),bK,bL,bG,bR,bM,bP,bn,br,bH,bS,bN,bQ,bJ,bT,bO,bI,ck,bh.stands bl.size ci,cl,fun i hi=>⟨cn i hi,fun U=>?_,?_⟩,fun i hi=>⟨fun bX=>?_,(bj i hi).2⟩,fun i hi=>?_,by omega,by omega⟩
 ·rcases U with e|e|e
  ·have:=(A i (.inl e)).2.2;omega
  ·have:=(A i (.inr (.inl e))).2.2;omega
  have:=bD i e;omega
 ·have cb:=bh.lt i U
  rcases hi with e|e|e
  ·rcases bi i (.inl e)with a|a|a
   ·exact(A i (.inl a)).2.1 U
   ·exact(A i (.inr (.inl a))).2.1 U
   omega
  ·rcases bi i (.inr e)with a|a|a
   ·exact(A i (.inl a)).2.1 U
   ·exact(A i (.inr (.inl a))).2.1 U
   omega
  exact(A i (.inr (.inr e))).2.1 U
 ·rcases hi with e|e|e
  ·rcases bi i (.inl e)with a|a|a
   ·exact(A i (.inl a)).2.2
   ·exact(A i (.inr (.inl a))).2.2
   omega
  ·rcases bi i (.inr e)with a|a|a
   ·exact(A i (.inl a)).2.2
   ·exact(A i (.inr (.inl a))).2.2
   omega
  exact(A i (.inr (.inr e))).2.2
 ·have cb:=bh.lt i hi
  rcases bE i bX with a|a
  ·exact(bj i hi).1 a
  omega
 rcases bE i hi with a|a
 ·exact bD i a
 omega
end
theorem Pl.any {H w:World}{wb pa A bb bc bf ty u:Nat}{k:Int}(o:Opx)(h:Pl H w wb pa A pa A bb bc bf ty u k)(Z:u≤9999990000)(hk:k≤100000000000000000)(R:Kte H o.d)(X:∀ r∈o.d.rs,∀ v∈r,Jg v.n)(Y:o.kind≤6)(I J K N L O pg pl ex M:Addr)(U:Jax H I J K N L O pg pl ex M) :
  Calls prog 8 #[.pointer (some ⟨wb,0,none⟩),o.val] w fun e w'=>e=.returned (.bool true)∧Pl H w' wb pa A pa A bb bc bf ty (u+1000) (k+132000):=by
 by_cases ba:bits BinOp.and IntKind.i64 o.h 1=1
 ·exact(h.swap.step o (by rw[if_pos ba]) Z hk R X Y I J K N L O pg pl ex M U).mono fun e w' ⟨bh,bi⟩=>⟨bh,bi.swap⟩
 exact h.step o (by rw[if_neg ba]) Z hk R X Y I J K N L O pg pl ex M U
def Opx.cells (o:Opx):List Value:=[.int .i64 o.kind,.int .i64 o.h,.int .i64 o.a,.int .i64 o.b,.int .i64 o.c,.string o.s,.string o.d.name,.slice o.d.at_ o.d.ts.length o.d.ct,.slice o.d.ar o.d.rs.length o.d.cr,.slice o.d.ah o.d.hs.length o.d.ch,.int .i64 o.d.g,.slice o.pa o.pl o.pc,.int .i64 o.o0,.int .i64 o.o1,.int .i64 o.o2,.int .i64 o.o3]
def Kub (w:World)(a:Option Addr)(os:List Opx):Prop:=∀ (i:Nat) (o:Opx),os[i]?=some o→(Kte w o.d∧∀ r∈o.d.rs,∀ v∈r,Jg v.n)∧∃ b A,a=some ⟨b,A,none⟩∧∀ j v,o.cells[j]?=some v→w.cell? ⟨b,A+i*16+j,none⟩=some v
theorem Kub.below {w w':World}{a:Option Addr}{os:List Opx}(h:Kub w a os)(A:Below w.heap.size w w'):Kub w' a os:=fun i o M=>by
 obtain⟨⟨H,I⟩,b,N,J,K⟩:=h i o M
 exact⟨⟨H.below A,I⟩,b,N,J,fun j v L=>Ja A (K j v L)⟩
theorem Ku9 (O N U R:Int)(os:List Opx)(a:Option Addr)(c:Nat)(w:World)(ca:Kub w a os)(_cT:os.length≤9000000)(bC bD bE bS bQ bT pg pl ex bR:Addr)(bZ:Jax w bC bD bE bS bQ bT pg pl ex bR) :
  Calls prog 4 #[.agg #[.int .i64 O,.int .i64 N],.agg #[.int .i64 U,.int .i64 R],.slice a os.length c,.int .i64 6] w fun e w'=>e=.returned (.bool true)∧Below w.heap.size w w':=by
 have bU:Hid (Kub w a os∧Jax w bC bD bE bS bQ bT pg pl ex bR):=⟨ca,bZ⟩
 clear ca bZ
 go_enter func4,ntmps4
 go_upto_region 1 with fail
 obtain⟨W,hW⟩:∃ W,W=(w.alloc (.cells #[.int .i64 O,.int .i64 N] 23)).alloc (.cells #[.int .i64 U,.int .i64 R] 23):=⟨_,rfl⟩
 rw[←hW]
 have cb:Below w.heap.size w W:=by rw[hW];exact((Oa5 _ w).alloc (Oa2 _) _).alloc (by simp) _
 have cJ:W.heap.size=w.heap.size+2:=by rw[hW];simp
 have bK:W.heap[w.heap.size]?=some (.cells #[.int .i64 O,.int .i64 N] 23 (0,0)):=by rw[hW,Oa9 _ _ _ (by simp)];exact heap_alloc_new _ _
 have bL:W.heap[w.heap.size+1]?=some (.cells #[.int .i64 U,.int .i64 R] 23 (0,0)):=by
  rw[hW]
  have:=heap_alloc_new (w.alloc (.cells #[.int .i64 O,.int .i64 N] 23)) (.cells #[.int .i64 U,.int .i64 R] 23)
  simpa using this
 have c0:W.cell? ⟨w.heap.size,0,none⟩=some (.int .i64 O):=by simp[World.cell?,bK]
 have c1:W.cell? ⟨w.heap.size,1,none⟩=some (.int .i64 N):=by simp[World.cell?,bK]
 have bX:W.cell? ⟨w.heap.size+1,0,none⟩=some (.int .i64 U):=by simp[World.cell?,bL]
 have bY:W.cell? ⟨w.heap.size+1,1,none⟩=some (.int .i64 R):=by simp[World.cell?,bL]
 have bz:Hid (Below w.heap.size w W):=cb
 clear hW cb bK bL cJ
 have cc:=Ky5 O N W
 go_upto_region 4 with(go_at_call 7;refine cc.mono ?_;rintro e ba ⟨bu,pa,bf,bh,Y,Z,rfl,ck,ci⟩)
 have br:=Ja bu bX
 have bG:=Ja bu bY
 have X:Hid (Below w.heap.size w ba∧Kso ba pa bf bh Y Z (Ku O N) [] [] []∧∀ k,Y k∨Z k∨k=pa→w.heap.size≤k):=⟨Jb bz.out bu,ck,fun k hk=>by have:=ci k hk;have:=bz.out.size;omega⟩
 clear cc bu ck ci c0 c1 bX bY bz
 have cf:=Ky5 U R ba
 go_upto_region 7 with(go_at_call 7;refine cf.mono ?_;rintro e M ⟨bI,K,bn,ty,bA,bB,rfl,bk,cj⟩)
 have J:Hid (Below w.heap.size w M∧Kso M pa bf bh Y Z (Ku O N) [] [] []∧Kso M K bn ty bA bB (Ku U R) [] [] []∧(∀ k,Y k∨Z k∨k=pa→w.heap.size≤k)∧(∀ k,bA k∨bB k∨k=K→ba.heap.size≤k)∧w.heap.size≤ba.heap.size∧∀ k,Y k∨Z k∨k=pa→k<ba.heap.size):=⟨Jb X.out.1 bI,X.out.2.1.below bI,bk,X.out.2.2,cj,X.out.1.size,X.out.2.1.lt⟩
 clear cf bI bk cj br bG X
 go_upto_region 9 with fail
 obtain⟨bb,bi⟩:∃ bb,bb=M.alloc (.cells #[.pointer (some ⟨pa,0,none⟩),.pointer (some ⟨K,0,none⟩),.int .i64 0,.slice none 0 0,.slice none 0 0,.slice none 0 0,.slice none 0 0] 51):=⟨_,rfl⟩
 rw[←bi]
 obtain⟨wb,bl⟩:∃ wb,wb=M.heap.size:=⟨_,rfl⟩
 rw[←bl]
 have A:Hid (Pl w bb wb pa K pa K bf bh bn ty 0 0):=by
  have bJ:Below M.heap.size M bb:=by rw[bi];exact(Oa5 _ _).alloc (Oa2 _) _
  have cM:bb.heap[wb]?=some (.cells #[.pointer (some ⟨pa,0,none⟩),.pointer (some ⟨K,0,none⟩),.int .i64 0,.slice none 0 0,.slice none 0 0,.slice none 0 0,.slice none 0 0] 51 (0,0)):=by rw[bi,bl];exact heap_alloc_new _ _
  have cU:bb.heap.size=M.heap.size+1:=by rw[bi];simp
  have cQ:=J.out.1.size
  have cX:∀ i,¬ ∃ r,Krw r∧(Value.slice none 0 0).ownBlock=some i:=fun i ⟨r,_,h⟩=>by simp[Value.ownBlock]at h
  refine⟨Jb J.out.1 bJ,Y,Z,_,[],[],[],bA,bB,_,[],[],[],(fun i=>i=wb),0,(fun _=>(.slice none 0 0,[])),(fun _=>False),J.out.2.1.below bJ,J.out.2.2.1.below bJ,⟨⟨cM,fun r bc=>⟨rfl,.inl ⟨rfl,rfl⟩⟩,fun r bc=>by simp[Value.ownBlock],fun r s _ _ _ g cN=>by simp[Value.ownBlock]at cN⟩,Int.le_refl _,Int.le_refl _,fun r bc=>Oa2 _,fun r bc e bj=>by simp at bj,fun r bc e bj=>by simp at bj,fun r bc e bj=>by simp at bj,fun k hk=>hk.elim,fun k hk=>?_,fun k hk=>?_⟩,fun i hi=>⟨fun e=>?_,fun cP=>?_,J.out.2.2.2.1 i hi⟩,fun i hi=>⟨fun e=>?_,?_⟩,fun i hi=>?_,?_,?_⟩
  ·rcases hk with hk|hk|⟨r,bc,hk⟩
   ·exact hk.elim
   ·exact hk
   simp[Value.ownBlock]at hk
  ·rw[hk,bl];omega
  ·have:=J.out.2.1.lt i hi;omega
  ·have cH:=J.out.2.2.2.2.1 i cP
   have cI:=J.out.2.2.2.2.2.2 i hi
   omega
  ·have:=J.out.2.2.1.lt i hi;omega
  ·have cH:=J.out.2.2.2.2.1 i hi
   have cI:=J.out.2.2.2.2.2.1
   omega
  ·rw[hi,bl];exact cQ
  ·simp[Ku]
  simp[Ku]
 clear bi bl J
 go_loopw [13] (fun bP wr=>∃ j:Nat,bP=.int .i64 (j:Int)∧j≤os.length∧Hid (Pl w wr wb pa K pa K bf bh bn ty (1000*j) (132000*(j:Int)))) (fun bP _=>os.length-(intOf bP).toNat)
 case atStart=>exact⟨0,rfl,Ob7 _,A.out⟩
 case round=>
  clear A
  obtain⟨j,rfl,cS,A⟩:=hrel
  by_cases bx:j<os.length
  ·have L:Hid (os[j]?=some os[j]∧j<os.length):=⟨Oa3 bx,bx⟩
   generalize os[j]=o at L
   obtain⟨⟨bH,bM⟩,b,I,cK,H⟩:=bU.out.1 j o L.out.1
   subst cK
   have cV:(0:Int)≤(j:Int):=by omega
   have cW:(j:Int)<(os.length:Int):=by omega
   have bV:Hid (Pl w wr wb pa K pa K bf bh bn ty (1000*(j+1)) (132000*((j+1:Nat):Int))):=A.out.wide (by omega) (by omega)
   by_cases bN:o.kind≤6
   ·have k1:¬ (6<o.kind):=by omega
    have br:wr.cell? ⟨b,I+j*16,none⟩=some (.int .i64 o.kind):=Ja A.out.1 (H 0 _ rfl)
    have bG:wr.cell? ⟨b,I+j*16+1,none⟩=some (.int .i64 o.h):=Ja A.out.1 (H 1 _ rfl)
    have cz:wr.cell? ⟨b,I+j*16+2,none⟩=some (.int .i64 o.a):=Ja A.out.1 (H 2 _ rfl)
    have cA:wr.cell? ⟨b,I+j*16+3,none⟩=some (.int .i64 o.b):=Ja A.out.1 (H 3 _ rfl)
    have cB:wr.cell? ⟨b,I+j*16+4,none⟩=some (.int .i64 o.c):=Ja A.out.1 (H 4 _ rfl)
    have cC:wr.cell? ⟨b,I+j*16+5,none⟩=some (.string o.s):=Ja A.out.1 (H 5 _ rfl)
    have cD:wr.cell? ⟨b,I+j*16+6,none⟩=some (.string o.d.name):=Ja A.out.1 (H 6 _ rfl)
    have cE:wr.cell? ⟨b,I+j*16+7,none⟩=some (.slice o.d.at_ o.d.ts.length o.d.ct):=Ja A.out.1 (H 7 _ rfl)
    have cF:wr.cell? ⟨b,I+j*16+8,none⟩=some (.slice o.d.ar o.d.rs.length o.d.cr):=Ja A.out.1 (H 8 _ rfl)
    have cG:wr.cell? ⟨b,I+j*16+9,none⟩=some (.slice o.d.ah o.d.hs.length o.d.ch):=Ja A.out.1 (H 9 _ rfl)
    have cl:wr.cell? ⟨b,I+j*16+10,none⟩=some (.int .i64 o.d.g):=Ja A.out.1 (H 10 _ rfl)
    have cn:wr.cell? ⟨b,I+j*16+11,none⟩=some (.slice o.pa o.pl o.pc):=Ja A.out.1 (H 11 _ rfl)
    have cu:wr.cell? ⟨b,I+j*16+12,none⟩=some (.int .i64 o.o0):=Ja A.out.1 (H 12 _ rfl)
    have cv:wr.cell? ⟨b,I+j*16+13,none⟩=some (.int .i64 o.o1):=Ja A.out.1 (H 13 _ rfl)
    have cx:wr.cell? ⟨b,I+j*16+14,none⟩=some (.int .i64 o.o2):=Ja A.out.1 (H 14 _ rfl)
    have cy:wr.cell? ⟨b,I+j*16+15,none⟩=some (.int .i64 o.o3):=Ja A.out.1 (H 15 _ rfl)
    have bO:=A.out.any o (by omega) (by omega) bH bM bN bC bD bE bS bQ bT pg pl ex bR bU.out.2
    unfold Opx.val at bO
    clear H bH bM bN bx bV
    go_upto_region 13 with(go_at_call 8;refine bO.mono ?_;rintro e cR ⟨rfl,bk⟩)
    have bW:Hid (Pl w cR wb pa K pa K bf bh bn ty (1000*(j+1)) (132000*((j+1:Nat):Int))):=bk.wide (by omega) (by omega)
    have cO:=bW.out.looks (by have:=L.out.2;omega)
    clear bk bO br bG cz cA cB cC cD cE cF cG cl cn cu cv cx cy
    go_wp2_with (go_at_call 9;refine cO.mono ?_;rintro e cY ⟨rfl,cL⟩)
    go_roundw
    case rel=>exact⟨j+1,by have:=L.out.2;go_num,L.out.2,bW.out.below cL⟩
    case measure=>have:=L.out.2;simp[intOf];omega
   have k1:6<o.kind:=by omega
   have br:wr.cell? ⟨b,I+j*16,none⟩=some (.int .i64 o.kind):=Ja A.out.1 (H 0 _ rfl)
   clear H bH bM bN bx
   go_wp2
   go_roundw
   case rel=>exact⟨j+1,by have:=L.out.2;go_num,L.out.2,bV.out⟩
   case measure=>have:=L.out.2;simp[intOf];omega
  obtain rfl:j=os.length:=by omega
  have cZ:¬ ((os.length:Int)<(os.length:Int)):=by omega
  go_wp2
  go_ret
  exact⟨rfl,A.out.1⟩
end Go.Proofs.YtcaocabmioafcaaGreatDoor
