/- The law Stores, called directly. -/
import Derived.Test.YtcaocabmioafcaaGreatDoorNo
import Derived.Test.YtcaocabmioafcaaGreatDoorWg
set_option maxHeartbeats 4000000
set_option maxRecDepth 100000
namespace Go.Proofs.YtcaocabmioafcaaGreatDoor
open Go.RowKit Go.Shelf Tryz
attribute [local go_sem] Oc0
def Ktr:Dx:=⟨⟨#[]⟩,none,0,[],none,0,[],[],none,0,[],0⟩
theorem Qa8 (w:World):Kte w Ktr:=⟨(by show (0:Nat)≤maxLen;exact Ob7 _),Ob7 _,Ob7 _,fun r A=>by simp[Ktr]at A,Ob7 _,Oa2 _,.inl rfl,.inl rfl,rfl,.inl rfl,fun i x r H=>by simp[Ktr]at H⟩
def opD (k:Int)(d:Dx)(s:ByteArray)(a b c:Int):Opx:=⟨k,0,a,b,c,s,d,none,0,0,0,0,0,0⟩
def Kt5 (d:Dx):List Opx:=[opD 1 d ⟨#[]⟩ 0 0 0,opD 4 Ktr ⟨#[]⟩ 0 0 0,opD 3 Ktr ⟨#[]⟩ 0 0 0,opD 5 Ktr ⟨#[116]⟩ 0 0 0,opD 6 Ktr ⟨#[]⟩ 2 7 1,opD 5 Ktr ⟨#[116]⟩ 0 0 0]
theorem Kz8 {w:World}{d:Dx}{g:Nat}{t:TypeId}(K:Kte w d)(L:∀ r∈d.rs,∀ v∈r,Jg v.n)(R:w.heap[g]?=some (.cells ((Kt5 d).flatMap Opx.cells).toArray t (0,0))):Kub w (some ⟨g,0,none⟩) (Kt5 d):=by
 intro i o J
 refine⟨?_,g,0,rfl,fun j v H=>?_⟩
 ·have I:=Of6 J
  have U:∀ r∈Ktr.rs,∀ v∈r,Jg v.n:=fun r O=>by simp[Ktr]at O
  simp only[Kt5,Of1,Oi0,or_false]at I
  rcases I with rfl|rfl|rfl|rfl|rfl|rfl
  ·exact⟨K,L⟩
  all_goals exact⟨Qa8 w,U⟩
 have N:∀ x∈Kt5 d,x.cells.length=16:=fun x _=>rfl
 have M:j<16:=(Ob9.1 H).1
 have A:=Ks7 Opx.cells 16 (Kt5 d) N i j M
 rw[J,Option.bind_some,H]at A
 simp only[World.cell?,R]
 rw[Od0]
 simpa using A
theorem Kyg (M K N L:Int)(os:List Opx)(a:Option Addr)(c:Nat)(w:World)(br:Kub w a os)(bK:os.length≤9000000)(X Y Z bf bb bh pg pl ex bc:Addr)(bn:Jax w X Y Z bf bb bh pg pl ex bc) :
  Calls prog 3 #[.agg #[.int .i64 M,.int .i64 K],.agg #[.int .i64 N,.int .i64 L],.slice a os.length c] w fun e w'=>e=.returned (.bool true)∧Below w.heap.size w w':=by
 have bi:Hid (Kub w a os∧Jax w X Y Z bf bb bh pg pl ex bc):=⟨br,bn⟩
 clear br bn
 go_enter func3,ntmps3
 go_upto_region 1 with fail
 obtain⟨W,hW⟩:∃ W,W=(w.alloc (.cells #[.int .i64 M,.int .i64 K] 23)).alloc (.cells #[.int .i64 N,.int .i64 L] 23):=⟨_,rfl⟩
 rw[←hW]
 have bB:Below w.heap.size w W:=by rw[hW];exact((Oa5 _ w).alloc (Oa2 _) _).alloc (by simp) _
 have bj:W.heap[w.heap.size]?=some (.cells #[.int .i64 M,.int .i64 K] 23 (0,0)):=by rw[hW,Oa9 _ _ _ (by simp)];exact heap_alloc_new _ _
 have bk:W.heap[w.heap.size+1]?=some (.cells #[.int .i64 N,.int .i64 L] 23 (0,0)):=by
  rw[hW]
  have:=heap_alloc_new (w.alloc (.cells #[.int .i64 M,.int .i64 K] 23)) (.cells #[.int .i64 N,.int .i64 L] 23)
  simpa using this
 have O:Hid (Below w.heap.size w W∧W.cell? ⟨w.heap.size,0,none⟩=some (.int .i64 M)∧W.cell? ⟨w.heap.size,1,none⟩=some (.int .i64 K)∧W.cell? ⟨w.heap.size+1,0,none⟩=some (.int .i64 N)∧W.cell? ⟨w.heap.size+1,1,none⟩=some (.int .i64 L)):=⟨bB,by simp[World.cell?,bj],by simp[World.cell?,bj],by simp[World.cell?,bk],by simp[World.cell?,bk]⟩
 clear hW bB bj bk
 go_wp2_with fail
 refine(Kv4 W).mono ?_
 rintro e w1 ⟨rfl,bu⟩
 go_wp2_with fail
 refine(Kv4 w1).mono ?_
 rintro e bM ⟨rfl,bx⟩
 go_wp2_with fail
 refine(Kwe bM).mono ?_
 rintro e A ⟨at_,ct,ar,cr,xs,ah,ch,rfl,hi,bG,bD,bz,bC⟩
 have I:Hid (Below w.heap.size w A∧A.cell? ⟨w.heap.size,0,none⟩=some (.int .i64 M)∧A.cell? ⟨w.heap.size,1,none⟩=some (.int .i64 K)∧A.cell? ⟨w.heap.size+1,0,none⟩=some (.int .i64 N)∧A.cell? ⟨w.heap.size+1,1,none⟩=some (.int .i64 L)):=by
  have U:=Jb bu (Jb bx bz)
  exact⟨Jb O.out.1 U,Ja U O.out.2.1,Ja U O.out.2.2.1,Ja U O.out.2.2.2.1,Ja U O.out.2.2.2.2⟩
 obtain⟨d,ba⟩:∃ d:Dx,d=⟨⟨#[116]⟩,at_,ct,[1,3],ar,cr,xs,Ktk,ah,ch,[0,1],2⟩:=⟨_,rfl⟩
 have R:Below A.heap.size A (A.alloc (.cells #[.int .i64 1,.int .i64 0,.int .i64 0,.int .i64 0,.int .i64 0,.string ⟨#[]⟩,.string ⟨#[116]⟩,.slice at_ 2 ct,.slice ar 4 cr,.slice ah 2 ch,.int .i64 2,.slice none 0 0,.int .i64 0,.int .i64 0,.int .i64 0,.int .i64 0,.int .i64 4,.int .i64 0,.int .i64 0,.int .i64 0,.int .i64 0,.string ⟨#[]⟩,.string ⟨#[]⟩,.slice none 0 0,.slice none 0 0,.slice none 0 0,.int .i64 0,.slice none 0 0,.int .i64 0,.int .i64 0,.int .i64 0,.int .i64 0,.int .i64 3,.int .i64 0,.int .i64 0,.int .i64 0,.int .i64 0,.string ⟨#[]⟩,.string ⟨#[]⟩,.slice none 0 0,.slice none 0 0,.slice none 0 0,.int .i64 0,.slice none 0 0,.int .i64 0,.int .i64 0,.int .i64 0,.int .i64 0,.int .i64 5,.int .i64 0,.int .i64 0,.int .i64 0,.int .i64 0,.string ⟨#[116]⟩,.string ⟨#[]⟩,.slice none 0 0,.slice none 0 0,.slice none 0 0,.int .i64 0,.slice none 0 0,.int .i64 0,.int .i64 0,.int .i64 0,.int .i64 0,.int .i64 6,.int .i64 0,.int .i64 2,.int .i64 7,.int .i64 1,.string ⟨#[]⟩,.string ⟨#[]⟩,.slice none 0 0,.slice none 0 0,.slice none 0 0,.int .i64 0,.slice none 0 0,.int .i64 0,.int .i64 0,.int .i64 0,.int .i64 0,.int .i64 5,.int .i64 0,.int .i64 0,.int .i64 0,.int .i64 0,.string ⟨#[116]⟩,.string ⟨#[]⟩,.slice none 0 0,.slice none 0 0,.slice none 0 0,.int .i64 0,.slice none 0 0,.int .i64 0,.int .i64 0,.int .i64 0,.int .i64 0] 40)):=Jc (Oa5 _ _) _
 have bH:=heap_alloc_new A (.cells #[.int .i64 1,.int .i64 0,.int .i64 0,.int .i64 0,.int .i64 0,.string ⟨#[]⟩,.string ⟨#[116]⟩,.slice at_ 2 ct,.slice ar 4 cr,.slice ah 2 ch,.int .i64 2,.slice none 0 0,.int .i64 0,.int .i64 0,.int .i64 0,.int .i64 0,.int .i64 4,.int .i64 0,.int .i64 0,.int .i64 0,.int .i64 0,.string ⟨#[]⟩,.string ⟨#[]⟩,.slice none 0 0,.slice none 0 0,.slice none 0 0,.int .i64 0,.slice none 0 0,.int .i64 0,.int .i64 0,.int .i64 0,.int .i64 0,.int .i64 3,.int .i64 0,.int .i64 0,.int .i64 0,.int .i64 0,.string ⟨#[]⟩,.string ⟨#[]⟩,.slice none 0 0,.slice none 0 0,.slice none 0 0,.int .i64 0,.slice none 0 0,.int .i64 0,.int .i64 0,.int .i64 0,.int .i64 0,.int .i64 5,.int .i64 0,.int .i64 0,.int .i64 0,.int .i64 0,.string ⟨#[116]⟩,.string ⟨#[]⟩,.slice none 0 0,.slice none 0 0,.slice none 0 0,.int .i64 0,.slice none 0 0,.int .i64 0,.int .i64 0,.int .i64 0,.int .i64 0,.int .i64 6,.int .i64 0,.int .i64 2,.int .i64 7,.int .i64 1,.string ⟨#[]⟩,.string ⟨#[]⟩,.slice none 0 0,.slice none 0 0,.slice none 0 0,.int .i64 0,.slice none 0 0,.int .i64 0,.int .i64 0,.int .i64 0,.int .i64 0,.int .i64 5,.int .i64 0,.int .i64 0,.int .i64 0,.int .i64 0,.string ⟨#[116]⟩,.string ⟨#[]⟩,.slice none 0 0,.slice none 0 0,.slice none 0 0,.int .i64 0,.slice none 0 0,.int .i64 0,.int .i64 0,.int .i64 0,.int .i64 0] 40)
 have bl:Hid (Calls prog 4 #[.agg #[.int .i64 1048576,.int .i64 0],.agg #[.int .i64 1048576,.int .i64 0],.slice (some ⟨A.heap.size,0,none⟩) 6 6,.int .i64 6] (A.alloc (.cells #[.int .i64 1,.int .i64 0,.int .i64 0,.int .i64 0,.int .i64 0,.string ⟨#[]⟩,.string ⟨#[116]⟩,.slice at_ 2 ct,.slice ar 4 cr,.slice ah 2 ch,.int .i64 2,.slice none 0 0,.int .i64 0,.int .i64 0,.int .i64 0,.int .i64 0,.int .i64 4,.int .i64 0,.int .i64 0,.int .i64 0,.int .i64 0,.string ⟨#[]⟩,.string ⟨#[]⟩,.slice none 0 0,.slice none 0 0,.slice none 0 0,.int .i64 0,.slice none 0 0,.int .i64 0,.int .i64 0,.int .i64 0,.int .i64 0,.int .i64 3,.int .i64 0,.int .i64 0,.int .i64 0,.int .i64 0,.string ⟨#[]⟩,.string ⟨#[]⟩,.slice none 0 0,.slice none 0 0,.slice none 0 0,.int .i64 0,.slice none 0 0,.int .i64 0,.int .i64 0,.int .i64 0,.int .i64 0,.int .i64 5,.int .i64 0,.int .i64 0,.int .i64 0,.int .i64 0,.string ⟨#[116]⟩,.string ⟨#[]⟩,.slice none 0 0,.slice none 0 0,.slice none 0 0,.int .i64 0,.slice none 0 0,.int .i64 0,.int .i64 0,.int .i64 0,.int .i64 0,.int .i64 6,.int .i64 0,.int .i64 2,.int .i64 7,.int .i64 1,.string ⟨#[]⟩,.string ⟨#[]⟩,.slice none 0 0,.slice none 0 0,.slice none 0 0,.int .i64 0,.slice none 0 0,.int .i64 0,.int .i64 0,.int .i64 0,.int .i64 0,.int .i64 5,.int .i64 0,.int .i64 0,.int .i64 0,.int .i64 0,.string ⟨#[116]⟩,.string ⟨#[]⟩,.slice none 0 0,.slice none 0 0,.slice none 0 0,.int .i64 0,.slice none 0 0,.int .i64 0,.int .i64 0,.int .i64 0,.int .i64 0] 40)) fun e w'=>e=.returned (.bool true)∧Below (A.alloc (.cells #[.int .i64 1,.int .i64 0,.int .i64 0,.int .i64 0,.int .i64 0,.string ⟨#[]⟩,.string ⟨#[116]⟩,.slice at_ 2 ct,.slice ar 4 cr,.slice ah 2 ch,.int .i64 2,.slice none 0 0,.int .i64 0,.int .i64 0,.int .i64 0,.int .i64 0,.int .i64 4,.int .i64 0,.int .i64 0,.int .i64 0,.int .i64 0,.string ⟨#[]⟩,.string ⟨#[]⟩,.slice none 0 0,.slice none 0 0,.slice none 0 0,.int .i64 0,.slice none 0 0,.int .i64 0,.int .i64 0,.int .i64 0,.int .i64 0,.int .i64 3,.int .i64 0,.int .i64 0,.int .i64 0,.int .i64 0,.string ⟨#[]⟩,.string ⟨#[]⟩,.slice none 0 0,.slice none 0 0,.slice none 0 0,.int .i64 0,.slice none 0 0,.int .i64 0,.int .i64 0,.int .i64 0,.int .i64 0,.int .i64 5,.int .i64 0,.int .i64 0,.int .i64 0,.int .i64 0,.string ⟨#[116]⟩,.string ⟨#[]⟩,.slice none 0 0,.slice none 0 0,.slice none 0 0,.int .i64 0,.slice none 0 0,.int .i64 0,.int .i64 0,.int .i64 0,.int .i64 0,.int .i64 6,.int .i64 0,.int .i64 2,.int .i64 7,.int .i64 1,.string ⟨#[]⟩,.string ⟨#[]⟩,.slice none 0 0,.slice none 0 0,.slice none 0 0,.int .i64 0,.slice none 0 0,.int .i64 0,.int .i64 0,.int .i64 0,.int .i64 0,.int .i64 5,.int .i64 0,.int .i64 0,.int .i64 0,.int .i64 0,.string ⟨#[116]⟩,.string ⟨#[]⟩,.slice none 0 0,.slice none 0 0,.slice none 0 0,.int .i64 0,.slice none 0 0,.int .i64 0,.int .i64 0,.int .i64 0,.int .i64 0] 40)).heap.size (A.alloc (.cells #[.int .i64 1,.int .i64 0,.int .i64 0,.int .i64 0,.int .i64 0,.string ⟨#[]⟩,.string ⟨#[116]⟩,.slice at_ 2 ct,.slice ar 4 cr,.slice ah 2 ch,.int .i64 2,.slice none 0 0,.int .i64 0,.int .i64 0,.int .i64 0,.int .i64 0,.int .i64 4,.int .i64 0,.int .i64 0,.int .i64 0,.int .i64 0,.string ⟨#[]⟩,.string ⟨#[]⟩,.slice none 0 0,.slice none 0 0,.slice none 0 0,.int .i64 0,.slice none 0 0,.int .i64 0,.int .i64 0,.int .i64 0,.int .i64 0,.int .i64 3,.int .i64 0,.int .i64 0,.int .i64 0,.int .i64 0,.string ⟨#[]⟩,.string ⟨#[]⟩,.slice none 0 0,.slice none 0 0,.slice none 0 0,.int .i64 0,.slice none 0 0,.int .i64 0,.int .i64 0,.int .i64 0,.int .i64 0,.int .i64 5,.int .i64 0,.int .i64 0,.int .i64 0,.int .i64 0,.string ⟨#[116]⟩,.string ⟨#[]⟩,.slice none 0 0,.slice none 0 0,.slice none 0 0,.int .i64 0,.slice none 0 0,.int .i64 0,.int .i64 0,.int .i64 0,.int .i64 0,.int .i64 6,.int .i64 0,.int .i64 2,.int .i64 7,.int .i64 1,.string ⟨#[]⟩,.string ⟨#[]⟩,.slice none 0 0,.slice none 0 0,.slice none 0 0,.int .i64 0,.slice none 0 0,.int .i64 0,.int .i64 0,.int .i64 0,.int .i64 0,.int .i64 5,.int .i64 0,.int .i64 0,.int .i64 0,.int .i64 0,.string ⟨#[116]⟩,.string ⟨#[]⟩,.slice none 0 0,.slice none 0 0,.slice none 0 0,.int .i64 0,.slice none 0 0,.int .i64 0,.int .i64 0,.int .i64 0,.int .i64 0] 40)) w'):=by
  refine Ku9 1048576 0 1048576 0 (Kt5 d) (some ⟨A.heap.size,0,none⟩) 6 _ (Kz8 (t:=40) ?_ ?_ ?_) (by simp[Kt5]) X Y Z bf bb bh pg pl ex bc (bi.out.2.below (Jb I.out.1 R))
  ·rw[ba]
   refine⟨(by show (1:Nat)≤maxLen;unfold maxLen;decide),(by show (2:Nat)≤17592186044415;decide),(by show (4:Nat)≤5864062014805;decide),fun r H=>?_,(by show (2:Nat)≤17592186044415;decide),bC,hi.below R,bG.below R,bD.below R⟩
   have H:r∈Ktk:=H
   simp[Ktk]at H
   rcases H with rfl|rfl|rfl|rfl<;>decide
  ·rw[ba]
   intro r H v bE
   have H:r∈Ktk:=H
   simp[Ktk]at H
   rcases H with rfl|rfl|rfl|rfl<;>simp at bE<;>rcases bE with rfl|rfl<;>(unfold Jg;decide)
  rw[bH,ba]
  rfl
 clear hi bG bD bC bH bu bx bz ba O
 go_wp2_with fail
 refine bl.out.mono ?_
 rintro e w4 ⟨rfl,bA⟩
 have J:=Jb R bA
 have c0:=Ja J I.out.2.1
 have c1:=Ja J I.out.2.2.1
 have bN:=Ja J I.out.2.2.2.1
 have bO:=Ja J I.out.2.2.2.2
 have bL:=Ku9 M K N L os a c w4 (bi.out.1.below (Jb I.out.1 J)) bK X Y Z bf bb bh pg pl ex bc (bi.out.2.below (Jb I.out.1 J))
 have bI:Hid (Below w.heap.size w w4):=Jb I.out.1 J
 clear bA J R bl
 go_wp2_with (go_at_call 4;refine bL.mono ?_;rintro e bP ⟨rfl,bJ⟩)
 go_ret
 exact⟨rfl,Jb bI.out bJ⟩
end Go.Proofs.YtcaocabmioafcaaGreatDoor
