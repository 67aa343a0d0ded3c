/- A Join: the other kinds. -/
import Derived.Test.YtpchafocmlhmbaaGreatDoorJk
set_option maxHeartbeats 1000000
set_option maxRecDepth 100000
namespace Go.Proofs.YtpchafocmlhmbaaGreatDoor
open Go.RowKit Go.Shelf Go.Maps Tryz
attribute [local go_sem] Oc0
section
variable {j:JnE} {M:Nat→Prop} {base:Nat} {L R:List Int} {lv rv:Value} {W Y X:World}
theorem Ksd.jbL (h:Ksd j M base L R lv rv W)(y:Below W.heap.size W Y)(D:Y.grownBy X lv.ownBlock):X.heap[j.jb]?=some (.cells (j.cells lv rv).toArray 275 (0,0)):=by
 have E:=Jd h.cells;have H:=y.size;have hl:=h.low;rw[D.block _ (by omega) (fun e=>by have:=(Je h.left e.symm).1;omega),y.block _ E];exact h.cells
theorem Ksd.jbR (h:Ksd j M base L R lv rv W)(y:Below W.heap.size W Y)(D:Y.grownBy X rv.ownBlock):X.heap[j.jb]?=some (.cells (j.cells lv rv).toArray 275 (0,0)):=by
 have E:=Jd h.cells;have H:=y.size;have hl:=h.low;rw[D.block _ (by omega) (fun e=>by have:=(Je h.right e.symm).1;omega),y.block _ E];exact h.cells
theorem Kr7.of_below {w w':World}(h:Ks5 j M base L R w)(E:∀ k,M k→k<w.heap.size)(y:Below w.heap.size w w'):Kr7 j M base L R w w':=by
 obtain⟨lv,rv,H⟩:=h;exact⟨M,⟨lv,rv,H.blocks fun k D=>y.block k (E k D)⟩,Krx.of_below y,⟨fun _ h=>h,fun _ h=>.inl h,fun k D=>Oc2 (E k D) y.size⟩,fun B=>Krz y⟩
theorem Kr7.of_step {w w1 y:World}{M':Nat→Prop}{H R':List Int}{K rv':Value}(E:Below w.heap.size w w1)(O:Ksd j M' base H R' K rv' y)(R:Krx M w1 y)(D:Kr0 M M' w1 y)(U:∀ B,KeepsFrom B w1 y):Kr7 j M base H R' w y:=by
 have Y:=E.size;exact⟨M',⟨K,rv',O⟩,(Krx.of_below (M:=M) E).trans R fun _=>.inl,⟨D.1,fun k X=>(D.2.1 k X).elim .inl fun h=>.inr (by omega),D.2.2⟩,fun B=>(Krz E).trans (U B)⟩
theorem Kr7.trans {w w1 H:World}{M':Nat→Prop}{y R':List Int}(D:Krx M w w1)(E:Kr0 M M' w w1)(hf:∀ B,KeepsFrom B w w1)(h:Kr7 j M' base y R' w1 H):Kr7 j M base y R' w H:=by
 obtain⟨K,O,R,U,X⟩:=h;exact⟨K,O,D.trans R E.2.1,E.trans U D.1,fun B=>(hf B).trans (X B)⟩
end
theorem Kwt (j:JnE)(bz E:Nat→Prop)(l:List (Nat×(Int×Bool)))(nl nr row bh bi br K:Nat)(bs:List Nat)(h:Int)(D:Bool)(L y:List Int)(w:World)(hF:Ks2 j bz l nl nr bs h D row bh bi br E w)(bJ:Ks5 j E K L y w)(bA:∀ k,E k→k<w.heap.size)(bB:K≤w.heap.size)(hL:L.length≤100000∧y.length≤100000) :
  Calls prog 188 #[.pointer (some ⟨j.jb,0,none⟩),.int .i64 (row:Nat),ftV bh bi br] w fun e w'=>e=.returned (.tuple #[])∧Kr7 j E K (L++tkL 2 row (Krw j bs l row (h,D))) (y++tkR 2 (Krw j bs l row (h,D))) w w':=by
 obtain⟨lv,rv,bf⟩:=bJ;have X:=Kul j bz E l nl nr row bh bi br bs h D w hF bf.jn;have H:Hid (Ksd j E K L y lv rv w∧(∀ k,E k→k<w.heap.size)∧(L.length≤100000∧y.length≤100000)∧K≤w.heap.size):=⟨bf,bA,hL,bB⟩;unfold ftV at X ⊢;clear bf bA hL bB hF;cases hfe:(Krw j bs l row (h,D)).isEmpty
 ·rw[hfe]at X;have U:Hid (L++tkL 2 row (Krw j bs l row (h,D))=L++[(row:Int)]∧y++tkR 2 (Krw j bs l row (h,D))=y):=by
   show _∧_;have bK:(Krw j bs l row (h,D))≠[]:=fun e=>(by rw[e]at hfe;cases hfe);simp[tkL,tkR,bK]
  go_enter func188,ntmps188
  go_wp2_with (first|(go_at_call 230;refine X.mono ?_;rintro e O ⟨rfl,R⟩;have Y:Hid (Ksd j E K L y lv rv O):=H.out.1.blocks (fun k bc=>R.block k (H.out.2.1 k bc));have bC:=Y.out.cells;have bO:O.cell? ⟨j.jb,9,none⟩=some lv:=(by simp[World.cell?,bC,JnE.cells,jnC]);have bx:Hid (L.length≤100000∧y.length≤100000∧K≤O.heap.size):=⟨H.out.2.2.1.1,H.out.2.2.1.2,Ob2 H.out.2.2.2 R.size⟩;have bH:Hid (∀ k,E k→k<O.heap.size):=fun k bc=>Oc2 (H.out.2.1 k bc) R.size;have bG:Hid _:=R;clear R bC)|(at_builtin;go_must (refine Ks (by rfl) _ _ 22 3 _ 8 Kp4 (by rfl) (by decide) (by kernel_rfl) (by rfl) K _ _ (by rfl) (Jo.alloc Y.out.left _) ⟨O.heap.size,0,none⟩ 1 [Ksh (row:Int)] (by rfl) (by exact Ua O _ _) (by intro u bD;simp at bD;subst bD;rfl) (by have:=bx.out;simp only[List.length_cons,List.length_nil,Oa6];omega) (by have:=bx.out;simp;omega) ?_);intro bN bI bj bn bE;obtain⟨bR,bS,bM⟩:∃ a c,bN=.slice a (L.length+1) c:=(by obtain⟨a,c,bL,_⟩:=bj.cells;exact⟨a,c,by simpa using bL⟩);subst bM;have ba:=Y.out.jbL (Jc (Oa5 _ _) _) bn;have bQ:bI.cell? ⟨j.jb,9,none⟩=some lv:=(by simp[World.cell?,ba,JnE.cells,jnC]);have bP:=Lib.frozen_of_heap ba 9;have Z:Hid _:=Y.out.pushL bH.out (Jc (Oa5 _ _) _) bn bj (bE.elim .inl .inr);clear bj bn bE ba))
  go_end0
  refine⟨rfl,?_⟩;rw[U.out.1,U.out.2];exact Kr7.of_step bG.out Z.out.1 Z.out.2.1 Z.out.2.2.1 Z.out.2.2.2
 rw[hfe]at X;have U:Hid (L++tkL 2 row (Krw j bs l row (h,D))=L∧y++tkR 2 (Krw j bs l row (h,D))=y):=by
  show _∧_;rw[List.isEmpty_iff.1 hfe];simp[tkL,tkR]
 go_enter func188,ntmps188
 go_wp2_with (go_at_call 230;refine X.mono ?_;rintro e O ⟨rfl,R⟩)
 go_end0
 refine⟨rfl,?_⟩;rw[U.out.1,U.out.2];exact Kr7.of_below ⟨lv,rv,H.out.1⟩ H.out.2.1 R
theorem Kwq (j:JnE)(bz E:Nat→Prop)(l:List (Nat×(Int×Bool)))(nl nr row bh bi br K:Nat)(bs:List Nat)(h:Int)(D:Bool)(L y:List Int)(w:World)(hF:Ks2 j bz l nl nr bs h D row bh bi br E w)(bJ:Ks5 j E K L y w)(bA:∀ k,E k→k<w.heap.size)(bB:K≤w.heap.size)(hL:L.length≤100000∧y.length≤100000) :
  Calls prog 189 #[.pointer (some ⟨j.jb,0,none⟩),.int .i64 (row:Nat),ftV bh bi br] w fun e w'=>e=.returned (.tuple #[])∧Kr7 j E K (L++tkL 3 row (Krw j bs l row (h,D))) (y++tkR 3 (Krw j bs l row (h,D))) w w':=by
 obtain⟨lv,rv,bf⟩:=bJ;have X:=Kul j bz E l nl nr row bh bi br bs h D w hF bf.jn;have H:Hid (Ksd j E K L y lv rv w∧(∀ k,E k→k<w.heap.size)∧(L.length≤100000∧y.length≤100000)∧K≤w.heap.size):=⟨bf,bA,hL,bB⟩;unfold ftV at X ⊢;clear bf bA hL bB hF;cases hfe:(Krw j bs l row (h,D)).isEmpty
 ·rw[hfe]at X;have U:Hid (L++tkL 3 row (Krw j bs l row (h,D))=L∧y++tkR 3 (Krw j bs l row (h,D))=y):=by
   show _∧_;have bK:(Krw j bs l row (h,D))≠[]:=fun e=>(by rw[e]at hfe;cases hfe);simp[tkL,tkR,bK]
  go_enter func189,ntmps189
  go_wp2_with (go_at_call 230;refine X.mono ?_;rintro e O ⟨rfl,R⟩)
  go_end0
  refine⟨rfl,?_⟩;rw[U.out.1,U.out.2];exact Kr7.of_below ⟨lv,rv,H.out.1⟩ H.out.2.1 R
 rw[hfe]at X;have U:Hid (L++tkL 3 row (Krw j bs l row (h,D))=L++[(row:Int)]∧y++tkR 3 (Krw j bs l row (h,D))=y):=by
  show _∧_;rw[List.isEmpty_iff.1 hfe];simp[tkL,tkR]
 go_enter func189,ntmps189
 go_wp2_with (first|(go_at_call 230;refine X.mono ?_;rintro e O ⟨rfl,R⟩;have Y:Hid (Ksd j E K L y lv rv O):=H.out.1.blocks (fun k bc=>R.block k (H.out.2.1 k bc));have bC:=Y.out.cells;have bO:O.cell? ⟨j.jb,9,none⟩=some lv:=(by simp[World.cell?,bC,JnE.cells,jnC]);have bx:Hid (L.length≤100000∧y.length≤100000∧K≤O.heap.size):=⟨H.out.2.2.1.1,H.out.2.2.1.2,Ob2 H.out.2.2.2 R.size⟩;have bH:Hid (∀ k,E k→k<O.heap.size):=fun k bc=>Oc2 (H.out.2.1 k bc) R.size;have bG:Hid _:=R;clear R bC)|(at_builtin;go_must (refine Ks (by rfl) _ _ 22 3 _ 8 Kp4 (by rfl) (by decide) (by kernel_rfl) (by rfl) K _ _ (by rfl) (Jo.alloc Y.out.left _) ⟨O.heap.size,0,none⟩ 1 [Ksh (row:Int)] (by rfl) (by exact Ua O _ _) (by intro u bD;simp at bD;subst bD;rfl) (by have:=bx.out;simp only[List.length_cons,List.length_nil,Oa6];omega) (by have:=bx.out;simp;omega) ?_);intro bN bI bj bn bE;obtain⟨bR,bS,bM⟩:∃ a c,bN=.slice a (L.length+1) c:=(by obtain⟨a,c,bL,_⟩:=bj.cells;exact⟨a,c,by simpa using bL⟩);subst bM;have ba:=Y.out.jbL (Jc (Oa5 _ _) _) bn;have bQ:bI.cell? ⟨j.jb,9,none⟩=some lv:=(by simp[World.cell?,ba,JnE.cells,jnC]);have bP:=Lib.frozen_of_heap ba 9;have Z:Hid _:=Y.out.pushL bH.out (Jc (Oa5 _ _) _) bn bj (bE.elim .inl .inr);clear bj bn bE ba))
 go_end0
 refine⟨rfl,?_⟩;rw[U.out.1,U.out.2];exact Kr7.of_step bG.out Z.out.1 Z.out.2.1 Z.out.2.2.1 Z.out.2.2.2
theorem Ktp {w:World}{B:Nat}{sv:Value}{xs:List Int}(h:Jo w B 3 sv (xs.map Ksh)):∃ a cap,sv=.slice a xs.length cap:=by
 obtain⟨a,cap,y,_⟩:=h.cells;rw[Oa6]at y;exact⟨a,cap,y⟩
theorem Kvv (j:JnE)(cf Y:Nat→Prop)(l:List (Nat×(Int×Bool)))(nl nr row bX bY bZ H:Nat)(bs:List Nat)(h:Int)(y:Bool)(L E:List Int)(w:World)(hF:Ks2 j cf l nl nr bs h y row bX bY bZ Y w)(ch:Ks5 j Y H L E w)(bQ:∀ k,Y k→k<w.heap.size)(bR:H≤w.heap.size)(hL:L.length≤100000∧E.length≤100000) :
  Calls prog 187 #[.pointer (some ⟨j.jb,0,none⟩),.int .i64 (row:Nat),ftV bX bY bZ] w fun e w'=>e=.returned (.tuple #[])∧Kr7 j Y H (L++tkL 1 row (Krw j bs l row (h,y))) (E++tkR 1 (Krw j bs l row (h,y))) w w':=by
 have bC:=Kuc j cf Y l nl nr row bX bY bZ H bs h y L E w hF ch bQ bR hL;obtain⟨lv,rv,bU⟩:=ch;obtain⟨cx,lc,rfl⟩:=Ktp bU.left;have K:=bU.cells;have c0:w.cell? ⟨j.jb,9,none⟩=some (.slice cx L.length lc):=by simp[World.cell?,K,JnE.cells,jnC]
 have bM:Hid ((∀ k,Y k→k<w.heap.size)∧(L.length≤100000∧E.length≤100000)∧H≤w.heap.size∧l.length≤200000):=⟨bQ,hL,bR,hF.few⟩;have cE:=hL.1;have cF:(Krw j bs l row (h,y)).length≤200000:=by
  have cu:=hF.few;unfold Krw;split
  ·simp
  exact Ob2 (Ok1 _ _) (Ob2 (Kt7 _ _) cu)
 unfold ftV at bC ⊢;clear bU bQ hL bR hF K;cases hfe:(Krw j bs l row (h,y)).isEmpty
 ·have ci:(Krw j bs l row (h,y))≠[]:=fun e=>by rw[e]at hfe;cases hfe
  have cG:0<(Krw j bs l row (h,y)).length:=Oi9.2 ci;have bj:Hid (tkL 1 row (Krw j bs l row (h,y))=tkL 0 row (Krw j bs l row (h,y))∧tkR 1 (Krw j bs l row (h,y))=tkR 0 (Krw j bs l row (h,y))):=by
   show _∧_;simp[tkL,tkR,ci]
  rw[bj.out.1,bj.out.2];have cv:(tkL 0 row (Krw j bs l row (h,y))).length=(Krw j bs l row (h,y)).length:=by simp[tkL]
  go_enter func187,ntmps187
  go_wp2_with (go_at_call 186;refine bC.mono ?_;rintro e D ⟨rfl,R,⟨cy,bA,X⟩,bx,bz,bB⟩;obtain⟨bE,bG,bT⟩:=Ktp X.left;subst bT;have K:=X.cells;have c1:D.cell? ⟨j.jb,9,none⟩=some (.slice bE (L++tkL 0 row (Krw j bs l row (h,y))).length bG):=(by simp[World.cell?,K,JnE.cells,jnC]);have cb:Hid _:=And.intro X (And.intro bx (And.intro bz bB));have j1:¬ (((L++tkL 0 row (Krw j bs l row (h,y))).length:Int)=(L.length:Int)):=(by rw[Oa8,cv];omega);generalize (L++tkL 0 row (Krw j bs l row (h,y))).length=N at c1 j1;clear X bx bz bB K)
  go_end0
  exact⟨rfl,R,⟨_,_,cb.out.1⟩,cb.out.2⟩
 have bS:=List.isEmpty_iff.1 hfe;have bj:Hid (L++tkL 1 row (Krw j bs l row (h,y))=L++[(row:Int)]∧E++tkR 1 (Krw j bs l row (h,y))=E++[-1]):=by
  show _∧_;rw[bS];simp[tkL,tkR]
 have bP:L++tkL 0 row (Krw j bs l row (h,y))=L∧E++tkR 0 (Krw j bs l row (h,y))=E:=by rw[bS];simp[tkL,tkR]
 rw[bP.1,bP.2]at bC;rw[bj.out.1,bj.out.2];clear bP bS hfe bj;go_enter func187,ntmps187
 go_upto_region 4 with(first|(go_at_call 186;refine bC.mono ?_;rintro e D ⟨rfl,R,⟨cy,bA,X⟩,bx,bz,bB⟩;obtain⟨bE,bG,bT⟩:=Ktp X.left;subst bT;have K:=X.cells;have c1:D.cell? ⟨j.jb,9,none⟩=some (.slice bE L.length bG):=(by simp[World.cell?,K,JnE.cells,jnC]);have bN:Hid (Ksd j R H L E (.slice bE L.length bG) bA D):=X;have bK:Hid (Krx Y w D∧Kr0 Y R w D∧∀ B,KeepsFrom B w D):=And.intro bx (And.intro bz bB);have O:Hid (L.length≤100000∧E.length≤100000∧H≤D.heap.size):=⟨bM.out.2.1.1,bM.out.2.1.2,Ob2 bM.out.2.2.1 bx.1⟩;have bI:Hid (∀ k,R k→k<D.heap.size):=bz.2.2;clear X bx bz bB K)|(at_builtin;go_must (refine Ks (by rfl) _ _ 22 3 _ 8 Kp4 (by rfl) (by decide) (by kernel_rfl) (by rfl) H _ _ (by rfl) (Jo.alloc bN.out.left _) ⟨D.heap.size,0,none⟩ 1 [Ksh (row:Int)] (by rfl) (by exact Ua D _ _) (by intro u bD;simp at bD;subst bD;rfl) (by have:=O.out;simp only[List.length_cons,List.length_nil,Oa6];omega) (by have:=O.out;simp;omega) ?_);intro cB br bc bf bH;obtain⟨bh,bi,bW⟩:∃ a c,cB=.slice a (L.length+1) c:=(by obtain⟨a,c,bV,_⟩:=bc.cells;exact⟨a,c,by simpa using bV⟩);subst bW;have ba:=bN.out.jbL (Jc (Oa5 _ _) _) bf;have cz:br.cell? ⟨j.jb,9,none⟩=some (.slice bE L.length bG):=(by simp[World.cell?,ba,JnE.cells,jnC]);have cn:=Lib.frozen_of_heap ba 9;have cc:Hid _:=bN.out.pushL bI.out (Jc (Oa5 _ _) _) bf bc (bH.elim .inl .inr);clear bc bf bH ba))
 obtain⟨bn,Z⟩:∃ bn,Ksd j bn H (L++[(row:Int)]) E (.slice bh (L.length+1) bi) bA (br.setCell ⟨j.jb,9,none⟩ (.slice bh (L.length+1) bi))∧Krx R D (br.setCell ⟨j.jb,9,none⟩ (.slice bh (L.length+1) bi))∧Kr0 R bn D (br.setCell ⟨j.jb,9,none⟩ (.slice bh (L.length+1) bi))∧∀ B,KeepsFrom B D (br.setCell ⟨j.jb,9,none⟩ (.slice bh (L.length+1) bi)):=⟨_,cc.out⟩;generalize br.setCell ⟨j.jb,9,none⟩ (.slice bh (L.length+1) bi)=U at Z ⊢;have K:=Z.1.cells;have cC:U.cell? ⟨j.jb,10,none⟩=some bA:=by simp[World.cell?,K,JnE.cells,jnC]
 have bO:Hid (Ksd j bn H (L++[(row:Int)]) E (.slice bh (L.length+1) bi) bA U):=Z.1;have bL:Hid (Krx R D U∧Kr0 R bn D U∧∀ B,KeepsFrom B D U):=Z.2;have ca:Hid (L.length≤100000∧E.length≤100000∧H≤U.heap.size):=⟨O.out.1,O.out.2.1,Ob2 O.out.2.2 Z.2.1.1⟩;clear cc O bI cz cn c0 c1 K bC;have bI:Hid (∀ k,bn k→k<U.heap.size):=Z.2.2.1.2.2;have O:=ca;clear Z ca;go_wp2_with ((at_builtin;go_must (refine Ks (by rfl) _ _ 22 3 _ 8 Kp4 (by rfl) (by decide) (by kernel_rfl) (by rfl) H _ _ (by rfl) (Jo.alloc bO.out.right _) ⟨U.heap.size,0,none⟩ 1 [Ksh (-1)] (by rfl) (by exact Ua U _ _) (by intro u bD;simp at bD;subst bD;rfl) (by have:=O.out;simp only[List.length_cons,List.length_nil,Oa6];omega) (by have:=O.out;simp;omega) ?_);intro cA cj bc bf bH;obtain⟨cI,cJ,bW⟩:∃ a c,cA=.slice a (E.length+1) c:=(by obtain⟨a,c,bV,_⟩:=bc.cells;exact⟨a,c,by simpa using bV⟩);subst bW;have ba:=bO.out.jbR (Jc (Oa5 _ _) _) bf;have cH:cj.cell? ⟨j.jb,10,none⟩=some bA:=(by simp[World.cell?,ba,JnE.cells,jnC]);have cD:=Lib.frozen_of_heap ba 10;have bJ:Hid _:=bO.out.pushR bI.out (Jc (Oa5 _ _) _) bf bc (bH.elim .inl .inr);clear bc bf bH ba))
 go_end0
 exact⟨rfl,Kr7.trans bK.out.1 bK.out.2.1 bK.out.2.2 (Kr7.trans bL.out.1 bL.out.2.1 bL.out.2.2 (Kr7.of_step (Oa5 _ _) bJ.out.1 bJ.out.2.1 bJ.out.2.2.1 bJ.out.2.2.2))⟩
def tkF (k:Nat):Nat:=match k with
 |0=>186
 |1=>187
 |2=>188
 |_=>189
theorem Kwg (k:Nat)(ba:k<4)(j:JnE)(U y:Nat→Prop)(l:List (Nat×(Int×Bool)))(nl nr row K O R E:Nat)(bs:List Nat)(h:Int)(H:Bool)(L D:List Int)(w:World)(hF:Ks2 j U l nl nr bs h H row K O R y w)(Y:Ks5 j y E L D w)(X:∀ k,y k→k<w.heap.size)(Z:E≤w.heap.size)(hL:L.length≤100000∧D.length≤100000) :
  Calls prog (tkF k) #[.pointer (some ⟨j.jb,0,none⟩),.int .i64 (row:Nat),ftV K O R] w fun e w'=>e=.returned (.tuple #[])∧Kr7 j y E (L++tkL k row (Krw j bs l row (h,H))) (D++tkR k (Krw j bs l row (h,H))) w w':=by
 match k,ba with
 |0,_=>exact Kuc j U y l nl nr row K O R E bs h H L D w hF Y X Z hL
 |1,_=>exact Kvv j U y l nl nr row K O R E bs h H L D w hF Y X Z hL
 |2,_=>exact Kwt j U y l nl nr row K O R E bs h H L D w hF Y X Z hL
 |3,_=>exact Kwq j U y l nl nr row K O R E bs h H L D w hF Y X Z hL
end Go.Proofs.YtpchafocmlhmbaaGreatDoor
