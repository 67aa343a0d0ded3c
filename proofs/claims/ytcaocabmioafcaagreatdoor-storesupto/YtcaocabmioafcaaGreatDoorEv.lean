/- The node, the row, the column and the page of an error that the program makes. -/
import Derived.Test.YtcaocabmioafcaaGreatDoorEu
set_option maxHeartbeats 2000000
namespace Go.Proofs.YtcaocabmioafcaaGreatDoor
open Go.RowKit Go.Extern.Stop Go.Stop Go.Extern Tryz
theorem Jxf (w:World):Calls prog 69 #[.nilIface] w fun e w'=>e=.returned (.int .i64 (-1))∧Below w.heap.size w w':=by
 go_enter func69,ntmps69
 go_wp2_with fail
 refine(Ji9 _ _).mono ?_
 rintro e w' ⟨rfl,rfl⟩
 go_wp2_with fail
 go_ret
 exact⟨rfl,(Oa5 _ _).alloc (Oa2 _) _⟩
theorem Jvx (v:Value)(x:Option Int)(w:World)(h:∃ k,Qn w 197 0 k v x)(J:w.cell? ⟨14,0,none⟩=some (.iface 302 (.agg #[.pointer (some ⟨17,108,none⟩)]))) :
  Calls prog 69 #[v] w fun e w'=>e=.returned (.int .i64 (x.getD (-1)))∧Below w.heap.size w w':=by
 have A:Below w.heap.size w (w.alloc (.cells #[.pointer none] 197)):=(Oa5 _ w).alloc (Oa2 _) _
 have I:=Jgu _ _ 0 Kdd v x w.heap.size (w.alloc (.cells #[.pointer none] 197)) w.heap.size (by obtain⟨k,K⟩:=h;exact⟨k,K.stay A⟩) (Ja A J) (heap_alloc_new _ _) (Oa2 _)
 clear h
 go_enter func69,ntmps69
 go_wp2_with fail
 refine I.mono ?_
 rintro e w' ⟨H,⟨rfl,rfl,_⟩|⟨b,y,rfl,rfl,L,M⟩⟩
 ·go_wp2_with fail
  go_ret
  exact⟨rfl,A.trans H⟩
 go_wp2_with fail
 go_ret
 exact⟨rfl,A.trans H⟩
theorem Jz5 (w:World):Calls prog 70 #[.nilIface] w fun e w'=>e=.returned (.int .i64 (-1))∧Below w.heap.size w w':=by
 go_enter func70,ntmps70
 go_wp2_with fail
 refine(Ji9 _ _).mono ?_
 rintro e w' ⟨rfl,rfl⟩
 go_wp2_with fail
 refine(Ji9 _ _).mono ?_
 rintro e w' ⟨rfl,rfl⟩
 go_wp2_with fail
 go_ret
 exact⟨rfl,((Oa5 _ _).alloc (Oa2 _) _).alloc (by simp) _⟩
theorem Kau (v:Value)(x y:Option Int)(w:World)(h:∃ k,Qn w 202 0 k v x)(O:∃ k,Qn w 203 0 k v y)(L:w.cell? ⟨14,0,none⟩=some (.iface 302 (.agg #[.pointer (some ⟨17,108,none⟩)]))) :
  Calls prog 70 #[v] w fun e w'=>e=.returned (.int .i64 ((x.or y).getD (-1)))∧Below w.heap.size w w':=by
 have H:Below w.heap.size w ((w.alloc (.cells #[.pointer none] 202)).alloc (.cells #[.pointer none] 203)):=((Oa5 _ w).alloc (Oa2 _) _).alloc (by simp) _
 have k1:((w.alloc (.cells #[.pointer none] 202)).alloc (.cells #[.pointer none] 203)).heap[w.heap.size]?=some (.cells #[.pointer none] 202 (0,0)):=by
  rw[((Oa5 _ (w.alloc (.cells #[.pointer none] 202))).alloc (Oa2 _) (.cells #[.pointer none] 203)).block _ (by simp)];exact heap_alloc_new _ _
 have X:((w.alloc (.cells #[.pointer none] 202)).alloc (.cells #[.pointer none] 203)).heap[w.heap.size+1]?=some (.cells #[.pointer none] 203 (0,0)):=by
  have:=heap_alloc_new (w.alloc (.cells #[.pointer none] 202)) (.cells #[.pointer none] 203)
  simpa using this
 have U:=Jgu _ _ 0 Kea v x w.heap.size ((w.alloc (.cells #[.pointer none] 202)).alloc (.cells #[.pointer none] 203)) w.heap.size (by obtain⟨k,M⟩:=h;exact⟨k,M.stay H⟩) (Ja H L) k1 (Oa2 _)
 have J:Hid (∀ W,Below ((w.alloc (.cells #[.pointer none] 202)).alloc (.cells #[.pointer none] 203)).heap.size ((w.alloc (.cells #[.pointer none] 202)).alloc (.cells #[.pointer none] 203)) W→Below w.heap.size w W∧Calls prog 101 #[v,.iface 207 (.pointer (some ⟨w.heap.size+1,0,none⟩))] W fun e w'=>Below w.heap.size W w'∧((y=none∧e=.returned (.bool false)∧Below W.heap.size W w')∨∃ b z,y=some z∧e=.returned (.bool true)∧w'.cell? ⟨w.heap.size+1,0,none⟩=some (.pointer (some ⟨b,0,none⟩))∧w'.cell? ⟨b,0,none⟩=some (.int .i64 z))):=fun W hW=>by
  have K:=Jb H hW
  exact⟨K,Jgu _ _ 0 Jx1 v y (w.heap.size+1) W w.heap.size (by obtain⟨k,M⟩:=O;exact⟨k,M.stay K⟩) (Ja K L) (by rw[hW.block _ (by simp)];exact X) (by omega)⟩
 clear h O k1 X L
 go_enter func70,ntmps70
 go_wp2_with fail
 refine U.mono ?_
 rintro e w' ⟨A,⟨rfl,rfl,I⟩|⟨b,z,rfl,rfl,Z,ba⟩⟩
 ·obtain⟨R,Y⟩:=J.out _ I
  have N:Hid (Below w.heap.size w w'):=R
  clear R I A U J
  go_wp2_with fail
  refine Y.mono ?_
  rintro e bb ⟨A,⟨rfl,rfl,I⟩|⟨b,z,rfl,rfl,Z,ba⟩⟩
  ·clear I
   go_wp2_with fail
   go_ret
   exact⟨rfl,N.out.trans A⟩
  go_wp2_with fail
  go_ret
  exact⟨rfl,N.out.trans A⟩
 clear J
 go_wp2_with fail
 go_ret
 exact⟨rfl,H.trans A⟩
theorem Jqq (w:World):Calls prog 71 #[.nilIface] w fun e w'=>e=.returned (.int .i64 (-1))∧Below w.heap.size w w':=by
 go_enter func71,ntmps71
 go_wp2_with fail
 refine(Ji9 _ _).mono ?_
 rintro e w' ⟨rfl,rfl⟩
 go_wp2_with fail
 refine(Ji9 _ _).mono ?_
 rintro e w' ⟨rfl,rfl⟩
 go_wp2_with fail
 go_ret
 exact⟨rfl,((Oa5 _ _).alloc (Oa2 _) _).alloc (by simp) _⟩
theorem Jqi (v:Value)(x y:Option Int)(w:World)(h:∃ k,Qn w 187 1 k v x)(O:∃ k,Qn w 203 1 k v y)(L:w.cell? ⟨14,0,none⟩=some (.iface 302 (.agg #[.pointer (some ⟨17,108,none⟩)]))) :
  Calls prog 71 #[v] w fun e w'=>e=.returned (.int .i64 ((x.or y).getD (-1)))∧Below w.heap.size w w':=by
 have H:Below w.heap.size w ((w.alloc (.cells #[.pointer none] 187)).alloc (.cells #[.pointer none] 203)):=((Oa5 _ w).alloc (Oa2 _) _).alloc (by simp) _
 have k1:((w.alloc (.cells #[.pointer none] 187)).alloc (.cells #[.pointer none] 203)).heap[w.heap.size]?=some (.cells #[.pointer none] 187 (0,0)):=by
  rw[((Oa5 _ (w.alloc (.cells #[.pointer none] 187))).alloc (Oa2 _) (.cells #[.pointer none] 203)).block _ (by simp)];exact heap_alloc_new _ _
 have X:((w.alloc (.cells #[.pointer none] 187)).alloc (.cells #[.pointer none] 203)).heap[w.heap.size+1]?=some (.cells #[.pointer none] 203 (0,0)):=by
  have:=heap_alloc_new (w.alloc (.cells #[.pointer none] 187)) (.cells #[.pointer none] 203)
  simpa using this
 have U:=Jgu _ _ 1 Kf1 v x w.heap.size ((w.alloc (.cells #[.pointer none] 187)).alloc (.cells #[.pointer none] 203)) w.heap.size (by obtain⟨k,M⟩:=h;exact⟨k,M.stay H⟩) (Ja H L) k1 (Oa2 _)
 have J:Hid (∀ W,Below ((w.alloc (.cells #[.pointer none] 187)).alloc (.cells #[.pointer none] 203)).heap.size ((w.alloc (.cells #[.pointer none] 187)).alloc (.cells #[.pointer none] 203)) W→Below w.heap.size w W∧Calls prog 101 #[v,.iface 207 (.pointer (some ⟨w.heap.size+1,0,none⟩))] W fun e w'=>Below w.heap.size W w'∧((y=none∧e=.returned (.bool false)∧Below W.heap.size W w')∨∃ b z,y=some z∧e=.returned (.bool true)∧w'.cell? ⟨w.heap.size+1,0,none⟩=some (.pointer (some ⟨b,0,none⟩))∧w'.cell? ⟨b,1,none⟩=some (.int .i64 z))):=fun W hW=>by
  have K:=Jb H hW
  exact⟨K,Jgu _ _ 1 Jx1 v y (w.heap.size+1) W w.heap.size (by obtain⟨k,M⟩:=O;exact⟨k,M.stay K⟩) (Ja K L) (by rw[hW.block _ (by simp)];exact X) (by omega)⟩
 clear h O k1 X L
 go_enter func71,ntmps71
 go_wp2_with fail
 refine U.mono ?_
 rintro e w' ⟨A,⟨rfl,rfl,I⟩|⟨b,z,rfl,rfl,Z,ba⟩⟩
 ·obtain⟨R,Y⟩:=J.out _ I
  have N:Hid (Below w.heap.size w w'):=R
  clear R I A U J
  go_wp2_with fail
  refine Y.mono ?_
  rintro e bb ⟨A,⟨rfl,rfl,I⟩|⟨b,z,rfl,rfl,Z,ba⟩⟩
  ·clear I
   go_wp2_with fail
   go_ret
   exact⟨rfl,N.out.trans A⟩
  go_wp2_with fail
  go_ret
  exact⟨rfl,N.out.trans A⟩
 clear J
 go_wp2_with fail
 go_ret
 exact⟨rfl,H.trans A⟩
theorem Jvp (w:World):Calls prog 72 #[.nilIface] w fun e w'=>e=.returned (.int .i64 (-1))∧Below w.heap.size w w':=by
 go_enter func72,ntmps72
 go_wp2_with fail
 refine(Ji9 _ _).mono ?_
 rintro e w' ⟨rfl,rfl⟩
 go_wp2_with fail
 go_ret
 exact⟨rfl,(Oa5 _ _).alloc (Oa2 _) _⟩
theorem Jv7 (v:Value)(x:Option Int)(w:World)(h:∃ k,Qn w 211 1 k v x)(J:w.cell? ⟨14,0,none⟩=some (.iface 302 (.agg #[.pointer (some ⟨17,108,none⟩)]))) :
  Calls prog 72 #[v] w fun e w'=>e=.returned (.int .i64 (x.getD (-1)))∧Below w.heap.size w w':=by
 have A:Below w.heap.size w (w.alloc (.cells #[.pointer none] 211)):=(Oa5 _ w).alloc (Oa2 _) _
 have I:=Jgu _ _ 1 Kco v x w.heap.size (w.alloc (.cells #[.pointer none] 211)) w.heap.size (by obtain⟨k,K⟩:=h;exact⟨k,K.stay A⟩) (Ja A J) (heap_alloc_new _ _) (Oa2 _)
 clear h
 go_enter func72,ntmps72
 go_wp2_with fail
 refine I.mono ?_
 rintro e w' ⟨H,⟨rfl,rfl,_⟩|⟨b,y,rfl,rfl,L,M⟩⟩
 ·go_wp2_with fail
  go_ret
  exact⟨rfl,A.trans H⟩
 go_wp2_with fail
 go_ret
 exact⟨rfl,A.trans H⟩
end Go.Proofs.YtcaocabmioafcaaGreatDoor
