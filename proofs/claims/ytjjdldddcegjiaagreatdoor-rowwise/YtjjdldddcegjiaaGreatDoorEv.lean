/- The node, the row, the column and the page of an error that the program makes. -/
import Derived.Test.YtjjdldddcegjiaaGreatDoorEu
set_option maxHeartbeats 2000000
namespace Go.Proofs.YtjjdldddcegjiaaGreatDoor
open Go.RowKit Go.Extern.Stop Go.Stop Go.Extern Tryz
theorem Jxf (w:World):Calls prog 50 #[.nilIface] w fun e w'=>e=.returned (.int .i64 (-1))∧Below w.heap.size w w':=by
 go_enter func50,ntmps50
 go_wp2_with fail
 refine(Ji9 _ _).mono ?_
 rintro e w' ⟨rfl,rfl⟩
 go_wp2_with fail
 go_ret
 exact⟨rfl,(Oa5 _ _).alloc (Oa2 _) _⟩
theorem Jvx (v:Value)(x:Option Int)(w:World)(h:∃ k,Qn w 111 0 k v x)(C:w.cell? ⟨14,0,none⟩=some (.iface 236 (.agg #[.pointer (some ⟨17,77,none⟩)]))) :
  Calls prog 50 #[v] w fun e w'=>e=.returned (.int .i64 (x.getD (-1)))∧Below w.heap.size w w':=by
 have y:Below w.heap.size w (w.alloc (.cells #[.pointer none] 111)):=(Oa5 _ w).alloc (Oa2 _) _
 have A:=Jgu _ _ 0 Kdd v x w.heap.size (w.alloc (.cells #[.pointer none] 111)) w.heap.size (by obtain⟨k,D⟩:=h;exact⟨k,D.stay y⟩) (Ja y C) (heap_alloc_new _ _) (Oa2 _)
 clear h
 go_enter func50,ntmps50
 go_wp2_with fail
 refine A.mono ?_
 rintro e w' ⟨z,⟨rfl,rfl,_⟩|⟨b,K,rfl,rfl,E,H⟩⟩
 ·go_wp2_with fail
  go_ret
  exact⟨rfl,y.trans z⟩
 go_wp2_with fail
 go_ret
 exact⟨rfl,y.trans z⟩
theorem Jz5 (w:World):Calls prog 51 #[.nilIface] w fun e w'=>e=.returned (.int .i64 (-1))∧Below w.heap.size w w':=by
 go_enter func51,ntmps51
 go_wp2_with fail
 refine(Ji9 _ _).mono ?_
 rintro e w' ⟨rfl,rfl⟩
 go_wp2_with fail
 refine(Ji9 _ _).mono ?_
 rintro e w' ⟨rfl,rfl⟩
 go_wp2_with fail
 go_ret
 exact⟨rfl,((Oa5 _ _).alloc (Oa2 _) _).alloc (by simp) _⟩
theorem Kau (v:Value)(x z:Option Int)(w:World)(h:∃ k,Qn w 159 0 k v x)(R:∃ k,Qn w 160 0 k v z)(K:w.cell? ⟨14,0,none⟩=some (.iface 236 (.agg #[.pointer (some ⟨17,77,none⟩)]))) :
  Calls prog 51 #[v] w fun e w'=>e=.returned (.int .i64 ((x.or z).getD (-1)))∧Below w.heap.size w w':=by
 have A:Below w.heap.size w ((w.alloc (.cells #[.pointer none] 159)).alloc (.cells #[.pointer none] 160)):=((Oa5 _ w).alloc (Oa2 _) _).alloc (by simp) _
 have Z:((w.alloc (.cells #[.pointer none] 159)).alloc (.cells #[.pointer none] 160)).heap[w.heap.size]?=some (.cells #[.pointer none] 159 (0,0)):=by
  rw[((Oa5 _ (w.alloc (.cells #[.pointer none] 159))).alloc (Oa2 _) (.cells #[.pointer none] 160)).block _ (by simp)];exact heap_alloc_new _ _
 have bc:((w.alloc (.cells #[.pointer none] 159)).alloc (.cells #[.pointer none] 160)).heap[w.heap.size+1]?=some (.cells #[.pointer none] 160 (0,0)):=by
  have:=heap_alloc_new (w.alloc (.cells #[.pointer none] 159)) (.cells #[.pointer none] 160)
  simpa using this
 have X:=Jgu _ _ 0 Kea v x w.heap.size ((w.alloc (.cells #[.pointer none] 159)).alloc (.cells #[.pointer none] 160)) w.heap.size (by obtain⟨k,M⟩:=h;exact⟨k,M.stay A⟩) (Ja A K) Z (Oa2 _)
 have E:Hid (∀ W,Below ((w.alloc (.cells #[.pointer none] 159)).alloc (.cells #[.pointer none] 160)).heap.size ((w.alloc (.cells #[.pointer none] 159)).alloc (.cells #[.pointer none] 160)) W→Below w.heap.size w W∧Calls prog 68 #[v,.iface 164 (.pointer (some ⟨w.heap.size+1,0,none⟩))] W fun e w'=>Below w.heap.size W w'∧((z=none∧e=.returned (.bool false)∧Below W.heap.size W w')∨∃ b D,z=some D∧e=.returned (.bool true)∧w'.cell? ⟨w.heap.size+1,0,none⟩=some (.pointer (some ⟨b,0,none⟩))∧w'.cell? ⟨b,0,none⟩=some (.int .i64 D))):=fun W hW=>by
  have H:=Jb A hW
  exact⟨H,Jgu _ _ 0 Jx1 v z (w.heap.size+1) W w.heap.size (by obtain⟨k,M⟩:=R;exact⟨k,M.stay H⟩) (Ja H K) (by rw[hW.block _ (by simp)];exact bc) (by omega)⟩
 clear h R Z bc K
 go_enter func51,ntmps51
 go_wp2_with fail
 refine X.mono ?_
 rintro e w' ⟨y,⟨rfl,rfl,C⟩|⟨b,D,rfl,rfl,bh,bi⟩⟩
 ·obtain⟨U,bf⟩:=E.out _ C
  have O:Hid (Below w.heap.size w w'):=U
  clear U C y X E
  go_wp2_with fail
  refine bf.mono ?_
  rintro e bj ⟨y,⟨rfl,rfl,C⟩|⟨b,D,rfl,rfl,bh,bi⟩⟩
  ·clear C
   go_wp2_with fail
   go_ret
   exact⟨rfl,O.out.trans y⟩
  go_wp2_with fail
  go_ret
  exact⟨rfl,O.out.trans y⟩
 clear E
 go_wp2_with fail
 go_ret
 exact⟨rfl,A.trans y⟩
theorem Jqq (w:World):Calls prog 52 #[.nilIface] w fun e w'=>e=.returned (.int .i64 (-1))∧Below w.heap.size w w':=by
 go_enter func52,ntmps52
 go_wp2_with fail
 refine(Ji9 _ _).mono ?_
 rintro e w' ⟨rfl,rfl⟩
 go_wp2_with fail
 refine(Ji9 _ _).mono ?_
 rintro e w' ⟨rfl,rfl⟩
 go_wp2_with fail
 go_ret
 exact⟨rfl,((Oa5 _ _).alloc (Oa2 _) _).alloc (by simp) _⟩
theorem Jqi (v:Value)(x z:Option Int)(w:World)(h:∃ k,Qn w 133 1 k v x)(R:∃ k,Qn w 160 1 k v z)(K:w.cell? ⟨14,0,none⟩=some (.iface 236 (.agg #[.pointer (some ⟨17,77,none⟩)]))) :
  Calls prog 52 #[v] w fun e w'=>e=.returned (.int .i64 ((x.or z).getD (-1)))∧Below w.heap.size w w':=by
 have A:Below w.heap.size w ((w.alloc (.cells #[.pointer none] 133)).alloc (.cells #[.pointer none] 160)):=((Oa5 _ w).alloc (Oa2 _) _).alloc (by simp) _
 have Z:((w.alloc (.cells #[.pointer none] 133)).alloc (.cells #[.pointer none] 160)).heap[w.heap.size]?=some (.cells #[.pointer none] 133 (0,0)):=by
  rw[((Oa5 _ (w.alloc (.cells #[.pointer none] 133))).alloc (Oa2 _) (.cells #[.pointer none] 160)).block _ (by simp)];exact heap_alloc_new _ _
 have bc:((w.alloc (.cells #[.pointer none] 133)).alloc (.cells #[.pointer none] 160)).heap[w.heap.size+1]?=some (.cells #[.pointer none] 160 (0,0)):=by
  have:=heap_alloc_new (w.alloc (.cells #[.pointer none] 133)) (.cells #[.pointer none] 160)
  simpa using this
 have X:=Jgu _ _ 1 Kf1 v x w.heap.size ((w.alloc (.cells #[.pointer none] 133)).alloc (.cells #[.pointer none] 160)) w.heap.size (by obtain⟨k,M⟩:=h;exact⟨k,M.stay A⟩) (Ja A K) Z (Oa2 _)
 have E:Hid (∀ W,Below ((w.alloc (.cells #[.pointer none] 133)).alloc (.cells #[.pointer none] 160)).heap.size ((w.alloc (.cells #[.pointer none] 133)).alloc (.cells #[.pointer none] 160)) W→Below w.heap.size w W∧Calls prog 68 #[v,.iface 164 (.pointer (some ⟨w.heap.size+1,0,none⟩))] W fun e w'=>Below w.heap.size W w'∧((z=none∧e=.returned (.bool false)∧Below W.heap.size W w')∨∃ b D,z=some D∧e=.returned (.bool true)∧w'.cell? ⟨w.heap.size+1,0,none⟩=some (.pointer (some ⟨b,0,none⟩))∧w'.cell? ⟨b,1,none⟩=some (.int .i64 D))):=fun W hW=>by
  have H:=Jb A hW
  exact⟨H,Jgu _ _ 1 Jx1 v z (w.heap.size+1) W w.heap.size (by obtain⟨k,M⟩:=R;exact⟨k,M.stay H⟩) (Ja H K) (by rw[hW.block _ (by simp)];exact bc) (by omega)⟩
 clear h R Z bc K
 go_enter func52,ntmps52
 go_wp2_with fail
 refine X.mono ?_
 rintro e w' ⟨y,⟨rfl,rfl,C⟩|⟨b,D,rfl,rfl,bh,bi⟩⟩
 ·obtain⟨U,bf⟩:=E.out _ C
  have O:Hid (Below w.heap.size w w'):=U
  clear U C y X E
  go_wp2_with fail
  refine bf.mono ?_
  rintro e bj ⟨y,⟨rfl,rfl,C⟩|⟨b,D,rfl,rfl,bh,bi⟩⟩
  ·clear C
   go_wp2_with fail
   go_ret
   exact⟨rfl,O.out.trans y⟩
  go_wp2_with fail
  go_ret
  exact⟨rfl,O.out.trans y⟩
 clear E
 go_wp2_with fail
 go_ret
 exact⟨rfl,A.trans y⟩
theorem Jvp (w:World):Calls prog 53 #[.nilIface] w fun e w'=>e=.returned (.int .i64 (-1))∧Below w.heap.size w w':=by
 go_enter func53,ntmps53
 go_wp2_with fail
 refine(Ji9 _ _).mono ?_
 rintro e w' ⟨rfl,rfl⟩
 go_wp2_with fail
 go_ret
 exact⟨rfl,(Oa5 _ _).alloc (Oa2 _) _⟩
theorem Jv7 (v:Value)(x:Option Int)(w:World)(h:∃ k,Qn w 168 1 k v x)(C:w.cell? ⟨14,0,none⟩=some (.iface 236 (.agg #[.pointer (some ⟨17,77,none⟩)]))) :
  Calls prog 53 #[v] w fun e w'=>e=.returned (.int .i64 (x.getD (-1)))∧Below w.heap.size w w':=by
 have y:Below w.heap.size w (w.alloc (.cells #[.pointer none] 168)):=(Oa5 _ w).alloc (Oa2 _) _
 have A:=Jgu _ _ 1 Kco v x w.heap.size (w.alloc (.cells #[.pointer none] 168)) w.heap.size (by obtain⟨k,D⟩:=h;exact⟨k,D.stay y⟩) (Ja y C) (heap_alloc_new _ _) (Oa2 _)
 clear h
 go_enter func53,ntmps53
 go_wp2_with fail
 refine A.mono ?_
 rintro e w' ⟨z,⟨rfl,rfl,_⟩|⟨b,K,rfl,rfl,E,H⟩⟩
 ·go_wp2_with fail
  go_ret
  exact⟨rfl,y.trans z⟩
 go_wp2_with fail
 go_ret
 exact⟨rfl,y.trans z⟩
end Go.Proofs.YtjjdldddcegjiaaGreatDoor
