/- What package segments' Pack answers: for every type, way and list of values. -/
import Derived.Test.YtdlgbphkaicfaaaGreatDoorIv
import Derived.Test.YtdlgbphkaicfaaaGreatDoorEw
set_option maxHeartbeats 1000000
set_option maxRecDepth 100000
namespace Go.Proofs.YtdlgbphkaicfaaaGreatDoor
open Go.RowKit Tryz
theorem Jvw:(prog.info? 205).map (fun i=>i.size)=some 1:=by kernel_rfl
theorem Jbb (y A D E:Value)(w:World) :
  (Instr.index 206 (.agg #[y,A,D,E]) (.int .i64 0)).run prog w=.ok y w ∧
  (Instr.index 206 (.agg #[y,A,D,E]) (.int .i64 1)).run prog w=.ok A w ∧
  (Instr.index 206 (.agg #[y,A,D,E]) (.int .i64 2)).run prog w=.ok D w ∧
  (Instr.index 206 (.agg #[y,A,D,E]) (.int .i64 3)).run prog w=.ok E w:=by
 obtain⟨i,hi,hs⟩:=Oe9.1 Jvw
 refine⟨?_,?_,?_,?_⟩<;>simp[Instr.index,run_underlying underlying206,run_underlying underlying205,asIntOf,part,isAgg,sizeOf,typeInfo,hi,hs]
def Jdq (t:Int)(xs:List V):Prop:=xs.length≤64∧∀ j (y:j<xs.length),okB t xs[j].k xs[j].n xs[j].s=true
def Jdt (t y:Int)(l:List V):List UInt8:=
 if y=0 then Yv l else if y=1 then Jds l else if y=2 then Yc l else Zz t l
def Jav (t y:Int)(xs:List V):List UInt8:=Kz t y xs++Jdt t y (Jz xs)
theorem Jgz (t:Int)(xs:List V)(h:Jdq t xs):∀ v∈Jz xs,good v.k v.s:=by
 intro v E
 obtain⟨D,A⟩:=Om0.1 E
 obtain⟨j,y,rfl⟩:=Od5 D
 have:=h.2 j y
 unfold okB okK at this
 simp at this A
 unfold good
 omega
theorem Jkz (w:World)(B:Nat)(t:Int)(y:B≤w.heap.size):WAt (w.alloc (.cells #[.int .i64 t,.slice none 0 0] 203)) B w.heap.size t []:=
 ⟨y,.slice none 0 0,heap_alloc_new _ _,Jo.nil _ _ _,by simp[Value.ownBlock]⟩
theorem Jgw (w:World)(t:Int){k:Nat}(y:k<w.heap.size):Ya (w.alloc (.cells #[.int .i64 t,.slice none 0 0] 203)) w.heap.size k:=by
 refine⟨by simp;omega,by omega,fun sv hs=>?_⟩
 have:sv=.slice none 0 0:=by simpa using hs.symm
 subst this
 simp[Value.ownBlock]
theorem Jdw {w w':World}{B g:Nat}{t:Int}{bs:List UInt8}(h:WAt w B g t bs)(y:Ky w w' g)(A:World)(E:B=A.heap.size)(h0:Below A.heap.size A w):Below A.heap.size A w':=by
 refine⟨y.os.trans h0.os,y.tape.trans h0.tape,y.output.trans h0.output,Ob2 h0.size y.size,fun k D=>?_⟩
 have hs:=h0.size
 rw[(y.block k (h.apart (by omega) (by omega))).1,h0.block k D]
theorem Jzl (t A:Int)(a:Option Addr)(cap:Nat)(xs:List V)(w:World)(hn:xs.length≤maxLen)(U:Jv w a xs)(y:Value)(D:w.cell? ⟨15,0,none⟩=some y)(K:¬ (way t A=true∧Jdq t xs)) :
  Calls prog 64 #[.int .i64 t,.int .i64 A,.slice a xs.length cap] w fun e w'=>e=.returned (.tuple #[.string (Qw []),y])∧Below w.heap.size w w':=by
 cases hway:way t A
 ·go_enter func64,ntmps64
  go_wp2_with (go_at_call 60;refine(Ja3 _ _ _).mono ?_;rintro e w' ⟨rfl,R⟩;rw[hway];subst w')
  go_quiet (fail)
  go_wp2
  go_ret2
  exact⟨rfl,Jp (Oa5 _ _) _⟩
 have E:¬ Jdq t xs:=fun h=>K ⟨hway,h⟩
 have O:Hid (false=true↔xs.length≤64∧∀ j (Z:j<xs.length),okB t xs[j].k xs[j].n xs[j].s=true):=⟨fun h=>by simp at h,fun h=>absurd h E⟩
 clear K E
 have M:=Jm D
 simp only at M
 go_enter func64,ntmps64
 go_wp2_with (first
  |(go_at_call 60;refine(Ja3 _ _ _).mono ?_;rintro e w' ⟨rfl,R⟩;rw[hway];subst w')
  |(go_at_call 89;refine(Zl t a cap xs _ hn U false O.out).mono ?_;rintro e w1 ⟨rfl,H⟩;have X:w1.cell? ⟨15,0,none⟩=some y:=(by rw[(Kx H).1 15 0 M];exact D)))
 go_quiet (fail)
 go_wp2
 go_ret2
 exact⟨rfl,Jp H _⟩
theorem Jiv {w:World}{B g:Nat}{t:Int}{bs:List UInt8}(h:WAt w B g t bs)(E:bs≠[]){sv:Value}(h1:w.cell? ⟨g,1,none⟩=some sv):(convert 201 9 sv).run prog w=.ok (.string (Qw bs)) w:=by
 obtain⟨sv',_,A,_,H,_⟩:=h.cells
 rw[h1]at A
 cases A
 obtain⟨a,cap,rfl,y⟩:=H.cells
 rw[Oa6]
 rcases y with y|⟨b,o,rfl,_,y⟩
 ·exact absurd (List.map_eq_nil_iff.1 y) E
 refine Jc6 w ⟨b,o,none⟩ cap bs fun j u D=>?_
 rw[Addr.add_mid]
 exact y j u D
theorem Jtj (t:Int)(a:Option Addr)(cap:Nat)(xs:List V)(w:World)(hn:xs.length≤maxLen)(R:Jv w a xs)(bS:way t 0=true)(M:Jdq t xs) :
  Calls prog 64 #[.int .i64 t,.int .i64 0,.slice a xs.length cap] w fun e w'=>e=.returned (.tuple #[.string (Qw (Jav t 0 xs)),.nilIface])∧Below w.heap.size w w':=by
 have X:=M.1
 have bZ:=Zy xs
 have bH:=Jgz t xs M
 have bn:Hid (Jav t 0 xs=Kz t 0 xs++Yv (Jz xs)):=rfl
 have bY:(Kz t 0 xs).length≤1000:=by unfold Kz;rw[Oa8,Qb,Oa6];simp only[List.length_cons,List.length_nil];omega
 have bI:Kz t 0 xs≠[]:=by simp[Kz]
 go_enter func64,ntmps64
 go_wp2_with fail
 refine(Ja3 _ _ _).mono ?_
 rintro e w' ⟨rfl,cc⟩
 rw[bS]
 subst w'
 go_wp2_with fail
 refine(Zl t a cap xs _ hn R true ⟨fun _=>M,fun _=>rfl⟩).mono ?_
 rintro e w1 ⟨rfl,ba⟩
 go_wp2_with fail
 refine(Yr a cap xs w1 X (R.below ba)).mono ?_
 rintro e y ⟨ch,rfl,O,bA⟩
 have bC:=fun b E=>Je O (g:=b) E
 obtain⟨U,br,rfl,bO⟩:=O.vals
 clear O
 generalize Jz xs=bM at *
 have bb:=Jb ba bA
 have bk:=R.below bb
 have cb:y.heap.size≤y.heap.size:=Oa2 _
 have bc:=bb
 go_wp2_with fail
 have bh:=Jkz y w.heap.size t bc.size
 have D:∀ k,k<y.heap.size→Ya (y.alloc (.cells #[.int .i64 t,.slice none 0 0] 203)) y.heap.size k:=fun k bJ=>Jgw y t bJ
 have A:Below y.heap.size y (y.alloc (.cells #[.int .i64 t,.slice none 0 0] 203)):=(Oa5 _ _).alloc (Oa2 _) _
 have bT:=bk.below A
 have bP:=bO.below A
 have bB:=Jb bc A
 have Z:∀ b o,U=some ⟨b,o,none⟩→Ya (y.alloc (.cells #[.int .i64 t,.slice none 0 0] 203)) y.heap.size b:=by
  intro b o H
  subst H
  have:=bC b rfl
  exact D b (by omega)
 have bz:xs≠[]→∀ b o,a=some ⟨b,o,none⟩→Ya (y.alloc (.cells #[.int .i64 t,.slice none 0 0] 203)) y.heap.size b:=by
  intro bN b o H
  rcases bk with h|⟨bW,cf,e,E,_⟩
  ·exact absurd h bN
  rw[H]at e;cases e;exact D b E
 generalize bu:y.alloc (.cells #[.int .i64 t,.slice none 0 0] 203)=bU at *
 generalize bG:y.heap.size=g at *
 clear bu D A bG
 refine(Jg0 w.heap.size g t 0 a cap xs bU bh X bT bz).mono ?_
 rintro e bV ⟨rfl,bi,bK⟩
 go_wp2_with fail
 refine(Jgs g bV).mono ?_
 rintro e bl ⟨rfl,bf⟩
 have bR:=bi.below bf
 have K:=bK.trans (Ky.of_below bf bi.lt)
 have bQ:=Zk bP K Z
 have bx:=Jde K Z
 have ca:=(Jbb (.func (.func 122) #[.pointer (some ⟨g,0,none⟩)] #[]) (.func (.func 123) #[.pointer (some ⟨g,0,none⟩)] #[]) (.func (.func 124) #[.pointer (some ⟨g,0,none⟩)] #[]) (.func (.func 125) #[.pointer (some ⟨g,0,none⟩)] #[]) bl).1
 generalize Kz t 0 xs=bX at *
 go_wp2_with fail
 refine(Jk4 w.heap.size g t U br bM _ bl bR (by omega) (by omega) bH bQ bx).mono ?_
 rintro e cj ⟨rfl,bj,bL⟩
 obtain⟨ci,c0,c1,_,_,_⟩:=bj.cells
 have bD:=Jiv bj (by simp[bI]) c1
 have bE:=Jdw bh (K.trans bL) w rfl bB
 rw[←bn.out]at bD
 go_wp2
 go_ret2
 exact⟨rfl,bE⟩
end Go.Proofs.YtdlgbphkaicfaaaGreatDoor
namespace Go.Proofs.YtdlgbphkaicfaaaGreatDoor
open Go.RowKit Tryz
def Jfr (t:Int)(xs:List V):Bool:=decide (xs.length≤64)&&xs.all fun v=>okB t v.k v.n v.s
theorem Jfd (t:Int)(xs:List V):Jfr t xs=true↔Jdq t xs:=by
 unfold Jfr Jdq
 rw[Og5,decide_eq_true_eq,List.all_eq_true]
 constructor
 ·intro h;exact⟨h.1,fun j y=>h.2 _ (Ob3 y)⟩
 intro h
 refine⟨h.1,fun v A=>?_⟩
 obtain⟨j,y,rfl⟩:=Od5 A
 exact h.2 j y
def Jev (t y:Int)(xs:List V):List UInt8×Int:=
 if (way t y&&Jfr t xs)=true then (if y=1∧16<(Ym [] (Jz xs)).length then ([],2)else (Jav t y xs,0))else ([],1)
theorem Jo7 (t y:Int)(h:way t y=true):y=0∨y=1∨y=2∨y=3:=by
 unfold way at h
 simp at h
 omega
end Go.Proofs.YtdlgbphkaicfaaaGreatDoor
