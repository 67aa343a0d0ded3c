/- What package segments' Pack answers: for every type, way and list of values. -/
import Derived.Test.YtjjdldddcegjiaaGreatDoorIv
import Derived.Test.YtjjdldddcegjiaaGreatDoorEw
set_option maxHeartbeats 1000000
set_option maxRecDepth 100000
namespace Go.Proofs.YtjjdldddcegjiaaGreatDoor
open Go.RowKit Tryz
theorem Jvw:(prog.info? 213).map (fun i=>i.size)=some 1:=by kernel_rfl
theorem Jbb (y z A C:Value)(w:World) :
  (Instr.index 214 (.agg #[y,z,A,C]) (.int .i64 0)).run prog w=.ok y w ∧
  (Instr.index 214 (.agg #[y,z,A,C]) (.int .i64 1)).run prog w=.ok z w ∧
  (Instr.index 214 (.agg #[y,z,A,C]) (.int .i64 2)).run prog w=.ok A w ∧
  (Instr.index 214 (.agg #[y,z,A,C]) (.int .i64 3)).run prog w=.ok C w:=by
 obtain⟨i,hi,hs⟩:=Oe9.1 Jvw
 refine⟨?_,?_,?_,?_⟩<;>simp[Instr.index,run_underlying underlying214,run_underlying underlying213,asIntOf,part,isAgg,sizeOf,typeInfo,hi,hs]
def Jdq (t:Int)(xs:List V):Prop:=xs.length≤64∧∀ j (y:j<xs.length),okB t xs[j].k xs[j].n xs[j].s=true
def Jdt (t y:Int)(l:List V):List UInt8:=
 if y=0 then Yv l else if y=1 then Jds l else if y=2 then Yc l else Zz t l
def Jav (t y:Int)(xs:List V):List UInt8:=Kz t y xs++Jdt t y (Jz xs)
theorem Jgz (t:Int)(xs:List V)(h:Jdq t xs):∀ v∈Jz xs,good v.k v.s:=by
 intro v C
 obtain⟨A,z⟩:=Om0.1 C
 obtain⟨j,y,rfl⟩:=Od5 A
 have:=h.2 j y
 unfold okB okK at this
 simp at this z
 unfold good
 omega
theorem Jkz (w:World)(B:Nat)(t:Int)(y:B≤w.heap.size):WAt (w.alloc (.cells #[.int .i64 t,.slice none 0 0] 211)) B w.heap.size t []:=
 ⟨y,.slice none 0 0,heap_alloc_new _ _,Jo.nil _ _ _,by simp[Value.ownBlock]⟩
theorem Jgw (w:World)(t:Int){k:Nat}(y:k<w.heap.size):Ya (w.alloc (.cells #[.int .i64 t,.slice none 0 0] 211)) w.heap.size k:=by
 refine⟨by simp;omega,by omega,fun sv hs=>?_⟩
 have:sv=.slice none 0 0:=by simpa using hs.symm
 subst this
 simp[Value.ownBlock]
theorem Jdw {w w':World}{B g:Nat}{t:Int}{bs:List UInt8}(h:WAt w B g t bs)(y:Ky w w' g)(z:World)(C:B=z.heap.size)(h0:Below z.heap.size z w):Below z.heap.size z w':=by
 refine⟨y.os.trans h0.os,y.tape.trans h0.tape,y.output.trans h0.output,Ob2 h0.size y.size,fun k A=>?_⟩
 have hs:=h0.size
 rw[(y.block k (h.apart (by omega) (by omega))).1,h0.block k A]
theorem Jzl (t z:Int)(a:Option Addr)(cap:Nat)(xs:List V)(w:World)(hn:xs.length≤maxLen)(O:Jv w a xs)(y:Value)(A:w.cell? ⟨15,0,none⟩=some y)(E:¬ (way t z=true∧Jdq t xs)) :
  Calls prog 75 #[.int .i64 t,.int .i64 z,.slice a xs.length cap] w fun e w'=>e=.returned (.tuple #[.string (Qw []),y])∧Below w.heap.size w w':=by
 cases hway:way t z
 ·go_enter func75,ntmps75
  go_wp2_with (go_at_call 71;refine(Ja3 _ _ _).mono ?_;rintro e w' ⟨rfl,M⟩;rw[hway];subst w')
  go_quiet (fail)
  go_wp2
  go_ret2
  exact⟨rfl,Jp (Oa5 _ _) _⟩
 have C:¬ Jdq t xs:=fun h=>E ⟨hway,h⟩
 have K:Hid (false=true↔xs.length≤64∧∀ j (U:j<xs.length),okB t xs[j].k xs[j].n xs[j].s=true):=⟨fun h=>by simp at h,fun h=>absurd h C⟩
 clear E C
 have H:=Jm A
 simp only at H
 go_enter func75,ntmps75
 go_wp2_with (first
  |(go_at_call 71;refine(Ja3 _ _ _).mono ?_;rintro e w' ⟨rfl,M⟩;rw[hway];subst w')
  |(go_at_call 100;refine(Zl t a cap xs _ hn O false K.out).mono ?_;rintro e w1 ⟨rfl,D⟩;have R:w1.cell? ⟨15,0,none⟩=some y:=(by rw[(Kx D).1 15 0 H];exact A)))
 go_quiet (fail)
 go_wp2
 go_ret2
 exact⟨rfl,Jp D _⟩
theorem Jiv {w:World}{B g:Nat}{t:Int}{bs:List UInt8}(h:WAt w B g t bs)(D:bs≠[]){sv:Value}(A:w.cell? ⟨g,1,none⟩=some sv):(convert 209 9 sv).run prog w=.ok (.string (Qw bs)) w:=by
 obtain⟨sv',_,z,_,E,_⟩:=h.cells
 rw[A]at z
 cases z
 obtain⟨a,cap,rfl,y⟩:=E.cells
 rw[Oa6]
 rcases y with y|⟨b,o,rfl,_,y⟩
 ·exact absurd (List.map_eq_nil_iff.1 y) D
 refine Jc6 w ⟨b,o,none⟩ cap bs fun j u C=>?_
 rw[Addr.add_mid]
 exact y j u C
theorem Jtj (t:Int)(a:Option Addr)(cap:Nat)(xs:List V)(w:World)(hn:xs.length≤maxLen)(M:Jv w a xs)(bT:way t 0=true)(H:Jdq t xs) :
  Calls prog 75 #[.int .i64 t,.int .i64 0,.slice a xs.length cap] w fun e w'=>e=.returned (.tuple #[.string (Qw (Jav t 0 xs)),.nilIface])∧Below w.heap.size w w':=by
 have R:=H.1
 have ca:=Zy xs
 have bI:=Jgz t xs H
 have br:Hid (Jav t 0 xs=Kz t 0 xs++Yv (Jz xs)):=rfl
 have bZ:(Kz t 0 xs).length≤1000:=by unfold Kz;rw[Oa8,Qb,Oa6];simp only[List.length_cons,List.length_nil];omega
 have bJ:Kz t 0 xs≠[]:=by simp[Kz]
 go_enter func75,ntmps75
 go_wp2_with fail
 refine(Ja3 _ _ _).mono ?_
 rintro e w' ⟨rfl,cf⟩
 rw[bT]
 subst w'
 go_wp2_with fail
 refine(Zl t a cap xs _ hn M true ⟨fun _=>H,fun _=>rfl⟩).mono ?_
 rintro e w1 ⟨rfl,X⟩
 go_wp2_with fail
 refine(Yr a cap xs w1 R (M.below X)).mono ?_
 rintro e y ⟨ci,rfl,K,bB⟩
 have bD:=fun b C=>Je K (g:=b) C
 obtain⟨O,bu,rfl,bP⟩:=K.vals
 clear K
 generalize Jz xs=bN at *
 have Z:=Jb X bB
 have bl:=M.below Z
 have cc:y.heap.size≤y.heap.size:=Oa2 _
 have bc:=Z
 go_wp2_with fail
 have bh:=Jkz y w.heap.size t bc.size
 have A:∀ k,k<y.heap.size→Ya (y.alloc (.cells #[.int .i64 t,.slice none 0 0] 211)) y.heap.size k:=fun k bK=>Jgw y t bK
 have z:Below y.heap.size y (y.alloc (.cells #[.int .i64 t,.slice none 0 0] 211)):=(Oa5 _ _).alloc (Oa2 _) _
 have bU:=bl.below z
 have bQ:=bP.below z
 have bC:=Jb bc z
 have U:∀ b o,O=some ⟨b,o,none⟩→Ya (y.alloc (.cells #[.int .i64 t,.slice none 0 0] 211)) y.heap.size b:=by
  intro b o D
  subst D
  have:=bD b rfl
  exact A b (by omega)
 have bA:xs≠[]→∀ b o,a=some ⟨b,o,none⟩→Ya (y.alloc (.cells #[.int .i64 t,.slice none 0 0] 211)) y.heap.size b:=by
  intro bO b o D
  rcases bl with h|⟨bX,ch,e,C,_⟩
  ·exact absurd h bO
  rw[D]at e;cases e;exact A b C
 generalize bx:y.alloc (.cells #[.int .i64 t,.slice none 0 0] 211)=bV at *
 generalize bH:y.heap.size=g at *
 clear bx A z bH
 refine(Jg0 w.heap.size g t 0 a cap xs bV bh R bU bA).mono ?_
 rintro e bW ⟨rfl,bi,bL⟩
 go_wp2_with fail
 refine(Jgs g bW).mono ?_
 rintro e bn ⟨rfl,bf⟩
 have bS:=bi.below bf
 have E:=bL.trans (Ky.of_below bf bi.lt)
 have bR:=Zk bQ E U
 have bz:=Jde E U
 have cb:=(Jbb (.func (.func 133) #[.pointer (some ⟨g,0,none⟩)] #[]) (.func (.func 134) #[.pointer (some ⟨g,0,none⟩)] #[]) (.func (.func 135) #[.pointer (some ⟨g,0,none⟩)] #[]) (.func (.func 136) #[.pointer (some ⟨g,0,none⟩)] #[]) bn).1
 generalize Kz t 0 xs=bY at *
 go_wp2_with fail
 refine(Jk4 w.heap.size g t O bu bN _ bn bS (by omega) (by omega) bI bR bz).mono ?_
 rintro e cl ⟨rfl,bj,bM⟩
 obtain⟨cj,c0,c1,_,_,_⟩:=bj.cells
 have bE:=Jiv bj (by simp[bJ]) c1
 have bG:=Jdw bh (E.trans bM) w rfl bC
 rw[←br.out]at bE
 go_wp2
 go_ret2
 exact⟨rfl,bG⟩
end Go.Proofs.YtjjdldddcegjiaaGreatDoor
namespace Go.Proofs.YtjjdldddcegjiaaGreatDoor
open Go.RowKit Tryz
def Jfr (t:Int)(xs:List V):Bool:=decide (xs.length≤64)&&xs.all fun v=>okB t v.k v.n v.s
theorem Jfd (t:Int)(xs:List V):Jfr t xs=true↔Jdq t xs:=by
 unfold Jfr Jdq
 rw[Og5,decide_eq_true_eq,List.all_eq_true]
 constructor
 ·intro h;exact⟨h.1,fun j y=>h.2 _ (Ob3 y)⟩
 intro h
 refine⟨h.1,fun v z=>?_⟩
 obtain⟨j,y,rfl⟩:=Od5 z
 exact h.2 j y
def Jev (t y:Int)(xs:List V):List UInt8×Int:=
 if (way t y&&Jfr t xs)=true then (if y=1∧16<(Ym [] (Jz xs)).length then ([],2)else (Jav t y xs,0))else ([],1)
theorem Jo7 (t y:Int)(h:way t y=true):y=0∨y=1∨y=2∨y=3:=by
 unfold way at h
 simp at h
 omega
end Go.Proofs.YtjjdldddcegjiaaGreatDoor
