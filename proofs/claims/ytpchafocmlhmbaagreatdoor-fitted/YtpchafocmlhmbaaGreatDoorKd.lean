/- What package segments' Pack answers: for every type, way and list of values. -/
import Derived.Test.YtpchafocmlhmbaaGreatDoorEw
set_option maxHeartbeats 1000000
set_option maxRecDepth 100000
namespace Go.Proofs.YtpchafocmlhmbaaGreatDoor
section
open Go.RowKit Tryz
theorem Jvw:(prog.info? 202).map (fun i=>i.size)=some 1:=by kernel_rfl
theorem Jbb (y D E H:Value)(w:World) :
  (Instr.index 203 (.agg #[y,D,E,H]) (.int .i64 0)).run prog w=.ok y w ∧
  (Instr.index 203 (.agg #[y,D,E,H]) (.int .i64 1)).run prog w=.ok D w ∧
  (Instr.index 203 (.agg #[y,D,E,H]) (.int .i64 2)).run prog w=.ok E w ∧
  (Instr.index 203 (.agg #[y,D,E,H]) (.int .i64 3)).run prog w=.ok H w:=by
 obtain⟨i,hi,hs⟩:=Oe9.1 Jvw;refine⟨?_,?_,?_,?_⟩<;>simp[Instr.index,run_underlying underlying203,run_underlying underlying202,asIntOf,part,isAgg,sizeOf,typeInfo,hi,hs]
def Jdq (t:Int)(xs:List V):Prop:=xs.length≤64∧∀ j (y:j<xs.length),okB t xs[j].k xs[j].n xs[j].s=true
def Jdt (t y:Int)(l:List V):List UInt8:=
 if y=0 then Yv l else if y=1 then Jds l else if y=2 then Yc l else Zz t l
def Jav (t y:Int)(xs:List V):List UInt8:=Kz t y xs++Jdt t y (Jz xs)
theorem Jgz (t:Int)(xs:List V)(h:Jdq t xs):∀ v∈Jz xs,good v.k v.s:=by
 intro v H;obtain⟨E,D⟩:=Om0.1 H;obtain⟨j,y,rfl⟩:=Od5 E;have:=h.2 j y;unfold okB okK at this;simp at this D;unfold good;omega
theorem Jkz (w:World)(B:Nat)(t:Int)(y:B≤w.heap.size):WAt (w.alloc (.cells #[.int .i64 t,.slice none 0 0] 200)) B w.heap.size t []:=
 ⟨y,.slice none 0 0,heap_alloc_new _ _,Jo.nil _ _ _,by simp[Value.ownBlock]⟩
theorem Jgw (w:World)(t:Int){k:Nat}(y:k<w.heap.size):Ya (w.alloc (.cells #[.int .i64 t,.slice none 0 0] 200)) w.heap.size k:=by
 refine⟨by simp;omega,by omega,fun sv hs=>?_⟩;have:sv=.slice none 0 0:=by simpa using hs.symm
 subst this;simp[Value.ownBlock]
theorem Jdw {w w':World}{B g:Nat}{t:Int}{bs:List UInt8}(h:WAt w B g t bs)(y:Ky w w' g)(D:World)(H:B=D.heap.size)(h0:Below D.heap.size D w):Below D.heap.size D w':=by
 refine⟨y.os.trans h0.os,y.tape.trans h0.tape,y.output.trans h0.output,Ob2 h0.size y.size,fun k E=>?_⟩;have hs:=h0.size;rw[(y.block k (h.apart (by omega) (by omega))).1,h0.block k E]
theorem Jzl (t D:Int)(a:Option Addr)(cap:Nat)(xs:List V)(w:World)(hn:xs.length≤maxLen)(Y:Jv w a xs)(y:Value)(E:w.cell? ⟨15,0,none⟩=some y)(O:¬ (way t D=true∧Jdq t xs)) :
  Calls prog 63 #[.int .i64 t,.int .i64 D,.slice a xs.length cap] w fun e w'=>e=.returned (.tuple #[.string (Qw []),y])∧Below w.heap.size w w':=by
 cases hway:way t D
 ·go_enter func63,ntmps63
  go_wp2_with (go_at_call 59;refine(Ja3 _ _ _).mono ?_;rintro e w' ⟨rfl,X⟩;rw[hway];subst w')
  go_quiet (fail)
  go_wp2;go_ret2
  exact⟨rfl,Jp (Oa5 _ _) _⟩
 have H:¬ Jdq t xs:=fun h=>O ⟨hway,h⟩;have U:Hid (false=true↔xs.length≤64∧∀ j (ba:j<xs.length),okB t xs[j].k xs[j].n xs[j].s=true):=⟨fun h=>by simp at h,fun h=>absurd h H⟩;clear O H;have R:=Jm E;simp only at R;go_enter func63,ntmps63
 go_wp2_with (first
  |(go_at_call 59;refine(Ja3 _ _ _).mono ?_;rintro e w' ⟨rfl,X⟩;rw[hway];subst w')
  |(go_at_call 88;refine(Zl t a cap xs _ hn Y false U.out).mono ?_;rintro e w1 ⟨rfl,K⟩;have Z:w1.cell? ⟨15,0,none⟩=some y:=(by rw[(Kx K).1 15 0 R];exact E)))
 go_quiet (fail)
 go_wp2;go_ret2
 exact⟨rfl,Jp K _⟩
theorem Jiv {w:World}{B g:Nat}{t:Int}{bs:List UInt8}(h:WAt w B g t bs)(K:bs≠[]){sv:Value}(E:w.cell? ⟨g,1,none⟩=some sv):(convert 198 9 sv).run prog w=.ok (.string (Qw bs)) w:=by
 obtain⟨sv',_,D,_,O,_⟩:=h.cells;rw[E]at D;cases D
 obtain⟨a,cap,rfl,y⟩:=O.cells;rw[Oa6];rcases y with y|⟨b,o,rfl,_,y⟩
 ·exact absurd (List.map_eq_nil_iff.1 y) K
 refine Jc6 w ⟨b,o,none⟩ cap bs fun j u H=>?_;rw[Addr.add_mid];exact y j u H
theorem Jtj (t:Int)(a:Option Addr)(cap:Nat)(xs:List V)(w:World)(hn:xs.length≤maxLen)(X:Jv w a xs)(bW:way t 0=true)(R:Jdq t xs) :
  Calls prog 63 #[.int .i64 t,.int .i64 0,.slice a xs.length cap] w fun e w'=>e=.returned (.tuple #[.string (Qw (Jav t 0 xs)),.nilIface])∧Below w.heap.size w w':=by
 have Z:=R.1;have cf:=Zy xs;have bM:=Jgz t xs R;have bA:Hid (Jav t 0 xs=Kz t 0 xs++Yv (Jz xs)):=rfl;have cc:(Kz t 0 xs).length≤1000:=by unfold Kz;rw[Oa8,Qb,Oa6];simp only[List.length_cons,List.length_nil];omega
 have bN:Kz t 0 xs≠[]:=by simp[Kz]
 go_enter func63,ntmps63
 go_wp2_with fail
 refine(Ja3 _ _ _).mono ?_;rintro e w' ⟨rfl,cj⟩;rw[bW];subst w';go_wp2_with fail
 refine(Zl t a cap xs _ hn X true ⟨fun _=>R,fun _=>rfl⟩).mono ?_;rintro e w1 ⟨rfl,bc⟩;go_wp2_with fail
 refine(Yr a cap xs w1 Z (X.below bc)).mono ?_;rintro e y ⟨cu,rfl,U,bG⟩;have bI:=fun b H=>Je U (g:=b) H;obtain⟨Y,bB,rfl,bS⟩:=U.vals;clear U;generalize Jz xs=hl at *;have bf:=Jb bc bG;have bx:=X.below bf;have ci:y.heap.size≤y.heap.size:=Oa2 _;have bh:=bf;go_wp2_with fail
 have bj:=Jkz y w.heap.size t bh.size;have E:∀ k,k<y.heap.size→Ya (y.alloc (.cells #[.int .i64 t,.slice none 0 0] 200)) y.heap.size k:=fun k bO=>Jgw y t bO;have D:Below y.heap.size y (y.alloc (.cells #[.int .i64 t,.slice none 0 0] 200)):=(Oa5 _ _).alloc (Oa2 _) _;have bX:=bx.below D;have bT:=bS.below D;have bH:=Jb bh D;have ba:∀ b o,Y=some ⟨b,o,none⟩→Ya (y.alloc (.cells #[.int .i64 t,.slice none 0 0] 200)) y.heap.size b:=by
  intro b o K;subst K;have:=bI b rfl;exact E b (by omega)
 have bE:xs≠[]→∀ b o,a=some ⟨b,o,none⟩→Ya (y.alloc (.cells #[.int .i64 t,.slice none 0 0] 200)) y.heap.size b:=by
  intro bR b o K;rcases bx with h|⟨ca,cn,e,H,_⟩
  ·exact absurd h bR
  rw[K]at e;cases e;exact E b H
 generalize bC:y.alloc (.cells #[.int .i64 t,.slice none 0 0] 200)=bY at *;generalize bL:y.heap.size=g at *;clear bC E D bL;refine(Jg0 w.heap.size g t 0 a cap xs bY bj Z bX bE).mono ?_;rintro e bZ ⟨rfl,bn,bP⟩;go_wp2_with fail
 refine(Jgs g bZ).mono ?_;rintro e bz ⟨rfl,bi⟩;have bV:=bn.below bi;have O:=bP.trans (Ky.of_below bi bn.lt);have bU:=Zk bT O ba;have bD:=Jde O ba;have ch:=(Jbb (.func (.func 121) #[.pointer (some ⟨g,0,none⟩)] #[]) (.func (.func 122) #[.pointer (some ⟨g,0,none⟩)] #[]) (.func (.func 123) #[.pointer (some ⟨g,0,none⟩)] #[]) (.func (.func 124) #[.pointer (some ⟨g,0,none⟩)] #[]) bz).1;generalize Kz t 0 xs=cb at *;go_wp2_with fail
 refine(Jk4 w.heap.size g t Y bB hl _ bz bV (by omega) (by omega) bM bU bD).mono ?_;rintro e cx ⟨rfl,br,bQ⟩;obtain⟨cv,c0,c1,_,_,_⟩:=br.cells;have bJ:=Jiv br (by simp[bN]) c1;have bK:=Jdw bj (O.trans bQ) w rfl bH;rw[←bA.out]at bJ;go_wp2;go_ret2
 exact⟨rfl,bK⟩
end
section
open Go.RowKit Tryz
def Jfr (t:Int)(xs:List V):Bool:=decide (xs.length≤64)&&xs.all fun v=>okB t v.k v.n v.s
theorem Jfd (t:Int)(xs:List V):Jfr t xs=true↔Jdq t xs:=by
 unfold Jfr Jdq;rw[Og5,decide_eq_true_eq,List.all_eq_true];constructor
 ·intro h;exact⟨h.1,fun j y=>h.2 _ (Ob3 y)⟩
 intro h;refine⟨h.1,fun v D=>?_⟩;obtain⟨j,y,rfl⟩:=Od5 D;exact h.2 j y
def Jev (t y:Int)(xs:List V):List UInt8×Int:=
 if (way t y&&Jfr t xs)=true then (if y=1∧16<(Ym [] (Jz xs)).length then ([],2)else (Jav t y xs,0))else ([],1)
theorem Jo7 (t y:Int)(h:way t y=true):y=0∨y=1∨y=2∨y=3:=by
 unfold way at h;simp at h;omega
end
end Go.Proofs.YtpchafocmlhmbaaGreatDoor
