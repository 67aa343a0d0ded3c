/- errors.As, by Go's own text, at the errors that the program makes, at its targets. -/
import Derived.Test.YtkdojacdolidfaaGreatDoorEt
import Derived.Test.YtkdojacdolidfaaGreatDoorEs
import Derived.Test.YtkdojacdolidfaaGreatDoorRr
set_option maxHeartbeats 1000000
set_option maxRecDepth 100000
namespace Go.Proofs.YtkdojacdolidfaaGreatDoor
section
open Go.RowKit Go.Extern.Stop Go.Stop Go.Extern Tryz
theorem Ji9 t w:Calls prog 59 #[.nilIface,t] w fun e w'=>e=.returned (.bool false)/\w'=w:=by
 have y:=run_eql_nil_nil (P:=prog) w 80 zK;go_enter func59,ntmps59
 go_wp2;go_ret
 exact⟨rfl,rfl⟩
theorem zav {p:Prop}(h:p:=by
 go_wp2_with fail
 refine(Ji9 _ _).mono ?_;rintro e w' ⟨rfl,rfl⟩;go_wp2_with fail
 go_ret
 exact⟨rfl,(Oa5 _ _).alloc (Oa2 _) _⟩):p:=h
theorem Jxf w:Calls prog 41 #[.nilIface] w fun e w'=>e=.returned (.int .i64 (-1))/\Below w.heap.size w w':=by
 go_enter func41,ntmps41
 exact zav
theorem zam {p:Prop}(h:p:=by
 go_wp2_with fail
 refine(Ji9 _ _).mono ?_;rintro e w' ⟨rfl,rfl⟩;go_wp2_with fail
 refine(Ji9 _ _).mono ?_;rintro e w' ⟨rfl,rfl⟩;go_wp2_with fail
 go_ret
 exact⟨rfl,((Oa5 _ _).alloc (Oa2 _) _).alloc zS _⟩):p:=h
theorem Jz5 w:Calls prog 42 #[.nilIface] w fun e w'=>e=.returned (.int .i64 (-1))/\Below w.heap.size w w':=by
 go_enter func42,ntmps42
 exact zam
theorem Jqq w:Calls prog 43 #[.nilIface] w fun e w'=>e=.returned (.int .i64 (-1))/\Below w.heap.size w w':=by
 go_enter func43,ntmps43
 exact zam
theorem Jvp w:Calls prog 44 #[.nilIface] w fun e w'=>e=.returned (.int .i64 (-1))/\Below w.heap.size w w':=by
 go_enter func44,ntmps44
 exact zav
structure Jig (w:World) (l:List Addr) (dv ov gv mn:Addr):Prop where
 cd:w.cell? ⟨10,0,none⟩=some (.iface 434 (.pointer (some dv)))
 co:w.cell? ⟨11,0,none⟩=some (.iface 434 (.pointer (some ov)))
 cg:w.cell? ⟨12,0,none⟩=some (.iface 434 (.pointer (some gv)))
 cm:w.cell? ⟨13,0,none⟩=some (.iface 434 (.pointer (some mn)))
 bd:∃ c t,w.heap[dv.block]?=some (.cells c t (0,0))
 bo:∃ c t,w.heap[ov.block]?=some (.cells c t (0,0))
 bg:∃ c t,w.heap[gv.block]?=some (.cells c t (0,0))
 bm:∃ c t,w.heap[mn.block]?=some (.cells c t (0,0))
 nd:dv∉l
 no:ov∉dv::l
 ng:gv∉ov::dv::l
 nm:mn∉gv::ov::dv::l
structure Jhy (w:World) (l:List Addr) (pl ex:Addr):Prop where
 cp:w.cell? ⟨3,0,none⟩=some (.iface 434 (.pointer (some pl)))
 ce:w.cell? ⟨9,0,none⟩=some (.iface 434 (.pointer (some ex)))
 bp:∃ c t,w.heap[pl.block]?=some (.cells c t (0,0))
 be:∃ c t,w.heap[ex.block]?=some (.cells c t (0,0))
 np:pl∉l
 ne:ex∉l
 m3:∃ dv ov gv mn,Jig w (ex::pl::l) dv ov gv mn
structure Jkn (w:World) (a0 a1 a2 tt q wr pg:Addr):Prop where
 ct:w.cell? ⟨2,0,none⟩=some (.iface 434 (.pointer (some tt)))
 cq:w.cell? ⟨6,0,none⟩=some (.iface 434 (.pointer (some q)))
 cw:w.cell? ⟨7,0,none⟩=some (.iface 434 (.pointer (some wr)))
 cp:w.cell? ⟨8,0,none⟩=some (.iface 434 (.pointer (some pg)))
 et:w.cell? ⟨14,0,none⟩=some (.iface 226 (.agg #[.pointer (some ⟨17,80,none⟩)]))
 bt:∃ c t,w.heap[tt.block]?=some (.cells c t (0,0))
 bq:∃ c t,w.heap[q.block]?=some (.cells c t (0,0))
 bw:∃ c t,w.heap[wr.block]?=some (.cells c t (0,0))
 bp:∃ c t,w.heap[pg.block]?=some (.cells c t (0,0))
 nd:[a0,a1,a2,tt,q,wr,pg].Nodup
 m2:∃ pl ex,Jhy w [a0,a1,a2,tt,q,wr,pg] pl ex
structure Jf0 (w:World) (a0 a1 a2:Addr):Prop where
 c0:w.cell? ⟨15,0,none⟩=some (.iface 434 (.pointer (some a0)))
 c1:w.cell? ⟨4,0,none⟩=some (.iface 434 (.pointer (some a1)))
 c2:w.cell? ⟨5,0,none⟩=some (.iface 434 (.pointer (some a2)))
 b0:∃ c t,w.heap[a0.block]?=some (.cells c t (0,0))
 b1:∃ c t,w.heap[a1.block]?=some (.cells c t (0,0))
 b2:∃ c t,w.heap[a2.block]?=some (.cells c t (0,0))
 more:∃ tt q wr pg,Jkn w a0 a1 a2 tt q wr pg
theorem Kg {w w'}(hb:Below w.heap.size w w'){k:Nat}(h:∃ c t,w.heap[k]?=some (.cells c t (0,0))):∃ c t,w'.heap[k]?=some (.cells c t (0,0)):=by
 obtain⟨c,t,h⟩:=h;exact⟨c,t,by rw[hb.block _ (Jd h)];exact h⟩
theorem Jig.below {w w'}{l:List Addr}{y H gv mn}(h:Jig w l y H gv mn)(hb:Below w.heap.size w w'):Jig w' l y H gv mn:=
 ⟨Ja hb h.cd,Ja hb h.co,Ja hb h.cg,Ja hb h.cm,Kg hb h.bd,Kg hb h.bo,Kg hb h.bg,Kg hb h.bm,h.nd,h.no,h.ng,h.nm⟩
theorem Jhy.below {w w'}{l:List Addr}{pl ex}(h:Jhy w l pl ex)(hb:Below w.heap.size w w'):Jhy w' l pl ex:=
 ⟨Ja hb h.cp,Ja hb h.ce,Kg hb h.bp,Kg hb h.be,h.np,h.ne,by obtain⟨y,I,gv,mn,H⟩:=h.m3;exact⟨y,I,gv,mn,H.below hb⟩⟩
theorem Jkn.below {w w' a0 a1 a2 y q wr pg}(h:Jkn w a0 a1 a2 y q wr pg)(hb:Below w.heap.size w w'):Jkn w' a0 a1 a2 y q wr pg:=
 ⟨Ja hb h.ct,Ja hb h.cq,Ja hb h.cw,Ja hb h.cp,Ja hb h.et,Kg hb h.bt,Kg hb h.bq,Kg hb h.bw,Kg hb h.bp,h.nd,by obtain⟨pl,ex,H⟩:=h.m2;exact⟨pl,ex,H.below hb⟩⟩
theorem Jf0.below {w w' a0 a1 a2}(h:Jf0 w a0 a1 a2)(hb:Below w.heap.size w w'):Jf0 w' a0 a1 a2:=by
 obtain⟨H,q,wr,pg,y⟩:=h.more;exact⟨Ja hb h.c0,Ja hb h.c1,Ja hb h.c2,Kg hb h.b0,Kg hb h.b1,Kg hb h.b2,H,q,wr,pg,y.below hb⟩
def Jdh (a1 a2 y q wr pg a:Addr):Int:=if a=a1 then 2 else if a=a2 then 3 else if a=y then 4 else if a=q then 5 else if a=wr then 6 else if a=pg then 7 else 1
theorem Jwm w:Calls prog 40 #[.nilIface] w fun e w'=>e=.returned (.int .i64 0)/\w'=w:=by
 have y:=run_eql_nil_nil (P:=prog) w 80 zK;go_enter func40,ntmps40
 go_wp2;go_ret
 exact⟨rfl,rfl⟩
abbrev Ko (c nd row col pg:Int):Value:=.agg #[.int .i64 c,.int .i64 nd,.int .i64 row,.int .i64 col,.int .i64 pg]
abbrev Jjp (c nd col pg:Int):Value:=Ko c nd (-1) col pg
abbrev Jbz (c col pg:Int):Value:=Jjp c (-1) col pg
theorem Jk {w:World}{b:Nat}{cs:Array Value}{t:TypeId}(h:w.heap[b]?=some (.cells cs t (0,0)))(o:Nat)(v:Value):(w.setCell ⟨b,o,none⟩ v).heap[b]?=some (.cells (cs.setIfInBounds o v) t (0,0)):=by
 simp[World.setCell,Array.getElem?_modify,h]
theorem Jl6 x c nd row col pg w(K:∀ W,Below w.heap.size w W->Calls prog 40 #[x] W fun e w'=>e=.returned (.int .i64 c)/\w'=W)(U:∀ W,Below w.heap.size w W->Calls prog 41 #[x] W fun e w'=>e=.returned (.int .i64 nd)/\Below W.heap.size W w')(hR:∀ W,Below w.heap.size w W->Calls prog 42 #[x] W fun e w'=>e=.returned (.int .i64 row)/\Below W.heap.size W w')(M:∀ W,Below w.heap.size w W->Calls prog 43 #[x] W fun e w'=>e=.returned (.int .i64 col)/\Below W.heap.size W w')(O:∀ W,Below w.heap.size w W->Calls prog 44 #[x] W fun e w'=>e=.returned (.int .i64 pg)/\Below W.heap.size W w'):
  Calls prog 31 #[x] w fun e w'=>e=.returned (Ko c nd row col pg)/\Below w.heap.size w w':=by
 have bz:=zh K;have bC:=zh U;have bA:=zh M;have bB:=zh O;have bD:=zh hR;clear K M O U hR;have I:Below w.heap.size w (w.alloc (.cells #[.int .i64 0,.int .i64 0,.int .i64 0,.int .i64 0,.int .i64 0] 51)):=(Oa5 _ _).alloc (Oa2 _) _;go_enter func31,ntmps31
 go_wp2_with fail
 refine(bz.out _ I).mono ?_;rintro e w' ⟨rfl,bM⟩;subst w';go_wp2_with fail
 refine(bC.out _ I).mono ?_;rintro e bS ⟨rfl,bj⟩;go_wp2_with fail
 have bh:=Jb I bj;refine(bD.out _ bh).mono ?_;rintro e bT ⟨rfl,bk⟩;go_wp2_with fail
 have bi:=Jb bh bk;refine(bA.out _ bi).mono ?_;rintro e w1 ⟨rfl,Y⟩;go_wp2_with fail
 have Z:=Jb bi Y;refine(bB.out _ Z).mono ?_;rintro e bx ⟨rfl,bf⟩;have bE:=Jb Z bf;have bG:=Jb bj (Jb bk (Jb Y bf));have y:bx.heap[w.heap.size]?=some (.cells #[.int .i64 0,.int .i64 0,.int .i64 0,.int .i64 0,.int .i64 0] 51 (0,0)):=by
  rw[bG.block _ zS];exact heap_alloc_new _ _
 have bN:=zc 0 y;have bO:=zc 1 y;have bP:=zc 2 y;have bQ:=zc 3 y;have bR:=zc 4 y;have H:∀ o,bx.frozen? ⟨w.heap.size,o,none⟩=false:=fun o=>by simp[World.frozen?,y]
 have bH:=H 0;have bI:=H 1;have bJ:=H 2;have bK:=H 3;have bL:=H 4;have br:=Jk (Jk (Jk (Jk (Jk y 0 (.int .i64 c)) 1 (.int .i64 nd)) 2 (.int .i64 row)) 3 (.int .i64 col)) 4 (.int .i64 pg);simp only[Oa1,List.set_cons_zero,List.set_cons_succ]at br;clear y H;go_wp2;exact bodyPost_ret (v:=Ko c nd row col pg) (by simp[results,results31,go_sem,Ko,World.cell?,br]) rfl ⟨rfl,Um bE (Oa2 _) _ _ _ _ _⟩
theorem Jjq w:Calls prog 31 #[.nilIface] w fun e w'=>e=.returned (Jb6 0)/\Below w.heap.size w w':=
 Jl6 .nilIface 0 (-1) (-1) (-1) (-1) w (fun W _=>Jwm W) (fun W _=>Jxf W) (fun W _=>Jz5 W) (fun W _=>Jqq W) (fun W _=>Jvp W)
theorem Jim {w a0 a1 a2 y q wr pg}(H:Jkn w a0 a1 a2 y q wr pg):
  Jdh a1 a2 y q wr pg a0=1/\Jdh a1 a2 y q wr pg a1=2/\Jdh a1 a2 y q wr pg a2=3/\Jdh a1 a2 y q wr pg y=4/\Jdh a1 a2 y q wr pg q=5/\Jdh a1 a2 y q wr pg wr=6/\Jdh a1 a2 y q wr pg pg=7:=by
 have h:=H.nd;simp only[Og0,Of1,Oi0,or_false,not_or]at h;obtain⟨⟨I,K,M,O,U,Y⟩,⟨Z,bf,bh,bi,bj⟩,⟨bk,br,bx,bz⟩,⟨bA,bB,bC⟩,⟨bD,bE⟩,bG,_⟩:=h;refine⟨?_,?_,?_,?_,?_,?_,?_⟩<;>simp only[Jdh]<;>(repeat' split)<;>simp_all
end
open Go.RowKit Tryz
theorem Jvw:(prog.info? 203).map (fun i=>i.size)=some 1:=zK
theorem Jbb y x1 x2 H w:
  (Instr.index 204 (.agg #[y,x1,x2,H]) (.int .i64 0)).run prog w=.ok y w /\
  (Instr.index 204 (.agg #[y,x1,x2,H]) (.int .i64 1)).run prog w=.ok x1 w /\
  (Instr.index 204 (.agg #[y,x1,x2,H]) (.int .i64 2)).run prog w=.ok x2 w /\
  (Instr.index 204 (.agg #[y,x1,x2,H]) (.int .i64 3)).run prog w=.ok H w:=by
 obtain⟨i,hi,hs⟩:=Oe9.1 Jvw;refine⟨?_,?_,?_,?_⟩<;>simp[Instr.index,run_underlying underlying204,run_underlying underlying203,asIntOf,part,isAgg,sizeOf,typeInfo,hi,hs]
def Jdq (t:Int)(xs:List V):Prop:=xs.length<=64/\∀ j (y:j<xs.length),okB t xs[j].k xs[j].n xs[j].s=true
def Jdt (t y:Int)(l:List V):List UInt8:=
 if y=0 then Yv l else if y=1 then Jds l else if y=2 then Yc l else Zz t l
def Jav (t y:Int)(xs:List V):List UInt8:=Kz t y xs++Jdt t y (Jz xs)
theorem Jgz t xs(h:Jdq t xs):∀ v∈Jz xs,good v.k v.s:=by
 intro v hv;obtain⟨I,H⟩:=Om0.1 hv;obtain⟨j,y,rfl⟩:=Od5 I;have:=h.2 j y;unfold okB okK at this;simp at this H;unfold good;omega
theorem Jkz (w:World)(B:Nat)(t:Int)(y:B<=w.heap.size):WAt (w.alloc (.cells #[.int .i64 t,.slice none 0 0] 201)) B w.heap.size t []:=
 ⟨y,.slice none 0 0,heap_alloc_new _ _,Jo.nil _ _ _,by simp[Value.ownBlock]⟩
theorem Jgw (w:World)(t:Int){k:Nat}(y:k<w.heap.size):Ya (w.alloc (.cells #[.int .i64 t,.slice none 0 0] 201)) w.heap.size k:=by
 refine⟨by simp;omega,zo,fun sv hs=>?_⟩;have:sv=.slice none 0 0:=by simpa using hs.symm
 subst this;simp[Value.ownBlock]
theorem Jdw {w w' B g t bs}(h:WAt w B g t bs)(y:Ky w w' g)w0(I:B=w0.heap.size)(h0:Below w0.heap.size w0 w):Below w0.heap.size w0 w':=by
 refine⟨y.os.trans h0.os,y.tape.trans h0.tape,y.output.trans h0.output,Ob2 h0.size y.size,fun k H=>?_⟩;have hs:=h0.size;rw[(y.block k (h.apart zo zo)).1,h0.block k H]
theorem Jzl t H a cap xs w(Y:xs.length<=maxLen)(bf:Jv w a xs)y(I:w.cell? ⟨15,0,none⟩=some y)(M:¬ (way t H=true/\Jdq t xs)):
  Calls prog 66 #[.int .i64 t,.int .i64 H,.slice a xs.length cap] w fun e w'=>e=.returned (.tuple #[.string (Qw []),y])/\Below w.heap.size w w':=by
 cases hway:way t H
 ·go_enter func66,ntmps66
  go_wp2_with (go_at_call 62;refine(Ja3 _ _ _).mono ?_;rintro e w' ⟨rfl,Z⟩;rw[hway];subst w')
  go_quiet (fail)
  go_wp2;go_ret2
  exact⟨rfl,Jp (Oa5 _ _) _⟩
 have hb:¬ Jdq t xs:=fun h=>M ⟨hway,h⟩;have U:Hid (false=true↔xs.length<=64/\∀ j (bi:j<xs.length),okB t xs[j].k xs[j].n xs[j].s=true):=⟨fun h=>by simp at h,fun h=>absurd h hb⟩;clear M hb;have O:=Jm I;simp only at O;go_enter func66,ntmps66
 go_wp2_with (first
  |(go_at_call 62;refine(Ja3 _ _ _).mono ?_;rintro e w' ⟨rfl,Z⟩;rw[hway];subst w')
  |(go_at_call 91;refine(Zl t a cap xs _ Y bf false U.out).mono ?_;rintro e w1 ⟨rfl,K⟩;have bh:w1.cell? ⟨15,0,none⟩=some y:=(by rw[(Kx K).1 15 0 O];exact I)))
 go_quiet (fail)
 go_wp2;go_ret2
 exact⟨rfl,Jp K _⟩
theorem Jiv {w B g t bs}(h:WAt w B g t bs)(M:bs≠[]){sv}(I:w.cell? ⟨g,1,none⟩=some sv):(convert 199 9 sv).run prog w=.ok (.string (Qw bs)) w:=by
 obtain⟨sv',_,H,_,ho,_⟩:=h.cells;rw[I]at H;cases H
 obtain⟨a,cap,rfl,y⟩:=ho.cells;rw[Oa6];rcases y with y|⟨b,o,rfl,_,y⟩
 ·exact absurd (List.map_eq_nil_iff.1 y) M
 refine Jc6 w ⟨b,o,none⟩ cap bs fun j u K=>?_;rw[Addr.add_mid];exact y j u K
theorem Jtj t a cap xs w(bT:xs.length<=maxLen)(Y:Jv w a xs)(bZ:way t 0=true)(O:Jdq t xs):
  Calls prog 66 #[.int .i64 t,.int .i64 0,.slice a xs.length cap] w fun e w'=>e=.returned (.tuple #[.string (Qw (Jav t 0 xs)),.nilIface])/\Below w.heap.size w w':=by
 have Z:=O.1;have cn:=Zy xs;have bO:=Jgz t xs O;have bC:Hid (Jav t 0 xs=Kz t 0 xs++Yv (Jz xs)):=rfl;have cj:(Kz t 0 xs).length<=1000:=by unfold Kz;rw[Oa8,Qb,Oa6];simp only[List.length_cons,List.length_nil];omega
 have bP:Kz t 0 xs≠[]:=by simp[Kz]
 go_enter func66,ntmps66
 go_wp2_with fail
 refine(Ja3 _ _ _).mono ?_;rintro e w' ⟨rfl,cx⟩;rw[bZ];subst w';go_wp2_with fail
 refine(Zl t a cap xs _ bT Y true ⟨fun _=>O,fun _=>rfl⟩).mono ?_;rintro e w1 ⟨rfl,bh⟩;go_wp2_with fail
 refine(Yr a cap xs w1 Z (Y.below bh)).mono ?_;rintro e y ⟨cz,rfl,U,bI⟩;have bK:=fun b hb=>Je U (g:=b) hb;obtain⟨a2,bD,rfl,bV⟩:=U.vals;clear U;generalize Jz xs=hl at *;have bi:=Jb bh bI;have bA:=Y.below bi;have cv:y.heap.size<=y.heap.size:=Oa2 _;have bj:=bi;go_wp2_with fail
 have br:=Jkz y w.heap.size t bj.size;have I:∀ k,k<y.heap.size->Ya (y.alloc (.cells #[.int .i64 t,.slice none 0 0] 201)) y.heap.size k:=fun k bQ=>Jgw y t bQ;have H:Below y.heap.size y (y.alloc (.cells #[.int .i64 t,.slice none 0 0] 201)):=(Oa5 _ _).alloc (Oa2 _) _;have ca:=bA.below H;have bW:=bV.below H;have bJ:=Jb bj H;have bf:∀ b o,a2=some ⟨b,o,none⟩->Ya (y.alloc (.cells #[.int .i64 t,.slice none 0 0] 201)) y.heap.size b:=by
  intro b o K;subst K;have:=bK b rfl;exact I b zo
 have bH:xs≠[]->∀ b o,a=some ⟨b,o,none⟩->Ya (y.alloc (.cells #[.int .i64 t,.slice none 0 0] 201)) y.heap.size b:=by
  intro bU b o K;rcases bA with h|⟨cf,cy,e,hb,_⟩
  ·exact absurd h bU
  rw[K]at e;cases e;exact I b hb
 generalize bE:y.alloc (.cells #[.int .i64 t,.slice none 0 0] 201)=cb at *;generalize bN:y.heap.size=g at *;clear bE I H bN;refine(Jg0 w.heap.size g t 0 a cap xs cb br Z ca bH).mono ?_;rintro e cc ⟨rfl,bx,bR⟩;go_wp2_with fail
 refine(Jgs g cc).mono ?_;rintro e bB ⟨rfl,bk⟩;have bY:=bx.below bk;have M:=bR.trans (Ky.of_below bk bx.lt);have bX:=Zk bW M bf;have bG:=Jde M bf;have cu:=(Jbb (.func (.func 124) #[.pointer (some ⟨g,0,none⟩)] #[]) (.func (.func 125) #[.pointer (some ⟨g,0,none⟩)] #[]) (.func (.func 126) #[.pointer (some ⟨g,0,none⟩)] #[]) (.func (.func 127) #[.pointer (some ⟨g,0,none⟩)] #[]) bB).1;generalize Kz t 0 xs=ci at *;go_wp2_with fail
 refine(Jk4 w.heap.size g t a2 bD hl _ bB bY zo zo bO bX bG).mono ?_;rintro e cB ⟨rfl,bz,bS⟩;obtain⟨cA,c0,c1,_,_,_⟩:=bz.cells;have bL:=Jiv bz (by simp[bP]) c1;have bM:=Jdw br (M.trans bS) w rfl bJ;rw[<-bC.out]at bL;go_wp2;go_ret2
 exact⟨rfl,bM⟩
def Jfr (t:Int)(xs:List V):Bool:=decide (xs.length<=64)&&xs.all fun v=>okB t v.k v.n v.s
theorem Jfd t xs:Jfr t xs=true↔Jdq t xs:=by
 unfold Jfr Jdq;rw[Og5,decide_eq_true_eq,List.all_eq_true];constructor
 ·intro h;exact⟨h.1,fun j y=>h.2 _ (Ob3 y)⟩
 intro h;refine⟨h.1,fun v hv=>?_⟩;obtain⟨j,y,rfl⟩:=Od5 hv;exact h.2 j y
def Jev (t y:Int)(xs:List V):List UInt8×Int:=
 if (way t y&&Jfr t xs)=true then (if y=1/\16<(Ym [] (Jz xs)).length then ([],2)else (Jav t y xs,0))else ([],1)
theorem Jo7 t y(h:way t y=true):y=0\/y=1\/y=2\/y=3:=by
 unfold way at h;simp at h;omega
