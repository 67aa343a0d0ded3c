/- The program's named errors; the number of an error; the Jb6 that a call answers. -/
import Derived.Test.YtjjdldddcegjiaaGreatDoorEv
set_option maxHeartbeats 8000000
set_option maxRecDepth 100000
namespace Go.Proofs.YtjjdldddcegjiaaGreatDoor
open Go.RowKit Go.Extern.Stop Go.Stop Go.Extern Tryz
structure Jig (w:World) (l:List Addr) (dv ov gv mn:Addr):Prop where
 cd:w.cell? ⟨10,0,none⟩=some (.iface 443 (.pointer (some dv)))
 co:w.cell? ⟨11,0,none⟩=some (.iface 443 (.pointer (some ov)))
 cg:w.cell? ⟨12,0,none⟩=some (.iface 443 (.pointer (some gv)))
 cm:w.cell? ⟨13,0,none⟩=some (.iface 443 (.pointer (some mn)))
 bd:∃ c t,w.heap[dv.block]?=some (.cells c t (0,0))
 bo:∃ c t,w.heap[ov.block]?=some (.cells c t (0,0))
 bg:∃ c t,w.heap[gv.block]?=some (.cells c t (0,0))
 bm:∃ c t,w.heap[mn.block]?=some (.cells c t (0,0))
 nd:dv∉l
 no:ov∉dv::l
 ng:gv∉ov::dv::l
 nm:mn∉gv::ov::dv::l
structure Jhy (w:World) (l:List Addr) (pl ex:Addr):Prop where
 cp:w.cell? ⟨3,0,none⟩=some (.iface 443 (.pointer (some pl)))
 ce:w.cell? ⟨9,0,none⟩=some (.iface 443 (.pointer (some ex)))
 bp:∃ c t,w.heap[pl.block]?=some (.cells c t (0,0))
 be:∃ c t,w.heap[ex.block]?=some (.cells c t (0,0))
 np:pl∉l
 ne:ex∉l
 m3:∃ dv ov gv mn,Jig w (ex::pl::l) dv ov gv mn
structure Jkn (w:World) (a0 a1 a2 tt q wr pg:Addr):Prop where
 ct:w.cell? ⟨2,0,none⟩=some (.iface 443 (.pointer (some tt)))
 cq:w.cell? ⟨6,0,none⟩=some (.iface 443 (.pointer (some q)))
 cw:w.cell? ⟨7,0,none⟩=some (.iface 443 (.pointer (some wr)))
 cp:w.cell? ⟨8,0,none⟩=some (.iface 443 (.pointer (some pg)))
 et:w.cell? ⟨14,0,none⟩=some (.iface 236 (.agg #[.pointer (some ⟨17,77,none⟩)]))
 bt:∃ c t,w.heap[tt.block]?=some (.cells c t (0,0))
 bq:∃ c t,w.heap[q.block]?=some (.cells c t (0,0))
 bw:∃ c t,w.heap[wr.block]?=some (.cells c t (0,0))
 bp:∃ c t,w.heap[pg.block]?=some (.cells c t (0,0))
 nd:[a0,a1,a2,tt,q,wr,pg].Nodup
 m2:∃ pl ex,Jhy w [a0,a1,a2,tt,q,wr,pg] pl ex
structure Jf0 (w:World) (a0 a1 a2:Addr):Prop where
 c0:w.cell? ⟨15,0,none⟩=some (.iface 443 (.pointer (some a0)))
 c1:w.cell? ⟨4,0,none⟩=some (.iface 443 (.pointer (some a1)))
 c2:w.cell? ⟨5,0,none⟩=some (.iface 443 (.pointer (some a2)))
 b0:∃ c t,w.heap[a0.block]?=some (.cells c t (0,0))
 b1:∃ c t,w.heap[a1.block]?=some (.cells c t (0,0))
 b2:∃ c t,w.heap[a2.block]?=some (.cells c t (0,0))
 more:∃ tt q wr pg,Jkn w a0 a1 a2 tt q wr pg
theorem Kg {w w':World}(y:Below w.heap.size w w'){k:Nat}(h:∃ c t,w.heap[k]?=some (.cells c t (0,0))):∃ c t,w'.heap[k]?=some (.cells c t (0,0)):=by
 obtain⟨c,t,h⟩:=h
 exact⟨c,t,by rw[y.block _ (Jd h)];exact h⟩
theorem Jig.below {w w':World}{l:List Addr}{z D A C:Addr}(h:Jig w l z D A C)(y:Below w.heap.size w w'):Jig w' l z D A C:=
 ⟨Ja y h.cd,Ja y h.co,Ja y h.cg,Ja y h.cm,Kg y h.bd,Kg y h.bo,Kg y h.bg,Kg y h.bm,h.nd,h.no,h.ng,h.nm⟩
theorem Jhy.below {w w':World}{l:List Addr}{z ex:Addr}(h:Jhy w l z ex)(y:Below w.heap.size w w'):Jhy w' l z ex:=
 ⟨Ja y h.cp,Ja y h.ce,Kg y h.bp,Kg y h.be,h.np,h.ne,by obtain⟨A,H,C,E,D⟩:=h.m3;exact⟨A,H,C,E,D.below y⟩⟩
theorem Jkn.below {w w':World}{z A C D q wr pg:Addr}(h:Jkn w z A C D q wr pg)(y:Below w.heap.size w w'):Jkn w' z A C D q wr pg:=
 ⟨Ja y h.ct,Ja y h.cq,Ja y h.cw,Ja y h.cp,Ja y h.et,Kg y h.bt,Kg y h.bq,Kg y h.bw,Kg y h.bp,h.nd,by obtain⟨H,ex,E⟩:=h.m2;exact⟨H,ex,E.below y⟩⟩
theorem Jf0.below {w w':World}{z A C:Addr}(h:Jf0 w z A C)(y:Below w.heap.size w w'):Jf0 w' z A C:=by
 obtain⟨E,q,wr,pg,D⟩:=h.more
 exact⟨Ja y h.c0,Ja y h.c1,Ja y h.c2,Kg y h.b0,Kg y h.b1,Kg y h.b2,E,q,wr,pg,D.below y⟩
def Jdh (y z A q wr pg a:Addr):Int:=if a=y then 2 else if a=z then 3 else if a=A then 4 else if a=q then 5 else if a=wr then 6 else if a=pg then 7 else 1
def Jby (y z K q wr pg H ex A E C D a:Addr):Int:=if a=y then 2 else if a=z then 3 else if a=K then 4 else if a=q then 5 else if a=wr then 6 else if a=pg then 7 else if a=H then 8 else if a=ex then 8 else if a=A then 9 else if a=E then 10 else if a=C then 10 else if a=D then 11 else 1
theorem Jwm (w:World):Calls prog 49 #[.nilIface] w fun e w'=>e=.returned (.int .i64 0)∧w'=w:=by
 have hn:=run_eql_nil_nil (P:=prog) w 77 (by kernel_rfl)
 go_enter func49,ntmps49
 go_wp2
 go_ret
 exact⟨rfl,rfl⟩
theorem Ju5 (v:Value)(a:Addr)(w:World)(h:∃ k,Zg w k v a)(E:∃ c t,w.heap[a.block]?=some (.cells c t (0,0)))(bl H K O q wr pg X ex Z bh bc bf:Addr)(bj:Jf0 w bl H K)(U:Jkn w bl H K O q wr pg)(bi:Jhy w [bl,H,K,O,q,wr,pg] X ex)(R:Jig w [ex,X,bl,H,K,O,q,wr,pg] Z bh bc bf) :
  Calls prog 49 #[v] w fun e w'=>e=.returned (.int .i64 (Jby H K O q wr pg X ex Z bh bc bf a))∧w'=w:=by
 obtain⟨ty,x,rfl⟩:∃ ty x,v=.iface ty x:=by obtain⟨_,bP⟩:=h;exact bP.iface
 have hn:=run_eql_held_nil (P:=prog) w 77 ty x (by kernel_rfl)
 have c1:=bj.c1
 have c2:=bj.c2
 have c3:=U.ct
 have c4:=U.cq
 have c5:=U.cw
 have bL:=U.cp
 have bM:=bi.cp
 have bN:=bi.ce
 have bO:=R.cd
 have bI:=R.co
 have bJ:=R.cg
 have bK:=R.cm
 have bn:=Jci _ a H w h E bj.b1 (decide (a=H)) (by simp)
 have bz:=Jci _ a K w h E bj.b2 (decide (a=K)) (by simp)
 have bA:=Jci _ a O w h E U.bt (decide (a=O)) (by simp)
 have bB:=Jci _ a q w h E U.bq (decide (a=q)) (by simp)
 have bC:=Jci _ a wr w h E U.bw (decide (a=wr)) (by simp)
 have bD:=Jci _ a pg w h E U.bp (decide (a=pg)) (by simp)
 have bE:=Jci _ a X w h E bi.bp (decide (a=X)) (by simp)
 have bG:=Jci _ a ex w h E bi.be (decide (a=ex)) (by simp)
 have bH:=Jci _ a Z w h E R.bd (decide (a=Z)) (by simp)
 have br:=Jci _ a bh w h E R.bo (decide (a=bh)) (by simp)
 have bu:=Jci _ a bc w h E R.bg (decide (a=bc)) (by simp)
 have bx:=Jci _ a bf w h E R.bm (decide (a=bf)) (by simp)
 clear h E bj U bi R
 have z:Hid (Jby H K O q wr pg X ex Z bh bc bf a=if a=H then 2 else if a=K then 3 else if a=O then 4 else if a=q then 5 else if a=wr then 6 else if a=pg then 7 else if a=X then 8 else if a=ex then 8 else if a=Z then 9 else if a=bh then 10 else if a=bc then 10 else if a=bf then 11 else 1):=rfl
 generalize Jby H K O q wr pg X ex Z bh bc bf a=D at *
 go_enter func49,ntmps49
 go_wp2_with fail
 refine bn.mono ?_
 rintro e w' ⟨rfl,M⟩
 subst w'
 clear bn
 by_cases y:a=H
 ·have C:=z.out
  rw[if_pos y]at C
  subst C
  rw[decide_eq_true y]
  clear y
  go_wp2_with fail
  go_ret
  exact⟨rfl,rfl⟩
 have A:=z.out
 rw[if_neg y]at A
 clear z
 have z:Hid (D=_):=A
 clear A
 rw[decide_eq_false y]
 clear y c1
 go_wp2_with fail
 refine bz.mono ?_
 rintro e w' ⟨rfl,M⟩
 subst w'
 clear bz
 by_cases y:a=K
 ·have C:=z.out
  rw[if_pos y]at C
  subst C
  rw[decide_eq_true y]
  clear y
  go_wp2_with fail
  go_ret
  exact⟨rfl,rfl⟩
 have A:=z.out
 rw[if_neg y]at A
 clear z
 have z:Hid (D=_):=A
 clear A
 rw[decide_eq_false y]
 clear y c2
 go_wp2_with fail
 refine bA.mono ?_
 rintro e w' ⟨rfl,M⟩
 subst w'
 clear bA
 by_cases y:a=O
 ·have C:=z.out
  rw[if_pos y]at C
  subst C
  rw[decide_eq_true y]
  clear y
  go_wp2_with fail
  go_ret
  exact⟨rfl,rfl⟩
 have A:=z.out
 rw[if_neg y]at A
 clear z
 have z:Hid (D=_):=A
 clear A
 rw[decide_eq_false y]
 clear y c3
 go_wp2_with fail
 refine bB.mono ?_
 rintro e w' ⟨rfl,M⟩
 subst w'
 clear bB
 by_cases y:a=q
 ·have C:=z.out
  rw[if_pos y]at C
  subst C
  rw[decide_eq_true y]
  clear y
  go_wp2_with fail
  go_ret
  exact⟨rfl,rfl⟩
 have A:=z.out
 rw[if_neg y]at A
 clear z
 have z:Hid (D=_):=A
 clear A
 rw[decide_eq_false y]
 clear y c4
 go_wp2_with fail
 refine bC.mono ?_
 rintro e w' ⟨rfl,M⟩
 subst w'
 clear bC
 by_cases y:a=wr
 ·have C:=z.out
  rw[if_pos y]at C
  subst C
  rw[decide_eq_true y]
  clear y
  go_wp2_with fail
  go_ret
  exact⟨rfl,rfl⟩
 have A:=z.out
 rw[if_neg y]at A
 clear z
 have z:Hid (D=_):=A
 clear A
 rw[decide_eq_false y]
 clear y c5
 go_wp2_with fail
 refine bD.mono ?_
 rintro e w' ⟨rfl,M⟩
 subst w'
 clear bD
 by_cases y:a=pg
 ·have C:=z.out
  rw[if_pos y]at C
  subst C
  rw[decide_eq_true y]
  clear y
  go_wp2_with fail
  go_ret
  exact⟨rfl,rfl⟩
 have A:=z.out
 rw[if_neg y]at A
 clear z
 have z:Hid (D=_):=A
 clear A
 rw[decide_eq_false y]
 clear y bL
 go_wp2_with fail
 refine bE.mono ?_
 rintro e w' ⟨rfl,M⟩
 subst w'
 clear bE
 by_cases y:a=X
 ·have C:=z.out
  rw[if_pos y]at C
  subst C
  rw[decide_eq_true y]
  clear y
  go_wp2_with fail
  go_ret
  exact⟨rfl,rfl⟩
 have A:=z.out
 rw[if_neg y]at A
 clear z
 have z:Hid (D=_):=A
 clear A
 rw[decide_eq_false y]
 clear y bM
 go_wp2_with fail
 refine bG.mono ?_
 rintro e w' ⟨rfl,M⟩
 subst w'
 clear bG
 by_cases y:a=ex
 ·have C:=z.out
  rw[if_pos y]at C
  subst C
  rw[decide_eq_true y]
  clear y
  go_wp2_with fail
  go_ret
  exact⟨rfl,rfl⟩
 have A:=z.out
 rw[if_neg y]at A
 clear z
 have z:Hid (D=_):=A
 clear A
 rw[decide_eq_false y]
 clear y bN
 go_wp2_with fail
 refine bH.mono ?_
 rintro e w' ⟨rfl,M⟩
 subst w'
 clear bH
 by_cases y:a=Z
 ·have C:=z.out
  rw[if_pos y]at C
  subst C
  rw[decide_eq_true y]
  clear y
  go_wp2_with fail
  go_ret
  exact⟨rfl,rfl⟩
 have A:=z.out
 rw[if_neg y]at A
 clear z
 have z:Hid (D=_):=A
 clear A
 rw[decide_eq_false y]
 clear y bO
 go_wp2_with fail
 refine br.mono ?_
 rintro e w' ⟨rfl,M⟩
 subst w'
 clear br
 by_cases y:a=bh
 ·have C:=z.out
  rw[if_pos y]at C
  subst C
  rw[decide_eq_true y]
  clear y
  go_wp2_with fail
  go_ret
  exact⟨rfl,rfl⟩
 have A:=z.out
 rw[if_neg y]at A
 clear z
 have z:Hid (D=_):=A
 clear A
 rw[decide_eq_false y]
 clear y bI
 go_wp2_with fail
 refine bu.mono ?_
 rintro e w' ⟨rfl,M⟩
 subst w'
 clear bu
 by_cases y:a=bc
 ·have C:=z.out
  rw[if_pos y]at C
  subst C
  rw[decide_eq_true y]
  clear y
  go_wp2_with fail
  go_ret
  exact⟨rfl,rfl⟩
 have A:=z.out
 rw[if_neg y]at A
 clear z
 have z:Hid (D=_):=A
 clear A
 rw[decide_eq_false y]
 clear y bJ
 go_wp2_with fail
 refine bx.mono ?_
 rintro e w' ⟨rfl,M⟩
 subst w'
 clear bx
 by_cases y:a=bf
 ·have C:=z.out
  rw[if_pos y]at C
  subst C
  rw[decide_eq_true y]
  clear y
  go_wp2_with fail
  go_ret
  exact⟨rfl,rfl⟩
 have A:=z.out
 rw[if_neg y]at A
 clear z
 have z:Hid (D=_):=A
 clear A
 rw[decide_eq_false y]
 clear y bK
 have C:D=1:=z.out
 subst C
 go_wp2_with fail
 go_ret
 exact⟨rfl,rfl⟩
abbrev Ko (c nd row col pg:Int):Value:=.agg #[.int .i64 c,.int .i64 nd,.int .i64 row,.int .i64 col,.int .i64 pg]
abbrev Jjp (c nd col pg:Int):Value:=Ko c nd (-1) col pg
abbrev Jbz (c col pg:Int):Value:=Jjp c (-1) col pg
theorem Jk {w:World}{b:Nat}{cs:Array Value}{t:TypeId}(h:w.heap[b]?=some (.cells cs t (0,0)))(o:Nat)(v:Value):(w.setCell ⟨b,o,none⟩ v).heap[b]?=some (.cells (cs.setIfInBounds o v) t (0,0)):=by
 simp[World.setCell,Oi3,h]
theorem Jl6 (x:Value)(c nd row col pg:Int)(w:World)(D:∀ W,Below w.heap.size w W→Calls prog 49 #[x] W fun e w'=>e=.returned (.int .i64 c)∧w'=W)
  (K:∀ W,Below w.heap.size w W→Calls prog 50 #[x] W fun e w'=>e=.returned (.int .i64 nd)∧Below W.heap.size W w')
  (hR:∀ W,Below w.heap.size w W→Calls prog 51 #[x] W fun e w'=>e=.returned (.int .i64 row)∧Below W.heap.size W w')
  (E:∀ W,Below w.heap.size w W→Calls prog 52 #[x] W fun e w'=>e=.returned (.int .i64 col)∧Below W.heap.size W w')
  (H:∀ W,Below w.heap.size w W→Calls prog 53 #[x] W fun e w'=>e=.returned (.int .i64 pg)∧Below W.heap.size W w') :
  Calls prog 38 #[x] w fun e w'=>e=.returned (Ko c nd row col pg)∧Below w.heap.size w w':=by
 have bh:Hid (∀ W,Below w.heap.size w W→Calls prog 49 #[x] W fun e w'=>e=.returned (.int .i64 c)∧w'=W):=D
 have bl:Hid (∀ W,Below w.heap.size w W→Calls prog 50 #[x] W fun e w'=>e=.returned (.int .i64 nd)∧Below W.heap.size W w'):=K
 have bi:Hid (∀ W,Below w.heap.size w W→Calls prog 52 #[x] W fun e w'=>e=.returned (.int .i64 col)∧Below W.heap.size W w'):=E
 have bj:Hid (∀ W,Below w.heap.size w W→Calls prog 53 #[x] W fun e w'=>e=.returned (.int .i64 pg)∧Below W.heap.size W w'):=H
 have bn:Hid (∀ W,Below w.heap.size w W→Calls prog 51 #[x] W fun e w'=>e=.returned (.int .i64 row)∧Below W.heap.size W w'):=hR
 clear D E H K hR
 have C:Below w.heap.size w (w.alloc (.cells #[.int .i64 0,.int .i64 0,.int .i64 0,.int .i64 0,.int .i64 0] 40)):=(Oa5 _ _).alloc (Oa2 _) _
 go_enter func38,ntmps38
 go_wp2_with fail
 refine(bh.out _ C).mono ?_
 rintro e w' ⟨rfl,bD⟩
 subst w'
 go_wp2_with fail
 refine(bl.out _ C).mono ?_
 rintro e bK ⟨rfl,Z⟩
 go_wp2_with fail
 have U:=Jb C Z
 refine(bn.out _ U).mono ?_
 rintro e bL ⟨rfl,bc⟩
 go_wp2_with fail
 have X:=Jb U bc
 refine(bi.out _ X).mono ?_
 rintro e w1 ⟨rfl,M⟩
 go_wp2_with fail
 have O:=Jb X M
 refine(bj.out _ O).mono ?_
 rintro e z ⟨rfl,R⟩
 have br:=Jb O R
 have bu:=Jb Z (Jb bc (Jb M R))
 have y:z.heap[w.heap.size]?=some (.cells #[.int .i64 0,.int .i64 0,.int .i64 0,.int .i64 0,.int .i64 0] 40 (0,0)):=by
  rw[bu.block _ (by simp)];exact heap_alloc_new _ _
 have bE:z.cell? ⟨w.heap.size,0,none⟩=some (.int .i64 0):=by simp[World.cell?,y]
 have bG:z.cell? ⟨w.heap.size,1,none⟩=some (.int .i64 0):=by simp[World.cell?,y]
 have bH:z.cell? ⟨w.heap.size,2,none⟩=some (.int .i64 0):=by simp[World.cell?,y]
 have bI:z.cell? ⟨w.heap.size,3,none⟩=some (.int .i64 0):=by simp[World.cell?,y]
 have bJ:z.cell? ⟨w.heap.size,4,none⟩=some (.int .i64 0):=by simp[World.cell?,y]
 have A:∀ o,z.frozen? ⟨w.heap.size,o,none⟩=false:=fun o=>by simp[World.frozen?,y]
 have bx:=A 0
 have bz:=A 1
 have bA:=A 2
 have bB:=A 3
 have bC:=A 4
 have bf:=Jk (Jk (Jk (Jk (Jk y 0 (.int .i64 c)) 1 (.int .i64 nd)) 2 (.int .i64 row)) 3 (.int .i64 col)) 4 (.int .i64 pg)
 simp only[Oa1,List.set_cons_zero,List.set_cons_succ]at bf
 clear y A
 go_wp2
 exact bodyPost_ret (v:=Ko c nd row col pg) (by simp[results,results38,go_sem,Ko,World.cell?,bf]) rfl ⟨rfl,Um br (Oa2 _) _ _ _ _ _⟩
theorem Jjq (w:World):Calls prog 38 #[.nilIface] w fun e w'=>e=.returned (Jb6 0)∧Below w.heap.size w w':=
 Jl6 .nilIface 0 (-1) (-1) (-1) (-1) w (fun W _=>Jwm W) (fun W _=>Jxf W) (fun W _=>Jz5 W) (fun W _=>Jqq W) (fun W _=>Jvp W)
theorem Jic (v:Value)(a:Addr)(n r c p g gc:Option Int)(w:World)(h:Jny w v a n r c p g gc)(X:∃ c t,w.heap[a.block]?=some (.cells c t (0,0)))(A y z D q wr pg E ex H O K M:Addr)(Z:Jf0 w A y z)(C:Jkn w A y z D q wr pg)(R:Jhy w [A,y,z,D,q,wr,pg] E ex)(U:Jig w [ex,E,A,y,z,D,q,wr,pg] H O K M) :
  Calls prog 38 #[v] w fun e w'=>e=.returned (Ko (Jby y z D q wr pg E ex H O K M a) (n.getD (-1)) ((r.or g).getD (-1)) ((c.or gc).getD (-1)) (p.getD (-1)))∧Below w.heap.size w w':=
 Jl6 v _ _ _ _ _ w (fun W hW=>Ju5 v a W (h.below hW).r (Kg hW X) A y z D q wr pg E ex H O K M (Z.below hW) (C.below hW) (R.below hW) (U.below hW)) (fun W hW=>Jvx v n W (h.below hW).n (C.below hW).et) (fun W hW=>Kau v r g W (h.below hW).x (h.below hW).g (C.below hW).et) (fun W hW=>Jqi v c gc W (h.below hW).c (h.below hW).gc (C.below hW).et) (fun W hW=>Jv7 v p W (h.below hW).p (C.below hW).et)
theorem Jt1 {y z K q wr pg H ex A E C D a:Addr}(h:a∉[H,ex,A,E,C,D]):Jby y z K q wr pg H ex A E C D a=Jdh y z K q wr pg a:=by
 simp only[Of1,Oi0,or_false,not_or]at h
 simp only[Jby,Jdh,if_neg h.1,if_neg h.2.1,if_neg h.2.2.1,if_neg h.2.2.2.1,if_neg h.2.2.2.2.1,if_neg h.2.2.2.2.2]
theorem Jj9 (v:Value)(a:Addr)(c p:Option Int)(w:World)(h:Yu w v a c p)(X:∃ c t,w.heap[a.block]?=some (.cells c t (0,0)))(C y z E q wr pg:Addr)(hi:a∈[C,y,z,E,q,wr,pg])(bc:Jf0 w C y z)(M:Jkn w C y z E q wr pg) :
  Calls prog 38 #[v] w fun e w'=>e=.returned (Jbz (Jdh y z E q wr pg a) (c.getD (-1)) (p.getD (-1)))∧Below w.heap.size w w':=by
 obtain⟨U,ex,D⟩:=M.m2
 obtain⟨H,R,K,O,A⟩:=D.m3
 have:=Jic v a none none c p none none w h.errV X C y z E q wr pg U ex H R K O bc M D A
 have bi:a≠U:=fun e=>D.np (by rw[←e];exact hi)
 have bl:a≠ex:=fun e=>D.ne (by rw[←e];exact hi)
 have Z:a≠H:=fun e=>A.nd (by rw[←e];exact .tail _ (.tail _ hi))
 have bh:a≠R:=fun e=>A.no (by rw[←e];exact .tail _ (.tail _ (.tail _ hi)))
 have bf:a≠K:=fun e=>A.ng (by rw[←e];exact .tail _ (.tail _ (.tail _ (.tail _ hi))))
 have bj:a≠O:=fun e=>A.nm (by rw[←e];exact .tail _ (.tail _ (.tail _ (.tail _ (.tail _ hi)))))
 rw[Jt1 (by simp[bi,bl,Z,bh,bf,bj])]at this
 simpa using this
theorem Jim {w:World}{C y z A q wr pg:Addr}(D:Jkn w C y z A q wr pg) :
  Jdh y z A q wr pg C=1∧Jdh y z A q wr pg y=2∧Jdh y z A q wr pg z=3∧Jdh y z A q wr pg A=4∧Jdh y z A q wr pg q=5∧Jdh y z A q wr pg wr=6∧Jdh y z A q wr pg pg=7:=by
 have h:=D.nd
 simp only[Og0,Of1,Oi0,or_false,not_or]at h
 obtain⟨⟨E,H,K,M,O,R⟩,⟨U,X,Z,bc,bf⟩,⟨bh,bi,bj,bl⟩,⟨bn,br,bu⟩,⟨bx,bz⟩,bA,_⟩:=h
 refine⟨?_,?_,?_,?_,?_,?_,?_⟩<;>simp only[Jdh]<;>(repeat' split)<;>simp_all
end Go.Proofs.YtjjdldddcegjiaaGreatDoor
