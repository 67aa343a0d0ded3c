/- The program's named errors; the number of an error; the Jb6 that a call answers. -/
import Derived.Test.YtdlgbphkaicfaaaGreatDoorEv
set_option maxHeartbeats 8000000
set_option maxRecDepth 100000
namespace Go.Proofs.YtdlgbphkaicfaaaGreatDoor
open Go.RowKit Go.Extern.Stop Go.Stop Go.Extern Tryz
structure Jig (w:World) (l:List Addr) (dv ov gv mn:Addr):Prop where
 cd:w.cell? ⟨10,0,none⟩=some (.iface 435 (.pointer (some dv)))
 co:w.cell? ⟨11,0,none⟩=some (.iface 435 (.pointer (some ov)))
 cg:w.cell? ⟨12,0,none⟩=some (.iface 435 (.pointer (some gv)))
 cm:w.cell? ⟨13,0,none⟩=some (.iface 435 (.pointer (some mn)))
 bd:∃ c t,w.heap[dv.block]?=some (.cells c t (0,0))
 bo:∃ c t,w.heap[ov.block]?=some (.cells c t (0,0))
 bg:∃ c t,w.heap[gv.block]?=some (.cells c t (0,0))
 bm:∃ c t,w.heap[mn.block]?=some (.cells c t (0,0))
 nd:dv∉l
 no:ov∉dv::l
 ng:gv∉ov::dv::l
 nm:mn∉gv::ov::dv::l
structure Jhy (w:World) (l:List Addr) (pl ex:Addr):Prop where
 cp:w.cell? ⟨3,0,none⟩=some (.iface 435 (.pointer (some pl)))
 ce:w.cell? ⟨9,0,none⟩=some (.iface 435 (.pointer (some ex)))
 bp:∃ c t,w.heap[pl.block]?=some (.cells c t (0,0))
 be:∃ c t,w.heap[ex.block]?=some (.cells c t (0,0))
 np:pl∉l
 ne:ex∉l
 m3:∃ dv ov gv mn,Jig w (ex::pl::l) dv ov gv mn
structure Jkn (w:World) (a0 a1 a2 tt q wr pg:Addr):Prop where
 ct:w.cell? ⟨2,0,none⟩=some (.iface 435 (.pointer (some tt)))
 cq:w.cell? ⟨6,0,none⟩=some (.iface 435 (.pointer (some q)))
 cw:w.cell? ⟨7,0,none⟩=some (.iface 435 (.pointer (some wr)))
 cp:w.cell? ⟨8,0,none⟩=some (.iface 435 (.pointer (some pg)))
 et:w.cell? ⟨14,0,none⟩=some (.iface 228 (.agg #[.pointer (some ⟨17,76,none⟩)]))
 bt:∃ c t,w.heap[tt.block]?=some (.cells c t (0,0))
 bq:∃ c t,w.heap[q.block]?=some (.cells c t (0,0))
 bw:∃ c t,w.heap[wr.block]?=some (.cells c t (0,0))
 bp:∃ c t,w.heap[pg.block]?=some (.cells c t (0,0))
 nd:[a0,a1,a2,tt,q,wr,pg].Nodup
 m2:∃ pl ex,Jhy w [a0,a1,a2,tt,q,wr,pg] pl ex
structure Jf0 (w:World) (a0 a1 a2:Addr):Prop where
 c0:w.cell? ⟨15,0,none⟩=some (.iface 435 (.pointer (some a0)))
 c1:w.cell? ⟨4,0,none⟩=some (.iface 435 (.pointer (some a1)))
 c2:w.cell? ⟨5,0,none⟩=some (.iface 435 (.pointer (some a2)))
 b0:∃ c t,w.heap[a0.block]?=some (.cells c t (0,0))
 b1:∃ c t,w.heap[a1.block]?=some (.cells c t (0,0))
 b2:∃ c t,w.heap[a2.block]?=some (.cells c t (0,0))
 more:∃ tt q wr pg,Jkn w a0 a1 a2 tt q wr pg
theorem Kg {w w':World}(y:Below w.heap.size w w'){k:Nat}(h:∃ c t,w.heap[k]?=some (.cells c t (0,0))):∃ c t,w'.heap[k]?=some (.cells c t (0,0)):=by
 obtain⟨c,t,h⟩:=h
 exact⟨c,t,by rw[y.block _ (Jd h)];exact h⟩
theorem Jig.below {w w':World}{l:List Addr}{A H D E:Addr}(h:Jig w l A H D E)(y:Below w.heap.size w w'):Jig w' l A H D E:=
 ⟨Ja y h.cd,Ja y h.co,Ja y h.cg,Ja y h.cm,Kg y h.bd,Kg y h.bo,Kg y h.bg,Kg y h.bm,h.nd,h.no,h.ng,h.nm⟩
theorem Jhy.below {w w':World}{l:List Addr}{A ex:Addr}(h:Jhy w l A ex)(y:Below w.heap.size w w'):Jhy w' l A ex:=
 ⟨Ja y h.cp,Ja y h.ce,Kg y h.bp,Kg y h.be,h.np,h.ne,by obtain⟨D,M,E,K,H⟩:=h.m3;exact⟨D,M,E,K,H.below y⟩⟩
theorem Jkn.below {w w':World}{A D E H q wr pg:Addr}(h:Jkn w A D E H q wr pg)(y:Below w.heap.size w w'):Jkn w' A D E H q wr pg:=
 ⟨Ja y h.ct,Ja y h.cq,Ja y h.cw,Ja y h.cp,Ja y h.et,Kg y h.bt,Kg y h.bq,Kg y h.bw,Kg y h.bp,h.nd,by obtain⟨K,ex,h2⟩:=h.m2;exact⟨K,ex,h2.below y⟩⟩
theorem Jf0.below {w w':World}{A D E:Addr}(h:Jf0 w A D E)(y:Below w.heap.size w w'):Jf0 w' A D E:=by
 obtain⟨K,q,wr,pg,H⟩:=h.more
 exact⟨Ja y h.c0,Ja y h.c1,Ja y h.c2,Kg y h.b0,Kg y h.b1,Kg y h.b2,K,q,wr,pg,H.below y⟩
def Jdh (y A D q wr pg a:Addr):Int:=if a=y then 2 else if a=A then 3 else if a=D then 4 else if a=q then 5 else if a=wr then 6 else if a=pg then 7 else 1
def Jby (y A O q wr pg M ex D K E H a:Addr):Int:=if a=y then 2 else if a=A then 3 else if a=O then 4 else if a=q then 5 else if a=wr then 6 else if a=pg then 7 else if a=M then 8 else if a=ex then 8 else if a=D then 9 else if a=K then 10 else if a=E then 10 else if a=H then 11 else 1
theorem Jwm (w:World):Calls prog 38 #[.nilIface] w fun e w'=>e=.returned (.int .i64 0)∧w'=w:=by
 have hn:=run_eql_nil_nil (P:=prog) w 76 (by kernel_rfl)
 go_enter func38,ntmps38
 go_wp2
 go_ret
 exact⟨rfl,rfl⟩
theorem Ju5 (v:Value)(a:Addr)(w:World)(h:∃ k,Zg w k v a)(H:∃ c t,w.heap[a.block]?=some (.cells c t (0,0)))(bi K M R q wr pg Z ex ba bf bb bc:Addr)(bh:Jf0 w bi K M)(X:Jkn w bi K M R q wr pg)(h2:Jhy w [bi,K,M,R,q,wr,pg] Z ex)(U:Jig w [ex,Z,bi,K,M,R,q,wr,pg] ba bf bb bc) :
  Calls prog 38 #[v] w fun e w'=>e=.returned (.int .i64 (Jby K M R q wr pg Z ex ba bf bb bc a))∧w'=w:=by
 obtain⟨ty,x,rfl⟩:∃ ty x,v=.iface ty x:=by obtain⟨_,bI⟩:=h;exact bI.iface
 have hn:=run_eql_held_nil (P:=prog) w 76 ty x (by kernel_rfl)
 have c1:=bh.c1
 have c2:=bh.c2
 have c3:=X.ct
 have c4:=X.cq
 have c5:=X.cw
 have c6:=X.cp
 have c7:=h2.cp
 have c8:=h2.ce
 have c9:=U.cd
 have bE:=U.co
 have bG:=U.cg
 have bH:=U.cm
 have bj:=Jci _ a K w h H bh.b1 (decide (a=K)) (by simp)
 have br:=Jci _ a M w h H bh.b2 (decide (a=M)) (by simp)
 have bu:=Jci _ a R w h H X.bt (decide (a=R)) (by simp)
 have bx:=Jci _ a q w h H X.bq (decide (a=q)) (by simp)
 have bz:=Jci _ a wr w h H X.bw (decide (a=wr)) (by simp)
 have bA:=Jci _ a pg w h H X.bp (decide (a=pg)) (by simp)
 have bB:=Jci _ a Z w h H h2.bp (decide (a=Z)) (by simp)
 have bC:=Jci _ a ex w h H h2.be (decide (a=ex)) (by simp)
 have bD:=Jci _ a ba w h H U.bd (decide (a=ba)) (by simp)
 have bk:=Jci _ a bf w h H U.bo (decide (a=bf)) (by simp)
 have bl:=Jci _ a bb w h H U.bg (decide (a=bb)) (by simp)
 have bn:=Jci _ a bc w h H U.bm (decide (a=bc)) (by simp)
 clear h H bh X h2 U
 have y:Hid (Jby K M R q wr pg Z ex ba bf bb bc a=if a=K then 2 else if a=M then 3 else if a=R then 4 else if a=q then 5 else if a=wr then 6 else if a=pg then 7 else if a=Z then 8 else if a=ex then 8 else if a=ba then 9 else if a=bf then 10 else if a=bb then 10 else if a=bc then 11 else 1):=rfl
 generalize Jby K M R q wr pg Z ex ba bf bb bc a=E at *
 go_enter func38,ntmps38
 go_wp2_with fail
 refine bj.mono ?_
 rintro e w' ⟨rfl,O⟩
 subst w'
 clear bj
 by_cases h1:a=K
 ·have D:=y.out
  rw[if_pos h1]at D
  subst D
  rw[decide_eq_true h1]
  clear h1
  go_wp2_with fail
  go_ret
  exact⟨rfl,rfl⟩
 have A:=y.out
 rw[if_neg h1]at A
 clear y
 have y:Hid (E=_):=A
 clear A
 rw[decide_eq_false h1]
 clear h1 c1
 go_wp2_with fail
 refine br.mono ?_
 rintro e w' ⟨rfl,O⟩
 subst w'
 clear br
 by_cases h1:a=M
 ·have D:=y.out
  rw[if_pos h1]at D
  subst D
  rw[decide_eq_true h1]
  clear h1
  go_wp2_with fail
  go_ret
  exact⟨rfl,rfl⟩
 have A:=y.out
 rw[if_neg h1]at A
 clear y
 have y:Hid (E=_):=A
 clear A
 rw[decide_eq_false h1]
 clear h1 c2
 go_wp2_with fail
 refine bu.mono ?_
 rintro e w' ⟨rfl,O⟩
 subst w'
 clear bu
 by_cases h1:a=R
 ·have D:=y.out
  rw[if_pos h1]at D
  subst D
  rw[decide_eq_true h1]
  clear h1
  go_wp2_with fail
  go_ret
  exact⟨rfl,rfl⟩
 have A:=y.out
 rw[if_neg h1]at A
 clear y
 have y:Hid (E=_):=A
 clear A
 rw[decide_eq_false h1]
 clear h1 c3
 go_wp2_with fail
 refine bx.mono ?_
 rintro e w' ⟨rfl,O⟩
 subst w'
 clear bx
 by_cases h1:a=q
 ·have D:=y.out
  rw[if_pos h1]at D
  subst D
  rw[decide_eq_true h1]
  clear h1
  go_wp2_with fail
  go_ret
  exact⟨rfl,rfl⟩
 have A:=y.out
 rw[if_neg h1]at A
 clear y
 have y:Hid (E=_):=A
 clear A
 rw[decide_eq_false h1]
 clear h1 c4
 go_wp2_with fail
 refine bz.mono ?_
 rintro e w' ⟨rfl,O⟩
 subst w'
 clear bz
 by_cases h1:a=wr
 ·have D:=y.out
  rw[if_pos h1]at D
  subst D
  rw[decide_eq_true h1]
  clear h1
  go_wp2_with fail
  go_ret
  exact⟨rfl,rfl⟩
 have A:=y.out
 rw[if_neg h1]at A
 clear y
 have y:Hid (E=_):=A
 clear A
 rw[decide_eq_false h1]
 clear h1 c5
 go_wp2_with fail
 refine bA.mono ?_
 rintro e w' ⟨rfl,O⟩
 subst w'
 clear bA
 by_cases h1:a=pg
 ·have D:=y.out
  rw[if_pos h1]at D
  subst D
  rw[decide_eq_true h1]
  clear h1
  go_wp2_with fail
  go_ret
  exact⟨rfl,rfl⟩
 have A:=y.out
 rw[if_neg h1]at A
 clear y
 have y:Hid (E=_):=A
 clear A
 rw[decide_eq_false h1]
 clear h1 c6
 go_wp2_with fail
 refine bB.mono ?_
 rintro e w' ⟨rfl,O⟩
 subst w'
 clear bB
 by_cases h1:a=Z
 ·have D:=y.out
  rw[if_pos h1]at D
  subst D
  rw[decide_eq_true h1]
  clear h1
  go_wp2_with fail
  go_ret
  exact⟨rfl,rfl⟩
 have A:=y.out
 rw[if_neg h1]at A
 clear y
 have y:Hid (E=_):=A
 clear A
 rw[decide_eq_false h1]
 clear h1 c7
 go_wp2_with fail
 refine bC.mono ?_
 rintro e w' ⟨rfl,O⟩
 subst w'
 clear bC
 by_cases h1:a=ex
 ·have D:=y.out
  rw[if_pos h1]at D
  subst D
  rw[decide_eq_true h1]
  clear h1
  go_wp2_with fail
  go_ret
  exact⟨rfl,rfl⟩
 have A:=y.out
 rw[if_neg h1]at A
 clear y
 have y:Hid (E=_):=A
 clear A
 rw[decide_eq_false h1]
 clear h1 c8
 go_wp2_with fail
 refine bD.mono ?_
 rintro e w' ⟨rfl,O⟩
 subst w'
 clear bD
 by_cases h1:a=ba
 ·have D:=y.out
  rw[if_pos h1]at D
  subst D
  rw[decide_eq_true h1]
  clear h1
  go_wp2_with fail
  go_ret
  exact⟨rfl,rfl⟩
 have A:=y.out
 rw[if_neg h1]at A
 clear y
 have y:Hid (E=_):=A
 clear A
 rw[decide_eq_false h1]
 clear h1 c9
 go_wp2_with fail
 refine bk.mono ?_
 rintro e w' ⟨rfl,O⟩
 subst w'
 clear bk
 by_cases h1:a=bf
 ·have D:=y.out
  rw[if_pos h1]at D
  subst D
  rw[decide_eq_true h1]
  clear h1
  go_wp2_with fail
  go_ret
  exact⟨rfl,rfl⟩
 have A:=y.out
 rw[if_neg h1]at A
 clear y
 have y:Hid (E=_):=A
 clear A
 rw[decide_eq_false h1]
 clear h1 bE
 go_wp2_with fail
 refine bl.mono ?_
 rintro e w' ⟨rfl,O⟩
 subst w'
 clear bl
 by_cases h1:a=bb
 ·have D:=y.out
  rw[if_pos h1]at D
  subst D
  rw[decide_eq_true h1]
  clear h1
  go_wp2_with fail
  go_ret
  exact⟨rfl,rfl⟩
 have A:=y.out
 rw[if_neg h1]at A
 clear y
 have y:Hid (E=_):=A
 clear A
 rw[decide_eq_false h1]
 clear h1 bG
 go_wp2_with fail
 refine bn.mono ?_
 rintro e w' ⟨rfl,O⟩
 subst w'
 clear bn
 by_cases h1:a=bc
 ·have D:=y.out
  rw[if_pos h1]at D
  subst D
  rw[decide_eq_true h1]
  clear h1
  go_wp2_with fail
  go_ret
  exact⟨rfl,rfl⟩
 have A:=y.out
 rw[if_neg h1]at A
 clear y
 have y:Hid (E=_):=A
 clear A
 rw[decide_eq_false h1]
 clear h1 bH
 have D:E=1:=y.out
 subst D
 go_wp2_with fail
 go_ret
 exact⟨rfl,rfl⟩
abbrev Ko (c nd row col pg:Int):Value:=.agg #[.int .i64 c,.int .i64 nd,.int .i64 row,.int .i64 col,.int .i64 pg]
abbrev Jjp (c nd col pg:Int):Value:=Ko c nd (-1) col pg
abbrev Jbz (c col pg:Int):Value:=Jjp c (-1) col pg
theorem Jk {w:World}{b:Nat}{cs:Array Value}{t:TypeId}(h:w.heap[b]?=some (.cells cs t (0,0)))(o:Nat)(v:Value):(w.setCell ⟨b,o,none⟩ v).heap[b]?=some (.cells (cs.setIfInBounds o v) t (0,0)):=by
 simp[World.setCell,Array.getElem?_modify,h]
theorem Jl6 (x:Value)(c nd row col pg:Int)(w:World)(h1:∀ W,Below w.heap.size w W→Calls prog 38 #[x] W fun e w'=>e=.returned (.int .i64 c)∧w'=W)
  (K:∀ W,Below w.heap.size w W→Calls prog 39 #[x] W fun e w'=>e=.returned (.int .i64 nd)∧Below W.heap.size W w')
  (hR:∀ W,Below w.heap.size w W→Calls prog 40 #[x] W fun e w'=>e=.returned (.int .i64 row)∧Below W.heap.size W w')
  (h2:∀ W,Below w.heap.size w W→Calls prog 41 #[x] W fun e w'=>e=.returned (.int .i64 col)∧Below W.heap.size W w')
  (H:∀ W,Below w.heap.size w W→Calls prog 42 #[x] W fun e w'=>e=.returned (.int .i64 pg)∧Below W.heap.size W w') :
  Calls prog 29 #[x] w fun e w'=>e=.returned (Ko c nd row col pg)∧Below w.heap.size w w':=by
 have bc:Hid (∀ W,Below w.heap.size w W→Calls prog 38 #[x] W fun e w'=>e=.returned (.int .i64 c)∧w'=W):=h1
 have bi:Hid (∀ W,Below w.heap.size w W→Calls prog 39 #[x] W fun e w'=>e=.returned (.int .i64 nd)∧Below W.heap.size W w'):=K
 have bf:Hid (∀ W,Below w.heap.size w W→Calls prog 41 #[x] W fun e w'=>e=.returned (.int .i64 col)∧Below W.heap.size W w'):=h2
 have bh:Hid (∀ W,Below w.heap.size w W→Calls prog 42 #[x] W fun e w'=>e=.returned (.int .i64 pg)∧Below W.heap.size W w'):=H
 have bj:Hid (∀ W,Below w.heap.size w W→Calls prog 40 #[x] W fun e w'=>e=.returned (.int .i64 row)∧Below W.heap.size W w'):=hR
 clear h1 h2 H K hR
 have E:Below w.heap.size w (w.alloc (.cells #[.int .i64 0,.int .i64 0,.int .i64 0,.int .i64 0,.int .i64 0] 42)):=(Oa5 _ _).alloc (Oa2 _) _
 go_enter func29,ntmps29
 go_wp2_with fail
 refine(bc.out _ E).mono ?_
 rintro e w' ⟨rfl,bA⟩
 subst w'
 go_wp2_with fail
 refine(bi.out _ E).mono ?_
 rintro e bH ⟨rfl,Z⟩
 go_wp2_with fail
 have U:=Jb E Z
 refine(bj.out _ U).mono ?_
 rintro e bI ⟨rfl,ba⟩
 go_wp2_with fail
 have X:=Jb U ba
 refine(bf.out _ X).mono ?_
 rintro e w1 ⟨rfl,M⟩
 go_wp2_with fail
 have O:=Jb X M
 refine(bh.out _ O).mono ?_
 rintro e A ⟨rfl,R⟩
 have bk:=Jb O R
 have bl:=Jb Z (Jb ba (Jb M R))
 have y:A.heap[w.heap.size]?=some (.cells #[.int .i64 0,.int .i64 0,.int .i64 0,.int .i64 0,.int .i64 0] 42 (0,0)):=by
  rw[bl.block _ (by simp)];exact heap_alloc_new _ _
 have bB:A.cell? ⟨w.heap.size,0,none⟩=some (.int .i64 0):=by simp[World.cell?,y]
 have bC:A.cell? ⟨w.heap.size,1,none⟩=some (.int .i64 0):=by simp[World.cell?,y]
 have bD:A.cell? ⟨w.heap.size,2,none⟩=some (.int .i64 0):=by simp[World.cell?,y]
 have bE:A.cell? ⟨w.heap.size,3,none⟩=some (.int .i64 0):=by simp[World.cell?,y]
 have bG:A.cell? ⟨w.heap.size,4,none⟩=some (.int .i64 0):=by simp[World.cell?,y]
 have D:∀ o,A.frozen? ⟨w.heap.size,o,none⟩=false:=fun o=>by simp[World.frozen?,y]
 have bn:=D 0
 have br:=D 1
 have bu:=D 2
 have bx:=D 3
 have bz:=D 4
 have bb:=Jk (Jk (Jk (Jk (Jk y 0 (.int .i64 c)) 1 (.int .i64 nd)) 2 (.int .i64 row)) 3 (.int .i64 col)) 4 (.int .i64 pg)
 simp only[Oa1,List.set_cons_zero,List.set_cons_succ]at bb
 clear y D
 go_wp2
 exact bodyPost_ret (v:=Ko c nd row col pg) (by simp[results,results29,go_sem,Ko,World.cell?,bb]) rfl ⟨rfl,Um bk (Oa2 _) _ _ _ _ _⟩
theorem Jjq (w:World):Calls prog 29 #[.nilIface] w fun e w'=>e=.returned (Jb6 0)∧Below w.heap.size w w':=
 Jl6 .nilIface 0 (-1) (-1) (-1) (-1) w (fun W _=>Jwm W) (fun W _=>Jxf W) (fun W _=>Jz5 W) (fun W _=>Jqq W) (fun W _=>Jvp W)
theorem Jic (v:Value)(a:Addr)(n r c p g gc:Option Int)(w:World)(h:Jny w v a n r c p g gc)(Z:∃ c t,w.heap[a.block]?=some (.cells c t (0,0)))(D y A H q wr pg K ex M U O R:Addr)(ba:Jf0 w D y A)(E:Jkn w D y A H q wr pg)(h2:Jhy w [D,y,A,H,q,wr,pg] K ex)(X:Jig w [ex,K,D,y,A,H,q,wr,pg] M U O R) :
  Calls prog 29 #[v] w fun e w'=>e=.returned (Ko (Jby y A H q wr pg K ex M U O R a) (n.getD (-1)) ((r.or g).getD (-1)) ((c.or gc).getD (-1)) (p.getD (-1)))∧Below w.heap.size w w':=
 Jl6 v _ _ _ _ _ w (fun W hW=>Ju5 v a W (h.below hW).r (Kg hW Z) D y A H q wr pg K ex M U O R (ba.below hW) (E.below hW) (h2.below hW) (X.below hW)) (fun W hW=>Jvx v n W (h.below hW).n (E.below hW).et) (fun W hW=>Kau v r g W (h.below hW).x (h.below hW).g (E.below hW).et) (fun W hW=>Jqi v c gc W (h.below hW).c (h.below hW).gc (E.below hW).et) (fun W hW=>Jv7 v p W (h.below hW).p (E.below hW).et)
theorem Jt1 {y A O q wr pg M ex D K E H a:Addr}(h:a∉[M,ex,D,K,E,H]):Jby y A O q wr pg M ex D K E H a=Jdh y A O q wr pg a:=by
 simp only[Of1,Oi0,or_false,not_or]at h
 simp only[Jby,Jdh,if_neg h.1,if_neg h.2.1,if_neg h.2.2.1,if_neg h.2.2.2.1,if_neg h.2.2.2.2.1,if_neg h.2.2.2.2.2]
theorem Jj9 (v:Value)(a:Addr)(c p:Option Int)(w:World)(h:Yu w v a c p)(Z:∃ c t,w.heap[a.block]?=some (.cells c t (0,0)))(E y A H q wr pg:Addr)(hi:a∈[E,y,A,H,q,wr,pg])(bb:Jf0 w E y A)(O:Jkn w E y A H q wr pg) :
  Calls prog 29 #[v] w fun e w'=>e=.returned (Jbz (Jdh y A H q wr pg a) (c.getD (-1)) (p.getD (-1)))∧Below w.heap.size w w':=by
 obtain⟨X,ex,h2⟩:=O.m2
 obtain⟨K,U,M,R,D⟩:=h2.m3
 have:=Jic v a none none c p none none w h.errV Z E y A H q wr pg X ex K U M R bb O h2 D
 have bh:a≠X:=fun e=>h2.np (by rw[←e];exact hi)
 have bj:a≠ex:=fun e=>h2.ne (by rw[←e];exact hi)
 have ba:a≠K:=fun e=>D.nd (by rw[←e];exact .tail _ (.tail _ hi))
 have bf:a≠U:=fun e=>D.no (by rw[←e];exact .tail _ (.tail _ (.tail _ hi)))
 have bc:a≠M:=fun e=>D.ng (by rw[←e];exact .tail _ (.tail _ (.tail _ (.tail _ hi))))
 have bi:a≠R:=fun e=>D.nm (by rw[←e];exact .tail _ (.tail _ (.tail _ (.tail _ (.tail _ hi)))))
 rw[Jt1 (by simp[bh,bj,ba,bf,bc,bi])]at this
 simpa using this
theorem Jim {w:World}{E y A D q wr pg:Addr}(H:Jkn w E y A D q wr pg) :
  Jdh y A D q wr pg E=1∧Jdh y A D q wr pg y=2∧Jdh y A D q wr pg A=3∧Jdh y A D q wr pg D=4∧Jdh y A D q wr pg q=5∧Jdh y A D q wr pg wr=6∧Jdh y A D q wr pg pg=7:=by
 have h:=H.nd
 simp only[Og0,Of1,Oi0,or_false,not_or]at h
 obtain⟨⟨K,M,O,R,U,X⟩,⟨Z,ba,bb,bc,bf⟩,⟨bh,bi,bj,bk⟩,⟨bl,bn,br⟩,⟨bu,bx⟩,bz,_⟩:=h
 refine⟨?_,?_,?_,?_,?_,?_,?_⟩<;>simp only[Jdh]<;>(repeat' split)<;>simp_all
end Go.Proofs.YtdlgbphkaicfaaaGreatDoor
