/- The program's named errors; the number of an error; the fault that a call answers. -/
import Derived.Test.YtcaocabmioafcaaGreatDoorEv
set_option maxHeartbeats 8000000
set_option maxRecDepth 100000
namespace Go.Proofs.YtcaocabmioafcaaGreatDoor
open Go.RowKit Go.Extern.Stop Go.Stop Go.Extern Tryz
structure Jig (w:World) (l:List Addr) (dv ov gv mn:Addr):Prop where
 cd:w.cell? ⟨9,0,none⟩=some (.iface 528 (.pointer (some dv)))
 co:w.cell? ⟨10,0,none⟩=some (.iface 528 (.pointer (some ov)))
 cg:w.cell? ⟨11,0,none⟩=some (.iface 528 (.pointer (some gv)))
 cm:w.cell? ⟨12,0,none⟩=some (.iface 528 (.pointer (some mn)))
 bd:∃ c t,w.heap[dv.block]?=some (.cells c t (0,0))
 bo:∃ c t,w.heap[ov.block]?=some (.cells c t (0,0))
 bg:∃ c t,w.heap[gv.block]?=some (.cells c t (0,0))
 bm:∃ c t,w.heap[mn.block]?=some (.cells c t (0,0))
 nd:dv∉l
 no:ov∉dv::l
 ng:gv∉ov::dv::l
 nm:mn∉gv::ov::dv::l
structure Jhy (w:World) (l:List Addr) (pl ex:Addr):Prop where
 cp:w.cell? ⟨7,0,none⟩=some (.iface 528 (.pointer (some pl)))
 ce:w.cell? ⟨8,0,none⟩=some (.iface 528 (.pointer (some ex)))
 bp:∃ c t,w.heap[pl.block]?=some (.cells c t (0,0))
 be:∃ c t,w.heap[ex.block]?=some (.cells c t (0,0))
 np:pl∉l
 ne:ex∉l
 m3:∃ dv ov gv mn,Jig w (ex::pl::l) dv ov gv mn
structure Jkn (w:World) (a0 a1 a2 tt q wr pg:Addr):Prop where
 ct:w.cell? ⟨0,0,none⟩=some (.iface 528 (.pointer (some tt)))
 cq:w.cell? ⟨4,0,none⟩=some (.iface 528 (.pointer (some q)))
 cw:w.cell? ⟨5,0,none⟩=some (.iface 528 (.pointer (some wr)))
 cp:w.cell? ⟨6,0,none⟩=some (.iface 528 (.pointer (some pg)))
 et:w.cell? ⟨14,0,none⟩=some (.iface 302 (.agg #[.pointer (some ⟨17,108,none⟩)]))
 bt:∃ c t,w.heap[tt.block]?=some (.cells c t (0,0))
 bq:∃ c t,w.heap[q.block]?=some (.cells c t (0,0))
 bw:∃ c t,w.heap[wr.block]?=some (.cells c t (0,0))
 bp:∃ c t,w.heap[pg.block]?=some (.cells c t (0,0))
 nd:[a0,a1,a2,tt,q,wr,pg].Nodup
 m2:∃ pl ex,Jhy w [a0,a1,a2,tt,q,wr,pg] pl ex
structure Jf0 (w:World) (a0 a1 a2:Addr):Prop where
 c0:w.cell? ⟨15,0,none⟩=some (.iface 528 (.pointer (some a0)))
 c1:w.cell? ⟨2,0,none⟩=some (.iface 528 (.pointer (some a1)))
 c2:w.cell? ⟨3,0,none⟩=some (.iface 528 (.pointer (some a2)))
 b0:∃ c t,w.heap[a0.block]?=some (.cells c t (0,0))
 b1:∃ c t,w.heap[a1.block]?=some (.cells c t (0,0))
 b2:∃ c t,w.heap[a2.block]?=some (.cells c t (0,0))
 more:∃ tt q wr pg,Jkn w a0 a1 a2 tt q wr pg
theorem Kg {w w':World}(A:Below w.heap.size w w'){k:Nat}(h:∃ c t,w.heap[k]?=some (.cells c t (0,0))):∃ c t,w'.heap[k]?=some (.cells c t (0,0)):=by
 obtain⟨c,t,h⟩:=h
 exact⟨c,t,by rw[A.block _ (Jd h)];exact h⟩
theorem Jig.below {w w':World}{l:List Addr}{H K I J:Addr}(h:Jig w l H K I J)(A:Below w.heap.size w w'):Jig w' l H K I J:=
 ⟨Ja A h.cd,Ja A h.co,Ja A h.cg,Ja A h.cm,Kg A h.bd,Kg A h.bo,Kg A h.bg,Kg A h.bm,h.nd,h.no,h.ng,h.nm⟩
theorem Jhy.below {w w':World}{l:List Addr}{pl ex:Addr}(h:Jhy w l pl ex)(A:Below w.heap.size w w'):Jhy w' l pl ex:=
 ⟨Ja A h.cp,Ja A h.ce,Kg A h.bp,Kg A h.be,h.np,h.ne,by obtain⟨H,L,I,K,J⟩:=h.m3;exact⟨H,L,I,K,J.below A⟩⟩
theorem Jkn.below {w w':World}{H I J K q wr pg:Addr}(h:Jkn w H I J K q wr pg)(A:Below w.heap.size w w'):Jkn w' H I J K q wr pg:=
 ⟨Ja A h.ct,Ja A h.cq,Ja A h.cw,Ja A h.cp,Ja A h.et,Kg A h.bt,Kg A h.bq,Kg A h.bw,Kg A h.bp,h.nd,by obtain⟨pl,ex,L⟩:=h.m2;exact⟨pl,ex,L.below A⟩⟩
theorem Jf0.below {w w':World}{H I J:Addr}(h:Jf0 w H I J)(A:Below w.heap.size w w'):Jf0 w' H I J:=by
 obtain⟨L,q,wr,pg,K⟩:=h.more
 exact⟨Ja A h.c0,Ja A h.c1,Ja A h.c2,Kg A h.b0,Kg A h.b1,Kg A h.b2,L,q,wr,pg,K.below A⟩
def Jdh (A H I q wr pg a:Addr):Int:=if a=A then 2 else if a=H then 3 else if a=I then 4 else if a=q then 5 else if a=wr then 6 else if a=pg then 7 else 1
def Jby (A H M q wr pg pl ex I L J K a:Addr):Int:=if a=A then 2 else if a=H then 3 else if a=M then 4 else if a=q then 5 else if a=wr then 6 else if a=pg then 7 else if a=pl then 8 else if a=ex then 8 else if a=I then 9 else if a=L then 10 else if a=J then 10 else if a=K then 11 else 1
theorem Jwm (w:World):Calls prog 68 #[.nilIface] w fun e w'=>e=.returned (.int .i64 0)∧w'=w:=by
 have A:=run_eql_nil_nil (P:=prog) w 108 (by kernel_rfl)
 go_enter func68,ntmps68
 go_wp2
 go_ret
 exact⟨rfl,rfl⟩
theorem Ju5 (v:Value)(a:Addr)(w:World)(h:∃ k,Zg w k v a)(L:∃ c t,w.heap[a.block]?=some (.cells c t (0,0)))(bh M N R q wr pg pl ex Y bb Z ba:Addr)(bf:Jf0 w bh M N)(X:Jkn w bh M N R q wr pg)(bc:Jhy w [bh,M,N,R,q,wr,pg] pl ex)(U:Jig w [ex,pl,bh,M,N,R,q,wr,pg] Y bb Z ba) :
  Calls prog 68 #[v] w fun e w'=>e=.returned (.int .i64 (Jby M N R q wr pg pl ex Y bb Z ba a))∧w'=w:=by
 obtain⟨ty,x,rfl⟩:∃ ty x,v=.iface ty x:=by obtain⟨_,bL⟩:=h;exact bL.iface
 have bM:=run_eql_held_nil (P:=prog) w 108 ty x (by kernel_rfl)
 have c1:=bf.c1
 have c2:=bf.c2
 have c3:=X.ct
 have c4:=X.cq
 have c5:=X.cw
 have bH:=X.cp
 have bI:=bc.cp
 have bJ:=bc.ce
 have bK:=U.cd
 have bD:=U.co
 have bE:=U.cg
 have bG:=U.cm
 have bi:=Jci _ a M w h L bf.b1 (decide (a=M)) (by simp)
 have bn:=Jci _ a N w h L bf.b2 (decide (a=N)) (by simp)
 have br:=Jci _ a R w h L X.bt (decide (a=R)) (by simp)
 have bu:=Jci _ a q w h L X.bq (decide (a=q)) (by simp)
 have bx:=Jci _ a wr w h L X.bw (decide (a=wr)) (by simp)
 have bz:=Jci _ a pg w h L X.bp (decide (a=pg)) (by simp)
 have bA:=Jci _ a pl w h L bc.bp (decide (a=pl)) (by simp)
 have bB:=Jci _ a ex w h L bc.be (decide (a=ex)) (by simp)
 have bC:=Jci _ a Y w h L U.bd (decide (a=Y)) (by simp)
 have bj:=Jci _ a bb w h L U.bo (decide (a=bb)) (by simp)
 have bk:=Jci _ a Z w h L U.bg (decide (a=Z)) (by simp)
 have bl:=Jci _ a ba w h L U.bm (decide (a=ba)) (by simp)
 clear h L bf X bc U
 have H:Hid (Jby M N R q wr pg pl ex Y bb Z ba a=if a=M then 2 else if a=N then 3 else if a=R then 4 else if a=q then 5 else if a=wr then 6 else if a=pg then 7 else if a=pl then 8 else if a=ex then 8 else if a=Y then 9 else if a=bb then 10 else if a=Z then 10 else if a=ba then 11 else 1):=rfl
 generalize Jby M N R q wr pg pl ex Y bb Z ba a=K at *
 go_enter func68,ntmps68
 go_wp2_with fail
 refine bi.mono ?_
 rintro e w' ⟨rfl,O⟩
 subst w'
 clear bi
 by_cases A:a=M
 ·have J:=H.out
  rw[if_pos A]at J
  subst J
  rw[decide_eq_true A]
  clear A
  go_wp2_with fail
  go_ret
  exact⟨rfl,rfl⟩
 have I:=H.out
 rw[if_neg A]at I
 clear H
 have H:Hid (K=_):=I
 clear I
 rw[decide_eq_false A]
 clear A c1
 go_wp2_with fail
 refine bn.mono ?_
 rintro e w' ⟨rfl,O⟩
 subst w'
 clear bn
 by_cases A:a=N
 ·have J:=H.out
  rw[if_pos A]at J
  subst J
  rw[decide_eq_true A]
  clear A
  go_wp2_with fail
  go_ret
  exact⟨rfl,rfl⟩
 have I:=H.out
 rw[if_neg A]at I
 clear H
 have H:Hid (K=_):=I
 clear I
 rw[decide_eq_false A]
 clear A c2
 go_wp2_with fail
 refine br.mono ?_
 rintro e w' ⟨rfl,O⟩
 subst w'
 clear br
 by_cases A:a=R
 ·have J:=H.out
  rw[if_pos A]at J
  subst J
  rw[decide_eq_true A]
  clear A
  go_wp2_with fail
  go_ret
  exact⟨rfl,rfl⟩
 have I:=H.out
 rw[if_neg A]at I
 clear H
 have H:Hid (K=_):=I
 clear I
 rw[decide_eq_false A]
 clear A c3
 go_wp2_with fail
 refine bu.mono ?_
 rintro e w' ⟨rfl,O⟩
 subst w'
 clear bu
 by_cases A:a=q
 ·have J:=H.out
  rw[if_pos A]at J
  subst J
  rw[decide_eq_true A]
  clear A
  go_wp2_with fail
  go_ret
  exact⟨rfl,rfl⟩
 have I:=H.out
 rw[if_neg A]at I
 clear H
 have H:Hid (K=_):=I
 clear I
 rw[decide_eq_false A]
 clear A c4
 go_wp2_with fail
 refine bx.mono ?_
 rintro e w' ⟨rfl,O⟩
 subst w'
 clear bx
 by_cases A:a=wr
 ·have J:=H.out
  rw[if_pos A]at J
  subst J
  rw[decide_eq_true A]
  clear A
  go_wp2_with fail
  go_ret
  exact⟨rfl,rfl⟩
 have I:=H.out
 rw[if_neg A]at I
 clear H
 have H:Hid (K=_):=I
 clear I
 rw[decide_eq_false A]
 clear A c5
 go_wp2_with fail
 refine bz.mono ?_
 rintro e w' ⟨rfl,O⟩
 subst w'
 clear bz
 by_cases A:a=pg
 ·have J:=H.out
  rw[if_pos A]at J
  subst J
  rw[decide_eq_true A]
  clear A
  go_wp2_with fail
  go_ret
  exact⟨rfl,rfl⟩
 have I:=H.out
 rw[if_neg A]at I
 clear H
 have H:Hid (K=_):=I
 clear I
 rw[decide_eq_false A]
 clear A bH
 go_wp2_with fail
 refine bA.mono ?_
 rintro e w' ⟨rfl,O⟩
 subst w'
 clear bA
 by_cases A:a=pl
 ·have J:=H.out
  rw[if_pos A]at J
  subst J
  rw[decide_eq_true A]
  clear A
  go_wp2_with fail
  go_ret
  exact⟨rfl,rfl⟩
 have I:=H.out
 rw[if_neg A]at I
 clear H
 have H:Hid (K=_):=I
 clear I
 rw[decide_eq_false A]
 clear A bI
 go_wp2_with fail
 refine bB.mono ?_
 rintro e w' ⟨rfl,O⟩
 subst w'
 clear bB
 by_cases A:a=ex
 ·have J:=H.out
  rw[if_pos A]at J
  subst J
  rw[decide_eq_true A]
  clear A
  go_wp2_with fail
  go_ret
  exact⟨rfl,rfl⟩
 have I:=H.out
 rw[if_neg A]at I
 clear H
 have H:Hid (K=_):=I
 clear I
 rw[decide_eq_false A]
 clear A bJ
 go_wp2_with fail
 refine bC.mono ?_
 rintro e w' ⟨rfl,O⟩
 subst w'
 clear bC
 by_cases A:a=Y
 ·have J:=H.out
  rw[if_pos A]at J
  subst J
  rw[decide_eq_true A]
  clear A
  go_wp2_with fail
  go_ret
  exact⟨rfl,rfl⟩
 have I:=H.out
 rw[if_neg A]at I
 clear H
 have H:Hid (K=_):=I
 clear I
 rw[decide_eq_false A]
 clear A bK
 go_wp2_with fail
 refine bj.mono ?_
 rintro e w' ⟨rfl,O⟩
 subst w'
 clear bj
 by_cases A:a=bb
 ·have J:=H.out
  rw[if_pos A]at J
  subst J
  rw[decide_eq_true A]
  clear A
  go_wp2_with fail
  go_ret
  exact⟨rfl,rfl⟩
 have I:=H.out
 rw[if_neg A]at I
 clear H
 have H:Hid (K=_):=I
 clear I
 rw[decide_eq_false A]
 clear A bD
 go_wp2_with fail
 refine bk.mono ?_
 rintro e w' ⟨rfl,O⟩
 subst w'
 clear bk
 by_cases A:a=Z
 ·have J:=H.out
  rw[if_pos A]at J
  subst J
  rw[decide_eq_true A]
  clear A
  go_wp2_with fail
  go_ret
  exact⟨rfl,rfl⟩
 have I:=H.out
 rw[if_neg A]at I
 clear H
 have H:Hid (K=_):=I
 clear I
 rw[decide_eq_false A]
 clear A bE
 go_wp2_with fail
 refine bl.mono ?_
 rintro e w' ⟨rfl,O⟩
 subst w'
 clear bl
 by_cases A:a=ba
 ·have J:=H.out
  rw[if_pos A]at J
  subst J
  rw[decide_eq_true A]
  clear A
  go_wp2_with fail
  go_ret
  exact⟨rfl,rfl⟩
 have I:=H.out
 rw[if_neg A]at I
 clear H
 have H:Hid (K=_):=I
 clear I
 rw[decide_eq_false A]
 clear A bG
 have J:K=1:=H.out
 subst J
 go_wp2_with fail
 go_ret
 exact⟨rfl,rfl⟩
abbrev Ko (c nd row A pg:Int):Value:=.agg #[.int .i64 c,.int .i64 nd,.int .i64 row,.int .i64 A,.int .i64 pg]
abbrev Jjp (c nd A pg:Int):Value:=Ko c nd (-1) A pg
abbrev Jbz (c A pg:Int):Value:=Jjp c (-1) A pg
theorem Jk {w:World}{b:Nat}{cs:Array Value}{t:TypeId}(h:w.heap[b]?=some (.cells cs t (0,0)))(o:Nat)(v:Value):(w.setCell ⟨b,o,none⟩ v).heap[b]?=some (.cells (cs.setIfInBounds o v) t (0,0)):=by
 simp[World.setCell,Array.getElem?_modify,h]
theorem Jl6 (x:Value)(c nd row I pg:Int)(w:World)(K:∀ W,Below w.heap.size w W→Calls prog 68 #[x] W fun e w'=>e=.returned (.int .i64 c)∧w'=W)
  (N:∀ W,Below w.heap.size w W→Calls prog 69 #[x] W fun e w'=>e=.returned (.int .i64 nd)∧Below W.heap.size W w')
  (O:∀ W,Below w.heap.size w W→Calls prog 70 #[x] W fun e w'=>e=.returned (.int .i64 row)∧Below W.heap.size W w')
  (L:∀ W,Below w.heap.size w W→Calls prog 71 #[x] W fun e w'=>e=.returned (.int .i64 I)∧Below W.heap.size W w')
  (M:∀ W,Below w.heap.size w W→Calls prog 72 #[x] W fun e w'=>e=.returned (.int .i64 pg)∧Below W.heap.size W w') :
  Calls prog 39 #[x] w fun e w'=>e=.returned (Ko c nd row I pg)∧Below w.heap.size w w':=by
 have bf:Hid (∀ W,Below w.heap.size w W→Calls prog 68 #[x] W fun e w'=>e=.returned (.int .i64 c)∧w'=W):=K
 have bj:Hid (∀ W,Below w.heap.size w W→Calls prog 69 #[x] W fun e w'=>e=.returned (.int .i64 nd)∧Below W.heap.size W w'):=N
 have bh:Hid (∀ W,Below w.heap.size w W→Calls prog 71 #[x] W fun e w'=>e=.returned (.int .i64 I)∧Below W.heap.size W w'):=L
 have bi:Hid (∀ W,Below w.heap.size w W→Calls prog 72 #[x] W fun e w'=>e=.returned (.int .i64 pg)∧Below W.heap.size W w'):=M
 have bk:Hid (∀ W,Below w.heap.size w W→Calls prog 70 #[x] W fun e w'=>e=.returned (.int .i64 row)∧Below W.heap.size W w'):=O
 clear K L M N O
 have J:Below w.heap.size w (w.alloc (.cells #[.int .i64 0,.int .i64 0,.int .i64 0,.int .i64 0,.int .i64 0] 68)):=(Oa5 _ _).alloc (Oa2 _) _
 go_enter func39,ntmps39
 go_wp2_with fail
 refine(bf.out _ J).mono ?_
 rintro e w' ⟨rfl,bB⟩
 subst w'
 go_wp2_with fail
 refine(bj.out _ J).mono ?_
 rintro e bG ⟨rfl,ba⟩
 go_wp2_with fail
 have Y:=Jb J ba
 refine(bk.out _ Y).mono ?_
 rintro e bH ⟨rfl,bb⟩
 go_wp2_with fail
 have Z:=Jb Y bb
 refine(bh.out _ Z).mono ?_
 rintro e w1 ⟨rfl,R⟩
 go_wp2_with fail
 have U:=Jb Z R
 refine(bi.out _ U).mono ?_
 rintro e A ⟨rfl,X⟩
 have bl:=Jb U X
 have bn:=Jb ba (Jb bb (Jb R X))
 have hk:A.heap[w.heap.size]?=some (.cells #[.int .i64 0,.int .i64 0,.int .i64 0,.int .i64 0,.int .i64 0] 68 (0,0)):=by
  rw[bn.block _ (by simp)];exact heap_alloc_new _ _
 have k0:A.cell? ⟨w.heap.size,0,none⟩=some (.int .i64 0):=by simp[World.cell?,hk]
 have k1:A.cell? ⟨w.heap.size,1,none⟩=some (.int .i64 0):=by simp[World.cell?,hk]
 have bC:A.cell? ⟨w.heap.size,2,none⟩=some (.int .i64 0):=by simp[World.cell?,hk]
 have bD:A.cell? ⟨w.heap.size,3,none⟩=some (.int .i64 0):=by simp[World.cell?,hk]
 have bE:A.cell? ⟨w.heap.size,4,none⟩=some (.int .i64 0):=by simp[World.cell?,hk]
 have H:∀ o,A.frozen? ⟨w.heap.size,o,none⟩=false:=fun o=>by simp[World.frozen?,hk]
 have br:=H 0
 have bu:=H 1
 have bx:=H 2
 have bz:=H 3
 have bA:=H 4
 have bc:=Jk (Jk (Jk (Jk (Jk hk 0 (.int .i64 c)) 1 (.int .i64 nd)) 2 (.int .i64 row)) 3 (.int .i64 I)) 4 (.int .i64 pg)
 simp only[Oa1,List.set_cons_zero,List.set_cons_succ]at bc
 clear hk H
 go_wp2
 exact bodyPost_ret (v:=Ko c nd row I pg) (by simp[results,results39,go_sem,Ko,World.cell?,bc]) rfl ⟨rfl,Um bl (Oa2 _) _ _ _ _ _⟩
theorem Jjq (w:World):Calls prog 39 #[.nilIface] w fun e w'=>e=.returned (fault 0)∧Below w.heap.size w w':=
 Jl6 .nilIface 0 (-1) (-1) (-1) (-1) w (fun W _=>Jwm W) (fun W _=>Jxf W) (fun W _=>Jz5 W) (fun W _=>Jqq W) (fun W _=>Jvp W)
theorem Jic (v:Value)(a:Addr)(n r c p g gc:Option Int)(w:World)(h:Jny w v a n r c p g gc)(X:∃ c t,w.heap[a.block]?=some (.cells c t (0,0)))(I A H K q wr pg pl ex L O M N:Addr)(Y:Jf0 w I A H)(J:Jkn w I A H K q wr pg)(R:Jhy w [I,A,H,K,q,wr,pg] pl ex)(U:Jig w [ex,pl,I,A,H,K,q,wr,pg] L O M N) :
  Calls prog 39 #[v] w fun e w'=>e=.returned (Ko (Jby A H K q wr pg pl ex L O M N a) (n.getD (-1)) ((r.or g).getD (-1)) ((c.or gc).getD (-1)) (p.getD (-1)))∧Below w.heap.size w w':=
 Jl6 v _ _ _ _ _ w (fun W hW=>Ju5 v a W (h.below hW).r (Kg hW X) I A H K q wr pg pl ex L O M N (Y.below hW) (J.below hW) (R.below hW) (U.below hW)) (fun W hW=>Jvx v n W (h.below hW).n (J.below hW).et) (fun W hW=>Kau v r g W (h.below hW).x (h.below hW).g (J.below hW).et) (fun W hW=>Jqi v c gc W (h.below hW).c (h.below hW).gc (J.below hW).et) (fun W hW=>Jv7 v p W (h.below hW).p (J.below hW).et)
theorem Jt1 {A H M q wr pg pl ex I L J K a:Addr}(h:a∉[pl,ex,I,L,J,K]):Jby A H M q wr pg pl ex I L J K a=Jdh A H M q wr pg a:=by
 simp only[Of1,Oi0,or_false,not_or]at h
 simp only[Jby,Jdh,if_neg h.1,if_neg h.2.1,if_neg h.2.2.1,if_neg h.2.2.2.1,if_neg h.2.2.2.2.1,if_neg h.2.2.2.2.2]
theorem Jj9 (v:Value)(a:Addr)(c p:Option Int)(w:World)(h:Yu w v a c p)(X:∃ c t,w.heap[a.block]?=some (.cells c t (0,0)))(J A H L q wr pg:Addr)(hi:a∈[J,A,H,L,q,wr,pg])(Z:Jf0 w J A H)(O:Jkn w J A H L q wr pg) :
  Calls prog 39 #[v] w fun e w'=>e=.returned (Jbz (Jdh A H L q wr pg a) (c.getD (-1)) (p.getD (-1)))∧Below w.heap.size w w':=by
 obtain⟨pl,ex,K⟩:=O.m2
 obtain⟨M,U,N,R,I⟩:=K.m3
 have:=Jic v a none none c p none none w h.errV X J A H L q wr pg pl ex M U N R Z O K I
 have bc:a≠pl:=fun e=>K.np (by rw[←e];exact hi)
 have bh:a≠ex:=fun e=>K.ne (by rw[←e];exact hi)
 have Y:a≠M:=fun e=>I.nd (by rw[←e];exact .tail _ (.tail _ hi))
 have bb:a≠U:=fun e=>I.no (by rw[←e];exact .tail _ (.tail _ (.tail _ hi)))
 have ba:a≠N:=fun e=>I.ng (by rw[←e];exact .tail _ (.tail _ (.tail _ (.tail _ hi))))
 have bf:a≠R:=fun e=>I.nm (by rw[←e];exact .tail _ (.tail _ (.tail _ (.tail _ (.tail _ hi)))))
 rw[Jt1 (by simp[bc,bh,Y,bb,ba,bf])]at this
 simpa using this
theorem Kvu (v:Value)(a:Addr)(c p:Option Int)(w:World)(h:Yu w v a c p)(X:∃ c t,w.heap[a.block]?=some (.cells c t (0,0)))(I A H J q wr pg pl ex K N L M:Addr)(hi:a∉[I,A,H,J,q,wr,pg,pl,ex])(O:a∉[K,N,L,M])(Y:Jf0 w I A H)(Z:Jkn w I A H J q wr pg)(R:Jhy w [I,A,H,J,q,wr,pg] pl ex)(U:Jig w [ex,pl,I,A,H,J,q,wr,pg] K N L M) :
  Calls prog 39 #[v] w fun e w'=>e=.returned (Jbz 1 (c.getD (-1)) (p.getD (-1)))∧Below w.heap.size w w':=by
 have:=Jic v a none none c p none none w h.errV X I A H J q wr pg pl ex K N L M Y Z R U
 simp only[Of1,Oi0,or_false,not_or]at hi O
 rw[show Jby A H J q wr pg pl ex K N L M a=1 by simp[Jby,hi,O]]at this
 simpa using this
theorem Jim {w:World}{J A H I q wr pg:Addr}(K:Jkn w J A H I q wr pg) :
  Jdh A H I q wr pg J=1∧Jdh A H I q wr pg A=2∧Jdh A H I q wr pg H=3∧Jdh A H I q wr pg I=4∧Jdh A H I q wr pg q=5∧Jdh A H I q wr pg wr=6∧Jdh A H I q wr pg pg=7:=by
 have h:=K.nd
 simp only[Og0,Of1,Oi0,or_false,not_or]at h
 obtain⟨⟨L,M,N,O,R,U⟩,⟨X,Y,Z,ba,bb⟩,⟨bc,bf,bh,bi⟩,⟨bj,bk,bl⟩,⟨bn,br⟩,bu,_⟩:=h
 refine⟨?_,?_,?_,?_,?_,?_,?_⟩<;>simp only[Jdh]<;>(repeat' split)<;>simp_all
end Go.Proofs.YtcaocabmioafcaaGreatDoor
