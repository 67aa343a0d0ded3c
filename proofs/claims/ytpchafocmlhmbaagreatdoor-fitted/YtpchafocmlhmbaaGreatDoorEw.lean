/- errors.As, by Go's own text, at the errors that the program makes, at its targets. -/
import Derived.Test.YtpchafocmlhmbaaGreatDoorEt
import Derived.Test.YtpchafocmlhmbaaGreatDoorEs
set_option maxHeartbeats 1000000
namespace Go.Proofs.YtpchafocmlhmbaaGreatDoor
open Go.RowKit Go.Extern.Stop Go.Stop Go.Extern Tryz
theorem Ji9 (t:Value)(w:World):Calls prog 56 #[.nilIface,t] w fun e w'=>e=.returned (.bool false)∧w'=w:=by
 have hn:=run_eql_nil_nil (P:=prog) w 74 (by kernel_rfl);go_enter func56,ntmps56
 go_wp2;go_ret
 exact⟨rfl,rfl⟩
theorem Jxf (w:World):Calls prog 38 #[.nilIface] w fun e w'=>e=.returned (.int .i64 (-1))∧Below w.heap.size w w':=by
 go_enter func38,ntmps38
 go_wp2_with fail
 refine(Ji9 _ _).mono ?_;rintro e w' ⟨rfl,rfl⟩;go_wp2_with fail
 go_ret
 exact⟨rfl,(Oa5 _ _).alloc (Oa2 _) _⟩
theorem Jz5 (w:World):Calls prog 39 #[.nilIface] w fun e w'=>e=.returned (.int .i64 (-1))∧Below w.heap.size w w':=by
 go_enter func39,ntmps39
 go_wp2_with fail
 refine(Ji9 _ _).mono ?_;rintro e w' ⟨rfl,rfl⟩;go_wp2_with fail
 refine(Ji9 _ _).mono ?_;rintro e w' ⟨rfl,rfl⟩;go_wp2_with fail
 go_ret
 exact⟨rfl,((Oa5 _ _).alloc (Oa2 _) _).alloc (by simp) _⟩
theorem Jqq (w:World):Calls prog 40 #[.nilIface] w fun e w'=>e=.returned (.int .i64 (-1))∧Below w.heap.size w w':=by
 go_enter func40,ntmps40
 go_wp2_with fail
 refine(Ji9 _ _).mono ?_;rintro e w' ⟨rfl,rfl⟩;go_wp2_with fail
 refine(Ji9 _ _).mono ?_;rintro e w' ⟨rfl,rfl⟩;go_wp2_with fail
 go_ret
 exact⟨rfl,((Oa5 _ _).alloc (Oa2 _) _).alloc (by simp) _⟩
theorem Jvp (w:World):Calls prog 41 #[.nilIface] w fun e w'=>e=.returned (.int .i64 (-1))∧Below w.heap.size w w':=by
 go_enter func41,ntmps41
 go_wp2_with fail
 refine(Ji9 _ _).mono ?_;rintro e w' ⟨rfl,rfl⟩;go_wp2_with fail
 go_ret
 exact⟨rfl,(Oa5 _ _).alloc (Oa2 _) _⟩
structure Jig (w:World) (l:List Addr) (dv ov gv mn:Addr):Prop where
 cd:w.cell? ⟨10,0,none⟩=some (.iface 433 (.pointer (some dv)))
 co:w.cell? ⟨11,0,none⟩=some (.iface 433 (.pointer (some ov)))
 cg:w.cell? ⟨12,0,none⟩=some (.iface 433 (.pointer (some gv)))
 cm:w.cell? ⟨13,0,none⟩=some (.iface 433 (.pointer (some mn)))
 bd:∃ c t,w.heap[dv.block]?=some (.cells c t (0,0))
 bo:∃ c t,w.heap[ov.block]?=some (.cells c t (0,0))
 bg:∃ c t,w.heap[gv.block]?=some (.cells c t (0,0))
 bm:∃ c t,w.heap[mn.block]?=some (.cells c t (0,0))
 nd:dv∉l
 no:ov∉dv::l
 ng:gv∉ov::dv::l
 nm:mn∉gv::ov::dv::l
structure Jhy (w:World) (l:List Addr) (pl ex:Addr):Prop where
 cp:w.cell? ⟨3,0,none⟩=some (.iface 433 (.pointer (some pl)))
 ce:w.cell? ⟨9,0,none⟩=some (.iface 433 (.pointer (some ex)))
 bp:∃ c t,w.heap[pl.block]?=some (.cells c t (0,0))
 be:∃ c t,w.heap[ex.block]?=some (.cells c t (0,0))
 np:pl∉l
 ne:ex∉l
 m3:∃ dv ov gv mn,Jig w (ex::pl::l) dv ov gv mn
structure Jkn (w:World) (a0 a1 a2 tt q wr pg:Addr):Prop where
 ct:w.cell? ⟨2,0,none⟩=some (.iface 433 (.pointer (some tt)))
 cq:w.cell? ⟨6,0,none⟩=some (.iface 433 (.pointer (some q)))
 cw:w.cell? ⟨7,0,none⟩=some (.iface 433 (.pointer (some wr)))
 cp:w.cell? ⟨8,0,none⟩=some (.iface 433 (.pointer (some pg)))
 et:w.cell? ⟨14,0,none⟩=some (.iface 225 (.agg #[.pointer (some ⟨17,74,none⟩)]))
 bt:∃ c t,w.heap[tt.block]?=some (.cells c t (0,0))
 bq:∃ c t,w.heap[q.block]?=some (.cells c t (0,0))
 bw:∃ c t,w.heap[wr.block]?=some (.cells c t (0,0))
 bp:∃ c t,w.heap[pg.block]?=some (.cells c t (0,0))
 nd:[a0,a1,a2,tt,q,wr,pg].Nodup
 m2:∃ pl ex,Jhy w [a0,a1,a2,tt,q,wr,pg] pl ex
structure Jf0 (w:World) (a0 a1 a2:Addr):Prop where
 c0:w.cell? ⟨15,0,none⟩=some (.iface 433 (.pointer (some a0)))
 c1:w.cell? ⟨4,0,none⟩=some (.iface 433 (.pointer (some a1)))
 c2:w.cell? ⟨5,0,none⟩=some (.iface 433 (.pointer (some a2)))
 b0:∃ c t,w.heap[a0.block]?=some (.cells c t (0,0))
 b1:∃ c t,w.heap[a1.block]?=some (.cells c t (0,0))
 b2:∃ c t,w.heap[a2.block]?=some (.cells c t (0,0))
 more:∃ tt q wr pg,Jkn w a0 a1 a2 tt q wr pg
theorem Kg {w w':World}(y:Below w.heap.size w w'){k:Nat}(h:∃ c t,w.heap[k]?=some (.cells c t (0,0))):∃ c t,w'.heap[k]?=some (.cells c t (0,0)):=by
 obtain⟨c,t,h⟩:=h;exact⟨c,t,by rw[y.block _ (Jd h)];exact h⟩
theorem Jig.below {w w':World}{l:List Addr}{D E gv mn:Addr}(h:Jig w l D E gv mn)(y:Below w.heap.size w w'):Jig w' l D E gv mn:=
 ⟨Ja y h.cd,Ja y h.co,Ja y h.cg,Ja y h.cm,Kg y h.bd,Kg y h.bo,Kg y h.bg,Kg y h.bm,h.nd,h.no,h.ng,h.nm⟩
theorem Jhy.below {w w':World}{l:List Addr}{D ex:Addr}(h:Jhy w l D ex)(y:Below w.heap.size w w'):Jhy w' l D ex:=
 ⟨Ja y h.cp,Ja y h.ce,Kg y h.bp,Kg y h.be,h.np,h.ne,by obtain⟨E,K,gv,mn,H⟩:=h.m3;exact⟨E,K,gv,mn,H.below y⟩⟩
theorem Jkn.below {w w':World}{D E H K q wr pg:Addr}(h:Jkn w D E H K q wr pg)(y:Below w.heap.size w w'):Jkn w' D E H K q wr pg:=
 ⟨Ja y h.ct,Ja y h.cq,Ja y h.cw,Ja y h.cp,Ja y h.et,Kg y h.bt,Kg y h.bq,Kg y h.bw,Kg y h.bp,h.nd,by obtain⟨R,ex,O⟩:=h.m2;exact⟨R,ex,O.below y⟩⟩
theorem Jf0.below {w w':World}{D E H:Addr}(h:Jf0 w D E H)(y:Below w.heap.size w w'):Jf0 w' D E H:=by
 obtain⟨O,q,wr,pg,K⟩:=h.more;exact⟨Ja y h.c0,Ja y h.c1,Ja y h.c2,Kg y h.b0,Kg y h.b1,Kg y h.b2,O,q,wr,pg,K.below y⟩
def Jdh (y D E q wr pg a:Addr):Int:=if a=y then 2 else if a=D then 3 else if a=E then 4 else if a=q then 5 else if a=wr then 6 else if a=pg then 7 else 1
def Jby (y D O q wr pg K ex E H gv mn a:Addr):Int:=if a=y then 2 else if a=D then 3 else if a=O then 4 else if a=q then 5 else if a=wr then 6 else if a=pg then 7 else if a=K then 8 else if a=ex then 8 else if a=E then 9 else if a=H then 10 else if a=gv then 10 else if a=mn then 11 else 1
theorem Jwm (w:World):Calls prog 37 #[.nilIface] w fun e w'=>e=.returned (.int .i64 0)∧w'=w:=by
 have hn:=run_eql_nil_nil (P:=prog) w 74 (by kernel_rfl);go_enter func37,ntmps37
 go_wp2;go_ret
 exact⟨rfl,rfl⟩
abbrev Ko (c nd row col pg:Int):Value:=.agg #[.int .i64 c,.int .i64 nd,.int .i64 row,.int .i64 col,.int .i64 pg]
abbrev Jjp (c nd col pg:Int):Value:=Ko c nd (-1) col pg
abbrev Jbz (c col pg:Int):Value:=Jjp c (-1) col pg
theorem Jk {w:World}{b:Nat}{cs:Array Value}{t:TypeId}(h:w.heap[b]?=some (.cells cs t (0,0)))(o:Nat)(v:Value):(w.setCell ⟨b,o,none⟩ v).heap[b]?=some (.cells (cs.setIfInBounds o v) t (0,0)):=by
 simp[World.setCell,Array.getElem?_modify,h]
theorem Jl6 (x:Value)(c nd row col pg:Int)(w:World)(K:∀ W,Below w.heap.size w W→Calls prog 37 #[x] W fun e w'=>e=.returned (.int .i64 c)∧w'=W)
  (U:∀ W,Below w.heap.size w W→Calls prog 38 #[x] W fun e w'=>e=.returned (.int .i64 nd)∧Below W.heap.size W w')
  (hR:∀ W,Below w.heap.size w W→Calls prog 39 #[x] W fun e w'=>e=.returned (.int .i64 row)∧Below W.heap.size W w')
  (O:∀ W,Below w.heap.size w W→Calls prog 40 #[x] W fun e w'=>e=.returned (.int .i64 col)∧Below W.heap.size W w')
  (R:∀ W,Below w.heap.size w W→Calls prog 41 #[x] W fun e w'=>e=.returned (.int .i64 pg)∧Below W.heap.size W w') :
  Calls prog 28 #[x] w fun e w'=>e=.returned (Ko c nd row col pg)∧Below w.heap.size w w':=by
 have bj:Hid (∀ W,Below w.heap.size w W→Calls prog 37 #[x] W fun e w'=>e=.returned (.int .i64 c)∧w'=W):=K;have bx:Hid (∀ W,Below w.heap.size w W→Calls prog 38 #[x] W fun e w'=>e=.returned (.int .i64 nd)∧Below W.heap.size W w'):=U;have bn:Hid (∀ W,Below w.heap.size w W→Calls prog 40 #[x] W fun e w'=>e=.returned (.int .i64 col)∧Below W.heap.size W w'):=O;have br:Hid (∀ W,Below w.heap.size w W→Calls prog 41 #[x] W fun e w'=>e=.returned (.int .i64 pg)∧Below W.heap.size W w'):=R;have bz:Hid (∀ W,Below w.heap.size w W→Calls prog 39 #[x] W fun e w'=>e=.returned (.int .i64 row)∧Below W.heap.size W w'):=hR;clear K O R U hR;have H:Below w.heap.size w (w.alloc (.cells #[.int .i64 0,.int .i64 0,.int .i64 0,.int .i64 0,.int .i64 0] 45)):=(Oa5 _ _).alloc (Oa2 _) _;go_enter func28,ntmps28
 go_wp2_with fail
 refine(bj.out _ H).mono ?_;rintro e w' ⟨rfl,bI⟩;subst w';go_wp2_with fail
 refine(bx.out _ H).mono ?_;rintro e bO ⟨rfl,bf⟩;go_wp2_with fail
 have ba:=Jb H bf;refine(bz.out _ ba).mono ?_;rintro e bP ⟨rfl,bh⟩;go_wp2_with fail
 have bc:=Jb ba bh;refine(bn.out _ bc).mono ?_;rintro e w1 ⟨rfl,X⟩;go_wp2_with fail
 have Y:=Jb bc X;refine(br.out _ Y).mono ?_;rintro e D ⟨rfl,Z⟩;have bA:=Jb Y Z;have bB:=Jb bf (Jb bh (Jb X Z));have y:D.heap[w.heap.size]?=some (.cells #[.int .i64 0,.int .i64 0,.int .i64 0,.int .i64 0,.int .i64 0] 45 (0,0)):=by
  rw[bB.block _ (by simp)];exact heap_alloc_new _ _
 have bJ:D.cell? ⟨w.heap.size,0,none⟩=some (.int .i64 0):=by simp[World.cell?,y]
 have bK:D.cell? ⟨w.heap.size,1,none⟩=some (.int .i64 0):=by simp[World.cell?,y]
 have bL:D.cell? ⟨w.heap.size,2,none⟩=some (.int .i64 0):=by simp[World.cell?,y]
 have bM:D.cell? ⟨w.heap.size,3,none⟩=some (.int .i64 0):=by simp[World.cell?,y]
 have bN:D.cell? ⟨w.heap.size,4,none⟩=some (.int .i64 0):=by simp[World.cell?,y]
 have E:∀ o,D.frozen? ⟨w.heap.size,o,none⟩=false:=fun o=>by simp[World.frozen?,y]
 have bC:=E 0;have bD:=E 1;have bE:=E 2;have bG:=E 3;have bH:=E 4;have bi:=Jk (Jk (Jk (Jk (Jk y 0 (.int .i64 c)) 1 (.int .i64 nd)) 2 (.int .i64 row)) 3 (.int .i64 col)) 4 (.int .i64 pg);simp only[Oa1,List.set_cons_zero,List.set_cons_succ]at bi;clear y E;go_wp2;exact bodyPost_ret (v:=Ko c nd row col pg) (by simp[results,results28,go_sem,Ko,World.cell?,bi]) rfl ⟨rfl,Um bA (Oa2 _) _ _ _ _ _⟩
theorem Jjq (w:World):Calls prog 28 #[.nilIface] w fun e w'=>e=.returned (Jb6 0)∧Below w.heap.size w w':=
 Jl6 .nilIface 0 (-1) (-1) (-1) (-1) w (fun W _=>Jwm W) (fun W _=>Jxf W) (fun W _=>Jz5 W) (fun W _=>Jqq W) (fun W _=>Jvp W)
theorem Jt1 {y D O q wr pg K ex E H gv mn a:Addr}(h:a∉[K,ex,E,H,gv,mn]):Jby y D O q wr pg K ex E H gv mn a=Jdh y D O q wr pg a:=by
 simp only[Of1,Oi0,or_false,not_or]at h;simp only[Jby,Jdh,if_neg h.1,if_neg h.2.1,if_neg h.2.2.1,if_neg h.2.2.2.1,if_neg h.2.2.2.2.1,if_neg h.2.2.2.2.2]
theorem Jim {w:World}{H y D E q wr pg:Addr}(K:Jkn w H y D E q wr pg) :
  Jdh y D E q wr pg H=1∧Jdh y D E q wr pg y=2∧Jdh y D E q wr pg D=3∧Jdh y D E q wr pg E=4∧Jdh y D E q wr pg q=5∧Jdh y D E q wr pg wr=6∧Jdh y D E q wr pg pg=7:=by
 have h:=K.nd;simp only[Og0,Of1,Oi0,or_false,not_or]at h;obtain⟨⟨O,R,U,X,Y,Z⟩,⟨ba,bc,bf,bh,bi⟩,⟨bj,bn,br,bx⟩,⟨bz,bA,bB⟩,⟨bC,bD⟩,bE,_⟩:=h;refine⟨?_,?_,?_,?_,?_,?_,?_⟩<;>simp only[Jdh]<;>(repeat' split)<;>simp_all
end Go.Proofs.YtpchafocmlhmbaaGreatDoor
