/- The program's named errors; the number of an error; the fault that a call answers. -/
import Derived.Test.YtkgibdjakgmmcaaGreatDoorEv
set_option maxHeartbeats 8000000
set_option maxRecDepth 100000
namespace Go.Proofs.YtkgibdjakgmmcaaGreatDoor
open Go.RowKit Go.Extern.Stop Go.Stop Go.Extern
structure More3 (w:World) (l:List Addr) (dv ov gv mn:Addr):Prop where
 cd:w.cell? ⟨8,0,none⟩=some (.iface 284 (.pointer (some dv)))
 co:w.cell? ⟨9,0,none⟩=some (.iface 284 (.pointer (some ov)))
 cg:w.cell? ⟨10,0,none⟩=some (.iface 284 (.pointer (some gv)))
 cm:w.cell? ⟨11,0,none⟩=some (.iface 284 (.pointer (some mn)))
 bd:∃ c t,w.heap[dv.block]?=some (.cells c t (0,0))
 bo:∃ c t,w.heap[ov.block]?=some (.cells c t (0,0))
 bg:∃ c t,w.heap[gv.block]?=some (.cells c t (0,0))
 bm:∃ c t,w.heap[mn.block]?=some (.cells c t (0,0))
 nd:dv∉l
 no:ov∉dv::l
 ng:gv∉ov::dv::l
 nm:mn∉gv::ov::dv::l
structure More2 (w:World) (l:List Addr) (pl ex:Addr):Prop where
 cp:w.cell? ⟨0,0,none⟩=some (.iface 284 (.pointer (some pl)))
 ce:w.cell? ⟨7,0,none⟩=some (.iface 284 (.pointer (some ex)))
 bp:∃ c t,w.heap[pl.block]?=some (.cells c t (0,0))
 be:∃ c t,w.heap[ex.block]?=some (.cells c t (0,0))
 np:pl∉l
 ne:ex∉l
 m3:∃ dv ov gv mn,More3 w (ex::pl::l) dv ov gv mn
structure More (w:World) (a0 a1 a2 tt q wr pg:Addr):Prop where
 ct:w.cell? ⟨3,0,none⟩=some (.iface 284 (.pointer (some tt)))
 cq:w.cell? ⟨4,0,none⟩=some (.iface 284 (.pointer (some q)))
 cw:w.cell? ⟨5,0,none⟩=some (.iface 284 (.pointer (some wr)))
 cp:w.cell? ⟨6,0,none⟩=some (.iface 284 (.pointer (some pg)))
 et:w.cell? ⟨13,0,none⟩=some (.iface 216 (.agg #[.pointer (some ⟨15,81,none⟩)]))
 bt:∃ c t,w.heap[tt.block]?=some (.cells c t (0,0))
 bq:∃ c t,w.heap[q.block]?=some (.cells c t (0,0))
 bw:∃ c t,w.heap[wr.block]?=some (.cells c t (0,0))
 bp:∃ c t,w.heap[pg.block]?=some (.cells c t (0,0))
 nd:[a0,a1,a2,tt,q,wr,pg].Nodup
 m2:∃ pl ex,More2 w [a0,a1,a2,tt,q,wr,pg] pl ex
structure Errs (w:World) (a0 a1 a2:Addr):Prop where
 c0:w.cell? ⟨14,0,none⟩=some (.iface 284 (.pointer (some a0)))
 c1:w.cell? ⟨1,0,none⟩=some (.iface 284 (.pointer (some a1)))
 c2:w.cell? ⟨2,0,none⟩=some (.iface 284 (.pointer (some a2)))
 b0:∃ c t,w.heap[a0.block]?=some (.cells c t (0,0))
 b1:∃ c t,w.heap[a1.block]?=some (.cells c t (0,0))
 b2:∃ c t,w.heap[a2.block]?=some (.cells c t (0,0))
 more:∃ tt q wr pg,More w a0 a1 a2 tt q wr pg
theorem heap_below {w w':World}(hb:Below w.heap.size w w'){k:Nat}(h:∃ c t,w.heap[k]?=some (.cells c t (0,0))):∃ c t,w'.heap[k]?=some (.cells c t (0,0)):=by
 obtain⟨c,t,h⟩:=h
 exact⟨c,t,by rw[hb.block _ (lt_of_heap h)];exact h⟩
theorem More3.below {w w':World}{l:List Addr}{dv ov gv mn:Addr}(h:More3 w l dv ov gv mn)(hb:Below w.heap.size w w'):More3 w' l dv ov gv mn:=
 ⟨cell_below hb h.cd,cell_below hb h.co,cell_below hb h.cg,cell_below hb h.cm,heap_below hb h.bd,heap_below hb h.bo,heap_below hb h.bg,heap_below hb h.bm,h.nd,h.no,h.ng,h.nm⟩
theorem More2.below {w w':World}{l:List Addr}{pl ex:Addr}(h:More2 w l pl ex)(hb:Below w.heap.size w w'):More2 w' l pl ex:=
 ⟨cell_below hb h.cp,cell_below hb h.ce,heap_below hb h.bp,heap_below hb h.be,h.np,h.ne,by obtain⟨dv,ov,gv,mn,h3⟩:=h.m3;exact⟨dv,ov,gv,mn,h3.below hb⟩⟩
theorem More.below {w w':World}{a0 a1 a2 tt q wr pg:Addr}(h:More w a0 a1 a2 tt q wr pg)(hb:Below w.heap.size w w'):More w' a0 a1 a2 tt q wr pg:=
 ⟨cell_below hb h.ct,cell_below hb h.cq,cell_below hb h.cw,cell_below hb h.cp,cell_below hb h.et,heap_below hb h.bt,heap_below hb h.bq,heap_below hb h.bw,heap_below hb h.bp,h.nd,by obtain⟨pl,ex,h2⟩:=h.m2;exact⟨pl,ex,h2.below hb⟩⟩
theorem Errs.below {w w':World}{a0 a1 a2:Addr}(h:Errs w a0 a1 a2)(hb:Below w.heap.size w w'):Errs w' a0 a1 a2:=by
 obtain⟨tt,q,wr,pg,hm⟩:=h.more
 exact⟨cell_below hb h.c0,cell_below hb h.c1,cell_below hb h.c2,heap_below hb h.b0,heap_below hb h.b1,heap_below hb h.b2,tt,q,wr,pg,hm.below hb⟩
def codeAt (a1 a2 tt q wr pg a:Addr):Int:=if a=a1 then 2 else if a=a2 then 3 else if a=tt then 4 else if a=q then 5 else if a=wr then 6 else if a=pg then 7 else 1
def codeAtX (a1 a2 tt q wr pg pl ex dv ov gv mn a:Addr):Int:=if a=a1 then 2 else if a=a2 then 3 else if a=tt then 4 else if a=q then 5 else if a=wr then 6 else if a=pg then 7 else if a=pl then 8 else if a=ex then 8 else if a=dv then 9 else if a=ov then 10 else if a=gv then 10 else if a=mn then 11 else 1
theorem codeOf_nil (w:World):Calls Tryz.prog 37 #[.nilIface] w fun e w'=>e=.returned (.int .i64 0)∧w'=w:=by
 have hn:=run_eql_nil_nil (P:=Tryz.prog) w 81 (by kernel_rfl)
 go_enter Tryz.func37,Tryz.ntmps37
 go_wp2
 go_ret
 exact⟨rfl,rfl⟩
theorem codeOf_any (v:Value)(a:Addr)(w:World)(h:∃ k,ChainR w k v a)(hb:∃ c t,w.heap[a.block]?=some (.cells c t (0,0)))(a0 a1 a2 tt q wr pg pl ex dv ov gv mn:Addr)(he:Errs w a0 a1 a2)(hm:More w a0 a1 a2 tt q wr pg)(h2:More2 w [a0,a1,a2,tt,q,wr,pg] pl ex)(h3:More3 w [ex,pl,a0,a1,a2,tt,q,wr,pg] dv ov gv mn) :
  Calls Tryz.prog 37 #[v] w fun e w'=>e=.returned (.int .i64 (codeAtX a1 a2 tt q wr pg pl ex dv ov gv mn a))∧w'=w:=by
 obtain⟨ty,x,rfl⟩:∃ ty x,v=.iface ty x:=by obtain⟨_,hc⟩:=h;exact hc.iface
 have hn:=run_eql_held_nil (P:=Tryz.prog) w 81 ty x (by kernel_rfl)
 have c1:=he.c1
 have c2:=he.c2
 have c3:=hm.ct
 have c4:=hm.cq
 have c5:=hm.cw
 have c6:=hm.cp
 have c7:=h2.cp
 have c8:=h2.ce
 have c9:=h3.cd
 have c10:=h3.co
 have c11:=h3.cg
 have c12:=h3.cm
 have i1:=is_any _ a a1 w h hb he.b1 (decide (a=a1)) (by simp)
 have i2:=is_any _ a a2 w h hb he.b2 (decide (a=a2)) (by simp)
 have i3:=is_any _ a tt w h hb hm.bt (decide (a=tt)) (by simp)
 have i4:=is_any _ a q w h hb hm.bq (decide (a=q)) (by simp)
 have i5:=is_any _ a wr w h hb hm.bw (decide (a=wr)) (by simp)
 have i6:=is_any _ a pg w h hb hm.bp (decide (a=pg)) (by simp)
 have i7:=is_any _ a pl w h hb h2.bp (decide (a=pl)) (by simp)
 have i8:=is_any _ a ex w h hb h2.be (decide (a=ex)) (by simp)
 have i9:=is_any _ a dv w h hb h3.bd (decide (a=dv)) (by simp)
 have i10:=is_any _ a ov w h hb h3.bo (decide (a=ov)) (by simp)
 have i11:=is_any _ a gv w h hb h3.bg (decide (a=gv)) (by simp)
 have i12:=is_any _ a mn w h hb h3.bm (decide (a=mn)) (by simp)
 clear h hb he hm h2 h3
 have HA:Hid (codeAtX a1 a2 tt q wr pg pl ex dv ov gv mn a=if a=a1 then 2 else if a=a2 then 3 else if a=tt then 4 else if a=q then 5 else if a=wr then 6 else if a=pg then 7 else if a=pl then 8 else if a=ex then 8 else if a=dv then 9 else if a=ov then 10 else if a=gv then 10 else if a=mn then 11 else 1):=rfl
 generalize codeAtX a1 a2 tt q wr pg pl ex dv ov gv mn a=K at *
 go_enter Tryz.func37,Tryz.ntmps37
 go_wp2_with fail
 refine i1.mono ?_
 rintro e w' ⟨rfl,hw'⟩
 subst w'
 clear i1
 by_cases h1:a=a1
 ·have HK:=HA.out
  rw[if_pos h1]at HK
  subst HK
  rw[decide_eq_true h1]
  clear h1
  go_wp2_with fail
  go_ret
  exact⟨rfl,rfl⟩
 have HA2:=HA.out
 rw[if_neg h1]at HA2
 clear HA
 have HA:Hid (K=_):=HA2
 clear HA2
 rw[decide_eq_false h1]
 clear h1 c1
 go_wp2_with fail
 refine i2.mono ?_
 rintro e w' ⟨rfl,hw'⟩
 subst w'
 clear i2
 by_cases h1:a=a2
 ·have HK:=HA.out
  rw[if_pos h1]at HK
  subst HK
  rw[decide_eq_true h1]
  clear h1
  go_wp2_with fail
  go_ret
  exact⟨rfl,rfl⟩
 have HA2:=HA.out
 rw[if_neg h1]at HA2
 clear HA
 have HA:Hid (K=_):=HA2
 clear HA2
 rw[decide_eq_false h1]
 clear h1 c2
 go_wp2_with fail
 refine i3.mono ?_
 rintro e w' ⟨rfl,hw'⟩
 subst w'
 clear i3
 by_cases h1:a=tt
 ·have HK:=HA.out
  rw[if_pos h1]at HK
  subst HK
  rw[decide_eq_true h1]
  clear h1
  go_wp2_with fail
  go_ret
  exact⟨rfl,rfl⟩
 have HA2:=HA.out
 rw[if_neg h1]at HA2
 clear HA
 have HA:Hid (K=_):=HA2
 clear HA2
 rw[decide_eq_false h1]
 clear h1 c3
 go_wp2_with fail
 refine i4.mono ?_
 rintro e w' ⟨rfl,hw'⟩
 subst w'
 clear i4
 by_cases h1:a=q
 ·have HK:=HA.out
  rw[if_pos h1]at HK
  subst HK
  rw[decide_eq_true h1]
  clear h1
  go_wp2_with fail
  go_ret
  exact⟨rfl,rfl⟩
 have HA2:=HA.out
 rw[if_neg h1]at HA2
 clear HA
 have HA:Hid (K=_):=HA2
 clear HA2
 rw[decide_eq_false h1]
 clear h1 c4
 go_wp2_with fail
 refine i5.mono ?_
 rintro e w' ⟨rfl,hw'⟩
 subst w'
 clear i5
 by_cases h1:a=wr
 ·have HK:=HA.out
  rw[if_pos h1]at HK
  subst HK
  rw[decide_eq_true h1]
  clear h1
  go_wp2_with fail
  go_ret
  exact⟨rfl,rfl⟩
 have HA2:=HA.out
 rw[if_neg h1]at HA2
 clear HA
 have HA:Hid (K=_):=HA2
 clear HA2
 rw[decide_eq_false h1]
 clear h1 c5
 go_wp2_with fail
 refine i6.mono ?_
 rintro e w' ⟨rfl,hw'⟩
 subst w'
 clear i6
 by_cases h1:a=pg
 ·have HK:=HA.out
  rw[if_pos h1]at HK
  subst HK
  rw[decide_eq_true h1]
  clear h1
  go_wp2_with fail
  go_ret
  exact⟨rfl,rfl⟩
 have HA2:=HA.out
 rw[if_neg h1]at HA2
 clear HA
 have HA:Hid (K=_):=HA2
 clear HA2
 rw[decide_eq_false h1]
 clear h1 c6
 go_wp2_with fail
 refine i7.mono ?_
 rintro e w' ⟨rfl,hw'⟩
 subst w'
 clear i7
 by_cases h1:a=pl
 ·have HK:=HA.out
  rw[if_pos h1]at HK
  subst HK
  rw[decide_eq_true h1]
  clear h1
  go_wp2_with fail
  go_ret
  exact⟨rfl,rfl⟩
 have HA2:=HA.out
 rw[if_neg h1]at HA2
 clear HA
 have HA:Hid (K=_):=HA2
 clear HA2
 rw[decide_eq_false h1]
 clear h1 c7
 go_wp2_with fail
 refine i8.mono ?_
 rintro e w' ⟨rfl,hw'⟩
 subst w'
 clear i8
 by_cases h1:a=ex
 ·have HK:=HA.out
  rw[if_pos h1]at HK
  subst HK
  rw[decide_eq_true h1]
  clear h1
  go_wp2_with fail
  go_ret
  exact⟨rfl,rfl⟩
 have HA2:=HA.out
 rw[if_neg h1]at HA2
 clear HA
 have HA:Hid (K=_):=HA2
 clear HA2
 rw[decide_eq_false h1]
 clear h1 c8
 go_wp2_with fail
 refine i9.mono ?_
 rintro e w' ⟨rfl,hw'⟩
 subst w'
 clear i9
 by_cases h1:a=dv
 ·have HK:=HA.out
  rw[if_pos h1]at HK
  subst HK
  rw[decide_eq_true h1]
  clear h1
  go_wp2_with fail
  go_ret
  exact⟨rfl,rfl⟩
 have HA2:=HA.out
 rw[if_neg h1]at HA2
 clear HA
 have HA:Hid (K=_):=HA2
 clear HA2
 rw[decide_eq_false h1]
 clear h1 c9
 go_wp2_with fail
 refine i10.mono ?_
 rintro e w' ⟨rfl,hw'⟩
 subst w'
 clear i10
 by_cases h1:a=ov
 ·have HK:=HA.out
  rw[if_pos h1]at HK
  subst HK
  rw[decide_eq_true h1]
  clear h1
  go_wp2_with fail
  go_ret
  exact⟨rfl,rfl⟩
 have HA2:=HA.out
 rw[if_neg h1]at HA2
 clear HA
 have HA:Hid (K=_):=HA2
 clear HA2
 rw[decide_eq_false h1]
 clear h1 c10
 go_wp2_with fail
 refine i11.mono ?_
 rintro e w' ⟨rfl,hw'⟩
 subst w'
 clear i11
 by_cases h1:a=gv
 ·have HK:=HA.out
  rw[if_pos h1]at HK
  subst HK
  rw[decide_eq_true h1]
  clear h1
  go_wp2_with fail
  go_ret
  exact⟨rfl,rfl⟩
 have HA2:=HA.out
 rw[if_neg h1]at HA2
 clear HA
 have HA:Hid (K=_):=HA2
 clear HA2
 rw[decide_eq_false h1]
 clear h1 c11
 go_wp2_with fail
 refine i12.mono ?_
 rintro e w' ⟨rfl,hw'⟩
 subst w'
 clear i12
 by_cases h1:a=mn
 ·have HK:=HA.out
  rw[if_pos h1]at HK
  subst HK
  rw[decide_eq_true h1]
  clear h1
  go_wp2_with fail
  go_ret
  exact⟨rfl,rfl⟩
 have HA2:=HA.out
 rw[if_neg h1]at HA2
 clear HA
 have HA:Hid (K=_):=HA2
 clear HA2
 rw[decide_eq_false h1]
 clear h1 c12
 have HK:K=1:=HA.out
 subst HK
 go_wp2_with fail
 go_ret
 exact⟨rfl,rfl⟩
abbrev faultR (c nd row col pg:Int):Value:=.agg #[.int .i64 c,.int .i64 nd,.int .i64 row,.int .i64 col,.int .i64 pg]
abbrev faultN (c nd col pg:Int):Value:=faultR c nd (-1) col pg
abbrev faultAt (c col pg:Int):Value:=faultN c (-1) col pg
theorem heap_set {w:World}{b:Nat}{cs:Array Value}{t:TypeId}(h:w.heap[b]?=some (.cells cs t (0,0)))(o:Nat)(v:Value):(w.setCell ⟨b,o,none⟩ v).heap[b]?=some (.cells (cs.setIfInBounds o v) t (0,0)):=by
 simp[World.setCell,Array.getElem?_modify,h]
theorem faultOf_of (x:Value)(c nd row col pg:Int)(w:World)(h1:∀ W,Below w.heap.size w W→Calls Tryz.prog 37 #[x] W fun e w'=>e=.returned (.int .i64 c)∧w'=W)
  (hN:∀ W,Below w.heap.size w W→Calls Tryz.prog 38 #[x] W fun e w'=>e=.returned (.int .i64 nd)∧Below W.heap.size W w')
  (hR:∀ W,Below w.heap.size w W→Calls Tryz.prog 39 #[x] W fun e w'=>e=.returned (.int .i64 row)∧Below W.heap.size W w')
  (h2:∀ W,Below w.heap.size w W→Calls Tryz.prog 40 #[x] W fun e w'=>e=.returned (.int .i64 col)∧Below W.heap.size W w')
  (h3:∀ W,Below w.heap.size w W→Calls Tryz.prog 41 #[x] W fun e w'=>e=.returned (.int .i64 pg)∧Below W.heap.size W w') :
  Calls Tryz.prog 22 #[x] w fun e w'=>e=.returned (faultR c nd row col pg)∧Below w.heap.size w w':=by
 have H1:Hid (∀ W,Below w.heap.size w W→Calls Tryz.prog 37 #[x] W fun e w'=>e=.returned (.int .i64 c)∧w'=W):=h1
 have HN:Hid (∀ W,Below w.heap.size w W→Calls Tryz.prog 38 #[x] W fun e w'=>e=.returned (.int .i64 nd)∧Below W.heap.size W w'):=hN
 have H2:Hid (∀ W,Below w.heap.size w W→Calls Tryz.prog 40 #[x] W fun e w'=>e=.returned (.int .i64 col)∧Below W.heap.size W w'):=h2
 have H3:Hid (∀ W,Below w.heap.size w W→Calls Tryz.prog 41 #[x] W fun e w'=>e=.returned (.int .i64 pg)∧Below W.heap.size W w'):=h3
 have HR:Hid (∀ W,Below w.heap.size w W→Calls Tryz.prog 39 #[x] W fun e w'=>e=.returned (.int .i64 row)∧Below W.heap.size W w'):=hR
 clear h1 h2 h3 hN hR
 have hb0:Below w.heap.size w (w.alloc (.cells #[.int .i64 0,.int .i64 0,.int .i64 0,.int .i64 0,.int .i64 0] 52)):=(Below.refl _ _).alloc (Nat.le_refl _) _
 go_enter Tryz.func22,Tryz.ntmps22
 go_wp2_with fail
 refine(H1.out _ hb0).mono ?_
 rintro e w' ⟨rfl,hw'⟩
 subst w'
 go_wp2_with fail
 refine(HN.out _ hb0).mono ?_
 rintro e wN ⟨rfl,hbN⟩
 go_wp2_with fail
 have hbL:=below_then hb0 hbN
 refine(HR.out _ hbL).mono ?_
 rintro e wR ⟨rfl,hbR⟩
 go_wp2_with fail
 have hbM:=below_then hbL hbR
 refine(H2.out _ hbM).mono ?_
 rintro e w1 ⟨rfl,hb1⟩
 go_wp2_with fail
 have hb2:=below_then hbM hb1
 refine(H3.out _ hb2).mono ?_
 rintro e w2 ⟨rfl,hb3⟩
 have hb4:=below_then hb2 hb3
 have hb5:=below_then hbN (below_then hbR (below_then hb1 hb3))
 have hk:w2.heap[w.heap.size]?=some (.cells #[.int .i64 0,.int .i64 0,.int .i64 0,.int .i64 0,.int .i64 0] 52 (0,0)):=by
  rw[hb5.block _ (by simp)];exact heap_alloc_new _ _
 have k0:w2.cell? ⟨w.heap.size,0,none⟩=some (.int .i64 0):=by simp[World.cell?,hk]
 have k1:w2.cell? ⟨w.heap.size,1,none⟩=some (.int .i64 0):=by simp[World.cell?,hk]
 have k2:w2.cell? ⟨w.heap.size,2,none⟩=some (.int .i64 0):=by simp[World.cell?,hk]
 have k3:w2.cell? ⟨w.heap.size,3,none⟩=some (.int .i64 0):=by simp[World.cell?,hk]
 have k4:w2.cell? ⟨w.heap.size,4,none⟩=some (.int .i64 0):=by simp[World.cell?,hk]
 have f0:∀ o,w2.frozen? ⟨w.heap.size,o,none⟩=false:=fun o=>by simp[World.frozen?,hk]
 have f00:=f0 0
 have f01:=f0 1
 have f02:=f0 2
 have f03:=f0 3
 have f04:=f0 4
 have hk5:=heap_set (heap_set (heap_set (heap_set (heap_set hk 0 (.int .i64 c)) 1 (.int .i64 nd)) 2 (.int .i64 row)) 3 (.int .i64 col)) 4 (.int .i64 pg)
 simp only[List.setIfInBounds_toArray,List.set_cons_zero,List.set_cons_succ]at hk5
 clear hk f0
 go_wp2
 exact bodyPost_ret (v:=faultR c nd row col pg) (by simp[results,Tryz.results22,go_sem,faultR,World.cell?,hk5]) rfl ⟨rfl,below_set5 hb4 (Nat.le_refl _) _ _ _ _ _⟩
theorem fault_nil (w:World):Calls Tryz.prog 22 #[.nilIface] w fun e w'=>e=.returned (fault 0)∧Below w.heap.size w w':=
 faultOf_of .nilIface 0 (-1) (-1) (-1) (-1) w (fun W _=>codeOf_nil W) (fun W _=>nodeOf_nil W) (fun W _=>rowOf_nil W) (fun W _=>columnOf_nil W) (fun W _=>pageOf_nil W)
theorem faultOf_errX (v:Value)(a:Addr)(n r c p g gc:Option Int)(w:World)(h:ErrX w v a n r c p g gc)(hb:∃ c t,w.heap[a.block]?=some (.cells c t (0,0)))(a0 a1 a2 tt q wr pg pl ex dv ov gv mn:Addr)(he:Errs w a0 a1 a2)(hm:More w a0 a1 a2 tt q wr pg)(h2:More2 w [a0,a1,a2,tt,q,wr,pg] pl ex)(h3:More3 w [ex,pl,a0,a1,a2,tt,q,wr,pg] dv ov gv mn) :
  Calls Tryz.prog 22 #[v] w fun e w'=>e=.returned (faultR (codeAtX a1 a2 tt q wr pg pl ex dv ov gv mn a) (n.getD (-1)) ((r.or g).getD (-1)) ((c.or gc).getD (-1)) (p.getD (-1)))∧Below w.heap.size w w':=
 faultOf_of v _ _ _ _ _ w (fun W hW=>codeOf_any v a W (h.below hW).r (heap_below hW hb) a0 a1 a2 tt q wr pg pl ex dv ov gv mn (he.below hW) (hm.below hW) (h2.below hW) (h3.below hW)) (fun W hW=>nodeOf_any v n W (h.below hW).n (hm.below hW).et) (fun W hW=>rowOf_any v r g W (h.below hW).x (h.below hW).g (hm.below hW).et) (fun W hW=>columnOf_any v c gc W (h.below hW).c (h.below hW).gc (hm.below hW).et) (fun W hW=>pageOf_any v p W (h.below hW).p (hm.below hW).et)
theorem codeAtX_eq {a1 a2 tt q wr pg pl ex dv ov gv mn a:Addr}(h:a∉[pl,ex,dv,ov,gv,mn]):codeAtX a1 a2 tt q wr pg pl ex dv ov gv mn a=codeAt a1 a2 tt q wr pg a:=by
 simp only[List.mem_cons,List.not_mem_nil,or_false,not_or]at h
 simp only[codeAtX,codeAt,if_neg h.1,if_neg h.2.1,if_neg h.2.2.1,if_neg h.2.2.2.1,if_neg h.2.2.2.2.1,if_neg h.2.2.2.2.2]
theorem faultOf_any (v:Value)(a:Addr)(c p:Option Int)(w:World)(h:Chain w v a c p)(hb:∃ c t,w.heap[a.block]?=some (.cells c t (0,0)))(a0 a1 a2 tt q wr pg:Addr)(hi:a∈[a0,a1,a2,tt,q,wr,pg])(he:Errs w a0 a1 a2)(hm:More w a0 a1 a2 tt q wr pg) :
  Calls Tryz.prog 22 #[v] w fun e w'=>e=.returned (faultAt (codeAt a1 a2 tt q wr pg a) (c.getD (-1)) (p.getD (-1)))∧Below w.heap.size w w':=by
 obtain⟨pl,ex,h2⟩:=hm.m2
 obtain⟨dv,ov,gv,mn,h3⟩:=h2.m3
 have:=faultOf_errX v a none none c p none none w h.errV hb a0 a1 a2 tt q wr pg pl ex dv ov gv mn he hm h2 h3
 have hp:a≠pl:=fun e=>h2.np (by rw[←e];exact hi)
 have hx:a≠ex:=fun e=>h2.ne (by rw[←e];exact hi)
 have hd:a≠dv:=fun e=>h3.nd (by rw[←e];exact .tail _ (.tail _ hi))
 have ho:a≠ov:=fun e=>h3.no (by rw[←e];exact .tail _ (.tail _ (.tail _ hi)))
 have hg:a≠gv:=fun e=>h3.ng (by rw[←e];exact .tail _ (.tail _ (.tail _ (.tail _ hi))))
 have hq:a≠mn:=fun e=>h3.nm (by rw[←e];exact .tail _ (.tail _ (.tail _ (.tail _ (.tail _ hi)))))
 rw[codeAtX_eq (by simp[hp,hx,hd,ho,hg,hq])]at this
 simpa using this
theorem faultOf_other (v:Value)(a:Addr)(c p:Option Int)(w:World)(h:Chain w v a c p)(hb:∃ c t,w.heap[a.block]?=some (.cells c t (0,0)))(a0 a1 a2 tt q wr pg pl ex dv ov gv mn:Addr)(hi:a∉[a0,a1,a2,tt,q,wr,pg,pl,ex])(hj:a∉[dv,ov,gv,mn])(he:Errs w a0 a1 a2)(hm:More w a0 a1 a2 tt q wr pg)(h2:More2 w [a0,a1,a2,tt,q,wr,pg] pl ex)(h3:More3 w [ex,pl,a0,a1,a2,tt,q,wr,pg] dv ov gv mn) :
  Calls Tryz.prog 22 #[v] w fun e w'=>e=.returned (faultAt 1 (c.getD (-1)) (p.getD (-1)))∧Below w.heap.size w w':=by
 have:=faultOf_errX v a none none c p none none w h.errV hb a0 a1 a2 tt q wr pg pl ex dv ov gv mn he hm h2 h3
 simp only[List.mem_cons,List.not_mem_nil,or_false,not_or]at hi hj
 rw[show codeAtX a1 a2 tt q wr pg pl ex dv ov gv mn a=1 by simp[codeAtX,hi,hj]]at this
 simpa using this
theorem codeAt_names {w:World}{a0 a1 a2 tt q wr pg:Addr}(hm:More w a0 a1 a2 tt q wr pg) :
  codeAt a1 a2 tt q wr pg a0=1∧codeAt a1 a2 tt q wr pg a1=2∧codeAt a1 a2 tt q wr pg a2=3∧codeAt a1 a2 tt q wr pg tt=4∧codeAt a1 a2 tt q wr pg q=5∧codeAt a1 a2 tt q wr pg wr=6∧codeAt a1 a2 tt q wr pg pg=7:=by
 have h:=hm.nd
 simp only[List.nodup_cons,List.mem_cons,List.not_mem_nil,or_false,not_or]at h
 obtain⟨⟨h01,h02,h04,h05,h06,h07⟩,⟨h12,h14,h15,h16,h17⟩,⟨h24,h25,h26,h27⟩,⟨h45,h46,h47⟩,⟨h56,h57⟩,h67,_⟩:=h
 refine⟨?_,?_,?_,?_,?_,?_,?_⟩<;>simp only[codeAt]<;>(repeat' split)<;>simp_all
end Go.Proofs.YtkgibdjakgmmcaaGreatDoor
