/- pack, walked. -/
import Derived.Test.YtkgibdjakgmmcaaGreatDoorTi
import Derived.Test.YtkgibdjakgmmcaaGreatDoorTe
import Derived.Test.YtkgibdjakgmmcaaGreatDoorRh
import Derived.Test.YtkgibdjakgmmcaaGreatDoorEw
set_option maxHeartbeats 4000000
set_option maxRecDepth 100000
namespace Go.Proofs.YtkgibdjakgmmcaaGreatDoor
open Go.RowKit Go.Shelf
attribute [local go_sem] Oper.semAt_some
theorem info_string:(Tryz.prog.info? 9).map (fun i=>(i.zero,i.size,i.bytes))=some (some (.string ⟨#[]⟩),1,16):=by kernel_rfl
structure PackI (w:World) (C0:Array Value) (hv:Value) (W:World) (T:List (List UInt8)):Prop where
 b0:W.heap[w.heap.size]?=some (.cells C0 40 (0,0))
 b1:Boxed W (w.heap.size+1) 29 hv
 b2:Boxed W (w.heap.size+1+1) 168 (.slice none 0 0)
 b3:Boxed W (w.heap.size+1+1+1) 81 .nilIface
 own:∃ sv,Boxed W (w.heap.size+1+1+1+1) 168 sv∧OwnC W (w.heap.size+7) 9 sv (T.map tv)
 below:Below w.heap.size w W
 size:w.heap.size+7≤W.heap.size
theorem kept_cells {W W':World}{row:Option Nat}{k:Nat}{C:Array Value}{t:TypeId}{fr:Nat×Nat}(h:W.heap[k]?=some (.cells C t fr))(hg:W.grownBy W' row)(hr:∀ r,row=some r→∃ o:Obj,W.heap[r]?=some o∧o.isCells=false):W'.heap[k]?=some (.cells C t fr):=by
 refine(hg.block k (lt_of_heap h) fun e=>?_).trans h
 obtain⟨o,ho,hc⟩:=hr k e.symm
 rw[h]at ho
 cases ho
 cases hc
theorem kept_own {W W':World}{row:Option Nat}{B:Nat}{e:TypeId}{sv:Value}{xs:List Value}(h:OwnC W B e sv xs)(hg:W.grownBy W' row)(hr:∀ r,row=some r→∃ o:Obj,W.heap[r]?=some o∧o.isCells=false):OwnC W' B e sv xs:=by
 refine own_of_block h fun g hg'=>?_
 rcases h.2 with⟨hv,_⟩|⟨g',cap,cur,hv,_,hb,_⟩
 ·subst hv;simp[Value.ownBlock]at hg'
 subst hv
 simp[Value.ownBlock]at hg'
 subst hg'
 rw[hb]
 exact kept_cells hb hg hr
theorem PackI.kept {w:World}{C0:Array Value}{hv:Value}{W W':World}{T:List (List UInt8)}{row:Option Nat}(h:PackI w C0 hv W T)(hg:W.grownBy W' row)(hr:∀ r,row=some r→w.heap.size≤r∧∃ o:Obj,W.heap[r]?=some o∧o.isCells=false):PackI w C0 hv W' T:=by
 obtain⟨sv,hs,ho⟩:=h.own
 have hr':∀ r,row=some r→∃ o:Obj,W.heap[r]?=some o∧o.isCells=false:=fun r e=>(hr r e).2
 exact⟨kept_cells h.b0 hg hr',kept_cells h.b1 hg hr',kept_cells h.b2 hg hr',kept_cells h.b3 hg hr',⟨sv,kept_cells hs hg hr',kept_own ho hg hr'⟩,h.below.grown hg h.below.size (fun k e=>(hr k e).1),Nat.le_trans h.size hg.size⟩
theorem PackI.ahead {w:World}{C0:Array Value}{hv:Value}{W W':World}{T:List (List UInt8)}(h:PackI w C0 hv W T)(hb:Below W.heap.size W W'):PackI w C0 hv W' T:=
 h.kept (row:=none) ⟨hb.os,hb.tape,hb.output,hb.size,fun k hk _=>hb.block k hk⟩ (fun r e=>by cases e)
structure PackX (w:World) (a1:Addr) (W:World) (col:Nat):Prop where
 b2:Boxed W (w.heap.size+1+1) 168 (.slice none 0 0)
 b3:∃ b,Boxed W (w.heap.size+1+1+1) 81 (.iface 158 (.pointer (some ⟨b,0,none⟩)))∧w.heap.size≤b∧W.cell? ⟨b,1,none⟩=some (.int .i64 (col:Int))∧W.cell? ⟨b,2,none⟩=some (.iface 284 (.pointer (some a1)))
 below:Below w.heap.size w W
theorem PackX.kept {w:World}{a1:Addr}{W W':World}{col:Nat}{row:Option Nat}(h:PackX w a1 W col)(hg:W.grownBy W' row)(hr:∀ r,row=some r→w.heap.size≤r∧∃ o:Obj,W.heap[r]?=some o∧o.isCells=false):PackX w a1 W' col:=by
 obtain⟨b,h3,hb,c1,c2⟩:=h.b3
 have hr':∀ r,row=some r→∃ o:Obj,W.heap[r]?=some o∧o.isCells=false:=fun r e=>(hr r e).2
 exact⟨kept_cells h.b2 hg hr',⟨b,kept_cells h3 hg hr',hb,cell_kept c1 hg hr',cell_kept c2 hg hr'⟩,h.below.grown hg h.below.size (fun k e=>(hr k e).1)⟩
def PackPost (w:World)(a1:Addr)(r:List (List UInt8)⊕Nat)(e:Ending)(w':World):Prop:=
 Below w.heap.size w w'∧match r with
  |.inl T=>∃ a cap,e=.returned (.tuple #[.slice a T.length cap,.nilIface])∧Cells w' a (T.map tv)∧∀ b o,a=some ⟨b,o,none⟩→w.heap.size≤b
  |.inr c=>∃ b,e=.returned (.tuple #[.slice none 0 0,.iface 158 (.pointer (some ⟨b,0,none⟩))])∧w.heap.size≤b∧Chain w' (.iface 158 (.pointer (some ⟨b,0,none⟩))) a1 (some (c:Int)) none
theorem alloc_at (w:World)(o:Obj)(k:Nat)(hk:k=w.heap.size):(w.alloc o).heap[k]?=some o:=by subst hk;exact heap_alloc_new w o
theorem alloc7 (w:World)(o0 o1 o2 o3 o4 o5 o6:Obj)(W:World)(hW:(((((((w.alloc o0).alloc o1).alloc o2).alloc o3).alloc o4).alloc o5).alloc o6)=W) :
  W.heap.size=w.heap.size+7∧W.heap[w.heap.size]?=some o0∧W.heap[w.heap.size+1]?=some o1∧W.heap[w.heap.size+1+1]?=some o2∧W.heap[w.heap.size+1+1+1]?=some o3∧W.heap[w.heap.size+1+1+1+1]?=some o4∧W.heap[w.heap.size+1+1+1+1+1]?=some o5∧W.heap[w.heap.size+1+1+1+1+1+1]?=some o6∧Below w.heap.size w W:=by
 subst hW
 refine⟨by simp,?_,?_,?_,?_,?_,?_,?_,?_⟩
 ·rw[Below.heap_alloc _ _ _ (by simp only[World.size_alloc];omega),Below.heap_alloc _ _ _ (by simp only[World.size_alloc];omega),Below.heap_alloc _ _ _ (by simp only[World.size_alloc];omega),Below.heap_alloc _ _ _ (by simp only[World.size_alloc];omega),Below.heap_alloc _ _ _ (by simp only[World.size_alloc];omega),Below.heap_alloc _ _ _ (by simp)];exact alloc_at _ _ _ rfl
 ·rw[Below.heap_alloc _ _ _ (by simp only[World.size_alloc];omega),Below.heap_alloc _ _ _ (by simp only[World.size_alloc];omega),Below.heap_alloc _ _ _ (by simp only[World.size_alloc];omega),Below.heap_alloc _ _ _ (by simp only[World.size_alloc];omega),Below.heap_alloc _ _ _ (by simp)];exact alloc_at _ _ _ (by simp only[World.size_alloc])
 ·rw[Below.heap_alloc _ _ _ (by simp only[World.size_alloc];omega),Below.heap_alloc _ _ _ (by simp only[World.size_alloc];omega),Below.heap_alloc _ _ _ (by simp only[World.size_alloc];omega),Below.heap_alloc _ _ _ (by simp)];exact alloc_at _ _ _ (by simp only[World.size_alloc])
 ·rw[Below.heap_alloc _ _ _ (by simp only[World.size_alloc];omega),Below.heap_alloc _ _ _ (by simp only[World.size_alloc];omega),Below.heap_alloc _ _ _ (by simp)];exact alloc_at _ _ _ (by simp only[World.size_alloc])
 ·rw[Below.heap_alloc _ _ _ (by simp only[World.size_alloc];omega),Below.heap_alloc _ _ _ (by simp)];exact alloc_at _ _ _ (by simp only[World.size_alloc])
 ·rw[Below.heap_alloc _ _ _ (by simp)];exact alloc_at _ _ _ (by simp only[World.size_alloc])
 ·exact alloc_at _ _ _ (by simp only[World.size_alloc])
 exact(((((((Below.refl _ w).alloc (Nat.le_refl _) _).alloc (by simp) _).alloc (by simp;omega) _).alloc (by simp;omega) _).alloc (by simp;omega) _).alloc (by simp;omega) _).alloc (by simp;omega) _
theorem OnlyN.go {Q:Exit→Act→World→Prop}{a:Act}{w:World}(h:Q .normal a w):OnlyN Q .normal a w:=h
theorem PackI.more {w:World}{C0:Array Value}{hv:Value}{W3 w4:World}{T:List (List UInt8)}{sv sv':Value}(h:PackI w C0 hv W3 T)(hsv:Boxed W3 (w.heap.size+1+1+1+1) 168 sv)(how:OwnC W3 (w.heap.size+7) 9 sv (T.map tv))(o:Obj)(pt:List UInt8)
  (hown:OwnC w4 (w.heap.size+7) 9 sv' (T.map tv++[tv pt])) (hg:(W3.alloc o).grownBy w4 sv.ownBlock) :
  PackI w C0 hv (w4.setCell ⟨w.heap.size+1+1+1+1,0,none⟩ sv') (T++[pt])∧KeepsOthers W3 (w4.setCell ⟨w.heap.size+1+1+1+1,0,none⟩ sv')∧KpC (w.heap.size+1+1+1+1+1) (w.heap.size+1+1+1+1+1+1) W3 (w4.setCell ⟨w.heap.size+1+1+1+1,0,none⟩ sv')∧Boxed w4 (w.heap.size+1+1+1+1) 168 sv:=by
 have hsz:=h.size
 have hown0:∀ g,sv.ownBlock=some g→w.heap.size+7≤g:=fun g hg=>(owns_block how hg).1
 have hst:∀ k,k<W3.heap.size→sv.ownBlock≠some k→w4.heap[k]?=W3.heap[k]?:=fun k hk hne=>(hg.block k (by simp;omega) (Ne.symm hne)).trans (Below.heap_alloc W3 o k hk)
 have hlow:∀ k,k<w.heap.size+7→w4.heap[k]?=W3.heap[k]?:=fun k hk=>hst k (by omega) fun e=>by have:=hown0 k e;omega
 have hb4:Boxed w4 (w.heap.size+1+1+1+1) 168 sv:=(hlow _ (by omega)).trans hsv
 have hoth:∀ k,k<w.heap.size+7→k≠w.heap.size+1+1+1+1→(w4.setCell ⟨w.heap.size+1+1+1+1,0,none⟩ sv').heap[k]?=W3.heap[k]?:=fun k hk hne=>(Below.heap_setCell _ _ _ _ hne).trans (hlow k hk)
 have hgs:=hg.size
 rw[World.size_alloc]at hgs
 have hss:(w4.setCell ⟨w.heap.size+1+1+1+1,0,none⟩ sv').heap.size=w4.heap.size:=by simp[World.setCell]
 refine⟨⟨(hoth _ (by omega) (by omega)).trans h.b0,(hoth _ (by omega) (by omega)).trans h.b1,(hoth _ (by omega) (by omega)).trans h.b2,(hoth _ (by omega) (by omega)).trans h.b3,⟨sv',hb4.set sv',?_⟩,?_,by rw[hss];omega⟩,?_,⟨hoth _ (by omega) (by omega),hoth _ (by omega) (by omega)⟩,hb4⟩
 ·rw[List.map_append]
  exact own_of_block hown fun g hg'=>Below.heap_setCell _ _ _ _ (by have:=(owns_block hown hg').1;simp;omega)
 ·exact((h.below.alloc h.below.size o).grown hg (by simp;omega) (fun k hk=>by have:=hown0 k hk;omega)).setCell (p:=⟨w.heap.size+1+1+1+1,0,none⟩) (by simp;omega) _
 refine(KeepsOthers.alloc W3 o).trans ((KeepsOthers.of_grownBy hg fun j ob e hob=>?_).trans (KeepsOthers.setCell _ _ _))
 rcases how.2 with⟨hv,_⟩|⟨g,cap,cur,hv,_,hb,_⟩
 ·subst hv;simp[Value.ownBlock]at e
 subst hv
 simp[Value.ownBlock]at e
 subst e
 rw[Below.heap_alloc _ _ _ (lt_of_heap hb),hb]at hob
 cases hob
 rfl
theorem PackI.bad {w:World}{C0:Array Value}{hv:Value}{W3:World}{T:List (List UInt8)}(h:PackI w C0 hv W3 T)(name:ByteArray)(c:Nat)(a1:Addr)(W5:World)(he:W5.heap[W3.heap.size]?=some (.cells #[.string name,.int .i64 (c:Int),.iface 284 (.pointer (some a1))] 161 (0,0)))
  (h2:Boxed W5 (w.heap.size+1+1) 168 (.slice none 0 0)) (h3:Boxed W5 (w.heap.size+1+1+1) 81 (.iface 158 (.pointer (some ⟨W3.heap.size,0,none⟩)))) (hb:Below w.heap.size w W5) (hs:W3.heap.size≤W5.heap.size)
  (ho:∀ k,k<W3.heap.size→k≠w.heap.size+1+1→k≠w.heap.size+1+1+1→W5.heap[k]?=W3.heap[k]?):PackX w a1 W5 c∧KeepsOthers W3 W5:=by
 have hsz:=h.size
 refine⟨⟨h2,⟨W3.heap.size,h3,by omega,by simp[World.cell?,he],by simp[World.cell?,he]⟩,hb⟩,hs,fun k o hk hc=>?_⟩
 refine(ho k (lt_of_heap hk) (fun e=>?_) (fun e=>?_)).trans hk
 ·subst e
  rw[show W3.heap[w.heap.size+1+1]?=_ from h.b2]at hk
  cases hk
  cases hc
 subst e
 rw[show W3.heap[w.heap.size+1+1+1]?=_ from h.b3]at hk
 cases hk
 cases hc
theorem PackI.badA {w:World}{C0:Array Value}{hv:Value}{W3:World}{T:List (List UInt8)}(h:PackI w C0 hv W3 T)(name:ByteArray)(c:Nat)(a1:Addr) :
  PackX w a1 (((W3.alloc (.cells #[.string name,.int .i64 (c:Int),.iface 284 (.pointer (some a1))] 161)).setCell ⟨w.heap.size+1+1,0,none⟩ (.slice none 0 0)).setCell ⟨w.heap.size+1+1+1,0,none⟩ (.iface 158 (.pointer (some ⟨W3.heap.size,0,none⟩)))).drew c ∧
  KeepsOthers W3 (((W3.alloc (.cells #[.string name,.int .i64 (c:Int),.iface 284 (.pointer (some a1))] 161)).setCell ⟨w.heap.size+1+1,0,none⟩ (.slice none 0 0)).setCell ⟨w.heap.size+1+1+1,0,none⟩ (.iface 158 (.pointer (some ⟨W3.heap.size,0,none⟩)))).drew:=by
 have hsz:=h.size
 have hb3:Boxed ((W3.alloc (.cells #[.string name,.int .i64 (c:Int),.iface 284 (.pointer (some a1))] 161)).setCell ⟨w.heap.size+1+1,0,none⟩ (.slice none 0 0)) (w.heap.size+1+1+1) 81 .nilIface:=(Below.heap_setCell _ _ _ _ (by simp)).trans (h.b3.alloc _)
 refine h.bad name c a1 _ ?_ ?_ ?_ ?_ ?_ ?_
 ·exact(Below.heap_setCell _ _ _ _ (by simp;omega)).trans ((Below.heap_setCell _ _ _ _ (by simp;omega)).trans (heap_alloc_new _ _))
 ·exact(Below.heap_setCell _ _ _ _ (by simp)).trans ((h.b2.alloc _).set _)
 ·exact hb3.set _
 ·exact(((h.below.alloc h.below.size _).setCell (p:=⟨w.heap.size+1+1,0,none⟩) (by simp;omega) _).setCell (p:=⟨w.heap.size+1+1+1,0,none⟩) (by simp;omega) _).drew
 ·show W3.heap.size≤((((W3.alloc _).setCell _ _).setCell _ _).heap).size
  simp[World.setCell]
 intro k hk h2 h3
 exact(Below.heap_setCell _ _ _ _ h3).trans ((Below.heap_setCell _ _ _ _ h2).trans (Below.heap_alloc _ _ _ hk))
theorem PackI.badB {w:World}{C0:Array Value}{hv:Value}{W3:World}{T:List (List UInt8)}(h:PackI w C0 hv W3 T)(name:ByteArray)(c:Nat)(a1:Addr) :
  PackX w a1 (((W3.setCell ⟨w.heap.size+1+1,0,none⟩ (.slice none 0 0)).alloc (.cells #[.string name,.int .i64 (c:Int),.iface 284 (.pointer (some a1))] 161)).setCell ⟨w.heap.size+1+1+1,0,none⟩ (.iface 158 (.pointer (some ⟨W3.heap.size,0,none⟩)))).drew c ∧
  KeepsOthers W3 (((W3.setCell ⟨w.heap.size+1+1,0,none⟩ (.slice none 0 0)).alloc (.cells #[.string name,.int .i64 (c:Int),.iface 284 (.pointer (some a1))] 161)).setCell ⟨w.heap.size+1+1+1,0,none⟩ (.iface 158 (.pointer (some ⟨W3.heap.size,0,none⟩)))).drew:=by
 have hsz:=h.size
 have hs1:(W3.setCell ⟨w.heap.size+1+1,0,none⟩ (.slice none 0 0)).heap.size=W3.heap.size:=by simp[World.setCell]
 have hb3:Boxed ((W3.setCell ⟨w.heap.size+1+1,0,none⟩ (.slice none 0 0)).alloc (.cells #[.string name,.int .i64 (c:Int),.iface 284 (.pointer (some a1))] 161)) (w.heap.size+1+1+1) 81 .nilIface:=Boxed.alloc ((Below.heap_setCell _ _ _ _ (by simp)).trans h.b3) _
 have hnew:=heap_alloc_new (W3.setCell ⟨w.heap.size+1+1,0,none⟩ (.slice none 0 0)) (.cells #[.string name,.int .i64 (c:Int),.iface 284 (.pointer (some a1))] 161)
 rw[hs1]at hnew
 refine h.bad name c a1 _ ?_ ?_ ?_ ?_ ?_ ?_
 ·exact(Below.heap_setCell _ _ _ _ (by simp;omega)).trans hnew
 ·exact(Below.heap_setCell _ _ _ _ (by simp)).trans ((h.b2.set _).alloc _)
 ·exact hb3.set _
 ·exact(((h.below.setCell (p:=⟨w.heap.size+1+1,0,none⟩) (by simp;omega) _).alloc (by rw[hs1];omega) _).setCell (p:=⟨w.heap.size+1+1+1,0,none⟩) (by simp;omega) _).drew
 ·show W3.heap.size≤((((W3.setCell _ _).alloc _).setCell _ _).heap).size
  simp[World.setCell]
 intro k hk h2 h3
 exact(Below.heap_setCell _ _ _ _ h3).trans ((Below.heap_alloc _ _ _ (by rw[hs1];exact hk)).trans (Below.heap_setCell _ _ _ _ h2))
theorem colText_code {name:ByteArray}{ts hs:List Int}{rs rows:List (List V)}(htab:isTab name ts rs)(hrw:∀ r∈rows,r∈rs)(hrl:rows.length≤64)(c:Nat)(hc:c<ts.length)(hhl:hs.length=ts.length)(hway:∀ j (hj:j<hs.length),way (ts.getD j 0) hs[j]=true) :
  (colText rows ts hs c).2=0∨(colText rows ts hs c).2=2:=by
 have hw:=hway c (by omega)
 have hg:hs.getD c 0=hs[c]'(by omega):=by simp[show c<hs.length by omega]
 have hok:okAllB (ts.getD c 0) (colOf rows c)=true:=by
  rw[okAllB_iff]
  refine⟨by simpa [colOf] using hrl,fun j hj=>?_⟩
  have hj':j<rows.length:=by simpa [colOf] using hj
  obtain⟨i,hi,hri⟩:=List.getElem_of_mem (hrw _ (List.getElem_mem hj'))
  obtain⟨h1,h2⟩:=htab.2.2.2 i hi
  have hcl:c<(rs[i]).length:=by omega
  have:=h2 c hcl
  have e:(colOf rows c)[j]=(rs[i])[c]:=by
   simp only[colOf,List.getElem_map,List.getD_eq_getElem?_getD]
   simp only[←hri,List.getElem?_eq_getElem hcl,Option.getD_some]
  rw[e]
  exact this
 unfold colText pOut
 rw[hg,hw,hok,Bool.and_self,if_pos rfl]
 split
 ·exact .inr rfl
 exact .inl rfl
theorem tPack_any (name:ByteArray)(at_ ar ah:Option Addr)(ct cr ch g:Nat)(ts hs:List Int)(xs:List (Option Addr×Nat))(rs:List (List V))(w:World)(htab:isTab name ts rs)(HHL:Hid (hs.length=ts.length))(hway:∀ j (hj:j<hs.length),way (ts.getD j 0) hs[j]=true)(hg:1≤g)(hg2:g≤64)(hrc:rs.length≤cr)
  (hx:Ints w at_ ts) (hh:Ints w ah hs) (hy:RowsAt w ar xs rs) (HWC:Hid (∀ x∈hs,WayP x)) (a0 a1 a2:Addr) (he:Errs w a0 a1 a2) :
  Calls Tryz.prog 69 #[.agg #[.string name,.slice at_ ts.length ct,.slice ar rs.length cr],.slice ah hs.length ch,.int .i64 (g:Int)] w fun e w'=>PackPost w a1 (packF rs ts hs (cks rs.length g (ckN rs.length g))) e w':=by
 refine(callsIn_wide (n:=3)).1 ?_
 refine callsIn_of_wp_marks Tryz.func69 rfl trivial ?_ rfl
 simp only[Tryz.ntmps69,List.size_toArray,List.length_cons,List.length_nil,Nat.reduceAdd,Nat.reduceSub,Array.replicate_succ,Array.replicate_zero,List.push_toArray,List.append_toArray,List.nil_append,List.cons_append]
 have hck:=fun (W:World)=>chunk_any ar rs.length cr g hg W
 gi_wp2_with (refine⟨trivial,?_⟩;gi_at_call 93;refine(callsIn_wide.2 (hck _)).mono ?_;rintro e w' ⟨rfl,rfl⟩)
 generalize hW0:World.alloc _ (Obj.cells #[.int .i64 (g:Int)] 3)=W0
 obtain⟨hsz,e0,e1,e2,e3,e4,e5,e6,hbel⟩:=alloc7 w _ _ _ _ _ _ _ W0 hW0
 have HS:Hid (W0.heap.size=w.heap.size+7):=hsz
 clear hW0 hsz hck
 have hva:rs.length=0∨∃ b o,ar=some ⟨b,o,none⟩:=by
  rcases hy.cells with h|⟨b,o,h,_⟩
  ·left
   have:=congrArg List.length h
   simp[hy.len]at this
   exact List.length_eq_zero_iff.2 this
  exact .inr ⟨b,o,h⟩
 have hl200:rs.length≤200:=htab.2.2.1
 refine wpIn_rangeFunc_ownG rfl (by omega) (gf:=114) (lb:=#[.pointer (some ⟨w.heap.size+1+1+1+1+1,0,none⟩),.pointer (some ⟨w.heap.size+1+1+1+1+1+1,0,none⟩)]) rfl trivial (enters_of Tryz.func114 (by kernel_rfl) rfl)
  (chunk_stops 2 (by omega) (w.heap.size+1+1+1+1+1) (w.heap.size+1+1+1+1+1+1) ar rs.length cr g hg hg2 (by omega) hrc hva W0 (lt_of_heap e5) (lt_of_heap e6) (by simp[World.cell?,e5]) (by simp[World.cell?,e6]))
  (fun h k=>⟨k.1.trans h.1,k.2.trans h.2⟩) ?hKb (Below.refl _ _) (fun _=>rfl)
  (fun pre W=>∃ T,packF rs ts hs (pre.map Subtype.val)=.inl T∧T.length≤pre.length*6∧PackI w #[.string name,.slice at_ ts.length ct,.slice ar rs.length cr] (.slice ah hs.length ch) W T)
  (fun c pre W=>c=.ret∧∃ col,packF rs ts hs (pre.map Subtype.val)=.inr col∧PackX w a1 W col)
  ?hI ?hIx ?h0
  (fun x=>{tmps:=#[.agg #[.string name,.slice at_ ts.length ct,.slice ar rs.length cr],.slice ah hs.length ch,.int .i64 (g:Int),.pointer (some ⟨w.heap.size,0,none⟩),.pointer (some ⟨w.heap.size+1,0,none⟩),undef,.pointer (some ⟨w.heap.size+1+1,0,none⟩),.pointer (some ⟨w.heap.size+1+1+1,0,none⟩),.pointer (some ⟨w.heap.size+1+1+1+1,0,none⟩),ckV ar x.1,undef,undef,undef,undef,
   .pointer (some ⟨w.heap.size,2,none⟩),.slice ar rs.length cr,.int .i64 (g:Int),.func (.func 114) #[] #[.pointer (some ⟨w.heap.size+1+1+1+1+1,0,none⟩),.pointer (some ⟨w.heap.size+1+1+1+1+1+1,0,none⟩)],ckV ar x.1,undef,undef,undef,undef,undef,undef,undef,undef,undef,undef,undef,undef,undef,undef,undef,undef,undef,undef,undef,undef,undef,undef,undef,undef,undef,undef,undef,undef,undef,undef,undef,undef,undef,undef,undef],defers:=[]}) ?assign ?body ?done ?stop
 case hKb=>
  intro W l o o' hl ho hc _
  have:=HS.out
  exact⟨World.putObj_heap_other (by omega),World.putObj_heap_other (by omega)⟩
 case hI=>
  rintro s W W' row ⟨T,h1,h2,h3⟩ hg hr
  exact⟨T,h1,h2,h3.kept hg fun r e=>⟨by have:=(hr r e).1;have:=HS.out;omega,(hr r e).2⟩⟩
 case hIx=>
  rintro c s W W' row ⟨hc,col,h1,h3⟩ hg hr
  exact⟨hc,col,h1,h3.kept hg fun r e=>⟨by have:=(hr r e).1;have:=HS.out;omega,(hr r e).2⟩⟩
 case h0=>exact⟨[],rfl,by simp,e0,e1,e2,e3,⟨_,e4,OwnC.nil _ _ _⟩,hbel,by rw[HS.out];exact Nat.le_refl _⟩
 case assign=>
  intro l x W K hK
  gi_wp2
  exact hK
 case body=>
  rintro l pre x W ⟨T,hT,hTl,hI⟩ hpre
  obtain⟨xa,xh,hxv,hxr⟩:=hy.piece x
  obtain⟨x3,HX3⟩:∃ x3,Hid (x.1.2=x3):=⟨_,rfl⟩
  have hrl:(rowsOf rs x.1).length≤64:=by have:=x.2;unfold rowsOf;rw[List.length_take];omega
  have HRW:Hid (∀ r∈rowsOf rs x.1,r∈rs):=fun r hr=>List.mem_of_mem_drop (List.mem_of_mem_take hr)
  have HPF:Hid (packF rs ts hs ((pre++[x]).map Subtype.val)=packS rs ts hs (.inl T) x.1):=by show _=_;rw[List.map_append,List.map_cons,List.map_nil,packF_snoc,hT]
  have hckn:ckN rs.length g≤rs.length:=by
   unfold ckN
   rw[Nat.div_le_iff_le_mul_add_pred (by omega)]
   have:rs.length≤g*rs.length:=Nat.le_mul_of_pos_left _ hg
   omega
  have hplen:(pre++[x]).length=pre.length+1:=by simp
  have HPL:Hid ((pre++[x]).length=pre.length+1):=hplen
  rw[hxv,HX3.out]
  clear hT hxv hplen
  have HPS:Hid (packS rs ts hs (.inl T) x.1=match packK (rowsOf rs x.1) ts hs ts.length with|.inl l=>.inl (T++l)|.inr c=>.inr c):=rfl
  generalize rowsOf rs x.1=rows at *
  have hts:=htab.2.1.1
  have c01:W.cell? ⟨w.heap.size,1,none⟩=some (.slice at_ ts.length ct):=by simp[World.cell?,hI.b0]
  have HWY:Hid (∀ j (hj:j<hs.length),way (ts.getD j 0) hs[j]=true):=hway
  clear hway
  gi_wp2
  gi_loopw [22] (fun i wr=>∃ (c:Nat) (L:List (List UInt8)),c≤ts.length∧i=.int .i64 c∧Hid (packK rows ts hs c=.inl L)∧PackI w #[.string name,.slice at_ ts.length ct,.slice ar rs.length cr] (.slice ah hs.length ch) wr (T++L)∧KeepsFrom W0.heap.size W wr∧KpC (w.heap.size+1+1+1+1+1) (w.heap.size+1+1+1+1+1+1) W wr) (fun i _=>ts.length-(intOf i).toNat)
  case atStart=>exact⟨0,[],Nat.zero_le _,rfl,rfl,by simpa using hI,KeepsFrom.refl _ _,rfl,rfl⟩
  case round=>
   obtain⟨c,L,hc,rfl,HL,hJ,hkf,hkc⟩:=hrel
   have hLc:=packK_len rows ts hs c L HL.out
   by_cases hlt:c<ts.length
   ·have hbw:=hJ.below
    have hlth:c<hs.length:=by have:=HHL.out;omega
    obtain⟨b1,o1,rfl,hb1,y1⟩:=Ints.at (hx.below hbw) hlt
    obtain⟨b2,o2,rfl,hb2,y2⟩:=Ints.at (hh.below hbw) hlth
    have c1:=hJ.b1.cell
    have c00:wr.cell? ⟨w.heap.size,0,none⟩=some (.string name):=by simp[World.cell?,hJ.b0]
    have hcode:=colText_code htab HRW.out hrl c hlt HHL.out HWY.out
    have hct:colText rows ts hs c=pOut ts[c] hs[c] (colOf rows c):=by simp[colText,hlt,hlth]
    rw[hct]at hcode
    have HCT:Hid (colText rows ts hs c=pOut ts[c] hs[c] (colOf rows c)):=hct
    have HCO:Hid (∀ W',Below w.heap.size w W'→Calls Tryz.prog 95 #[.slice xa rows.length x3,.int .i64 (c:Int)] W' fun e w'=>∃ v,e=.returned v∧ValsAt W' w' (colOf rows c) v∧Below W'.heap.size W' w'):=fun W' hb'=>by
     refine column_any xa x3 xh rows c W' (by omega) (hxr.below hb') (fun r hr=>?_) (fun r hr=>?_)
     ·obtain⟨i,hi,rfl⟩:=List.getElem_of_mem (HRW.out r hr)
      have:=(htab.2.2.2 i hi).1;omega
     obtain⟨i,hi,rfl⟩:=List.getElem_of_mem (HRW.out r hr)
     have:=(htab.2.2.2 i hi).1;omega
    have HPA:Hid (∀ W' b,Below w.heap.size w W'→RowT W' b (colOf rows c) []→Calls Tryz.prog 94 #[.int .i64 ts[c],.int .i64 hs[c],.slice (some ⟨b,0,none⟩) (colOf rows c).length (colOf rows c).length] W' fun e w'=>e=.returned (.tuple #[.string (str (pOut ts[c] hs[c] (colOf rows c)).1),errVal a0 a1 (pOut ts[c] hs[c] (colOf rows c)).2])∧Below W'.heap.size W' w'):=fun W' b hb' hr'=>
     (HWC.out hs[c] (List.getElem_mem _)).pack ts[c] (some ⟨b,0,none⟩) _ (colOf rows c) W' (by unfold maxLen;simp[colOf];omega) hr'.vals a0 a1 a2 (he.below hb')
    have HLC:Hid (L.length=c):=hLc
    have hmx:Tryz.prog.follows .mixedOrders=true:=by kernel_rfl
    clear hct hLc hx hh hy he
    generalize hpo:pOut ts[c] hs[c] (colOf rows c)=po at *
    obtain⟨pt,pc⟩:=po
    simp only at hcode
    rcases hcode with rfl|rfl
    ·have HK:Hid (packK rows ts hs (c+1)=.inl (L++[pt])):=by show _=_;simp only[packK,HL.out,HCT.out];rfl
     clear hpo HL HCT
     have hlb:=hJ.b1.lt
     have HPB:Hid (∀ W' b,Below w.heap.size w W'→RowT W' b (colOf rows c) []→Calls Tryz.prog 94 #[.int .i64 ts[c],.int .i64 hs[c],.slice (some ⟨b,0,none⟩) (colOf rows c).length (colOf rows c).length] W' fun e w'=>e=.returned (.tuple #[.string (str pt),.nilIface])∧Below W'.heap.size W' w'):=HPA.out
     clear HPA
     gi_wp2
     refine region_round (S:=fun X=>X.cell? ⟨w.heap.size+1,0,none⟩=some (.slice (some ⟨b2,o2,none⟩) hs.length ch)∧X.cell? ⟨b2,o2+c,none⟩=some (.int .i64 hs[c])∧Below w.heap.size w X) (by kernel_rfl) (by kernel_rfl) ⟨c1,y2,hbw.drew⟩ (fun hH=>?_)
     refine tkj 0 rfl hH ?_
     refine tkj 1 rfl hH ?_
     refine tkj 2 rfl hH ?_
     refine tkj 3 rfl hH ?_
     refine tkj 4 rfl hH ?_
     refine tkj 5 rfl hH ?_
     refine tkj 6 rfl hH ?_
     refine tkn ?_
     refine tkr 7 rfl fun K hK=>?_
     go_simp
     refine(HCO.out _ hH.2.2).mono ?_
     rintro e w2 ⟨v,rfl,⟨bq,rfl,hbq,hrq⟩,hbc⟩
     go_simp
     obtain⟨kk,_⟩:=below_keep hbc
     refine hK.out _ _ ⟨(kk (w.heap.size+1) 0 hlb).trans c1,(kk b2 (o2+c) hb2).trans y2,hbw.trans ((below_undrew hbc).mono hbw.size)⟩ (fun hH2=>?_)
     clear hK K kk hH
     refine tkr 8 rfl fun K hK=>?_
     go_simp
     refine(HPB.out _ _ hH2.2.2 hrq).mono ?_
     rintro e w3 ⟨rfl,hbd⟩
     go_simp
     obtain⟨kk,_⟩:=below_keep hbd
     have hb23:=hbc.size
     refine hK.out _ _ ⟨(kk (w.heap.size+1) 0 (Nat.lt_of_lt_of_le hlb hb23)).trans hH2.1,(kk b2 (o2+c) (Nat.lt_of_lt_of_le hb2 hb23)).trans hH2.2.1,hH2.2.2.trans (hbd.mono hH2.2.2.size)⟩ (fun hH3=>?_)
     clear hK K kk hH2
     refine tkj 9 rfl hH3 ?_
     refine tkj 10 rfl hH3 ?_
     refine tkj 11 rfl hH3 ?_
     refine tkj 12 rfl hH3 ?_
     refine tkj 13 rfl hH3 ?_
     refine tkn ?_
     refine wpAnyH_done (by kernel_rfl) (OnlyN.go ?_) _
     have hJ3:=hJ.ahead ((below_undrew hbc).trans (hbd.mono hb23))
     obtain⟨sv,hsv,hown⟩:=hJ3.own
     have c4:=hsv.cell
     obtain⟨i0,hi,hz0,hz1,hz2⟩:=info_parts info_string
     have hTL:(List.map tv (T++L)).length≤2000:=by rw[List.length_map,List.length_append,HLC.out];omega
     have h73:=hJ3.size
     obtain⟨sa,sc,hse,_⟩:=hown.cells
     rw[List.length_map,List.length_append]at hse
     subst hse
     gi_wp2_with (gi_at_builtin;go_must (refine wpListIn_append_own _ rfl _ _ 168 rfl (w.heap.size+7) 9 i0 _ 1 16 Tryz.underlying168 hi hz0 hz1 hz2 rfl (by decide) _ _ _ rfl (OwnC.alloc hown _) ⟨w3.heap.size,0,none⟩ 1 1 [tv pt] rfl rfl (by exact news_one w3 _ _) (by intro u hu;simp at hu;subst hu;rfl) (by unfold maxLen;omega) (by omega) (by simp;omega) ?_);intro v' w4 hown4 hgr _;go_must (have hmore:=hJ3.more hsv hown _ pt (sv':=v') (w4:=w4) (by unfold OwnC;simpa [Nat.add_assoc] using hown4) hgr);go_must (obtain⟨g4,cap4,hv4⟩:=ownsRow_succ hown4);subst hv4;have c44:=hmore.2.2.2.cell;have f44:=hmore.2.2.2.frozen)
     go_roundw
     case rel=>
      have hkb:Below wr.heap.size wr w3:=(below_undrew hbc).trans (hbd.mono hb23)
      have hke:=keeps_below hkb
      rw[List.length_map,List.length_append]at hmore
      refine⟨c+1,L++[pt],by omega,by go_num,HK.out,by rw[←List.append_assoc];exact hmore.1,hkf.trans ((hke.trans hmore.2.1).from _),?_,?_⟩
      ·exact(hmore.2.2.1.1.trans (hkb.block _ (by have:=hJ.size;omega))).trans hkc.1
      exact(hmore.2.2.1.2.trans (hkb.block _ (by have:=hJ.size;omega))).trans hkc.2
     case measure=>simp[intOf];omega
    have HK:Hid (packK rows ts hs ts.length=.inr c):=packK_bad rows ts hs c (c+1) ts.length (by simp only[packK,HL.out,HCT.out];rfl) hlt
    clear hpo HL HCT
    have hlb:=hJ.b1.lt
    have HPB:Hid (∀ W' b,Below w.heap.size w W'→RowT W' b (colOf rows c) []→Calls Tryz.prog 94 #[.int .i64 ts[c],.int .i64 hs[c],.slice (some ⟨b,0,none⟩) (colOf rows c).length (colOf rows c).length] W' fun e w'=>e=.returned (.tuple #[.string (str pt),.iface 284 (.pointer (some a1))])∧Below W'.heap.size W' w'):=HPA.out
    clear HPA
    gi_wp2
    refine region_round (S:=fun X=>X.cell? ⟨w.heap.size+1,0,none⟩=some (.slice (some ⟨b2,o2,none⟩) hs.length ch)∧X.cell? ⟨b2,o2+c,none⟩=some (.int .i64 hs[c])∧Below w.heap.size w X) (by kernel_rfl) (by kernel_rfl) ⟨c1,y2,hbw.drew⟩ (fun hH=>?_)
    refine tkj 0 rfl hH ?_
    refine tkj 1 rfl hH ?_
    refine tkj 2 rfl hH ?_
    refine tkj 3 rfl hH ?_
    refine tkj 4 rfl hH ?_
    refine tkj 5 rfl hH ?_
    refine tkj 6 rfl hH ?_
    refine tkn ?_
    refine tkr 7 rfl fun K hK=>?_
    go_simp
    refine(HCO.out _ hH.2.2).mono ?_
    rintro e w2 ⟨v,rfl,⟨bq,rfl,hbq,hrq⟩,hbc⟩
    go_simp
    obtain⟨kk,_⟩:=below_keep hbc
    refine hK.out _ _ ⟨(kk (w.heap.size+1) 0 hlb).trans c1,(kk b2 (o2+c) hb2).trans y2,hbw.trans ((below_undrew hbc).mono hbw.size)⟩ (fun hH2=>?_)
    clear hK K kk hH
    refine tkr 8 rfl fun K hK=>?_
    go_simp
    refine(HPB.out _ _ hH2.2.2 hrq).mono ?_
    rintro e w3 ⟨rfl,hbd⟩
    go_simp
    obtain⟨kk,_⟩:=below_keep hbd
    have hb23:=hbc.size
    refine hK.out _ _ ⟨(kk (w.heap.size+1) 0 (Nat.lt_of_lt_of_le hlb hb23)).trans hH2.1,(kk b2 (o2+c) (Nat.lt_of_lt_of_le hb2 hb23)).trans hH2.2.1,hH2.2.2.trans (hbd.mono hH2.2.2.size)⟩ (fun hH3=>?_)
    clear hK K kk hH2
    refine tkj 9 rfl hH3 ?_
    refine tkj 10 rfl hH3 ?_
    refine tkj 11 rfl hH3 ?_
    refine tkj 12 rfl hH3 ?_
    refine tkj 13 rfl hH3 ?_
    refine tkn ?_
    refine wpAnyH_done (by kernel_rfl) (OnlyN.go ?_) _
    have hJ3:=hJ.ahead ((below_undrew hbc).trans (hbd.mono hb23))
    have hkb:Below wr.heap.size wr w3:=(below_undrew hbc).trans (hbd.mono hb23)
    have HF:Hid (packF rs ts hs ((pre++[x]).map Subtype.val)=.inr c):=by show _=_;rw[HPF.out,HPS.out,HK.out]
    have c00':w3.cell? ⟨w.heap.size,0,none⟩=some (.string name):=by simp[World.cell?,hJ3.b0]
    have r2:=hJ3.b2.cell
    have q2:=hJ3.b2.frozen
    have r3:=hJ3.b3.cell
    have q3:=hJ3.b3.frozen
    have h73:=hJ3.size
    gi_wp2
    refine region_round (S:=fun X=>X.cell? ⟨w.heap.size,0,none⟩=some (.string name)) (by kernel_rfl) (by kernel_rfl) c00' (fun hQ0=>?_)
    refine tkj 0 rfl hQ0 ?_
    refine tkj 1 rfl hQ0 ?_
    refine tkj 2 rfl hQ0 ?_
    refine tkj 3 rfl hQ0 ?_
    refine tkj 4 rfl hQ0 ?_
    refine tkn ?_
    have r2a:∀ o,(w3.alloc o).cell? ⟨w.heap.size+1+1,0,none⟩=some (.slice none 0 0):=fun o=>(alloc_cell w3 o _ 0 (by omega)).trans r2
    have q2a:∀ o,(w3.alloc o).frozen? ⟨w.heap.size+1+1,0,none⟩=false:=fun o=>(alloc_frozen w3 o _ 0 (by omega)).trans q2
    have r3a:∀ o,(w3.alloc o).cell? ⟨w.heap.size+1+1+1,0,none⟩=some .nilIface:=fun o=>(alloc_cell w3 o _ 0 (by omega)).trans r3
    have q3a:∀ o,(w3.alloc o).frozen? ⟨w.heap.size+1+1+1,0,none⟩=false:=fun o=>(alloc_frozen w3 o _ 0 (by omega)).trans q3
    refine wpAnyH_ready (rs:=[5,7]) (by kernel_rfl) (by simp) (AllReadyH.cons rfl (fun K hK=>?_) (AllReadyH.cons rfl (fun K hK=>?_) AllReadyH.nil))
    ·go_simp
     refine hK.out _ _ ((alloc_cell w3 _ _ _ (by omega)).trans c00') (fun hQ1=>?_)
     clear hK K
     refine tkj 6 rfl hQ1 ?_
     refine tkn ?_
     refine tkr 7 rfl fun K hK=>?_
     go_simp
     refine hK.out _ _ ((World.cell?_setCell_other _ _ _ _ (by simp)).trans hQ1) (fun hQ2=>?_)
     clear hK K
     refine tkr 8 rfl fun K hK=>?_
     go_simp
     refine hK.out _ _ ((World.cell?_setCell_other _ _ _ _ (by simp)).trans hQ2) (fun hQ3=>?_)
     clear hK K
     refine wpAnyH_done (by kernel_rfl) (OnlyN.go ?_) _
     gi_wp2
     have hx:=hJ3.badA name c a1
     exact⟨hkf.trans (((keeps_below hkb).trans hx.2).from _),rfl,c,HF.out,hx.1⟩
    go_simp
    refine hK.out _ _ ((World.cell?_setCell_other _ _ _ _ (by simp)).trans c00') (fun hQ1=>?_)
    clear hK K
    have hs1:(w3.setCell ⟨w.heap.size+1+1,0,none⟩ (.slice none 0 0)).heap.size=w3.heap.size:=by simp[World.setCell]
    have r3b:∀ o,((w3.setCell ⟨w.heap.size+1+1,0,none⟩ (.slice none 0 0)).alloc o).cell? ⟨w.heap.size+1+1+1,0,none⟩=some .nilIface:=fun o=>(alloc_cell _ o _ 0 (by rw[hs1];omega)).trans ((World.cell?_setCell_other _ _ _ _ (by simp)).trans r3)
    have q3b:∀ o,((w3.setCell ⟨w.heap.size+1+1,0,none⟩ (.slice none 0 0)).alloc o).frozen? ⟨w.heap.size+1+1+1,0,none⟩=false:=fun o=>(alloc_frozen _ o _ 0 (by rw[hs1];omega)).trans ((World.frozen?_setCell _ _ _ _).trans q3)
    refine tkr 5 rfl fun K hK=>?_
    go_simp
    refine hK.out _ _ ((alloc_cell _ _ _ _ (by rw[hs1];omega)).trans hQ1) (fun hQ2=>?_)
    clear hK K
    refine tkj 6 rfl hQ2 ?_
    refine tkn ?_
    refine tkr 8 rfl fun K hK=>?_
    go_simp
    refine hK.out _ _ ((World.cell?_setCell_other _ _ _ _ (by simp)).trans hQ2) (fun hQ3=>?_)
    clear hK K
    refine wpAnyH_done (by kernel_rfl) (OnlyN.go ?_) _
    gi_wp2
    have hx:=hJ3.badB name c a1
    exact⟨hkf.trans (((keeps_below hkb).trans hx.2).from _),rfl,c,HF.out,hx.1⟩
   obtain rfl:c=ts.length:=by omega
   have HF:Hid (packF rs ts hs ((pre++[x]).map Subtype.val)=.inl (T++L)):=by show _=_;rw[HPF.out,HPS.out,HL.out]
   clear hLc
   gi_wp2
   exact⟨hkf,hkc,T++L,HF.out,by rw[HPL.out,List.length_append,packK_len rows ts hs _ L HL.out];omega,hJ⟩
 case done=>
  rintro D ys W hD hys ⟨T,h1,h2,h3⟩ hK
  rw[hys]at h1
  obtain⟨sv,hsv,hown⟩:=h3.own
  obtain⟨a,cap,hse,hcs⟩:=hown.cells
  rw[List.length_map]at hse
  subst hse
  have c4:=hsv.cell
  have c2:=h3.b2.cell
  have f2:=h3.b2.frozen
  have c3:=h3.b3.cell
  have f3:=h3.b3.frozen
  have HF:Hid (packF rs ts hs (cks rs.length g (ckN rs.length g))=.inl T):=h1
  have HI:=h3
  replace HI:Hid (PackI w #[.string name,.slice at_ ts.length ct,.slice ar rs.length cr] (.slice ah hs.length ch) W T):=HI
  clear h1 h3 hys
  gi_wp2
  have hK1:=((KeepsOthers.setCell W ⟨w.heap.size+1+1,0,none⟩ (.slice a T.length cap)).trans (KeepsOthers.setCell _ ⟨w.heap.size+1+1+1,0,none⟩ .nilIface)).same D _ hK rfl
  refine⟨by simp,.inl ⟨_,_,rfl,run_takeDeferred hK1,?_⟩⟩
  have g2:((W.setCell ⟨w.heap.size+1+1,0,none⟩ (.slice a T.length cap)).setCell ⟨w.heap.size+1+1+1,0,none⟩ .nilIface).cell? ⟨w.heap.size+1+1,0,none⟩=some (.slice a T.length cap):=by
   rw[World.cell?_setCell_other _ _ _ _ (by simp)]
   exact World.cell?_setCell_same' _ _ _ (by rw[c2];rfl)
  have g3:((W.setCell ⟨w.heap.size+1+1,0,none⟩ (.slice a T.length cap)).setCell ⟨w.heap.size+1+1+1,0,none⟩ .nilIface).cell? ⟨w.heap.size+1+1+1,0,none⟩=some .nilIface:=
   World.cell?_setCell_same' _ _ _ (by rw[World.cell?_setCell_other _ _ _ _ (by simp),c3];rfl)
  have hrD:∀ r,some D=some r→∃ o:Obj,((W.setCell ⟨w.heap.size+1+1,0,none⟩ (.slice a T.length cap)).setCell ⟨w.heap.size+1+1+1,0,none⟩ .nilIface).heap[r]?=some o∧o.isCells=false:=fun r e=>by cases e;exact⟨_,hK1,rfl⟩
  have k2:=cell_kept g2 (grownBy_putObj' _ D (.deferred none)) hrD
  have k3:=cell_kept g3 (grownBy_putObj' _ D (.deferred none)) hrD
  refine⟨.tuple #[.slice a T.length cap,.nilIface],by simp[results,Tryz.f69,go_sem,k2,k3],?_⟩
  rw[HF.out]
  have hbe:Below w.heap.size w ((W.setCell ⟨w.heap.size+1+1,0,none⟩ (.slice a T.length cap)).setCell ⟨w.heap.size+1+1+1,0,none⟩ .nilIface):=(HI.out.below.setCell (p:=⟨w.heap.size+1+1,0,none⟩) (by simp;omega) _).setCell (p:=⟨w.heap.size+1+1+1,0,none⟩) (by simp;omega) _
  have how:OwnC ((W.setCell ⟨w.heap.size+1+1,0,none⟩ (.slice a T.length cap)).setCell ⟨w.heap.size+1+1+1,0,none⟩ .nilIface) (w.heap.size+7) 9 (.slice a T.length cap) (T.map tv):=own_of_block hown fun g' hg'=>by
   have:=(owns_block hown hg').1
   rw[Below.heap_setCell _ _ _ _ (by simp;omega),Below.heap_setCell _ _ _ _ (by simp;omega)]
  have how2:=kept_own how (grownBy_putObj' _ D (.deferred none)) hrD
  refine⟨hbe.trans (belowK_b (w:=w) (Nat.le_refl _) _ D _ _ (by have:=HS.out;omega) hK1 rfl rfl),a,cap,rfl,(own_slice how2).1,fun b o hb=>?_⟩
  have:=(owns_block how2 ((own_slice how2).2 b o hb)).1
  omega
 case stop=>
  rintro D c pre W hD ⟨k,hk,hpre⟩ ⟨rfl,col,h1,h3⟩ hK
  rw[hpre]at h1
  obtain⟨zs,hzs⟩:=cks_prefix rs.length g k _ hk
  have HF:Hid (packF rs ts hs (cks rs.length g (ckN rs.length g))=.inr col):=by show _=_;rw[hzs];exact packF_bad rs ts hs _ _ _ h1
  obtain⟨b,hb3,hbl,cb1,cb2⟩:=h3.b3
  have c2:=h3.b2.cell
  have c3:=hb3.cell
  have hbe:=h3.below
  clear h1 h3 hpre hzs
  gi_wp2
  have hrD:∀ r,some D=some r→∃ o:Obj,W.heap[r]?=some o∧o.isCells=false:=fun r e=>by cases e;exact⟨_,hK,rfl⟩
  refine⟨by simp,.inl ⟨_,_,rfl,run_takeDeferred hK,?_⟩⟩
  have k2:=cell_kept c2 (grownBy_putObj' _ D (.deferred none)) hrD
  have k3:=cell_kept c3 (grownBy_putObj' _ D (.deferred none)) hrD
  refine⟨.tuple #[.slice none 0 0,.iface 158 (.pointer (some ⟨b,0,none⟩))],by simp[results,Tryz.f69,go_sem,k2,k3],?_⟩
  rw[HF.out]
  exact⟨hbe.trans (belowK_b (w:=w) (Nat.le_refl _) _ D _ _ (by have:=HS.out;omega) hK rfl rfl),b,rfl,hbl,.tab b a1 col (cell_kept cb1 (grownBy_putObj' _ D (.deferred none)) hrD) (cell_kept cb2 (grownBy_putObj' _ D (.deferred none)) hrD)⟩
end Go.Proofs.YtkgibdjakgmmcaaGreatDoor
