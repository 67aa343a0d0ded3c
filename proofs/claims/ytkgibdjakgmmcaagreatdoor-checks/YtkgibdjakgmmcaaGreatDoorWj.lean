/- A table as the law hands it over: new memory, with marks in its spare room. -/
import Derived.Test.YtkgibdjakgmmcaaGreatDoorWi
import Derived.Test.YtkgibdjakgmmcaaGreatDoorLawP
set_option maxHeartbeats 4000000
set_option maxRecDepth 100000
namespace Go.Proofs.YtkgibdjakgmmcaaGreatDoor
open Go.RowKit Go.Shelf
attribute [local go_sem] Oper.semAt_some
theorem run_copy_W (w:World)(T e:TypeId)(z:Nat)(hu:Tryz.prog.underlying T=some (.slice e))(hsz:(Tryz.prog.info? e).map (fun i=>i.size)=some z)(g dLen dCap:Nat)(a:Option Addr)(n cap:Nat)(cs:List Value)(hcs:cs.length=n*z)(hsrc:n=0∨∃ b o,a=some ⟨b,o,none⟩∧∀ (j:Nat) u,cs[j]?=some u→w.cell? ((⟨b,o,none⟩:Addr).add j)=some u)(h1:∀ u∈cs,u.oneCell'=true)(cur:Array Value)(hg:w.heap[g]?=some (.cells cur e (0,0)))(hd:n≤dLen)(hfit:cs.length≤cur.size) :
  (Builtin.copy_ #[T,T] 3 #[.slice (some ⟨g,0,none⟩) dLen dCap,.slice a n cap]).run Tryz.prog w=.ok (goInt n) (w.setRow g (cs++cur.toList.drop cs.length).toArray):=by
 rcases hsrc with h0|⟨b,o,rfl,hsrc⟩
 ·subst h0
  have hc0:cs=[]:=List.length_eq_zero_iff.1 (by omega)
  subst hc0
  have hst:=run_storeCells_at Tryz.prog g 0 e [] 0 cur w hg (by simp) (by simp)
  simp at hst
  cases hq:Tryz.prog.info? e with
  |none=>rw[hq]at hsz;cases hsz
  |some i=>
   cases a with
   |none=>simp[Builtin.copy_,run_underlying hu,Builtin.lenOf,Builtin.firstCells,sizeOf,typeInfo,hq,hst]
   |some a=>
    have hl:=run_loadCells_list (P:=Tryz.prog) w a [] (by intro j v h;simp at h)
    rw[List.length_nil]at hl
    simp[Builtin.copy_,run_underlying hu,Builtin.lenOf,Builtin.firstCells,sizeOf,typeInfo,hq,hl,hst]
 exact run_copy_Z w T e z hu hsz g dLen dCap b o n cap cs hcs hsrc h1 cur hg hd hfit
theorem run_make_W (T e:TypeId)(zv:Value)(z by1:Nat)(hu:Tryz.prog.underlying T=some (.slice e))(hinfo:(Tryz.prog.info? e).map (fun i=>(i.zero,i.size,i.bytes))=some (some zv,z,by1))(n:Nat)(hn:(n+1)*by1≤281474976710656)(hn2:n≤281474976710656)(W:World) :
  (Instr.makeSlice T (.int .i64 ((n:Int)+1)) (.int .i64 ((n:Int)+1))).run Tryz.prog W=.ok (.slice (some ⟨W.heap.size,0,none⟩) (n+1) (n+1)) (W.alloc (.cells (madeCells zv.cells ((n+1)*z)) e)):=by
 obtain⟨i,hi,hz,hs3,hby⟩:=info_parts hinfo
 have hr:=run_make (P:=Tryz.prog) W T e i _ hu hi hz .i64 .i64 ((n:Int)+1) ((n:Int)+1) (by omega) (Int.le_refl _) (by
  have e1:(by1:Int)*((n:Int)+1)=(((n+1)*by1:Nat):Int):=by rw[Int.natCast_mul,Int.mul_comm];rfl
  rw[hby,e1]
  omega) (by omega)
 have e:((n:Int)+1).toNat=n+1:=by omega
 rw[e,hs3]at hr
 exact hr
theorem made_one (z:Value)(n:Nat):(madeCells #[z] n).toList=List.replicate n z:=by
 apply List.ext_getElem?
 intro i
 rw[List.getElem?_replicate]
 by_cases hi:i<n
 ·simp[madeCells,hi,Nat.mod_one]
 simp[madeCells,hi]
theorem ints_src {w:World}{a:Option Addr}{ts:List Int}(h:Ints w a ts):ts.length=0∨∃ b o,a=some ⟨b,o,none⟩∧∀ (j:Nat) u,(ts.map iv)[j]?=some u→w.cell? ((⟨b,o,none⟩:Addr).add j)=some u:=by
 rcases h with h|⟨b,o,rfl,_,h⟩
 ·left
  have:=congrArg List.length h
  simpa using this
 refine .inr ⟨b,o,rfl,fun j u hj=>?_⟩
 have:=h j u hj
 cases j with
 |zero=>exact this
 |succ j=>simpa [Addr.add] using this
theorem cell_of_list {w:World}{g k:Nat}{l:List Value}{e:TypeId}{v:Value}(h:w.heap[g]?=some (.cells l.toArray e (0,0)))(hk:l[k]?=some v):w.cell? ⟨g,k,none⟩=some v:=by
 have hk':l.toArray[k]?=some v:=by rw[List.getElem?_toArray];exact hk
 simp[World.cell?,h,hk]
structure Dx where
 name:ByteArray
 at_:Option Addr
 ct:Nat
 ts:List Int
 ar:Option Addr
 cr:Nat
 xs:List (Option Addr×Nat)
 rs:List (List V)
 ah:Option Addr
 ch:Nat
 hs:List Int
 g:Int
def Dx.val (d:Dx):Value:=.agg #[.string d.name,.slice d.at_ d.ts.length d.ct,.slice d.ar d.rs.length d.cr,.slice d.ah d.hs.length d.ch,.int .i64 d.g]
structure DxAt (w:World) (d:Dx):Prop where
 ln:d.name.size≤maxLen
 lt:d.ts.length≤17592186044415
 lr:d.rs.length≤5864062014805
 lrr:∀ r∈d.rs,r.length≤4398046511103
 lh:d.hs.length≤17592186044415
 cap:d.rs.length≤d.cr
 types:Ints w d.at_ d.ts
 hows:Ints w d.ah d.hs
 rows:RowsAt w d.ar d.xs d.rs
theorem DxAt.below {w w':World}{d:Dx}(h:DxAt w d)(hb:Below w.heap.size w w'):DxAt w' d:=
 ⟨h.ln,h.lt,h.lr,h.lrr,h.lh,h.cap,h.types.below hb,h.hows.below hb,h.rows.below hb⟩
theorem DxAt.arg {w:World}{d:Dx}(h:DxAt w d):ArgAt w d.name d.at_ d.ar d.ah d.cr d.ts d.hs d.xs d.rs:=
 ⟨h.ln,by have:=h.lt;unfold maxLen;omega,by have:=h.lr;unfold maxLen;omega,fun r hr=>by have:=h.lrr r hr;unfold maxLen;omega,by have:=h.lh;unfold maxLen;omega,h.cap,h.types,h.hows,h.rows⟩
def hdrs (bs:List Nat)(rs:List (List V)):List Value:=List.zipWith (fun b r=>Value.slice (some ⟨b,0,none⟩) r.length (r.length+2)) bs rs
structure OwnD (w:World) (d:Dx) (tb hb rb zb:Nat) (bs:List Nat):Prop where
 ty:w.heap[tb]?=some (.cells (d.ts.map iv++[iv (-7)]).toArray 3 (0,0))
 hw:w.heap[hb]?=some (.cells (d.hs.map iv++[iv (-7)]).toArray 3 (0,0))
 rw:w.heap[rb]?=some (.cells (hdrs bs d.rs++[Value.slice (some ⟨zb,0,none⟩) 1 1]).toArray 73 (0,0))
 zz:VAt w zb 0 markV
 len:bs.length=d.rs.length
 row:∀ (i:Nat) b r,bs[i]?=some b→d.rs[i]?=some r→RowT w b (r++[markV]++[markV]) []
 ord:tb<hb∧hb<rb∧rb<zb∧zb<w.heap.size∧(∀ b∈bs,rb<b∧b<zb)∧bs.Pairwise (·<·)
theorem OwnD.of_block {w w':World}{d:Dx}{tb hb rb zb:Nat}{bs:List Nat}(h:OwnD w d tb hb rb zb bs)(hs:w.heap.size≤w'.heap.size)(hk:∀ k,tb≤k→k≤zb→w'.heap[k]?=w.heap[k]?):OwnD w' d tb hb rb zb bs:=by
 obtain⟨o1,o2,o3,o4,o5,o6⟩:=h.ord
 refine⟨(hk tb (by omega) (by omega)).trans h.ty,(hk hb (by omega) (by omega)).trans h.hw,(hk rb (by omega) (by omega)).trans h.rw,h.zz.of_block (hk zb (by omega) (by omega)),h.len,fun i b r hb' hr=>(h.row i b r hb' hr).of_block ?_,o1,o2,o3,by omega,o5,o6⟩
 have:=o5 b (List.mem_of_getElem? hb')
 exact hk b (by omega) (by omega)
theorem lOwn_any (d:Dx)(w:World)(h:DxAt w d) :
  Calls Tryz.prog 30 #[d.val] w fun e w'=>Below w.heap.size w w'∧∃ tb hb rb zb bs,e=.returned (.agg #[.string d.name,.slice (some ⟨tb,0,none⟩) d.ts.length (d.ts.length+1),.slice (some ⟨rb,0,none⟩) d.rs.length (d.rs.length+1),.slice (some ⟨hb,0,none⟩) d.hs.length (d.hs.length+1),.int .i64 d.g])∧OwnD w' d tb hb rb zb bs∧w.heap.size≤tb:=by
 have HD:Hid (DxAt w d):=h
 have l1:=h.lt
 have l2:=h.lr
 have l3:=h.lh
 unfold Dx.val
 have hm1:=run_make_W 29 3 _ 1 8 (by kernel_rfl) info_int d.ts.length (by omega) (by omega)
 have hm2:=run_make_W 29 3 _ 1 8 (by kernel_rfl) info_int d.hs.length (by omega) (by omega)
 have hm3:=run_make_W 38 73 _ 1 24 (by kernel_rfl) info_Row d.rs.length (by omega) (by omega)
 simp only[Nat.mul_one,Value.cells]at hm1 hm2 hm3
 clear h
 go_enter Tryz.func30,Tryz.ntmps30
 go_upto_region 2 with fail
 obtain⟨W,hW⟩:∃ W,W=((w.alloc (.cells #[.string d.name,.slice d.at_ d.ts.length d.ct,.slice d.ar d.rs.length d.cr,.slice d.ah d.hs.length d.ch,.int .i64 d.g] 42)).alloc (.cells #[.string ⟨#[]⟩,.slice none 0 0,.slice none 0 0,.slice none 0 0,.int .i64 0] 42)).alloc (.cells #[.string d.name,.slice none 0 0,.slice none 0 0] 40):=⟨_,rfl⟩
 rw[←hW]
 have HW:Hid (Below w.heap.size w W∧W.heap[w.heap.size]?=some (.cells #[.string d.name,.slice d.at_ d.ts.length d.ct,.slice d.ar d.rs.length d.cr,.slice d.ah d.hs.length d.ch,.int .i64 d.g] 42 (0,0))∧W.heap[w.heap.size+1]?=some (.cells #[.string ⟨#[]⟩,.slice none 0 0,.slice none 0 0,.slice none 0 0,.int .i64 0] 42 (0,0))∧W.heap[w.heap.size+2]?=some (.cells #[.string d.name,.slice none 0 0,.slice none 0 0] 40 (0,0))):=by
  rw[hW]
  refine⟨(((Below.refl _ w).alloc (Nat.le_refl _) _).alloc (by simp) _).alloc (by simp;omega) _,?_,?_,?_⟩
  ·rw[Below.heap_alloc _ _ _ (by simp only[World.size_alloc];omega),Below.heap_alloc _ _ _ (by simp only[World.size_alloc];omega)]
   exact heap_alloc_new _ _
  ·rw[Below.heap_alloc _ _ _ (by simp only[World.size_alloc];omega)]
   exact new_at _ _ _ (by simp only[World.size_alloc])
  exact new_at _ _ _ (by simp only[World.size_alloc])
 have hWz:W.heap.size=w.heap.size+3:=by rw[hW];simp
 clear hW
 have c0:W.cell? ⟨w.heap.size,0,none⟩=some (.string d.name):=by simp[World.cell?,HW.out.2.1]
 have c1:W.cell? ⟨w.heap.size,1,none⟩=some (.slice d.at_ d.ts.length d.ct):=by simp[World.cell?,HW.out.2.1]
 have c2:W.cell? ⟨w.heap.size,2,none⟩=some (.slice d.ar d.rs.length d.cr):=by simp[World.cell?,HW.out.2.1]
 have c3:W.cell? ⟨w.heap.size,3,none⟩=some (.slice d.ah d.hs.length d.ch):=by simp[World.cell?,HW.out.2.1]
 have c4:W.cell? ⟨w.heap.size,4,none⟩=some (.int .i64 d.g):=by simp[World.cell?,HW.out.2.1]
 go_upto_region 3 with fail
 clear c0 c1 c2 c3 c4
 obtain⟨W1,hW1⟩:∃ W1,W1=W.alloc (.cells (madeCells #[.int .i64 0] (d.ts.length+1)) 3):=⟨_,rfl⟩
 rw[←hW1]
 have H1:Hid (W1.heap.size=w.heap.size+4∧Below w.heap.size w W1∧(∀ k,k<w.heap.size+3→W1.heap[k]?=W.heap[k]?)∧W1.heap[w.heap.size+3]?=some (.cells (madeCells #[.int .i64 0] (d.ts.length+1)) 3 (0,0))):=by
  rw[hW1]
  exact⟨by rw[World.size_alloc,hWz],below_alloc HW.out.1 _,fun k hk=>Below.heap_alloc _ _ _ (by omega),new_at _ _ _ hWz.symm⟩
 clear hW1 hWz hm1
 have hd0:W1.heap[w.heap.size]?=some (.cells #[.string d.name,.slice d.at_ d.ts.length d.ct,.slice d.ar d.rs.length d.cr,.slice d.ah d.hs.length d.ch,.int .i64 d.g] 42 (0,0)):=(H1.out.2.2.1 _ (by omega)).trans HW.out.2.1
 have c0:W1.cell? ⟨w.heap.size,0,none⟩=some (.string d.name):=by simp[World.cell?,hd0]
 have c1:W1.cell? ⟨w.heap.size,1,none⟩=some (.slice d.at_ d.ts.length d.ct):=by simp[World.cell?,hd0]
 have c2:W1.cell? ⟨w.heap.size,2,none⟩=some (.slice d.ar d.rs.length d.cr):=by simp[World.cell?,hd0]
 have c3:W1.cell? ⟨w.heap.size,3,none⟩=some (.slice d.ah d.hs.length d.ch):=by simp[World.cell?,hd0]
 have c4:W1.cell? ⟨w.heap.size,4,none⟩=some (.int .i64 d.g):=by simp[World.cell?,hd0]
 have hcp:=run_copy_W W1 29 3 1 (by kernel_rfl) (by kernel_rfl) (w.heap.size+3) (d.ts.length+1) (d.ts.length+1) d.at_ d.ts.length d.ct (d.ts.map iv) (by simp) (ints_src (HD.out.types.below H1.out.2.1)) (fun u hu=>by obtain⟨x,_,rfl⟩:=List.mem_map.1 hu;rfl) _ H1.out.2.2.2 (by omega) (by rw[size_madeCells,List.length_map];omega)
 rw[made_one,List.length_map,List.drop_replicate,show d.ts.length+1-d.ts.length=1 by omega]at hcp
 obtain⟨W2,hW2⟩:∃ W2,W2=W1.setRow (w.heap.size+3) (d.ts.map iv++List.replicate 1 (Value.int .i64 0)).toArray:=⟨_,rfl⟩
 rw[←hW2]at hcp
 have H2:Hid (Below w.heap.size w W2∧(∀ k,k<w.heap.size+3→W2.heap[k]?=W.heap[k]?)∧W2.heap[w.heap.size+3]?=some (.cells (d.ts.map iv++List.replicate 1 (Value.int .i64 0)).toArray 3 (0,0))):=by
  rw[hW2]
  refine⟨H1.out.2.1.trans ⟨rfl,rfl,rfl,by simp[World.setRow],fun k hk=>setRow_other _ _ _ _ (by omega)⟩,fun k hk=>?_,setRow_heap _ _ _ _ _ _ H1.out.2.2.2⟩
  rw[setRow_other _ _ _ _ (by omega)]
  exact H1.out.2.2.1 k hk
 have hWz:W2.heap.size=w.heap.size+4:=by rw[hW2];simp[World.setRow];exact H1.out.1
 clear hW2 H1
 go_upto_region 4 with fail
 clear hcp hd0
 clear c0 c1 c2 c3 c4
 have hd0:W2.heap[w.heap.size]?=some (.cells #[.string d.name,.slice d.at_ d.ts.length d.ct,.slice d.ar d.rs.length d.cr,.slice d.ah d.hs.length d.ch,.int .i64 d.g] 42 (0,0)):=(H2.out.2.1 _ (by omega)).trans HW.out.2.1
 have c0:W2.cell? ⟨w.heap.size,0,none⟩=some (.string d.name):=by simp[World.cell?,hd0]
 have c1:W2.cell? ⟨w.heap.size,1,none⟩=some (.slice d.at_ d.ts.length d.ct):=by simp[World.cell?,hd0]
 have c2:W2.cell? ⟨w.heap.size,2,none⟩=some (.slice d.ar d.rs.length d.cr):=by simp[World.cell?,hd0]
 have c3:W2.cell? ⟨w.heap.size,3,none⟩=some (.slice d.ah d.hs.length d.ch):=by simp[World.cell?,hd0]
 have c4:W2.cell? ⟨w.heap.size,4,none⟩=some (.int .i64 d.g):=by simp[World.cell?,hd0]
 go_upto_region 5 with fail
 clear hd0
 clear c0 c1 c2 c3 c4
 obtain⟨W3,hW3⟩:∃ W3,W3=W2.alloc (.cells (madeCells #[.int .i64 0] (d.hs.length+1)) 3):=⟨_,rfl⟩
 rw[←hW3]
 have H3:Hid (W3.heap.size=w.heap.size+5∧Below w.heap.size w W3∧(∀ k,k<w.heap.size+4→W3.heap[k]?=W2.heap[k]?)∧W3.heap[w.heap.size+4]?=some (.cells (madeCells #[.int .i64 0] (d.hs.length+1)) 3 (0,0))):=by
  rw[hW3]
  exact⟨by rw[World.size_alloc,hWz],below_alloc H2.out.1 _,fun k hk=>Below.heap_alloc _ _ _ (by omega),new_at _ _ _ hWz.symm⟩
 clear hW3 hWz hm2
 have hd0:W3.heap[w.heap.size]?=some (.cells #[.string d.name,.slice d.at_ d.ts.length d.ct,.slice d.ar d.rs.length d.cr,.slice d.ah d.hs.length d.ch,.int .i64 d.g] 42 (0,0)):=(H3.out.2.2.1 _ (by omega)).trans ((H2.out.2.1 _ (by omega)).trans HW.out.2.1)
 have c0:W3.cell? ⟨w.heap.size,0,none⟩=some (.string d.name):=by simp[World.cell?,hd0]
 have c1:W3.cell? ⟨w.heap.size,1,none⟩=some (.slice d.at_ d.ts.length d.ct):=by simp[World.cell?,hd0]
 have c2:W3.cell? ⟨w.heap.size,2,none⟩=some (.slice d.ar d.rs.length d.cr):=by simp[World.cell?,hd0]
 have c3:W3.cell? ⟨w.heap.size,3,none⟩=some (.slice d.ah d.hs.length d.ch):=by simp[World.cell?,hd0]
 have c4:W3.cell? ⟨w.heap.size,4,none⟩=some (.int .i64 d.g):=by simp[World.cell?,hd0]
 have hcp:=run_copy_W W3 29 3 1 (by kernel_rfl) (by kernel_rfl) (w.heap.size+4) (d.hs.length+1) (d.hs.length+1) d.ah d.hs.length d.ch (d.hs.map iv) (by simp) (ints_src (HD.out.hows.below H3.out.2.1)) (fun u hu=>by obtain⟨x,_,rfl⟩:=List.mem_map.1 hu;rfl) _ H3.out.2.2.2 (by omega) (by rw[size_madeCells,List.length_map];omega)
 rw[made_one,List.length_map,List.drop_replicate,show d.hs.length+1-d.hs.length=1 by omega]at hcp
 obtain⟨W4,hW4⟩:∃ W4,W4=W3.setRow (w.heap.size+4) (d.hs.map iv++List.replicate 1 (Value.int .i64 0)).toArray:=⟨_,rfl⟩
 rw[←hW4]at hcp
 have H4:Hid (Below w.heap.size w W4∧(∀ k,k<w.heap.size+3→W4.heap[k]?=W.heap[k]?)∧W4.heap[w.heap.size+3]?=some (.cells (d.ts.map iv++List.replicate 1 (Value.int .i64 0)).toArray 3 (0,0))∧W4.heap[w.heap.size+4]?=some (.cells (d.hs.map iv++List.replicate 1 (Value.int .i64 0)).toArray 3 (0,0))∧W4.heap.size=w.heap.size+5):=by
  rw[hW4]
  refine⟨H3.out.2.1.trans ⟨rfl,rfl,rfl,by simp[World.setRow],fun k hk=>setRow_other _ _ _ _ (by omega)⟩,fun k hk=>?_,?_,setRow_heap _ _ _ _ _ _ H3.out.2.2.2,by simp[World.setRow];exact H3.out.1⟩
  ·rw[setRow_other _ _ _ _ (by omega),H3.out.2.2.1 k (by omega)]
   exact H2.out.2.1 k hk
  rw[setRow_other _ _ _ _ (by omega),H3.out.2.2.1 _ (by omega)]
  exact H2.out.2.2
 clear hW4 H2 H3
 go_upto_region 6 with fail
 clear hcp hd0
 clear c0 c1 c2 c3 c4
 have hd0:W4.heap[w.heap.size]?=some (.cells #[.string d.name,.slice d.at_ d.ts.length d.ct,.slice d.ar d.rs.length d.cr,.slice d.ah d.hs.length d.ch,.int .i64 d.g] 42 (0,0)):=(H4.out.2.1 _ (by omega)).trans HW.out.2.1
 have c0:W4.cell? ⟨w.heap.size,0,none⟩=some (.string d.name):=by simp[World.cell?,hd0]
 have c1:W4.cell? ⟨w.heap.size,1,none⟩=some (.slice d.at_ d.ts.length d.ct):=by simp[World.cell?,hd0]
 have c2:W4.cell? ⟨w.heap.size,2,none⟩=some (.slice d.ar d.rs.length d.cr):=by simp[World.cell?,hd0]
 have c3:W4.cell? ⟨w.heap.size,3,none⟩=some (.slice d.ah d.hs.length d.ch):=by simp[World.cell?,hd0]
 have c4:W4.cell? ⟨w.heap.size,4,none⟩=some (.int .i64 d.g):=by simp[World.cell?,hd0]
 have e1:W4.cell? ⟨w.heap.size+3,d.ts.length,none⟩=some (.int .i64 0):=by simp[World.cell?,H4.out.2.2.1]
 have z1:W4.frozen? ⟨w.heap.size+3,d.ts.length,none⟩=false:=by simp[World.frozen?,H4.out.2.2.1]
 have i1:(0:Int)≤(d.ts.length:Int):=by omega
 have i2:(d.ts.length:Int)<(d.ts.length:Int)+1:=by omega
 go_upto_region 7 with fail
 clear e1 z1 i1 i2 hd0
 clear c0 c1 c2 c3 c4
 obtain⟨W5,hW5⟩:∃ W5,W5=W4.setCell ⟨w.heap.size+3,d.ts.length,none⟩ (.int .i64 (-7)):=⟨_,rfl⟩
 rw[←hW5]
 have H5:Hid (Below w.heap.size w W5∧(∀ k,k<w.heap.size+3→W5.heap[k]?=W.heap[k]?)∧W5.heap[w.heap.size+3]?=some (.cells (d.ts.map iv++[iv (-7)]).toArray 3 (0,0))∧W5.heap[w.heap.size+4]?=some (.cells (d.hs.map iv++List.replicate 1 (Value.int .i64 0)).toArray 3 (0,0))∧W5.heap.size=w.heap.size+5):=by
  rw[hW5]
  refine⟨H4.out.1.setCell (p:=⟨w.heap.size+3,d.ts.length,none⟩) (by show w.heap.size≤w.heap.size+3;omega) _,fun k hk=>(heap_setCell_other _ _ _ _ (by show k≠w.heap.size+3;omega)).trans (H4.out.2.1 k hk),?_,(heap_setCell_other _ _ _ _ (by show w.heap.size+4≠w.heap.size+3;omega)).trans H4.out.2.2.2.1,by simp[World.setCell];exact H4.out.2.2.2.2⟩
  rw[heap_setCell_same _ _ _ _ _ _ H4.out.2.2.1]
  simp[iv]
 clear hW5 H4
 have hd0:W5.heap[w.heap.size]?=some (.cells #[.string d.name,.slice d.at_ d.ts.length d.ct,.slice d.ar d.rs.length d.cr,.slice d.ah d.hs.length d.ch,.int .i64 d.g] 42 (0,0)):=(H5.out.2.1 _ (by omega)).trans HW.out.2.1
 have c0:W5.cell? ⟨w.heap.size,0,none⟩=some (.string d.name):=by simp[World.cell?,hd0]
 have c1:W5.cell? ⟨w.heap.size,1,none⟩=some (.slice d.at_ d.ts.length d.ct):=by simp[World.cell?,hd0]
 have c2:W5.cell? ⟨w.heap.size,2,none⟩=some (.slice d.ar d.rs.length d.cr):=by simp[World.cell?,hd0]
 have c3:W5.cell? ⟨w.heap.size,3,none⟩=some (.slice d.ah d.hs.length d.ch):=by simp[World.cell?,hd0]
 have c4:W5.cell? ⟨w.heap.size,4,none⟩=some (.int .i64 d.g):=by simp[World.cell?,hd0]
 have e1:W5.cell? ⟨w.heap.size+4,d.hs.length,none⟩=some (.int .i64 0):=by simp[World.cell?,H5.out.2.2.2.1]
 have z1:W5.frozen? ⟨w.heap.size+4,d.hs.length,none⟩=false:=by simp[World.frozen?,H5.out.2.2.2.1]
 have i1:(0:Int)≤(d.hs.length:Int):=by omega
 have i2:(d.hs.length:Int)<(d.hs.length:Int)+1:=by omega
 go_upto_region 8 with fail
 clear e1 z1 i1 i2 hd0
 clear c0 c1 c2 c3 c4
 obtain⟨W6,hW6⟩:∃ W6,W6=W5.setCell ⟨w.heap.size+4,d.hs.length,none⟩ (.int .i64 (-7)):=⟨_,rfl⟩
 rw[←hW6]
 have H6:Hid (Below w.heap.size w W6∧(∀ k,k<w.heap.size+3→W6.heap[k]?=W.heap[k]?)∧W6.heap[w.heap.size+3]?=some (.cells (d.ts.map iv++[iv (-7)]).toArray 3 (0,0))∧W6.heap[w.heap.size+4]?=some (.cells (d.hs.map iv++[iv (-7)]).toArray 3 (0,0))):=by
  rw[hW6]
  refine⟨H5.out.1.setCell (p:=⟨w.heap.size+4,d.hs.length,none⟩) (by show w.heap.size≤w.heap.size+4;omega) _,fun k hk=>(heap_setCell_other _ _ _ _ (by show k≠w.heap.size+4;omega)).trans (H5.out.2.1 k hk),(heap_setCell_other _ _ _ _ (by show w.heap.size+3≠w.heap.size+4;omega)).trans H5.out.2.2.1,?_⟩
  rw[heap_setCell_same _ _ _ _ _ _ H5.out.2.2.2.1]
  simp[iv]
 have hWz:W6.heap.size=w.heap.size+5:=by rw[hW6];simp[World.setCell];exact H5.out.2.2.2.2
 clear hW6 H5
 have hd0:W6.heap[w.heap.size]?=some (.cells #[.string d.name,.slice d.at_ d.ts.length d.ct,.slice d.ar d.rs.length d.cr,.slice d.ah d.hs.length d.ch,.int .i64 d.g] 42 (0,0)):=(H6.out.2.1 _ (by omega)).trans HW.out.2.1
 have c0:W6.cell? ⟨w.heap.size,0,none⟩=some (.string d.name):=by simp[World.cell?,hd0]
 have c1:W6.cell? ⟨w.heap.size,1,none⟩=some (.slice d.at_ d.ts.length d.ct):=by simp[World.cell?,hd0]
 have c2:W6.cell? ⟨w.heap.size,2,none⟩=some (.slice d.ar d.rs.length d.cr):=by simp[World.cell?,hd0]
 have c3:W6.cell? ⟨w.heap.size,3,none⟩=some (.slice d.ah d.hs.length d.ch):=by simp[World.cell?,hd0]
 have c4:W6.cell? ⟨w.heap.size,4,none⟩=some (.int .i64 d.g):=by simp[World.cell?,hd0]
 go_upto_region 10 with fail
 clear hd0
 clear c0 c1 c2 c3 c4
 obtain⟨W7,hW7⟩:∃ W7,W7=W6.alloc (.cells (madeCells #[.slice none 0 0] (d.rs.length+1)) 73):=⟨_,rfl⟩
 rw[←hW7]
 have H7:Hid (W7.heap.size=w.heap.size+6∧Below w.heap.size w W7∧(∀ k,k<w.heap.size+5→W7.heap[k]?=W6.heap[k]?)∧W7.heap[w.heap.size+5]?=some (.cells (hdrs [] d.rs++List.replicate (d.rs.length+1-0) (Value.slice none 0 0)).toArray 73 (0,0))):=by
  rw[hW7]
  refine⟨by rw[World.size_alloc,hWz],below_alloc H6.out.1 _,fun k hk=>Below.heap_alloc _ _ _ (by omega),?_⟩
  rw[new_at _ _ _ hWz.symm]
  have:madeCells #[.slice none 0 0] (d.rs.length+1)=(hdrs [] d.rs++List.replicate (d.rs.length+1-0) (Value.slice none 0 0)).toArray:=by
   apply Array.toList_inj.1
   rw[made_one]
   simp[hdrs]
  rw[this]
 clear hW7 hWz hm3
 go_loopw [7] (fun iv' wr=>∃ (j:Nat) (bs:List Nat),iv'=.int .i64 (j:Int)∧j≤d.rs.length∧Hid (bs.length=j∧Below w.heap.size w wr∧w.heap.size+6≤wr.heap.size∧(∀ k,k<w.heap.size+5→wr.heap[k]?=W6.heap[k]?)∧wr.heap[w.heap.size+5]?=some (.cells (hdrs bs d.rs++List.replicate (d.rs.length+1-j) (Value.slice none 0 0)).toArray 73 (0,0))∧(∀ (i:Nat) b r,bs[i]?=some b→d.rs[i]?=some r→RowT wr b (r++[markV]++[markV]) [])∧(∀ b∈bs,w.heap.size+5<b∧b<wr.heap.size)∧bs.Pairwise (·<·))) (fun iv' _=>d.rs.length-(intOf iv').toNat)
 case atStart=>exact⟨0,[],rfl,Nat.zero_le _,rfl,H7.out.2.1,by have:=H7.out.1;omega,H7.out.2.2.1,H7.out.2.2.2,by simp,by simp,List.Pairwise.nil⟩
 case round=>
  clear H7
  obtain⟨j,bs,rfl,hj,HJ⟩:=hrel
  have hd0:wr.heap[w.heap.size]?=some (.cells #[.string d.name,.slice d.at_ d.ts.length d.ct,.slice d.ar d.rs.length d.cr,.slice d.ah d.hs.length d.ch,.int .i64 d.g] 42 (0,0)):=(HJ.out.2.2.2.1 _ (by omega)).trans ((H6.out.2.1 _ (by omega)).trans HW.out.2.1)
  have c0:wr.cell? ⟨w.heap.size,0,none⟩=some (.string d.name):=by simp[World.cell?,hd0]
  have c1:wr.cell? ⟨w.heap.size,1,none⟩=some (.slice d.at_ d.ts.length d.ct):=by simp[World.cell?,hd0]
  have c2:wr.cell? ⟨w.heap.size,2,none⟩=some (.slice d.ar d.rs.length d.cr):=by simp[World.cell?,hd0]
  have c3:wr.cell? ⟨w.heap.size,3,none⟩=some (.slice d.ah d.hs.length d.ch):=by simp[World.cell?,hd0]
  have c4:wr.cell? ⟨w.heap.size,4,none⟩=some (.int .i64 d.g):=by simp[World.cell?,hd0]
  by_cases hlt:j<d.rs.length
  ·obtain⟨b3,o3,ra,rc,har,_,x3,hv⟩:=(HD.out.rows.below HJ.out.2.1).at hlt
   rw[har]at c2
   clear har
   have HR:Hid (∃ r,d.rs[j]?=some r∧r=d.rs[j]):=⟨_,List.getElem?_eq_getElem hlt,rfl⟩
   have hrl:=HD.out.lrr _ (List.getElem_mem hlt)
   generalize hrj:d.rs[j]=r at x3 hv HR hrl
   have HRJ:Hid (d.rs[j]?=some r∧j<d.rs.length):=⟨by rw[List.getElem?_eq_getElem hlt,hrj],hlt⟩
   clear hrj HR
   have hha:=handed_any ra rc r wr hrl hv
   have i1:(0:Int)≤(j:Int):=by omega
   have i2:(j:Int)<(d.rs.length:Int):=by omega
   have i3:(j:Int)<(d.rs.length:Int)+1:=by omega
   have HRB:Hid (∀ X,Below wr.heap.size wr X→X.cell? ⟨w.heap.size+5,j,none⟩=some (.slice none 0 0)∧X.frozen? ⟨w.heap.size+5,j,none⟩=false):=fun X hX=>by
    have hb:X.heap[w.heap.size+5]?=_:=(hX.block _ (by have:=HJ.out.2.2.1;omega)).trans HJ.out.2.2.2.2.1
    have hl:(hdrs bs d.rs).length=j:=by unfold hdrs;rw[List.length_zipWith,HJ.out.1];omega
    have hcur:(hdrs bs d.rs++List.replicate (d.rs.length+1-j) (Value.slice none 0 0))[j]?=some (.slice none 0 0):=by rw[List.getElem?_append_right (by omega),hl,Nat.sub_self,List.getElem?_replicate,if_pos (by omega)]
    exact⟨cell_of_list hb hcur,by simp[World.frozen?,hb]⟩
   clear hlt hd0
   go_wp2_with (go_at_call 50;refine hha.mono ?_;rintro e w2 ⟨rfl,hr2,hb2⟩;have y1:=(HRB.out w2 hb2).1;have y2:=(HRB.out w2 hb2).2)
   go_roundw
   case rel=>
    obtain⟨k1,k2,k3,k4,k5,k6,k7,k8⟩:=HJ.out
    have hz:=hb2.size
    have hl:(hdrs bs d.rs).length=j:=by unfold hdrs;rw[List.length_zipWith,k1];omega
    have hoth:∀ k,k≠w.heap.size+5→(w2.setCell ⟨w.heap.size+5,j,none⟩ (.slice (some ⟨wr.heap.size,0,none⟩) r.length (r.length+2))).heap[k]?=w2.heap[k]?:=fun k hk=>heap_setCell_other _ _ _ _ hk
    refine⟨j+1,bs++[wr.heap.size],by go_num,HRJ.out.2,by rw[List.length_append,k1];rfl,?_,?_,fun k hk=>?_,?_,fun i b r' hb' hr'=>?_,fun b hb'=>?_,?_⟩
    ·exact(below_then k2 hb2).setCell (p:=⟨w.heap.size+5,j,none⟩) (by show w.heap.size≤w.heap.size+5;omega) _
    ·simp[World.setCell]
     omega
    ·rw[hoth k (by omega),hb2.block k (by omega)]
     exact k4 k hk
    ·rw[heap_setCell_same _ _ _ _ _ _ ((hb2.block _ (by omega)).trans k5)]
     have hs:hdrs (bs++[wr.heap.size]) d.rs=hdrs bs d.rs++[Value.slice (some ⟨wr.heap.size,0,none⟩) r.length (r.length+2)]:=by
      have hsp:d.rs=d.rs.take j++(r::d.rs.drop (j+1)):=by
       obtain⟨hlt,e⟩:=List.getElem?_eq_some_iff.1 HRJ.out.1
       rw[←e,List.getElem_cons_drop,List.take_append_drop]
      have h1:hdrs bs d.rs=hdrs bs (d.rs.take j):=by
       unfold hdrs
       conv=>lhs;rw[hsp]
       rw[←List.append_nil bs,List.zipWith_append (by rw[List.length_take,k1];omega)]
       simp
      rw[h1]
      unfold hdrs
      conv=>lhs;rw[hsp]
      rw[List.zipWith_append (by rw[List.length_take,k1];omega)]
      rfl
     rw[hs]
     have hrep:d.rs.length+1-j=(d.rs.length+1-(j+1))+1:=by omega
     rw[hrep,List.replicate_succ]
     simp only[List.setIfInBounds_toArray]
     rw[List.set_append_right _ _ (by omega),hl,Nat.sub_self,List.set_cons_zero]
     simp
    ·by_cases hi:i<bs.length
     ·rw[List.getElem?_append_left hi]at hb'
      have h7:=k7 b (List.mem_of_getElem? hb')
      exact(k6 i b r' hb' hr').of_block ((hoth b (by omega)).trans (hb2.block b h7.2))
     have hie:i=bs.length:=by
      have:=(List.getElem?_eq_some_iff.1 hb').1
      rw[List.length_append]at this
      simp only[List.length_cons,List.length_nil]at this
      omega
     subst hie
     rw[List.getElem?_append_right (Nat.le_refl _),Nat.sub_self]at hb'
     cases hb'
     rw[k1,HRJ.out.1]at hr'
     cases hr'
     exact hr2.of_block (hoth _ (by omega))
    ·have hzz:(w2.setCell ⟨w.heap.size+5,j,none⟩ (.slice (some ⟨wr.heap.size,0,none⟩) r.length (r.length+2))).heap.size=w2.heap.size:=by simp[World.setCell]
     rw[hzz]
     have hlt2:=hr2.lt
     rcases List.mem_append.1 hb' with hb'|hb'
     ·have:=k7 b hb'
      omega
     rw[List.mem_singleton]at hb'
     omega
    rw[List.pairwise_append]
    refine⟨k8,List.pairwise_singleton _ _,fun a ha b hb'=>?_⟩
    rw[List.mem_singleton]at hb'
    have:=k7 a ha
    omega
   case measure=>have:=HRJ.out.2;simp[intOf];omega
  have hje:j=d.rs.length:=by omega
  subst hje
  have x1:¬ ((d.rs.length:Int)<(d.rs.length:Int)):=by omega
  go_upto_region 13 with fail
  clear c0 c1 c3 c4 hd0 x1 hlt hj
  have i1:(0:Int)≤(d.rs.length:Int):=by omega
  have i2:(d.rs.length:Int)<(d.rs.length:Int)+1:=by omega
  refine wp_region_held_drew (S:=fun X=>X.cell? ⟨w.heap.size,2,none⟩=some (.slice d.ar d.rs.length d.cr)) (by kernel_rfl) (cell_drew c2) (fun hH=>?_)
  refine tkj 0 rfl hH ?_
  refine tkj 1 rfl hH ?_
  refine tkj 2 rfl hH ?_
  refine tkj 3 rfl hH ?_
  refine tkj 4 rfl hH ?_
  refine tkn ?_
  refine tkr 5 rfl fun K hK=>?_
  go_simp
  refine(mark_any 0 _).mono ?_
  rintro e X1 ⟨rfl,hb1⟩
  go_simp
  refine hK.out _ _ (cell_below hb1 hH) (fun hH=>?_)
  clear hK K
  refine tkr 6 rfl fun K hK=>?_
  go_simp
  have hb2:Below X1.heap.size X1 (X1.alloc (.cells #[.int .i64 (-7),.int .i64 0,.string ⟨#[109,97,114,107]⟩] 61)):=below_alloc (Below.refl _ _) _
  have hz2:=heap_alloc_new X1 (.cells #[.int .i64 (-7),.int .i64 0,.string ⟨#[109,97,114,107]⟩] 61)
  refine hK.out _ _ (cell_below hb2 hH) (fun hH=>?_)
  clear hK K
  have hbw:Below wr.heap.size wr (X1.alloc (.cells #[.int .i64 (-7),.int .i64 0,.string ⟨#[109,97,114,107]⟩] 61)):=below_then (below_undrew hb1) hb2
  have HZB:Hid (wr.heap.size≤X1.heap.size):=hb1.size
  generalize X1.alloc (.cells #[.int .i64 (-7),.int .i64 0,.string ⟨#[109,97,114,107]⟩] 61)=X2 at hz2 hbw hH ⊢
  clear hb2 hb1
  generalize X1.heap.size=zb at hz2 HZB ⊢
  refine tkj 7 rfl hH ?_
  refine tkn ?_
  obtain⟨k1,k2,k3,k4,k5,k6,k7,k8⟩:=HJ.out
  have hl:(hdrs bs d.rs).length=d.rs.length:=by unfold hdrs;rw[List.length_zipWith,k1];omega
  have hrb:=(hbw.block _ (by omega)).trans k5
  rw[show d.rs.length+1-d.rs.length=1 by omega]at hrb
  have y1:X2.cell? ⟨w.heap.size+5,d.rs.length,none⟩=some (.slice none 0 0):=cell_of_list hrb (by rw[List.getElem?_append_right (by omega),hl,Nat.sub_self];rfl)
  have y2:X2.frozen? ⟨w.heap.size+5,d.rs.length,none⟩=false:=by simp[World.frozen?,hrb]
  have H8:Hid (Below w.heap.size w (X2.setCell ⟨w.heap.size+5,d.rs.length,none⟩ (.slice (some ⟨zb,0,none⟩) 1 1))∧(∀ k,k<w.heap.size+5→(X2.setCell ⟨w.heap.size+5,d.rs.length,none⟩ (.slice (some ⟨zb,0,none⟩) 1 1)).heap[k]?=W6.heap[k]?)∧(X2.setCell ⟨w.heap.size+5,d.rs.length,none⟩ (.slice (some ⟨zb,0,none⟩) 1 1)).heap[w.heap.size+5]?=some (.cells (hdrs bs d.rs++[Value.slice (some ⟨zb,0,none⟩) 1 1]).toArray 73 (0,0))∧(∀ (i:Nat) b r,bs[i]?=some b→d.rs[i]?=some r→RowT (X2.setCell ⟨w.heap.size+5,d.rs.length,none⟩ (.slice (some ⟨zb,0,none⟩) 1 1)) b (r++[markV]++[markV]) [])∧VAt (X2.setCell ⟨w.heap.size+5,d.rs.length,none⟩ (.slice (some ⟨zb,0,none⟩) 1 1)) zb 0 markV∧(∀ b∈bs,w.heap.size+5<b∧b<zb)∧w.heap.size+5<zb∧zb<(X2.setCell ⟨w.heap.size+5,d.rs.length,none⟩ (.slice (some ⟨zb,0,none⟩) 1 1)).heap.size∧bs.Pairwise (·<·)∧bs.length=d.rs.length):=by
   have hoth:∀ k,k≠w.heap.size+5→(X2.setCell ⟨w.heap.size+5,d.rs.length,none⟩ (.slice (some ⟨zb,0,none⟩) 1 1)).heap[k]?=X2.heap[k]?:=fun k hk=>heap_setCell_other _ _ _ _ hk
   have hzz:(X2.setCell ⟨w.heap.size+5,d.rs.length,none⟩ (.slice (some ⟨zb,0,none⟩) 1 1)).heap.size=X2.heap.size:=by simp[World.setCell]
   have hzl:=lt_of_heap hz2
   have hzb:=HZB.out
   refine⟨(below_then k2 hbw).setCell (p:=⟨w.heap.size+5,d.rs.length,none⟩) (by show w.heap.size≤w.heap.size+5;omega) _,fun k hk=>?_,?_,fun i b r hb' hr'=>?_,?_,fun b hb'=>?_,by omega,by omega,k8,k1⟩
   ·rw[hoth k (by omega),hbw.block k (by omega)]
    exact k4 k hk
   ·rw[heap_setCell_same _ _ _ _ _ _ hrb]
    simp only[List.setIfInBounds_toArray]
    rw[List.set_append_right _ _ (by omega),hl,Nat.sub_self]
    rfl
   ·have h7:=k7 b (List.mem_of_getElem? hb')
    exact(k6 i b r hb' hr').of_block ((hoth b (by omega)).trans (hbw.block b h7.2))
   ·have hz3:=(hoth zb (by omega)).trans hz2
    refine⟨?_,?_,?_⟩<;>simp[World.cell?,hz3,markV]
   have:=k7 b hb'
   omega
  clear k1 k2 k3 k4 k5 k6 k7 k8 hl hrb hz2 hbw HZB HJ
  refine tkr 8 rfl fun K hK=>?_
  go_simp
  have c2':(X2.setCell ⟨w.heap.size+5,d.rs.length,none⟩ (.slice (some ⟨zb,0,none⟩) 1 1)).cell? ⟨w.heap.size,2,none⟩=some (.slice d.ar d.rs.length d.cr):=by
   have h1:=(H8.out.2.1 _ (by omega)).trans ((H6.out.2.1 _ (by omega)).trans HW.out.2.1)
   simp[World.cell?,h1]
  refine hK.out _ _ c2' (fun _=>?_)
  clear hK K hH y1 y2 c2' c2
  refine wpAnyH_done (by kernel_rfl) ?_ _
  generalize X2.setCell ⟨w.heap.size+5,d.rs.length,none⟩ (.slice (some ⟨zb,0,none⟩) 1 1)=W8 at H8 ⊢
  have hd0:W8.heap[w.heap.size]?=some (.cells #[.string d.name,.slice d.at_ d.ts.length d.ct,.slice d.ar d.rs.length d.cr,.slice d.ah d.hs.length d.ch,.int .i64 d.g] 42 (0,0)):=(H8.out.2.1 _ (by omega)).trans ((H6.out.2.1 _ (by omega)).trans HW.out.2.1)
  have c1:W8.cell? ⟨w.heap.size,1,none⟩=some (.slice d.at_ d.ts.length d.ct):=by simp[World.cell?,hd0]
  have hd2:W8.heap[w.heap.size+1+1]?=some (.cells #[.string d.name,.slice none 0 0,.slice none 0 0] 40 (0,0)):=(H8.out.2.1 _ (by omega)).trans ((H6.out.2.1 _ (by omega)).trans HW.out.2.2.2)
  have e1:W8.cell? ⟨w.heap.size+1+1,1,none⟩=some (.slice none 0 0):=by simp[World.cell?,hd2]
  have f1:W8.frozen? ⟨w.heap.size+1+1,1,none⟩=false:=by simp[World.frozen?,hd2]
  have j1:(0:Int)≤(d.ts.length:Int):=by omega
  have j2:(d.ts.length:Int)≤(d.ts.length:Int)+1:=by omega
  go_upto_region 15 with fail
  obtain⟨W9,hW9⟩:∃ W9,W9=W8.setCell ⟨w.heap.size+1+1,1,none⟩ (.slice (some ⟨w.heap.size+3,0,none⟩) d.ts.length (d.ts.length+1)):=⟨_,rfl⟩
  rw[←hW9]
  have HO9:Hid (∀ k,k≠w.heap.size+1+1→W9.heap[k]?=W8.heap[k]?):=fun k hk=>by rw[hW9];exact heap_setCell_other _ _ _ _ hk
  have hd9:W9.heap[w.heap.size+1+1]?=some (.cells #[.string d.name,.slice (some ⟨w.heap.size+3,0,none⟩) d.ts.length (d.ts.length+1),.slice none 0 0] 40 (0,0)):=by rw[hW9,heap_setCell_same _ _ _ _ _ _ hd2];rfl
  have HL9:Hid (Below w.heap.size w W9):=by rw[hW9];exact H8.out.1.setCell (p:=⟨w.heap.size+1+1,1,none⟩) (by show w.heap.size≤w.heap.size+1+1;omega) _
  have HZ9:Hid (W9.heap.size=W8.heap.size):=by rw[hW9];show (World.setCell _ _ _).heap.size=_;simp[World.setCell]
  clear hW9 e1 f1 hd2 c1 j1 j2
  have hd0':=(HO9.out w.heap.size (by omega)).trans hd0
  have c2:W9.cell? ⟨w.heap.size,2,none⟩=some (.slice d.ar d.rs.length d.cr):=by simp[World.cell?,hd0']
  have e1:W9.cell? ⟨w.heap.size+1+1,2,none⟩=some (.slice none 0 0):=by simp[World.cell?,hd9]
  have f1:W9.frozen? ⟨w.heap.size+1+1,2,none⟩=false:=by simp[World.frozen?,hd9]
  have j2:(d.rs.length:Int)≤(d.rs.length:Int)+1:=by omega
  go_upto_region 16 with fail
  obtain⟨Y,hY⟩:∃ Y,Y=W9.setCell ⟨w.heap.size+1+1,2,none⟩ (.slice (some ⟨w.heap.size+5,0,none⟩) d.rs.length (d.rs.length+1)):=⟨_,rfl⟩
  rw[←hY]
  have HOY:Hid (∀ k,k≠w.heap.size+1+1→Y.heap[k]?=W8.heap[k]?):=fun k hk=>by rw[hY];exact(heap_setCell_other _ _ _ _ hk).trans (HO9.out k hk)
  have hdY:Y.heap[w.heap.size+1+1]?=some (.cells #[.string d.name,.slice (some ⟨w.heap.size+3,0,none⟩) d.ts.length (d.ts.length+1),.slice (some ⟨w.heap.size+5,0,none⟩) d.rs.length (d.rs.length+1)] 40 (0,0)):=by rw[hY,heap_setCell_same _ _ _ _ _ _ hd9];rfl
  have HLY:Hid (Below w.heap.size w Y):=by rw[hY];exact HL9.out.setCell (p:=⟨w.heap.size+1+1,2,none⟩) (by show w.heap.size≤w.heap.size+1+1;omega) _
  have HZY:Hid (Y.heap.size=W8.heap.size):=by rw[hY];show (World.setCell _ _ _).heap.size=_;simp[World.setCell];exact HZ9.out
  clear hY e1 f1 c2 j2 hd9 hd0' HO9 HL9 HZ9
  have hd1:=(HOY.out w.heap.size (by omega)).trans hd0
  have hdr:Y.heap[w.heap.size+1]?=some (.cells #[.string ⟨#[]⟩,.slice none 0 0,.slice none 0 0,.slice none 0 0,.int .i64 0] 42 (0,0)):=(HOY.out _ (by omega)).trans ((H8.out.2.1 _ (by omega)).trans ((H6.out.2.1 _ (by omega)).trans HW.out.2.2.1))
  have c3:Y.cell? ⟨w.heap.size,3,none⟩=some (.slice d.ah d.hs.length d.ch):=by simp[World.cell?,hd1]
  have c4:Y.cell? ⟨w.heap.size,4,none⟩=some (.int .i64 d.g):=by simp[World.cell?,hd1]
  have t0:Y.cell? ⟨w.heap.size+1+1,0,none⟩=some (.string d.name):=by simp[World.cell?,hdY]
  have t1:Y.cell? ⟨w.heap.size+1+1,1,none⟩=some (.slice (some ⟨w.heap.size+3,0,none⟩) d.ts.length (d.ts.length+1)):=by simp[World.cell?,hdY]
  have t2:Y.cell? ⟨w.heap.size+1+1,2,none⟩=some (.slice (some ⟨w.heap.size+5,0,none⟩) d.rs.length (d.rs.length+1)):=by simp[World.cell?,hdY]
  have j1:(0:Int)≤(d.hs.length:Int):=by omega
  have j2:(d.hs.length:Int)≤(d.hs.length:Int)+1:=by omega
  refine wp_region_held_drew (S:=fun X=>X.cell? ⟨w.heap.size,3,none⟩=some (.slice d.ah d.hs.length d.ch)∧X.cell? ⟨w.heap.size,4,none⟩=some (.int .i64 d.g)∧X.cell? ⟨w.heap.size+1+1,0,none⟩=some (.string d.name)∧X.cell? ⟨w.heap.size+1+1,1,none⟩=some (.slice (some ⟨w.heap.size+3,0,none⟩) d.ts.length (d.ts.length+1))∧X.cell? ⟨w.heap.size+1+1,2,none⟩=some (.slice (some ⟨w.heap.size+5,0,none⟩) d.rs.length (d.rs.length+1))) (by kernel_rfl) ⟨cell_drew c3,cell_drew c4,cell_drew t0,cell_drew t1,cell_drew t2⟩ (fun hH=>?_)
  refine tkj 0 rfl hH ?_
  refine tkj 1 rfl hH ?_
  refine tkj 2 rfl hH ?_
  refine tkj 3 rfl hH ?_
  refine tkj 4 rfl hH ?_
  refine tkj 5 rfl hH ?_
  refine tkj 6 rfl hH ?_
  refine tkj 7 rfl hH ?_
  refine tkj 8 rfl hH ?_
  refine tkn ?_
  have hk5:=heap_set (heap_set (heap_set (heap_set (heap_set hdr 0 (.string d.name)) 1 (.slice (some ⟨w.heap.size+3,0,none⟩) d.ts.length (d.ts.length+1))) 2 (.slice (some ⟨w.heap.size+5,0,none⟩) d.rs.length (d.rs.length+1))) 3 (.slice (some ⟨w.heap.size+4,0,none⟩) d.hs.length (d.hs.length+1))) 4 (.int .i64 d.g)
  simp only[List.setIfInBounds_toArray,List.set_cons_zero,List.set_cons_succ]at hk5
  have HK5:Hid _:=hk5
  have a0:Y.cell? ⟨w.heap.size+1,0,none⟩=some (.string ⟨#[]⟩):=by simp[World.cell?,hdr]
  have a1:Y.cell? ⟨w.heap.size+1,1,none⟩=some (.slice none 0 0):=by simp[World.cell?,hdr]
  have a2:Y.cell? ⟨w.heap.size+1,2,none⟩=some (.slice none 0 0):=by simp[World.cell?,hdr]
  have a3:Y.cell? ⟨w.heap.size+1,3,none⟩=some (.slice none 0 0):=by simp[World.cell?,hdr]
  have a4:Y.cell? ⟨w.heap.size+1,4,none⟩=some (.int .i64 0):=by simp[World.cell?,hdr]
  have b0:Y.frozen? ⟨w.heap.size+1,0,none⟩=false:=by simp[World.frozen?,hdr]
  have b1:Y.frozen? ⟨w.heap.size+1,1,none⟩=false:=by simp[World.frozen?,hdr]
  have b2:Y.frozen? ⟨w.heap.size+1,2,none⟩=false:=by simp[World.frozen?,hdr]
  have b3:Y.frozen? ⟨w.heap.size+1,3,none⟩=false:=by simp[World.frozen?,hdr]
  have b4:Y.frozen? ⟨w.heap.size+1,4,none⟩=false:=by simp[World.frozen?,hdr]
  clear hk5 hdr hdY hd1 hd0
  refine tkr 9 rfl fun K hK=>?_
  go_simp
  have hcs:∀ (b o:Nat) u,b≠w.heap.size+1→Y.cell? ⟨b,o,none⟩=some u→(((((Y.setCell ⟨w.heap.size+1,0,none⟩ (.string d.name)).setCell ⟨w.heap.size+1,1,none⟩ (.slice (some ⟨w.heap.size+3,0,none⟩) d.ts.length (d.ts.length+1))).setCell ⟨w.heap.size+1,2,none⟩ (.slice (some ⟨w.heap.size+5,0,none⟩) d.rs.length (d.rs.length+1))).setCell ⟨w.heap.size+1,3,none⟩ (.slice (some ⟨w.heap.size+4,0,none⟩) d.hs.length (d.hs.length+1))).setCell ⟨w.heap.size+1,4,none⟩ (.int .i64 d.g)).drew.cell? ⟨b,o,none⟩=some u:=fun b o u hb hu=>by
   rw[←hu]
   show World.cell? _ _=World.cell? Y _
   simp only[World.cell?,World.drew,set5_other _ _ _ _ _ _ _ b hb]
  refine hK.out _ _ ⟨hcs _ _ _ (by omega) c3,hcs _ _ _ (by omega) c4,hcs _ _ _ (by omega) t0,hcs _ _ _ (by omega) t1,hcs _ _ _ (by omega) t2⟩ (fun _=>?_)
  clear hK K hcs hH c3 c4 t0 t1 t2 a0 a1 a2 a3 a4 b0 b1 b2 b3 b4
  refine wpAnyH_done (by kernel_rfl) ?_ _
  go_wp2
  refine bodyPost_ret (v:=.agg #[.string d.name,.slice (some ⟨w.heap.size+3,0,none⟩) d.ts.length (d.ts.length+1),.slice (some ⟨w.heap.size+5,0,none⟩) d.rs.length (d.rs.length+1),.slice (some ⟨w.heap.size+4,0,none⟩) d.hs.length (d.hs.length+1),.int .i64 d.g]) (by simp[results,Tryz.results30,go_sem,World.cell?,HK5.out,World.drew]) rfl ?_
  obtain⟨k1,k2,k3,k4,k5,k6,k7,k8,k9,k10⟩:=H8.out
  refine⟨below_drew1 (below_set5 HLY.out (by omega) _ _ _ _ _),w.heap.size+3,w.heap.size+4,w.heap.size+5,zb,bs,rfl,OwnD.of_block (w:=W8) ⟨?_,?_,k3,k5,k10,k4,by omega,by omega,k7,k8,k6,k9⟩ ?_ fun k h1 h2=>?_,by omega⟩
  ·exact(k2 _ (by omega)).trans H6.out.2.2.1
  ·exact(k2 _ (by omega)).trans H6.out.2.2.2
  ·show W8.heap.size≤(World.setCell _ _ _).heap.size
   rw[set5_size,HZY.out]
   exact Nat.le_refl _
  show (World.setCell _ _ _).heap[k]?=_
  rw[set5_other _ _ _ _ _ _ _ k (by omega)]
  exact HOY.out k (by omega)
end Go.Proofs.YtkgibdjakgmmcaaGreatDoor
