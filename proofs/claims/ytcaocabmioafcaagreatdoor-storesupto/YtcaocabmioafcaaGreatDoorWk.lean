/- A table as the law hands it over: new memory, with marks in its spare room. -/
import Derived.Test.YtcaocabmioafcaaGreatDoorWh
import Derived.Test.YtcaocabmioafcaaGreatDoorKm
set_option maxHeartbeats 4000000
set_option maxRecDepth 100000
namespace Go.Proofs.YtcaocabmioafcaaGreatDoor
open Go.RowKit Go.Shelf Tryz
attribute [local go_sem] Oc0
theorem Kvf (w:World)(T e:TypeId)(z:Nat)(L:prog.underlying T=some (.slice e))(K:(prog.info? e).map (fun i=>i.size)=some z)(g H M:Nat)(a:Option Addr)(n cap:Nat)(cs:List Value)(X:cs.length=n*z)(I:n=0∨∃ b o,a=some ⟨b,o,none⟩∧∀ (j:Nat) u,cs[j]?=some u→w.cell? ((⟨b,o,none⟩:Addr).add j)=some u)(R:∀ u∈cs,u.oneCell'=true)(A:Array Value)(N:w.heap[g]?=some (.cells A e (0,0)))(Y:n≤H)(Z:cs.length≤A.size) :
  (Builtin.copy_ #[T,T] 3 #[.slice (some ⟨g,0,none⟩) H M,.slice a n cap]).run prog w=.ok (goInt n) (w.setRow g (cs++A.toList.drop cs.length).toArray):=by
 rcases I with h0|⟨b,o,rfl,I⟩
 ·subst h0
  have U:cs=[]:=Od3.1 (by omega)
  subst U
  have J:=run_storeCells_at prog g 0 e [] 0 A w N (by simp) (by simp)
  simp at J
  cases hq:prog.info? e with
  |none=>rw[hq]at K;cases K
  |some i=>
   cases a with
   |none=>simp[Builtin.copy_,run_underlying L,Builtin.lenOf,Builtin.firstCells,sizeOf,typeInfo,hq,J]
   |some a=>
    have O:=run_loadCells_list (P:=prog) w a [] (by intro j v h;simp at h)
    rw[List.length_nil]at O
    simp[Builtin.copy_,run_underlying L,Builtin.lenOf,Builtin.firstCells,sizeOf,typeInfo,hq,O,J]
 exact Kyv w T e z L K g H M b o n cap cs X I R A N Y Z
theorem Kt9 (T e:TypeId)(I:Value)(z A:Nat)(N:prog.underlying T=some (.slice e))(L:(prog.info? e).map (fun i=>(i.zero,i.size,i.bytes))=some (some I,z,A))(n:Nat)(_R:(n+1)*A≤281474976710656)(_U:n≤281474976710656)(W:World) :
  (Instr.makeSlice T (.int .i64 ((n:Int)+1)) (.int .i64 ((n:Int)+1))).run prog W=.ok (.slice (some ⟨W.heap.size,0,none⟩) (n+1) (n+1)) (W.alloc (.cells (madeCells I.cells ((n+1)*z)) e)):=by
 obtain⟨i,hi,O,M,K⟩:=info_parts L
 have H:=run_make (P:=prog) W T e i _ N hi O .i64 .i64 ((n:Int)+1) ((n:Int)+1) (by omega) (Int.le_refl _) (by
  have J:(A:Int)*((n:Int)+1)=(((n+1)*A:Nat):Int):=by rw[Int.natCast_mul,Int.mul_comm];rfl
  rw[K,J]
  omega) (by omega)
 have e:((n:Int)+1).toNat=n+1:=by omega
 rw[e,M]at H
 exact H
theorem Kux (z:Value)(n:Nat):(madeCells #[z] n).toList=List.replicate n z:=by
 apply Oi8
 intro i
 rw[Of3]
 by_cases hi:i<n
 ·simp[madeCells,hi,Nat.mod_one]
 simp[madeCells,hi]
theorem Kxw {w:World}{a:Option Addr}{ts:List Int}(h:Kc w a ts):ts.length=0∨∃ b o,a=some ⟨b,o,none⟩∧∀ (j:Nat) u,(ts.map iv)[j]?=some u→w.cell? ((⟨b,o,none⟩:Addr).add j)=some u:=by
 rcases h with h|⟨b,o,rfl,_,h⟩
 ·left
  have:=congrArg List.length h
  simpa using this
 refine .inr ⟨b,o,rfl,fun j u A=>?_⟩
 have:=h j u A
 cases j with
 |zero=>exact this
 |succ j=>simpa [Addr.add] using this
theorem Ksd {w:World}{g k:Nat}{l:List Value}{e:TypeId}{v:Value}(h:w.heap[g]?=some (.cells l.toArray e (0,0)))(hk:l[k]?=some v):w.cell? ⟨g,k,none⟩=some v:=by
 have A:l.toArray[k]?=some v:=by rw[List.getElem?_toArray];exact hk
 simp[World.cell?,h,hk]
structure Dx where
 name:ByteArray
 at_:Option Addr
 ct:Nat
 ts:List Int
 ar:Option Addr
 cr:Nat
 xs:List (Option Addr×Nat)
 rs:List (List V)
 ah:Option Addr
 ch:Nat
 hs:List Int
 g:Int
def Dx.val (d:Dx):Value:=.agg #[.string d.name,.slice d.at_ d.ts.length d.ct,.slice d.ar d.rs.length d.cr,.slice d.ah d.hs.length d.ch,.int .i64 d.g]
structure Kte (w:World) (d:Dx):Prop where
 ln:d.name.size≤maxLen
 lt:d.ts.length≤17592186044415
 lr:d.rs.length≤5864062014805
 lrr:∀ r∈d.rs,r.length≤4398046511103
 lh:d.hs.length≤17592186044415
 cap:d.rs.length≤d.cr
 types:Kc w d.at_ d.ts
 hows:Kc w d.ah d.hs
 rows:Zd w d.ar d.xs d.rs
theorem Kte.below {w w':World}{d:Dx}(h:Kte w d)(A:Below w.heap.size w w'):Kte w' d:=
 ⟨h.ln,h.lt,h.lr,h.lrr,h.lh,h.cap,h.types.below A,h.hows.below A,h.rows.below A⟩
theorem Kte.arg {w:World}{d:Dx}(h:Kte w d):Kct w d.name d.at_ d.ar d.ah d.cr d.ts d.hs d.xs d.rs:=
 ⟨h.ln,by have:=h.lt;unfold maxLen;omega,by have:=h.lr;unfold maxLen;omega,fun r A=>by have:=h.lrr r A;unfold maxLen;omega,by have:=h.lh;unfold maxLen;omega,h.cap,h.types,h.hows,h.rows⟩
def Ksx (bs:List Nat)(rs:List (List V)):List Value:=List.zipWith (fun b r=>Value.slice (some ⟨b,0,none⟩) r.length (r.length+2)) bs rs
structure Kvs (w:World) (d:Dx) (tb hb rb zb:Nat) (bs:List Nat):Prop where
 ty:w.heap[tb]?=some (.cells (d.ts.map iv++[iv (-7)]).toArray 3 (0,0))
 hw:w.heap[hb]?=some (.cells (d.hs.map iv++[iv (-7)]).toArray 3 (0,0))
 rw:w.heap[rb]?=some (.cells (Ksx bs d.rs++[Value.slice (some ⟨zb,0,none⟩) 1 1]).toArray 57 (0,0))
 zz:VAt w zb 0 Kr9
 len:bs.length=d.rs.length
 row:∀ (i:Nat) b r,bs[i]?=some b→d.rs[i]?=some r→Kv w b (r++[Kr9]++[Kr9]) []
 ord:tb<hb∧hb<rb∧rb<zb∧zb<w.heap.size∧(∀ b∈bs,rb<b∧b<zb)∧bs.Pairwise (·<·)
theorem Kvs.of_block {w w':World}{d:Dx}{A I J H:Nat}{bs:List Nat}(h:Kvs w d A I J H bs)(_hs:w.heap.size≤w'.heap.size)(hk:∀ k,A≤k→k≤H→w'.heap[k]?=w.heap[k]?):Kvs w' d A I J H bs:=by
 obtain⟨o1,o2,o3,O,L,N⟩:=h.ord
 refine⟨(hk A (by omega) (by omega)).trans h.ty,(hk I (by omega) (by omega)).trans h.hw,(hk J (by omega) (by omega)).trans h.rw,h.zz.of_block (hk H (by omega) (by omega)),h.len,fun i b r K M=>(h.row i b r K M).of_block ?_,o1,o2,o3,by omega,L,N⟩
 have:=L b (Of6 K)
 exact hk b (by omega) (by omega)
theorem Qaq (d:Dx)(w:World)(h:Kte w d) :
  Calls prog 35 #[d.val] w fun e w'=>Below w.heap.size w w'∧∃ cP bE dj K bs,e=.returned (.agg #[.string d.name,.slice (some ⟨cP,0,none⟩) d.ts.length (d.ts.length+1),.slice (some ⟨dj,0,none⟩) d.rs.length (d.rs.length+1),.slice (some ⟨bE,0,none⟩) d.hs.length (d.hs.length+1),.int .i64 d.g])∧Kvs w' d cP bE dj K bs∧w.heap.size≤cP:=by
 have cc:Hid (Kte w d):=h
 have dT:=h.lt
 have dU:=h.lr
 have dV:=h.lh
 unfold Dx.val
 have cY:=Kt9 27 3 _ 1 8 (by kernel_rfl) Zw d.ts.length (by omega) (by omega)
 have cZ:=Kt9 27 3 _ 1 8 (by kernel_rfl) Zw d.hs.length (by omega) (by omega)
 have da:=Kt9 28 57 _ 1 24 (by kernel_rfl) Jip d.rs.length (by omega) (by omega)
 simp only[Nat.mul_one,Value.cells]at cY cZ da
 clear h
 go_enter func35,ntmps35
 go_upto_region 2 with fail
 obtain⟨W,hW⟩:∃ W,W=((w.alloc (.cells #[.string d.name,.slice d.at_ d.ts.length d.ct,.slice d.ar d.rs.length d.cr,.slice d.ah d.hs.length d.ch,.int .i64 d.g] 32)).alloc (.cells #[.string ⟨#[]⟩,.slice none 0 0,.slice none 0 0,.slice none 0 0,.int .i64 0] 32)).alloc (.cells #[.string d.name,.slice none 0 0,.slice none 0 0] 30):=⟨_,rfl⟩
 rw[←hW]
 have L:Hid (Below w.heap.size w W∧W.heap[w.heap.size]?=some (.cells #[.string d.name,.slice d.at_ d.ts.length d.ct,.slice d.ar d.rs.length d.cr,.slice d.ah d.hs.length d.ch,.int .i64 d.g] 32 (0,0))∧W.heap[w.heap.size+1]?=some (.cells #[.string ⟨#[]⟩,.slice none 0 0,.slice none 0 0,.slice none 0 0,.int .i64 0] 32 (0,0))∧W.heap[w.heap.size+2]?=some (.cells #[.string d.name,.slice none 0 0,.slice none 0 0] 30 (0,0))):=by
  rw[hW]
  refine⟨(((Oa5 _ w).alloc (Oa2 _) _).alloc (by simp) _).alloc (by simp;omega) _,?_,?_,?_⟩
  ·rw[Oa9 _ _ _ (by simp only[Oa7];omega),Oa9 _ _ _ (by simp only[Oa7];omega)]
   exact heap_alloc_new _ _
  ·rw[Oa9 _ _ _ (by simp only[Oa7];omega)]
   exact Kt7 _ _ _ (by simp only[Oa7])
  exact Kt7 _ _ _ (by simp only[Oa7])
 have bf:W.heap.size=w.heap.size+3:=by rw[hW];simp
 clear hW
 have c0:W.cell? ⟨w.heap.size,0,none⟩=some (.string d.name):=by simp[World.cell?,L.out.2.1]
 have c1:W.cell? ⟨w.heap.size,1,none⟩=some (.slice d.at_ d.ts.length d.ct):=by simp[World.cell?,L.out.2.1]
 have c2:W.cell? ⟨w.heap.size,2,none⟩=some (.slice d.ar d.rs.length d.cr):=by simp[World.cell?,L.out.2.1]
 have c3:W.cell? ⟨w.heap.size,3,none⟩=some (.slice d.ah d.hs.length d.ch):=by simp[World.cell?,L.out.2.1]
 have c4:W.cell? ⟨w.heap.size,4,none⟩=some (.int .i64 d.g):=by simp[World.cell?,L.out.2.1]
 go_upto_region 3 with fail
 clear c0 c1 c2 c3 c4
 obtain⟨R,cE⟩:∃ R,R=W.alloc (.cells (madeCells #[.int .i64 0] (d.ts.length+1)) 3):=⟨_,rfl⟩
 rw[←cE]
 have bu:Hid (R.heap.size=w.heap.size+4∧Below w.heap.size w R∧(∀ k,k<w.heap.size+3→R.heap[k]?=W.heap[k]?)∧R.heap[w.heap.size+3]?=some (.cells (madeCells #[.int .i64 0] (d.ts.length+1)) 3 (0,0))):=by
  rw[cE]
  exact⟨by rw[Oa7,bf],Jc L.out.1 _,fun k hk=>Oa9 _ _ _ (by omega),Kt7 _ _ _ bf.symm⟩
 clear cE bf cY
 have A:R.heap[w.heap.size]?=some (.cells #[.string d.name,.slice d.at_ d.ts.length d.ct,.slice d.ar d.rs.length d.cr,.slice d.ah d.hs.length d.ch,.int .i64 d.g] 32 (0,0)):=(bu.out.2.2.1 _ (by omega)).trans L.out.2.1
 have c0:R.cell? ⟨w.heap.size,0,none⟩=some (.string d.name):=by simp[World.cell?,A]
 have c1:R.cell? ⟨w.heap.size,1,none⟩=some (.slice d.at_ d.ts.length d.ct):=by simp[World.cell?,A]
 have c2:R.cell? ⟨w.heap.size,2,none⟩=some (.slice d.ar d.rs.length d.cr):=by simp[World.cell?,A]
 have c3:R.cell? ⟨w.heap.size,3,none⟩=some (.slice d.ah d.hs.length d.ch):=by simp[World.cell?,A]
 have c4:R.cell? ⟨w.heap.size,4,none⟩=some (.int .i64 d.g):=by simp[World.cell?,A]
 have bG:=Kvf R 27 3 1 (by kernel_rfl) (by kernel_rfl) (w.heap.size+3) (d.ts.length+1) (d.ts.length+1) d.at_ d.ts.length d.ct (d.ts.map iv) (by simp) (Kxw (cc.out.types.below bu.out.2.1)) (fun u bY=>by obtain⟨x,_,rfl⟩:=Of0.1 bY;rfl) _ bu.out.2.2.2 (by omega) (by rw[size_madeCells,Oa6];omega)
 rw[Kux,Oa6,List.drop_replicate,show d.ts.length+1-d.ts.length=1 by omega]at bG
 obtain⟨U,cj⟩:∃ U,U=R.setRow (w.heap.size+3) (d.ts.map iv++List.replicate 1 (Value.int .i64 0)).toArray:=⟨_,rfl⟩
 rw[←cj]at bG
 have bK:Hid (Below w.heap.size w U∧(∀ k,k<w.heap.size+3→U.heap[k]?=W.heap[k]?)∧U.heap[w.heap.size+3]?=some (.cells (d.ts.map iv++List.replicate 1 (Value.int .i64 0)).toArray 3 (0,0))):=by
  rw[cj]
  refine⟨bu.out.2.1.trans ⟨rfl,rfl,rfl,by simp[World.setRow],fun k hk=>setRow_other _ _ _ _ (by omega)⟩,fun k hk=>?_,setRow_heap _ _ _ _ _ _ bu.out.2.2.2⟩
  rw[setRow_other _ _ _ _ (by omega)]
  exact bu.out.2.2.1 k hk
 have bf:U.heap.size=w.heap.size+4:=by rw[cj];simp[World.setRow];exact bu.out.1
 clear cj bu
 go_upto_region 4 with fail
 clear bG A
 clear c0 c1 c2 c3 c4
 have A:U.heap[w.heap.size]?=some (.cells #[.string d.name,.slice d.at_ d.ts.length d.ct,.slice d.ar d.rs.length d.cr,.slice d.ah d.hs.length d.ch,.int .i64 d.g] 32 (0,0)):=(bK.out.2.1 _ (by omega)).trans L.out.2.1
 have c0:U.cell? ⟨w.heap.size,0,none⟩=some (.string d.name):=by simp[World.cell?,A]
 have c1:U.cell? ⟨w.heap.size,1,none⟩=some (.slice d.at_ d.ts.length d.ct):=by simp[World.cell?,A]
 have c2:U.cell? ⟨w.heap.size,2,none⟩=some (.slice d.ar d.rs.length d.cr):=by simp[World.cell?,A]
 have c3:U.cell? ⟨w.heap.size,3,none⟩=some (.slice d.ah d.hs.length d.ch):=by simp[World.cell?,A]
 have c4:U.cell? ⟨w.heap.size,4,none⟩=some (.int .i64 d.g):=by simp[World.cell?,A]
 go_upto_region 5 with fail
 clear A
 clear c0 c1 c2 c3 c4
 obtain⟨X,cF⟩:∃ X,X=U.alloc (.cells (madeCells #[.int .i64 0] (d.hs.length+1)) 3):=⟨_,rfl⟩
 rw[←cF]
 have bj:Hid (X.heap.size=w.heap.size+5∧Below w.heap.size w X∧(∀ k,k<w.heap.size+4→X.heap[k]?=U.heap[k]?)∧X.heap[w.heap.size+4]?=some (.cells (madeCells #[.int .i64 0] (d.hs.length+1)) 3 (0,0))):=by
  rw[cF]
  exact⟨by rw[Oa7,bf],Jc bK.out.1 _,fun k hk=>Oa9 _ _ _ (by omega),Kt7 _ _ _ bf.symm⟩
 clear cF bf cZ
 have A:X.heap[w.heap.size]?=some (.cells #[.string d.name,.slice d.at_ d.ts.length d.ct,.slice d.ar d.rs.length d.cr,.slice d.ah d.hs.length d.ch,.int .i64 d.g] 32 (0,0)):=(bj.out.2.2.1 _ (by omega)).trans ((bK.out.2.1 _ (by omega)).trans L.out.2.1)
 have c0:X.cell? ⟨w.heap.size,0,none⟩=some (.string d.name):=by simp[World.cell?,A]
 have c1:X.cell? ⟨w.heap.size,1,none⟩=some (.slice d.at_ d.ts.length d.ct):=by simp[World.cell?,A]
 have c2:X.cell? ⟨w.heap.size,2,none⟩=some (.slice d.ar d.rs.length d.cr):=by simp[World.cell?,A]
 have c3:X.cell? ⟨w.heap.size,3,none⟩=some (.slice d.ah d.hs.length d.ch):=by simp[World.cell?,A]
 have c4:X.cell? ⟨w.heap.size,4,none⟩=some (.int .i64 d.g):=by simp[World.cell?,A]
 have bG:=Kvf X 27 3 1 (by kernel_rfl) (by kernel_rfl) (w.heap.size+4) (d.hs.length+1) (d.hs.length+1) d.ah d.hs.length d.ch (d.hs.map iv) (by simp) (Kxw (cc.out.hows.below bj.out.2.1)) (fun u bY=>by obtain⟨x,_,rfl⟩:=Of0.1 bY;rfl) _ bj.out.2.2.2 (by omega) (by rw[size_madeCells,Oa6];omega)
 rw[Kux,Oa6,List.drop_replicate,show d.hs.length+1-d.hs.length=1 by omega]at bG
 obtain⟨N,cG⟩:∃ N,N=X.setRow (w.heap.size+4) (d.hs.map iv++List.replicate 1 (Value.int .i64 0)).toArray:=⟨_,rfl⟩
 rw[←cG]at bG
 have bk:Hid (Below w.heap.size w N∧(∀ k,k<w.heap.size+3→N.heap[k]?=W.heap[k]?)∧N.heap[w.heap.size+3]?=some (.cells (d.ts.map iv++List.replicate 1 (Value.int .i64 0)).toArray 3 (0,0))∧N.heap[w.heap.size+4]?=some (.cells (d.hs.map iv++List.replicate 1 (Value.int .i64 0)).toArray 3 (0,0))∧N.heap.size=w.heap.size+5):=by
  rw[cG]
  refine⟨bj.out.2.1.trans ⟨rfl,rfl,rfl,by simp[World.setRow],fun k hk=>setRow_other _ _ _ _ (by omega)⟩,fun k hk=>?_,?_,setRow_heap _ _ _ _ _ _ bj.out.2.2.2,by simp[World.setRow];exact bj.out.1⟩
  ·rw[setRow_other _ _ _ _ (by omega),bj.out.2.2.1 k (by omega)]
   exact bK.out.2.1 k hk
  rw[setRow_other _ _ _ _ (by omega),bj.out.2.2.1 _ (by omega)]
  exact bK.out.2.2
 clear cG bK bj
 go_upto_region 6 with fail
 clear bG A
 clear c0 c1 c2 c3 c4
 have A:N.heap[w.heap.size]?=some (.cells #[.string d.name,.slice d.at_ d.ts.length d.ct,.slice d.ar d.rs.length d.cr,.slice d.ah d.hs.length d.ch,.int .i64 d.g] 32 (0,0)):=(bk.out.2.1 _ (by omega)).trans L.out.2.1
 have c0:N.cell? ⟨w.heap.size,0,none⟩=some (.string d.name):=by simp[World.cell?,A]
 have c1:N.cell? ⟨w.heap.size,1,none⟩=some (.slice d.at_ d.ts.length d.ct):=by simp[World.cell?,A]
 have c2:N.cell? ⟨w.heap.size,2,none⟩=some (.slice d.ar d.rs.length d.cr):=by simp[World.cell?,A]
 have c3:N.cell? ⟨w.heap.size,3,none⟩=some (.slice d.ah d.hs.length d.ch):=by simp[World.cell?,A]
 have c4:N.cell? ⟨w.heap.size,4,none⟩=some (.int .i64 d.g):=by simp[World.cell?,A]
 have bD:N.cell? ⟨w.heap.size+3,d.ts.length,none⟩=some (.int .i64 0):=by simp[World.cell?,bk.out.2.2.1]
 have cQ:N.frozen? ⟨w.heap.size+3,d.ts.length,none⟩=false:=by simp[World.frozen?,bk.out.2.2.1]
 have ca:(0:Int)≤(d.ts.length:Int):=by omega
 have cb:(d.ts.length:Int)<(d.ts.length:Int)+1:=by omega
 go_upto_region 7 with fail
 clear bD cQ ca cb A
 clear c0 c1 c2 c3 c4
 obtain⟨O,cH⟩:∃ O,O=N.setCell ⟨w.heap.size+3,d.ts.length,none⟩ (.int .i64 (-7)):=⟨_,rfl⟩
 rw[←cH]
 have bl:Hid (Below w.heap.size w O∧(∀ k,k<w.heap.size+3→O.heap[k]?=W.heap[k]?)∧O.heap[w.heap.size+3]?=some (.cells (d.ts.map iv++[iv (-7)]).toArray 3 (0,0))∧O.heap[w.heap.size+4]?=some (.cells (d.hs.map iv++List.replicate 1 (Value.int .i64 0)).toArray 3 (0,0))∧O.heap.size=w.heap.size+5):=by
  rw[cH]
  refine⟨bk.out.1.setCell (p:=⟨w.heap.size+3,d.ts.length,none⟩) (by show w.heap.size≤w.heap.size+3;omega) _,fun k hk=>(heap_setCell_other _ _ _ _ (by show k≠w.heap.size+3;omega)).trans (bk.out.2.1 k hk),?_,(heap_setCell_other _ _ _ _ (by show w.heap.size+4≠w.heap.size+3;omega)).trans bk.out.2.2.2.1,by simp[World.setCell];exact bk.out.2.2.2.2⟩
  rw[heap_setCell_same _ _ _ _ _ _ bk.out.2.2.1]
  simp[iv]
 clear cH bk
 have A:O.heap[w.heap.size]?=some (.cells #[.string d.name,.slice d.at_ d.ts.length d.ct,.slice d.ar d.rs.length d.cr,.slice d.ah d.hs.length d.ch,.int .i64 d.g] 32 (0,0)):=(bl.out.2.1 _ (by omega)).trans L.out.2.1
 have c0:O.cell? ⟨w.heap.size,0,none⟩=some (.string d.name):=by simp[World.cell?,A]
 have c1:O.cell? ⟨w.heap.size,1,none⟩=some (.slice d.at_ d.ts.length d.ct):=by simp[World.cell?,A]
 have c2:O.cell? ⟨w.heap.size,2,none⟩=some (.slice d.ar d.rs.length d.cr):=by simp[World.cell?,A]
 have c3:O.cell? ⟨w.heap.size,3,none⟩=some (.slice d.ah d.hs.length d.ch):=by simp[World.cell?,A]
 have c4:O.cell? ⟨w.heap.size,4,none⟩=some (.int .i64 d.g):=by simp[World.cell?,A]
 have bD:O.cell? ⟨w.heap.size+4,d.hs.length,none⟩=some (.int .i64 0):=by simp[World.cell?,bl.out.2.2.2.1]
 have cQ:O.frozen? ⟨w.heap.size+4,d.hs.length,none⟩=false:=by simp[World.frozen?,bl.out.2.2.2.1]
 have ca:(0:Int)≤(d.hs.length:Int):=by omega
 have cb:(d.hs.length:Int)<(d.hs.length:Int)+1:=by omega
 go_upto_region 8 with fail
 clear bD cQ ca cb A
 clear c0 c1 c2 c3 c4
 obtain⟨M,ck⟩:∃ M,M=O.setCell ⟨w.heap.size+4,d.hs.length,none⟩ (.int .i64 (-7)):=⟨_,rfl⟩
 rw[←ck]
 have bn:Hid (Below w.heap.size w M∧(∀ k,k<w.heap.size+3→M.heap[k]?=W.heap[k]?)∧M.heap[w.heap.size+3]?=some (.cells (d.ts.map iv++[iv (-7)]).toArray 3 (0,0))∧M.heap[w.heap.size+4]?=some (.cells (d.hs.map iv++[iv (-7)]).toArray 3 (0,0))):=by
  rw[ck]
  refine⟨bl.out.1.setCell (p:=⟨w.heap.size+4,d.hs.length,none⟩) (by show w.heap.size≤w.heap.size+4;omega) _,fun k hk=>(heap_setCell_other _ _ _ _ (by show k≠w.heap.size+4;omega)).trans (bl.out.2.1 k hk),(heap_setCell_other _ _ _ _ (by show w.heap.size+3≠w.heap.size+4;omega)).trans bl.out.2.2.1,?_⟩
  rw[heap_setCell_same _ _ _ _ _ _ bl.out.2.2.2.1]
  simp[iv]
 have bf:M.heap.size=w.heap.size+5:=by rw[ck];simp[World.setCell];exact bl.out.2.2.2.2
 clear ck bl
 have A:M.heap[w.heap.size]?=some (.cells #[.string d.name,.slice d.at_ d.ts.length d.ct,.slice d.ar d.rs.length d.cr,.slice d.ah d.hs.length d.ch,.int .i64 d.g] 32 (0,0)):=(bn.out.2.1 _ (by omega)).trans L.out.2.1
 have c0:M.cell? ⟨w.heap.size,0,none⟩=some (.string d.name):=by simp[World.cell?,A]
 have c1:M.cell? ⟨w.heap.size,1,none⟩=some (.slice d.at_ d.ts.length d.ct):=by simp[World.cell?,A]
 have c2:M.cell? ⟨w.heap.size,2,none⟩=some (.slice d.ar d.rs.length d.cr):=by simp[World.cell?,A]
 have c3:M.cell? ⟨w.heap.size,3,none⟩=some (.slice d.ah d.hs.length d.ch):=by simp[World.cell?,A]
 have c4:M.cell? ⟨w.heap.size,4,none⟩=some (.int .i64 d.g):=by simp[World.cell?,A]
 go_upto_region 10 with fail
 clear A
 clear c0 c1 c2 c3 c4
 obtain⟨bL,cI⟩:∃ bL,bL=M.alloc (.cells (madeCells #[.slice none 0 0] (d.rs.length+1)) 57):=⟨_,rfl⟩
 rw[←cI]
 have bV:Hid (bL.heap.size=w.heap.size+6∧Below w.heap.size w bL∧(∀ k,k<w.heap.size+5→bL.heap[k]?=M.heap[k]?)∧bL.heap[w.heap.size+5]?=some (.cells (Ksx [] d.rs++List.replicate (d.rs.length+1-0) (Value.slice none 0 0)).toArray 57 (0,0))):=by
  rw[cI]
  refine⟨by rw[Oa7,bf],Jc bn.out.1 _,fun k hk=>Oa9 _ _ _ (by omega),?_⟩
  rw[Kt7 _ _ _ bf.symm]
  have:madeCells #[.slice none 0 0] (d.rs.length+1)=(Ksx [] d.rs++List.replicate (d.rs.length+1-0) (Value.slice none 0 0)).toArray:=by
   apply Array.toList_inj.1
   rw[Kux]
   simp[Ksx]
  rw[this]
 clear cI bf da
 go_loopw [7] (fun cL wr=>∃ (j:Nat) (bs:List Nat),cL=.int .i64 (j:Int)∧j≤d.rs.length∧Hid (bs.length=j∧Below w.heap.size w wr∧w.heap.size+6≤wr.heap.size∧(∀ k,k<w.heap.size+5→wr.heap[k]?=M.heap[k]?)∧wr.heap[w.heap.size+5]?=some (.cells (Ksx bs d.rs++List.replicate (d.rs.length+1-j) (Value.slice none 0 0)).toArray 57 (0,0))∧(∀ (i:Nat) b r,bs[i]?=some b→d.rs[i]?=some r→Kv wr b (r++[Kr9]++[Kr9]) [])∧(∀ b∈bs,w.heap.size+5<b∧b<wr.heap.size)∧bs.Pairwise (·<·))) (fun cL _=>d.rs.length-(intOf cL).toNat)
 case atStart=>exact⟨0,[],rfl,Ob7 _,rfl,bV.out.2.1,by have:=bV.out.1;omega,bV.out.2.2.1,bV.out.2.2.2,by simp,by simp,List.Pairwise.nil⟩
 case round=>
  clear bV
  obtain⟨j,bs,rfl,dB,bx⟩:=hrel
  have A:wr.heap[w.heap.size]?=some (.cells #[.string d.name,.slice d.at_ d.ts.length d.ct,.slice d.ar d.rs.length d.cr,.slice d.ah d.hs.length d.ch,.int .i64 d.g] 32 (0,0)):=(bx.out.2.2.2.1 _ (by omega)).trans ((bn.out.2.1 _ (by omega)).trans L.out.2.1)
  have c0:wr.cell? ⟨w.heap.size,0,none⟩=some (.string d.name):=by simp[World.cell?,A]
  have c1:wr.cell? ⟨w.heap.size,1,none⟩=some (.slice d.at_ d.ts.length d.ct):=by simp[World.cell?,A]
  have c2:wr.cell? ⟨w.heap.size,2,none⟩=some (.slice d.ar d.rs.length d.cr):=by simp[World.cell?,A]
  have c3:wr.cell? ⟨w.heap.size,3,none⟩=some (.slice d.ah d.hs.length d.ch):=by simp[World.cell?,A]
  have c4:wr.cell? ⟨w.heap.size,4,none⟩=some (.int .i64 d.g):=by simp[World.cell?,A]
  by_cases bA:j<d.rs.length
  ·obtain⟨b3,o3,dJ,dK,cW,_,dM,dg⟩:=(cc.out.rows.below bx.out.2.1).at bA
   rw[cW]at c2
   clear cW
   have cS:Hid (∃ r,d.rs[j]?=some r∧r=d.rs[j]):=⟨_,Oa3 bA,rfl⟩
   have de:=cc.out.lrr _ (Ob3 bA)
   generalize dc:d.rs[j]=r at dM dg cS de
   have cf:Hid (d.rs[j]?=some r∧j<d.rs.length):=⟨by rw[Oa3 bA,dc],bA⟩
   clear dc cS
   have dz:=Kx8 dJ dK r wr de dg
   have ca:(0:Int)≤(j:Int):=by omega
   have cb:(j:Int)<(d.rs.length:Int):=by omega
   have dS:(j:Int)<(d.rs.length:Int)+1:=by omega
   have cT:Hid (∀ Z,Below wr.heap.size wr Z→Z.cell? ⟨w.heap.size+5,j,none⟩=some (.slice none 0 0)∧Z.frozen? ⟨w.heap.size+5,j,none⟩=false):=fun Z dw=>by
    have bE:Z.heap[w.heap.size+5]?=_:=(dw.block _ (by have:=bx.out.2.2.1;omega)).trans bx.out.2.2.2.2.1
    have bH:(Ksx bs d.rs).length=j:=by unfold Ksx;rw[Oj8,bx.out.1];omega
    have dy:(Ksx bs d.rs++List.replicate (d.rs.length+1-j) (Value.slice none 0 0))[j]?=some (.slice none 0 0):=by rw[Ob6 (by omega),bH,Oe1,Of3,if_pos (by omega)]
    exact⟨Ksd bE dy,by simp[World.frozen?,bE]⟩
   clear bA A
   go_wp2_with (go_at_call 61;refine dz.mono ?_;rintro e bU ⟨rfl,db,bh⟩;have dk:=(cT.out bU bh).1;have dl:=(cT.out bU bh).2)
   go_roundw
   case rel=>
    obtain⟨k1,bJ,cy,bQ,bR,bS,br,bT⟩:=bx.out
    have dP:=bh.size
    have bH:(Ksx bs d.rs).length=j:=by unfold Ksx;rw[Oj8,k1];omega
    have bI:∀ k,k≠w.heap.size+5→(bU.setCell ⟨w.heap.size+5,j,none⟩ (.slice (some ⟨wr.heap.size,0,none⟩) r.length (r.length+2))).heap[k]?=bU.heap[k]?:=fun k hk=>heap_setCell_other _ _ _ _ hk
    refine⟨j+1,bs++[wr.heap.size],by go_num,cf.out.2,by rw[Oa8,k1];rfl,?_,?_,fun k hk=>?_,?_,fun i b dI J bW=>?_,fun b J=>?_,?_⟩
    ·exact(Jb bJ bh).setCell (p:=⟨w.heap.size+5,j,none⟩) (by show w.heap.size≤w.heap.size+5;omega) _
    ·simp[World.setCell]
     omega
    ·rw[bI k (by omega),bh.block k (by omega)]
     exact bQ k hk
    ·rw[heap_setCell_same _ _ _ _ _ _ ((bh.block _ (by omega)).trans bR)]
     have hs:Ksx (bs++[wr.heap.size]) d.rs=Ksx bs d.rs++[Value.slice (some ⟨wr.heap.size,0,none⟩) r.length (r.length+2)]:=by
      have df:d.rs=d.rs.take j++(r::d.rs.drop (j+1)):=by
       obtain⟨bA,e⟩:=Ob9.1 cf.out.1
       rw[←e,List.getElem_cons_drop,Ok3]
      have ci:Ksx bs d.rs=Ksx bs (d.rs.take j):=by
       unfold Ksx
       conv=>lhs;rw[df]
       rw[←Od7 bs,Oo5 (by rw[Oc7,k1];omega)]
       simp
      rw[ci]
      unfold Ksx
      conv=>lhs;rw[df]
      rw[Oo5 (by rw[Oc7,k1];omega)]
      rfl
     rw[hs]
     have dD:d.rs.length+1-j=(d.rs.length+1-(j+1))+1:=by omega
     rw[dD,List.replicate_succ]
     simp only[Oa1]
     rw[Ok4 _ _ (by omega),bH,Oe1,List.set_cons_zero]
     simp
    ·by_cases hi:i<bs.length
     ·rw[Ob0 hi]at J
      have cD:=br b (Of6 J)
      exact(bS i b dI J bW).of_block ((bI b (by omega)).trans (bh.block b cD.2))
     have dA:i=bs.length:=by
      have:=(Ob9.1 J).1
      rw[Oa8]at this
      simp only[List.length_cons,List.length_nil]at this
      omega
     subst dA
     rw[Ob6 (Oa2 _),Oe1]at J
     cases J
     rw[k1,cf.out.1]at bW
     cases bW
     exact db.of_block (bI _ (by omega))
    ·have dh:(bU.setCell ⟨w.heap.size+5,j,none⟩ (.slice (some ⟨wr.heap.size,0,none⟩) r.length (r.length+2))).heap.size=bU.heap.size:=by simp[World.setCell]
     rw[dh]
     have dO:=db.lt
     rcases Od2.1 J with J|J
     ·have:=br b J
      omega
     rw[Oc6]at J
     omega
    rw[List.pairwise_append]
    refine⟨bT,List.pairwise_singleton _ _,fun a dx b J=>?_⟩
    rw[Oc6]at J
    have:=br a dx
    omega
   case measure=>have:=cf.out.2;simp[intOf];omega
  have dC:j=d.rs.length:=by omega
  subst dC
  have dL:¬ ((d.rs.length:Int)<(d.rs.length:Int)):=by omega
  go_upto_region 13 with fail
  clear c0 c1 c3 c4 A dL bA dB
  have ca:(0:Int)≤(d.rs.length:Int):=by omega
  have cb:(d.rs.length:Int)<(d.rs.length:Int)+1:=by omega
  refine wp_region_held_drew (S:=fun Z=>Z.cell? ⟨w.heap.size,2,none⟩=some (.slice d.ar d.rs.length d.cr)) (by kernel_rfl) (Jh c2) (fun I=>?_)
  refine Kn 0 rfl I ?_
  refine Kn 1 rfl I ?_
  refine Kn 2 rfl I ?_
  refine Kn 3 rfl I ?_
  refine Kn 4 rfl I ?_
  refine tkn ?_
  refine tkr 5 rfl fun bC bc=>?_
  go_simp
  refine(Ksn 0 _).mono ?_
  rintro e bz ⟨rfl,cl⟩
  go_simp
  refine bc.out _ _ (Ja cl I) (fun I=>?_)
  clear bc bC
  refine tkr 6 rfl fun bC bc=>?_
  go_simp
  have bh:Below bz.heap.size bz (bz.alloc (.cells #[.int .i64 (-7),.int .i64 0,.string ⟨#[109,97,114,107]⟩] 55)):=Jc (Oa5 _ _) _
  have bZ:=heap_alloc_new bz (.cells #[.int .i64 (-7),.int .i64 0,.string ⟨#[109,97,114,107]⟩] 55)
  refine bc.out _ _ (Ja bh I) (fun I=>?_)
  clear bc bC
  have bO:Below wr.heap.size wr (bz.alloc (.cells #[.int .i64 (-7),.int .i64 0,.string ⟨#[109,97,114,107]⟩] 55)):=Jb (Jw cl) bh
  have cB:Hid (wr.heap.size≤bz.heap.size):=cl.size
  generalize bz.alloc (.cells #[.int .i64 (-7),.int .i64 0,.string ⟨#[109,97,114,107]⟩] 55)=Y at bZ bO I ⊢
  clear bh cl
  generalize bz.heap.size=K at bZ cB ⊢
  refine Kn 7 rfl I ?_
  refine tkn ?_
  obtain⟨k1,bJ,cy,bQ,bR,bS,br,bT⟩:=bx.out
  have bH:(Ksx bs d.rs).length=d.rs.length:=by unfold Ksx;rw[Oj8,k1];omega
  have bX:=(bO.block _ (by omega)).trans bR
  rw[show d.rs.length+1-d.rs.length=1 by omega]at bX
  have dk:Y.cell? ⟨w.heap.size+5,d.rs.length,none⟩=some (.slice none 0 0):=Ksd bX (by rw[Ob6 (by omega),bH,Oe1];rfl)
  have dl:Y.frozen? ⟨w.heap.size+5,d.rs.length,none⟩=false:=by simp[World.frozen?,bX]
  have bB:Hid (Below w.heap.size w (Y.setCell ⟨w.heap.size+5,d.rs.length,none⟩ (.slice (some ⟨K,0,none⟩) 1 1))∧(∀ k,k<w.heap.size+5→(Y.setCell ⟨w.heap.size+5,d.rs.length,none⟩ (.slice (some ⟨K,0,none⟩) 1 1)).heap[k]?=M.heap[k]?)∧(Y.setCell ⟨w.heap.size+5,d.rs.length,none⟩ (.slice (some ⟨K,0,none⟩) 1 1)).heap[w.heap.size+5]?=some (.cells (Ksx bs d.rs++[Value.slice (some ⟨K,0,none⟩) 1 1]).toArray 57 (0,0))∧(∀ (i:Nat) b r,bs[i]?=some b→d.rs[i]?=some r→Kv (Y.setCell ⟨w.heap.size+5,d.rs.length,none⟩ (.slice (some ⟨K,0,none⟩) 1 1)) b (r++[Kr9]++[Kr9]) [])∧VAt (Y.setCell ⟨w.heap.size+5,d.rs.length,none⟩ (.slice (some ⟨K,0,none⟩) 1 1)) K 0 Kr9∧(∀ b∈bs,w.heap.size+5<b∧b<K)∧w.heap.size+5<K∧K<(Y.setCell ⟨w.heap.size+5,d.rs.length,none⟩ (.slice (some ⟨K,0,none⟩) 1 1)).heap.size∧bs.Pairwise (·<·)∧bs.length=d.rs.length):=by
   have bI:∀ k,k≠w.heap.size+5→(Y.setCell ⟨w.heap.size+5,d.rs.length,none⟩ (.slice (some ⟨K,0,none⟩) 1 1)).heap[k]?=Y.heap[k]?:=fun k hk=>heap_setCell_other _ _ _ _ hk
   have dh:(Y.setCell ⟨w.heap.size+5,d.rs.length,none⟩ (.slice (some ⟨K,0,none⟩) 1 1)).heap.size=Y.heap.size:=by simp[World.setCell]
   have dR:=Jd bZ
   have dQ:=cB.out
   refine⟨(Jb bJ bO).setCell (p:=⟨w.heap.size+5,d.rs.length,none⟩) (by show w.heap.size≤w.heap.size+5;omega) _,fun k hk=>?_,?_,fun i b r J bW=>?_,?_,fun b J=>?_,by omega,by omega,bT,k1⟩
   ·rw[bI k (by omega),bO.block k (by omega)]
    exact bQ k hk
   ·rw[heap_setCell_same _ _ _ _ _ _ bX]
    simp only[Oa1]
    rw[Ok4 _ _ (by omega),bH,Oe1]
    rfl
   ·have cD:=br b (Of6 J)
    exact(bS i b r J bW).of_block ((bI b (by omega)).trans (bO.block b cD.2))
   ·have dE:=(bI K (by omega)).trans bZ
    refine⟨?_,?_,?_⟩<;>simp[World.cell?,dE,Kr9]
   have:=br b J
   omega
  clear k1 bJ cy bQ bR bS br bT bH bX bZ bO cB bx
  refine tkr 8 rfl fun bC bc=>?_
  go_simp
  have cV:(Y.setCell ⟨w.heap.size+5,d.rs.length,none⟩ (.slice (some ⟨K,0,none⟩) 1 1)).cell? ⟨w.heap.size,2,none⟩=some (.slice d.ar d.rs.length d.cr):=by
   have ci:=(bB.out.2.1 _ (by omega)).trans ((bn.out.2.1 _ (by omega)).trans L.out.2.1)
   simp[World.cell?,ci]
  refine bc.out _ _ cV (fun _=>?_)
  clear bc bC I dk dl cV c2
  refine wpAnyH_done (by kernel_rfl) ?_ _
  generalize Y.setCell ⟨w.heap.size+5,d.rs.length,none⟩ (.slice (some ⟨K,0,none⟩) 1 1)=ba at bB ⊢
  have A:ba.heap[w.heap.size]?=some (.cells #[.string d.name,.slice d.at_ d.ts.length d.ct,.slice d.ar d.rs.length d.cr,.slice d.ah d.hs.length d.ch,.int .i64 d.g] 32 (0,0)):=(bB.out.2.1 _ (by omega)).trans ((bn.out.2.1 _ (by omega)).trans L.out.2.1)
  have c1:ba.cell? ⟨w.heap.size,1,none⟩=some (.slice d.at_ d.ts.length d.ct):=by simp[World.cell?,A]
  have cn:ba.heap[w.heap.size+1+1]?=some (.cells #[.string d.name,.slice none 0 0,.slice none 0 0] 30 (0,0)):=(bB.out.2.1 _ (by omega)).trans ((bn.out.2.1 _ (by omega)).trans L.out.2.2.2)
  have bD:ba.cell? ⟨w.heap.size+1+1,1,none⟩=some (.slice none 0 0):=by simp[World.cell?,cn]
  have cC:ba.frozen? ⟨w.heap.size+1+1,1,none⟩=false:=by simp[World.frozen?,cn]
  have di:(0:Int)≤(d.ts.length:Int):=by omega
  have cx:(d.ts.length:Int)≤(d.ts.length:Int)+1:=by omega
  go_upto_region 15 with fail
  obtain⟨bi,bM⟩:∃ bi,bi=ba.setCell ⟨w.heap.size+1+1,1,none⟩ (.slice (some ⟨w.heap.size+3,0,none⟩) d.ts.length (d.ts.length+1)):=⟨_,rfl⟩
  rw[←bM]
  have cz:Hid (∀ k,k≠w.heap.size+1+1→bi.heap[k]?=ba.heap[k]?):=fun k hk=>by rw[bM];exact heap_setCell_other _ _ _ _ hk
  have cu:bi.heap[w.heap.size+1+1]?=some (.cells #[.string d.name,.slice (some ⟨w.heap.size+3,0,none⟩) d.ts.length (d.ts.length+1),.slice none 0 0] 30 (0,0)):=by rw[bM,heap_setCell_same _ _ _ _ _ _ cn];rfl
  have cR:Hid (Below w.heap.size w bi):=by rw[bM];exact bB.out.1.setCell (p:=⟨w.heap.size+1+1,1,none⟩) (by show w.heap.size≤w.heap.size+1+1;omega) _
  have cU:Hid (bi.heap.size=ba.heap.size):=by rw[bM];show (World.setCell _ _ _).heap.size=_;simp[World.setCell]
  clear bM bD cC cn c1 di cx
  have cX:=(cz.out w.heap.size (by omega)).trans A
  have c2:bi.cell? ⟨w.heap.size,2,none⟩=some (.slice d.ar d.rs.length d.cr):=by simp[World.cell?,cX]
  have bD:bi.cell? ⟨w.heap.size+1+1,2,none⟩=some (.slice none 0 0):=by simp[World.cell?,cu]
  have cC:bi.frozen? ⟨w.heap.size+1+1,2,none⟩=false:=by simp[World.frozen?,cu]
  have cx:(d.rs.length:Int)≤(d.rs.length:Int)+1:=by omega
  go_upto_region 16 with fail
  obtain⟨H,bN⟩:∃ H,H=bi.setCell ⟨w.heap.size+1+1,2,none⟩ (.slice (some ⟨w.heap.size+5,0,none⟩) d.rs.length (d.rs.length+1)):=⟨_,rfl⟩
  rw[←bN]
  have cA:Hid (∀ k,k≠w.heap.size+1+1→H.heap[k]?=ba.heap[k]?):=fun k hk=>by rw[bN];exact(heap_setCell_other _ _ _ _ hk).trans (cz.out k hk)
  have cv:H.heap[w.heap.size+1+1]?=some (.cells #[.string d.name,.slice (some ⟨w.heap.size+3,0,none⟩) d.ts.length (d.ts.length+1),.slice (some ⟨w.heap.size+5,0,none⟩) d.rs.length (d.rs.length+1)] 30 (0,0)):=by rw[bN,heap_setCell_same _ _ _ _ _ _ cu];rfl
  have dn:Hid (Below w.heap.size w H):=by rw[bN];exact cR.out.setCell (p:=⟨w.heap.size+1+1,2,none⟩) (by show w.heap.size≤w.heap.size+1+1;omega) _
  have dp:Hid (H.heap.size=ba.heap.size):=by rw[bN];show (World.setCell _ _ _).heap.size=_;simp[World.setCell];exact cU.out
  clear bN bD cC c2 cx cu cX cz cR cU
  have cJ:=(cA.out w.heap.size (by omega)).trans A
  have bb:H.heap[w.heap.size+1]?=some (.cells #[.string ⟨#[]⟩,.slice none 0 0,.slice none 0 0,.slice none 0 0,.int .i64 0] 32 (0,0)):=(cA.out _ (by omega)).trans ((bB.out.2.1 _ (by omega)).trans ((bn.out.2.1 _ (by omega)).trans L.out.2.2.1))
  have c3:H.cell? ⟨w.heap.size,3,none⟩=some (.slice d.ah d.hs.length d.ch):=by simp[World.cell?,cJ]
  have c4:H.cell? ⟨w.heap.size,4,none⟩=some (.int .i64 d.g):=by simp[World.cell?,cJ]
  have cM:H.cell? ⟨w.heap.size+1+1,0,none⟩=some (.string d.name):=by simp[World.cell?,cv]
  have cN:H.cell? ⟨w.heap.size+1+1,1,none⟩=some (.slice (some ⟨w.heap.size+3,0,none⟩) d.ts.length (d.ts.length+1)):=by simp[World.cell?,cv]
  have cO:H.cell? ⟨w.heap.size+1+1,2,none⟩=some (.slice (some ⟨w.heap.size+5,0,none⟩) d.rs.length (d.rs.length+1)):=by simp[World.cell?,cv]
  have di:(0:Int)≤(d.hs.length:Int):=by omega
  have cx:(d.hs.length:Int)≤(d.hs.length:Int)+1:=by omega
  refine wp_region_held_drew (S:=fun Z=>Z.cell? ⟨w.heap.size,3,none⟩=some (.slice d.ah d.hs.length d.ch)∧Z.cell? ⟨w.heap.size,4,none⟩=some (.int .i64 d.g)∧Z.cell? ⟨w.heap.size+1+1,0,none⟩=some (.string d.name)∧Z.cell? ⟨w.heap.size+1+1,1,none⟩=some (.slice (some ⟨w.heap.size+3,0,none⟩) d.ts.length (d.ts.length+1))∧Z.cell? ⟨w.heap.size+1+1,2,none⟩=some (.slice (some ⟨w.heap.size+5,0,none⟩) d.rs.length (d.rs.length+1))) (by kernel_rfl) ⟨Jh c3,Jh c4,Jh cM,Jh cN,Jh cO⟩ (fun I=>?_)
  refine Kn 0 rfl I ?_
  refine Kn 1 rfl I ?_
  refine Kn 2 rfl I ?_
  refine Kn 3 rfl I ?_
  refine Kn 4 rfl I ?_
  refine Kn 5 rfl I ?_
  refine Kn 6 rfl I ?_
  refine Kn 7 rfl I ?_
  refine Kn 8 rfl I ?_
  refine tkn ?_
  have cK:=Jk (Jk (Jk (Jk (Jk bb 0 (.string d.name)) 1 (.slice (some ⟨w.heap.size+3,0,none⟩) d.ts.length (d.ts.length+1))) 2 (.slice (some ⟨w.heap.size+5,0,none⟩) d.rs.length (d.rs.length+1))) 3 (.slice (some ⟨w.heap.size+4,0,none⟩) d.hs.length (d.hs.length+1))) 4 (.int .i64 d.g)
  simp only[Oa1,List.set_cons_zero,List.set_cons_succ]at cK
  have dm:Hid _:=cK
  have dq:H.cell? ⟨w.heap.size+1,0,none⟩=some (.string ⟨#[]⟩):=by simp[World.cell?,bb]
  have dr:H.cell? ⟨w.heap.size+1,1,none⟩=some (.slice none 0 0):=by simp[World.cell?,bb]
  have ds:H.cell? ⟨w.heap.size+1,2,none⟩=some (.slice none 0 0):=by simp[World.cell?,bb]
  have dt:H.cell? ⟨w.heap.size+1,3,none⟩=some (.slice none 0 0):=by simp[World.cell?,bb]
  have du:H.cell? ⟨w.heap.size+1,4,none⟩=some (.int .i64 0):=by simp[World.cell?,bb]
  have b0:H.frozen? ⟨w.heap.size+1,0,none⟩=false:=by simp[World.frozen?,bb]
  have b1:H.frozen? ⟨w.heap.size+1,1,none⟩=false:=by simp[World.frozen?,bb]
  have b2:H.frozen? ⟨w.heap.size+1,2,none⟩=false:=by simp[World.frozen?,bb]
  have b3:H.frozen? ⟨w.heap.size+1,3,none⟩=false:=by simp[World.frozen?,bb]
  have dv:H.frozen? ⟨w.heap.size+1,4,none⟩=false:=by simp[World.frozen?,bb]
  clear cK bb cv cJ A
  refine tkr 9 rfl fun bC bc=>?_
  go_simp
  have bP:∀ (b o:Nat) u,b≠w.heap.size+1→H.cell? ⟨b,o,none⟩=some u→(((((H.setCell ⟨w.heap.size+1,0,none⟩ (.string d.name)).setCell ⟨w.heap.size+1,1,none⟩ (.slice (some ⟨w.heap.size+3,0,none⟩) d.ts.length (d.ts.length+1))).setCell ⟨w.heap.size+1,2,none⟩ (.slice (some ⟨w.heap.size+5,0,none⟩) d.rs.length (d.rs.length+1))).setCell ⟨w.heap.size+1,3,none⟩ (.slice (some ⟨w.heap.size+4,0,none⟩) d.hs.length (d.hs.length+1))).setCell ⟨w.heap.size+1,4,none⟩ (.int .i64 d.g)).drew.cell? ⟨b,o,none⟩=some u:=fun b o u bE bY=>by
   rw[←bY]
   show World.cell? _ _=World.cell? H _
   simp only[World.cell?,World.drew,Zh _ _ _ _ _ _ _ b bE]
  refine bc.out _ _ ⟨bP _ _ _ (by omega) c3,bP _ _ _ (by omega) c4,bP _ _ _ (by omega) cM,bP _ _ _ (by omega) cN,bP _ _ _ (by omega) cO⟩ (fun _=>?_)
  clear bc bC bP I c3 c4 cM cN cO dq dr ds dt du b0 b1 b2 b3 dv
  refine wpAnyH_done (by kernel_rfl) ?_ _
  go_wp2
  refine bodyPost_ret (v:=.agg #[.string d.name,.slice (some ⟨w.heap.size+3,0,none⟩) d.ts.length (d.ts.length+1),.slice (some ⟨w.heap.size+5,0,none⟩) d.rs.length (d.rs.length+1),.slice (some ⟨w.heap.size+4,0,none⟩) d.hs.length (d.hs.length+1),.int .i64 d.g]) (by simp[results,results35,go_sem,World.cell?,dm.out,World.drew]) rfl ?_
  obtain⟨k1,bJ,cy,bQ,bR,bS,br,bT,dH,dG⟩:=bB.out
  refine⟨Jj (Um dn.out (by omega) _ _ _ _ _),w.heap.size+3,w.heap.size+4,w.heap.size+5,K,bs,rfl,Kvs.of_block (w:=ba) ⟨?_,?_,cy,bR,dG,bQ,by omega,by omega,br,bT,bS,dH⟩ ?_ fun k ci dN=>?_,by omega⟩
  ·exact(bJ _ (by omega)).trans bn.out.2.2.1
  ·exact(bJ _ (by omega)).trans bn.out.2.2.2
  ·show ba.heap.size≤(World.setCell _ _ _).heap.size
   rw[Jg2,dp.out]
   exact Oa2 _
  show (World.setCell _ _ _).heap[k]?=_
  rw[Zh _ _ _ _ _ _ _ k (by omega)]
  exact cA.out k (by omega)
attribute [local go_sem] Oc0
theorem Ks3 {w:World}{g:Nat}{ts:List Int}{H:List Value}(h:w.heap[g]?=some (.cells (ts.map iv++H).toArray 3 (0,0))):Kc w (some ⟨g,0,none⟩) ts:=by
 refine .inr ⟨g,0,rfl,Jd h,fun i v A=>?_⟩
 have hi:i<(ts.map iv).length:=(Ob9.1 A).1
 rw[Od0]
 exact Ksd h (by rw[Ob0 hi];exact A)
theorem Ks8 {bs:List Nat}{rs:List (List V)}(h:bs.length=rs.length):(Ksx bs rs).length=rs.length:=by
 unfold Ksx
 rw[Oj8,h,Nat.min_self]
theorem Qbn {bs:List Nat}{rs:List (List V)}{i b:Nat}{r:List V}(A:bs[i]?=some b)(H:rs[i]?=some r):(Ksx bs rs)[i]?=some (.slice (some ⟨b,0,none⟩) r.length (r.length+2)):=by
 unfold Ksx
 rw[Ok5,A,H]
structure Qa5 (w wr:World) (d:Dx) (tb hb rb zb:Nat) (bs:List Nat) (i:Nat):Prop where
 ty:wr.heap[tb]?=w.heap[tb]?
 hw:wr.heap[hb]?=w.heap[hb]?
 rw:∃ cs,wr.heap[rb]?=some (.cells cs 57 (0,0))∧cs.size=d.rs.length+1∧∀ k,i≤k→k<d.rs.length→cs[k]?=(Ksx bs d.rs)[k]?
 row:∀ (k:Nat) b,i≤k→bs[k]?=some b→wr.heap[b]?=w.heap[b]?
 keep:Ju (fun k=>tb≤k∧k≤zb) w wr
theorem Kzh (d:Dx)(H I J O:Nat)(bs:List Nat)(w ba:World)(bW:Kvs w d H I J O bs)(bI:Kte ba d)(cF:Below ba.heap.size ba w)(cL:ba.heap.size≤H) :
  Calls prog 37 #[.agg #[.string d.name,.slice (some ⟨H,0,none⟩) d.ts.length (d.ts.length+1),.slice (some ⟨J,0,none⟩) d.rs.length (d.rs.length+1),.slice (some ⟨I,0,none⟩) d.hs.length (d.hs.length+1),.int .i64 d.g],d.val] w fun e w'=>e=.returned (.bool true)∧Ju (fun k=>H≤k∧k≤O) w w':=by
 have L:Hid (Kvs w d H I J O bs∧Kte ba d∧Below ba.heap.size ba w∧ba.heap.size≤H):=⟨bW,bI,cF,cL⟩
 have dG:=bI.lt
 have dH:=bI.lr
 have dI:=bI.lh
 obtain⟨o1,o2,o3,dt,ck,du⟩:=bW.ord
 unfold Dx.val
 obtain⟨W,hW⟩:∃ W,W=(w.alloc (.cells #[.string d.name,.slice (some ⟨H,0,none⟩) d.ts.length (d.ts.length+1),.slice (some ⟨J,0,none⟩) d.rs.length (d.rs.length+1),.slice (some ⟨I,0,none⟩) d.hs.length (d.hs.length+1),.int .i64 d.g] 32)).alloc (.cells #[.string d.name,.slice d.at_ d.ts.length d.ct,.slice d.ar d.rs.length d.cr,.slice d.ah d.hs.length d.ch,.int .i64 d.g] 32):=⟨_,rfl⟩
 have U:Hid (Below w.heap.size w W∧W.heap.size=w.heap.size+2∧W.heap[w.heap.size]?=some (.cells #[.string d.name,.slice (some ⟨H,0,none⟩) d.ts.length (d.ts.length+1),.slice (some ⟨J,0,none⟩) d.rs.length (d.rs.length+1),.slice (some ⟨I,0,none⟩) d.hs.length (d.hs.length+1),.int .i64 d.g] 32 (0,0))∧W.heap[w.heap.size+1]?=some (.cells #[.string d.name,.slice d.at_ d.ts.length d.ct,.slice d.ar d.rs.length d.cr,.slice d.ah d.hs.length d.ch,.int .i64 d.g] 32 (0,0))):=by
  rw[hW]
  refine⟨((Oa5 _ w).alloc (Oa2 _) _).alloc (by simp) _,by simp,?_,Kt7 _ _ _ (by simp only[Oa7])⟩
  rw[Oa9 _ _ _ (by simp only[Oa7];omega)]
  exact heap_alloc_new _ _
 clear bW bI cF cL
 go_enter func37,ntmps37
 go_upto_region 1 with fail
 rw[←hW]
 clear hW
 have c1:W.cell? ⟨w.heap.size,1,none⟩=some (.slice (some ⟨H,0,none⟩) d.ts.length (d.ts.length+1)):=by simp[World.cell?,U.out.2.2.1]
 have c2:W.cell? ⟨w.heap.size,2,none⟩=some (.slice (some ⟨J,0,none⟩) d.rs.length (d.rs.length+1)):=by simp[World.cell?,U.out.2.2.1]
 have c3:W.cell? ⟨w.heap.size,3,none⟩=some (.slice (some ⟨I,0,none⟩) d.hs.length (d.hs.length+1)):=by simp[World.cell?,U.out.2.2.1]
 have bE:W.cell? ⟨w.heap.size+1,1,none⟩=some (.slice d.at_ d.ts.length d.ct):=by simp[World.cell?,U.out.2.2.2]
 have bh:W.cell? ⟨w.heap.size+1,2,none⟩=some (.slice d.ar d.rs.length d.cr):=by simp[World.cell?,U.out.2.2.2]
 have bG:W.cell? ⟨w.heap.size+1,3,none⟩=some (.slice d.ah d.hs.length d.ch):=by simp[World.cell?,U.out.2.2.2]
 have bY:=Kwc (some ⟨H,0,none⟩) d.at_ (d.ts.length+1) d.ct d.ts d.ts W ((Ks3 L.out.1.ty).below U.out.1) (L.out.2.1.types.below (Jb L.out.2.2.1 U.out.1)) (by omega)
 simp only[decide_true]at bY
 go_upto_region 2 with(go_at_call 55;refine bY.mono ?_;rintro e bk ⟨rfl,bK⟩)
 have bR:Hid (Below W.heap.size W bk∧Below w.heap.size w bk):=⟨bK,Jb U.out.1 bK⟩
 have N:=(bK.block _ (by have:=U.out.2.1;omega)).trans U.out.2.2.1
 have bi:=(bK.block _ (by have:=U.out.2.1;omega)).trans U.out.2.2.2
 clear bY bK c1 c2 c3 bE bh bG
 have c1:bk.cell? ⟨w.heap.size,1,none⟩=some (.slice (some ⟨H,0,none⟩) d.ts.length (d.ts.length+1)):=by simp[World.cell?,N]
 have c2:bk.cell? ⟨w.heap.size,2,none⟩=some (.slice (some ⟨J,0,none⟩) d.rs.length (d.rs.length+1)):=by simp[World.cell?,N]
 have c3:bk.cell? ⟨w.heap.size,3,none⟩=some (.slice (some ⟨I,0,none⟩) d.hs.length (d.hs.length+1)):=by simp[World.cell?,N]
 have bE:bk.cell? ⟨w.heap.size+1,1,none⟩=some (.slice d.at_ d.ts.length d.ct):=by simp[World.cell?,bi]
 have bh:bk.cell? ⟨w.heap.size+1,2,none⟩=some (.slice d.ar d.rs.length d.cr):=by simp[World.cell?,bi]
 have bG:bk.cell? ⟨w.heap.size+1,3,none⟩=some (.slice d.ah d.hs.length d.ch):=by simp[World.cell?,bi]
 have bZ:=Kwc (some ⟨I,0,none⟩) d.ah (d.hs.length+1) d.ch d.hs d.hs bk ((Ks3 L.out.1.hw).below bR.out.2) (L.out.2.1.hows.below (Jb L.out.2.2.1 bR.out.2)) (by omega)
 simp only[decide_true]at bZ
 go_upto_region 3 with(go_at_call 55;refine bZ.mono ?_;rintro e K ⟨rfl,bL⟩)
 have bu:Hid (Below w.heap.size w K∧w.heap.size+2≤K.heap.size):=⟨Jb bR.out.2 bL,by have bH:=bR.out.1.size;have bl:=bL.size;have cW:=U.out.2.1;omega⟩
 have bM:=(bL.block _ (Jd N)).trans N
 have bN:=(bL.block _ (Jd bi)).trans bi
 clear bZ bL c1 c2 c3 bE bh bG N bi
 have c1:K.cell? ⟨w.heap.size,1,none⟩=some (.slice (some ⟨H,0,none⟩) d.ts.length (d.ts.length+1)):=by simp[World.cell?,bM]
 have c2:K.cell? ⟨w.heap.size,2,none⟩=some (.slice (some ⟨J,0,none⟩) d.rs.length (d.rs.length+1)):=by simp[World.cell?,bM]
 have c3:K.cell? ⟨w.heap.size,3,none⟩=some (.slice (some ⟨I,0,none⟩) d.hs.length (d.hs.length+1)):=by simp[World.cell?,bM]
 have bE:K.cell? ⟨w.heap.size+1,1,none⟩=some (.slice d.at_ d.ts.length d.ct):=by simp[World.cell?,bN]
 have bh:K.cell? ⟨w.heap.size+1,2,none⟩=some (.slice d.ar d.rs.length d.cr):=by simp[World.cell?,bN]
 have bG:K.cell? ⟨w.heap.size+1,3,none⟩=some (.slice d.ah d.hs.length d.ch):=by simp[World.cell?,bN]
 have bS:Hid (K.heap[w.heap.size]?=_∧K.heap[w.heap.size+1]?=_):=⟨bM,bN⟩
 clear bM bN
 go_upto_region 6 with fail
 clear bE bh bG
 have cQ:K.cell? ⟨H,d.ts.length,none⟩=some (.int .i64 (-7)):=Ja bu.out.1 (Ksd L.out.1.ty (by rw[Ob6 (by simp)];simp[iv]))
 have cR:K.cell? ⟨I,d.hs.length,none⟩=some (.int .i64 (-7)):=Ja bu.out.1 (Ksd L.out.1.hw (by rw[Ob6 (by simp)];simp[iv]))
 have cS:K.cell? ⟨J,d.rs.length,none⟩=some (.slice (some ⟨O,0,none⟩) 1 1):=Ja bu.out.1 (Ksd L.out.1.rw (by rw[Ob6 (by rw[Ks8 L.out.1.len];exact Oa2 _),Ks8 L.out.1.len,Oe1];rfl))
 obtain⟨ci,cj,m2⟩:=L.out.1.zz.of_block (bu.out.1.block O dt)
 simp only[Kr9]at ci cj m2
 have da:∀ W,(binOp .eql 55 (.agg #[.int .i64 (-7),.int .i64 0,.string ⟨#[109,97,114,107]⟩]) (.agg #[.int .i64 (-7),.int .i64 0,.string ⟨#[109,97,114,107]⟩])).run prog W=.ok (.bool true) W:=Jhz Kr9 Kr9 rfl
 have dc:(0:Int)≤(d.ts.length:Int):=by omega
 have de:(d.ts.length:Int)<(d.ts.length:Int)+1:=by omega
 have dh:(0:Int)≤(d.hs.length:Int):=by omega
 have di:(d.hs.length:Int)<(d.hs.length:Int)+1:=by omega
 have dj:(0:Int)≤(d.rs.length:Int):=by omega
 have dk:(d.rs.length:Int)<(d.rs.length:Int)+1:=by omega
 have dl:((d.ts.length:Int)+1).toNat=d.ts.length+1:=by omega
 have dm:((d.hs.length:Int)+1).toNat=d.hs.length+1:=by omega
 have dn:((d.rs.length:Int)+1).toNat=d.rs.length+1:=by omega
 have dp:(0:Int)≤(d.ts.length:Int)+1:=by omega
 have df:(0:Int)≤(d.hs.length:Int)+1:=by omega
 have dg:(0:Int)≤(d.rs.length:Int)+1:=by omega
 have k0:IntKind.i64.wrap ((d.ts.length:Int)+1)=(d.ts.length:Int)+1:=by rw[Od4];omega
 have k1:IntKind.i64.wrap ((d.hs.length:Int)+1)=(d.hs.length:Int)+1:=by rw[Od4];omega
 have bP:IntKind.i64.wrap ((d.rs.length:Int)+1)=(d.rs.length:Int)+1:=by rw[Od4];omega
 refine wp_region_held_drew (S:=fun M=>(M.cell? ⟨w.heap.size,1,none⟩=some (.slice (some ⟨H,0,none⟩) d.ts.length (d.ts.length+1))∧M.cell? ⟨w.heap.size,2,none⟩=some (.slice (some ⟨J,0,none⟩) d.rs.length (d.rs.length+1))∧M.cell? ⟨w.heap.size,3,none⟩=some (.slice (some ⟨I,0,none⟩) d.hs.length (d.hs.length+1))∧M.cell? ⟨H,d.ts.length,none⟩=some (.int .i64 (-7))∧M.cell? ⟨I,d.hs.length,none⟩=some (.int .i64 (-7))∧M.cell? ⟨J,d.rs.length,none⟩=some (.slice (some ⟨O,0,none⟩) 1 1)∧M.cell? ⟨O,0,none⟩=some (.int .i64 (-7))∧M.cell? ⟨O,1,none⟩=some (.int .i64 0)∧M.cell? ⟨O,2,none⟩=some (.string ⟨#[109,97,114,107]⟩))∧Below K.heap.size K M) (by kernel_rfl) ⟨⟨Jh c1,Jh c2,Jh c3,Jh cQ,Jh cR,Jh cS,Jh ci,Jh cj,Jh m2⟩,Jj (Oa5 _ _)⟩ (fun A=>?_)
 clear c1 c2 c3 cQ cR cS ci cj m2
 refine Kn 0 rfl A ?_
 refine Kn 1 rfl A ?_
 refine Kn 2 rfl A ?_
 refine tkn ?_
 refine Kn 3 rfl A ?_
 refine Kn 4 rfl A ?_
 refine Kn 5 rfl A ?_
 refine tkn ?_
 refine Kn 6 rfl A ?_
 refine Kn 7 rfl A ?_
 refine Kn 8 rfl A ?_
 refine tkn ?_
 refine Kn 9 rfl A ?_
 refine Kn 10 rfl A ?_
 refine Kn 11 rfl A ?_
 refine tkn ?_
 refine Kn 12 rfl A ?_
 refine Kn 13 rfl A ?_
 refine Kn 14 rfl A ?_
 refine tkn ?_
 refine Kn 15 rfl A ?_
 refine Kn 16 rfl A ?_
 refine Kn 17 rfl A ?_
 refine tkn ?_
 refine Kn 18 rfl A ?_
 refine Kn 19 rfl A ?_
 refine Kn 20 rfl A ?_
 refine tkn ?_
 refine Kn 21 rfl A ?_
 refine Kn 22 rfl A ?_
 refine Kn 23 rfl A ?_
 refine tkn ?_
 refine Kn 24 rfl A ?_
 refine Kn 25 rfl A ?_
 refine Kn 26 rfl A ?_
 refine tkn ?_
 refine Kn 27 rfl A ?_
 refine Kn 28 rfl A ?_
 refine Kn 29 rfl A ?_
 refine tkn ?_
 refine Kn 30 rfl A ?_
 refine Kn 31 rfl A ?_
 refine Kn 32 rfl A ?_
 refine tkn ?_
 refine Kn 33 rfl A ?_
 refine Kn 34 rfl A ?_
 refine Kn 35 rfl A ?_
 refine tkn ?_
 refine Kn 36 rfl A ?_
 refine Kn 37 rfl A ?_
 refine Kn 38 rfl A ?_
 refine tkn ?_
 refine Kn 39 rfl A ?_
 refine Kn 40 rfl A ?_
 refine Kn 41 rfl A ?_
 refine tkn ?_
 refine Kn 42 rfl A ?_
 refine Kn 43 rfl A ?_
 refine Kn 44 rfl A ?_
 refine tkn ?_
 refine Kn 45 rfl A ?_
 refine Kn 46 rfl A ?_
 refine Kn 47 rfl A ?_
 refine tkn ?_
 refine Kn 48 rfl A ?_
 refine Kn 49 rfl A ?_
 refine Kn 50 rfl A ?_
 refine tkn ?_
 refine Kn 51 rfl A ?_
 refine tkn ?_
 refine tkr 52 rfl fun bU bJ=>?_
 go_simp
 refine(Ksn 0 _).mono ?_
 rintro e bD ⟨rfl,bb⟩
 go_simp
 refine bJ.out _ _ ⟨⟨Ja bb A.1.1,Ja bb A.1.2.1,Ja bb A.1.2.2.1,Ja bb A.1.2.2.2.1,Ja bb A.1.2.2.2.2.1,Ja bb A.1.2.2.2.2.2.1,Ja bb A.1.2.2.2.2.2.2.1,Ja bb A.1.2.2.2.2.2.2.2.1,Ja bb A.1.2.2.2.2.2.2.2.2⟩,Jb A.2 bb⟩ (fun A=>?_)
 clear bJ bU bb
 refine Kn 53 rfl A ?_
 refine Kn 54 rfl A ?_
 refine tkn ?_
 refine Kn 55 rfl A ?_
 refine tkn ?_
 refine wpAnyH_done (by kernel_rfl) ?_ _
 clear k0 k1 bP dc de dh di dj dk dl dm dn dp df dg da
 have cD:Hid (Below w.heap.size w bD∧w.heap.size+2≤bD.heap.size∧bD.heap[w.heap.size]?=K.heap[w.heap.size]?∧bD.heap[w.heap.size+1]?=K.heap[w.heap.size+1]?):=⟨Jb bu.out.1 A.2,by have bH:=A.2.size;have bl:=bu.out.2;omega,A.2.block _ (by have:=bu.out.2;omega),A.2.block _ (by have:=bu.out.2;omega)⟩
 clear A
 have cB:Hid (Qa5 w bD d H I J O bs 0):=by
  have I:=cD.out.1
  refine⟨I.block _ (by omega),I.block _ (by omega),⟨_,(I.block _ (by omega)).trans L.out.1.rw,by simp[Ks8 L.out.1.len],fun k _ hk=>?_⟩,fun k b _ cY=>I.block b (by have:=ck b (Of6 cY);omega),.of_below I⟩
  rw[List.getElem?_toArray,Ob0 (by rw[Ks8 L.out.1.len];exact hk)]
 go_upto_region 8 with fail
 go_loopw [5,10] (fun dv bc wr=>∃ j:Nat,dv=.bool true∧bc=.int .i64 (j:Int)∧j≤d.rs.length∧Hid (Qa5 w wr d H I J O bs j∧w.heap.size+2≤wr.heap.size∧wr.heap[w.heap.size]?=K.heap[w.heap.size]?∧wr.heap[w.heap.size+1]?=K.heap[w.heap.size+1]?)) (fun _ bc _=>d.rs.length-(intOf bc).toNat)
 case atStart=>exact⟨0,rfl,rfl,Ob7 _,cB.out,cD.out.2⟩
 case round=>
  clear cB
  obtain⟨j,rfl,rfl,dz,X⟩:=hrel
  have N:=X.out.2.2.1.trans bS.out.1
  have bi:=X.out.2.2.2.trans bS.out.2
  by_cases bA:j<d.rs.length
  ·have cC:Hid (Below ba.heap.size ba wr):=L.out.2.2.1.trans (X.out.1.keep.below (fun k hk dy=>by have:=L.out.2.2.2;omega) L.out.2.2.1.size)
   obtain⟨b3,cP,cu,cv,cE,cZ,cx,ca⟩:=L.out.2.1.rows.at bA
   have cG:j<bs.length:=by rw[L.out.1.len];exact bA
   have Y:Hid (d.rs[j]?=some d.rs[j]∧bs[j]?=some bs[j]∧j<d.rs.length):=⟨Oa3 bA,Oa3 cG,bA⟩
   have cK:=L.out.2.1.lrr _ (Ob3 bA)
   generalize d.rs[j]=r at cx ca cK Y
   generalize bs[j]=b at Y
   have dx:=ck b (Of6 Y.out.2.1)
   have c2:wr.cell? ⟨w.heap.size,2,none⟩=some (.slice (some ⟨J,0,none⟩) d.rs.length (d.rs.length+1)):=by simp[World.cell?,N]
   have bh:wr.cell? ⟨w.heap.size+1,2,none⟩=some (.slice d.ar d.rs.length d.cr):=by simp[World.cell?,bi]
   rw[cE]at bh
   have cA:=Ja cC.out cx
   have cz:wr.cell? ⟨J,j,none⟩=some (.slice (some ⟨b,0,none⟩) r.length (r.length+2)):=by
    obtain⟨cs,Z,bz,cl⟩:=X.out.1.rw
    have cn:=cl j (Oa2 _) Y.out.2.2
    rw[Qbn Y.out.2.1 Y.out.1]at cn
    simp[World.cell?,Z,cn]
   have cU:Hid (∀ M,M.heap[b]?=wr.heap[b]?→Below ba.heap.size ba M→Calls prog 63 #[.slice (some ⟨b,0,none⟩) r.length (r.length+2),.slice cu r.length cv] M fun e w'=>e=.returned (.bool true)∧M.grownBy w' (some b)):=fun M bH bl=>
    Kz2 b cu cv r M cK ((L.out.1.row j b r Y.out.2.1 Y.out.1).of_block (bH.trans (X.out.1.row j b (Oa2 _) Y.out.2.1))) (ca.below bl)
   have cN:(0:Int)≤(j:Int):=by omega
   have cb:(j:Int)<(d.rs.length:Int):=by omega
   have cT:Hid (b3<H):=by have:=L.out.2.2.2;show b3<H;omega
   clear cE ca N bi cx cZ cG bA
   go_upto_region 10 with fail
   refine wp_region_held_drew (S:=fun M=>M.cell? ⟨w.heap.size,2,none⟩=some (.slice (some ⟨J,0,none⟩) d.rs.length (d.rs.length+1))∧M.cell? ⟨w.heap.size+1,2,none⟩=some (.slice (some ⟨b3,cP,none⟩) d.rs.length d.cr)∧M.cell? ⟨J,j,none⟩=some (.slice (some ⟨b,0,none⟩) r.length (r.length+2))∧M.cell? ⟨b3,cP+j,none⟩=some (.slice cu r.length cv)) (by kernel_rfl) ⟨Jh c2,Jh bh,Jh cz,Jh cA⟩ (fun A=>?_)
   refine Kn 0 rfl A ?_
   refine Kn 1 rfl A ?_
   refine Kn 2 rfl A ?_
   refine Kn 3 rfl A ?_
   refine Kn 4 rfl A ?_
   refine Kn 5 rfl A ?_
   refine Kn 6 rfl A ?_
   refine Kn 7 rfl A ?_
   refine Kn 8 rfl A ?_
   refine Kn 9 rfl A ?_
   refine Kn 10 rfl A ?_
   refine Kn 11 rfl A ?_
   refine tkn ?_
   refine tkr 12 rfl fun bU bJ=>?_
   go_simp
   refine(cU.out wr.drew rfl (Jj cC.out)).mono ?_
   rintro e bf ⟨rfl,bn⟩
   go_simp
   have bO:∀ (k o:Nat) u,k≠b→wr.cell? ⟨k,o,none⟩=some u→bf.cell? ⟨k,o,none⟩=some u:=fun k o u hk cM=>by
    rw[←cM]
    exact Oc3 (bn.block k (Jm cM) fun e=>hk (Oj6 e))
   have cX:bf.cell? ⟨w.heap.size,2,none⟩=some (.slice (some ⟨J,0,none⟩) d.rs.length (d.rs.length+1)):=bO _ _ _ (by omega) c2
   refine bJ.out _ _ ⟨cX,bO _ _ _ (by omega) bh,bO _ _ _ (by omega) cz,bO _ _ _ (by have:=cT.out;omega) cA⟩ (fun A=>?_)
   clear bJ bU
   refine Kn 13 rfl A ?_
   refine tkn ?_
   refine wpAnyH_done (by kernel_rfl) ?_ _
   have bC:Hid (Qa5 w (bf.setCell ⟨J,j,none⟩ (.slice none 0 0)) d H I J O bs (j+1)∧w.heap.size+2≤(bf.setCell ⟨J,j,none⟩ (.slice none 0 0)).heap.size∧(bf.setCell ⟨J,j,none⟩ (.slice none 0 0)).heap[w.heap.size]?=K.heap[w.heap.size]?∧(bf.setCell ⟨J,j,none⟩ (.slice none 0 0)).heap[w.heap.size+1]?=K.heap[w.heap.size+1]?):=by
    obtain⟨⟨k1,bP,⟨cs,br,cc,bQ⟩,cf,cO⟩,dD,dr,dq⟩:=X.out
    have db:=bn.size
    have dB:(bf.setCell ⟨J,j,none⟩ (.slice none 0 0)).heap.size=bf.heap.size:=by simp[World.setCell]
    have dA:wr.heap.size≤bf.heap.size:=db
    have bB:∀ k,k<wr.heap.size→k≠J→k≠b→(bf.setCell ⟨J,j,none⟩ (.slice none 0 0)).heap[k]?=wr.heap[k]?:=fun k hk n1 ds=>(heap_setCell_other _ _ _ _ n1).trans (bn.block k hk fun e=>ds (Oj6 e))
    have bX:=(bn.block J (Jd br) fun e=>by have:=Oj6 e;omega).trans br
    have dE:=cO.size
    refine⟨⟨(bB H (by omega) (by omega) (by omega)).trans k1,(bB I (by omega) (by omega) (by omega)).trans bP,⟨_,Jk bX j _,by simp[cc],fun k bH bl=>?_⟩,fun k bV bH bl=>?_,?_⟩,by omega,(bB _ (by omega) (by omega) (by omega)).trans dr,(bB _ (by omega) (by omega) (by omega)).trans dq⟩
    ·rw[Array.getElem?_setIfInBounds_ne (by omega)]
     exact bQ k (by omega) bl
    ·have cW:=ck bV (Of6 bl)
     refine(bB bV (by omega) (by omega) fun e=>?_).trans (cf k bV (by omega) bl)
     subst e
     obtain⟨Z,bz⟩:=Ob9.1 bl
     obtain⟨cl,cn⟩:=Ob9.1 Y.out.2.1
     have:=List.pairwise_iff_getElem.1 du j k cl Z (by omega)
     omega
    refine cO.trans ⟨bn.os,bn.tape,bn.output,by omega,fun k hk cJ=>?_⟩
    exact bB k hk (fun e=>cJ (by omega)) fun e=>cJ (by omega)
   have dK:bf.frozen? ⟨J,j,none⟩=false:=by
    obtain⟨cs,br,_,_⟩:=X.out.1.rw
    have bX:=(bn.block J (Jd br) fun e=>by have:=Oj6 e;omega).trans br
    simp[World.frozen?,bX]
   have dJ:=A.2.2.1
   have dC:(j:Int)<(d.rs.length:Int):=cb
   clear A c2 bh cz cA bO bn
   go_wp2
   go_roundw
   case rel=>exact⟨j+1,rfl,by have:=Y.out.2.2;go_num,Y.out.2.2,bC.out⟩
   case measure=>have:=Y.out.2.2;simp[intOf];omega
  have bT:¬ ((j:Int)<(d.rs.length:Int)):=by omega
  have R:Hid (Ju (fun k=>H≤k∧k≤O) w wr∧w.heap.size+2≤wr.heap.size∧wr.heap[w.heap.size]?=K.heap[w.heap.size]?∧(∃ cs,wr.heap[H]?=some (.cells cs 3 (0,0))∧cs.size=d.ts.length+1)∧(∃ cs,wr.heap[I]?=some (.cells cs 3 (0,0))∧cs.size=d.hs.length+1)):=⟨X.out.1.keep,X.out.2.1,X.out.2.2.1,⟨_,X.out.1.ty.trans L.out.1.ty,by simp⟩,⟨_,X.out.1.hw.trans L.out.1.hw,by simp⟩⟩
  clear X N bi
  go_upto_region 14 with fail
  clear bT
  go_loopw [12] (fun bc bj=>∃ k:Nat,bc=.int .i64 (k:Int)∧k≤d.ts.length∧Hid (Ju (fun k=>H≤k∧k≤O) w bj∧w.heap.size+2≤bj.heap.size∧bj.heap[w.heap.size]?=K.heap[w.heap.size]?∧(∃ cs,bj.heap[H]?=some (.cells cs 3 (0,0))∧cs.size=d.ts.length+1)∧(∃ cs,bj.heap[I]?=some (.cells cs 3 (0,0))∧cs.size=d.hs.length+1))) (fun bc _=>d.ts.length-(intOf bc).toNat)
  case atStart=>exact⟨0,rfl,Ob7 _,R.out⟩
  case round=>
   clear R
   obtain⟨k,rfl,hk,R⟩:=hrel
   have N:=R.out.2.2.1.trans bS.out.1
   by_cases cH:k<d.ts.length
   ·have c1:wr.cell? ⟨w.heap.size,1,none⟩=some (.slice (some ⟨H,0,none⟩) d.ts.length (d.ts.length+1)):=by simp[World.cell?,N]
    obtain⟨cs,Z,bz⟩:=R.out.2.2.2.1
    have cy:wr.cell? ⟨H,k,none⟩=some (cs[k]'(by omega)):=by simp[World.cell?,Z,show k<cs.size by omega]
    have dw:wr.frozen? ⟨H,k,none⟩=false:=by simp[World.frozen?,Z]
    generalize cs[k]'(by omega)=u at cy
    have cN:(0:Int)≤(k:Int):=by omega
    have cb:(k:Int)<(d.ts.length:Int):=by omega
    have bx:Hid (k<d.ts.length):=cH
    have bC:Hid (Ju (fun k=>H≤k∧k≤O) w (wr.setCell ⟨H,k,none⟩ (.int .i64 3))∧w.heap.size+2≤(wr.setCell ⟨H,k,none⟩ (.int .i64 3)).heap.size∧(wr.setCell ⟨H,k,none⟩ (.int .i64 3)).heap[w.heap.size]?=K.heap[w.heap.size]?∧(∃ cs,(wr.setCell ⟨H,k,none⟩ (.int .i64 3)).heap[H]?=some (.cells cs 3 (0,0))∧cs.size=d.ts.length+1)∧(∃ cs,(wr.setCell ⟨H,k,none⟩ (.int .i64 3)).heap[I]?=some (.cells cs 3 (0,0))∧cs.size=d.hs.length+1)):=by
     obtain⟨k1,bP,br,cc,bQ⟩:=R.out
     obtain⟨cV,bQ,cf⟩:=bQ
     exact⟨k1.set ⟨Oa2 _,by omega⟩ _ _,by simp[World.setCell];omega,(heap_setCell_other _ _ _ _ (by show w.heap.size≠H;omega)).trans br,⟨_,Jk Z k _,by simp[bz]⟩,⟨cV,(heap_setCell_other _ _ _ _ (by show I≠H;omega)).trans bQ,cf⟩⟩
    clear N Z bz cH
    go_wp2
    go_roundw
    case rel=>exact⟨k+1,by have:=bx.out;go_num,bx.out,bC.out⟩
    case measure=>have:=bx.out;simp[intOf];omega
   have bT:¬ ((k:Int)<(d.ts.length:Int)):=by omega
   clear N
   go_upto_region 18 with fail
   clear bT
   go_loopw [13] (fun bc bj=>∃ k:Nat,bc=.int .i64 (k:Int)∧k≤d.hs.length∧Hid (Ju (fun k=>H≤k∧k≤O) w bj∧w.heap.size+2≤bj.heap.size∧bj.heap[w.heap.size]?=K.heap[w.heap.size]?∧(∃ cs,bj.heap[I]?=some (.cells cs 3 (0,0))∧cs.size=d.hs.length+1))) (fun bc _=>d.hs.length-(intOf bc).toNat)
   case atStart=>exact⟨0,rfl,Ob7 _,R.out.1,R.out.2.1,R.out.2.2.1,R.out.2.2.2.2⟩
   case round=>
    clear R
    obtain⟨k,rfl,hk,R⟩:=hrel
    have N:=R.out.2.2.1.trans bS.out.1
    by_cases cI:k<d.hs.length
    ·have c3:wr.cell? ⟨w.heap.size,3,none⟩=some (.slice (some ⟨I,0,none⟩) d.hs.length (d.hs.length+1)):=by simp[World.cell?,N]
     obtain⟨cs,Z,bz⟩:=R.out.2.2.2
     have cy:wr.cell? ⟨I,k,none⟩=some (cs[k]'(by omega)):=by simp[World.cell?,Z,show k<cs.size by omega]
     have dw:wr.frozen? ⟨I,k,none⟩=false:=by simp[World.frozen?,Z]
     generalize cs[k]'(by omega)=u at cy
     have cN:(0:Int)≤(k:Int):=by omega
     have cb:(k:Int)<(d.hs.length:Int):=by omega
     have bx:Hid (k<d.hs.length):=cI
     have bC:Hid (Ju (fun k=>H≤k∧k≤O) w (wr.setCell ⟨I,k,none⟩ (.int .i64 2))∧w.heap.size+2≤(wr.setCell ⟨I,k,none⟩ (.int .i64 2)).heap.size∧(wr.setCell ⟨I,k,none⟩ (.int .i64 2)).heap[w.heap.size]?=K.heap[w.heap.size]?∧(∃ cs,(wr.setCell ⟨I,k,none⟩ (.int .i64 2)).heap[I]?=some (.cells cs 3 (0,0))∧cs.size=d.hs.length+1)):=by
      obtain⟨k1,bP,br,cc⟩:=R.out
      exact⟨k1.set ⟨by omega,by omega⟩ _ _,by simp[World.setCell];omega,(heap_setCell_other _ _ _ _ (by show w.heap.size≠I;omega)).trans br,⟨_,Jk Z k _,by simp[bz]⟩⟩
     clear N Z bz cI
     go_wp2
     go_roundw
     case rel=>exact⟨k+1,by have:=bx.out;go_num,bx.out,bC.out⟩
     case measure=>have:=bx.out;simp[intOf];omega
    have bT:¬ ((k:Int)<(d.hs.length:Int)):=by omega
    clear N
    go_wp2
    go_ret
    exact⟨rfl,R.out.1⟩
theorem Kwg (w:World)(a b c d e:Int):(Op.equal 68 (Ko a b c d e) (Ko a b c d e)).run prog w=.ok true w:=by
 rw[Op.equal,Op.maxDepth,run_equalIn_struct w 9999 68 _ _ Kef Kh3]
 have h:=Jyf
 generalize (prog.fieldsOf 68).toList=A at h
 rcases A with _|⟨bc,_|⟨bf,_|⟨bh,_|⟨bi,_|⟨bj,_|⟨bk,A⟩⟩⟩⟩⟩⟩
 ·simp at h
 ·simp at h
 ·simp at h
 ·simp at h
 ·simp at h
 ·simp at h
  obtain⟨⟨H,I,J⟩,⟨K,L,M⟩,⟨N,O,R⟩,⟨U,X,Y⟩,Z,ba,bb⟩:=h
  simp[Op.eqFields,H,I,J,K,L,M,N,O,R,U,X,Y,Z,ba,bb,part,sizeOf,go_sem]
 simp at h
theorem Ktl (a b c d e:Int)(w:World):(binOp .eql 68 (Ko a b c d e) (Ko a b c d e)).run prog w=.ok (.bool true) w:=by
 simp[binOp,Kwg]
end Go.Proofs.YtcaocabmioafcaaGreatDoor
