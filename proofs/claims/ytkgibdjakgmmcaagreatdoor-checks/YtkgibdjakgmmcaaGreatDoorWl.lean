/- The law's pair of stores: one Load in both. -/
import Derived.Test.YtkgibdjakgmmcaaGreatDoorWk
set_option maxHeartbeats 4000000
set_option maxRecDepth 100000
namespace Go.Proofs.YtkgibdjakgmmcaaGreatDoor
open Go.RowKit Go.Shelf
attribute [local go_sem] Oper.semAt_some
theorem run_equal_FT (w:World)(a b c d e:Int):(Op.equal 52 (faultR a b c d e) (faultR a b c d e)).run Tryz.prog w=.ok true w:=by
 rw[Op.equal,Op.maxDepth,run_equalIn_struct w 9999 52 _ _ underF sihF]
 have h:=fieldsF
 generalize (Tryz.prog.fieldsOf 52).toList=fs at h
 rcases fs with _|⟨f0,_|⟨f1,_|⟨f2,_|⟨f3,_|⟨f4,_|⟨f5,fs⟩⟩⟩⟩⟩⟩
 ·simp at h
 ·simp at h
 ·simp at h
 ·simp at h
 ·simp at h
 ·simp at h
  obtain⟨⟨h1,h2,h3⟩,⟨h4,h5,h6⟩,⟨h7,h8,h9⟩,⟨i1,i2,i3⟩,i4,i5,i6⟩:=h
  simp[Op.eqFields,h1,h2,h3,h4,h5,h6,h7,h8,h9,i1,i2,i3,i4,i5,i6,part,sizeOf,go_sem]
 simp at h
theorem run_eql_FT (a b c d e:Int)(w:World):(binOp .eql 52 (faultR a b c d e) (faultR a b c d e)).run Tryz.prog w=.ok (.bool true) w:=by
 simp[binOp,run_equal_FT]
theorem LoadQ.fault_eq (r:LoadQ):∃ c col:Int,r.fault=faultAt c col (-1):=by
 rcases r with _|_|c|T
 ·exact⟨1,-1,rfl⟩
 ·exact⟨4,-1,rfl⟩
 ·exact⟨2,(c:Int),rfl⟩
 exact⟨0,-1,rfl⟩
structure PairAt (w:World) (pb sx sy:Nat) (M N:Nat→Prop) (D:DS) (Ts:List TS) (n:Nat):Prop where
 cells:w.heap[pb]?=some (.cells #[.pointer (some ⟨sx,0,none⟩),.pointer (some ⟨sy,0,none⟩)] 47 (0,0))
 x:Sto M w sx D Ts
 y:RSto N w sy n (Ts.map fun T=>(T.name,T.types))
 apart:∀ k,M k→¬ N k
 np:¬ M pb∧¬ N pb
 quota:D.quota=1048576∧D.fail=0
 writes:0≤D.writes∧D.writes≤132000*(Ts.length:Int)
 pages:D.pages.length≤132000*Ts.length∧n≤132000*Ts.length
 few:Ts.length≤6
 tys:∀ T∈Ts,SchOk T.types
theorem PairAt.below {w w':World}{pb sx sy:Nat}{M N:Nat→Prop}{D:DS}{Ts:List TS}{n:Nat}(h:PairAt w pb sx sy M N D Ts n)(hb:Below w.heap.size w w'):PairAt w' pb sx sy M N D Ts n:=
 ⟨(hb.block _ (lt_of_heap h.cells)).trans h.cells,h.x.below hb,h.y.below hb,h.apart,h.np,h.quota,h.writes,h.pages,h.few,h.tys⟩
theorem tab_sch {name:ByteArray}{ts:List Int}{rs:List (List V)}(h:isTab name ts rs):SchOk ts:=by
 obtain⟨_,⟨h1,h2⟩,_⟩:=h
 refine⟨⟨h1.1,by omega⟩,fun t ht=>?_⟩
 obtain⟨i,hi,rfl⟩:=List.getElem_of_mem ht
 have:=h2 i hi
 unfold typeOk at this
 simpa using this
theorem keep_one (X:World)(fa i:Nat)(v:Value):Keep (fun k=>k=fa) X (X.setCell ⟨fa,i,none⟩ v):=(Keep.refl (fun k=>k=fa) X).set (b:=fa) rfl i v
theorem keep_set5 (X:World)(fa:Nat)(v0 v1 v2 v3 v4:Value):Keep (fun k=>k=fa) X (((((X.setCell ⟨fa,0,none⟩ v0).setCell ⟨fa,1,none⟩ v1).setCell ⟨fa,2,none⟩ v2).setCell ⟨fa,3,none⟩ v3).setCell ⟨fa,4,none⟩ v4):=
 ((((keep_one X fa 0 v0).trans (keep_one _ fa 1 v1)).trans (keep_one _ fa 2 v2)).trans (keep_one _ fa 3 v3)).trans (keep_one _ fa 4 v4)
theorem fx_join {M:Nat→Prop}{Z X V:World}{fa:Nat}(h:Keep M Z X)(k:Keep (fun k=>k=fa) X V)(hf:Z.heap.size≤fa):Keep M Z V:=
 ⟨k.os.trans h.os,k.tape.trans h.tape,k.output.trans h.output,Nat.le_trans h.size k.size,fun i hi hn=>(k.block i (Nat.lt_of_lt_of_le hi h.size) (by omega)).trans (h.block i hi hn)⟩
theorem lLoad_any (d:Dx)(pb sx sy:Nat)(M N:Nat→Prop)(D:DS)(Ts:List TS)(n:Nat)(w w0:World)(h:PairAt w pb sx sy M N D Ts n)(hD:DxAt w0 d)(hbw:Below w0.heap.size w0 w)(hbase:∀ k,M k∨N k∨k=pb→w0.heap.size≤k)(a0 a1 a2 tt q wr_ pg pl ex ta:Addr)(hN:Names w0 a0 a1 a2 tt q wr_ pg pl ex ta) :
  Calls Tryz.prog 18 #[.pointer (some ⟨pb,0,none⟩),d.val] w fun e w'=>e=.returned (.bool true)∧Below w0.heap.size w0 w'∧∃ (M' N':Nat→Prop) (n':Nat),PairAt w' pb sx sy M' N' ((loadR D Ts d.name d.ts d.hs d.rs d.g).d D) ((loadR D Ts d.name d.ts d.hs d.rs d.g).ts Ts) n'∧∀ k,M' k∨N' k∨k=pb→w0.heap.size≤k:=by
 have HP:Hid (PairAt w pb sx sy M N D Ts n∧DxAt w0 d∧Below w0.heap.size w0 w∧(∀ k,M k∨N k∨k=pb→w0.heap.size≤k)∧Names w0 a0 a1 a2 tt q wr_ pg pl ex ta):=⟨h,hD,hbw,hbase,hN⟩
 have hfw:∀ T:Nat,Ts.length=T→D.writes≤1000000:=fun T _=>by have h1:=h.writes;have h2:=h.few;omega
 obtain⟨hQ1,hQ2,hQ3⟩:=loadR_Q (D:=D) (Ts:=Ts) (name:=d.name) (ts:=d.ts) (hs:=d.hs) (rs:=d.rs) (g:=d.g) h.quota.1 h.quota.2 h.writes.1 (hfw _ rfl) (fun hl=>by have h1:=h.pages.1;omega)
 obtain⟨R,hR⟩:∃ R,loadR D Ts d.name d.ts d.hs d.rs d.g=R:=⟨_,rfl⟩
 obtain⟨Q,hQ⟩:∃ Q,loadQ (Ts.map fun T=>(T.name,T.types)) d.name d.ts d.hs d.rs d.g=Q:=⟨_,rfl⟩
 rw[hR,hQ]at hQ1 hQ2
 rw[hR]at hQ3 ⊢
 obtain⟨c,col,hcc⟩:=Q.fault_eq
 have hn':Q.n n≤132000*(Q.rs (Ts.map fun T=>(T.name,T.types)) d.name d.ts).length:=by
  rw[←hQ]
  exact loadQ_few (by rw[List.length_map];exact h.pages.2)
 have HQ:Hid (R.fault=faultAt c col (-1)∧Q.fault=faultAt c col (-1)∧(R.ts Ts).map (fun T=>(T.name,T.types))=Q.rs (Ts.map fun T=>(T.name,T.types)) d.name d.ts∧LoadLeft D Ts d.name d.ts d.rs (R.d D) (R.ts Ts)∧Q.n n≤132000*(Q.rs (Ts.map fun T=>(T.name,T.types)) d.name d.ts).length):=⟨hQ1.trans hcc,hcc,hQ2,hQ3,hn'⟩
 clear hQ1 hQ2 hQ3 hcc hn' hfw
 -- the two Loads
 have HLX:Hid (∀ (X:World) (tb hb rb zb:Nat) (bs:List Nat),Sto M X sx D Ts→OwnD X d tb hb rb zb bs→w.heap.size≤tb→Below w0.heap.size w0 X→Calls Tryz.prog 31 #[.pointer (some ⟨sx,0,none⟩),.agg #[.string d.name,.slice (some ⟨tb,0,none⟩) d.ts.length (d.ts.length+1),.slice (some ⟨rb,0,none⟩) d.rs.length (d.rs.length+1)],.slice (some ⟨hb,0,none⟩) d.hs.length (d.hs.length+1),.int .i64 d.g] X fun e X'=>e=.returned (faultAt c col (-1))∧Keep M X X'∧∃ M':Nat→Prop,Sto M' X' sx (R.d D) (R.ts Ts)∧∀ k,M' k→M k∨X.heap.size≤k):=fun X tb hb rb zb bs hS hO htb hb0=>by
  have hr:RowsAt X (some ⟨rb,0,none⟩) (bs.zipWith (fun b r=>(some ⟨b,0,none⟩,List.length r+2)) d.rs) d.rs:=by
   have hl:=hO.len
   refine⟨by rw[List.length_zipWith,hl,Nat.min_self],?_,fun i x r hx hr=>?_⟩
   ·refine .inr ⟨rb,0,rfl,lt_of_heap hO.rw,fun i v hv=>?_⟩
    rw[Nat.zero_add]
    refine cell_of_list hO.rw ?_
    have e:List.zipWith rowV (bs.zipWith (fun b r=>(some ⟨b,0,none⟩,List.length r+2)) d.rs) d.rs=hdrs bs d.rs:=by
     apply List.ext_getElem?
     intro j
     unfold hdrs
     rw[List.getElem?_zipWith,List.getElem?_zipWith,List.getElem?_zipWith]
     cases bs[j]? with
     |none=>rfl
     |some b=>cases d.rs[j]? with
      |none=>rfl
      |some r=>rfl
    rw[e]at hv
    rw[List.getElem?_append_left (List.getElem?_eq_some_iff.1 hv).1]
    exact hv
   rw[List.getElem?_zipWith]at hx
   rw[hr]at hx
   cases hb':bs[i]? with
   |none=>rw[hb']at hx;cases hx
   |some b=>
    rw[hb']at hx
    cases hx
    have hv:=(hO.row i b r hb' hr).vals
    rcases hv with hv|⟨g,o,e,hg,hv⟩
    ·simp at hv
    refine .inr ⟨g,o,e,hg,fun j v hj=>hv j v ?_⟩
    have hjl:=(List.getElem?_eq_some_iff.1 hj).1
    rw[List.append_assoc,List.getElem?_append_left hjl]
    exact hj
  have hA:ArgAt X d.name (some ⟨tb,0,none⟩) (some ⟨rb,0,none⟩) (some ⟨hb,0,none⟩) (d.rs.length+1) d.ts d.hs _ d.rs:=
   ⟨HP.out.2.1.arg.ln,HP.out.2.1.arg.lt,HP.out.2.1.arg.lr,HP.out.2.1.arg.lrr,HP.out.2.1.arg.lh,by omega,ints_of_list hO.ty,ints_of_list hO.hw,hr⟩
  refine(Load_any M sx D Ts d.name _ _ _ (d.ts.length+1) (d.rs.length+1) (d.hs.length+1) d.ts d.hs _ d.rs d.g X hS hA (fun b o e hm=>?_) (fun hl=>by have h1:=HP.out.1.pages.1;omega) a0 a1 a2 tt q wr_ pg pl ex ta w0 HP.out.2.2.2.2 hb0 (fun k hk=>HP.out.2.2.2.1 k (.inl hk))).mono fun e X' ⟨he,hk,M',h1,_,h2⟩=>?_
  ·cases e
   have:=HP.out.1.x.lt _ hm
   omega
  rw[hR]at he h1
  exact⟨by rw[he,HQ.out.1],hk,M',h1,h2⟩
 have HLY:Hid (∀ X:World,RSto N X sy n (Ts.map fun T=>(T.name,T.types))→Below w0.heap.size w0 X→Calls Tryz.prog 33 #[.pointer (some ⟨sy,0,none⟩),.agg #[.string d.name,.slice d.at_ d.ts.length d.ct,.slice d.ar d.rs.length d.cr],.slice d.ah d.hs.length d.ch,.int .i64 d.g] X fun e X'=>e=.returned (faultAt c col (-1))∧Keep N X X'∧∃ N':Nat→Prop,RSto N' X' sy (Q.n n) ((R.ts Ts).map fun T=>(T.name,T.types))∧∀ k,N' k→N k∨X.heap.size≤k):=fun X hS hb0=>by
  refine(rLoad_any N sy n _ d.name d.at_ d.ar d.ah d.ct d.cr d.ch d.ts d.hs d.xs d.rs d.g X hS (by rw[List.length_map];have:=HP.out.1.few;omega) (by rw[List.length_map];exact HP.out.1.pages.2) (HP.out.2.1.below hb0).arg).mono fun e X' ⟨he,hk,N',h1,_,h2⟩=>?_
  rw[hQ]at he h1
  rw[←HQ.out.2.2.1]at h1
  exact⟨by rw[he,HQ.out.2.1],hk,N',h1,h2⟩
 clear h hD hbw hbase hN hR hQ
 unfold Dx.val
 go_enter Tryz.func18,Tryz.ntmps18
 go_upto_region 1 with fail
 obtain⟨W,hW⟩:∃ W,W=w.alloc (.cells #[.string d.name,.slice d.at_ d.ts.length d.ct,.slice d.ar d.rs.length d.cr,.slice d.ah d.hs.length d.ch,.int .i64 d.g] 42):=⟨_,rfl⟩
 rw[←hW]
 have HW:Hid (Below w.heap.size w W∧W.heap.size=w.heap.size+1∧W.heap[w.heap.size]?=some (.cells #[.string d.name,.slice d.at_ d.ts.length d.ct,.slice d.ar d.rs.length d.cr,.slice d.ah d.hs.length d.ch,.int .i64 d.g] 42 (0,0))):=by
  rw[hW]
  exact⟨(Below.refl _ w).alloc (Nat.le_refl _) _,by simp,heap_alloc_new _ _⟩
 clear hW
 have c0:W.cell? ⟨w.heap.size,0,none⟩=some (.string d.name):=by simp[World.cell?,HW.out.2.2]
 have c1:W.cell? ⟨w.heap.size,1,none⟩=some (.slice d.at_ d.ts.length d.ct):=by simp[World.cell?,HW.out.2.2]
 have c2:W.cell? ⟨w.heap.size,2,none⟩=some (.slice d.ar d.rs.length d.cr):=by simp[World.cell?,HW.out.2.2]
 have c3:W.cell? ⟨w.heap.size,3,none⟩=some (.slice d.ah d.hs.length d.ch):=by simp[World.cell?,HW.out.2.2]
 have c4:W.cell? ⟨w.heap.size,4,none⟩=some (.int .i64 d.g):=by simp[World.cell?,HW.out.2.2]
 have hown:=lOwn_any d W (HP.out.2.1.below (below_then HP.out.2.2.1 HW.out.1))
 unfold Dx.val at hown
 go_upto_region 2 with(go_at_call 30;refine hown.mono ?_;rintro e W1 ⟨hb1,tb,hb,rb,zb,bs,rfl,hO1,htb⟩)
 clear hown c0 c1 c2 c3 c4
 obtain⟨Z,hZ⟩:∃ Z,Z=W1.alloc (.cells #[.string d.name,.slice (some ⟨tb,0,none⟩) d.ts.length (d.ts.length+1),.slice (some ⟨rb,0,none⟩) d.rs.length (d.rs.length+1),.slice (some ⟨hb,0,none⟩) d.hs.length (d.hs.length+1),.int .i64 d.g] 42):=⟨_,rfl⟩
 rw[←hZ]
 have HZ:Hid (Below w.heap.size w Z∧OwnD Z d tb hb rb zb bs∧w.heap.size+1≤tb∧zb<W1.heap.size∧Z.heap.size=W1.heap.size+1∧Z.heap[W1.heap.size]?=some (.cells #[.string d.name,.slice (some ⟨tb,0,none⟩) d.ts.length (d.ts.length+1),.slice (some ⟨rb,0,none⟩) d.rs.length (d.rs.length+1),.slice (some ⟨hb,0,none⟩) d.hs.length (d.hs.length+1),.int .i64 d.g] 42 (0,0))∧Z.heap[w.heap.size]?=some (.cells #[.string d.name,.slice d.at_ d.ts.length d.ct,.slice d.ar d.rs.length d.cr,.slice d.ah d.hs.length d.ch,.int .i64 d.g] 42 (0,0))∧w.heap.size<W1.heap.size):=by
  have hz:=hb1.size
  have hz0:=HW.out.2.1
  have hbZ:Below W1.heap.size W1 Z:=by rw[hZ];exact(Below.refl _ _).alloc (Nat.le_refl _) _
  refine⟨below_then HW.out.1 (below_then hb1 hbZ),hO1.of_block hbZ.size fun k _ h2=>hbZ.block k (by have:=hO1.ord.2.2.2.1;omega),by omega,hO1.ord.2.2.2.1,by rw[hZ];simp,by rw[hZ];exact heap_alloc_new _ _,?_,by omega⟩
  exact((below_then hb1 hbZ).block _ (by omega)).trans HW.out.2.2
 clear hZ hb1 hO1 htb HW
 obtain⟨ob,hob⟩:∃ ob,ob=W1.heap.size:=⟨_,rfl⟩
 rw[←hob]at HZ ⊢
 clear hob
 have p0:Z.cell? ⟨pb,0,none⟩=some (.pointer (some ⟨sx,0,none⟩)):=by
  have hp:=(HZ.out.1.block _ (lt_of_heap HP.out.1.cells)).trans HP.out.1.cells
  simp[World.cell?,hp]
 have c0:Z.cell? ⟨ob,0,none⟩=some (.string d.name):=by simp[World.cell?,HZ.out.2.2.2.2.2.1]
 have c1:Z.cell? ⟨ob,1,none⟩=some (.slice (some ⟨tb,0,none⟩) d.ts.length (d.ts.length+1)):=by simp[World.cell?,HZ.out.2.2.2.2.2.1]
 have c2:Z.cell? ⟨ob,2,none⟩=some (.slice (some ⟨rb,0,none⟩) d.rs.length (d.rs.length+1)):=by simp[World.cell?,HZ.out.2.2.2.2.2.1]
 have c3:Z.cell? ⟨ob,3,none⟩=some (.slice (some ⟨hb,0,none⟩) d.hs.length (d.hs.length+1)):=by simp[World.cell?,HZ.out.2.2.2.2.2.1]
 have c4:Z.cell? ⟨ob,4,none⟩=some (.int .i64 d.g):=by simp[World.cell?,HZ.out.2.2.2.2.2.1]
 have HZL:Hid (pb<w.heap.size∧w.heap.size<ob∧¬ M ob∧ob<Z.heap.size):=⟨lt_of_heap HP.out.1.cells,HZ.out.2.2.2.2.2.2.2,fun hm=>by have h1:=HP.out.1.x.lt _ hm;have h2:=HZ.out.2.2.2.2.2.2.2;omega,lt_of_heap HZ.out.2.2.2.2.2.1⟩
 have HZL':Hid (pb<w.heap.size∧w.heap.size<ob∧¬ M ob):=⟨HZL.out.1,HZL.out.2.1,HZL.out.2.2.1⟩
 have HZE:Hid (ob<Z.heap.size∧w.heap.size<Z.heap.size∧zb<Z.heap.size):=⟨HZL.out.2.2.2,by have h1:=HZL.out;omega,by have h1:=HZ.out;omega⟩
 clear HZL
 have HZL:Hid (pb<w.heap.size∧w.heap.size<ob∧¬ M ob):=HZL'.out
 clear HZL'
 have HZS:Hid (Sto M Z sx D Ts∧Below w0.heap.size w0 Z):=⟨HP.out.1.x.below HZ.out.1,below_then HP.out.2.2.1 HZ.out.1⟩
 go_cut [6] from 11 to 21 (fun f wx=>∃ fa,f=.pointer (some ⟨fa,0,none⟩)∧wx.heap[fa]?=some (.cells #[.int .i64 c,.int .i64 (-1),.int .i64 (-1),.int .i64 col,.int .i64 (-1)] 52 (0,0))∧Z.heap.size≤fa∧Keep M Z wx∧∃ M':Nat→Prop,Sto M' wx sx (R.d D) (R.ts Ts)∧(∀ k,M' k→M k∨Z.heap.size≤k)∧¬ M' fa)
 case first=>
  refine wp_region_held_drew (S:=fun X=>X.cell? ⟨pb,0,none⟩=some (.pointer (some ⟨sx,0,none⟩))∧X.cell? ⟨ob,0,none⟩=some (.string d.name)∧X.cell? ⟨ob,1,none⟩=some (.slice (some ⟨tb,0,none⟩) d.ts.length (d.ts.length+1))∧X.cell? ⟨ob,2,none⟩=some (.slice (some ⟨rb,0,none⟩) d.rs.length (d.rs.length+1))∧X.cell? ⟨ob,3,none⟩=some (.slice (some ⟨hb,0,none⟩) d.hs.length (d.hs.length+1))∧X.cell? ⟨ob,4,none⟩=some (.int .i64 d.g)) (by kernel_rfl) ⟨cell_drew p0,cell_drew c0,cell_drew c1,cell_drew c2,cell_drew c3,cell_drew c4⟩ (fun hH=>?_)
  refine tkj 0 rfl hH ?_
  refine tkj 1 rfl hH ?_
  refine tkj 2 rfl hH ?_
  refine tkj 3 rfl hH ?_
  refine tkj 4 rfl hH ?_
  refine tkj 5 rfl hH ?_
  refine tkj 6 rfl hH ?_
  refine tkj 7 rfl hH ?_
  refine tkj 8 rfl hH ?_
  refine tkj 9 rfl hH ?_
  refine tkn ?_
  refine wpAnyH_ready (rs:=[10,11]) (by kernel_rfl) (by simp) (AllReadyH.cons rfl (fun K hK=>?_) (AllReadyH.cons rfl (fun K hK=>?_) AllReadyH.nil))
  ·go_simp
   refine(HLX.out Z.drew tb hb rb zb bs (HZS.out.1.below (below_drew1 (Below.refl _ _))) (HZ.out.2.1.of_block (Nat.le_refl _) fun k h1 h2=>rfl) (by have h3:=HZ.out;omega) (below_then HZS.out.2 (below_drew1 (Below.refl _ _)))).mono ?_
   rintro e X1 ⟨rfl,hkx,M',hx1,hx2⟩
   have HX1:Hid (Keep M Z X1∧Sto M' X1 sx (R.d D) (R.ts Ts)∧(∀ k,M' k→M k∨Z.heap.size≤k)):=⟨⟨hkx.os,hkx.tape,hkx.output,hkx.size,hkx.block⟩,hx1,hx2⟩
   clear hx1 hx2
   go_simp
   refine hK.out _ _ ⟨hkx.cell hH.1 HP.out.1.np.1,hkx.cell hH.2.1 HZL.out.2.2,hkx.cell hH.2.2.1 HZL.out.2.2,hkx.cell hH.2.2.2.1 HZL.out.2.2,hkx.cell hH.2.2.2.2.1 HZL.out.2.2,hkx.cell hH.2.2.2.2.2 HZL.out.2.2⟩ (fun hH=>?_)
   clear hK K hkx
   refine tkr 11 rfl fun K hK=>?_
   go_simp
   have hby:Below X1.heap.size X1 (X1.alloc zeroFault):=(Below.refl _ X1).alloc (Nat.le_refl _) zeroFault
   have hz:=heap_alloc_new X1 zeroFault
   refine hK.out _ _ ⟨cell_below hby hH.1,cell_below hby hH.2.1,cell_below hby hH.2.2.1,cell_below hby hH.2.2.2.1,cell_below hby hH.2.2.2.2.1,cell_below hby hH.2.2.2.2.2⟩ (fun hH=>?_)
   clear hK K
   have HFA:Hid (X1.heap.size=X1.heap.size∧Keep (fun k=>k=X1.heap.size) X1 (X1.alloc zeroFault)):=⟨rfl,Keep.of_below hby⟩
   obtain⟨fa,hfa⟩:∃ fa,fa=X1.heap.size:=⟨_,rfl⟩
   have HFB:Hid (fa=X1.heap.size∧Z.heap.size≤fa∧Keep (fun k=>k=fa) X1 (X1.alloc zeroFault)):=⟨hfa,by rw[hfa];exact HX1.out.1.size,by rw[hfa];exact HFA.out.2⟩
   generalize X1.alloc zeroFault=Y0 at hz hH HFB ⊢
   rw[←hfa]at hz ⊢
   clear hby HFA hfa
   have k0:Y0.cell? ⟨fa,0,none⟩=some (.int .i64 0):=by simp[World.cell?,hz]
   have k1:Y0.cell? ⟨fa,1,none⟩=some (.int .i64 0):=by simp[World.cell?,hz]
   have k2:Y0.cell? ⟨fa,2,none⟩=some (.int .i64 0):=by simp[World.cell?,hz]
   have k3:Y0.cell? ⟨fa,3,none⟩=some (.int .i64 0):=by simp[World.cell?,hz]
   have k4:Y0.cell? ⟨fa,4,none⟩=some (.int .i64 0):=by simp[World.cell?,hz]
   have f0:Y0.frozen? ⟨fa,0,none⟩=false:=by simp[World.frozen?,hz]
   have f1:Y0.frozen? ⟨fa,1,none⟩=false:=by simp[World.frozen?,hz]
   have f2:Y0.frozen? ⟨fa,2,none⟩=false:=by simp[World.frozen?,hz]
   have f3:Y0.frozen? ⟨fa,3,none⟩=false:=by simp[World.frozen?,hz]
   have f4:Y0.frozen? ⟨fa,4,none⟩=false:=by simp[World.frozen?,hz]
   have hk5:=heap_set (heap_set (heap_set (heap_set (heap_set hz 0 (.int .i64 c)) 1 (.int .i64 (-1))) 2 (.int .i64 (-1))) 3 (.int .i64 col)) 4 (.int .i64 (-1))
   simp only[List.setIfInBounds_toArray,List.set_cons_zero,List.set_cons_succ]at hk5
   have HK5:Hid _:=hk5
   have HV:Hid (Keep (fun k=>k=fa) Y0 (((((Y0.setCell ⟨fa,0,none⟩ (.int .i64 c)).setCell ⟨fa,1,none⟩ (.int .i64 (-1))).setCell ⟨fa,2,none⟩ (.int .i64 (-1))).setCell ⟨fa,3,none⟩ (.int .i64 col)).setCell ⟨fa,4,none⟩ (.int .i64 (-1)))):=keep_set5 _ _ _ _ _ _ _
   clear hz hk5
   refine tkr 12 rfl fun K hK=>?_
   go_simp
   refine hK.out _ _ ⟨HV.out.cell hH.1 (by have h1:=HFB.out;have h2:=HX1.out.1.size;have h3:=HZL.out;have h4:=HZE.out;omega),HV.out.cell hH.2.1 (by have h1:=HFB.out;have h2:=HX1.out.1.size;have h3:=HZL.out;have h4:=HZE.out;omega),HV.out.cell hH.2.2.1 (by have h1:=HFB.out;have h2:=HX1.out.1.size;have h3:=HZL.out;have h4:=HZE.out;omega),HV.out.cell hH.2.2.2.1 (by have h1:=HFB.out;have h2:=HX1.out.1.size;have h3:=HZL.out;have h4:=HZE.out;omega),HV.out.cell hH.2.2.2.2.1 (by have h1:=HFB.out;have h2:=HX1.out.1.size;have h3:=HZL.out;have h4:=HZE.out;omega),HV.out.cell hH.2.2.2.2.2 (by have h1:=HFB.out;have h2:=HX1.out.1.size;have h3:=HZL.out;have h4:=HZE.out;omega)⟩ (fun _=>?_)
   clear hK K k0 k1 k2 k3 k4 f0 f1 f2 f3 f4 hH
   refine wpAnyH_done (by kernel_rfl) ?_ _
   go_wp2_with fail
   go_meet
   case rel=>exact⟨fa,rfl,HK5.out,HFB.out.2.1,fx_join HX1.out.1 (HFB.out.2.2.trans HV.out) HFB.out.2.1,M',HX1.out.2.1.stands (HFB.out.2.2.trans HV.out).size (fun k hk=>(HFB.out.2.2.trans HV.out).block k (HX1.out.2.1.lt k hk) fun e=>((fun e=>by have h1:=HX1.out.2.1.lt _ e;have h2:=HFB.out.1;omega)) (e▸hk)),HX1.out.2.2,(fun e=>by have h1:=HX1.out.2.1.lt _ e;have h2:=HFB.out.1;omega)⟩
  go_simp
  have hb2:Below Z.heap.size Z (Z.alloc zeroFault).drew:=below_drew1 ((Below.refl _ Z).alloc (Nat.le_refl _) zeroFault)
  have hz0:(Z.alloc zeroFault).drew.heap[Z.heap.size]?=some zeroFault:=heap_alloc_new Z zeroFault
  have hzs:(Z.alloc zeroFault).drew.heap.size=Z.heap.size+1:=World.size_alloc Z zeroFault
  refine hK.out _ _ ⟨cell_below hb2 p0,cell_below hb2 c0,cell_below hb2 c1,cell_below hb2 c2,cell_below hb2 c3,cell_below hb2 c4⟩ (fun hH=>?_)
  clear hK K
  generalize (Z.alloc zeroFault).drew=X2 at hz0 hzs hH hb2 ⊢
  obtain⟨fa,hfa⟩:∃ fa,fa=Z.heap.size:=⟨_,rfl⟩
  rw[←hfa]at hz0 ⊢
  have HB2:Hid (Below Z.heap.size Z X2∧X2.heap.size=Z.heap.size+1∧fa=Z.heap.size):=⟨hb2,hzs,hfa⟩
  clear hfa hzs hb2
  refine tkr 10 rfl fun K hK=>?_
  go_simp
  refine(HLX.out X2 tb hb rb zb bs (HZS.out.1.below HB2.out.1) (HZ.out.2.1.of_block (HB2.out.1).size fun k h1 h2=>(HB2.out.1).block k (by have h3:=HZ.out;omega)) (by have h3:=HZ.out;omega) (below_then HZS.out.2 HB2.out.1)).mono ?_
  rintro e X1 ⟨rfl,hkx,M',hx1,hx2⟩
  go_simp
  have nfa:¬ M fa:=fun hm=>by have h1:=HP.out.1.x.lt _ hm;have h2:=HB2.out.2.2;have h3:=HZ.out.1.size;omega
  have hz:=(hkx.block _ (lt_of_heap hz0) nfa).trans hz0
  have HX1:Hid (Keep M Z X1∧Sto M' X1 sx (R.d D) (R.ts Ts)∧(∀ k,M' k→M k∨Z.heap.size≤k)∧¬ M' fa):=⟨(Keep.of_below HB2.out.1).trans hkx,hx1,fun k hk=>(hx2 k hk).imp_right fun a=>by have h1:=HB2.out.2.1;omega,fun e=>(hx2 _ e).elim nfa fun a=>by have h1:=HB2.out.2;omega⟩
  refine hK.out _ _ ⟨hkx.cell hH.1 HP.out.1.np.1,hkx.cell hH.2.1 HZL.out.2.2,hkx.cell hH.2.2.1 HZL.out.2.2,hkx.cell hH.2.2.2.1 HZL.out.2.2,hkx.cell hH.2.2.2.2.1 HZL.out.2.2,hkx.cell hH.2.2.2.2.2 HZL.out.2.2⟩ (fun hH=>?_)
  clear hK K hkx hz0 nfa hx1 hx2
  have k0:X1.cell? ⟨fa,0,none⟩=some (.int .i64 0):=by simp[World.cell?,hz]
  have k1:X1.cell? ⟨fa,1,none⟩=some (.int .i64 0):=by simp[World.cell?,hz]
  have k2:X1.cell? ⟨fa,2,none⟩=some (.int .i64 0):=by simp[World.cell?,hz]
  have k3:X1.cell? ⟨fa,3,none⟩=some (.int .i64 0):=by simp[World.cell?,hz]
  have k4:X1.cell? ⟨fa,4,none⟩=some (.int .i64 0):=by simp[World.cell?,hz]
  have f0:X1.frozen? ⟨fa,0,none⟩=false:=by simp[World.frozen?,hz]
  have f1:X1.frozen? ⟨fa,1,none⟩=false:=by simp[World.frozen?,hz]
  have f2:X1.frozen? ⟨fa,2,none⟩=false:=by simp[World.frozen?,hz]
  have f3:X1.frozen? ⟨fa,3,none⟩=false:=by simp[World.frozen?,hz]
  have f4:X1.frozen? ⟨fa,4,none⟩=false:=by simp[World.frozen?,hz]
  have hk5:=heap_set (heap_set (heap_set (heap_set (heap_set hz 0 (.int .i64 c)) 1 (.int .i64 (-1))) 2 (.int .i64 (-1))) 3 (.int .i64 col)) 4 (.int .i64 (-1))
  simp only[List.setIfInBounds_toArray,List.set_cons_zero,List.set_cons_succ]at hk5
  have HK5:Hid _:=hk5
  have HV:Hid (Keep (fun k=>k=fa) X1 (((((X1.setCell ⟨fa,0,none⟩ (.int .i64 c)).setCell ⟨fa,1,none⟩ (.int .i64 (-1))).setCell ⟨fa,2,none⟩ (.int .i64 (-1))).setCell ⟨fa,3,none⟩ (.int .i64 col)).setCell ⟨fa,4,none⟩ (.int .i64 (-1)))):=keep_set5 _ _ _ _ _ _ _
  clear hz hk5
  refine tkr 12 rfl fun K hK=>?_
  go_simp
  refine hK.out _ _ ⟨HV.out.cell hH.1 (by have h1:=HB2.out;have h3:=HZL.out;have h4:=HZE.out;omega),HV.out.cell hH.2.1 (by have h1:=HB2.out;have h3:=HZL.out;have h4:=HZE.out;omega),HV.out.cell hH.2.2.1 (by have h1:=HB2.out;have h3:=HZL.out;have h4:=HZE.out;omega),HV.out.cell hH.2.2.2.1 (by have h1:=HB2.out;have h3:=HZL.out;have h4:=HZE.out;omega),HV.out.cell hH.2.2.2.2.1 (by have h1:=HB2.out;have h3:=HZL.out;have h4:=HZE.out;omega),HV.out.cell hH.2.2.2.2.2 (by have h1:=HB2.out;have h3:=HZL.out;have h4:=HZE.out;omega)⟩ (fun _=>?_)
  clear hK K k0 k1 k2 k3 k4 f0 f1 f2 f3 f4 hH
  refine wpAnyH_done (by kernel_rfl) ?_ _
  go_wp2_with fail
  go_meet
  case rel=>exact⟨fa,rfl,HK5.out,(by have h1:=HB2.out.2.2;omega),fx_join HX1.out.1 HV.out (by have h1:=HB2.out.2.2;omega),M',HX1.out.2.1.stands HV.out.size (fun k hk=>HV.out.block k (HX1.out.2.1.lt k hk) fun e=>(HX1.out.2.2.2) (e▸hk)),HX1.out.2.2.1,HX1.out.2.2.2⟩
 case rest=>
  obtain⟨fa,rfl,hfa,hfz,hkz,M',hst,hM',hnf⟩:=hcut
  have HC:Hid (wc.heap[fa]?=some (.cells #[.int .i64 c,.int .i64 (-1),.int .i64 (-1),.int .i64 col,.int .i64 (-1)] 52 (0,0))∧Z.heap.size≤fa∧Keep M Z wc∧Sto M' wc sx (R.d D) (R.ts Ts)∧(∀ k,M' k→M k∨Z.heap.size≤k)∧¬ M' fa∧Below w0.heap.size w0 wc):=⟨hfa,hfz,hkz,hst,hM',hnf,HZS.out.2.trans (hkz.below (fun k hk hm=>by have h1:=HP.out.2.2.2.1 k (.inl hm);omega) HZS.out.2.size)⟩
  have hoc:=(hkz.block ob HZE.out.1 HZL.out.2.2).trans HZ.out.2.2.2.2.2.1
  have hdc:=(hkz.block w.heap.size HZE.out.2.1 fun hm=>by have h1:=HP.out.1.x.lt _ hm;omega).trans HZ.out.2.2.2.2.2.2.1
  have HOW:Hid (OwnD wc d tb hb rb zb bs):=HZ.out.2.1.of_block hkz.size fun k h1 h2=>hkz.block k (by have h3:=HZE.out;omega) fun hm=>by have h3:=HP.out.1.x.lt _ hm;have h4:=HZ.out.2.2.1;omega
  clear hfa hfz hkz hst hM' hnf p0 c0 c1 c2 c3 c4
  have c0:wc.cell? ⟨w.heap.size,0,none⟩=some (.string d.name):=by simp[World.cell?,hdc]
  have c1:wc.cell? ⟨w.heap.size,1,none⟩=some (.slice d.at_ d.ts.length d.ct):=by simp[World.cell?,hdc]
  have c2:wc.cell? ⟨w.heap.size,2,none⟩=some (.slice d.ar d.rs.length d.cr):=by simp[World.cell?,hdc]
  have c3:wc.cell? ⟨w.heap.size,3,none⟩=some (.slice d.ah d.hs.length d.ch):=by simp[World.cell?,hdc]
  have c4:wc.cell? ⟨w.heap.size,4,none⟩=some (.int .i64 d.g):=by simp[World.cell?,hdc]
  have o0:wc.cell? ⟨ob,0,none⟩=some (.string d.name):=by simp[World.cell?,hoc]
  have o1:wc.cell? ⟨ob,1,none⟩=some (.slice (some ⟨tb,0,none⟩) d.ts.length (d.ts.length+1)):=by simp[World.cell?,hoc]
  have o2:wc.cell? ⟨ob,2,none⟩=some (.slice (some ⟨rb,0,none⟩) d.rs.length (d.rs.length+1)):=by simp[World.cell?,hoc]
  have o3:wc.cell? ⟨ob,3,none⟩=some (.slice (some ⟨hb,0,none⟩) d.hs.length (d.hs.length+1)):=by simp[World.cell?,hoc]
  have o4:wc.cell? ⟨ob,4,none⟩=some (.int .i64 d.g):=by simp[World.cell?,hoc]
  have hrd:=lRead_any d tb hb rb zb bs wc w0 HOW.out HP.out.2.1 HC.out.2.2.2.2.2.2 (by have h1:=HZ.out.2.2.1;have h2:=HP.out.2.2.1.size;omega)
  unfold Dx.val at hrd
  go_upto_region 4 with(go_at_call 32;refine hrd.mono ?_;rintro e Z3 ⟨rfl,hk3⟩)
  clear hrd c0 c1 c2 c3 c4 o0 o1 o2 o3 o4
  have hzw:=HZ.out
  have hze:=HZE.out
  have hwc:=HC.out.2.2.1.size
  have HZ3:Hid (RSto N Z3 sy n (Ts.map fun T=>(T.name,T.types))∧Below w0.heap.size w0 Z3∧w.heap.size<Z3.heap.size∧pb<w.heap.size∧¬ N w.heap.size):=by
   have hz3:=hk3.size
   refine⟨HP.out.1.y.stands (by omega) fun k hk=>?_,HC.out.2.2.2.2.2.2.trans (hk3.below (fun k hk hh=>by have h1:=HP.out.2.2.1.size;omega) HC.out.2.2.2.2.2.2.size),by omega,HZL.out.1,fun hn=>by have h1:=HP.out.1.y.lt _ hn;omega⟩
   have h1:=HP.out.1.y.lt k hk
   rw[hk3.block k (by omega) fun hh=>by omega,HC.out.2.2.1.block k (by omega) fun hm=>HP.out.1.apart k hm hk,HZ.out.1.block k h1]
  have HF3:Hid (Z3.heap[fa]?=some (.cells #[.int .i64 c,.int .i64 (-1),.int .i64 (-1),.int .i64 col,.int .i64 (-1)] 52 (0,0))∧Sto M' Z3 sx (R.d D) (R.ts Ts)∧Z.heap.size≤fa∧fa<Z3.heap.size∧(∀ k,M' k→M k∨Z.heap.size≤k)∧(∀ k,M' k→k<Z3.heap.size)∧Z.heap.size≤Z3.heap.size∧¬ M' fa):=by
   have hfl:=lt_of_heap HC.out.1
   have hz3:=hk3.size
   have h2:=HC.out.2.1
   refine⟨(hk3.block fa hfl fun hh=>by omega).trans HC.out.1,HC.out.2.2.2.1.stands hz3 fun k hk=>hk3.block k (HC.out.2.2.2.1.lt k hk) fun hh=>?_,h2,by omega,HC.out.2.2.2.2.1,fun k hk=>by have h5:=HC.out.2.2.2.1.lt k hk;omega,by omega,HC.out.2.2.2.2.2.1⟩
   rcases HC.out.2.2.2.2.1 k hk with a|a
   ·have h5:=HP.out.1.x.lt k a;omega
   omega
  have hpp:=(hk3.block pb (by have h1:=HZL.out;omega) fun hh=>by have h1:=HZL.out;omega).trans ((HC.out.2.2.1.block pb (by have h1:=HZL.out;omega) HP.out.1.np.1).trans ((HZ.out.1.block pb HZL.out.1).trans HP.out.1.cells))
  have hdd:=(hk3.block w.heap.size (by omega) fun hh=>by omega).trans hdc
  have HPP:Hid (Z3.heap[pb]?=some (.cells #[.pointer (some ⟨sx,0,none⟩),.pointer (some ⟨sy,0,none⟩)] 47 (0,0))):=hpp
  have p1:Z3.cell? ⟨pb,1,none⟩=some (.pointer (some ⟨sy,0,none⟩)):=by simp[World.cell?,hpp]
  have c0:Z3.cell? ⟨w.heap.size,0,none⟩=some (.string d.name):=by simp[World.cell?,hdd]
  have c1:Z3.cell? ⟨w.heap.size,1,none⟩=some (.slice d.at_ d.ts.length d.ct):=by simp[World.cell?,hdd]
  have c2:Z3.cell? ⟨w.heap.size,2,none⟩=some (.slice d.ar d.rs.length d.cr):=by simp[World.cell?,hdd]
  have c3:Z3.cell? ⟨w.heap.size,3,none⟩=some (.slice d.ah d.hs.length d.ch):=by simp[World.cell?,hdd]
  have c4:Z3.cell? ⟨w.heap.size,4,none⟩=some (.int .i64 d.g):=by simp[World.cell?,hdd]
  clear hk3 hzw hze hwc hdc hoc hpp hdd HOW
  go_cut [8] from 25 to 35 (fun f wx=>∃ ga,f=.pointer (some ⟨ga,0,none⟩)∧wx.heap[ga]?=some (.cells #[.int .i64 c,.int .i64 (-1),.int .i64 (-1),.int .i64 col,.int .i64 (-1)] 52 (0,0))∧Z3.heap.size≤ga∧Keep N Z3 wx∧∃ N':Nat→Prop,RSto N' wx sy (Q.n n) ((R.ts Ts).map fun T=>(T.name,T.types))∧(∀ k,N' k→N k∨Z3.heap.size≤k)∧¬ N' ga)
  case first=>
   refine wp_region_held_drew (S:=fun X=>X.cell? ⟨pb,1,none⟩=some (.pointer (some ⟨sy,0,none⟩))∧X.cell? ⟨w.heap.size,0,none⟩=some (.string d.name)∧X.cell? ⟨w.heap.size,1,none⟩=some (.slice d.at_ d.ts.length d.ct)∧X.cell? ⟨w.heap.size,2,none⟩=some (.slice d.ar d.rs.length d.cr)∧X.cell? ⟨w.heap.size,3,none⟩=some (.slice d.ah d.hs.length d.ch)∧X.cell? ⟨w.heap.size,4,none⟩=some (.int .i64 d.g)) (by kernel_rfl) ⟨cell_drew p1,cell_drew c0,cell_drew c1,cell_drew c2,cell_drew c3,cell_drew c4⟩ (fun hH=>?_)
   refine tkj 0 rfl hH ?_
   refine tkj 1 rfl hH ?_
   refine tkj 2 rfl hH ?_
   refine tkj 3 rfl hH ?_
   refine tkj 4 rfl hH ?_
   refine tkj 5 rfl hH ?_
   refine tkj 6 rfl hH ?_
   refine tkj 7 rfl hH ?_
   refine tkj 8 rfl hH ?_
   refine tkj 9 rfl hH ?_
   refine tkn ?_
   refine wpAnyH_ready (rs:=[10,11]) (by kernel_rfl) (by simp) (AllReadyH.cons rfl (fun K hK=>?_) (AllReadyH.cons rfl (fun K hK=>?_) AllReadyH.nil))
   ·go_simp
    refine(HLY.out Z3.drew (HZ3.out.1.below (below_drew1 (Below.refl _ _))) (below_then HZ3.out.2.1 (below_drew1 (Below.refl _ _)))).mono ?_
    rintro e X1 ⟨rfl,hkx,N',hx1,hx2⟩
    have HX1:Hid (Keep N Z3 X1∧RSto N' X1 sy (Q.n n) ((R.ts Ts).map fun T=>(T.name,T.types))∧(∀ k,N' k→N k∨Z3.heap.size≤k)):=⟨⟨hkx.os,hkx.tape,hkx.output,hkx.size,hkx.block⟩,hx1,hx2⟩
    clear hx1 hx2
    go_simp
    refine hK.out _ _ ⟨hkx.cell hH.1 HP.out.1.np.2,hkx.cell hH.2.1 HZ3.out.2.2.2.2,hkx.cell hH.2.2.1 HZ3.out.2.2.2.2,hkx.cell hH.2.2.2.1 HZ3.out.2.2.2.2,hkx.cell hH.2.2.2.2.1 HZ3.out.2.2.2.2,hkx.cell hH.2.2.2.2.2 HZ3.out.2.2.2.2⟩ (fun hH=>?_)
    clear hK K hkx
    refine tkr 11 rfl fun K hK=>?_
    go_simp
    have hby:Below X1.heap.size X1 (X1.alloc zeroFault):=(Below.refl _ X1).alloc (Nat.le_refl _) zeroFault
    have hz:=heap_alloc_new X1 zeroFault
    refine hK.out _ _ ⟨cell_below hby hH.1,cell_below hby hH.2.1,cell_below hby hH.2.2.1,cell_below hby hH.2.2.2.1,cell_below hby hH.2.2.2.2.1,cell_below hby hH.2.2.2.2.2⟩ (fun hH=>?_)
    clear hK K
    have HFA:Hid (X1.heap.size=X1.heap.size∧Keep (fun k=>k=X1.heap.size) X1 (X1.alloc zeroFault)):=⟨rfl,Keep.of_below hby⟩
    obtain⟨fa,hfa⟩:∃ fa,fa=X1.heap.size:=⟨_,rfl⟩
    have HFB:Hid (fa=X1.heap.size∧Z3.heap.size≤fa∧Keep (fun k=>k=fa) X1 (X1.alloc zeroFault)):=⟨hfa,by rw[hfa];exact HX1.out.1.size,by rw[hfa];exact HFA.out.2⟩
    generalize X1.alloc zeroFault=Y0 at hz hH HFB ⊢
    rw[←hfa]at hz ⊢
    clear hby HFA hfa
    have k0:Y0.cell? ⟨fa,0,none⟩=some (.int .i64 0):=by simp[World.cell?,hz]
    have k1:Y0.cell? ⟨fa,1,none⟩=some (.int .i64 0):=by simp[World.cell?,hz]
    have k2:Y0.cell? ⟨fa,2,none⟩=some (.int .i64 0):=by simp[World.cell?,hz]
    have k3:Y0.cell? ⟨fa,3,none⟩=some (.int .i64 0):=by simp[World.cell?,hz]
    have k4:Y0.cell? ⟨fa,4,none⟩=some (.int .i64 0):=by simp[World.cell?,hz]
    have f0:Y0.frozen? ⟨fa,0,none⟩=false:=by simp[World.frozen?,hz]
    have f1:Y0.frozen? ⟨fa,1,none⟩=false:=by simp[World.frozen?,hz]
    have f2:Y0.frozen? ⟨fa,2,none⟩=false:=by simp[World.frozen?,hz]
    have f3:Y0.frozen? ⟨fa,3,none⟩=false:=by simp[World.frozen?,hz]
    have f4:Y0.frozen? ⟨fa,4,none⟩=false:=by simp[World.frozen?,hz]
    have hk5:=heap_set (heap_set (heap_set (heap_set (heap_set hz 0 (.int .i64 c)) 1 (.int .i64 (-1))) 2 (.int .i64 (-1))) 3 (.int .i64 col)) 4 (.int .i64 (-1))
    simp only[List.setIfInBounds_toArray,List.set_cons_zero,List.set_cons_succ]at hk5
    have HK5:Hid _:=hk5
    have HV:Hid (Keep (fun k=>k=fa) Y0 (((((Y0.setCell ⟨fa,0,none⟩ (.int .i64 c)).setCell ⟨fa,1,none⟩ (.int .i64 (-1))).setCell ⟨fa,2,none⟩ (.int .i64 (-1))).setCell ⟨fa,3,none⟩ (.int .i64 col)).setCell ⟨fa,4,none⟩ (.int .i64 (-1)))):=keep_set5 _ _ _ _ _ _ _
    clear hz hk5
    refine tkr 12 rfl fun K hK=>?_
    go_simp
    refine hK.out _ _ ⟨HV.out.cell hH.1 (by have h1:=HFB.out;have h2:=HX1.out.1.size;have h3:=HZ3.out;omega),HV.out.cell hH.2.1 (by have h1:=HFB.out;have h2:=HX1.out.1.size;have h3:=HZ3.out;omega),HV.out.cell hH.2.2.1 (by have h1:=HFB.out;have h2:=HX1.out.1.size;have h3:=HZ3.out;omega),HV.out.cell hH.2.2.2.1 (by have h1:=HFB.out;have h2:=HX1.out.1.size;have h3:=HZ3.out;omega),HV.out.cell hH.2.2.2.2.1 (by have h1:=HFB.out;have h2:=HX1.out.1.size;have h3:=HZ3.out;omega),HV.out.cell hH.2.2.2.2.2 (by have h1:=HFB.out;have h2:=HX1.out.1.size;have h3:=HZ3.out;omega)⟩ (fun _=>?_)
    clear hK K k0 k1 k2 k3 k4 f0 f1 f2 f3 f4 hH
    refine wpAnyH_done (by kernel_rfl) ?_ _
    go_wp2_with fail
    go_meet
    case rel=>exact⟨fa,rfl,HK5.out,HFB.out.2.1,fx_join HX1.out.1 (HFB.out.2.2.trans HV.out) HFB.out.2.1,N',HX1.out.2.1.stands (HFB.out.2.2.trans HV.out).size (fun k hk=>(HFB.out.2.2.trans HV.out).block k (HX1.out.2.1.lt k hk) fun e=>((fun e=>by have h1:=HX1.out.2.1.lt _ e;have h2:=HFB.out.1;omega)) (e▸hk)),HX1.out.2.2,(fun e=>by have h1:=HX1.out.2.1.lt _ e;have h2:=HFB.out.1;omega)⟩
   go_simp
   have hb2:Below Z3.heap.size Z3 (Z3.alloc zeroFault).drew:=below_drew1 ((Below.refl _ Z3).alloc (Nat.le_refl _) zeroFault)
   have hz0:(Z3.alloc zeroFault).drew.heap[Z3.heap.size]?=some zeroFault:=heap_alloc_new Z3 zeroFault
   have hzs:(Z3.alloc zeroFault).drew.heap.size=Z3.heap.size+1:=World.size_alloc Z3 zeroFault
   refine hK.out _ _ ⟨cell_below hb2 p1,cell_below hb2 c0,cell_below hb2 c1,cell_below hb2 c2,cell_below hb2 c3,cell_below hb2 c4⟩ (fun hH=>?_)
   clear hK K
   generalize (Z3.alloc zeroFault).drew=X2 at hz0 hzs hH hb2 ⊢
   obtain⟨fa,hfa⟩:∃ fa,fa=Z3.heap.size:=⟨_,rfl⟩
   rw[←hfa]at hz0 ⊢
   have HB2:Hid (Below Z3.heap.size Z3 X2∧X2.heap.size=Z3.heap.size+1∧fa=Z3.heap.size):=⟨hb2,hzs,hfa⟩
   clear hfa hzs hb2
   refine tkr 10 rfl fun K hK=>?_
   go_simp
   refine(HLY.out X2 (HZ3.out.1.below HB2.out.1) (below_then HZ3.out.2.1 HB2.out.1)).mono ?_
   rintro e X1 ⟨rfl,hkx,N',hx1,hx2⟩
   go_simp
   have nfa:¬ N fa:=fun hm=>by have h1:=HP.out.1.y.lt _ hm;have h2:=HB2.out.2.2;have h3:=HZ3.out.2.2.1;omega
   have hz:=(hkx.block _ (lt_of_heap hz0) nfa).trans hz0
   have HX1:Hid (Keep N Z3 X1∧RSto N' X1 sy (Q.n n) ((R.ts Ts).map fun T=>(T.name,T.types))∧(∀ k,N' k→N k∨Z3.heap.size≤k)∧¬ N' fa):=⟨(Keep.of_below HB2.out.1).trans hkx,hx1,fun k hk=>(hx2 k hk).imp_right fun a=>by have h1:=HB2.out.2.1;omega,fun e=>(hx2 _ e).elim nfa fun a=>by have h1:=HB2.out.2;omega⟩
   refine hK.out _ _ ⟨hkx.cell hH.1 HP.out.1.np.2,hkx.cell hH.2.1 HZ3.out.2.2.2.2,hkx.cell hH.2.2.1 HZ3.out.2.2.2.2,hkx.cell hH.2.2.2.1 HZ3.out.2.2.2.2,hkx.cell hH.2.2.2.2.1 HZ3.out.2.2.2.2,hkx.cell hH.2.2.2.2.2 HZ3.out.2.2.2.2⟩ (fun hH=>?_)
   clear hK K hkx hz0 nfa hx1 hx2
   have k0:X1.cell? ⟨fa,0,none⟩=some (.int .i64 0):=by simp[World.cell?,hz]
   have k1:X1.cell? ⟨fa,1,none⟩=some (.int .i64 0):=by simp[World.cell?,hz]
   have k2:X1.cell? ⟨fa,2,none⟩=some (.int .i64 0):=by simp[World.cell?,hz]
   have k3:X1.cell? ⟨fa,3,none⟩=some (.int .i64 0):=by simp[World.cell?,hz]
   have k4:X1.cell? ⟨fa,4,none⟩=some (.int .i64 0):=by simp[World.cell?,hz]
   have f0:X1.frozen? ⟨fa,0,none⟩=false:=by simp[World.frozen?,hz]
   have f1:X1.frozen? ⟨fa,1,none⟩=false:=by simp[World.frozen?,hz]
   have f2:X1.frozen? ⟨fa,2,none⟩=false:=by simp[World.frozen?,hz]
   have f3:X1.frozen? ⟨fa,3,none⟩=false:=by simp[World.frozen?,hz]
   have f4:X1.frozen? ⟨fa,4,none⟩=false:=by simp[World.frozen?,hz]
   have hk5:=heap_set (heap_set (heap_set (heap_set (heap_set hz 0 (.int .i64 c)) 1 (.int .i64 (-1))) 2 (.int .i64 (-1))) 3 (.int .i64 col)) 4 (.int .i64 (-1))
   simp only[List.setIfInBounds_toArray,List.set_cons_zero,List.set_cons_succ]at hk5
   have HK5:Hid _:=hk5
   have HV:Hid (Keep (fun k=>k=fa) X1 (((((X1.setCell ⟨fa,0,none⟩ (.int .i64 c)).setCell ⟨fa,1,none⟩ (.int .i64 (-1))).setCell ⟨fa,2,none⟩ (.int .i64 (-1))).setCell ⟨fa,3,none⟩ (.int .i64 col)).setCell ⟨fa,4,none⟩ (.int .i64 (-1)))):=keep_set5 _ _ _ _ _ _ _
   clear hz hk5
   refine tkr 12 rfl fun K hK=>?_
   go_simp
   refine hK.out _ _ ⟨HV.out.cell hH.1 (by have h1:=HB2.out;have h3:=HZ3.out;omega),HV.out.cell hH.2.1 (by have h1:=HB2.out;have h3:=HZ3.out;omega),HV.out.cell hH.2.2.1 (by have h1:=HB2.out;have h3:=HZ3.out;omega),HV.out.cell hH.2.2.2.1 (by have h1:=HB2.out;have h3:=HZ3.out;omega),HV.out.cell hH.2.2.2.2.1 (by have h1:=HB2.out;have h3:=HZ3.out;omega),HV.out.cell hH.2.2.2.2.2 (by have h1:=HB2.out;have h3:=HZ3.out;omega)⟩ (fun _=>?_)
   clear hK K k0 k1 k2 k3 k4 f0 f1 f2 f3 f4 hH
   refine wpAnyH_done (by kernel_rfl) ?_ _
   go_wp2_with fail
   go_meet
   case rel=>exact⟨fa,rfl,HK5.out,(by have h1:=HB2.out.2.2;omega),fx_join HX1.out.1 HV.out (by have h1:=HB2.out.2.2;omega),N',HX1.out.2.1.stands HV.out.size (fun k hk=>HV.out.block k (HX1.out.2.1.lt k hk) fun e=>(HX1.out.2.2.2) (e▸hk)),HX1.out.2.2.1,HX1.out.2.2.2⟩
  case rest=>
   obtain⟨ga,rfl,hga,hgz,hkz,N',hst,hN',hng⟩:=hcut
   have hff:=(hkz.block fa HF3.out.2.2.2.1 fun hn=>by have h1:=HP.out.1.y.lt _ hn;have h2:=HF3.out.2.2.1;have h3:=HZE.out;omega).trans HF3.out.1
   have u0:wc.cell? ⟨fa,0,none⟩=some (.int .i64 c):=by simp[World.cell?,hff]
   have u1:wc.cell? ⟨fa,1,none⟩=some (.int .i64 (-1)):=by simp[World.cell?,hff]
   have u2:wc.cell? ⟨fa,2,none⟩=some (.int .i64 (-1)):=by simp[World.cell?,hff]
   have u3:wc.cell? ⟨fa,3,none⟩=some (.int .i64 col):=by simp[World.cell?,hff]
   have u4:wc.cell? ⟨fa,4,none⟩=some (.int .i64 (-1)):=by simp[World.cell?,hff]
   have v0:wc.cell? ⟨ga,0,none⟩=some (.int .i64 c):=by simp[World.cell?,hga]
   have v1:wc.cell? ⟨ga,1,none⟩=some (.int .i64 (-1)):=by simp[World.cell?,hga]
   have v2:wc.cell? ⟨ga,2,none⟩=some (.int .i64 (-1)):=by simp[World.cell?,hga]
   have v3:wc.cell? ⟨ga,3,none⟩=some (.int .i64 col):=by simp[World.cell?,hga]
   have v4:wc.cell? ⟨ga,4,none⟩=some (.int .i64 (-1)):=by simp[World.cell?,hga]
   have hq:=run_eql_FT c (-1) (-1) col (-1)
   have HFIN:Hid (Below w0.heap.size w0 wc∧∃ (M' N':Nat→Prop) (n':Nat),PairAt wc pb sx sy M' N' (R.d D) (R.ts Ts) n'∧∀ k,M' k∨N' k∨k=pb→w0.heap.size≤k):=by
    have hw0:=HP.out.2.2.1.size
    have hZw:=HZ.out.1.size
    have hll:(Q.rs (Ts.map fun T=>(T.name,T.types)) d.name d.ts).length=(R.ts Ts).length:=by rw[←HQ.out.2.2.1,List.length_map]
    refine⟨HZ3.out.2.1.trans (hkz.below (fun k hk hn=>by have h1:=HP.out.2.2.2.1 k (.inr (.inl hn));omega) HZ3.out.2.1.size),M',N',Q.n n,⟨(hkz.block pb (by have h1:=HZ3.out;omega) HP.out.1.np.2).trans HPP.out,HF3.out.2.1.stands hkz.size fun k hk=>hkz.block k (HF3.out.2.2.2.2.2.1 k hk) fun hn=>?_,hst,fun k hk hn=>?_,⟨fun hm=>?_,fun hn=>?_⟩,⟨HQ.out.2.2.2.1.quota,HQ.out.2.2.2.1.fail⟩,⟨HQ.out.2.2.2.1.writes0,?_⟩,⟨?_,by rw[←hll];exact HQ.out.2.2.2.2⟩,HQ.out.2.2.2.1.few HP.out.1.few,fun T hT=>?_⟩,fun k hk=>?_⟩
    ·rcases HF3.out.2.2.2.2.1 k hk with a|a
     ·exact HP.out.1.apart k a hn
     have h1:=HP.out.1.y.lt k hn;omega
    ·rcases HF3.out.2.2.2.2.1 k hk with a|a
     ·rcases hN' k hn with b|b
      ·exact HP.out.1.apart k a b
      have h1:=HP.out.1.x.lt k a;have h2:=HF3.out.2.2.2.2.2.2.1;omega
     rcases hN' k hn with b|b
     ·have h1:=HP.out.1.y.lt k b;omega
     have h1:=HF3.out.2.2.2.2.2.1 k hk;omega
    ·rcases HF3.out.2.2.2.2.1 pb hm with a|a
     ·exact HP.out.1.np.1 a
     have h1:=HZL.out;omega
    ·rcases hN' pb hn with a|a
     ·exact HP.out.1.np.2 a
     have h1:=HZ3.out;omega
    ·have h1:=HQ.out.2.2.2.1.writes;have h2:=HP.out.1.writes;omega
    ·have h1:=HQ.out.2.2.2.1.pages;have h2:=HP.out.1.pages;omega
    ·rcases HQ.out.2.2.2.1.tabs T hT with a|⟨a,b⟩
     ·exact HP.out.1.tys T a
     rw[a];exact tab_sch b
    rcases hk with a|a|a
    ·rcases HF3.out.2.2.2.2.1 k a with b|b
     ·exact HP.out.2.2.2.1 k (.inl b)
     omega
    ·rcases hN' k a with b|b
     ·exact HP.out.2.2.2.1 k (.inr (.inl b))
     have h1:=HZ3.out.2.1.size;omega
    exact HP.out.2.2.2.1 k (.inr (.inr a))
   clear hga hgz hkz hst hN' hng hff
   go_wp2
   go_ret
   exact⟨rfl,HFIN.out⟩
end Go.Proofs.YtkgibdjakgmmcaaGreatDoor
