/- The law's stores: both begun, with some tables. -/
import Derived.Test.YtkgibdjakgmmcaaGreatDoorWl
import Derived.Test.YtkgibdjakgmmcaaGreatDoorWo
import Derived.Test.YtkgibdjakgmmcaaGreatDoorYh
import Derived.Laws.IdiomCopy
set_option maxHeartbeats 4000000
set_option maxRecDepth 100000
namespace Go.Proofs.YtkgibdjakgmmcaaGreatDoor
open Go.RowKit Go.Shelf
attribute [local go_sem] Oper.semAt_some
def DxsAt (w:World)(a:Option Addr)(L:List Dx):Prop:=∀ (i:Nat) (d:Dx),L[i]?=some d→DxAt w d∧∃ b o,a=some ⟨b,o,none⟩∧w.cell? ⟨b,o+i*5,none⟩=some (.string d.name)∧w.cell? ⟨b,o+i*5+1,none⟩=some (.slice d.at_ d.ts.length d.ct)∧w.cell? ⟨b,o+i*5+2,none⟩=some (.slice d.ar d.rs.length d.cr)∧w.cell? ⟨b,o+i*5+3,none⟩=some (.slice d.ah d.hs.length d.ch)∧w.cell? ⟨b,o+i*5+4,none⟩=some (.int .i64 d.g)
def loadsR (L:List Dx):DS×List TS:=L.foldl (fun s d=>((loadR s.1 s.2 d.name d.ts d.hs d.rs d.g).d s.1,(loadR s.1 s.2 d.name d.ts d.hs d.rs d.g).ts s.2)) (emptyDS 1048576 0,[])
theorem loadsR_next {L:List Dx}{j:Nat}{d:Dx}(h:L[j]?=some d):loadsR (L.take (j+1))=((loadR (loadsR (L.take j)).1 (loadsR (L.take j)).2 d.name d.ts d.hs d.rs d.g).d (loadsR (L.take j)).1,(loadR (loadsR (L.take j)).1 (loadsR (L.take j)).2 d.name d.ts d.hs d.rs d.g).ts (loadsR (L.take j)).2):=by
 unfold loadsR
 rw[List.take_add_one,h,Option.toList_some,List.foldl_append]
 rfl
def BegunP (w:World)(D:DS)(Ts:List TS)(e:Ending)(w':World):Prop:=Below w.heap.size w w'∧∃ (pb sx sy:Nat) (M N:Nat→Prop) (n:Nat),e=.returned (.tuple #[.pointer (some ⟨pb,0,none⟩),.bool true])∧PairAt w' pb sx sy M N D Ts n∧∀ k,M k∨N k∨k=pb→w.heap.size≤k
theorem lBegun_any (a:Option Addr)(c:Nat)(L:List Dx)(w:World)(h:DxsAt w a L)(hn:L.length≤1000000000000000)(a0 a1 a2 tt q wr_ pg pl ex ta:Addr)(hN:Names w a0 a1 a2 tt q wr_ pg pl ex ta) :
  Calls Tryz.prog 7 #[.agg #[.int .i64 1048576,.int .i64 0],.slice a L.length c] w (BegunP w (loadsR L).1 (loadsR L).2):=by
 have HH:Hid (DxsAt w a L∧Names w a0 a1 a2 tt q wr_ pg pl ex ta):=⟨h,hN⟩
 clear h hN
 go_enter Tryz.func7,Tryz.ntmps7
 go_upto_region 1 with fail
 obtain⟨W,hW⟩:∃ W,W=w.alloc (.cells #[.int .i64 1048576,.int .i64 0] 35):=⟨_,rfl⟩
 rw[←hW]
 have hbW:Below w.heap.size w W:=by rw[hW];exact(Below.refl _ w).alloc (Nat.le_refl _) _
 have hWd:W.heap[w.heap.size]?=some (.cells #[.int .i64 1048576,.int .i64 0] 35 (0,0)):=by rw[hW];exact heap_alloc_new _ _
 have c0:W.cell? ⟨w.heap.size,0,none⟩=some (.int .i64 1048576):=by simp[World.cell?,hWd]
 have c1:W.cell? ⟨w.heap.size,1,none⟩=some (.int .i64 0):=by simp[World.cell?,hWd]
 have HW:Hid (Below w.heap.size w W):=hbW
 clear hW hWd hbW
 refine wp_region_held_drew (S:=fun X=>X.cell? ⟨w.heap.size,0,none⟩=some (.int .i64 1048576)∧X.cell? ⟨w.heap.size,1,none⟩=some (.int .i64 0)) (by kernel_rfl) ⟨cell_drew c0,cell_drew c1⟩ (fun hH=>?_)
 refine tkj 0 rfl hH ?_
 refine tkj 2 rfl hH ?_
 refine tkn ?_
 refine tkr 1 rfl fun K hK=>?_
 go_simp
 refine(New_any 1048576 0 _).mono ?_
 rintro e X1 ⟨hb1,sx,M,rfl,hx,hM⟩
 go_simp
 refine hK.out _ _ ⟨cell_below hb1 hH.1,cell_below hb1 hH.2⟩ (fun hH=>?_)
 clear hK K
 refine tkr 3 rfl fun K hK=>?_
 go_simp
 refine(rNew_room _).mono ?_
 rintro e X2 ⟨hb2,sy,N,rfl,hy,hN⟩
 go_simp
 refine hK.out _ _ ⟨cell_below hb2 hH.1,cell_below hb2 hH.2⟩ (fun hH=>?_)
 clear hK K
 refine tkj 4 rfl hH ?_
 refine tkn ?_
 refine tkr 5 rfl fun K hK=>?_
 go_simp
 have hb3:Below X2.heap.size X2 (X2.alloc (.cells #[.pointer (some ⟨sx,0,none⟩),.pointer (some ⟨sy,0,none⟩)] 47)):=below_alloc (Below.refl _ _) _
 refine hK.out _ _ ⟨cell_below hb3 hH.1,cell_below hb3 hH.2⟩ (fun hH=>?_)
 clear hK K
 have hz3:=heap_alloc_new X2 (.cells #[.pointer (some ⟨sx,0,none⟩),.pointer (some ⟨sy,0,none⟩)] 47)
 have hs1:=hb1.size
 have hs2:=hb2.size
 have hs0:=HW.out.size
 have hd:W.drew.heap.size=W.heap.size:=rfl
 have HX:Hid (Below w.heap.size w (X2.alloc (.cells #[.pointer (some ⟨sx,0,none⟩),.pointer (some ⟨sy,0,none⟩)] 47))∧PairAt (X2.alloc (.cells #[.pointer (some ⟨sx,0,none⟩),.pointer (some ⟨sy,0,none⟩)] 47)) X2.heap.size sx sy M N (loadsR (L.take 0)).1 (loadsR (L.take 0)).2 0∧∀ k,M k∨N k∨k=X2.heap.size→w.heap.size≤k):=by
  refine⟨below_then HW.out (below_then (below_undrew hb1) (below_then hb2 hb3)),⟨hz3,(hx.below hb2).below hb3,hy.below hb3,fun k hm hn=>?_,⟨fun hm=>?_,fun hn=>?_⟩,⟨rfl,rfl⟩,⟨by simp[loadsR,emptyDS],by simp[loadsR,emptyDS]⟩,⟨by simp[loadsR,emptyDS],by simp[loadsR]⟩,by simp[loadsR],by simp[loadsR]⟩,fun k hk=>?_⟩
  ·have h1:=hx.lt k hm
   have h2:=hN k hn
   omega
  ·have h1:=hx.lt _ hm
   omega
  ·have h1:=hy.lt _ hn
   omega
  rcases hk with a|a|a
  ·have:=hM k a;omega
  ·have:=hN k a;omega
  omega
 generalize X2.alloc (.cells #[.pointer (some ⟨sx,0,none⟩),.pointer (some ⟨sy,0,none⟩)] 47)=X3 at HX hH hz3 ⊢
 generalize X2.heap.size=pb at HX hz3 ⊢
 have p0:X3.cell? ⟨pb,0,none⟩=some (.pointer (some ⟨sx,0,none⟩)):=by simp[World.cell?,hz3]
 clear hz3 hb3 hb2 hb1 hx hy hM hN hs0 hs1 hs2 hd c0 c1
 refine tkj 6 rfl hH ?_
 refine tkn ?_
 refine wpAnyH_done (by kernel_rfl) ?_ _
 clear hH
 go_upto_region 5 with fail
 clear p0
 go_loopw [7] (fun iv' wr=>∃ (j:Nat) (M N:Nat→Prop) (n:Nat),iv'=.int .i64 (j:Int)∧j≤L.length∧Hid (Below w.heap.size w wr∧PairAt wr pb sx sy M N (loadsR (L.take j)).1 (loadsR (L.take j)).2 n∧∀ k,M k∨N k∨k=pb→w.heap.size≤k)) (fun iv' _=>L.length-(intOf iv').toNat)
 case atStart=>exact⟨0,M,N,0,rfl,Nat.zero_le _,HX.out⟩
 case round=>
  clear HX
  obtain⟨j,M',N',n,rfl,hj,HX⟩:=hrel
  by_cases hlt:j<L.length
  ·have HLJ:Hid (L[j]?=some L[j]∧j<L.length):=⟨List.getElem?_eq_getElem hlt,hlt⟩
   generalize L[j]=d at HLJ
   obtain⟨hD,b,o,ha,q0,q1,q2,q3,q4⟩:=HH.out.1 j d HLJ.out.1
   subst ha
   have e0:=cell_below HX.out.1 q0
   have e1:=cell_below HX.out.1 q1
   have e2:=cell_below HX.out.1 q2
   have e3:=cell_below HX.out.1 q3
   have e4:=cell_below HX.out.1 q4
   have hld:=lLoad_any d pb sx sy M' N' _ _ n wr w HX.out.2.1 hD HX.out.1 HX.out.2.2 a0 a1 a2 tt q wr_ pg pl ex ta HH.out.2
   unfold Dx.val at hld
   have i1:(0:Int)≤(j:Int):=by omega
   have i2:(j:Int)<(L.length:Int):=by omega
   clear hlt q0 q1 q2 q3 q4 hD
   go_wp2_with (go_at_call 18;refine hld.mono ?_;rintro e w2 ⟨rfl,hb2,M2,N2,n2,hp2,hm2⟩)
   go_roundw
   case rel=>exact⟨j+1,M2,N2,n2,by have:=HLJ.out.2;go_num,HLJ.out.2,hb2,by rw[loadsR_next HLJ.out.1];exact hp2,hm2⟩
   case measure=>have:=HLJ.out.2;simp[intOf];omega
  obtain rfl:j=L.length:=by omega
  rw[List.take_length]at HX
  have x1:¬ ((L.length:Int)<(L.length:Int)):=by omega
  go_wp2
  go_ret2
  exact⟨HX.out.1,pb,sx,sy,M',N',n,by simp,HX.out.2⟩
theorem ex_used (at_:Option Addr)(ct:Nat)(ar:Option Addr)(cr:Nat)(xs:List (Option Addr×Nat))(ah:Option Addr)(ch:Nat):usedOf (loadsR [⟨⟨#[116]⟩,at_,ct,[1,3],ar,cr,xs,exRows,ah,ch,[0,1],2⟩]).1.pages=4:=by kernel_rfl
theorem lKnown_any (w:World)(a0 a1 a2 tt q wr_ pg pl ex ta:Addr)(hN:Names w a0 a1 a2 tt q wr_ pg pl ex ta) :
  Calls Tryz.prog 4 #[] w fun e w'=>∃ D Ts,BegunP w D Ts e w':=by
 have HN:Hid (Names w a0 a1 a2 tt q wr_ pg pl ex ta):=hN
 clear hN
 go_enter Tryz.func4,Tryz.ntmps4
 go_wp2_with fail
 refine(lRoom_any w).mono ?_
 rintro e w1 ⟨rfl,hb1⟩
 go_wp2_with fail
 refine(lExample_any w1).mono ?_
 rintro e w2 ⟨at_,ct,ar,cr,xs,ah,ch,rfl,hi,hx,hr,hb2,hcr⟩
 have hb3:Below w2.heap.size w2 (w2.alloc (.cells #[.string ⟨#[116]⟩,.slice at_ 2 ct,.slice ar 4 cr,.slice ah 2 ch,.int .i64 2] 42)):=below_alloc (Below.refl _ _) _
 have hz3:=heap_alloc_new w2 (.cells #[.string ⟨#[116]⟩,.slice at_ 2 ct,.slice ar 4 cr,.slice ah 2 ch,.int .i64 2] 42)
 have HB:Hid (Below w.heap.size w w2):=below_then hb1 hb2
 obtain⟨d,hd⟩:∃ d:Dx,d=⟨⟨#[116]⟩,at_,ct,[1,3],ar,cr,xs,exRows,ah,ch,[0,1],2⟩:=⟨_,rfl⟩
 have hbg:=fun (X:World) (hzX:X.heap[w2.heap.size]?=some (.cells #[.string ⟨#[116]⟩,.slice at_ 2 ct,.slice ar 4 cr,.slice ah 2 ch,.int .i64 2] 42 (0,0))) (hbX:Below w2.heap.size w2 X)=>lBegun_any (some ⟨w2.heap.size,0,none⟩) 1 [d] X (by
  intro i d' hi'
  cases i with
  |succ i=>simp at hi'
  |zero=>
   simp at hi'
   subst hi'
   subst hd
   refine⟨⟨(by show (1:Nat)≤maxLen;unfold maxLen;decide),(by show (2:Nat)≤17592186044415;decide),(by show (4:Nat)≤5864062014805;decide),fun r hr'=>?_,(by show (2:Nat)≤17592186044415;decide),hcr,hi.below hbX,hx.below hbX,hr.below hbX⟩,w2.heap.size,0,rfl,?_,?_,?_,?_,?_⟩
   ·have hr':r∈exRows:=hr'
    simp[exRows]at hr'
    rcases hr' with rfl|rfl|rfl|rfl<;>decide
   all_goals (simp[World.cell?,hzX];try rfl)) (by simp) a0 a1 a2 tt q wr_ pg pl ex ta (HN.out.below (below_then HB.out hbX))
 have HBG:Hid _:=hbg
 have HU:Hid (usedOf (loadsR [d]).1.pages=4):=by rw[hd];exact ex_used _ _ _ _ _ _ _
 have HZ3:Hid _:=hz3
 clear hbg hi hx hr hcr hz3 hb1 hb2 hd
 go_wp2_with fail
 have hbg:=HBG.out _ HZ3.out hb3
 refine hbg.mono ?_
 rintro e w4 ⟨hb4,pb,sx,sy,M,N,n,rfl,hP,hM⟩
 have p0:w4.cell? ⟨pb,0,none⟩=some (.pointer (some ⟨sx,0,none⟩)):=by simp[World.cell?,hP.cells]
 have hus:=Used_sto M sx _ _ w4 hP.x
 rw[HU.out]at hus
 have hus4:Calls Tryz.prog 10 #[.pointer (some ⟨sx,0,none⟩)] w4 fun e w'=>e=.returned (.int .i64 4)∧w'=w4:=hus
 have HF:Hid (BegunP w (loadsR [d]).1 (loadsR [d]).2 (.returned (.tuple #[.pointer (some ⟨pb,0,none⟩),.bool true])) w4):=⟨below_then HB.out (below_then hb3 hb4),pb,sx,sy,M,N,n,rfl,hP,fun k hk=>by have h1:=hM k hk;have h2:=HB.out.size;have h3:=hb3.size;omega⟩
 clear hbg HBG hP hM hb4 hus
 go_wp2_with (go_at_call 10;refine hus4.mono ?_;rintro e w5 ⟨rfl,hw5⟩;subst w5)
 go_ret2
 exact⟨(loadsR [d]).1,(loadsR [d]).2,by have hf:=HF.out;simpa using hf⟩
theorem flr_len {α:Type}(f:α→List Value)(z:Nat)(hz:∀ x,(f x).length=z):∀ l:List α,(l.flatMap f).length=l.length*z
 |[]=>by simp
 |x::l=>by rw[List.flatMap_cons,List.length_append,flr_len f z hz l,hz,List.length_cons,Nat.succ_mul,Nat.add_comm]
theorem flr_get {α:Type}(f:α→List Value)(z:Nat)(hz:∀ x,(f x).length=z):∀ (l:List α) (i:Nat) (x:α) (k:Nat),l[i]?=some x→k<z→(l.flatMap f)[i*z+k]?=(f x)[k]?
 |[],i,x,k,h,_=>by simp at h
 |y::l,0,x,k,h,hk=>by
  simp at h
  subst h
  rw[List.flatMap_cons,Nat.zero_mul,Nat.zero_add,List.getElem?_append_left (by rw[hz];exact hk)]
 |y::l,i+1,x,k,h,hk=>by
  rw[List.flatMap_cons,List.getElem?_append_right (by rw[hz,Nat.succ_mul];omega),hz,show (i+1)*z+k-z=i*z+k by rw[Nat.succ_mul];omega]
  exact flr_get f z hz l i x k (by simpa using h) hk
theorem flr_src {α:Type}(f:α→List Value)(z:Nat)(hz:∀ x,(f x).length=z):∀ (l:List α) (j:Nat) (u:Value),(l.flatMap f)[j]?=some u→∃ i x k,l[i]?=some x∧k<z∧j=i*z+k∧(f x)[k]?=some u
 |[],j,u,h=>by simp at h
 |y::l,j,u,h=>by
  rw[List.flatMap_cons]at h
  by_cases hj:j<z
  ·rw[List.getElem?_append_left (by rw[hz];exact hj)]at h
   exact⟨0,y,j,rfl,hj,by omega,h⟩
  rw[List.getElem?_append_right (by rw[hz];omega),hz]at h
  obtain⟨i,x,k,h1,h2,h3,h4⟩:=flr_src f z hz l (j-z) u h
  exact⟨i+1,x,k,by simpa using h1,h2,by rw[Nat.succ_mul];omega,h4⟩
def RecAt {α:Type}(f:α→List Value)(z:Nat)(w:World)(a:Option Addr)(l:List α):Prop:=∀ (j:Nat) (x:α),l[j]?=some x→∃ b o,a=some ⟨b,o,none⟩∧∀ (k:Nat) v,(f x)[k]?=some v→w.cell? ⟨b,o+j*z+k,none⟩=some v
theorem rec_src {α:Type}{f:α→List Value}{z:Nat}(hz:∀ x,(f x).length=z){w:World}{a:Option Addr}{l:List α}(h:RecAt f z w a l):l.length=0∨∃ b o,a=some ⟨b,o,none⟩∧∀ (j:Nat) u,(l.flatMap f)[j]?=some u→w.cell? ((⟨b,o,none⟩:Addr).add j)=some u:=by
 rcases Nat.eq_zero_or_pos l.length with h0|h0
 ·exact .inl h0
 obtain⟨b,o,rfl,_⟩:=h 0 l[0] (List.getElem?_eq_getElem h0)
 refine .inr ⟨b,o,rfl,fun j u hu=>?_⟩
 obtain⟨i,x,k,h1,h2,h3,h4⟩:=flr_src f z hz l j u hu
 obtain⟨b',o',e,hc⟩:=h i x h1
 cases e
 have:=hc k u h4
 rw[addr_add,h3,←Nat.add_assoc]
 exact this
theorem rec_of_list {α:Type}{f:α→List Value}{z:Nat}(hz:∀ x,(f x).length=z){w:World}{g:Nat}{e:TypeId}{l:List α}{tl:List Value}(h:w.heap[g]?=some (.cells (l.flatMap f++tl).toArray e (0,0))):RecAt f z w (some ⟨g,0,none⟩) l:=fun j x hj=>by
 refine⟨g,0,rfl,fun k v hk=>?_⟩
 have hkz:k<z:=by rw[←hz x];exact(List.getElem?_eq_some_iff.1 hk).1
 have hjl:=(List.getElem?_eq_some_iff.1 hj).1
 have hle:j*z+k<(l.flatMap f).length:=by
  rw[flr_len f z hz]
  have:(j+1)*z≤l.length*z:=Nat.mul_le_mul_right z hjl
  rw[Nat.succ_mul]at this
  omega
 rw[Nat.zero_add]
 refine cell_of_list h ?_
 rw[List.getElem?_append_left hle,flr_get f z hz l j x k hj hkz]
 exact hk
theorem keep_sc (g:Nat):∀ (vs:List Value) (m:Nat) (w:World),Keep (fun k=>k=g) w (w.setCells g m vs)
 |[],_,w=>Keep.refl _ w
 |v::r,m,w=>(keep_one w g m v).trans (keep_sc g r (m+1) _)
theorem sc_block {g:Nat}{t:TypeId}:∀ (vs:List Value) (m:Nat) (w:World) (cs:Array Value),w.heap[g]?=some (.cells cs t (0,0))→∃ cs',(w.setCells g m vs).heap[g]?=some (.cells cs' t (0,0))∧cs'.size=cs.size
 |[],_,w,cs,h=>⟨cs,h,rfl⟩
 |v::r,m,w,cs,h=>by
  obtain⟨cs',h1,h2⟩:=sc_block r (m+1) _ _ (heap_set h m v)
  exact⟨cs',h1,by rw[h2];simp⟩
theorem sc_in {g m:Nat}{vs:List Value}{w:World}{cs:Array Value}{t:TypeId}(h:w.heap[g]?=some (.cells cs t (0,0)))(hs:m+vs.length≤cs.size){j:Nat}{v:Value}(hj:vs[j]?=some v):(w.setCells g m vs).cell? ⟨g,m+j,none⟩=some v:=by
 obtain⟨hl,rfl⟩:=List.getElem?_eq_some_iff.1 hj
 exact World.cell?_setCells_in g vs m w (fun i hi=>by simp[World.cell?,h,show m+i<cs.size by omega]) j hl
theorem sc_out {g m o:Nat}{vs:List Value}{w:World}(h:o<m∨m+vs.length≤o):(w.setCells g m vs).cell? ⟨g,o,none⟩=w.cell? ⟨g,o,none⟩:=
 World.cell?_setCells_out g vs m w ⟨g,o,none⟩ fun _ _=>h
theorem rec_marked {α:Type}{f:α→List Value}{z:Nat}(hz:∀ x,(f x).length=z){w:World}{g:Nat}{e:TypeId}{l:List α}{tl mark:List Value}(h:w.heap[g]?=some (.cells (l.flatMap f++tl).toArray e (0,0)))(ht:tl.length=z)(hm:mark.length=z) :
  RecAt f z (w.setCells g (l.length*z) mark) (some ⟨g,0,none⟩) l∧∀ (k:Nat) v,mark[k]?=some v→(w.setCells g (l.length*z) mark).cell? ⟨g,l.length*z+k,none⟩=some v:=by
 have hr:=rec_of_list hz h
 refine⟨fun j x hj=>?_,fun k v hk=>sc_in h (by rw[List.size_toArray,List.length_append,flr_len f z hz];omega) hk⟩
 obtain⟨b,o,e,hc⟩:=hr j x hj
 cases e
 refine⟨g,0,rfl,fun k v hk=>?_⟩
 have hkz:k<z:=by rw[←hz x];exact(List.getElem?_eq_some_iff.1 hk).1
 have hjl:=(List.getElem?_eq_some_iff.1 hj).1
 have:(j+1)*z≤l.length*z:=Nat.mul_le_mul_right z hjl
 rw[Nat.succ_mul]at this
 rw[sc_out (.inl (by omega))]
 exact hc k v hk
theorem RecAt.of_block {α:Type}{f:α→List Value}{z:Nat}{w X:World}{g:Nat}{l:List α}(h:RecAt f z w (some ⟨g,0,none⟩) l)(hb:X.heap[g]?=w.heap[g]?):RecAt f z X (some ⟨g,0,none⟩) l:=fun j x hj=>by
 obtain⟨b,o,e,hc⟩:=h j x hj
 cases e
 exact⟨g,0,rfl,fun k v hk=>by rw[World.cell?_of_block hb];exact hc k v hk⟩
def kzC (k:Kz):List Value:=[.int .i64 k.c,.int .i64 k.o,.bool k.d,.int .i64 k.f]
theorem rec_kz {w:World}{a:Option Addr}{ks:List Kz}:KzsAt w a ks↔RecAt kzC 4 w a ks:=by
 constructor
 ·intro h j k hj
  obtain⟨b,o,e,h0,h1,h2,h3⟩:=h j k hj
  refine⟨b,o,e,fun i v hi=>?_⟩
  rcases i with _|_|_|_|i<;>simp[kzC]at hi<;>subst hi<;>assumption
 intro h j k hj
 obtain⟨b,o,e,hc⟩:=h j k hj
 exact⟨b,o,e,hc 0 _ rfl,hc 1 _ rfl,hc 2 _ rfl,hc 3 _ rfl⟩
theorem rec_pt {w:World}{a:Option Addr}{ps:List Pt}:PtsIn w a ps↔RecAt ptC 7 w a ps:=by
 constructor
 ·intro h j p hj
  obtain⟨b,o,e,h0,h1,h2,h3,h4,h5,h6⟩:=h j p hj
  refine⟨b,o,e,fun i v hi=>?_⟩
  rcases i with _|_|_|_|_|_|_|i<;>simp[ptC]at hi<;>subst hi<;>assumption
 intro h j p hj
 obtain⟨b,o,e,hc⟩:=h j p hj
 exact⟨b,o,e,hc 0 _ rfl,hc 1 _ rfl,hc 2 _ rfl,hc 3 _ rfl,hc 4 _ rfl,hc 5 _ rfl,hc 6 _ rfl⟩
def PtStay (eb:Nat)(w:World)(pb:Nat)(es:List Pt):Prop:=∀ X:World,(∀ k,eb<k→k<w.heap.size→X.heap[k]?=w.heap[k]?)→X.cell? ⟨pb,es.length*7,none⟩=some (.int .i64 (-7))∧PtsIn X (some ⟨pb,0,none⟩) es
theorem PtStay.on {eb:Nat}{w w':World}{pb:Nat}{es:List Pt}(h:PtStay eb w pb es)(hs:w.heap.size≤w'.heap.size)(hk:∀ k,eb<k→k<w.heap.size→w'.heap[k]?=w.heap[k]?):PtStay eb w' pb es:=
 fun X hX=>h X fun k h1 h2=>(hX k h1 (by omega)).trans (hk k h1 h2)
def NdStay (nb:Nat)(w:World)(nd:Nd)(n:QN):Prop:=∀ X:World,(∀ k,nb<k→k<w.heap.size→X.heap[k]?=w.heap[k]?)→NdOwn X nd n
theorem NdStay.on {nb:Nat}{w w':World}{nd:Nd}{n:QN}(h:NdStay nb w nd n)(hs:w.heap.size≤w'.heap.size)(hk:∀ k,nb<k→k<w.heap.size→w'.heap[k]?=w.heap[k]?):NdStay nb w' nd n:=
 fun X hX=>h X fun k h1 h2=>(hX k h1 (by omega)).trans (hk k h1 h2)
structure PlI (w wr:World) (nb:Nat) (a:Option Addr) (nc:Nat) (ns:List QN) (nds:List Nd):Prop where
 low:Below w.heap.size w wr
 box:wr.heap[w.heap.size]?=some (.cells #[.slice a ns.length nc] 25 (0,0))
 res:wr.heap[w.heap.size+1]?=some (.cells #[.slice none 0 0] 25 (0,0))
 blk:∃ cs,wr.heap[nb]?=some (.cells cs 68 (0,0))∧cs.size=(ns.length+1)*7
 at_:∀ (i:Nat) (nd:Nd),nds[i]?=some nd→NodeAt wr nb (i*7) nd
 own:∀ (i:Nat) (nd:Nd) (n:QN),nds[i]?=some nd→ns[i]?=some n→NdStay nb wr nd n
 nb:nb=w.heap.size+2
structure ExI (W5 wr:World) (eb:Nat) (n:QN) (m:Nat):Prop where
 keep:Keep (fun k=>k=eb) W5 wr
 blk:∃ cs,wr.heap[eb]?=some (.cells cs 64 (0,0))∧cs.size=n.es.length+1
 done:∀ (i:Nat) (es:List Pt),i<m→n.es[i]?=some es→∃ pb,wr.cell? ⟨eb,i,none⟩=some (.slice (some ⟨pb,0,none⟩) es.length (es.length+1))∧PtStay eb wr pb es
end Go.Proofs.YtkgibdjakgmmcaaGreatDoor
