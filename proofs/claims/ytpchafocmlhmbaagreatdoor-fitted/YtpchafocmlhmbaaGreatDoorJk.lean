/- A Join: is there any that fits; the other kinds. -/
import Derived.Test.YtpchafocmlhmbaaGreatDoorJj
set_option maxHeartbeats 4000000
set_option maxRecDepth 100000
namespace Go.Proofs.YtpchafocmlhmbaaGreatDoor
open Go.RowKit Go.Shelf Go.Maps Tryz
attribute [local go_sem] Oc0
theorem Ks2.other {j:JnE}{E M M':Nat→Prop}{l:List (Nat×(Int×Bool))}{nl nr row H O R:Nat}{bs:List Nat}{h:Int}{K:Bool}{w:World}(y:Ks2 j E l nl nr bs h K row H O R M w)(D:∀ k,M' k→w.heap.size≤k):Ks2 j E l nl nr bs h K row H O R M' w:=
 ⟨y.jr,y.fl,y.u,y.rowl,y.few,y.c1,y.c2,y.c3,⟨fun e=>by have:=D _ e;have:=y.size.1;omega,fun e=>by have:=D _ e;have:=y.size.2.1;omega,fun e=>by have:=D _ e;have:=y.size.2.2.1;omega,fun k U e=>by have:=D _ e;have:=y.size.2.2.2 k U;omega⟩,y.size⟩
theorem Kul (j:JnE)(bN M:Nat→Prop)(l:List (Nat×(Int×Bool)))(nl nr row Z ba bc:Nat)(bs:List Nat)(h:Int)(bj:Bool)(w:World)(hF:Ks2 j bN l nl nr bs h bj row Z ba bc M w)(bC:Kv4 j w) :
  Calls prog 230 #[ftV Z ba bc] w fun e w'=>e=.returned (.bool (!(Krw j bs l row (h,bj)).isEmpty))∧Below w.heap.size w w':=by
 obtain⟨E,bi⟩:∃ E,E=w.alloc (.cells #[.bool false] 4):=⟨_,rfl⟩;have bn:Below w.heap.size w E:=by rw[bi];exact Jc (Oa5 _ _) _
 have bR:E.heap.size=w.heap.size+1:=by rw[bi,Oa7]
 have bT:E.heap[w.heap.size]?=some (.cells #[.bool false] 4 (0,0)):=by rw[bi];exact heap_alloc_new w _
 have bM:Hid (Ks2 j bN l nl nr bs h bj row Z ba bc (fun k=>k=w.heap.size) E):=(hF.other (M':=fun k=>k=w.heap.size) fun k e=>by have e:k=w.heap.size:=e;omega).below bn;have Y:Hid (Below w.heap.size w E∧E.heap.size=w.heap.size+1∧E.heap[w.heap.size]?=some (.cells #[.bool false] 4 (0,0))):=⟨bn,bR,bT⟩;have bP:j.jb<w.heap.size:=by obtain⟨lv,rv,bG⟩:=bC;exact Jd bG
 have bU:Hid (∀ W,Krx (fun k=>k=w.heap.size) E W→Kv4 j W):=fun W ca=>by
  obtain⟨lv,rv,bG⟩:=bC;exact⟨lv,rv,((ca.2 j.jb (by omega) (fun e=>by have e:j.jb=w.heap.size:=e;omega)).trans (bn.block _ bP)).trans bG⟩
 unfold ftV;clear hF bn bR bT bC bP;refine(callsIn_wide (n:=3)).1 ?_;refine callsIn_of_wp_marks func230 rfl trivial ?_ rfl;simp only[ntmps230,Om3,List.length_cons,List.length_nil,Nat.reduceAdd,Nat.reduceSub,Ok9,Array.replicate_zero,Om4,Ol2,List.nil_append,List.cons_append];refine wpIn_wide.2 ?_;go_wp2_with fail
 rw[←bi];clear bi;refine(wpIn_wide (n:=3)).1 ?_;refine Ksl rfl (by omega) (gf:=192) (lb:=#[.pointer (some ⟨Z,0,none⟩),.pointer (some ⟨ba,0,none⟩),.pointer (some ⟨bc,0,none⟩)]) rfl trivial (enters_of func192 (by kernel_rfl) rfl)
  (bM.out.seq 2) (Oa5 _ _) (fun _=>rfl) (fun k=>k=w.heap.size) (fun k y=>bM.out.out k y) (fun k y=>by have e:k=w.heap.size:=y;have:=Y.out.2.1;omega)
  (fun t W=>t.1=[]∧Krx (fun k=>k=w.heap.size) E W∧W.heap[w.heap.size]?=some (.cells #[.bool false] 4 (0,0))) (fun c t W=>c=.ret∧t.1≠[]∧Krx (fun k=>k=w.heap.size) E W∧W.heap[w.heap.size]?=some (.cells #[.bool true] 4 (0,0)))
  ?hI ?hIx (fun t W h=>bU.out W h.2.1) ⟨rfl,Krx.refl _ _,Y.out.2.2⟩
  (fun x M bB W=>bB={tmps:=#[.func (.func 192) #[] #[.pointer (some ⟨Z,0,none⟩),.pointer (some ⟨ba,0,none⟩),.pointer (some ⟨bc,0,none⟩)],undef,.pointer (some ⟨w.heap.size,0,none⟩),.func (.func 192) #[] #[.pointer (some ⟨Z,0,none⟩),.pointer (some ⟨ba,0,none⟩),.pointer (some ⟨bc,0,none⟩)],.int .i64 (x:Nat)],defers:=[]}) ?hAx ?assign ?body ?done ?stop
 case hI=>
  rintro⟨l,M⟩ A bL row ⟨R,D,H⟩ K hr;exact⟨R,⟨Ob2 D.1 K.size,fun k y hn=>(K.block k (Oc2 y D.1) fun e=>by have:=(hr k e.symm).1;omega).trans (D.2 k y hn),K.os.trans D.out.1,K.tape.trans D.out.2.1,K.output.trans D.out.2.2⟩,(CK.of_grown K fun r e=>(hr r e).2).cells _ _ _ _ H⟩
 case hIx=>
  rintro c ⟨l,M⟩ A bL row ⟨h0,R,D,H⟩ K hr;exact⟨h0,R,⟨Ob2 D.1 K.size,fun k y hn=>(K.block k (Oc2 y D.1) fun e=>by have:=(hr k e.symm).1;omega).trans (D.2 k y hn),K.os.trans D.out.1,K.tape.trans D.out.2.1,K.output.trans D.out.2.2⟩,(CK.of_grown K fun r e=>(hr r e).2).cells _ _ _ _ H⟩
 case hAx=>
  rintro x M bB t A bL row h K hr;exact h
 case assign=>
  rintro cj bK M x O bW hI ch bD X;have bV:Hid (bW _ O):=X _ _ (Oa5 _ _) hI rfl;clear X hI bD;gi_wp2
  simpa using bV.out
 case stop=>
  rintro U c bK M O bY bH ⟨rfl,bQ,D,H⟩ X;have bf:Hid ((Krw j bs l row (h,bj)).isEmpty=false∧Krx (fun k=>k=w.heap.size) E O):=⟨by
   obtain⟨t,cc⟩:=bH;rw[←cc];cases bK with
   |nil=>exact absurd rfl bQ
   |cons a b=>rfl,D⟩
  clear bQ D bH;gi_wp2
  refine⟨by simp,.inl ⟨_,_,rfl,run_takeDeferred X,?_⟩⟩;have bI:∀ r,some U=some r→∃ o:Obj,O.heap[r]?=some o∧o.isCells=false:=fun r e=>by cases e;exact⟨_,X,rfl⟩
  have bJ:=cell_kept (show O.cell? ⟨w.heap.size,0,none⟩=some (.bool true) by simp[World.cell?,H]) (grownBy_putObj' _ U (.deferred none)) bI;refine⟨.bool true,by simp[results,Tryz.f230,go_sem,bJ],by rw[bf.out.1];rfl,?_⟩;have bx:=Y.out;have y:=bf.out.2;exact⟨y.out.1.trans bx.1.os,y.out.2.1.trans bx.1.tape,y.out.2.2.trans bx.1.output,by have:=y.1;simp;omega,fun k bE=>(World.putObj_heap_other (by omega)).trans ((y.2 k (by omega) (fun e=>by have e:k=w.heap.size:=e;omega)).trans (bx.1.block k bE))⟩
 case done=>
  rintro U xs M O bY bS ⟨R,D,H⟩ X;have R:xs=[]:=R;have bf:Hid ((Krw j bs l row (h,bj)).isEmpty=true∧Krx (fun k=>k=w.heap.size) E O∧O.heap[U]?=some (.deferred (some []))):=⟨by rw[←bS,R];rfl,D,X⟩;have c0:O.cell? ⟨w.heap.size,0,none⟩=some (.bool false):=by simp[World.cell?,H]
  have bX:=Lib.frozen_of_heap H 0;clear R D bS;go_wp2_with fail
  have bZ:U≠w.heap.size:=by have:=Y.out.2.1;omega
  have bz:=Y.out;have y:=bf.out.2.1;have bO:(O.setCell ⟨w.heap.size,0,none⟩ (.bool false)).heap[U]?=some (.deferred (some [])):=(Oa4 _ _ _ _ bZ).trans X;have br:=Jk H 0 (.bool false);refine⟨by simp,.inl ⟨_,_,rfl,run_takeDeferred bO,?_⟩⟩;have bI:∀ r,some U=some r→∃ o:Obj,(O.setCell ⟨w.heap.size,0,none⟩ (.bool false)).heap[r]?=some o∧o.isCells=false:=fun r e=>by cases e;exact⟨_,bO,rfl⟩
  have bJ:=cell_kept (show (O.setCell ⟨w.heap.size,0,none⟩ (.bool false)).cell? ⟨w.heap.size,0,none⟩=some (.bool false) by simp[World.cell?,br]) (grownBy_putObj' _ U (.deferred none)) bI;refine⟨.bool false,by simp[results,Tryz.f230,go_sem,bJ],by rw[bf.out.1];rfl,?_⟩;exact⟨y.out.1.trans bz.1.os,y.out.2.1.trans bz.1.tape,y.out.2.2.trans bz.1.output,by have:=y.1;simp[World.setCell];omega,fun k bE=>(World.putObj_heap_other (by omega)).trans ((Oa4 _ _ _ _ (by show k≠w.heap.size;omega)).trans ((y.2 k (by omega) (fun e=>by have e:k=w.heap.size:=e;omega)).trans (bz.1.block k bE)))⟩
 case body=>
  rintro ci bK M x bB bh ⟨R,D,H⟩ rfl bD bH;have cb:=Y.out.2.1;have c0:bh.cell? ⟨w.heap.size,0,none⟩=some (.bool false):=by simp[World.cell?,H]
  have bX:=Lib.frozen_of_heap H 0;have br:=Jk H 0 (.bool true);have bA:Hid (KeepsFrom E.heap.size bh (bh.setCell ⟨w.heap.size,0,none⟩ (.bool true))∧Krx (fun k=>k=w.heap.size) E (bh.setCell ⟨w.heap.size,0,none⟩ (.bool true))∧(bh.setCell ⟨w.heap.size,0,none⟩ (.bool true)).heap[w.heap.size]?=some (.cells #[.bool true] 4 (0,0))):=
   ⟨⟨by simp[World.setCell],fun k o cf y _=>(Oa4 _ _ _ _ (by show k≠w.heap.size;omega)).trans y⟩,⟨by have:=D.1;simp[World.setCell];omega,fun k y hn=>(Oa4 _ _ _ _ hn).trans (D.2 k y hn),D.out⟩,by simpa using br⟩
  clear R D H br bD cb;gi_wp2
  refine⟨bA.out.1,?_⟩;first|exact⟨M,rfl,by simp,bA.out.2⟩|exact⟨rfl,by simp,bA.out.2⟩
end Go.Proofs.YtpchafocmlhmbaaGreatDoor
