/- A table taken off a set's list: slices.Delete, of one Qc of a row that is known cell by cell. -/
import Derived.Test.YtcaocabmioafcaaGreatDoorTm
import Derived.Deep.RegionLaw
import Derived.Deep.RegionHeld3
import Derived.Lib.LazyBuf
import Derived.Lib.SlicesDelete
set_option maxHeartbeats 2000000
set_option maxRecDepth 100000
namespace Go.Proofs.YtcaocabmioafcaaGreatDoor
section
open Go.RowKit Go.Shelf Tryz
theorem Jru:(prog.info? 158).map (fun i=>(i.zero,i.size,i.bytes))=some (some (.pointer none),1,8):=by kernel_rfl
theorem Kxt (w:World):(zeroValue 158).run prog w=.ok (.pointer none) w:=by first|kernel_rfl|simp[go_sem]
def Kxo (f:Nat→Value)(i m:Nat)(j:Nat):Value:=if j=i+m then .pointer none else if i≤j∧j<i+m then f (j+1)else f j
def upF (f:Nat→Value)(i m:Nat):List Value:=(List.range m).map fun t=>f (i+1+t)
theorem Qbg (f:Nat→Value)(i m t:Nat)(A:t<m):(upF f i m)[t]?=some (f (i+1+t)):=by simp[upF,A]
theorem Kxs (g o:Nat)(vs:List Value):∀ (w:World),Ju (fun k=>k=g) w (w.setCells g o vs):=by
 induction vs generalizing o with
 |nil=>intro w;exact Ju.refl _ _
 |cons v vs A=>intro w;exact((Ju.refl (fun k=>k=g) w).set rfl o v).trans (A (o+1) _)
theorem Kwx (g cap i m:Nat)(f:Nat→Value)(w:World)(bb:w.rowIs g 158 cap f)(X:∀ j,j<i+1+m→(f j).oneCell'=true)(bK:i+1+m≤cap)(bJ:cap≤9223372036854775807) :
  Calls prog 75 #[.slice (some ⟨g,0,none⟩) (i+1+m) cap,.int .i64 (i:Int),.int .i64 ((i:Int)+1)] w fun e w'=>e=.returned (.slice (some ⟨g,0,none⟩) (i+m) cap)∧w'.rowIs g 158 cap (Kxo f i m)∧Ju (fun k=>k=g) w w':=by
 obtain⟨br,bk,bL,bn,bM⟩:=info_parts Jru
 have O:w.drew.rowIs g 158 cap f:=bb
 have R:∀ {L:World} {F:Nat→Value},L.rowIs g 158 cap F→∀ j,j<cap→(L.cell? ⟨g,j,none⟩).isSome=true∧L.frozen? ⟨g,j,none⟩=false:=fun {L F} Z j bl=>by
  have:=Z.cell bl
  obtain⟨c,bj,_,_⟩:=Z
  exact⟨by rw[this];rfl,by simp[World.frozen?,bj]⟩
 obtain⟨K,bC,bi⟩:∃ K:Addr,(if cap=i+1 then some (⟨g,0,none⟩:Addr)else some ⟨g,i+1,none⟩)=some K∧Hid (∀ t u,(upF f i m)[t]?=some u→w.drew.cell? (K.add t)=some u):=by
  by_cases h:cap=i+1
  ·refine⟨⟨g,0,none⟩,by simp[h],fun t u J=>?_⟩
   have h0:m=0:=by omega
   subst h0
   simp[upF]at J
  refine⟨⟨g,i+1,none⟩,by simp[h],fun t u J=>?_⟩
  have I:t<m:=by
   have:=(Ob9.1 J).1
   simpa [upF] using this
  rw[Qbg f i m t I]at J
  rw[Addr.add_lit,O.cell (by omega)]
  exact J
 have bu:Hid ((upF f i m).length=m*1):=by show _=_;simp[upF]
 have bx:Hid (∀ u∈upF f i m,u.oneCell'=true):=fun u J=>by
  obtain⟨t,I,rfl⟩:=Of0.1 J
  exact X _ (by have:=Oj4.1 I;omega)
 have bz:Hid (∀ t,t<(upF f i m).length→(w.drew.cell? ⟨g,0+i*1+t,none⟩).isSome=true∧w.drew.frozen? ⟨g,0+i*1+t,none⟩=false):=fun t I=>R O _ (by simp[upF]at I;omega)
 obtain⟨A,M⟩:∃ A,A=w.drew.setCells g (0+i*1) (upF f i m):=⟨_,rfl⟩
 have N:A.rowIs g 158 cap (fun j=>if i≤j∧j<i+m then f (j+1)else f j):=by
  rw[M]
  refine(Go.rowIs_setCells (upF f i m) (0+i*1) w.drew f O).congr fun j _=>?_
  rw[show 0+i*1=i by omega,show (upF f i m).length=m by simp[upF]]
  by_cases h:i≤j∧j<i+m
  ·rw[if_pos h,if_pos h,Qbg f i m (j-i) (by omega),show i+1+(j-i)=j+1 by omega];rfl
  rw[if_neg h,if_neg h]
 have ba:Ju (fun k=>k=g) w A:=by
  rw[M]
  exact(⟨rfl,rfl,rfl,Oa2 _,fun _ _ _=>rfl⟩:Ju (fun k=>k=g) w w.drew).trans (Kxs g _ _ w.drew)
 have bD:∀ ty,(Builtin.clear_ #[141] ty #[.slice (some ⟨g,i+m,none⟩) 1 (cap-(i+m))]).run prog A=.ok (.tuple #[]) (A.setCells g (i+m) [.pointer none]):=fun ty=>
  Lib.run_clear_slice A _ _ ty _ underlying141 Kxt rfl rfl g (i+m) 1 _ (by omega) (fun t I=>(R N (i+m+t) (by omega)).1) (fun t I=>(R N (i+m+t) (by omega)).2)
 have bc:(A.setCells g (i+m) [.pointer none]).rowIs g 158 cap (Kxo f i m):=by
  refine(Go.rowIs_setCells [.pointer none] (i+m) A _ N).congr fun j _=>?_
  unfold Kxo
  by_cases h:j=i+m
  ·subst h
   simp
  rw[if_neg (by simp;omega),if_neg h]
 have U:Hid ((A.setCells g (i+m) [.pointer none]).rowIs g 158 cap (Kxo f i m)∧Ju (fun k=>k=g) w (A.setCells g (i+m) [.pointer none])):=⟨bc,ba.trans (Kxs g _ _ A)⟩
 have bH:i+1+m-(i+1)=m:=by omega
 have bI:i+1+m-(i+m)=1:=by omega
 have bE:i≤cap:=by omega
 have bG:i+1≤cap:=by omega
 have bA:(0:Int)≤(i:Int)+1:=by omega
 have bB:(i:Int)+1≤(i:Int)+1+(m:Int):=by omega
 have bf:Hid (A=w.drew.setCells g (0+i*1) (upF f i m)):=M
 clear bb O R N ba bc M X
 go_enter func75,ntmps75
 go_wp2_with fail
 refine wp_region_held_drew (S:=fun _=>True) (by kernel_rfl) trivial (fun H=>?_)
 refine Kn 0 rfl H ?_
 refine Kn 1 rfl H ?_
 refine Kn 2 rfl H ?_
 refine Kn 3 rfl H ?_
 refine Kn 4 rfl H ?_
 refine Kn 5 rfl H ?_
 refine tkn ?_
 refine tkr 6 rfl fun bh Y=>?_
 refine step_append_room rfl (.tmp 22) (.tmp 25) 141 rfl 158 br 1 underlying141 bk bn g 0 i cap rfl K m (cap-(i+1)) (upF f i m) rfl bu.out bi.out bx.out (by omega) bz.out ?_
 rw[←bf.out]
 refine Y.out _ _ trivial (fun H=>?_)
 clear Y bh
 simp only[Act.put,List.getElem_toArray,List.getElem_cons_zero,List.getElem_cons_succ,Oa1,List.set_cons_zero,List.set_cons_succ]
 refine Kn 7 rfl H ?_
 refine tkn ?_
 refine wpAnyH_done (by kernel_rfl) ?_ _
 go_wp2
 go_ret
 exact⟨rfl,U.out.1,U.out.2⟩
theorem Kw9 (B g cap i:Nat)(bs:List Nat)(w:World)(h:Jo w B 158 (.slice (some ⟨g,0,none⟩) bs.length cap) (bs.map Jcp))(hi:i<bs.length) :
  Calls prog 75 #[.slice (some ⟨g,0,none⟩) bs.length cap,.int .i64 (i:Int),.int .i64 ((i:Int)+1)] w fun e w'=>e=.returned (.slice (some ⟨g,0,none⟩) (bs.length-1) cap)∧Jo w' B 158 (.slice (some ⟨g,0,none⟩) (bs.length-1) cap) ((bs.eraseIdx i).map Jcp)∧Ju (fun k=>k=g) w w':=by
 rcases h.2 with⟨I,_⟩|⟨bk,bj,A,I,X,Z,bc,R,N,L⟩
 ·cases I
 simp only[Value.slice.injEq,Oc9,Oh2,Oa6]at I
 obtain⟨⟨rfl,_⟩,_,rfl⟩:=I
 rw[Nat.mul_one]at N L
 rw[Oa6]at L bc
 have bf:w.rowIs g 158 cap (fun j=>(A[j]?).getD default):=⟨A,Z,N,fun j ba=>by simp only[Array.getElem?_eq_getElem (show j<A.size by omega),Option.getD_some]⟩
 have K:∀ k (hk:k<bs.length),A[k]?=some (Jcp bs[k]):=fun k hk=>by
  have:=congrArg (fun l=>l[k]?) L
  simp only[Oe7,if_pos hk,Ob1,Oa3 hk,Option.map_some,Oe6]at this
  exact this
 obtain⟨m,bb⟩:∃ m,bs.length=i+1+m:=⟨bs.length-(i+1),by omega⟩
 have O:=Kwx g cap i m _ w bf (fun j ba=>by rw[K j (by omega)];rfl) (by omega) (by unfold maxLen at R;omega)
 rw[←bb]at O
 refine O.mono ?_
 rintro e w' ⟨rfl,⟨c2,Y,bh,bi⟩,hk⟩
 have U:bs.length-1=i+m:=by omega
 have J:((bs.eraseIdx i).map Jcp).length=i+m:=by rw[Oa6,List.length_eraseIdx,if_pos hi];omega
 rw[U]
 refine⟨rfl,⟨by simp,.inr ⟨g,cap,c2,by rw[J],X,Y,by rw[J];omega,R,by rw[Nat.mul_one];exact bh,?_⟩⟩,hk⟩
 apply Oi8
 intro k
 rw[Nat.mul_one,J,Oe7,Ob1,List.getElem?_eraseIdx]
 by_cases M:k<i+m
 ·rw[if_pos M,Oe6,bi k (by omega)]
  unfold Kxo
  rw[if_neg (by omega)]
  by_cases H:k<i
  ·rw[if_neg (by omega),if_pos H]
   simp only[K k (by omega),Oa3 (show k<bs.length by omega),Option.getD_some,Option.map_some]
  rw[if_pos ⟨by omega,M⟩,if_neg H]
  simp only[K (k+1) (by omega),Oa3 (show k+1<bs.length by omega),Option.getD_some,Option.map_some]
 rw[if_neg M]
 by_cases H:k<i
 ·omega
 rw[if_neg H,Ob4 (by omega)]
 rfl
end
section
open Go.RowKit Go.Shelf Tryz
def Ku7 (w:World)(F G:Nat→Prop)(s d:Nat)(D:DS)(A:List TS)(sv:Value)(bs:List Nat)(et:Addr)(n:ByteArray)(e:Ending)(w':World):Prop:=
 Ju (fun k=>F k∨Jnr s sv k) w w'∧match A[Ub A n]? with
  |none=>e=.returned (.iface 528 (.pointer (some et)))∧Below w.heap.size w w'
  |some T=>e=.returned .nilIface∧Zb w' F d (Jcg D T.segs)∧∃ sv',sv'.ownBlock=sv.ownBlock∧Jfl w' G s d (A.eraseIdx (Ub A n)) sv' (bs.eraseIdx (Ub A n))
theorem Kvn {α β:Type}(i:Nat)(xs:List α)(I:List β)(j:Nat)(x:α)(y:β)(A:(xs.eraseIdx i)[j]?=some x)(H:(I.eraseIdx i)[j]?=some y):∃ k:Nat,xs[k]?=some x∧I[k]?=some y:=by
 rw[List.getElem?_eraseIdx]at A H
 by_cases h:j<i
 ·rw[if_pos h]at A H
  exact⟨j,A,H⟩
 rw[if_neg h]at A H
 exact⟨j+1,A,H⟩
theorem Kz0 (n:ByteArray)(w:World)(F G:Nat→Prop)(s d:Nat)(D:DS)(A:List TS)(sv:Value)(bs:List Nat)(h:Jfl w G s d A sv bs)(bR:Zb w F d D)(bz:∀ k,G k→¬ F k)(Z:¬ F s)(bU:∀ g,sv.ownBlock=some g→¬ F g)(bj:∀ T∈A,T.segs.length≤1000000∧∀ l∈T.segs,l.length≤1000000)(et:Addr)(bT:w.cell? ⟨0,0,none⟩=some (.iface 528 (.pointer (some et)))) :
  Calls prog 40 #[.pointer (some ⟨s,0,none⟩),.string n] w fun e w'=>Ku7 w F G s d D A sv bs et n e w':=by
 have X:=Jo8 n w G s d A sv bs h
 by_cases M:Ub A n<A.length
 ·have O:Jhc A n=(Ub A n:Int):=by unfold Jhc;rw[if_pos M]
  have U:A[Ub A n]?=some A[Ub A n]:=by simp[M]
  unfold Ku7
  rw[U]
  dsimp only
  rw[O]at X
  generalize Ub A n=k at *
  have bk:=bj _ (Ob3 M)
  have bV:k<bs.length:=by rw[h.len];exact M
  obtain⟨b,o,bD,c2,bH⟩:=h.at M
  obtain⟨c0,c1⟩:=h.field
  obtain⟨a,cap,bE,_⟩:=h.own.cells
  rw[Oa6]at bE
  subst bE
  simp at bD
  obtain⟨rfl,bQ⟩:=bD
  clear bQ
  have bW:o=0:=by
   rcases h.own.2 with⟨ba,_⟩|⟨cu,cf,ci,ba,_⟩
   ·cases ba
   simp at ba
   exact ba.1.2
  subst bW
  rw[Od0]at c2
  generalize bs[k]'_=tk at c2 bH
  obtain⟨cB,cC,bI,bJ,hs,bf⟩:=bH
  obtain⟨_,_,_,_,cc⟩:=bf.field
  have Y:=h.gF b rfl
  have bB:=bU b rfl
  have bb:Hid (Jfl w G s d A (.slice (some ⟨b,0,none⟩) bs.length cap) bs):=h
  have bM:Hid (∀ W,Below w.heap.size w W→Calls prog 74 #[.pointer (some ⟨s,0,none⟩),.slice bI A[k].segs.length bJ] W fun e w'=>e=.returned (.tuple #[])∧Zb w' F d (Jcg D A[k].segs)∧Ju F W w'):=fun W K=>
   Kjd s d bI bJ hs A[k].segs W F G D (bR.below K) (bf.segs.stands K.size fun x _ I=>K.block x I) bz (Ja K c0) Z bk.1 bk.2
  have bK:Hid (∀ W,Jo W 0 158 (.slice (some ⟨b,0,none⟩) bs.length cap) (bs.map Jcp)→Calls prog 75 #[.slice (some ⟨b,0,none⟩) bs.length cap,.int .i64 (k:Int),.int .i64 ((k:Int)+1)] W fun e w'=>e=.returned (.slice (some ⟨b,0,none⟩) (bs.length-1) cap)∧Jo w' 0 158 (.slice (some ⟨b,0,none⟩) (bs.length-1) cap) ((bs.eraseIdx k).map Jcp)∧Ju (fun x=>x=b) W w'):=fun W hW=>Kw9 0 b cap k bs W hW bV
  have cx:=h.few
  have bn:=Jd h.cells
  have bC:b<w.heap.size:=Qk h.own rfl
  clear bj O U h bk bf
  go_enter func40,ntmps40
  go_wp2_with (first|(go_at_call 73;refine X.mono ?_;rintro e br ⟨rfl,H⟩;have bO:=Ja H c1;have cj:=Ja H c2;have ck:=Ja H cc)|(go_at_call 74;refine(bM.out br H).mono ?_;rintro e bu ⟨rfl,bS,J⟩;have bP:=J.cell bO Z))
  have bY:Jo bu 0 158 (.slice (some ⟨b,0,none⟩) bs.length cap) (bs.map Jcp):=Yd bb.out.own fun g R=>by
   have bh:b=g:=by simpa [Value.ownBlock] using R
   subst bh
   exact(J.block b (Oc2 bC H.size) bB).trans (H.block b bC)
  refine(bK.out bu bY).mono ?_
  rintro e N ⟨rfl,bX,L⟩
  have bl:N.heap[s]?=some (.cells #[.pointer (some ⟨d,0,none⟩),.slice (some ⟨b,0,none⟩) bs.length cap] 143 (0,0)):=((L.block s (Oc2 (Oc2 bn H.size) J.size) Y.2.symm).trans ((J.block s (Oc2 bn H.size) Z).trans (H.block s bn))).trans bb.out.cells
  have cl:=L.cell bP Y.2.symm
  have cn:N.frozen? ⟨s,1,none⟩=false:=by simp[World.frozen?,bl]
  have bN:Hid (N.heap[s]?=some (.cells #[.pointer (some ⟨d,0,none⟩),.slice (some ⟨b,0,none⟩) bs.length cap] 143 (0,0))):=bl
  clear bl
  go_wp2
  go_ret
  have cy:=H.size
  have cz:=J.size
  have cA:=L.size
  have bA:∀ x,x<w.heap.size→¬ F x→x≠b→x≠s→(N.setCell ⟨s,1,none⟩ (.slice (some ⟨b,0,none⟩) (bs.length-1) cap)).heap[x]?=w.heap[x]?:=fun x I hF K hs=>
   (Oa4 _ _ _ _ hs).trans ((L.block x (by omega) K).trans ((J.block x (by omega) hF).trans (H.block x I)))
  have bG:(N.setCell ⟨s,1,none⟩ (.slice (some ⟨b,0,none⟩) (bs.length-1) cap)).heap.size=N.heap.size:=by simp[World.setCell]
  refine⟨⟨(L.os.trans J.os).trans H.os,(L.tape.trans J.tape).trans H.tape,(L.output.trans J.output).trans H.output,by rw[bG];omega,fun x I bi=>bA x I (fun hF=>bi (.inl hF)) (fun e=>bi (.inr (.inr (by rw[e];rfl)))) (fun e=>bi (.inr (.inl e)))⟩,rfl,?_,.slice (some ⟨b,0,none⟩) (bs.length-1) cap,rfl,?_⟩
  ·refine bS.stands fun x hF I=>?_
   have n1:x≠s:=fun e=>Z (by rw[←e];exact hF)
   have cb:x≠b:=fun e=>bB (by rw[←e];exact hF)
   exact(Oa4 _ _ _ _ n1).trans (L.block x I cb)
  have h:=bb.out
  refine⟨heap_setCell_same N s 1 _ _ _ bN.out,Yd bX fun g R=>?_,h.sF,fun g R=>h.gF g R,by rw[List.length_eraseIdx,List.length_eraseIdx,h.len],fun j bx T K U=>?_,?_⟩
  ·have bh:b=g:=by simpa [Value.ownBlock] using R
   subst bh
   exact Oa4 _ _ _ _ Y.2
  ·obtain⟨ca,I,bZ⟩:=Kvn k bs A j bx T K U
   exact(h.tab ca bx T I bZ).stands (by rw[bG];omega) fun x bc I=>bA x I (bz x bc) (fun e=>Y.1 (by rw[←e];exact bc)) (fun e=>h.sF (by rw[←e];exact bc))
  rw[List.length_eraseIdx,if_pos M]
  omega
 have O:Jhc A n=-1:=by unfold Jhc;rw[if_neg M]
 have bL:Hid (A[Ub A n]?=none):=by show _=_;simp;omega
 rw[O]at X
 clear O M bj h
 go_enter func40,ntmps40
 go_wp2_with (first|(go_at_call 73;refine X.mono ?_;rintro e br ⟨rfl,H⟩;have cv:=Ja H bT))
 go_ret
 unfold Ku7
 rw[bL.out]
 exact⟨.of_below H,rfl,H⟩
end
end Go.Proofs.YtcaocabmioafcaaGreatDoor
