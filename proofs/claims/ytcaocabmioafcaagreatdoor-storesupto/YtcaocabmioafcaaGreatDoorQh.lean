/- A store of the document on any disk: its Spoil, its Jax, its Drop. -/
import Derived.Test.YtcaocabmioafcaaGreatDoorQe
import Derived.Test.YtcaocabmioafcaaGreatDoorQf
import Derived.Test.YtcaocabmioafcaaGreatDoorWh
set_option maxHeartbeats 4000000
set_option maxRecDepth 100000
namespace Go.Proofs.YtcaocabmioafcaaGreatDoor
open Go.RowKit Go.Shelf Tryz
attribute [local go_sem] Oc0
section
variable {F N:Nat→Prop} {w w':World} {st:Nat} {q f k:Int} {P P':List RP} {Rs:List RTb} {sv tv:Value} {cs:List (List Value)}
theorem Ksz.paged (h:Ksz F w st q f k P Rs sv tv cs)(hk:Ju (fun x=>sv.ownBlock=some x) w w')(L:Krz w' sv P')(A:∀ i,i=st∨sv.ownBlock=some i∨tv.ownBlock=some i∨F i→i<w.heap.size):Ksz F w' st q f k P' Rs sv tv cs:=
 ⟨(
  hk.block st (A st (.inl rfl)) h.st_.2.1).trans h.store,L,Jl h.own fun g H=>hk.block g (A g (.inr (.inr (.inl H)))) fun e=>(h.sv_ g e).2 H,h.len,
  fun j I c J K=>(h.tabs j I c J K).stands hk.size (fun i hi=>hk.block i (A i (.inr (.inr (.inr hi)))) fun e=>(h.sv_ i e).1 hi) fun _ a=>a,h.st_,h.sv_,h.tv_⟩
end
theorem Kx0 {I:Nat→Prop}{w:World}{st:Nat}{q f k:Int}{P:List RP}{Rs:List RTb}(h:RSt I w st q f k P Rs)(page at_ A:Int)(J:P.length≤1000000)(K:Ks0 P page at_ A=none) :
  Calls prog 23 #[.pointer (some ⟨st,0,none⟩),.int .i64 page,.int .i64 at_,.int .i64 A] w fun e w'=>e=.returned (.bool false)∧w'=w:=by
 obtain⟨⟨F,sv,tv,cs,H,L⟩,M⟩:=h
 exact Kzt st sv P page at_ A w (by simp[World.cell?,H.store]) H.pages J K
theorem Kw3 {H:Nat→Prop}{w:World}{st:Nat}{q f k:Int}{P I:List RP}{Rs:List RTb}(h:RSt H w st q f k P Rs)(page at_ J:Int)(N:P.length≤1000000)(R:Ks0 P page at_ J=some I) :
  Calls prog 23 #[.pointer (some ⟨st,0,none⟩),.int .i64 page,.int .i64 at_,.int .i64 J] w fun e w'=>e=.returned (.bool true)∧Ju H w w'∧RSt H w' st q f k I Rs:=by
 obtain⟨⟨F,sv,tv,cs,A,K⟩,L⟩:=h
 refine(Kyq st q f k sv tv P I page at_ J w A.store A.pages A.st_.2.1 N R).mono fun e w' ⟨M,O,hk⟩=>⟨M,hk.mono fun i _ e=>K i (.inr (.inl e)),⟨⟨F,sv,tv,cs,A.paged hk O fun i hi=>L i (K i hi),K⟩,fun i hi=>Oc2 (L i hi) hk.size⟩⟩
theorem Qbm {bk:Nat→Prop}{w:World}{st:Nat}{q f k:Int}{P:List RP}{Rs:List RTb}(h:RSt bk w st q f k P Rs)(_bC:Rs.length≤1000) :
  Calls prog 16 #[.pointer (some ⟨st,0,none⟩)] w fun e w'=>Below w.heap.size w w'∧∃ a c,e=.returned (.slice a Rs.length c)∧Uh w' a (Rs.map fun A=>.string A.name):=by
 obtain⟨⟨F,sv,tv,cs,H,ba⟩,L⟩:=h
 obtain⟨a,c,bu⟩:=H.slice
 subst bu
 have bj:Hid (∀ M,Below w.heap.size w M→Ksz F M st q f k P Rs sv (.slice a Rs.length c) cs):=fun M bb=>H.stands bb.size fun i hi=>bb.block i (L i (ba i hi))
 clear H ba L
 go_enter func16,ntmps16
 go_upto_region 3 with fail
 go_loopw [3,4] (fun s i wr=>∃ j:Nat,j≤Rs.length∧i=.int .i64 (j:Int)∧Below w.heap.size w wr∧Hid (Jo wr w.heap.size 9 s ((Rs.take j).map fun A=>.string A.name))) (fun _ i _=>Rs.length-(intOf i).toNat)
 case atStart=>exact⟨0,Ob7 _,rfl,Oa5 _ _,Jo.nil _ _ _⟩
 case round=>
  obtain⟨j,bD,rfl,K,J⟩:=hrel
  have H:=bj.out wr K
  have bB:wr.cell? ⟨st,4,none⟩=some (.slice a Rs.length c):=by simp[World.cell?,H.store]
  obtain⟨bA,c3,Y⟩:=Jcz J.out
  have R:((Rs.take j).map fun A=>Value.string A.name).length=j:=by rw[Oa6,Oc7];omega
  rw[R]at Y
  subst Y
  have U:Hid (Below w.heap.size w wr):=K
  by_cases bf:j<Rs.length
  ·obtain⟨A,N⟩:∃ A,Rs[j]?=some A:=⟨_,Oa3 bf⟩
   obtain⟨g,cap,c4,O,_,⟨bL,bM,bI,bJ,hs,pa,pc,rfl,_,_⟩,bc⟩:=H.at N
   injection O with O _ hcc
   subst O hcc
   have bi:=bc 0 _ rfl
   rw[Nat.add_zero]at bi
   have X:Hid (((Rs.take (j+1)).map fun A=>Value.string A.name)=((Rs.take j).map fun A=>.string A.name)++[.string A.name]):=by
    obtain⟨L,rfl⟩:=Ob9.1 N
    show _=_
    rw[Oc4 L,Ob8]
    rfl
   have I:Hid (j<Rs.length∧((Rs.take j).map fun A=>Value.string A.name).length=j∧w.heap.size≤wr.heap.size):=⟨bf,R,K.size⟩
   have bE:(0:Int)≤(j:Int):=by omega
   have bG:(j:Int)<(Rs.length:Int):=by omega
   clear H N bc R K
   generalize A.name=nm at bi X
   go_wp2_with (at_builtin;go_must (refine Ks (by rfl) _ _ 70 9 _ 16 Kjq (by rfl) (by decide) (by kernel_rfl) (by rfl) w.heap.size _ _ (by rfl) (Jo.alloc J.out _) ⟨wr.heap.size,0,none⟩ 1 [.string nm] (by rfl) (by exact Ua wr _ _) (by intro u bh;simp at bh;subst bh;rfl) (by have:=I.out.2.1;have:=I.out.1;simp only[List.length_cons,List.length_nil];omega) (by have:=I.out.2.2;simp;omega) ?_);intro sv' bN bx bz bK)
   go_roundw
   case rel=>exact⟨j+1,I.out.1,by have:=I.out.1;go_num,Jy (Jc U.out _) bz (fun k hk=>(Je J.out hk).1),by rw[X.out];exact bx⟩
   case measure=>have:=I.out.1;simp[intOf];omega
  obtain rfl:j=Rs.length:=by omega
  have bH:¬ ((Rs.length:Int)<(Rs.length:Int)):=by omega
  rw[Of2]at J
  clear H
  go_wp2
  go_ret
  obtain⟨bl,bn,Z,br⟩:=J.out.cells
  rw[Oa6]at Z
  exact⟨U.out,bl,⟨bn,congrArg _ Z⟩,br⟩
theorem Kuj {w:World}{A:Array Oper}{rest:List Oper}{o:Oper}{a:Act}{Q:Exit→Act→World→Prop}(K:o.guard=none)(s x:Operand)
  (M:o.op=.call {callee:=.builtin .append,args:=#[s,x],argTypes:=#[81,81]})
  (B:Nat) (sv:Value) (n:Nat) (cs:List Value) (hs:a.eval s=sv) (N:w.ownsRow B 113 4 sv n cs)
  (g c:Nat) (c4:List Value) (U:a.eval x=.slice (some ⟨g,0,none⟩) 1 c) (R:w.heap[g]?=some (.cells c4.toArray 113 (0,0))) (_bb:c4.length=4) (H:∀ u∈c4,u.oneCell'=true) (_bc:n≤1000) (I:B≤w.heap.size)
  (h:∀ sv' w',w'.ownsRow B 113 4 sv' (n+1) (cs++c4)→w.grownBy w' sv.ownBlock→(sv'.ownBlock=sv.ownBlock∨sv'.ownBlock=some w.heap.size)→wpList prog A Q rest (a.put o.dst sv') w') :
  wpList prog A Q (o::rest) a w:=by
 obtain⟨i,hi,X,O,J⟩:=info_parts Kum
 refine wpList_append_own_at w K s x 81 M B 113 i _ 4 88 (by kernel_rfl) hi X O J (by rfl) (by decide) sv n cs hs N ⟨g,0,none⟩ 1 c c4 U (by omega) ?_ H ?_ ?_ I ?_
 ·intro j u L
  have:w.cell? ⟨g,j,none⟩=some u:=by simpa [World.cell?,R] using L
  cases j with
  |zero=>exact this
  |succ j=>simpa [Addr.add] using this
 ·unfold maxLen;omega
 ·omega
 intro ba w' k1 Y _ Z
 exact h ba w' k1 Y Z
def Qcn (P:List RP)(Rs:List RTb)(n:ByteArray):List RP:=match Rs[Ksg (Rs.map nmT) n]? with
 |none=>P
 |some A=>Kr5 P A.pages
theorem Kvd {α:Type}(l:List α)(i:Nat):∀ j,(l.take j).eraseIdx i=if j≤i then l.take j else l.take i++(l.take j).drop (i+1):=by
 intro j
 split
 ·rename_i h
  exact List.eraseIdx_of_length_le (by rw[Oc7];omega)
 rename_i h
 rw[List.eraseIdx_eq_take_drop_succ,List.take_take,Oj1 (by omega)]
def Kwm (A:Nat→Prop)(w:World)(st:Nat)(q f k:Int)(P:List RP)(Rs:List RTb)(n:ByteArray)(e:Ending)(w':World):Prop:=
 match Rs[Ksg (Rs.map nmT) n]? with
 |none=>e=.returned (fault 4)∧Below w.heap.size w w'
 |some I=>e=.returned (fault 0)∧Ju A w w'∧∃ H:Nat→Prop,RSt H w' st q f k (Kr5 P I.pages) (Rs.eraseIdx (Ksg (Rs.map nmT) n))∧(∀ i,A i→H i)∧∀ i,H i→A i∨w.heap.size≤i
theorem Qaz {Z:Nat→Prop}{w:World}{st:Nat}{q f k:Int}{P:List RP}{Rs:List RTb}(h:RSt Z w st q f k P Rs)(n:ByteArray)(O:Rs.length≤1000)(R:¬ Ksg (Rs.map nmT) n<Rs.length) :
  Calls prog 14 #[.pointer (some ⟨st,0,none⟩),.string n] w fun e w'=>e=.returned (fault 4)∧Below w.heap.size w w':=by
 have I:Below w.heap.size w (w.alloc Ka):=(Oa5 _ w).alloc (Oa2 _) _
 have J:=Ktc st (Rs.map nmT) n (w.alloc Ka) (h.rtabs.below I) (by rw[Oa6];exact O)
 have hF:Ksk (Rs.map nmT) n=-1:=by unfold Ksk;rw[Oa6,if_neg R]
 rw[hF]at J
 obtain⟨W,hW⟩:∃ W,W=w.alloc Ka:=⟨_,rfl⟩
 have L:W.heap[w.heap.size]?=some (.cells #[.int .i64 0,.int .i64 0,.int .i64 0,.int .i64 0,.int .i64 0] 68 (0,0)):=by rw[hW];exact heap_alloc_new _ _
 rw[←hW]at J I
 have U:Hid (Below w.heap.size w W):=I
 clear h O R hF I
 go_enter func14,ntmps14
 go_upto_region 1 with fail
 rw[←hW]
 clear hW
 go_upto_region 3 with(go_at_call 41;refine J.mono ?_;rintro e ba ⟨rfl,bu⟩;subst ba)
 clear J
 have N:=Kse 4 W
 go_wp2_with fail
 refine N.mono ?_
 rintro e H ⟨rfl,K⟩
 have A:=(K.block _ (Jd L)).trans L
 have bb:H.cell? ⟨w.heap.size,0,none⟩=some (.int .i64 0):=by simp[World.cell?,A]
 have bc:H.cell? ⟨w.heap.size,1,none⟩=some (.int .i64 0):=by simp[World.cell?,A]
 have bf:H.cell? ⟨w.heap.size,2,none⟩=some (.int .i64 0):=by simp[World.cell?,A]
 have bh:H.cell? ⟨w.heap.size,3,none⟩=some (.int .i64 0):=by simp[World.cell?,A]
 have bi:H.cell? ⟨w.heap.size,4,none⟩=some (.int .i64 0):=by simp[World.cell?,A]
 have bj:H.frozen? ⟨w.heap.size,0,none⟩=false:=by simp[World.frozen?,A]
 have bk:H.frozen? ⟨w.heap.size,1,none⟩=false:=by simp[World.frozen?,A]
 have bl:H.frozen? ⟨w.heap.size,2,none⟩=false:=by simp[World.frozen?,A]
 have bn:H.frozen? ⟨w.heap.size,3,none⟩=false:=by simp[World.frozen?,A]
 have br:H.frozen? ⟨w.heap.size,4,none⟩=false:=by simp[World.frozen?,A]
 have M:=Jk (Jk (Jk (Jk (Jk A 0 (.int .i64 4)) 1 (.int .i64 (-1))) 2 (.int .i64 (-1))) 3 (.int .i64 (-1))) 4 (.int .i64 (-1))
 simp only[Oa1,List.set_cons_zero,List.set_cons_succ]at M
 have Y:Hid _:=M
 have X:Hid _:=K
 clear M A K N L
 go_wp2
 exact bodyPost_ret (v:=fault 4) (by simp[results,results14,go_sem,World.cell?,Y.out]) rfl ⟨rfl,Um (Jb U.out X.out) (Oa2 _) _ _ _ _ _⟩
theorem Kzo {X:Nat→Prop}{w:World}{st:Nat}{q f k:Int}{P:List RP}{Rs:List RTb}(h:RSt X w st q f k P Rs)(n:ByteArray)(bR:Rs.length≤1000)(cQ:P.length≤990000)(at_:Nat)(cv:Ksg (Rs.map nmT) n=at_)(A:RTb)(M:Rs[at_]?=some A)(bY:A.pages.length≤1000000)(cD:∀ i∈A.pages,i<P.length) :
  Calls prog 14 #[.pointer (some ⟨st,0,none⟩),.string n] w fun e w'=>e=.returned (fault 0)∧Ju X w w'∧∃ bL:Nat→Prop,RSt bL w' st q f k (Kr5 P A.pages) (Rs.eraseIdx at_)∧(∀ i,X i→bL i)∧∀ i,bL i→X i∨w.heap.size≤i:=by
 have bj:Below w.heap.size w (w.alloc Ka):=(Oa5 _ w).alloc (Oa2 _) _
 have bD:=Ktc st (Rs.map nmT) n (w.alloc Ka) (h.rtabs.below bj) (by rw[Oa6];exact bR)
 have bP:at_<Rs.length:=(Ob9.1 M).1
 have hF:Ksk (Rs.map nmT) n=(at_:Int):=by unfold Ksk;rw[Oa6,cv,if_pos bP]
 rw[hF]at bD
 obtain⟨W,hW⟩:∃ W,W=w.alloc Ka:=⟨_,rfl⟩
 have bU:W.heap[w.heap.size]?=some (.cells #[.int .i64 0,.int .i64 0,.int .i64 0,.int .i64 0,.int .i64 0] 68 (0,0)):=by rw[hW];exact heap_alloc_new _ _
 rw[←hW]at bD bj
 obtain⟨⟨F,sv,tv,cs,cu,bO⟩,Z⟩:=h
 have H:Ksz F W st q f k P Rs sv tv cs:=cu.stands bj.size fun i hi=>bj.block i (Z i (bO i hi))
 have bb:Hid ((∀ i,i=st∨sv.ownBlock=some i∨tv.ownBlock=some i∨F i→X i)∧(∀ i,X i→i<w.heap.size)∧Below w.heap.size w W∧W.heap.size=w.heap.size+1∧A.pages.length≤1000000∧Rs.length≤1000∧at_<Rs.length):=⟨bO,Z,bj,by rw[hW];simp,bY,bR,bP⟩
 obtain⟨a,c,cT⟩:=H.slice
 subst cT
 obtain⟨g,cap,c4,R,bC,⟨bI,bJ,bG,bH,hs,pa,pc,bB,cC,cE⟩,ba⟩:=H.at M
 injection R with R _ hcc
 subst R hcc bB
 have ca:=ba 3 _ rfl
 have bN:W.cell? ⟨st,4,none⟩=some (.slice (some ⟨g,0,none⟩) Rs.length c):=by simp[World.cell?,H.store]
 have bS:=Kyx st q f k P sv (.slice (some ⟨g,0,none⟩) Rs.length c) A.pages pa pc W H.store H.pages H.st_.2.1 cQ (cE W (Oa2 _) fun _ _=>rfl).2.2.2 bY cD (fun b o e cR=>(H.sv_ b cR).1 (cC b o e))
 have cf:Hid (Ksz F W st q f k P Rs sv (.slice (some ⟨g,0,none⟩) Rs.length c) cs):=H
 have dw:(0:Int)≤(at_:Int):=by omega
 have dx:(at_:Int)<(Rs.length:Int):=by omega
 have dy:¬ ((at_:Int)<0):=by omega
 generalize A.pages=bE at ca bS bb ⊢
 clear M bY cD cv hF cu H bO Z ba cE bC cC bj bR bP
 go_enter func14,ntmps14
 go_upto_region 1 with fail
 rw[←hW]
 clear hW
 go_upto_region 4 with(go_at_call 41;refine bD.mono ?_;rintro e I ⟨rfl,ds⟩;subst I)
 clear bD
 go_upto_region 7 with(go_at_call 43;refine bS.mono ?_;rintro e I ⟨rfl,cB,bu⟩)
 clear bS ca bN
 have bh:Hid (Ksz F I st q f k (Kr5 P bE) Rs sv (.slice (some ⟨g,0,none⟩) Rs.length c) cs∧Ju X w I∧w.heap.size+1≤I.heap.size∧I.heap[w.heap.size]?=some (.cells #[.int .i64 0,.int .i64 0,.int .i64 0,.int .i64 0,.int .i64 0] 68 (0,0))):=by
  obtain⟨n1,K,bZ,cH,_⟩:=bb.out
  have cU:=bu.size
  refine⟨cf.out.paged bu cB fun i hi=>by have:=K i (n1 i hi);omega,?_,by omega,?_⟩
  ·exact(Ju.of_below bZ).trans (bu.mono fun i _ e=>n1 i (.inr (.inl e)))
  rw[bu.block _ (Jd bU) fun e=>?_]
  ·exact bU
  have:=K _ (n1 _ (.inr (.inl e)));omega
 clear cB bu cf bU
 have dq:Rs.length≤1000:=bb.out.2.2.2.2.2.1
 go_loopw [6,7] (fun s i wr=>∃ j:Nat,j≤Rs.length∧i=.int .i64 (j:Int)∧Below I.heap.size I wr∧Hid (wr.ownsRow I.heap.size 113 4 s ((Rs.take j).eraseIdx at_).length (((cs.take j).eraseIdx at_).flatMap id))) (fun _ i _=>Rs.length-(intOf i).toNat)
 case atStart=>exact⟨0,Ob7 _,rfl,Oa5 _ _,⟨by simp,.inl ⟨rfl,by simp⟩⟩⟩
 case round=>
  obtain⟨j,bT,rfl,bc,Y⟩:=hrel
  have H:Ksz F wr st q f k (Kr5 P bE) Rs sv (.slice (some ⟨g,0,none⟩) Rs.length c) cs:=bh.out.1.stands bc.size fun i hi=>bc.block i (by have cK:=bb.out.2.1 i (bb.out.1 i hi);have dp:=bh.out.2.2.1;omega)
  have bN:wr.cell? ⟨st,4,none⟩=some (.slice (some ⟨g,0,none⟩) Rs.length c):=by simp[World.cell?,H.store]
  have bl:Hid (Below I.heap.size I wr):=bc
  obtain⟨bi,c3,cL⟩:=Jcz Y.out
  subst cL
  by_cases cA:j<Rs.length
  ·obtain⟨A,M⟩:∃ A,Rs[j]?=some A:=⟨_,Oa3 cA⟩
   obtain⟨dn,cap,c4,R,bC,⟨bI,bJ,bG,bH,hs,pa,pc,bB,_,_⟩,ba⟩:=H.at M
   injection R with R _ hcc
   injection R with R
   injection R with R
   subst R hcc
   have cI:Hid (cs[j]?=some c4∧c4=[.string A.name,.slice bI A.types.length bJ,.slice bG A.rows.length bH,.slice pa A.pages.length pc]∧cs.length=Rs.length):=⟨bC,bB,H.len⟩
   subst bB
   have cY:=ba 0 _ rfl
   have dA:=ba 1 _ rfl
   have dB:=ba 2 _ rfl
   have ca:=ba 3 _ rfl
   rw[Nat.add_zero]at cY
   have U:Hid (j<Rs.length∧I.heap.size≤wr.heap.size∧((Rs.take j).eraseIdx at_).length≤1000):=⟨cA,bc.size,by have:=List.length_eraseIdx_le (Rs.take j) at_;rw[Oc7]at this;omega⟩
   have k1:(0:Int)≤(j:Int):=by omega
   have dz:(j:Int)<(Rs.length:Int):=by omega
   clear H M ba bC bc
   by_cases cx:j=at_
   ·subst cx
    have bf:Hid ((Rs.take (j+1)).eraseIdx j=(Rs.take j).eraseIdx j∧(cs.take (j+1)).eraseIdx j=(cs.take j).eraseIdx j):=by
     have Z:∀ {α:Type} (l:List α),(l.take (j+1)).eraseIdx j=(l.take j).eraseIdx j:=fun l=>by
      rw[Kvd,Kvd,if_neg (by omega),if_pos (Oa2 _),List.drop_eq_nil_of_le (by rw[Oc7];omega),Od7]
     exact⟨Z _,Z _⟩
    go_wp2
    go_roundw
    case rel=>exact⟨j+1,U.out.1,by have:=U.out.1;go_num,bl.out,by rw[bf.out.1,bf.out.2];exact Y.out⟩
    case measure=>have:=U.out.1;simp[intOf];omega
   have cG:((j:Int) != (at_:Int))=true:=by simp;omega
   have bf:Hid (((Rs.take (j+1)).eraseIdx at_).length=((Rs.take j).eraseIdx at_).length+1∧((cs.take (j+1)).eraseIdx at_).flatMap id=((cs.take j).eraseIdx at_).flatMap id++[.string A.name,.slice bI A.types.length bJ,.slice bG A.rows.length bH,.slice pa A.pages.length pc]):=by
    have Z:∀ {α:Type} (l:List α) (x:α),l[j]?=some x→(l.take (j+1)).eraseIdx at_=(l.take j).eraseIdx at_++[x]:=fun l x O=>by
     obtain⟨cP,rfl⟩:=Ob9.1 O
     rw[Oc4 cP]
     by_cases cK:at_<j
     ·rw[List.eraseIdx_append_of_lt_length (by rw[Oc7];omega)]
     rw[List.eraseIdx_of_length_le (by simp;omega),List.eraseIdx_of_length_le (by rw[Oc7];omega)]
    refine⟨?_,?_⟩
    ·obtain⟨ck,cM⟩:∃ ck,Rs[j]?=some ck:=⟨_,Oa3 U.out.1⟩
     rw[Z _ _ cM,Oa8]
     rfl
    rw[Z _ _ cI.out.1,Oe8]
    simp
   have cc:Hid (∀ o,(wr.alloc o).ownsRow I.heap.size 113 4 (.slice bi ((Rs.take j).eraseIdx at_).length c3) ((Rs.take j).eraseIdx at_).length (((cs.take j).eraseIdx at_).flatMap id)):=fun o=>Jbm Y.out o
   clear cx
   generalize ((Rs.take j).eraseIdx at_).length=m at U bf Y cc ⊢
   go_wp2_with (at_builtin;go_must (refine Kuj (by rfl) _ _ (by rfl) I.heap.size _ _ _ (by rfl) (cc.out _) wr.heap.size 1 [.string A.name,.slice bI A.types.length bJ,.slice bG A.rows.length bH,.slice pa A.pages.length pc] (by rfl) (by exact heap_alloc_new wr _) rfl (by intro u cF;simp at cF;rcases cF with rfl|rfl|rfl|rfl<;>rfl) U.out.2.2 (by have:=U.out.2.1;simp;omega) ?_);intro sv' dD cZ da dC)
   go_roundw
   case rel=>exact⟨j+1,U.out.1,by have:=U.out.1;go_num,Jy (Jc bl.out _) da (fun k hk=>(Je Y.out hk).1),by rw[bf.out.1,bf.out.2];exact cZ⟩
   case measure=>have:=U.out.1;simp[intOf];omega
  obtain rfl:j=Rs.length:=by omega
  have cG:¬ ((Rs.length:Int)<(Rs.length:Int)):=by omega
  have bA:Hid (Rs.take Rs.length=Rs∧cs.take Rs.length=cs):=⟨Of2,by rw[←H.len];exact Of2⟩
  have dc:wr.frozen? ⟨st,4,none⟩=false:=by simp[World.frozen?,H.store]
  have cz:=(bc.block _ (Jd bh.out.2.2.2)).trans bh.out.2.2.2
  have cj:Hid (Ksz F wr st q f k (Kr5 P bE) Rs sv (.slice (some ⟨g,0,none⟩) Rs.length c) cs):=H
  clear H bc
  go_upto_region 12 with fail
  rw[bA.out.1,bA.out.2]at Y
  rw[bA.out.1]
  obtain⟨J,H⟩:∃ J,J=wr.setCell ⟨st,4,none⟩ (.slice bi (Rs.eraseIdx at_).length c3):=⟨_,rfl⟩
  rw[←H]
  have bx:∀ i,i≠st→J.heap[i]?=wr.heap[i]?:=fun i hi=>by rw[H];exact Oa4 _ _ _ _ hi
  have cN:J.heap.size=wr.heap.size:=by rw[H];simp[World.setCell]
  have ci:Hid (Ksz F J st q f k (Kr5 P bE) (Rs.eraseIdx at_) sv (.slice bi (Rs.eraseIdx at_).length c3) (cs.eraseIdx at_)∧Ju X w J∧w.heap.size+1≤J.heap.size∧J.heap[w.heap.size]?=some (.cells #[.int .i64 0,.int .i64 0,.int .i64 0,.int .i64 0,.int .i64 0] 68 (0,0))∧∀ i,(Value.slice bi (Rs.eraseIdx at_).length c3).ownBlock=some i→w.heap.size+1≤i∧i<J.heap.size):=by
   obtain⟨n1,K,bZ,cH,cV,cW,cX⟩:=bb.out
   have O:=cj.out
   have cU:=bl.out.size
   have dt:=bh.out.2.2.1
   have dr:=K st (n1 st (.inl rfl))
   have bz:∀ i,(Value.slice bi (Rs.eraseIdx at_).length c3).ownBlock=some i→I.heap.size≤i∧i<wr.heap.size:=fun i hi=>Je Y.out hi
   refine⟨⟨?_,O.pages.of_block fun i hi=>bx i fun e=>O.st_.2.1 (e▸hi),Jl (Qaf Y.out) fun i hi=>bx i fun e=>by have:=bz i hi;omega,?_,fun j A bM M br=>?_,⟨O.st_.1,O.st_.2.1,fun e=>by have:=bz st e;omega⟩,fun i hi=>⟨(O.sv_ i hi).1,fun e=>by have:=bz i e;have:=K i (n1 i (.inr (.inl hi)));omega⟩,fun i hi cO=>by have:=bz i hi;have:=K i (n1 i (.inr (.inr (.inr cO))));omega⟩,?_,by omega,?_,fun i hi=>by have:=bz i hi;omega⟩
   ·rw[H,heap_setCell_same wr st 4 _ _ _ O.store]
    rfl
   ·rw[List.length_eraseIdx,List.length_eraseIdx,O.len]
   ·have cS:RtS F wr A bM:=by
     rw[List.getElem?_eraseIdx]at M br
     by_cases bT:j<at_
     ·rw[if_pos bT]at M br
      exact O.tabs j A bM M br
     ·rw[if_neg bT]at M br
      exact O.tabs _ A bM M br
    exact cS.stands (by omega) (fun i hi=>bx i fun e=>O.st_.1 (e▸hi)) fun _ a=>a
   ·refine bh.out.2.1.trans ((Ju.of_below bl.out).trans ?_)
    rw[H]
    exact(Ju.refl X wr).set (n1 st (.inl rfl)) _ _
   rw[bx _ (by omega)]
   exact cz
  have bW:=ci.out.2.2.2.1
  clear H bx cN cz Y cj bl bA bN dc cG
  have cy:=Kta J
  go_wp2_with fail
  refine cy.mono ?_
  rintro e L ⟨rfl,bQ⟩
  have N:=(bQ.block _ (Jd bW)).trans bW
  have de:L.cell? ⟨w.heap.size,0,none⟩=some (.int .i64 0):=by simp[World.cell?,N]
  have df:L.cell? ⟨w.heap.size,1,none⟩=some (.int .i64 0):=by simp[World.cell?,N]
  have dg:L.cell? ⟨w.heap.size,2,none⟩=some (.int .i64 0):=by simp[World.cell?,N]
  have bi:L.cell? ⟨w.heap.size,3,none⟩=some (.int .i64 0):=by simp[World.cell?,N]
  have dh:L.cell? ⟨w.heap.size,4,none⟩=some (.int .i64 0):=by simp[World.cell?,N]
  have di:L.frozen? ⟨w.heap.size,0,none⟩=false:=by simp[World.frozen?,N]
  have dj:L.frozen? ⟨w.heap.size,1,none⟩=false:=by simp[World.frozen?,N]
  have dk:L.frozen? ⟨w.heap.size,2,none⟩=false:=by simp[World.frozen?,N]
  have dl:L.frozen? ⟨w.heap.size,3,none⟩=false:=by simp[World.frozen?,N]
  have dm:L.frozen? ⟨w.heap.size,4,none⟩=false:=by simp[World.frozen?,N]
  have bV:=Jk (Jk (Jk (Jk (Jk N 0 (.int .i64 0)) 1 (.int .i64 (-1))) 2 (.int .i64 (-1))) 3 (.int .i64 (-1))) 4 (.int .i64 (-1))
  simp only[Oa1,List.set_cons_zero,List.set_cons_succ]at bV
  have cJ:Hid _:=bV
  have bn:Hid (Below J.heap.size J L):=bQ
  clear bV N bQ cy bW
  go_wp2
  refine bodyPost_ret (v:=fault 0) (by simp[results,results14,go_sem,World.cell?,cJ.out]) rfl ⟨rfl,?_⟩
  obtain⟨n1,K,bZ,cH,cV,cW,cX⟩:=bb.out
  obtain⟨db,bK,dE,dG,cb⟩:=ci.out
  have bk:=Ksa L w.heap.size (.int .i64 0) (.int .i64 (-1)) (.int .i64 (-1)) (.int .i64 (-1)) (.int .i64 (-1))
  generalize ((((L.setCell ⟨w.heap.size,0,none⟩ (.int .i64 0)).setCell ⟨w.heap.size,1,none⟩ (.int .i64 (-1))).setCell ⟨w.heap.size,2,none⟩ (.int .i64 (-1))).setCell ⟨w.heap.size,3,none⟩ (.int .i64 (-1))).setCell ⟨w.heap.size,4,none⟩ (.int .i64 (-1))=cl at bk ⊢
  have du:=bn.out.size
  have dv:=bk.size
  have cn:∀ i,i<J.heap.size→i≠w.heap.size→cl.heap[i]?=J.heap[i]?:=fun i hi bX=>(bk.block i (by omega) bX).trans (bn.out.block i hi)
  refine⟨⟨bk.os.trans (bn.out.os.trans bK.os),bk.tape.trans (bn.out.tape.trans bK.tape),bk.output.trans (bn.out.output.trans bK.output),by omega,fun i hi bX=>(cn i (by omega) (by omega)).trans (bK.block i hi bX)⟩,fun i=>X i∨(w.heap.size≤i∧i<cl.heap.size),⟨⟨F,sv,_,cs.eraseIdx at_,db.stands (by omega) fun i hi=>cn i ?_ ?_,fun i hi=>?_⟩,fun i hi=>hi.elim (fun a=>by have:=K i a;omega) fun a=>a.2⟩,fun i hi=>.inl hi,fun i hi=>hi.imp_right fun a=>a.1⟩
  ·rcases hi with e|e|e|e
   ·have:=K i (n1 i (.inl e));omega
   ·have:=K i (n1 i (.inr (.inl e)));omega
   ·exact(cb i e).2
   have:=K i (n1 i (.inr (.inr (.inr e))));omega
  ·rcases hi with e|e|e|e
   ·have:=K i (n1 i (.inl e));omega
   ·have:=K i (n1 i (.inr (.inl e)));omega
   ·have:=cb i e;omega
   have:=K i (n1 i (.inr (.inr (.inr e))));omega
  rcases hi with e|e|e|e
  ·exact .inl (n1 i (.inl e))
  ·exact .inl (n1 i (.inr (.inl e)))
  ·have:=cb i e;exact .inr ⟨by omega,by omega⟩
  exact .inl (n1 i (.inr (.inr (.inr e))))
end Go.Proofs.YtcaocabmioafcaaGreatDoor
