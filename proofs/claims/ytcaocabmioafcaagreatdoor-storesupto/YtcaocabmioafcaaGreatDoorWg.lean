/- The document's copies: rows in new memory. -/
import Derived.Test.YtcaocabmioafcaaGreatDoorWb
import Derived.Test.YtcaocabmioafcaaGreatDoorQa
set_option maxHeartbeats 2000000
set_option maxRecDepth 100000
namespace Go.Proofs.YtcaocabmioafcaaGreatDoor
section
open Go.RowKit Go.Shelf Tryz
attribute [local go_sem] Oc0
theorem Kuk {w:World}{M:Array Oper}{rest:List Oper}{o:Oper}{a:Act}{Q:Exit→Act→World→Prop}(Y:o.guard=none)(s x:Operand)
  (Z:o.op=.call {callee:=.builtin .append,args:=#[s,x],argTypes:=#[57,57]})
  (B:Nat) (sv:Value) (H:List V) (hs:a.eval s=sv) (ba:Yt w B sv H)
  (J:Addr) (c:Nat) (vs:List V) (bc:a.eval x=.slice (some J) vs.length c) (A:Jv w (some J) vs) (bi:H.length+vs.length≤1000000) (U:B≤w.heap.size)
  (h:∀ sv' w',Yt w' B sv' (H++vs)→w.grownBy w' sv.ownBlock→(sv'.ownBlock=sv.ownBlock∨sv'.ownBlock=some w.heap.size)→wpList prog M Q rest (a.put o.dst sv') w') :
  wpList prog M Q (o::rest) a w:=by
 obtain⟨i,hi,bf,bb,X⟩:=info_parts Jow
 refine wpList_append_own_at w Y s x 57 Z B 55 i _ 3 32 (by kernel_rfl) hi bf bb X rfl (by decide) sv H.length (H.flatMap V.cells) hs ba J vs.length c (vs.flatMap V.cells) bc (Ja5 vs) ?_ ?_ ?_ ?_ U ?_
 ·intro j u L
  rcases A with A|⟨b,bj,K,_,A⟩
  ·subst A;simp at L
  simp only[Oc9]at K
  subst K
  exact Kem A j u L
 ·intro u I
  obtain⟨v,_,I⟩:=Op5.1 I
  simp[V.cells]at I
  rcases I with rfl|rfl|rfl<;>rfl
 ·unfold maxLen;omega
 ·omega
 intro bh w' N O _ R
 refine h bh w' ?_ O R
 unfold Yt
 simpa using N
structure Qa7 (w wr:World) (sv:Value) (hs:List (Option Addr×Nat)) (rs:List (List V)):Prop where
 own:Jo wr w.heap.size 57 sv (List.zipWith Je1 hs rs)
 len:hs.length=rs.length
 rows:∀ (i:Nat) h r,hs[i]?=some h→rs[i]?=some r→Jv wr h.1 r∧∀ b o,h.1=some ⟨b,o,none⟩→w.heap.size≤b∧b<wr.heap.size∧sv.ownBlock≠some b
 low:Below w.heap.size w wr
theorem Qa7.step {w wr A N:World}{sv sv' M:Value}{hs:List (Option Addr×Nat)}{rs:List (List V)}{r:List V}{o:Obj}(h:Qa7 w wr sv hs rs)(bc:Yt A w.heap.size M r)(O:wr.grownBy A none)(ba:M.ownBlock=none∨M.ownBlock=some wr.heap.size)
  (bi:Jo N w.heap.size 57 sv' (List.zipWith Je1 hs rs++[M])) (U:(A.alloc o).grownBy N sv.ownBlock) (bb:sv'.ownBlock=sv.ownBlock∨sv'.ownBlock=some (A.alloc o).heap.size):∃ x,Qa7 w N sv' (hs++[x]) (rs++[r]):=by
 obtain⟨a,cap,rfl,br⟩:=bc.vals
 have bA:=O.size
 have bx:=U.size
 rw[Oa7]at bx bb
 have bn:∀ k,sv.ownBlock=some k→k<wr.heap.size:=fun k hk=>(Je h.own hk).2
 have Y:∀ b,b<A.heap.size→sv.ownBlock≠some b→N.heap[b]?=A.heap[b]?:=fun b I X=>by
  rw[U.block b (by simp;omega) (fun e=>X e.symm),Oa9 _ _ _ I]
 have Z:∀ b,b<A.heap.size→sv.ownBlock≠some b→sv'.ownBlock≠some b:=fun b I X e=>by
  rcases bb with q|q
  ·exact X (q▸e)
  rw[q]at e
  have:=Oj6 e
  omega
 have J:∀ b o,a=some ⟨b,o,none⟩→w.heap.size≤b∧b<A.heap.size∧sv.ownBlock≠some b:=fun b o R=>by
  rcases bc.2 with⟨q,_⟩|⟨g,cp,bz,q,bk,bl,_⟩
  ·injection q with q
   rw[R]at q
   cases q
  injection q with q
  rw[R]at q
  obtain rfl:b=g:=by injection q with q;injection q
  obtain rfl:o=0:=by injection q with q;injection q
  refine⟨bk,Jd bl,fun e=>?_⟩
  have hk:=bn b e
  rw[R]at ba
  simp[Value.ownBlock]at ba
  omega
 refine⟨(a,cap),⟨?_,by simp[h.len],fun i x bf H K=>?_,?_⟩⟩
 ·rw[Oo5 h.len]
  exact bi
 ·by_cases hi:i<hs.length
  ·rw[Ob0 hi]at H
   rw[Ob0 (by rw[←h.len];exact hi)]at K
   obtain⟨bu,L⟩:=h.rows i x bf H K
   refine⟨bu.of_block (by omega) fun b o e I=>?_,fun b o e=>⟨(L b o e).1,?_,Z b ?_ (L b o e).2.2⟩⟩
   ·rw[Y b (by omega) (L b o e).2.2,O.block b I (by simp)]
   ·have:=(L b o e).2.1
    omega
   have:=(L b o e).2.1
   omega
  rw[Ob6 (by omega)]at H
  rw[Ob6 (by rw[←h.len];omega)]at K
  obtain⟨bh,rfl⟩:i-hs.length=0∧x=(a,cap):=by
   rw[List.getElem?_singleton]at H
   split at H
   ·rename_i h0
    exact⟨h0,by cases H;rfl⟩
   cases H
  rw[←h.len,bh]at K
  obtain rfl:r=bf:=by simpa using K
  refine⟨br.of_block (by omega) fun b o e I=>Y b I (J b o e).2.2,fun b o e=>⟨(J b o e).1,?_,Z b (J b o e).2.1 (J b o e).2.2⟩⟩
  have:=(J b o e).2.1
  omega
 have bj:Below w.heap.size w (A.alloc o):=((h.low.grown O h.low.size (by simp)).alloc (by have:=h.low.size;omega) _)
 exact Jy bj U fun k hk=>(Je h.own hk).1
theorem Kv0 (a:Option Addr)(c:Nat)(hs:List (Option Addr×Nat))(rs:List (List V))(w:World)(h:Zd w a hs rs)(bT:rs.length≤1000)(L:∀ r∈rs,1≤r.length∧r.length≤1000) :
  Calls prog 78 #[.slice a rs.length c] w fun e w'=>∃ bl bz bH,e=.returned (.slice bl rs.length bz)∧(∀ I:World,w'.heap.size≤I.heap.size→(∀ k,w.heap.size≤k→k<w'.heap.size→I.heap[k]?=w'.heap[k]?)→Zd I bl bH rs)∧Below w.heap.size w w':=by
 have bi:Hid (Zd w a hs rs∧∀ r∈rs,1≤r.length∧r.length≤1000):=⟨h,L⟩
 clear h L
 go_enter func78,ntmps78
 go_upto_region 3 with fail
 go_loopw [3,4] (fun s i wr=>∃ (j:Nat) (xs:List (Option Addr×Nat)),j≤rs.length∧i=.int .i64 (j:Int)∧Qa7 w wr s xs (rs.take j)) (fun _ i _=>rs.length-(intOf i).toNat)
 case atStart=>exact⟨0,[],Ob7 _,rfl,⟨Jo.nil _ _ _,rfl,fun i h r J=>by simp at J,Oa5 _ _⟩⟩
 case round=>
  obtain⟨j,xs,bS,rfl,A⟩:=hrel
  obtain⟨O,c3,bn⟩:=Jcz A.own
  have M:(List.zipWith Je1 xs (rs.take j)).length=j:=by rw[Oj8,A.len,Oc7];omega
  rw[M]at bn
  subst bn
  have N:Hid (Qa7 w wr (.slice O j c3) xs (rs.take j)):=A
  by_cases Y:j<rs.length
  ·obtain⟨b,o,bX,bJ,rfl,bD,bx,bb⟩:=(bi.out.1.below A.low).at Y
   have bh:=bi.out.2 rs[j] (Ob3 Y)
   have bk:Hid (rs.take (j+1)=rs.take j++[rs[j]]):=by rw[Oi7,Oa3 Y];rfl
   generalize rs[j]=r at bx bb bh bk
   obtain⟨b1,o1,rfl,-,-⟩:=bb.at (i:=0) (by omega)
   have H:Hid (Jv wr (some ⟨b1,o1,none⟩) r∧r.length≤1000∧j<rs.length∧(List.zipWith Je1 xs (rs.take j)).length=j∧w.heap.size≤wr.heap.size):=⟨bb,bh.2,Y,M,A.low.size⟩
   have bU:(0:Int)≤(j:Int):=by omega
   have bV:(j:Int)<(rs.length:Int):=by omega
   clear A bb bh bD M
   go_upto_region 7 with(at_builtin;go_must (refine Kuk (by rfl) _ _ (by rfl) w.heap.size _ [] (by rfl) (Yt.nil _ _) ⟨b1,o1,none⟩ bJ r (by rfl) H.out.1 (by have:=H.out.2.1;simp;omega) (by have:=H.out.2.2.2.2;omega) ?_);intro bY K Z ba bu)
   rw[List.nil_append]at Z
   obtain⟨R,c5,bA⟩:=Jcz Z
   subst bA
   have bc:Hid (Yt K w.heap.size (.slice R r.length c5) r∧wr.grownBy K none∧((Value.slice R r.length c5).ownBlock=none∨(Value.slice R r.length c5).ownBlock=some wr.heap.size)):=⟨Z,ba,bu⟩
   have bj:Hid (Jo K w.heap.size 57 (.slice O j c3) (List.zipWith Je1 xs (rs.take j))∧w.heap.size≤K.heap.size):=⟨Jl N.out.own fun g X=>ba.block g (Je N.out.own X).2 (by simp[Value.ownBlock]),by have:=ba.size;have:=H.out.2.2.2.2;omega⟩
   clear Z ba bu bx
   go_wp2_with (at_builtin;go_must (refine Ul (by rfl) _ _ 28 57 _ 24 Jip (by rfl) (by decide) (by kernel_rfl) (by rfl) w.heap.size _ _ (by rfl) (Jo.alloc bj.out.1 _) ⟨K.heap.size,0,none⟩ 1 [.slice R r.length c5] (by rfl) (by exact Ua K _ _) (by intro u br;simp at br;subst br;rfl) (by have:=H.out.2.2.2.1;have:=H.out.2.2.1;simp only[List.length_cons,List.length_nil];omega) (by have:=bj.out.2;simp;omega) ?_);intro sv' bZ bK bL bM)
   go_roundw
   case rel=>
    obtain⟨x,J⟩:=N.out.step bc.out.1 bc.out.2.1 bc.out.2.2 bK bL bM
    rw[←bk.out]at J
    exact⟨j+1,xs++[x],H.out.2.2.1,by have:=H.out.2.2.1;go_num,J⟩
   case measure=>have:=H.out.2.2.1;simp[intOf];omega
  obtain rfl:j=rs.length:=by omega
  have bW:¬ ((rs.length:Int)<(rs.length:Int)):=by omega
  clear A
  go_wp2
  go_ret
  have A:=N.out
  rw[Of2]at A M
  obtain⟨bN,bP,U,bR⟩:=A.own.cells
  rw[M]at U
  injection U with U
  subst U
  have bB:∀ I:World,wr.heap.size≤I.heap.size→(∀ k,w.heap.size≤k→k<wr.heap.size→I.heap[k]?=wr.heap[k]?)→Zd I O xs rs:=fun I bI hk=>by
   refine⟨A.len,?_,fun i h r J L=>(A.rows i h r J L).1.of_block bI fun b o e bC=>hk b ((A.rows i h r J L).2 b o e).1 bC⟩
   have bG:=Jl (w':=I) A.own fun g X=>hk g (Je A.own X).1 (Je A.own X).2
   obtain⟨bO,bQ,bf,bE⟩:=Jo.cells bG
   injection bf with bf
   subst bf
   exact bE
  refine⟨O,?_,⟨xs,bB⟩,A.low⟩
  simp
end
section
open Go.RowKit Go.Shelf
attribute [local go_sem] Oc0
end
section
open Go.RowKit Go.Shelf Tryz
attribute [local go_sem] Oc0
theorem Kv4 (w:World):Calls prog 5 #[] w fun e w'=>e=.returned (.agg #[.int .i64 1048576,.int .i64 0])∧Below w.heap.size w w':=by
 go_enter func5,ntmps5
 go_wp2
 exact bodyPost_ret (v:=.agg #[.int .i64 1048576,.int .i64 0]) (by simp[results,results5,go_sem]) rfl ⟨rfl,(Oa5 _ w).alloc (Oa2 _) _⟩
theorem Kt7 (w:World)(o:Obj)(k:Nat)(h:k=w.heap.size):(w.alloc o).heap[k]?=some o:=by
 subst h
 exact heap_alloc_new w o
theorem Kzf (w:World)(o0 o1 o2 o3 H I J K:Obj)(P:World→Prop)(h:∀ A:World,Below w.heap.size w A→A.heap.size=w.heap.size+8→A.heap[w.heap.size+1]?=some o1→A.heap[w.heap.size+2]?=some o2→A.heap[w.heap.size+3]?=some o3→A.heap[w.heap.size+4]?=some H→A.heap[w.heap.size+5]?=some I→A.heap[w.heap.size+6]?=some J→A.heap[w.heap.size+7]?=some K→P A):P ((((((((w.alloc o0).alloc o1).alloc o2).alloc o3).alloc H).alloc I).alloc J).alloc K):=by
 refine h _ ?_ (by simp) ?_ ?_ ?_ ?_ ?_ ?_ ?_
 ·exact(((((((((Oa5 _ w).alloc (Oa2 _) _).alloc (by simp only[Oa7];omega) _).alloc (by simp only[Oa7];omega) _).alloc (by simp only[Oa7];omega) _).alloc (by simp only[Oa7];omega) _).alloc (by simp only[Oa7];omega) _).alloc (by simp only[Oa7];omega) _).alloc (by simp only[Oa7];omega) _)
 all_goals
  repeat rw[Oa9 _ _ _ (by simp only[Oa7];omega)]
  exact Kt7 _ _ _ (by simp only[Oa7])
def Ktk:List (List V):=[[⟨1,1,⟨#[]⟩⟩,⟨3,0,⟨#[97]⟩⟩],[⟨1,2,⟨#[]⟩⟩,⟨3,0,⟨#[98]⟩⟩],[⟨0,0,⟨#[]⟩⟩,⟨3,0,⟨#[97]⟩⟩],[⟨1,4,⟨#[]⟩⟩,⟨0,0,⟨#[]⟩⟩]]
theorem Kwe (w:World):Calls prog 6 #[] w fun e w'=>∃ J L H I hs K xc,e=.returned (.agg #[.string ⟨#[116]⟩,.slice J 2 L,.slice H 4 I,.slice K 2 xc,.int .i64 2])∧Kc w' J [1,3]∧Kc w' K [0,1]∧Zd w' H hs Ktk∧Below w.heap.size w w'∧4≤I:=by
 go_enter func6,ntmps6
 go_wp2
 refine bodyPost_ret (v:=.agg #[.string ⟨#[116]⟩,.slice (some ⟨w.heap.size+6,0,none⟩) 2 2,.slice (some ⟨w.heap.size+5,0,none⟩) 4 4,.slice (some ⟨w.heap.size+7,0,none⟩) 2 2,.int .i64 2]) (by simp[results,results6,go_sem]) rfl ?_
 refine Kzf w _ _ _ _ _ _ _ _ (fun w'=>∃ J L H I hs K xc,Ending.returned (.agg #[.string ⟨#[116]⟩,.slice (some ⟨w.heap.size+6,0,none⟩) 2 2,.slice (some ⟨w.heap.size+5,0,none⟩) 4 4,.slice (some ⟨w.heap.size+7,0,none⟩) 2 2,.int .i64 2])=.returned (.agg #[.string ⟨#[116]⟩,.slice J 2 L,.slice H 4 I,.slice K 2 xc,.int .i64 2])∧Kc w' J [1,3]∧Kc w' K [0,1]∧Zd w' H hs Ktk∧Below w.heap.size w w'∧4≤I) ?_
 intro ba Z bb g1 g2 O R U X Y
 refine⟨some ⟨w.heap.size+6,0,none⟩,2,some ⟨w.heap.size+5,0,none⟩,4,[(some ⟨w.heap.size+1,0,none⟩,2),(some ⟨w.heap.size+2,0,none⟩,2),(some ⟨w.heap.size+3,0,none⟩,2),(some ⟨w.heap.size+4,0,none⟩,2)],some ⟨w.heap.size+7,0,none⟩,2,rfl,.inr ⟨w.heap.size+6,0,rfl,by omega,fun i v A=>?_⟩,.inr ⟨w.heap.size+7,0,rfl,by omega,fun i v A=>?_⟩,?_,Z,by omega⟩
 ·rcases i with _|_|i<;>simp[iv]at A<;>subst A<;>simp[World.cell?,X]
 ·rcases i with _|_|i<;>simp[iv]at A<;>subst A<;>simp[World.cell?,Y]
 refine⟨rfl,.inr ⟨w.heap.size+5,0,rfl,by omega,fun i v A=>?_⟩,fun i x r N M=>?_⟩
 ·rcases i with _|_|_|_|i<;>simp[Ktk,Je1]at A<;>subst A<;>simp[World.cell?,U]
 rcases i with _|_|_|_|i<;>simp[Ktk]at N M<;>subst N M<;>refine .inr ⟨_,0,rfl,by omega,fun i v A=>?_⟩<;>rcases i with _|_|i<;>simp at A<;>subst A<;>refine⟨?_,?_,?_⟩<;>simp[World.cell?,g1,g2,O,R]
end
section
open Go.RowKit Go.Shelf
attribute [local go_sem] Oc0
abbrev Qb1:Type:=Unit⊕(Unit⊕(Nat⊕List (List UInt8)))
def Kti (Rs:List (ByteArray×List Int))(name:ByteArray)(ts hs:List Int)(rs:List (List V))(g:Int):Qb1:=
 @ite _ (Jel name ts rs∧Je3 ts hs∧1≤g∧g≤64) (Khs name ts hs rs g)
  (if Ksg Rs name<Rs.length∨6≤Rs.length then .inr (.inl ())
  else match Jfg rs ts hs (cks rs.length g.toNat (ckN rs.length g.toNat))with
   |.inr c=>.inr (.inr (.inl c))
   |.inl T=>.inr (.inr (.inr T)))
  (.inl ())
end
end Go.Proofs.YtcaocabmioafcaaGreatDoor
