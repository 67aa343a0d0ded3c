/- The document's copies: rows in new memory. -/
import Derived.Test.YtkgibdjakgmmcaaGreatDoorWb
set_option maxHeartbeats 2000000
set_option maxRecDepth 100000
namespace Go.Proofs.YtkgibdjakgmmcaaGreatDoor
open Go.RowKit Go.Shelf
attribute [local go_sem] Oper.semAt_some
theorem wpList_append_RV {w:World}{ops:Array Oper}{rest:List Oper}{o:Oper}{a:Act}{Q:Exit→Act→World→Prop}(hgd:o.guard=none)(s x:Operand)
  (ho:o.op=.call {callee:=.builtin .append,args:=#[s,x],argTypes:=#[73,73]})
  (B:Nat) (sv:Value) (us:List V) (hs:a.eval s=sv) (hown:OwnV w B sv us)
  (ad:Addr) (c:Nat) (vs:List V) (hx:a.eval x=.slice (some ad) vs.length c) (hv:Vals w (some ad) vs) (hlen:us.length+vs.length≤1000000) (hbase:B≤w.heap.size)
  (h:∀ sv' w',OwnV w' B sv' (us++vs)→w.grownBy w' sv.ownBlock→(sv'.ownBlock=sv.ownBlock∨sv'.ownBlock=some w.heap.size)→wpList Tryz.prog ops Q rest (a.put o.dst sv') w') :
  wpList Tryz.prog ops Q (o::rest) a w:=by
 obtain⟨i,hi,hz,hsz,hby⟩:=info_parts infoV
 refine wpList_append_own_at w hgd s x 73 ho B 61 i _ 3 32 (by kernel_rfl) hi hz hsz hby rfl (by decide) sv us.length (us.flatMap V.cells) hs hown ad vs.length c (vs.flatMap V.cells) hx (cells_len vs) ?_ ?_ ?_ ?_ hbase ?_
 ·intro j u hj
  rcases hv with hv|⟨b,o',hb,_,hv⟩
  ·subst hv;simp at hj
  simp only[Option.some.injEq]at hb
  subst hb
  exact vals_src hv j u hj
 ·intro u hu
  obtain⟨v,_,hu⟩:=List.mem_flatMap.1 hu
  simp[V.cells]at hu
  rcases hu with rfl|rfl|rfl<;>rfl
 ·unfold maxLen;omega
 ·omega
 intro v' w' h1 h2 _ h4
 refine h v' w' ?_ h2 h4
 unfold OwnV
 simpa using h1
structure CopI (w wr:World) (sv:Value) (hs:List (Option Addr×Nat)) (rs:List (List V)):Prop where
 own:OwnC wr w.heap.size 73 sv (List.zipWith rowV hs rs)
 len:hs.length=rs.length
 rows:∀ (i:Nat) h r,hs[i]?=some h→rs[i]?=some r→Vals wr h.1 r∧∀ b o,h.1=some ⟨b,o,none⟩→w.heap.size≤b∧b<wr.heap.size∧sv.ownBlock≠some b
 low:Below w.heap.size w wr
theorem CopI.step {w wr w2 w3:World}{sv sv' rv:Value}{hs:List (Option Addr×Nat)}{rs:List (List V)}{r:List V}{o:Obj}(h:CopI w wr sv hs rs)(hv:OwnV w2 w.heap.size rv r)(h2:wr.grownBy w2 none)(hr:rv.ownBlock=none∨rv.ownBlock=some wr.heap.size)
  (h3:OwnC w3 w.heap.size 73 sv' (List.zipWith rowV hs rs++[rv])) (hg:(w2.alloc o).grownBy w3 sv.ownBlock) (hs':sv'.ownBlock=sv.ownBlock∨sv'.ownBlock=some (w2.alloc o).heap.size):∃ x,CopI w w3 sv' (hs++[x]) (rs++[r]):=by
 obtain⟨a,cap,rfl,hva⟩:=hv.vals
 have z2:=h2.size
 have z3:=hg.size
 rw[World.size_alloc]at z3 hs'
 have hlw:∀ k,sv.ownBlock=some k→k<wr.heap.size:=fun k hk=>(owns_block h.own hk).2
 have hb2:∀ b,b<w2.heap.size→sv.ownBlock≠some b→w3.heap[b]?=w2.heap[b]?:=fun b hb hn=>by
  rw[hg.block b (by simp;omega) (fun e=>hn e.symm),Below.heap_alloc _ _ _ hb]
 have hnew:∀ b,b<w2.heap.size→sv.ownBlock≠some b→sv'.ownBlock≠some b:=fun b hb hn e=>by
  rcases hs' with q|q
  ·exact hn (q▸e)
  rw[q]at e
  have:=Option.some.inj e
  omega
 have hown:∀ b o,a=some ⟨b,o,none⟩→w.heap.size≤b∧b<w2.heap.size∧sv.ownBlock≠some b:=fun b o he=>by
  rcases hv.2 with⟨q,_⟩|⟨g,cp,cur,q,hbg,hgl,_⟩
  ·injection q with q
   rw[he]at q
   cases q
  injection q with q
  rw[he]at q
  obtain rfl:b=g:=by injection q with q;injection q
  obtain rfl:o=0:=by injection q with q;injection q
  refine⟨hbg,lt_of_heap hgl,fun e=>?_⟩
  have hk:=hlw b e
  rw[he]at hr
  simp[Value.ownBlock]at hr
  omega
 refine⟨(a,cap),⟨?_,by simp[h.len],fun i x r' hx hr'=>?_,?_⟩⟩
 ·rw[List.zipWith_append h.len]
  exact h3
 ·by_cases hi:i<hs.length
  ·rw[List.getElem?_append_left hi]at hx
   rw[List.getElem?_append_left (by rw[←h.len];exact hi)]at hr'
   obtain⟨q1,q2⟩:=h.rows i x r' hx hr'
   refine⟨q1.of_block (by omega) fun b o e hb=>?_,fun b o e=>⟨(q2 b o e).1,?_,hnew b ?_ (q2 b o e).2.2⟩⟩
   ·rw[hb2 b (by omega) (q2 b o e).2.2,h2.block b hb (by simp)]
   ·have:=(q2 b o e).2.1
    omega
   have:=(q2 b o e).2.1
   omega
  rw[List.getElem?_append_right (by omega)]at hx
  rw[List.getElem?_append_right (by rw[←h.len];omega)]at hr'
  obtain⟨e0,rfl⟩:i-hs.length=0∧x=(a,cap):=by
   rw[List.getElem?_singleton]at hx
   split at hx
   ·rename_i h0
    exact⟨h0,by cases hx;rfl⟩
   cases hx
  rw[←h.len,e0]at hr'
  obtain rfl:r=r':=by simpa using hr'
  refine⟨hva.of_block (by omega) fun b o e hb=>hb2 b hb (hown b o e).2.2,fun b o e=>⟨(hown b o e).1,?_,hnew b (hown b o e).2.1 (hown b o e).2.2⟩⟩
  have:=(hown b o e).2.1
  omega
 have hba:Below w.heap.size w (w2.alloc o):=((h.low.grown h2 h.low.size (by simp)).alloc (by have:=h.low.size;omega) _)
 exact below_grown hba hg fun k hk=>(owns_block h.own hk).1
theorem rRows_any (a:Option Addr)(c:Nat)(hs:List (Option Addr×Nat))(rs:List (List V))(w:World)(h:RowsAt w a hs rs)(hn:rs.length≤1000)(hr:∀ r∈rs,1≤r.length∧r.length≤1000) :
  Calls Tryz.prog 79 #[.slice a rs.length c] w fun e w'=>∃ a' c' hs',e=.returned (.slice a' rs.length c')∧(∀ Y:World,w'.heap.size≤Y.heap.size→(∀ k,w.heap.size≤k→k<w'.heap.size→Y.heap[k]?=w'.heap[k]?)→RowsAt Y a' hs' rs)∧Below w.heap.size w w':=by
 have H:Hid (RowsAt w a hs rs∧∀ r∈rs,1≤r.length∧r.length≤1000):=⟨h,hr⟩
 clear h hr
 go_enter Tryz.func79,Tryz.ntmps79
 go_upto_region 3 with fail
 go_loopw [3,4] (fun s i wr=>∃ (j:Nat) (xs:List (Option Addr×Nat)),j≤rs.length∧i=.int .i64 (j:Int)∧CopI w wr s xs (rs.take j)) (fun _ i _=>rs.length-(intOf i).toNat)
 case atStart=>exact⟨0,[],Nat.zero_le _,rfl,⟨OwnC.nil _ _ _,rfl,fun i h r hx=>by simp at hx,Below.refl _ _⟩⟩
 case round=>
  obtain⟨j,xs,hj,rfl,hC⟩:=hrel
  obtain⟨a3,c3,h3⟩:=row_slice hC.own
  have hzl:(List.zipWith rowV xs (rs.take j)).length=j:=by rw[List.length_zipWith,hC.len,List.length_take];omega
  rw[hzl]at h3
  subst h3
  have HC:Hid (CopI w wr (.slice a3 j c3) xs (rs.take j)):=hC
  by_cases hlt:j<rs.length
  ·obtain⟨b,o,ra,rc,rfl,hbl,q0,q1⟩:=(H.out.1.below hC.low).at hlt
   have hrl:=H.out.2 rs[j] (List.getElem_mem hlt)
   have HT:Hid (rs.take (j+1)=rs.take j++[rs[j]]):=by rw[List.take_add_one,List.getElem?_eq_getElem hlt];rfl
   generalize rs[j]=r at q0 q1 hrl HT
   obtain⟨b1,o1,rfl,-,-⟩:=q1.at (i:=0) (by omega)
   have HR:Hid (Vals wr (some ⟨b1,o1,none⟩) r∧r.length≤1000∧j<rs.length∧(List.zipWith rowV xs (rs.take j)).length=j∧w.heap.size≤wr.heap.size):=⟨q1,hrl.2,hlt,hzl,hC.low.size⟩
   have i1:(0:Int)≤(j:Int):=by omega
   have i2:(j:Int)<(rs.length:Int):=by omega
   clear hC q1 hrl hbl hzl
   go_upto_region 7 with(at_builtin;go_must (refine wpList_append_RV (by rfl) _ _ (by rfl) w.heap.size _ [] (by rfl) (OwnV.nil _ _) ⟨b1,o1,none⟩ rc r (by rfl) HR.out.1 (by have:=HR.out.2.1;simp;omega) (by have:=HR.out.2.2.2.2;omega) ?_);intro rv w2 p1 p2 p3)
   rw[List.nil_append]at p1
   obtain⟨a5,c5,h5⟩:=row_slice p1
   subst h5
   have HP:Hid (OwnV w2 w.heap.size (.slice a5 r.length c5) r∧wr.grownBy w2 none∧((Value.slice a5 r.length c5).ownBlock=none∨(Value.slice a5 r.length c5).ownBlock=some wr.heap.size)):=⟨p1,p2,p3⟩
   have HO:Hid (OwnC w2 w.heap.size 73 (.slice a3 j c3) (List.zipWith rowV xs (rs.take j))∧w.heap.size≤w2.heap.size):=⟨owns_of_block HC.out.own fun g hg=>p2.block g (owns_block HC.out.own hg).2 (by simp[Value.ownBlock]),by have:=p2.size;have:=HR.out.2.2.2.2;omega⟩
   clear p1 p2 p3 q0
   go_wp2_with (at_builtin;go_must (refine wpList_append_D (by rfl) _ _ 38 73 _ 24 info_Row (by rfl) (by decide) (by kernel_rfl) (by rfl) w.heap.size _ _ (by rfl) (OwnC.alloc HO.out.1 _) ⟨w2.heap.size,0,none⟩ 1 [.slice a5 r.length c5] (by rfl) (by exact news_one w2 _ _) (by intro u hu;simp at hu;subst hu;rfl) (by have:=HR.out.2.2.2.1;have:=HR.out.2.2.1;simp only[List.length_cons,List.length_nil];omega) (by have:=HO.out.2;simp;omega) ?_);intro sv' w3 t1 t2 t3)
   go_roundw
   case rel=>
    obtain⟨x,hx⟩:=HC.out.step HP.out.1 HP.out.2.1 HP.out.2.2 t1 t2 t3
    rw[←HT.out]at hx
    exact⟨j+1,xs++[x],HR.out.2.2.1,by have:=HR.out.2.2.1;go_num,hx⟩
   case measure=>have:=HR.out.2.2.1;simp[intOf];omega
  obtain rfl:j=rs.length:=by omega
  have i3:¬ ((rs.length:Int)<(rs.length:Int)):=by omega
  clear hC
  go_wp2
  go_ret
  have hC:=HC.out
  rw[List.take_length]at hC hzl
  obtain⟨a6,c6,h6,hc6⟩:=hC.own.cells
  rw[hzl]at h6
  injection h6 with h6
  subst h6
  have hR:∀ Y:World,wr.heap.size≤Y.heap.size→(∀ k,w.heap.size≤k→k<wr.heap.size→Y.heap[k]?=wr.heap[k]?)→RowsAt Y a3 xs rs:=fun Y hz hk=>by
   refine⟨hC.len,?_,fun i h r hx hr=>(hC.rows i h r hx hr).1.of_block hz fun b o e hb=>hk b ((hC.rows i h r hx hr).2 b o e).1 hb⟩
   have ho:=owns_of_block (w':=Y) hC.own fun g hg=>hk g (owns_block hC.own hg).1 (owns_block hC.own hg).2
   obtain⟨a7,c7,h7,hc7⟩:=OwnC.cells ho
   injection h7 with h7
   subst h7
   exact hc7
  refine⟨a3,?_,⟨xs,hR⟩,hC.low⟩
  simp
attribute [local go_sem] Oper.semAt_some
theorem rCopied_any (name:ByteArray)(tb t0 tc:Nat)(ts:List Int)(ra:Option Addr)(rc:Nat)(hs:List (Option Addr×Nat))(rs:List (List V))(w:World)(ht:Ints w (some ⟨tb,t0,none⟩) ts)(htn:1≤ts.length∧ts.length≤1000)(h:RowsAt w ra hs rs)(hn:rs.length≤1000)(hr:∀ r∈rs,1≤r.length∧r.length≤1000) :
  Calls Tryz.prog 56 #[.agg #[.string name,.slice (some ⟨tb,t0,none⟩) ts.length tc,.slice ra rs.length rc]] w fun e w'=>∃ ta' tc' ra' rc' hs',e=.returned (.agg #[.string name,.slice ta' ts.length tc',.slice ra' rs.length rc'])∧Ints w' ta' ts∧TyI w' ta'∧RowsAt w' ra' hs' rs∧Below w.heap.size w w'∧(∀ b o,ta'=some ⟨b,o,none⟩→w.heap.size≤b∧b<w'.heap.size):=by
 have H:Hid (Ints w (some ⟨tb,t0,none⟩) ts∧RowsAt w ra hs rs∧(∀ r∈rs,1≤r.length∧r.length≤1000)∧1≤ts.length∧ts.length≤1000):=⟨ht,h,hr,htn⟩
 clear ht h hr htn
 go_enter Tryz.func56,Tryz.ntmps56
 go_upto_region 2 with fail
 obtain⟨W,hW⟩:∃ W,W=((w.alloc (.cells #[.string name,.slice (some ⟨tb,t0,none⟩) ts.length tc,.slice ra rs.length rc] 40)).alloc (.cells #[.string ⟨#[]⟩,.slice none 0 0,.slice none 0 0] 40)).alloc (.cells #[.string name,.slice none 0 0,.slice none 0 0] 40):=⟨_,rfl⟩
 rw[←hW]
 have HW:Hid (Below w.heap.size w W∧w.heap.size=w.heap.size∧W.heap.size=w.heap.size+3∧W.heap[w.heap.size]?=some (.cells #[.string name,.slice (some ⟨tb,t0,none⟩) ts.length tc,.slice ra rs.length rc] 40 (0,0))∧W.heap[w.heap.size+1]?=some (.cells #[.string ⟨#[]⟩,.slice none 0 0,.slice none 0 0] 40 (0,0))∧W.heap[w.heap.size+1+1]?=some (.cells #[.string name,.slice none 0 0,.slice none 0 0] 40 (0,0))):=by
  rw[hW]
  refine⟨(((Below.refl _ w).alloc (Nat.le_refl _) _).alloc (by simp) _).alloc (by simp;omega) _,rfl,by simp,?_,?_,?_⟩
  ·rw[Below.heap_alloc _ _ _ (by simp;omega),Below.heap_alloc _ _ _ (by simp),heap_alloc_new]
  ·have hx:=heap_alloc_new (w.alloc (.cells #[.string name,.slice (some ⟨tb,t0,none⟩) ts.length tc,.slice ra rs.length rc] 40)) (.cells #[.string ⟨#[]⟩,.slice none 0 0,.slice none 0 0] 40)
   rw[World.size_alloc]at hx
   rw[Below.heap_alloc _ _ _ (by simp),hx]
  have hx:=heap_alloc_new ((w.alloc (.cells #[.string name,.slice (some ⟨tb,t0,none⟩) ts.length tc,.slice ra rs.length rc] 40)).alloc (.cells #[.string ⟨#[]⟩,.slice none 0 0,.slice none 0 0] 40)) (.cells #[.string name,.slice none 0 0,.slice none 0 0] 40)
  rw[World.size_alloc,World.size_alloc]at hx
  exact hx
 clear hW
 have c1:W.cell? ⟨w.heap.size,1,none⟩=some (.slice (some ⟨tb,t0,none⟩) ts.length tc):=by simp[World.cell?,HW.out.2.2.2.1]
 have c2:W.cell? ⟨w.heap.size+1+1,1,none⟩=some (.slice none 0 0):=by simp[World.cell?,HW.out.2.2.2.2.2]
 have HT:Hid (∀ (j:Nat) u,(ts.map iv)[j]?=some u→W.cell? ((⟨tb,t0,none⟩:Addr).add j)=some u):=by
  have hi:Ints W (some ⟨tb,t0,none⟩) ts:=H.out.1.below HW.out.1
  rcases hi with hi|⟨b,o,e,_,hi⟩
  ·intro j u hj
   rw[hi]at hj
   simp at hj
  cases e
  intro j u hj
  have:=hi j u hj
  cases j with
  |zero=>exact this
  |succ j=>simpa [Addr.add] using this
 have HL:Hid (∀ X,W.grownBy X none→X.frozen? ⟨w.heap.size+1+1,1,none⟩=false∧X.cell? ⟨w.heap.size+1+1,1,none⟩=some (.slice none 0 0)):=fun X hg=>by
  have hb:X.heap[w.heap.size+1+1]?=W.heap[w.heap.size+1+1]?:=hg.block _ (by rw[HW.out.2.2.1];omega) (by simp)
  exact⟨by simp[World.frozen?,hb,HW.out.2.2.2.2.2],by simp[World.cell?,hb,HW.out.2.2.2.2.2]⟩
 go_upto_region 3 with(at_builtin;go_must (refine wpList_append_C (by rfl) _ _ 29 3 _ 8 info_int (by rfl) (by decide) (by kernel_rfl) (by rfl) w.heap.size _ [] (by rfl) (OwnC.nil _ _ _) ⟨tb,t0,none⟩ tc (ts.map iv) (by rw[List.length_map];rfl) HT.out (by intro u hu;simp at hu;obtain⟨x,_,rfl⟩:=hu;rfl) (by have:=H.out.2.2.2.2;simp;omega) (by have:=HW.out.2.2.1;omega) ?_);intro sv' w2 p1 p2 p3;rw[List.nil_append]at p1;obtain⟨a5,c5,h5⟩:=row_slice p1;rw[List.length_map]at h5;subst h5;have y4:=(HL.out w2 p2).1;have y5:=(HL.out w2 p2).2)
 obtain⟨X,hX⟩:∃ X,X=w2.setCell ⟨w.heap.size+1+1,1,none⟩ (.slice a5 ts.length c5):=⟨_,rfl⟩
 rw[←hX]
 have HX:Hid (Below w.heap.size w X∧w.heap.size+3≤X.heap.size∧X.heap[w.heap.size]?=some (.cells #[.string name,.slice (some ⟨tb,t0,none⟩) ts.length tc,.slice ra rs.length rc] 40 (0,0))∧X.heap[w.heap.size+1]?=some (.cells #[.string ⟨#[]⟩,.slice none 0 0,.slice none 0 0] 40 (0,0))∧X.heap[w.heap.size+1+1]?=some (.cells #[.string name,.slice a5 ts.length c5,.slice none 0 0] 40 (0,0))∧OwnC X w.heap.size 3 (.slice a5 ts.length c5) (ts.map iv)∧∀ b o,a5=some ⟨b,o,none⟩→w.heap.size+3≤b∧b<X.heap.size):=by
  obtain⟨h1,-,h3,h4,h5,h6⟩:=HW.out
  have z2:=p2.size
  have hb:∀ k,k<w.heap.size+3→w2.heap[k]?=W.heap[k]?:=fun k hk=>p2.block k (by omega) (by simp[Value.ownBlock])
  have hb2:∀ k,k<w.heap.size+3→k≠w.heap.size+1+1→X.heap[k]?=W.heap[k]?:=fun k hk hne=>by
   rw[hX,heap_setCell_other _ _ _ _ hne,hb k hk]
  have hzX:X.heap.size=w2.heap.size:=by rw[hX];simp[World.setCell]
  have ho:∀ g,(Value.slice a5 ts.length c5).ownBlock=some g→g=W.heap.size:=fun g hg=>by
   rcases p3 with q|q
   ·rw[q]at hg
    simp[Value.ownBlock]at hg
   rw[q]at hg
   exact(Option.some.inj hg).symm
  refine⟨⟨?_,?_,?_,by omega,fun k hk=>?_⟩,by omega,by rw[hb2 _ (by omega) (by omega)];exact h4,by rw[hb2 _ (by omega) (by omega)];exact h5,?_,owns_of_block p1 fun g hg=>?_,fun b o e=>?_⟩
  ·rw[hX];exact p2.os.trans h1.os
  ·rw[hX];exact p2.tape.trans h1.tape
  ·rw[hX];exact p2.output.trans h1.output
  ·rw[hb2 k (by omega) (by omega)];exact h1.block k hk
  ·rw[hX,heap_setCell_same w2 _ 1 _ _ _ ((hb _ (by omega)).trans h6)]
   rfl
  ·rw[hX]
   refine heap_setCell_other _ _ _ _ ?_
   have:=ho g hg
   show g≠w.heap.size+1+1
   omega
  rcases p1.2 with⟨q,_⟩|⟨g,cp,cur,q,_,hgl,_⟩
  ·injection q with q
   rw[e]at q
   cases q
  have hg:=ho g (by rw[q];rfl)
  injection q with q
  rw[e]at q
  injection q with q
  injection q with q
  have:=lt_of_heap hgl
  omega
 clear p1 p2 p3 y4 y5 hX HL HT c1 c2 HW
 have c3:X.cell? ⟨w.heap.size,2,none⟩=some (.slice ra rs.length rc):=by simp[World.cell?,HX.out.2.2.1]
 have hC:=rRows_any ra rc hs rs X (H.out.2.1.below HX.out.1) hn H.out.2.2.1
 have HZ:Hid (∀ Y,Below X.heap.size X Y→Y.frozen? ⟨w.heap.size+1+1,2,none⟩=false∧Y.cell? ⟨w.heap.size+1+1,2,none⟩=some (.slice none 0 0)):=fun Y hY=>by
  have hb:Y.heap[w.heap.size+1+1]?=X.heap[w.heap.size+1+1]?:=hY.block _ (by have:=HX.out.2.1;omega)
  exact⟨by simp[World.frozen?,hb,HX.out.2.2.2.2.1],by simp[World.cell?,hb,HX.out.2.2.2.2.1]⟩
 go_upto_region 4 with(go_at_call 79;refine hC.mono ?_;rintro e w3 ⟨a6,c6,hs6,rfl,r1,r2⟩;have y6:=(HZ.out w3 r2).1;have y7:=(HZ.out w3 r2).2)
 obtain⟨Y,hY⟩:∃ Y,Y=w3.setCell ⟨w.heap.size+1+1,2,none⟩ (.slice a6 rs.length c6):=⟨_,rfl⟩
 rw[←hY]
 have HY:Hid (Below w.heap.size w Y∧X.heap.size≤Y.heap.size∧Y.heap[w.heap.size+1]?=some (.cells #[.string ⟨#[]⟩,.slice none 0 0,.slice none 0 0] 40 (0,0))∧Y.heap[w.heap.size+1+1]?=some (.cells #[.string name,.slice a5 ts.length c5,.slice a6 rs.length c6] 40 (0,0))∧(∀ k,w.heap.size+3≤k→k<w3.heap.size→Y.heap[k]?=w3.heap[k]?)∧Y.heap.size=w3.heap.size):=by
  obtain⟨h1,h2,h3,h4,h5,h6,h7⟩:=HX.out
  have z3:=r2.size
  have hb2:∀ k,k<X.heap.size→k≠w.heap.size+1+1→Y.heap[k]?=X.heap[k]?:=fun k hk hne=>by
   rw[hY,heap_setCell_other _ _ _ _ hne,r2.block k hk]
  have hzY:Y.heap.size=w3.heap.size:=by rw[hY];simp[World.setCell]
  have hz1:=h1.size
  refine⟨⟨?_,?_,?_,by omega,fun k hk=>?_⟩,by omega,by rw[hb2 _ (by omega) (by omega)];exact h4,?_,fun k h1 h2=>?_,hzY⟩
  ·rw[hY];exact r2.os.trans h1.os
  ·rw[hY];exact r2.tape.trans h1.tape
  ·rw[hY];exact r2.output.trans h1.output
  ·rw[hb2 k (by omega) (by omega)];exact h1.block k hk
  ·rw[hY,heap_setCell_same w3 _ 2 _ _ _ ((r2.block _ (by omega)).trans h5)]
   rfl
  rw[hY]
  exact heap_setCell_other _ _ _ _ (by show k≠w.heap.size+1+1;omega)
 have d0:Y.cell? ⟨w.heap.size+1+1,0,none⟩=some (.string name):=by simp[World.cell?,HY.out.2.2.2.1]
 have d1:Y.cell? ⟨w.heap.size+1+1,1,none⟩=some (.slice a5 ts.length c5):=by simp[World.cell?,HY.out.2.2.2.1]
 have d2:Y.cell? ⟨w.heap.size+1+1,2,none⟩=some (.slice a6 rs.length c6):=by simp[World.cell?,HY.out.2.2.2.1]
 have e0:Y.cell? ⟨w.heap.size+1,0,none⟩=some (.string ⟨#[]⟩):=by simp[World.cell?,HY.out.2.2.1]
 have e1:Y.cell? ⟨w.heap.size+1,1,none⟩=some (.slice none 0 0):=by simp[World.cell?,HY.out.2.2.1]
 have e2:Y.cell? ⟨w.heap.size+1,2,none⟩=some (.slice none 0 0):=by simp[World.cell?,HY.out.2.2.1]
 have f0:Y.frozen? ⟨w.heap.size+1,0,none⟩=false:=by simp[World.frozen?,HY.out.2.2.1]
 have f1:Y.frozen? ⟨w.heap.size+1,1,none⟩=false:=by simp[World.frozen?,HY.out.2.2.1]
 have f2:Y.frozen? ⟨w.heap.size+1,2,none⟩=false:=by simp[World.frozen?,HY.out.2.2.1]
 have HR:Hid ((∀ U:World,w3.heap.size≤U.heap.size→(∀ k,X.heap.size≤k→k<w3.heap.size→U.heap[k]?=w3.heap[k]?)→RowsAt U a6 hs6 rs)∧Below X.heap.size X w3):=⟨r1,r2⟩
 clear r1 r2 y6 y7 hY hC HZ c3
 go_wp2
 obtain⟨Z,hZ⟩:∃ Z,Z=(((Y.setCell ⟨w.heap.size+1,0,none⟩ (.string name)).setCell ⟨w.heap.size+1,1,none⟩ (.slice a5 ts.length c5)).setCell ⟨w.heap.size+1,2,none⟩ (.slice a6 rs.length c6)):=⟨_,rfl⟩
 rw[←hZ]
 have hz1:Z.heap[w.heap.size+1]?=some (.cells #[.string name,.slice a5 ts.length c5,.slice a6 rs.length c6] 40 (0,0)):=by
  rw[hZ,heap_setCell_same _ _ 2 _ _ _ (heap_setCell_same _ _ 1 _ _ _ (heap_setCell_same _ _ 0 _ _ _ HY.out.2.2.1))]
  rfl
 have hzo:∀ k,k≠w.heap.size+1→Z.heap[k]?=Y.heap[k]?:=fun k hk=>by
  rw[hZ,heap_setCell_other _ _ _ _ hk,heap_setCell_other _ _ _ _ hk,heap_setCell_other _ _ _ _ hk]
 have hzz:Z.heap.size=Y.heap.size:=by rw[hZ];simp[World.setCell]
 obtain⟨k1,k2,-,k4,k5,k6⟩:=HY.out
 obtain⟨m1,m2,-,-,-,m6,m7⟩:=HX.out
 have hzs:=HR.out.2.size
 have hown:OwnC Z w.heap.size 3 (.slice a5 ts.length c5) (ts.map iv):=owns_of_block m6 fun g hg=>by
  obtain⟨u1,u2⟩:w.heap.size+3≤g∧g<X.heap.size:=by
   cases a5 with
   |none=>simp[Value.ownBlock]at hg
   |some ad=>
    rcases m6.2 with⟨q,_⟩|⟨g',cp,cur,q,_⟩
    ·cases q
    injection q with q
    rw[q]at hg
    obtain rfl:g'=g:=by simpa [Value.ownBlock] using hg
    exact m7 g' 0 q
  rw[hzo g (by omega),k5 g u1 (by omega),HR.out.2.block g u2]
 obtain⟨a8,c8,h8,hc8⟩:=hown.cells
 injection h8 with h8 _ _
 subst h8
 have hlow:Below w.heap.size w Z:=by
  refine⟨?_,?_,?_,by have:=k1.size;omega,fun k hk=>by rw[hzo k (by omega)];exact k1.block k hk⟩
  ·rw[hZ];exact k1.os
  ·rw[hZ];exact k1.tape
  rw[hZ];exact k1.output
 have hty:TyI Z a5:=fun b o e=>by
  subst e
  exact own_ty hown b o rfl
 exact bodyPost_ret (v:=.agg #[.string name,.slice a5 ts.length c5,.slice a6 rs.length c6]) (by simp[results,Tryz.results56,go_sem,World.cell?,hz1]) rfl ⟨a5,c5,a6,c6,hs6,rfl,hc8,hty,HR.out.1 Z (by omega) (fun k u1 u2=>by rw[hzo k (by omega),k5 k (by omega) u2]),hlow,fun b o e=>by have:=m7 b o e;omega⟩
end Go.Proofs.YtkgibdjakgmmcaaGreatDoor
