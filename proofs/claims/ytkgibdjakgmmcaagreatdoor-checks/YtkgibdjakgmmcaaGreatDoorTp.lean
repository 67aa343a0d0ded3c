/- The batches of rows: what the iterator hands over. -/
import Derived.Test.YtkgibdjakgmmcaaGreatDoorRh
import Derived.Test.YtkgibdjakgmmcaaGreatDoorCa
import Derived.Test.YtkgibdjakgmmcaaGreatDoorTi
import Derived.Test.YtkgibdjakgmmcaaGreatDoorXr
import Derived.Test.YtkgibdjakgmmcaaGreatDoorTj
import Derived.Test.YtkgibdjakgmmcaaGreatDoorYa
import Derived.Test.YtkgibdjakgmmcaaGreatDoorDg
import Derived.Test.YtkgibdjakgmmcaaGreatDoorTl
import Derived.Test.YtkgibdjakgmmcaaGreatDoorTe
import Derived.Test.YtkgibdjakgmmcaaGreatDoorKk
set_option maxHeartbeats 1000000
set_option maxRecDepth 100000
namespace Go.Proofs.YtkgibdjakgmmcaaGreatDoor
section
open Go.RowKit Go.Shelf
attribute [local go_sem] Oper.semAt_some
attribute [local go_sem] Oper.semAt_some
attribute [local go_sem] Oper.semAt_some
attribute [local go_sem] Oper.semAt_some
attribute [local go_sem] Oper.semAt_some
structure Nd where
 op:Int
 l:Int
 r:Int
 tn:ByteArray
 xs:Option Addr×Nat×Nat
 ky:Option Addr×Nat×Nat
 kk:Int
abbrev Nd.val (p:Nd):Value:=.agg #[.int .i64 p.op,.int .i64 p.l,.int .i64 p.r,.string p.tn,.slice p.xs.1 p.xs.2.1 p.xs.2.2,.slice p.ky.1 p.ky.2.1 p.ky.2.2,.int .i64 p.kk]
def NodeAt (w:World)(g o:Nat)(p:Nd):Prop:=
 w.cell? ⟨g,o,none⟩=some (.int .i64 p.op)∧w.cell? ⟨g,o+1,none⟩=some (.int .i64 p.l)∧w.cell? ⟨g,o+2,none⟩=some (.int .i64 p.r)∧w.cell? ⟨g,o+3,none⟩=some (.string p.tn)∧w.cell? ⟨g,o+4,none⟩=some (.slice p.xs.1 p.xs.2.1 p.xs.2.2)∧w.cell? ⟨g,o+5,none⟩=some (.slice p.ky.1 p.ky.2.1 p.ky.2.2)∧w.cell? ⟨g,o+6,none⟩=some (.int .i64 p.kk)
theorem NodeAt.below {w w':World}{g o:Nat}{p:Nd}(h:NodeAt w g o p)(hb:Below w.heap.size w w'):NodeAt w' g o p:=
 ⟨cell_below hb h.1,cell_below hb h.2.1,cell_below hb h.2.2.1,cell_below hb h.2.2.2.1,cell_below hb h.2.2.2.2.1,cell_below hb h.2.2.2.2.2.1,cell_below hb h.2.2.2.2.2.2⟩
attribute [local go_sem] Oper.semAt_some
attribute [local go_sem] Oper.semAt_some
attribute [local go_sem] Oper.semAt_some
attribute [local go_sem] Oper.semAt_some
attribute [local go_sem] run_equal_V
attribute [local go_sem] Oper.semAt_some
end
section
open Go.RowKit
end
section
open Go.RowKit Go.Shelf
attribute [local go_sem] Oper.semAt_some
theorem part_full {W:World}{g:Nat}{a b c d k n:Int}{s:ByteArray}(h:W.heap[g]?=some (.cells #[.int .i64 a,.int .i64 b,.int .i64 c,.int .i64 d,.int .i64 k,.int .i64 n,.string s] 63 (0,0))):W.cell? ⟨g,0,none⟩=some (.int .i64 a)∧W.cell? ⟨g,1,none⟩=some (.int .i64 b)∧W.cell? ⟨g,2,none⟩=some (.int .i64 c)∧W.cell? ⟨g,3,none⟩=some (.int .i64 d)∧W.cell? ⟨g,4,none⟩=some (.int .i64 k)∧W.cell? ⟨g,5,none⟩=some (.int .i64 n)∧W.cell? ⟨g,6,none⟩=some (.string s):=by
 refine⟨?_,?_,?_,?_,?_,?_,?_⟩
 all_goals simp[World.cell?,h]
end
section
open Go.RowKit
theorem dictLen (xs:List V)(hn:xs.length≤64)(hg:∀ v∈xs,good v.k v.s):(dictEnc xs).length≤6000:=by
 have h1:=uniq_le xs []
 have h2:=encAll_le (uniq [] xs) fun v hv=>by
  rcases uniq_mem xs [] v hv with h|h
  ·simp at h
  exact hg v h
 unfold dictEnc
 rw[List.length_append,List.length_cons,packBits_length,bitsOf_length,List.length_map]
 simp at h1
 omega
theorem packedLen (t:Int)(xs:List V)(hn:xs.length≤64):(packedEnc t xs).length≤6000:=by
 unfold packedEnc
 split
 ·rw[packBits_length,bitsOf_length];simp[difs];omega
 cases xs with
 |nil=>simp[packedInt]
 |cons v l=>
  unfold packedInt
  have hlt0:=difs_lt (v::l) (leastFrom v.n (v::l))
  have hds:difs (v::l) (leastFrom v.n (v::l))=dif v.n (leastFrom v.n (v::l))::difs l (leastFrom v.n (v::l)):=rfl
  rw[hds]at hlt0
  have hmx:=maxOf_lt 18446744073709551616 (difs l (leastFrom v.n (v::l))) (dif v.n (leastFrom v.n (v::l))) (hlt0 _ List.mem_cons_self) fun n hn=>hlt0 n (List.mem_cons_of_mem _ hn)
  have h64:=bitLen_le64 _ hmx
  rw[List.length_append,List.length_append,le8_length,packBits_length,bitsOf_length]
  have hdl:(difs (v::l) (leastFrom v.n (v::l))).length=(v::l).length:=by simp[difs]
  rw[hdl]
  have:bitLen (maxOf (dif v.n (leastFrom v.n (v::l))) (difs l (leastFrom v.n (v::l))))*(v::l).length≤64*64:=Nat.mul_le_mul h64 hn
  simp only[List.length_cons,List.length_nil]at *
  omega
theorem bodyLen (t how:Int)(xs:List V)(hn:xs.length≤64)(hg:∀ v∈xs,good v.k v.s):(bodyEnc t how xs).length≤6000:=by
 unfold bodyEnc
 split
 ·have:=encAll_le xs hg;omega
 split
 ·exact dictLen xs hn hg
 split
 ·have:=runsEnc_le _ xs (Nat.le_refl _) hg;omega
 exact packedLen t xs hn
theorem segLen (t how:Int)(xs:List V)(h:okAll t xs):(segEnc t how xs).length≤6100∧segEnc t how xs≠[]:=by
 have h1:=bodyLen t how (heldOf xs) (Nat.le_trans (heldOf_le xs) h.1) (good_held t xs h)
 have h2:=h.1
 refine⟨?_,by simp[segEnc,headEnc]⟩
 unfold segEnc headEnc
 rw[List.length_append,List.length_append,packBits_length,List.length_map]
 simp only[List.length_cons,List.length_nil]
 omega
theorem colTextLen {rows:List (List V)}{ts hs:List Int}{c:Nat}(h:(colText rows ts hs c).2=0):(colText rows ts hs c).1.length≤6100∧(colText rows ts hs c).1≠[]:=by
 unfold colText pOut at h ⊢
 split at h
 ·rename_i hw
  rw[if_pos hw]
  split at h
  ·simp at h
  rename_i hd
  rw[if_neg hd]
  simp only[Bool.and_eq_true]at hw
  refine segLen _ _ _ ?_
  have h2:=hw.2
  unfold okAllB at h2
  simp only[Bool.and_eq_true,decide_eq_true_iff,List.all_eq_true]at h2
  exact⟨h2.1,fun j hj=>h2.2 _ (List.getElem_mem hj)⟩
 simp at h
theorem packKLen (rows:List (List V))(ts hs:List Int):∀ (k:Nat) (l:List (List UInt8)),packK rows ts hs k=.inl l→∀ t∈l,t.length≤6100∧t≠[]
 |0,l,h=>by simp[packK]at h;subst h;simp
 |k+1,l,h=>by
  simp only[packK]at h
  split at h
  ·simp at h
  rename_i l' hl'
  split at h
  ·rename_i hc
   simp at h
   subst h
   intro t ht
   rcases List.mem_append.1 ht with ht|ht
   ·exact packKLen rows ts hs k l' hl' t ht
   simp at ht
   subst ht
   exact colTextLen hc
  simp at h
theorem packFLen (rs:List (List V))(ts hs:List Int)(xs:List (Nat×Nat))(T:List (List UInt8))(h:packF rs ts hs xs=.inl T):T.length=xs.length*ts.length∧∀ t∈T,t.length≤6100∧t≠[]:=by
 have key:∀ (xs:List (Nat×Nat)) (T0 T:List (List UInt8)),xs.foldl (packS rs ts hs) (.inl T0)=.inl T→(∀ t∈T0,t.length≤6100∧t≠[])→T.length=T0.length+xs.length*ts.length∧∀ t∈T,t.length≤6100∧t≠[]:=by
  intro xs
  induction xs with
  |nil=>intro T0 T h h0;simp at h;subst h;exact⟨by simp,h0⟩
  |cons x xs ih=>
   intro T0 T h h0
   rw[List.foldl_cons]at h
   simp only[packS]at h
   split at h
   ·rename_i l hl
    have:=ih (T0++l) T h (fun t ht=>by
     rcases List.mem_append.1 ht with ht|ht
     ·exact h0 t ht
     exact packKLen _ ts hs _ l hl t ht)
    refine⟨?_,this.2⟩
    rw[this.1,List.length_append,packK_len _ ts hs _ l hl,List.length_cons,Nat.succ_mul]
    omega
   rename_i c hc
   have hb:∀ ys:List (Nat×Nat),ys.foldl (packS rs ts hs) (.inr c)=.inr c:=by
    intro ys
    induction ys with
    |nil=>rfl
    |cons y ys ih=>exact ih
   rw[hb]at h
   simp at h
 have:=key xs [] T h (by simp)
 simpa using this
theorem totalP_le:∀ (ts:List (List UInt8)),(∀ t∈ts,t.length≤6100)→totalP ts≤110*ts.length
 |[],_=>by simp[totalP]
 |t::ts,h=>by
  have h1:=pieces_count t
  have h2:=h t (by simp)
  have h3:=totalP_le ts fun t ht=>h t (by simp[ht])
  rw[totalP_cons,List.length_cons]
  omega
end
section
open Go.RowKit
theorem ints_of_own {w:World}{B:Nat}{sv:Value}{ns:List Int}(h:OwnC w B 3 sv (ns.map iv))(hne:ns≠[]):∃ g c,sv=.slice (some ⟨g,0,none⟩) ns.length c∧B≤g∧g<w.heap.size∧Ints w (some ⟨g,0,none⟩) ns:=by
 obtain⟨a,c,hsv,hc⟩:=h.cells
 rw[List.length_map]at hsv
 subst hsv
 rcases h.2 with⟨hv,h0⟩|⟨g,cap,cur,hv,hB,hg,_⟩
 ·simp at h0
  exact absurd h0 hne
 simp at hv
 obtain⟨rfl,rfl⟩:=hv
 exact⟨g,c,rfl,hB,lt_of_heap hg,hc⟩
theorem cloneInts_any (b o cap:Nat)(ns:List Int)(w:World)(hne:ns≠[])(hl:ns.length≤1000)(h:Ints w (some ⟨b,o,none⟩) ns) :
  Calls Tryz.prog 36 #[.slice (some ⟨b,o,none⟩) ns.length cap] w fun e w'=>Below w.heap.size w w'∧∃ g c,e=.returned (.slice (some ⟨g,0,none⟩) ns.length c)∧w.heap.size≤g∧g<w'.heap.size∧Ints w' (some ⟨g,0,none⟩) ns:=by
 have hb0:Below w.heap.size w (w.alloc (.cells #[] 3)):=(Below.refl _ w).alloc (Nat.le_refl _) _
 have HI:Hid (∀ (j:Nat) (u:Value),(ns.map iv)[j]?=some u→(w.alloc (.cells #[] 3)).cell? ((⟨b,o,none⟩:Addr).add j)=some u):=fun j u hu=>by
  rcases h.below hb0 with h0|⟨b',o',hbo,_,hc⟩
  ·simp at h0;exact absurd h0 hne
  simp at hbo
  obtain⟨rfl,rfl⟩:=hbo
  rw[Addr.add_lit]
  exact hc j u hu
 have HO:Hid (OwnC (w.alloc (.cells #[] 3)) w.heap.size 3 (.slice (some ⟨w.heap.size,0,none⟩) 0 0) []):=
  ⟨rfl,.inr ⟨w.heap.size,0,#[],rfl,Nat.le_refl _,heap_alloc_new _ _,Nat.le_refl _,Nat.zero_le _,rfl,rfl⟩⟩
 have HN:Hid (ns≠[]):=hne
 have hnil:∀ W:World,(binOp .eql 29 (.slice (some ⟨b,o,none⟩) ns.length cap) (.slice none 0 0)).run Tryz.prog W=.ok (.bool false) W:=fun W=>Lib.run_eql_slice_some_nil W _ _ _ Tryz.underlying29
 clear hne h
 go_enter Tryz.func36,Tryz.ntmps36
 go_wp2_with (at_builtin;go_must (refine wpList_append_D (by rfl) _ _ 29 3 _ 8 info_int (by rfl) (by decide) (by kernel_rfl) (by rfl) w.heap.size _ [] (by rfl) (by exact HO.out) ⟨b,o,none⟩ cap (ns.map iv) (by simp[Act.eval]) (by exact HI.out) (by intro u hu;obtain⟨x,_,rfl⟩:=List.mem_map.1 hu;rfl) (by simp;omega) (by simp) ?_);intro sv' w3 h1' h2' h3')
 have hB:Below w.heap.size w w3:=below_grown (sv:=.slice (some ⟨w.heap.size,0,none⟩) 0 0) hb0 h2' (fun g hg=>by simp[Value.ownBlock]at hg;omega)
 rw[List.nil_append]at h1'
 obtain⟨g,c,rfl,hg1,hg2,hI⟩:=ints_of_own h1' HN.out
 go_ret
 exact⟨hB,g,c,rfl,hg1,hg2,hI⟩
end
end Go.Proofs.YtkgibdjakgmmcaaGreatDoor
