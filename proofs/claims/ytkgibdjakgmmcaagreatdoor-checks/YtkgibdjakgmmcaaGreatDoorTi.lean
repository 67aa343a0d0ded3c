/- The text that lies on pages: read, or the first page that is spoilt. -/
import Derived.Test.YtkgibdjakgmmcaaGreatDoorDg
import Derived.Test.YtkgibdjakgmmcaaGreatDoorRh
import Derived.Test.YtkgibdjakgmmcaaGreatDoorKk
import Derived.RangeFuncBox
import Derived.Maps.OwnIn
import Derived.Maps.AppendAt
set_option maxHeartbeats 1000000
set_option maxRecDepth 100000
namespace Go.Proofs.YtkgibdjakgmmcaaGreatDoor
section
open Go.RowKit
theorem getD_inUse {l:List (Option (List UInt8))}{i:Nat}(h:inUseB l (i:Int)=false):l.getD i none=none:=by
 cases hq:l.getD i none with
 |none=>rfl
 |some p=>
  rw[List.getD_eq_getElem?_getD]at hq
  have:l[i]?=some (some p):=by
   cases hh:l[i]? with
   |none=>rw[hh]at hq;simp at hq
   |some x=>rw[hh]at hq;simp at hq;rw[hq]
  rw[inUseB_some this]at h
  simp at h
def colOf (rs:List (List V))(c:Nat):List V:=rs.map fun r=>r.getD c zeroV
theorem colOf_take (rs:List (List V))(c k:Nat)(hk:k<rs.length):colOf (rs.take (k+1)) c=colOf (rs.take k) c++[rs[k].getD c zeroV]:=by
 unfold colOf
 rw[List.take_succ_eq_append_getElem hk,List.map_append]
 rfl
theorem column_any (a:Option Addr)(cap:Nat)(hs:List (Option Addr×Nat))(rs:List (List V))(c:Nat)(w:World)(hn:rs.length≤1000)(hx:RowsAt w a hs rs)(hc:∀ r∈rs,c<r.length)(hrr:∀ r∈rs,r.length≤1000) :
  Calls Tryz.prog 95 #[.slice a rs.length cap,.int .i64 (c:Int)] w fun e w'=>∃ v,e=.returned v∧ValsAt w w' (colOf rs c) v∧Below w.heap.size w w':=by
 obtain⟨C,hmk,hrow0⟩:=make_V rs.length hn w
 have HC:Hid (∀ r∈rs,c<r.length):=hc
 have HR:Hid (∀ r∈rs,r.length≤1000):=hrr
 clear hc hrr
 go_enter Tryz.func95,Tryz.ntmps95
 go_wp2
 clear hmk
 go_loopw [13] (fun i wr=>∃ k:Nat,k≤rs.length∧i=.int .i64 k∧RowT wr w.heap.size (colOf (rs.take k) c++List.replicate (rs.length-k) zeroV) []∧Below w.heap.size w wr) (fun i _=>rs.length-(intOf i).toNat)
 case atStart=>exact⟨0,by omega,rfl,by simpa [colOf] using hrow0,(Below.refl _ _).alloc (Nat.le_refl _) _⟩
 case round=>
  obtain⟨k,hk,rfl,hrow,hbw⟩:=hrel
  by_cases hlt:k<rs.length
  ·obtain⟨b,o,ra,rc,rfl,hb,cb,hv⟩:=(hx.below hbw).at hlt
   have hcl:=HC.out _ (List.getElem_mem hlt)
   have hrl:=HR.out _ (List.getElem_mem hlt)
   obtain⟨b2,o2,rfl,hb2,x1,x2,x3⟩:=hv.at hcl
   have hlk:(colOf (rs.take k) c).length=k:=by simp[colOf];omega
   have hlen:(colOf (rs.take k) c++List.replicate (rs.length-k) zeroV).length=rs.length:=by rw[List.length_append,hlk,List.length_replicate];omega
   obtain⟨old,⟨c0,d0⟩,⟨c1,d1⟩,⟨c2,d2⟩,hset⟩:=hrow.put rs[k][c] k (by rw[hlen];exact hlt)
   rw[set_at _ k rs.length _ hlk hlt]at hset
   have HSET:Hid (RowT (((wr.setCell ⟨w.heap.size,k*3,none⟩ (.int .i64 rs[k][c].k)).setCell ⟨w.heap.size,k*3+1,none⟩ (.int .i64 rs[k][c].n)).setCell ⟨w.heap.size,k*3+2,none⟩ (.string rs[k][c].s)) w.heap.size (colOf (rs.take (k+1)) c++List.replicate (rs.length-(k+1)) zeroV) []):=by
    rw[colOf_take rs c k hlt]
    have:rs[k].getD c zeroV=rs[k][c]:=by simp[hcl]
    rw[this]
    exact hset
   clear hset hlk hlen
   go_wp2
   go_roundw
   case rel=>exact⟨k+1,by omega,by go_num,HSET.out,((hbw.setCell (p:=⟨w.heap.size,k*3,none⟩) (Nat.le_refl _) _).setCell (p:=⟨w.heap.size,k*3+1,none⟩) (Nat.le_refl _) _).setCell (p:=⟨w.heap.size,k*3+2,none⟩) (Nat.le_refl _) _⟩
   case measure=>simp[intOf];omega
  obtain rfl:k=rs.length:=by omega
  go_wp2
  go_ret
  refine⟨_,rfl,⟨w.heap.size,?_,Nat.le_refl _,by simpa using hrow⟩,hbw⟩
  simp[colOf]
end
section
open Go.RowKit Go.Shelf
attribute [local go_sem] Oper.semAt_some
theorem keeps_below {W W':World}(h:Below W.heap.size W W'):KeepsOthers W W':=⟨h.size,fun k _ hk _=>(h.block k (Array.getElem?_eq_some_iff.1 hk).1).trans hk⟩
theorem chunk_any (a:Option Addr)(len cap g:Nat)(hg:1≤g)(w:World) :
  Calls Tryz.prog 93 #[.slice a len cap,.int .i64 (g:Int)] w fun e w'=>e=.returned (.func (.func 114) #[] #[.pointer (some ⟨w.heap.size,0,none⟩),.pointer (some ⟨w.heap.size+1,0,none⟩)])∧w'=(w.alloc (.cells #[.slice a len cap] 38)).alloc (.cells #[.int .i64 (g:Int)] 3):=by
 have hmf:∀ (fn:Fn) (first cap:Array Value) (w:World),(Instr.makeFunc fn first cap).run Tryz.prog w=.ok (.func fn first cap) w:=fun _ _ _ _=>rfl
 go_enter Tryz.func93,Tryz.ntmps93
 go_wp2
 go_ret
 exact⟨rfl,rfl⟩
theorem chunk1_nil (n:Nat)(l Bs Bn:Nat)(a:Option Addr)(cap:Nat)(J:World→Prop)(W:World)(hBs:W.cell? ⟨Bs,0,none⟩=some (.slice a 0 cap))(h0:J W) :
  CallsIn Fence.wide n Tryz.prog 114 #[.func (.yield l) #[] #[],.pointer (some ⟨Bs,0,none⟩),.pointer (some ⟨Bn,0,none⟩)] W fun e W'=>(∃ v,e=.returned v)∧J W':=by
 refine callsIn_of_wp Tryz.func114 rfl trivial ?_ rfl
 simp only[Tryz.ntmps114,List.size_toArray,List.length_cons,List.length_nil,Nat.reduceAdd,Nat.reduceSub,Array.replicate_succ,Array.replicate_zero,List.push_toArray,List.append_toArray,List.nil_append,List.cons_append]
 gi_wp2
 gi_loopw [4] (fun i wr=>i=.int .i64 0∧J wr∧wr.cell? ⟨Bs,0,none⟩=some (.slice a 0 cap)) (fun _ _=>0)
 case atStart=>exact⟨rfl,h0,hBs⟩
 case round=>
  obtain⟨rfl,hJ,hc⟩:=hrel
  gi_wp2
  go_end0
  exact⟨⟨_,rfl⟩,hJ⟩
def ckV (a:Option Addr)(x:Nat×Nat):Value:=match a with
 |some p=>.slice (some ⟨p.block,p.off+x.1,none⟩) x.2 x.2
 |none=>.slice none 0 0
theorem chunk_stops (n:Nat)(hn:1≤n)(Bs Bn:Nat)(a:Option Addr)(len cap g:Nat)(hg:1≤g)(hg2:g≤64)(hlen:len≤1000)(hcap:len≤cap)(hva:len=0∨∃ b o,a=some ⟨b,o,none⟩)(w:World)(hlBs:Bs<w.heap.size)(hlBn:Bn<w.heap.size)
  (hBs:w.cell? ⟨Bs,0,none⟩=some (.slice a len cap)) (hBn:w.cell? ⟨Bn,0,none⟩=some (.int .i64 (g:Int))) :
  SeqStopsK Fence.wide n Tryz.prog 114 #[.pointer (some ⟨Bs,0,none⟩),.pointer (some ⟨Bn,0,none⟩)] (fun x:Ck len=>#[ckV a x.1]) (KpC Bs Bn) (fun ys=>ys.map Subtype.val=cks len g (ckN len g)) (fun pre=>∃ k,k≤ckN len g∧pre.map Subtype.val=cks len g k) (ckN len g) w:=fun l J Jx W hW hJ _ hY h0=>by
 have hBs':=(hW.cell (p:=⟨Bs,0,none⟩) hlBs).trans hBs
 have hBn':=(hW.cell (p:=⟨Bn,0,none⟩) hlBn).trans hBn
 have hJd:∀ s W,J s W→J s W.drew:=fun s W' h=>hJ s W' W'.drew none h ⟨rfl,rfl,rfl,Nat.le_refl _,fun _ _ _=>rfl⟩ (fun r e=>by cases e)
 rcases hva with h|⟨b,o,rfl⟩
 ·subst h
  refine(chunk1_nil n l Bs Bn a cap (J []) W hBs' h0).mono fun e W' ⟨he,hj⟩=>⟨he,.inl ⟨[],?_,hj⟩⟩
  have:ckN 0 g=0:=by unfold ckN;exact Nat.div_eq_of_lt (by omega)
  rw[this];rfl
 exact chunk1_in n hn l Bs Bn b o len cap g hg hg2 hlen hcap J Jx hY hJd W hBs' hBn' h0
def colText (rows:List (List V))(ts hs:List Int)(c:Nat):List UInt8×Int:=pOut (ts.getD c 0) (hs.getD c 0) (colOf rows c)
def packK (rows:List (List V))(ts hs:List Int):Nat→List (List UInt8)⊕Nat
 |0=>.inl []
 |k+1=>match packK rows ts hs k with
  |.inr c=>.inr c
  |.inl l=>if (colText rows ts hs k).2=0 then .inl (l++[(colText rows ts hs k).1])else .inr k
theorem packK_len (rows:List (List V))(ts hs:List Int):∀ (k:Nat) (l:List (List UInt8)),packK rows ts hs k=.inl l→l.length=k
 |0,l,h=>by simp[packK]at h;subst h;rfl
 |k+1,l,h=>by
  simp only[packK]at h
  split at h
  ·simp at h
  rename_i l' hl'
  split at h
  ·simp at h
   subst h
   simp[packK_len rows ts hs k l' hl']
  simp at h
theorem packK_bad (rows:List (List V))(ts hs:List Int)(c:Nat):∀ (k m:Nat),packK rows ts hs k=.inr c→k≤m→packK rows ts hs m=.inr c:=by
 intro k m h hm
 induction m with
 |zero=>
      have:k=0:=by omega
      subst this;exact h
 |succ m ih=>
  by_cases e:k=m+1
  ·subst e;exact h
  simp only[packK,ih (by omega)]
def rowsOf (rs:List (List V))(x:Nat×Nat):List (List V):=(rs.drop x.1).take x.2
def packS (rs:List (List V))(ts hs:List Int)(acc:List (List UInt8)⊕Nat)(x:Nat×Nat):List (List UInt8)⊕Nat:=
 match acc with
 |.inr c=>.inr c
 |.inl T=>match packK (rowsOf rs x) ts hs ts.length with
  |.inl l=>.inl (T++l)
  |.inr c=>.inr c
def packF (rs:List (List V))(ts hs:List Int)(xs:List (Nat×Nat)):List (List UInt8)⊕Nat:=xs.foldl (packS rs ts hs) (.inl [])
theorem packF_snoc (rs:List (List V))(ts hs:List Int)(xs:List (Nat×Nat))(x:Nat×Nat):packF rs ts hs (xs++[x])=packS rs ts hs (packF rs ts hs xs) x:=by simp[packF]
theorem packF_bad (rs:List (List V))(ts hs:List Int)(xs ys:List (Nat×Nat))(c:Nat)(h:packF rs ts hs xs=.inr c):packF rs ts hs (xs++ys)=.inr c:=by
 have key:∀ ys:List (Nat×Nat),ys.foldl (packS rs ts hs) (.inr c)=.inr c:=by
  intro ys
  induction ys with
  |nil=>rfl
  |cons y ys ih=>exact ih
 unfold packF at h ⊢
 rw[List.foldl_append,h,key]
theorem cks_prefix (len g k m:Nat)(h:k≤m):∃ ys,cks len g m=cks len g k++ys:=by
 obtain⟨d,rfl⟩:=Nat.exists_eq_add_of_le h
 exact⟨(List.range d).map (fun i=>ckAt len g (k+i)),by simp[cks,List.range_add]⟩
theorem RowsAt.piece {w:World}{a:Option Addr}{hs:List (Option Addr×Nat)}{rs:List (List V)}(h:RowsAt w a hs rs)(x:Ck rs.length):∃ a' hs',ckV a x.1=.slice a' (rowsOf rs x.1).length x.1.2∧RowsAt w a' hs' (rowsOf rs x.1):=by
 obtain⟨⟨o,m⟩,hx1,hx2,hx3⟩:=x
 simp only at hx1 hx2 hx3
 have hl:(rowsOf rs (o,m)).length=m:=by unfold rowsOf;simp;omega
 rcases h.cells with hc|⟨b,ob,rfl,hb,hc⟩
 ·have:=congrArg List.length hc
  simp[h.len]at this
  have:=List.length_eq_zero_iff.2 this
  omega
 refine⟨some ⟨b,ob+o,none⟩,(hs.drop o).take m,by simp[ckV,hl],⟨by simp[rowsOf,h.len],.inr ⟨b,ob+o,rfl,hb,fun i v hv=>?_⟩,fun i y r hy hr=>?_⟩⟩
 ·have hi:i<m:=by
   rcases Nat.lt_or_ge i m with h'|h'
   ·exact h'
   ·rw[List.getElem?_eq_none (by simp[rowsOf];omega)]at hv;simp at hv
  rw[Nat.add_assoc]
  refine hc (o+i) v ?_
  rw[List.getElem?_zipWith]at hv ⊢
  simp only[rowsOf,List.getElem?_take_of_lt hi,List.getElem?_drop]at hv
  exact hv
 have hi:i<m:=by
  rcases Nat.lt_or_ge i m with h'|h'
  ·exact h'
  ·rw[List.getElem?_eq_none (by simp[rowsOf];omega)]at hr;simp at hr
 simp only[rowsOf,List.getElem?_take_of_lt hi,List.getElem?_drop]at hy hr
 exact h.rows (o+i) y r hy hr
end
end Go.Proofs.YtkgibdjakgmmcaaGreatDoor
