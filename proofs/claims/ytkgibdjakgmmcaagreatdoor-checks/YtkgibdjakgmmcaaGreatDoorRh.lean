/- Rows in memory; what a table is, and in which ways it can be written: the program's own checks. -/
import Derived.Test.YtkgibdjakgmmcaaGreatDoorKa
import Derived.RangeFuncNested
import Derived.RangeFuncBound
import Derived.RangeFuncCalls
import Derived.RangeFuncLeaves
import Derived.Shelf.Abstract
import Derived.Shelf.RegionOpen
import Derived.WalkKit
import Derived.OwnWalkIn
import Derived.TacticsInMore
import Derived.LoopNIn
import Derived.LoopIn
import Derived.Deep.RegionLaw
import Derived.Deep.AppendLies
import Derived.Deep.DrawnRows
import Derived.Deep.DeepMust
import Derived.Lib.AppendStr
import Derived.Deep.MidRow
import Derived.Test.YtkgibdjakgmmcaaGreatDoorEr
import Derived.Deep.LoopGhost
import Derived.Deep.RegionHeld3
import Derived.Deep.RegionWith
import Derived.Lib.BufferWrite
import Derived.Lib.LazyBuf
import Derived.Deep.DeepCutAuto
import Derived.Lib.Builder
import Derived.Lib.UnsafeStr
import Derived.OrdersIn
import Derived.RangeFuncBox
set_option maxHeartbeats 2000000
set_option maxRecDepth 100000
namespace Go.Proofs.YtkgibdjakgmmcaaGreatDoor
section
open Go.RowKit
def iv (n:Int):Value:=.int .i64 n
abbrev Ints (w:World)(a:Option Addr)(ns:List Int):Prop:=Cells w a (ns.map iv)
theorem Ints.at {w:World}{a:Option Addr}{ns:List Int}(h:Ints w a ns){i:Nat}(hi:i<ns.length):∃ b o,a=some ⟨b,o,none⟩∧b<w.heap.size∧w.cell? ⟨b,o+i,none⟩=some (.int .i64 ns[i]):=by
 obtain⟨b,o,ha,hb,hc⟩:=Cells.at h (i:=i) (by simpa using hi)
 exact⟨b,o,ha,hb,by rw[hc];simp[iv]⟩
def rowV (h:Option Addr×Nat)(r:List V):Value:=.slice h.1 r.length h.2
structure RowsAt (w:World) (a:Option Addr) (hs:List (Option Addr×Nat)) (rs:List (List V)):Prop where
 len:hs.length=rs.length
 cells:Cells w a (List.zipWith rowV hs rs)
 rows:∀ (i:Nat) h r,hs[i]?=some h→rs[i]?=some r→Vals w h.1 r
theorem RowsAt.below {w w':World}{a:Option Addr}{hs:List (Option Addr×Nat)}{rs:List (List V)}(h:RowsAt w a hs rs)(hb:Below w.heap.size w w'):RowsAt w' a hs rs:=
 ⟨h.len,h.cells.below hb,fun i x r hx hr=>(h.rows i x r hx hr).below hb⟩
theorem RowsAt.at {w:World}{a:Option Addr}{hs:List (Option Addr×Nat)}{rs:List (List V)}(h:RowsAt w a hs rs){i:Nat}(hi:i<rs.length) :
  ∃ b o ra rc,a=some ⟨b,o,none⟩∧b<w.heap.size∧w.cell? ⟨b,o+i,none⟩=some (.slice ra rs[i].length rc)∧Vals w ra rs[i]:=by
 have hi2:i<hs.length:=by rw[h.len];exact hi
 obtain⟨b,o,ha,hb,hc⟩:=h.cells.at (i:=i) (by simp;omega)
 exact⟨b,o,hs[i].1,hs[i].2,ha,hb,by rw[hc];simp[rowV],h.rows i hs[i] rs[i] (by simp[hi2]) (by simp[hi])⟩
def typeOk (t:Int):Bool:=decide (1≤t∧t≤3)
theorem areTypes_any (a:Option Addr)(cap:Nat)(ts:List Int)(w:World)(hn:ts.length≤maxLen)(hx:Ints w a ts)(b:Bool)(hb:b=true↔(1≤ts.length∧ts.length≤6)∧∀ j (hj:j<ts.length),typeOk ts[j]=true) :
  Calls Tryz.prog 90 #[.slice a ts.length cap] w fun e w'=>e=.returned (.bool b)∧w'=w:=by
 unfold maxLen at hn
 have HB:Hid (b=true↔(1≤ts.length∧ts.length≤6)∧∀ j (hj:j<ts.length),typeOk ts[j]=true):=hb
 clear hb
 by_cases hl0:ts.length<1
 ·go_enter Tryz.func90,Tryz.ntmps90
  go_wp2
  go_ret
  refine⟨ret_bool ?_,rfl⟩
  cases b
  ·rfl
  have:=(HB.out.1 rfl).1;omega
 by_cases hl:6<ts.length
 ·go_enter Tryz.func90,Tryz.ntmps90
  go_wp2
  go_ret
  refine⟨ret_bool ?_,rfl⟩
  cases b
  ·rfl
  have:=(HB.out.1 rfl).1;omega
 go_enter Tryz.func90,Tryz.ntmps90
 go_wp2
 go_loop [15] (fun i=>∃ k:Nat,k≤ts.length∧i=.int .i64 k∧Hid (∀ j (hj:j<ts.length),j<k→typeOk ts[j]=true)) (fun i=>ts.length-(intOf i).toNat)
 case atStart=>exact⟨0,Nat.zero_le _,rfl,fun j _ hj=>absurd hj (Nat.not_lt_zero _)⟩
 case round=>
  obtain⟨k,hk,rfl,hall⟩:=hrel
  by_cases hlt:k<ts.length
  ·obtain⟨b1,o1,rfl,hb1,x1⟩:=hx.at hlt
   have hit:=isType_any ts[k] w
   cases ho:typeOk ts[k]
   ·have HO:Hid (typeOk ts[k]=false):=ho
    have hd:decide (1≤ts[k]∧ts[k]≤3)=false:=ho
    rw[hd]at hit
    clear ho hd
    go_wp2_with (go_at_call 112;refine hit.mono ?_;rintro e w' ⟨rfl,hw'⟩;subst w')
    go_ret
    refine⟨ret_bool ?_,rfl⟩
    cases b
    ·rfl
    have:=(HB.out.1 rfl).2 k hlt
    rw[HO.out]at this
    exact absurd this (by decide)
   have HO:Hid (typeOk ts[k]=true):=ho
   have hd:decide (1≤ts[k]∧ts[k]≤3)=true:=ho
   rw[hd]at hit
   clear ho hd
   go_wp2_with (go_at_call 112;refine hit.mono ?_;rintro e w' ⟨rfl,hw'⟩;subst w')
   go_round
   case rel=>
    refine⟨k+1,by omega,by go_num,fun j hj hjk=>?_⟩
    by_cases e:j=k
    ·subst e;exact HO.out
    exact hall.out j hj (by omega)
   case measure=>simp[intOf];omega
  go_wp2
  go_ret
  exact⟨ret_bool (HB.out.2 ⟨by omega,fun j hj=>hall.out j hj (by omega)⟩).symm,rfl⟩
theorem areWays_any (a a2:Option Addr)(cap cap2:Nat)(hs ts:List Int)(w:World)(hn:hs.length≤maxLen)(hx:Ints w a hs)(hy:Ints w a2 ts)(b:Bool)(hb:b=true↔hs.length=ts.length∧∀ j (hj:j<hs.length),way (ts.getD j 0) hs[j]=true) :
  Calls Tryz.prog 68 #[.slice a hs.length cap,.slice a2 ts.length cap2] w fun e w'=>e=.returned (.bool b)∧w'=w:=by
 unfold maxLen at hn
 have HB:Hid (b=true↔hs.length=ts.length∧∀ j (hj:j<hs.length),way (ts.getD j 0) hs[j]=true):=hb
 clear hb
 by_cases hl:hs.length=ts.length
 ·have HL:Hid (hs.length=ts.length):=hl
  have hl2:((hs.length:Int) != (ts.length:Int))=false:=by simp[hl]
  clear hl
  go_enter Tryz.func68,Tryz.ntmps68
  go_wp2
  go_loop [14] (fun i=>∃ k:Nat,k≤hs.length∧i=.int .i64 k∧Hid (∀ j (hj:j<hs.length),j<k→way (ts.getD j 0) hs[j]=true)) (fun i=>hs.length-(intOf i).toNat)
  case atStart=>exact⟨0,Nat.zero_le _,rfl,fun j _ hj=>absurd hj (Nat.not_lt_zero _)⟩
  case round=>
   obtain⟨k,hk,rfl,hall⟩:=hrel
   by_cases hlt:k<hs.length
   ·have hlt2:k<ts.length:=by have:=HL.out;omega
    obtain⟨b1,o1,rfl,hb1,x1⟩:=hx.at hlt
    obtain⟨b2,o2,rfl,hb2,y1⟩:=hy.at hlt2
    have hcb:=canBe_any ts[k] hs[k] w
    have HG:Hid (ts.getD k 0=ts[k]):=by show _=_;simp[hlt2]
    cases ho:way ts[k] hs[k]
    ·have HO:Hid (way ts[k] hs[k]=false):=ho
     rw[ho]at hcb
     clear ho
     go_wp2_with (go_at_call 92;refine hcb.mono ?_;rintro e w' ⟨rfl,hw'⟩;subst w')
     go_ret
     refine⟨ret_bool ?_,rfl⟩
     cases b
     ·rfl
     have:=(HB.out.1 rfl).2 k hlt
     rw[HG.out,HO.out]at this
     exact absurd this (by decide)
    have HO:Hid (way ts[k] hs[k]=true):=ho
    rw[ho]at hcb
    clear ho
    go_wp2_with (go_at_call 92;refine hcb.mono ?_;rintro e w' ⟨rfl,hw'⟩;subst w')
    go_round
    case rel=>
     refine⟨k+1,by omega,by go_num,fun j hj hjk=>?_⟩
     by_cases e:j=k
     ·subst e;rw[HG.out];exact HO.out
     exact hall.out j hj (by omega)
    case measure=>simp[intOf];omega
   go_wp2
   go_ret
   exact⟨ret_bool (HB.out.2 ⟨HL.out,fun j hj=>hall.out j hj (by omega)⟩).symm,rfl⟩
 have hl2:((hs.length:Int) != (ts.length:Int))=true:=by simp;omega
 go_enter Tryz.func68,Tryz.ntmps68
 go_wp2
 go_ret
 refine⟨ret_bool ?_,rfl⟩
 cases b
 ·rfl
 exact absurd (HB.out.1 rfl).1 hl
theorem isRow_any (a a2:Option Addr)(cap cap2:Nat)(vs:List V)(ts:List Int)(w:World)(hn:vs.length≤maxLen)(hx:Vals w a vs)(hy:Ints w a2 ts)(b:Bool)(hb:b=true↔vs.length=ts.length∧∀ j (hj:j<vs.length),okB (ts.getD j 0) vs[j].k vs[j].n vs[j].s=true) :
  Calls Tryz.prog 91 #[.slice a vs.length cap,.slice a2 ts.length cap2] w fun e w'=>e=.returned (.bool b)∧Below w.heap.size w w':=by
 unfold maxLen at hn
 have HB:Hid (b=true↔vs.length=ts.length∧∀ j (hj:j<vs.length),okB (ts.getD j 0) vs[j].k vs[j].n vs[j].s=true):=hb
 clear hb
 by_cases hl:vs.length=ts.length
 ·have HL:Hid (vs.length=ts.length):=hl
  have hl2:((vs.length:Int) != (ts.length:Int))=false:=by simp[hl]
  clear hl
  go_enter Tryz.func91,Tryz.ntmps91
  go_wp2
  go_loopw [14] (fun i wr=>∃ k:Nat,k≤vs.length∧i=.int .i64 k∧Below w.heap.size w wr∧Hid (∀ j (hj:j<vs.length),j<k→okB (ts.getD j 0) vs[j].k vs[j].n vs[j].s=true)) (fun i _=>vs.length-(intOf i).toNat)
  case atStart=>exact⟨0,Nat.zero_le _,rfl,Below.refl _ _,fun j _ hj=>absurd hj (Nat.not_lt_zero _)⟩
  case round=>
   obtain⟨k,hk,rfl,hbw,hall⟩:=hrel
   by_cases hlt:k<vs.length
   ·have hlt2:k<ts.length:=by have:=HL.out;omega
    obtain⟨b1,o1,rfl,hb1,x1,x2,x3⟩:=(hx.below hbw).at hlt
    obtain⟨b2,o2,rfl,hb2,y1⟩:=Ints.at (hy.below hbw) hlt2
    have HG:Hid (ts.getD k 0=ts[k]):=by show _=_;simp[hlt2]
    have hio:=fun (W:World)=>isOf_any vs[k].k vs[k].n vs[k].s ts[k] W
    cases ho:okB ts[k] vs[k].k vs[k].n vs[k].s
    ·have HO:Hid (okB ts[k] vs[k].k vs[k].n vs[k].s=false):=ho
     rw[ho]at hio
     have HI:Hid (∀ W:World,Calls Tryz.prog 113 #[.agg #[.int .i64 vs[k].k,.int .i64 vs[k].n,.string vs[k].s],.int .i64 ts[k]] W fun e w'=>e=.returned (.bool false)∧Below W.heap.size W w'):=hio
     clear hio
     clear ho
     go_wp2_with fail
     go_region_with (first|(go_at_call 113;refine(HI.out _).mono ?_;rintro e w' ⟨rfl,hb⟩))
     all_goals
      go_wp2
      go_ret
      refine⟨ret_bool ?_,below_then hbw (below_behind (below_undrew hb))⟩
      cases b
      ·rfl
      have:=(HB.out.1 rfl).2 k hlt
      rw[HG.out,HO.out]at this
      exact absurd this (by decide)
    have HO:Hid (okB ts[k] vs[k].k vs[k].n vs[k].s=true):=ho
    rw[ho]at hio
    have HI:Hid (∀ W:World,Calls Tryz.prog 113 #[.agg #[.int .i64 vs[k].k,.int .i64 vs[k].n,.string vs[k].s],.int .i64 ts[k]] W fun e w'=>e=.returned (.bool true)∧Below W.heap.size W w'):=hio
    clear hio ho
    go_wp2_with fail
    go_region_with (first|(go_at_call 113;refine(HI.out _).mono ?_;rintro e w' ⟨rfl,hb⟩))
    all_goals
     go_wp2
     go_roundw
     case rel=>
      refine⟨k+1,by omega,by go_num,below_then hbw (below_behind (below_undrew hb)),fun j hj hjk=>?_⟩
      by_cases e:j=k
      ·subst e;rw[HG.out];exact HO.out
      exact hall.out j hj (by omega)
     case measure=>simp[intOf];omega
   go_wp2
   go_ret
   exact⟨ret_bool (HB.out.2 ⟨HL.out,fun j hj=>hall.out j hj (by omega)⟩).symm,hbw⟩
 have hl2:((vs.length:Int) != (ts.length:Int))=true:=by simp;omega
 go_enter Tryz.func91,Tryz.ntmps91
 go_wp2
 go_ret
 refine⟨ret_bool ?_,Below.refl _ _⟩
 cases b
 ·rfl
 exact absurd (HB.out.1 rfl).1 hl
end
section
open Go.RowKit Go.Shelf
attribute [local go_sem] Oper.semAt_some
abbrev Ck (len:Nat):Type:={x:Nat×Nat // x.1+x.2≤len∧1≤x.2∧x.2≤64}
def ckAt (len g i:Nat):Nat×Nat:=(i*g,min g (len-i*g))
def cks (len g k:Nat):List (Nat×Nat):=(List.range k).map (ckAt len g)
def ckN (len g:Nat):Nat:=(len+g-1) / g
theorem cks_succ (len g k:Nat):cks len g (k+1)=cks len g k++[ckAt len g k]:=by simp[cks,List.range_succ]
theorem cks_length (len g k:Nat):(cks len g k).length=k:=by simp[cks]
theorem ckN_lt {len g k:Nat}(hg:1≤g)(h:k<ckN len g):k*g<len:=by
 unfold ckN at h
 have h1:k+1≤(len+g-1) / g:=h
 rw[Nat.le_div_iff_mul_le (by omega)]at h1
 rw[Nat.succ_mul]at h1
 omega
theorem ckN_ge {len g k:Nat}(hg:1≤g)(h:k*g<len):k<ckN len g:=by
 unfold ckN
 have:k+1≤(len+g-1) / g:=by
  rw[Nat.le_div_iff_mul_le (by omega),Nat.succ_mul]
  omega
 exact this
def KpC (Bs Bn:Nat)(W W':World):Prop:=W'.heap[Bs]?=W.heap[Bs]?∧W'.heap[Bn]?=W.heap[Bn]?
theorem chunk1_in (n:Nat)(hn:1≤n)(l Bs Bn b off len cap g:Nat)(hg:1≤g)(hg2:g≤64)(hlen:len≤1000)(hcap:len≤cap)(J Jx:List (Ck len)→World→Prop)
  (hY:∀ pre (x:Ck len) W,J pre W→pre.length<ckN len g→YieldAt Fence.wide (n-1) Tryz.prog l #[.slice (some ⟨b,off+x.1.1,none⟩) x.1.2 x.1.2] W fun e W'=>
   (e=.returned (.bool true)∧J (pre++[x]) W'∧KpC Bs Bn W W')∨(e=.returned (.bool false)∧Jx (pre++[x]) W'))
  (hJd:∀ s W,J s W→J s W.drew) (W:World) (hBs:W.cell? ⟨Bs,0,none⟩=some (.slice (some ⟨b,off,none⟩) len cap)) (hBn:W.cell? ⟨Bn,0,none⟩=some (.int .i64 (g:Int))) (h0:J [] W) :
  CallsIn Fence.wide n Tryz.prog 114 #[.func (.yield l) #[] #[],.pointer (some ⟨Bs,0,none⟩),.pointer (some ⟨Bn,0,none⟩)] W fun e W'=>(∃ v,e=.returned v) ∧
   ((∃ ys,ys.map Subtype.val=cks len g (ckN len g)∧J ys W')∨(∃ pre,(∃ k,k≤ckN len g∧pre.map Subtype.val=cks len g k)∧Jx pre W')):=by
 refine callsIn_of_wp Tryz.func114 rfl trivial ?_ rfl
 simp only[Tryz.ntmps114,List.size_toArray,List.length_cons,List.length_nil,Nat.reduceAdd,Nat.reduceSub,Array.replicate_succ,Array.replicate_zero,List.push_toArray,List.append_toArray,List.nil_append,List.cons_append]
 gi_wp2
 gi_loopw [4] (fun i wr=>∃ (k:Nat) (ys:List (Ck len)),k≤ckN len g∧i=.int .i64 ((k*g:Nat):Int)∧Hid (ys.map Subtype.val=cks len g k)∧J ys wr∧KpC Bs Bn W wr)
  (fun i _=>len+64-(intOf i).toNat)
 case atStart=>exact⟨0,[],Nat.zero_le _,by simp,rfl,h0,rfl,rfl⟩
 case round=>
  obtain⟨k,ys,hk,rfl,HY,hJs,hk1,hk2⟩:=hrel
  have c1:wr.cell? ⟨Bs,0,none⟩=some (.slice (some ⟨b,off,none⟩) len cap):=by rw[World.cell?_of_block (w:=W) hk1];exact hBs
  have c2:wr.cell? ⟨Bn,0,none⟩=some (.int .i64 (g:Int)):=by rw[World.cell?_of_block (w:=W) hk2];exact hBn
  by_cases hlt:k*g<len
  ·have hkn:=ckN_ge hg hlt
   have HS:Hid (cks len g (k+1)=cks len g k++[(k*g,min g (len-k*g))]):=cks_succ len g k
   have HM:Hid ((k+1)*g=k*g+g):=Nat.succ_mul k g
   have hylen:ys.length=k:=by have:=congrArg List.length HY.out;rw[List.length_map,cks_length]at this;exact this
   generalize k*g=i at *
   obtain⟨m,hm,HMM⟩:∃ m:Nat,(i+m≤len∧1≤m∧m≤64)∧Hid (m=min g (len-i)):=⟨min g (len-i),by omega,rfl⟩
   rw[←HMM.out]at HS
   have hmin:(if len-i<g then ((len-i:Nat):Int)else (g:Int))=(m:Int):=by have:=HMM.out;split<;>omega
   obtain⟨fn,tmps,assign,body,hy,hR⟩:=hY ys ⟨(i,m),hm⟩ wr.drew (hJd _ _ hJs) (by omega)
   dsimp only at hy
   clear hylen
   have hm':=hm
   obtain⟨hm1,hm2,hm3⟩:=hm
   gi_wp2
   gi_region
   gi_wp2
   refine hR.mono ?_
   rintro e W3 (⟨rfl,hJ3,hk3,hk4⟩|⟨rfl,hJx3⟩)
   ·have c3:W3.cell? ⟨Bn,0,none⟩=some (.int .i64 (g:Int)):=by rw[World.cell?_of_block (w:=wr.drew) hk4];exact c2
    gi_wp2
    go_roundw
    case rel=>exact⟨k+1,ys++[⟨(i,m),hm'⟩],hkn,by rw[HM.out];go_num,by show _=_;rw[List.map_append,HY.out,HS.out];rfl,hJ3,hk3.trans hk1,hk4.trans hk2⟩
    case measure=>simp[intOf];omega
   gi_wp2
   refine bodyPost_ret (results_none rfl _ _ _) rfl ?_
   exact⟨⟨_,rfl⟩,.inr ⟨_,⟨k+1,hkn,by rw[List.map_append,HY.out,HS.out];rfl⟩,hJx3⟩⟩
  have HKN:Hid (k=ckN len g):=by
   rcases Nat.lt_or_ge k (ckN len g)with h'|h'
   ·exact absurd (ckN_lt hg h') hlt
   ·show k=_;omega
  gi_wp2
  go_end0
  exact⟨⟨_,rfl⟩,.inl ⟨ys,by rw[HY.out,HKN.out],hJs⟩⟩
end
section
open Go.RowKit
theorem len_fin (n m x:Nat)(hx:x<256)(hm:m≤56)(h:bitLen n=m+bitLen x):wrap64 ((m:Int)+wrap64 ((bitLen (x % 256):Nat):Int))=((bitLen n:Nat):Int):=by
 rw[Nat.mod_eq_of_lt hx,h]
 have:=bitLen_le8 x hx
 generalize bitLen x=b at *
 unfold wrap64
 omega
theorem len_fin0 (n:Nat)(hx:n<256):wrap64 (wrap64 ((bitLen (n % 256):Nat):Int))=((bitLen n:Nat):Int):=by
 rw[Nat.mod_eq_of_lt hx]
 have:=bitLen_le8 n hx
 generalize bitLen n=b at *
 unfold wrap64
 omega
theorem bl8 (x:Nat)(h:256≤x):bitLen x=8+bitLen (x / 256):=bitLen_shift x 8 (by omega)
theorem bl16 (x:Nat)(h:65536≤x):bitLen x=16+bitLen (x / 65536):=bitLen_shift x 16 (by omega)
theorem bl32 (x:Nat)(h:4294967296≤x):bitLen x=32+bitLen (x / 4294967296):=bitLen_shift x 32 (by omega)
theorem len64_any (n:Nat)(w:World)(hn:n<18446744073709551616) :
  Calls Tryz.prog 151 #[.int .u64 n] w fun e w'=>e=.returned (.int .i64 (bitLen n:Nat))∧w'=w:=by
 have hn':Hid (n<18446744073709551616):=hn
 clear hn
 go_enter Tryz.func151,Tryz.ntmps151
 generalize hT:ByteArray.mk _=T
 have hsz:T.size=256:=by rw[←hT];decide +kernel
 have all:∀ j:Fin 256,(T[j.val]?).map UInt8.toNat=some (bitLen j.val):=by rw[←hT];decide +kernel
 have hget:∀ (i:Nat) (h:i<T.size),T[i].toNat=bitLen i:=by
  intro i h
  have:=all ⟨i,by rw[hsz]at h;exact h⟩
  simpa [h] using this
 clear hT all
 by_cases c1:4294967296≤n
 ·have h1:decide ((4294967296:Int)≤(n:Int))=true:=by simp;omega
  have b1:=bl32 n c1
  have C1:Hid (bitLen n=32+bitLen (n / 4294967296)):=b1
  clear b1
  by_cases c2:65536≤n / 4294967296
  ·have h2:decide ((65536:Int)≤(n:Int) / 4294967296)=true:=by simp;omega
   have C2:Hid (bitLen (n / 4294967296)=16+bitLen (n / 4294967296 / 65536)):=bl16 _ c2
   by_cases c3:256≤n / 4294967296 / 65536
   ·have h3:decide ((256:Int)≤(n:Int) / 4294967296 / 65536)=true:=by simp;omega
    have C3:Hid (bitLen (n / 4294967296 / 65536)=8+bitLen (n / 4294967296 / 65536 / 256)):=bl8 _ c3
    clear c1 c2 c3
    go_wp
    go_ret
    exact⟨ret_int (len_fin n 56 _ (by have:=hn'.out;omega) (by omega) (by rw[C1.out,C2.out,C3.out];omega)),rfl⟩
   have h3:decide ((256:Int)≤(n:Int) / 4294967296 / 65536)=false:=by simp;omega
   have C3:Hid (n / 4294967296 / 65536<256):=by show _<_;omega
   clear c1 c2 c3
   go_wp
   go_ret
   exact⟨ret_int (len_fin n 48 _ C3.out (by omega) (by rw[C1.out,C2.out];omega)),rfl⟩
  have h2:decide ((65536:Int)≤(n:Int) / 4294967296)=false:=by simp;omega
  by_cases c3:256≤n / 4294967296
  ·have h3:decide ((256:Int)≤(n:Int) / 4294967296)=true:=by simp;omega
   have C3:Hid (bitLen (n / 4294967296)=8+bitLen (n / 4294967296 / 256)):=bl8 _ c3
   have C4:Hid (n / 4294967296 / 256<256):=by show _<_;omega
   clear c1 c2 c3
   go_wp
   go_ret
   exact⟨ret_int (len_fin n 40 _ C4.out (by omega) (by rw[C1.out,C3.out];omega)),rfl⟩
  have h3:decide ((256:Int)≤(n:Int) / 4294967296)=false:=by simp;omega
  have C3:Hid (n / 4294967296<256):=by show _<_;omega
  clear c1 c2 c3
  go_wp
  go_ret
  exact⟨ret_int (len_fin n 32 _ C3.out (by omega) C1.out),rfl⟩
 have h1:decide ((4294967296:Int)≤(n:Int))=false:=by simp;omega
 by_cases c2:65536≤n
 ·have h2:decide ((65536:Int)≤(n:Int))=true:=by simp;omega
  have C2:Hid (bitLen n=16+bitLen (n / 65536)):=bl16 _ c2
  by_cases c3:256≤n / 65536
  ·have h3:decide ((256:Int)≤(n:Int) / 65536)=true:=by simp;omega
   have C3:Hid (bitLen (n / 65536)=8+bitLen (n / 65536 / 256)):=bl8 _ c3
   have C4:Hid (n / 65536 / 256<256):=by show _<_;omega
   clear c1 c2 c3
   go_wp
   go_ret
   exact⟨ret_int (len_fin n 24 _ C4.out (by omega) (by rw[C2.out,C3.out];omega)),rfl⟩
  have h3:decide ((256:Int)≤(n:Int) / 65536)=false:=by simp;omega
  have C3:Hid (n / 65536<256):=by show _<_;omega
  clear c1 c2 c3
  go_wp
  go_ret
  exact⟨ret_int (len_fin n 16 _ C3.out (by omega) C2.out),rfl⟩
 have h2:decide ((65536:Int)≤(n:Int))=false:=by simp;omega
 by_cases c3:256≤n
 ·have h3:decide ((256:Int)≤(n:Int))=true:=by simp;omega
  have C3:Hid (bitLen n=8+bitLen (n / 256)):=bl8 _ c3
  have C4:Hid (n / 256<256):=by show _<_;omega
  clear c1 c2 c3
  go_wp
  go_ret
  exact⟨ret_int (len_fin n 8 _ C4.out (by omega) C3.out),rfl⟩
 have h3:decide ((256:Int)≤(n:Int))=false:=by simp;omega
 have C3:Hid (n<256):=by show _<_;omega
 clear c1 c2 c3
 go_wp
 go_ret
 exact⟨ret_int (len_fin0 n C3.out),rfl⟩
end
section
open Go.RowKit
def WAt (w:World)(B g:Nat)(t:Int)(bs:List UInt8):Prop:=
 B≤g∧∃ sv,w.heap[g]?=some (.cells #[.int .i64 t,sv] 236 (0,0))∧OwnC w B 5 sv (bs.map bv)∧sv.ownBlock≠some g
def Apart (w:World)(g k:Nat):Prop:=k<w.heap.size∧k≠g∧∀ sv,w.cell? ⟨g,1,none⟩=some sv→sv.ownBlock≠some k
structure WKeep (w w':World) (g:Nat):Prop where
 os:w'.os=w.os
 tape:w'.tape=w.tape
 output:w'.output=w.output
 size:w.heap.size≤w'.heap.size
 block:∀ k,Apart w g k→w'.heap[k]?=w.heap[k]?∧Apart w' g k
theorem WKeep.refl (w:World)(g:Nat):WKeep w w g:=⟨rfl,rfl,rfl,Nat.le_refl _,fun _ h=>⟨rfl,h⟩⟩
theorem WKeep.trans {a b c:World}{g:Nat}(h:WKeep a b g)(k:WKeep b c g):WKeep a c g:=
 ⟨k.os.trans h.os,k.tape.trans h.tape,k.output.trans h.output,Nat.le_trans h.size k.size,fun i hi=>⟨((k.block i (h.block i hi).2).1).trans (h.block i hi).1,(k.block i (h.block i hi).2).2⟩⟩
theorem WKeep.of_below {w w':World}{g:Nat}(hb:Below w.heap.size w w')(hg:g<w.heap.size):WKeep w w' g:=
 ⟨hb.os,hb.tape,hb.output,hb.size,fun k hk=>⟨hb.block k hk.1,by have:=hb.size;have:=hk.1;omega,hk.2.1,fun sv hs=>hk.2.2 sv (by rw[←hs];exact(World.cell?_of_block (w:=w) (hb.block g hg)).symm)⟩⟩
theorem WAt.lt {w:World}{B g:Nat}{t:Int}{bs:List UInt8}(h:WAt w B g t bs):g<w.heap.size:=by
 obtain⟨_,sv,hg,_⟩:=h
 rcases Nat.lt_or_ge g w.heap.size with h'|h'
 ·exact h'
 simp[Array.getElem?_eq_none h']at hg
theorem WAt.below {w w':World}{B g:Nat}{t:Int}{bs:List UInt8}(h:WAt w B g t bs)(hb:Below w.heap.size w w'):WAt w' B g t bs:=by
 have hl:=h.lt
 obtain⟨hB,sv,hg,ho,hn⟩:=h
 exact⟨hB,sv,by rw[hb.block g hl];exact hg,ho.below hb,hn⟩
theorem WAt.cells {w:World}{B g:Nat}{t:Int}{bs:List UInt8}(h:WAt w B g t bs) :
  ∃ sv,w.cell? ⟨g,0,none⟩=some (.int .i64 t)∧w.cell? ⟨g,1,none⟩=some sv∧w.frozen? ⟨g,1,none⟩=false∧OwnC w B 5 sv (bs.map bv)∧sv.ownBlock≠some g:=by
 obtain⟨_,sv,hg,ho,hn⟩:=h
 exact⟨sv,by simp[World.cell?,hg],by simp[World.cell?,hg],by simp[World.frozen?,hg],ho,hn⟩
theorem WAt.apart {w:World}{B g:Nat}{t:Int}{bs:List UInt8}(h:WAt w B g t bs){k:Nat}(hk:k<B)(hl:k<w.heap.size):Apart w g k:=by
 obtain⟨sv,_,h1,_,ho,_⟩:=h.cells
 have hB:=h.1
 refine⟨hl,by omega,fun sv' hs e=>?_⟩
 rw[h1]at hs
 cases hs
 have:=(owns_block ho e).1
 omega
theorem WAt.step {w wa w1:World}{B g:Nat}{t:Int}{bs bs':List UInt8}{sv sv':Value}(h:WAt w B g t bs)(h1:w.cell? ⟨g,1,none⟩=some sv)(hb:Below w.heap.size w wa)
  (hg:wa.grownBy w1 sv.ownBlock) (ho':OwnC w1 B 5 sv' (bs'.map bv)) (hw:sv'.ownBlock=sv.ownBlock∨sv'.ownBlock=some wa.heap.size) :
  WAt (w1.setCell ⟨g,1,none⟩ sv') B g t bs'∧WKeep w (w1.setCell ⟨g,1,none⟩ sv') g:=by
 have hl:=h.lt
 obtain⟨hB,sv0,hgg,ho,hn⟩:=h
 have e0:sv0=sv:=by simpa [World.cell?,hgg] using h1
 subst e0
 have hsz:=hb.size
 have hga:wa.heap[g]?=some (.cells #[.int .i64 t,sv0] 236 (0,0)):=by rw[hb.block g hl];exact hgg
 have hg1:w1.heap[g]?=some (.cells #[.int .i64 t,sv0] 236 (0,0)):=by rw[hg.block g (by omega) (Ne.symm hn)];exact hga
 have hne:sv'.ownBlock≠some g:=by
  rcases hw with e|e
  ·rw[e];exact hn
  rw[e];intro e2;simp at e2;omega
 have hset:(w1.setCell ⟨g,1,none⟩ sv').heap[g]?=some (.cells #[.int .i64 t,sv'] 236 (0,0)):=by
  simp[World.setCell,Array.getElem?_modify,hg1]
 have hoth:∀ k,k≠g→(w1.setCell ⟨g,1,none⟩ sv').heap[k]?=w1.heap[k]?:=fun k hk=>Below.heap_setCell _ _ _ _ hk
 have hss:(w1.setCell ⟨g,1,none⟩ sv').heap.size=w1.heap.size:=by simp[World.setCell]
 have hg2:=hg.size
 refine⟨⟨hB,sv',hset,?_,hne⟩,⟨hg.os.trans hb.os,hg.tape.trans hb.tape,hg.output.trans hb.output,by omega,?_⟩⟩
 ·exact owns_of_block ho' fun k hk=>hoth k fun e=>hne (by rw[hk,e])
 intro k hk
 have hk0:=hk.2.2 sv0 h1
 have hk1:=hk.1
 refine⟨?_,by omega,hk.2.1,fun s hs=>?_⟩
 ·rw[hoth k hk.2.1,hg.block k (by omega) (Ne.symm hk0),hb.block k hk1]
 have:s=sv':=by
  have e:(w1.setCell ⟨g,1,none⟩ sv').cell? ⟨g,1,none⟩=some sv':=by simp[World.cell?,hset]
  rw[e]at hs;exact(Option.some.inj hs).symm
 subst this
 rcases hw with e|e
 ·rw[e];exact hk0
 rw[e];intro e2;simp at e2;omega
theorem vals_keep {w w':World}{g:Nat}{a:Option Addr}{vs:List V}(h:Vals w a vs)(hk:WKeep w w' g)(hap:∀ b o,a=some ⟨b,o,none⟩→Apart w g b):Vals w' a vs:=
 h.of_block hk.size fun b o hb _=>(hk.block b (hap b o hb)).1
theorem cells_keep {w w':World}{g:Nat}{a:Option Addr}{vs:List Value}(h:Cells w a vs)(hk:WKeep w w' g)(hap:∀ b o,a=some ⟨b,o,none⟩→Apart w g b):Cells w' a vs:=
 h.of_block hk.size fun b o hb _=>(hk.block b (hap b o hb)).1
theorem apart_keep {w w':World}{g:Nat}{a:Option Addr}(hk:WKeep w w' g)(hap:∀ b o,a=some ⟨b,o,none⟩→Apart w g b):∀ b o,a=some ⟨b,o,none⟩→Apart w' g b:=
 fun b o hb=>(hk.block b (hap b o hb)).2
theorem apart_new {w w':World}{B g:Nat}{t:Int}{bs:List UInt8}(h:WAt w B g t bs)(hb:Below w.heap.size w w'){k:Nat}(hk:w.heap.size≤k)(hk':k<w'.heap.size):Apart w' g k:=by
 have hl:=h.lt
 obtain⟨sv,_,h1,_,ho,_⟩:=h.cells
 refine⟨hk',by omega,fun s hs e=>?_⟩
 have:w'.cell? ⟨g,1,none⟩=some sv:=by rw[World.cell?_of_block (w:=w) (hb.block g hl)];exact h1
 rw[this]at hs
 cases hs
 have:=(owns_block ho e).2
 omega
theorem news_one (w:World)(v:Value)(e:TypeId):∀ (j:Nat) (u:Value),[v][j]?=some u→(w.alloc (.cells #[v] e)).cell? ((⟨w.heap.size,0,none⟩:Addr).add j)=some u:=by
 intro j u hj
 cases j with
 |zero=>simp at hj;subst hj;simp[Addr.add]
 |succ j=>simp at hj
theorem alloc_cell (w:World)(o:Obj)(b i:Nat)(h:b<w.heap.size):(w.alloc o).cell? ⟨b,i,none⟩=w.cell? ⟨b,i,none⟩:=
 World.cell?_of_block (Below.heap_alloc w o b h)
theorem alloc_frozen (w:World)(o:Obj)(b i:Nat)(h:b<w.heap.size):(w.alloc o).frozen? ⟨b,i,none⟩=w.frozen? ⟨b,i,none⟩:=
 World.frozen?_of_block (Below.heap_alloc w o b h)
theorem low_val (n:Int):Value.int .u8 (n % 256)=bv (low n):=by
 unfold bv low
 congr 1
 simp
 omega
end
section
open Go.RowKit
theorem wSmall_any (B g:Nat)(t n:Int)(bs:List UInt8)(w:World)(h:WAt w B g t bs)(hl:bs.length≤100000) :
  Calls Tryz.prog 134 #[.pointer (some ⟨g,0,none⟩),.int .i64 n] w fun e w'=>e=.returned (.tuple #[])∧WAt w' B g t (bs++[low n])∧WKeep w w' g:=by
 have hg:=h.lt
 have hB:=h.1
 obtain⟨sv,c0,c1,c2,ho,hn⟩:=h.cells
 have hlen:(bs.map bv).length≤100000:=by simpa using hl
 go_enter Tryz.func134,Tryz.ntmps134
 go_wp2_with (at_builtin;go_must (refine wpList_append_C (by rfl) _ _ 212 5 _ 1 info_u8 (by rfl) (by decide) (by kernel_rfl) (by rfl) B sv _ (by rfl) (ho.alloc _) ⟨w.heap.size,0,none⟩ 1 [.int .u8 (n % 256)] (by rfl) (by exact news_one _ _ _) (by intro u hu;simp at hu;subst hu;rfl) (by simp only[List.length_cons,List.length_nil];omega) (by simp;omega) ?_);intro sv' w1 h1 h2 h3;obtain⟨a2,cap2,rfl,_⟩:=h1.cells;have k1:=h2.cell_far ⟨g,1,none⟩ (by simp;omega) (Ne.symm hn);have k2:=h2.frozen_far ⟨g,1,none⟩ (by simp;omega) (Ne.symm hn))
 go_end0
 rw[low_val]at h1
 have:=h.step (bs':=bs++[low n]) c1 ((Below.refl _ _).alloc (Nat.le_refl _) _) h2 (by simpa using h1) h3
 simp only[List.length_append,List.length_map,List.length_cons,List.length_nil]at this
 exact⟨rfl,this⟩
theorem wNumber_any (B g:Nat)(t n:Int)(bs:List UInt8)(w:World)(h:WAt w B g t bs)(hl:bs.length≤100000) :
  Calls Tryz.prog 153 #[.pointer (some ⟨g,0,none⟩),.int .i64 n] w fun e w'=>e=.returned (.tuple #[])∧WAt w' B g t (bs++le8 (u64 n))∧WKeep w w' g:=by
 have hu:IntKind.u64.wrap n=(u64 n:Int):=by rw[IntKind.wrap_u64];unfold u64;omega
 have hul:=u64_lt n
 generalize u64 n=U at *
 go_enter Tryz.func153,Tryz.ntmps153
 go_wp2
 go_loopw [5] (fun i wr=>∃ k:Nat,k≤8∧i=.int .i64 k∧WAt wr B g t (bs++(List.range k).map fun i=>UInt8.ofNat (U / 256 ^ i % 256))∧WKeep w wr g) (fun i _=>8-(intOf i).toNat)
 case atStart=>exact⟨0,by omega,rfl,by simpa using h,WKeep.refl _ _⟩
 case round=>
  obtain⟨k,hk,rfl,hw,hkeep⟩:=hrel
  by_cases hlt:k<8
  ·have hg:=hw.lt
   have hB:=hw.1
   obtain⟨sv,c0,c1,c2,ho,hn⟩:=hw.cells
   generalize hbs:bs++((List.range k).map fun i=>UInt8.ofNat (U / 256 ^ i % 256))=bk at *
   have hlen:(bk.map bv).length≤100010:=by rw[←hbs];simp;omega
   have HBK:Hid _:=hbs
   clear hbs
   obtain⟨c,hc⟩:∃ c:Nat,c=8*k:=⟨_,rfl⟩
   have hw8:IntKind.i64.wrap (8*(k:Int))=(c:Int):=by rw[IntKind.wrap_i64];omega
   obtain⟨q,hq⟩:∃ q:Nat,q=U / 256 ^ k % 256:=⟨_,rfl⟩
   have hwr:IntKind.u8.wrap ((U:Int) / 2 ^ min c 64)=(q:Int):=by
    have e:min c 64=8*k:=by omega
    have e2:((2:Int) ^ (8*k))=((256 ^ k:Nat):Int):=by
     rw[Int.natCast_pow,Int.pow_mul];rfl
    rw[e,hq,e2,IntKind.wrap_u8]
    omega
   have HQ:Hid (Value.int .u8 (q:Int)=bv (UInt8.ofNat (U / 256 ^ k % 256))):=by
    show Value.int .u8 (q:Int)=_
    rw[hq];unfold bv;congr 1;simp
   clear hc hq
   obtain⟨i0,hi0,hz0,hz1,hz2⟩:=info_parts info_u8
   go_wp2_with fail
   go_region_law
    ((refine step_append_lies _ (by rfl) _ _ _ (by rfl) B 5 i0 _ 1 1 (by kernel_rfl) hi0 hz0 hz1 hz2 rfl (by omega) sv (bk.map bv).length (bk.map bv) (by rfl) ((World.ownsRow.drew (ho.alloc _)))
       ⟨wr.heap.size,0,none⟩ 1 1 [.int .u8 (q:Int)] (by rfl) (by rfl) (by exact news_one wr _ 5) (by intro u hu;simp at hu;subst hu;rfl)
       (by omega) (by unfold maxLen;omega) (by omega) (by simp;omega) (wr.heap.size+1) (by simp) ?_;intro gg cap w1 hown1 hgrow hat hlt2;have k1:w1.cell? ⟨g,1,none⟩=some sv:=(by rw[hgrow.cell_far _ (by simp;omega) (Ne.symm hn)];exact(alloc_cell wr _ g 1 hg).trans c1);have k2:w1.frozen? ⟨g,1,none⟩=false:=(by rw[hgrow.frozen_far _ (by simp;omega) (Ne.symm hn)];exact(alloc_frozen wr _ g 1 hg).trans c2)))
   all_goals
    go_wp2
    go_roundw
    case rel=>
     rw[HQ.out]at hown1
     have hst:=hw.step (bs':=bk++[UInt8.ofNat (U / 256 ^ k % 256)]) (sv':=.slice (some ⟨gg,0,none⟩) ((List.map bv bk).length+1) cap) c1 (((Below.refl _ _).alloc (Nat.le_refl _) _).drew) hgrow (by simpa [OwnC] using hown1)
      (by
        rcases hat with e|e
        ·exact .inl e.symm
        right;simp[Value.ownBlock,e])
     simp only[List.length_map]at hst
     refine⟨k+1,by omega,by go_num,?_,hkeep.trans hst.2⟩
     rw[List.range_succ,List.map_append,←List.append_assoc,HBK.out]
     exact hst.1
    case measure=>simp[intOf];omega
  have hk8:k=8:=by omega
  subst hk8
  go_wp2
  go_end0
  exact⟨rfl,hw,hkeep⟩
end
section
open Go.RowKit
theorem OwnC.form {w:World}{B:Nat}{e:TypeId}{sv:Value}{xs:List Value}(h:OwnC w B e sv xs):∃ a ln c,sv=.slice a ln c:=by
 obtain⟨a,c,hv,_⟩:=h.cells
 exact⟨a,_,c,hv⟩
theorem strCells_bv (s:ByteArray):Lib.strCells s=s.toList.map bv:=by
 rw[ByteArray.toList_eq];rfl
theorem run_append_str (w:World)(B:Nat)(ty:TypeId)(sv:Value)(bs:List UInt8)(hown:OwnC w B 5 sv (bs.map bv))(hne:bs≠[])(s:ByteArray)(hlen:bs.length+s.size≤1000000)(hB:B≤w.heap.size) :
  ∃ sv' w',(Builtin.append_ #[212,9] ty #[sv,.string s]).run Tryz.prog w=.ok sv' w'∧OwnC w' B 5 sv' ((bs++s.toList).map bv)∧w.grownBy w' sv.ownBlock∧(sv'.ownBlock=sv.ownBlock∨sv'.ownBlock=some w.heap.size):=by
 obtain⟨i,hi,hz,hs1,hby⟩:=info_parts info_u8
 have hl:(bs.map bv).length=bs.length:=by simp
 obtain⟨v',w',hr,h2,h3,_⟩:=Lib.run_append_own_string (P:=Tryz.prog) w B 212 9 ty 5 i (by kernel_rfl) (by kernel_rfl) hi hz hs1 hby sv _ _ hown s (by unfold maxLen;omega) (by omega) hB
 refine⟨v',w',hr,?_,h3,?_⟩
 ·unfold OwnC
  rw[List.map_append,←strCells_bv,List.length_append,Lib.strCells_length]
  exact h2
 rcases hown.2 with⟨_,h0⟩|⟨g,cap,cur,rfl,hbg,hg,hnc,hcm,hcs,htake⟩
 ·rw[hl]at h0;exact absurd (List.length_eq_zero_iff.1 h0) hne
 by_cases hroom:(bs.map bv).length+s.size≤cap
 ·have hr2:=Lib.run_append_room_string (P:=Tryz.prog) w 212 9 ty 5 i (by kernel_rfl) (by kernel_rfl) hi hs1 g (bs.map bv).length cap cur hg s hroom (by omega)
  rw[hr]at hr2
  injection hr2 with e1 _
  subst e1
  exact .inl rfl
 have hr2:=Lib.run_append_grow_string (P:=Tryz.prog) w 212 9 ty 5 i _ (by kernel_rfl) (by kernel_rfl) hi hz ⟨g,0,none⟩ (bs.map bv).length cap (bs.map bv) (by rw[hs1,Nat.mul_one]) (World.ownsRow.cells hown (g:=g) rfl) s (by omega) (by omega) (by rw[hby];exact growslice_fits (by omega) (by omega))
 rw[hr]at hr2
 injection hr2 with e1 _
 subst e1
 exact .inr rfl
theorem step_append_str {ops:Array Oper}{o:Oper}{a:Act}{w:World}{K:Act→World→Prop}{Q:Exit→Act→World→Prop}{E:Prop}(hgd:o.guard=none)(sl x:Operand)
  (ho:o.op=.call {callee:=.builtin .append,args:=#[sl,x],argTypes:=#[212,9]})
  (B:Nat) (sv:Value) (bs:List UInt8) (hs:a.eval sl=sv) (hown:OwnC w B 5 sv (bs.map bv)) (hne:bs≠[]) (s:ByteArray) (hx:a.eval x=.string s) (hlen:bs.length+s.size≤1000000) (hB:B≤w.heap.size)
  (h:∀ sv' w',OwnC w' B 5 sv' ((bs++s.toList).map bv)→w.grownBy w' sv.ownBlock→(sv'.ownBlock=sv.ownBlock∨sv'.ownBlock=some w.heap.size)→K (a.put o.dst sv') w') :
  if Region.wanted o (yielded ops a.tmps)=true then Oper.wp Tryz.prog o a w K Q else E:=by
 have hw:Region.wanted o (yielded ops a.tmps)=true:=by simp[Region.wanted,hgd]
 rw[if_pos hw]
 obtain⟨v',w',hr,h2,h3,h4⟩:=run_append_str w B o.type sv bs hown hne s hlen hB
 unfold Oper.wp execOp
 simp only[ho,resolve,invoke,builtin,Sem.run_bind,Sem.run_pure,Result.andThen_ok,List.map_toArray,List.map_cons,List.map_nil,hs,hx,hr]
 exact h v' w' h2 h3 h4
end
section
open Go.RowKit
theorem or_bit (Y n b A:Nat)(hY:Y<256)(hn:n<18446744073709551616) :
  bits BinOp.or IntKind.u8 (Y:Int) (bits BinOp.and IntKind.u64 ((n:Int) / 2 ^ b) 1 % 256*2 ^ (A % 8) % 256)=((Y ||| ((if n.testBit b then 1 else 0) <<< (A % 8)):Nat):Int):=by
 have e1:((n:Int) / 2 ^ b)=((n / 2 ^ b:Nat):Int):=by simp
 have hlt:n / 2 ^ b<18446744073709551616:=Nat.lt_of_le_of_lt (Nat.div_le_self _ _) hn
 have e2:bits BinOp.and IntKind.u64 ((n / 2 ^ b:Nat):Int) 1=((n / 2 ^ b % 2:Nat):Int):=by
  have:=u64_and_nat (n / 2 ^ b) 1 hlt (by decide)
  rw[Nat.and_one_is_mod]at this
  exact this
 have e3:n.testBit b=decide (n / 2 ^ b % 2=1):=Nat.testBit_eq_decide_div_mod_eq
 rw[e1,e2,e3]
 have hm:n / 2 ^ b % 2<2:=Nat.mod_lt _ (by decide)
 have hc:A % 8<8:=Nat.mod_lt _ (by decide)
 generalize n / 2 ^ b % 2=m at *
 generalize A % 8=c at *
 have key:∀ (m:Fin 2) (c:Fin 8),((m.val:Int) % (256:Int)*(2:Int) ^ c.val % (256:Int))=(((if decide (m.val=1)=true then 1 else 0) <<< c.val:Nat):Int)∧((if decide (m.val=1)=true then 1 else 0) <<< c.val:Nat)<256:=by decide
 have k:=key ⟨m,hm⟩ ⟨c,hc⟩
 simp only at k
 rw[k.1]
 exact u8_or_nat Y _ hY k.2
theorem wFields_any (B g:Nat)(t:Int)(bs:List UInt8)(width:Nat)(a:Option Addr)(cap:Nat)(ns:List Nat)(w:World)(h:WAt w B g t bs)(hl:bs.length≤50000)(hwd:width≤64)(hn:ns.length≤64)(hsm:∀ n∈ns,n<18446744073709551616)(hx:Cells w a (ns.map uv))(hap:∀ b o,a=some ⟨b,o,none⟩→Apart w g b) :
  Calls Tryz.prog 135 #[.pointer (some ⟨g,0,none⟩),.int .i64 width,.slice a ns.length cap] w fun e w'=>e=.returned (.tuple #[])∧WAt w' B g t (bs++packBits (bitsOf width ns))∧WKeep w w' g:=by
 have hprod:width*ns.length≤64*64:=Nat.mul_le_mul hwd hn
 obtain⟨W,hW⟩:∃ W:Nat,W=width*ns.length:=⟨_,rfl⟩
 have hWI:(width:Int)*(ns.length:Int)=(W:Int):=by rw[hW];simp
 obtain⟨nb,hnb⟩:∃ nb:Nat,nb=(W+7) / 8:=⟨_,rfl⟩
 have hnbI:((W:Int)+7) / 8=(nb:Int):=by omega
 have hLL:=bitsOf_length width ns
 generalize hL:bitsOf width ns=L at *
 have hmk:∀ W,(Instr.makeSlice 212 (.int .i64 (nb:Int)) (.int .i64 (nb:Int))).run Tryz.prog W=.ok (.slice (some ⟨W.heap.size,0,none⟩) nb nb) (W.alloc (.cells (madeCells #[.int .u8 0] nb) 5)):=
  fun W=>run_make_row' 212 5 (.int .u8 0) 1 (by kernel_rfl) info_u8 rfl .i64 .i64 nb (by omega) (by omega) W
 have HLL:Hid (L.length=W):=by show _=_;rw[hLL,hW]
 have HL:Hid (bitsOf width ns=L):=hL
 have HW:Hid (W=width*ns.length):=hW
 have HNB:Hid (nb=(W+7) / 8):=hnb
 have hWb:W≤4096:=by omega
 have hnb2:nb≤600:=by omega
 clear hL hLL hW hnb
 go_enter Tryz.func135,Tryz.ntmps135
 go_wp2_with (go_at_call 146;refine(bytesFor_any _ _ (by omega) (by omega)).mono ?_;rintro e w' ⟨rfl,hw'⟩;subst w')
 clear hmk hWI hnbI
 go_loopw [7,19] (fun at_ i wr=>∃ k:Nat,k≤ns.length∧i=.int .i64 k∧at_=.int .i64 ((width*k:Nat):Int)∧wr.rowIs w.heap.size 5 nb (fun j=>.int .u8 (byteAt (L.take (width*k)) j:Nat))∧Below w.heap.size w wr) (fun _ i _=>ns.length-(intOf i).toNat)
 case atStart=>
  refine⟨0,by omega,rfl,rfl,(World.rowIs_made _ _ _ _).congr fun j _=>?_,(Below.refl _ _).alloc (Nat.le_refl _) _⟩
  simp[byteAt_nil]
 case round=>
  obtain⟨k,hk,rfl,rfl,hrow,hbw⟩:=hrel
  by_cases hlt:k<ns.length
  ·obtain⟨b1,o1,rfl,hb1,x1⟩:=(hx.below hbw).at (i:=k) (by simpa using hlt)
   rw[List.getElem_map]at x1
   unfold uv at x1
   have HG:Hid (∀ b,b<width→L[width*k+b]?=some (ns[k].testBit b)):=by
    intro b hb
    rw[←HL.out];exact bitsOf_get width ns k b hlt hb
   have hnk:ns[k]<18446744073709551616:=hsm _ (List.getElem_mem hlt)
   have HNK:Hid (ns[k]<18446744073709551616):=hnk
   clear hnk
   generalize ns[k]=n at *
   have hkw:width*k+width≤W:=by
    rw[HW.out,←Nat.mul_succ];exact Nat.mul_le_mul_left _ hlt
   generalize hA0:width*k=A0 at *
   have HA0:Hid (width*k=A0):=hA0
   clear hA0
   go_wp2
   go_loopw [7,24] (fun at_ i wr2=>∃ b:Nat,b≤width∧i=.int .i64 b∧at_=.int .i64 ((A0+b:Nat):Int)∧wr2.rowIs w.heap.size 5 nb (fun j=>.int .u8 (byteAt (L.take (A0+b)) j:Nat))∧Below w.heap.size w wr2) (fun _ i _=>width-(intOf i).toNat)
   case atStart=>exact⟨0,by omega,rfl,rfl,hrow,hbw⟩
   case round=>
    clear hrow hbw x1 hb1
    obtain⟨b,hb,rfl,rfl,hrow,hbw⟩:=hrel
    by_cases hltb:b<width
    ·have hbit:=HG.out b hltb
     generalize hA:A0+b=A at *
     have hAW:A<W:=by omega
     have HA:Hid (A0+b=A):=hA
     clear hA
     have hq:A / 8<nb:=by rw[HNB.out];omega
     have c1:=hrow.cell hq
     have c2:=hrow.frozen (A / 8)
     have hbl:=byteAt_lt (L.take A) (A / 8)
     have htk:∀ j,byteAt (L.take (A+1)) j=if j=A / 8 then byteAt (L.take A) j ||| ((if n.testBit b then 1 else 0) <<< (A % 8))else byteAt (L.take A) j:=by
      intro j
      have hAL:A<L.length:=by rw[HLL.out];exact hAW
      have hbb:L[A]=n.testBit b:=by rw[List.getElem?_eq_getElem hAL]at hbit;exact Option.some.inj hbit
      rw[byteAt_take L A j hAL,hbb]
     have HTK:Hid _:=htk
     clear htk
     generalize hYY:byteAt (L.take A) (A / 8)=Y at c1 hbl
     have HY:Hid (byteAt (L.take A) (A / 8)=Y):=hYY
     clear hYY
     go_wp2
     go_region
     go_wp2
     go_roundw
     case rel=>
      refine⟨b+1,by omega,by go_num,?_,(hrow.set (A / 8) _).congr fun j hj=>?_,(hbw.setCell (p:=⟨w.heap.size,A / 8,none⟩) (Nat.le_refl _) _).drew⟩
      ·have:=HA.out
       rw[←this];go_num
      rw[←Nat.add_assoc,HA.out,HTK.out j]
      by_cases e:j=A / 8
      ·rw[if_pos e,if_pos e,or_bit Y n b A hbl HNK.out,e,HY.out]
      rw[if_neg e,if_neg e]
     case measure=>simp[intOf];omega
    have hbe:b=width:=by omega
    subst hbe
    go_wp2
    go_roundw
    case rel=>
     refine⟨k+1,by omega,by go_num,?_,?_,hbw⟩
     ·have:=HA0.out
      rw[Nat.mul_succ,this]
     rw[Nat.mul_succ,HA0.out];exact hrow
    case measure=>simp[intOf];omega
  have hke:k=ns.length:=by omega
  subst hke
  have hfull:L.take (width*ns.length)=L:=List.take_of_length_le (by rw[HLL.out,HW.out];exact Nat.le_refl _)
  rw[hfull]at hrow
  clear hfull
  have hw2:=h.below hbw
  have hg:=hw2.lt
  have hB:=hw2.1
  obtain⟨sv,c0,c1,c2,ho,hne⟩:=hw2.cells
  have hlen:(bs.map bv).length≤50000:=by simpa using hl
  have hpl:((packBits L).map bv).length=nb:=by rw[List.length_map,packBits_length,HLL.out,←HNB.out]
  have HPL:Hid (((packBits L).map bv).length=nb):=hpl
  have hnews:∀ j u,((packBits L).map bv)[j]?=some u→wr.cell? ((⟨w.heap.size,0,none⟩:Addr).add j)=some u:=by
   intro j u hj
   have hjn:j<nb:=by
    rw[←hpl]
    rcases Nat.lt_or_ge j ((packBits L).map bv).length with h'|h'
    ·exact h'
    rw[List.getElem?_eq_none h']at hj;simp at hj
   rw[Addr.add_mid,Nat.zero_add,hrow.cell hjn]
   have hjj:j<(L.length+7) / 8:=by rw[HLL.out,←HNB.out];exact hjn
   simp[packBits,hjj,bv]at hj
   rw[←hj]
   have:=byteAt_lt L j
   congr 2
   omega
  clear hpl
  have h1c:∀ u∈(packBits L).map bv,u.oneCell'=true:=by
   intro u hu
   obtain⟨x,_,rfl⟩:=List.mem_map.1 hu
   rfl
  generalize hNW:(packBits L).map bv=NW at *
  go_wp2_with (at_builtin;go_must (refine wpList_append_C (by rfl) _ _ 212 5 _ 1 info_u8 (by rfl) (by decide) (by kernel_rfl) (by rfl) B sv _ (by rfl) ho ⟨w.heap.size,0,none⟩ nb NW (by rw[HPL.out];rfl) hnews h1c (by rw[HPL.out];omega) (by omega) ?_);intro sv' w1 h1 h2 h3;obtain⟨a2,cap2,rfl,_⟩:=h1.cells;have k1:=h2.cell_far ⟨g,1,none⟩ hg (Ne.symm hne);have k2:=h2.frozen_far ⟨g,1,none⟩ hg (Ne.symm hne))
  go_end0
  have hst:=hw2.step (bs':=bs++packBits L) (sv':=.slice a2 (List.map bv bs++NW).length cap2) c1 (Below.refl _ _) h2 (by rw[List.map_append,hNW];exact h1) h3
  simp only[List.length_append,List.length_map]at hst
  exact⟨rfl,hst.1,(WKeep.of_below hbw h.lt).trans hst.2⟩
end
section
open Go.RowKit
def enc (k n:Int)(s:ByteArray):List UInt8:=
 if k=1 then le8 (u64 n)else if k=2 then [low n]else if k=3 then low s.size::s.toList else []
def good (k:Int)(s:ByteArray):Prop:=k=1∨k=2∨(k=3∧s.size≤40)
theorem enc_le (k n:Int)(s:ByteArray)(h:good k s):(enc k n s).length≤41:=by
 rcases h with h|h|⟨h,hs⟩
 ·unfold enc;rw[if_pos h,le8_length];omega
 ·unfold enc;rw[if_neg (by omega),if_pos h];simp
 unfold enc;rw[if_neg (by omega),if_neg (by omega),if_pos h,ByteArray.toList_eq,List.length_cons,Array.length_toList];exact Nat.succ_le_succ hs
theorem wValue_int (B g:Nat)(t n:Int)(s:ByteArray)(bs:List UInt8)(w:World)(h:WAt w B g t bs)(hl:bs.length≤50000) :
  Calls Tryz.prog 147 #[.pointer (some ⟨g,0,none⟩),.agg #[.int .i64 1,.int .i64 n,.string s]] w fun e w'=>e=.returned (.tuple #[])∧WAt w' B g t (bs++le8 (u64 n))∧WKeep w w' g:=by
 have hg:=h.lt
 go_enter Tryz.func147,Tryz.ntmps147
 go_wp2_with (go_at_call 153;refine(wNumber_any B g t _ bs _ (h.below ((Below.refl _ _).alloc (Nat.le_refl _) _)) (by omega)).mono ?_;rintro e w' ⟨rfl,hw,hk⟩)
 go_end0
 exact⟨rfl,hw,(WKeep.of_below ((Below.refl _ _).alloc (Nat.le_refl _) _) hg).trans hk⟩
theorem wValue_bool (B g:Nat)(t n:Int)(s:ByteArray)(bs:List UInt8)(w:World)(h:WAt w B g t bs)(hl:bs.length≤50000) :
  Calls Tryz.prog 147 #[.pointer (some ⟨g,0,none⟩),.agg #[.int .i64 2,.int .i64 n,.string s]] w fun e w'=>e=.returned (.tuple #[])∧WAt w' B g t (bs++[low n])∧WKeep w w' g:=by
 have hg:=h.lt
 go_enter Tryz.func147,Tryz.ntmps147
 go_wp2_with (go_at_call 134;refine(wSmall_any B g t _ bs _ (h.below ((Below.refl _ _).alloc (Nat.le_refl _) _)) (by omega)).mono ?_;rintro e w' ⟨rfl,hw,hk⟩)
 go_end0
 exact⟨rfl,hw,(WKeep.of_below ((Below.refl _ _).alloc (Nat.le_refl _) _) hg).trans hk⟩
theorem wValue_text (B g:Nat)(t n:Int)(s:ByteArray)(bs:List UInt8)(w:World)(h:WAt w B g t bs)(hl:bs.length≤50000)(hs:s.size≤40) :
  Calls Tryz.prog 147 #[.pointer (some ⟨g,0,none⟩),.agg #[.int .i64 3,.int .i64 n,.string s]] w fun e w'=>e=.returned (.tuple #[])∧WAt w' B g t (bs++low s.size::s.toList)∧WKeep w w' g:=by
 have hg:=h.lt
 have h2:=h.below ((Below.refl _ _).alloc (Nat.le_refl _) (.cells #[.int .i64 3,.int .i64 n,.string s] 61))
 have hap:Apart (w.alloc (.cells #[.int .i64 3,.int .i64 n,.string s] 61)) g w.heap.size:=apart_new h ((Below.refl _ _).alloc (Nat.le_refl _) _) (Nat.le_refl _) (by simp)
 go_enter Tryz.func147,Tryz.ntmps147
 go_wp2_with (go_at_call 134;refine(wSmall_any B g t _ bs _ h2 (by omega)).mono ?_;rintro e w' ⟨rfl,hw,hk⟩)
 have hg2:=hw.lt
 have hB:=hw.1
 obtain⟨sv,c0,c1,c2,ho,hn⟩:=hw.cells
 obtain⟨hbk,hap2⟩:=hk.block _ hap
 have c3:w'.cell? ⟨w.heap.size,2,none⟩=some (.string s):=by rw[World.cell?_of_block (w:=w.alloc _) hbk];simp
 have hne:w.heap.size≠g:=by omega
 go_region_law
  ((
   refine step_append_str (by rfl) _ _ (by rfl) B sv (bs++[low s.size]) (by rfl) (by exact ho) (by simp) s (by rfl) (by simp;omega) (by simp;omega) ?_
   intro sv' w1 h1 h2 h3
   obtain⟨a2,ln,cap2,rfl⟩:=h1.form
   have k1:w1.cell? ⟨g,1,none⟩=some sv:=(by rw[h2.cell_far _ (by simpa using hg2) (Ne.symm hn)];exact c1)
   have k2:w1.frozen? ⟨g,1,none⟩=false:=(by rw[h2.frozen_far _ (by simpa using hg2) (Ne.symm hn)];exact c2)))
 all_goals
  go_wp2
  go_end0
  have hst:=hw.step (bs':=bs++low s.size::s.toList) (sv':=.slice a2 ln cap2) c1 ((Below.refl _ _).drew) h2 (by simpa using h1) h3
  exact⟨rfl,hst.1,((WKeep.of_below ((Below.refl _ _).alloc (Nat.le_refl _) _) hg).trans hk).trans hst.2⟩
theorem wValue_any (B g:Nat)(t:Int)(v:V)(bs:List UInt8)(w:World)(h:WAt w B g t bs)(hl:bs.length≤50000)(hv:good v.k v.s) :
  Calls Tryz.prog 147 #[.pointer (some ⟨g,0,none⟩),v.val] w fun e w'=>e=.returned (.tuple #[])∧WAt w' B g t (bs++enc v.k v.n v.s)∧WKeep w w' g:=by
 obtain⟨k,n,s⟩:=v
 rcases hv with hk|hk|⟨hk,hs⟩
 ·simp only at hk
  subst hk
  exact wValue_int B g t n s bs w h hl
 ·simp only at hk
  subst hk
  exact wValue_bool B g t n s bs w h hl
 simp only at hk hs
 subst hk
 exact wValue_text B g t n s bs w h hl hs
def encAll (vs:List V):List UInt8:=vs.flatMap fun v=>enc v.k v.n v.s
theorem encAll_le (vs:List V)(h:∀ v∈vs,good v.k v.s):(encAll vs).length≤41*vs.length:=by
 induction vs with
 |nil=>simp[encAll]
 |cons v vs ih=>
  have h1:=enc_le v.k v.n v.s (h v (List.mem_cons_self))
  have h2:=ih fun u hu=>h u (List.mem_cons_of_mem _ hu)
  unfold encAll at *
  rw[List.flatMap_cons,List.length_append,List.length_cons]
  omega
theorem encAll_snoc (vs:List V)(v:V):encAll (vs++[v])=encAll vs++enc v.k v.n v.s:=by simp[encAll]
theorem wPlain_any (B g:Nat)(t:Int)(a:Option Addr)(cap:Nat)(xs:List V)(bs:List UInt8)(w:World)(h:WAt w B g t bs)(hl:bs.length≤10000)(hn:xs.length≤64)(hgd:∀ v∈xs,good v.k v.s)(hx:Vals w a xs)(hap:∀ b o,a=some ⟨b,o,none⟩→Apart w g b) :
  Calls Tryz.prog 136 #[.pointer (some ⟨g,0,none⟩),.slice a xs.length cap] w fun e w'=>e=.returned (.tuple #[])∧WAt w' B g t (bs++encAll xs)∧WKeep w w' g:=by
 go_enter Tryz.func136,Tryz.ntmps136
 go_wp2
 go_loopw [8] (fun i wr=>∃ k:Nat,k≤xs.length∧i=.int .i64 k∧WAt wr B g t (bs++encAll (xs.take k))∧WKeep w wr g) (fun i _=>xs.length-(intOf i).toNat)
 case atStart=>exact⟨0,by omega,rfl,by simpa [encAll] using h,WKeep.refl _ _⟩
 case round=>
  obtain⟨k,hk,rfl,hw,hkeep⟩:=hrel
  by_cases hlt:k<xs.length
  ·have hx2:=vals_keep hx hkeep hap
   obtain⟨b1,o1,rfl,hb1,x1,x2,x3⟩:=hx2.at hlt
   have hts:=encAll_snoc (xs.take k) xs[k]
   rw[←List.take_succ_eq_append_getElem hlt]at hts
   have hle:=encAll_le (xs.take k) fun v hv=>hgd v (List.mem_of_mem_take hv)
   have hle2:(xs.take k).length≤k:=List.length_take_le _ _
   have hgk:=hgd _ (List.getElem_mem hlt)
   have HT:Hid _:=hts
   have HGK:Hid (good xs[k].k xs[k].s):=hgk
   have hlen:(bs++encAll (xs.take k)).length≤50000:=by rw[List.length_append];omega
   clear hts hgk hle hle2
   generalize hbs:bs++encAll (xs.take k)=bk at *
   have HBS:Hid _:=hbs
   clear hbs
   go_wp2_with (go_at_call 147;refine(wValue_any B g t xs[k] bk _ (hw.below ((Below.refl _ _).alloc (Nat.le_refl _) _)) hlen HGK.out).mono ?_;rintro e w' ⟨rfl,hw2,hk2⟩)
   go_roundw
   case rel=>
    refine⟨k+1,by omega,by go_num,?_,(hkeep.trans (WKeep.of_below ((Below.refl _ _).alloc (Nat.le_refl _) _) hw.lt)).trans hk2⟩
    rw[HT.out,←List.append_assoc,HBS.out];exact hw2
   case measure=>simp[intOf];omega
  go_wp2
  go_end0
  have e:xs.take k=xs:=List.take_of_length_le (by omega)
  rw[e]at hw
  exact⟨rfl,hw,hkeep⟩
def heldBit (v:V):Nat:=if v.k=0 then 0 else 1
theorem bitsOf_one (ns:List Nat)(h:∀ n∈ns,n≤1):bitsOf 1 ns=ns.map fun n=>n==1:=by
 induction ns with
 |nil=>rfl
 |cons n ns ih=>
  have e:bitsOf 1 (n::ns)=[n.testBit 0]++bitsOf 1 ns:=by simp[bitsOf,List.range_succ]
  rw[e,ih fun m hm=>h m (List.mem_cons_of_mem _ hm)]
  have hn:=h n List.mem_cons_self
  have:n.testBit 0=(n==1):=by
   rw[Nat.testBit_zero]
   have:n=0∨n=1:=by omega
   rcases this with rfl|rfl<;>rfl
  rw[this];rfl
theorem heldBits (xs:List V):bitsOf 1 (xs.map heldBit)=xs.map fun v=>v.k != 0:=by
 rw[bitsOf_one _ (by intro n hn;obtain⟨v,_,rfl⟩:=List.mem_map.1 hn;unfold heldBit;split<;>omega),List.map_map]
 apply List.map_congr_left
 intro v _
 simp only[Function.comp,heldBit]
 by_cases h:v.k=0<;>simp[h]
def headEnc (t how:Int)(xs:List V):List UInt8:=[low t,low how,low xs.length]++packBits (xs.map fun v=>v.k != 0)
theorem wHead_any (B g:Nat)(t how:Int)(a:Option Addr)(cap:Nat)(xs:List V)(w:World)(h:WAt w B g t [])(hn:xs.length≤64)(hx:Vals w a xs)(hap:xs≠[]→∀ b o,a=some ⟨b,o,none⟩→Apart w g b) :
  Calls Tryz.prog 118 #[.pointer (some ⟨g,0,none⟩),.int .i64 how,.slice a xs.length cap] w fun e w'=>e=.returned (.tuple #[])∧WAt w' B g t (headEnc t how xs)∧WKeep w w' g:=by
 have hmk:∀ W,(Instr.makeSlice 259 (.int .i64 (xs.length:Int)) (.int .i64 (xs.length:Int))).run Tryz.prog W=.ok (.slice (some ⟨W.heap.size,0,none⟩) xs.length xs.length) (W.alloc (.cells (madeCells #[.int .u64 0] xs.length) 245)):=
  fun W=>run_make_row' 259 245 (.int .u64 0) 8 (by kernel_rfl) info_u64 rfl .i64 .i64 xs.length (by omega) (by omega) W
 obtain⟨sv0,c0,_,_,_,_⟩:=h.cells
 go_enter Tryz.func118,Tryz.ntmps118
 go_wp2_with fail
 refine(wSmall_any B g t _ _ _ h (by simp)).mono ?_
 rintro e w1 ⟨rfl,hw1,hk1⟩
 go_wp2_with fail
 refine(wSmall_any B g t _ _ _ hw1 (by simp)).mono ?_
 rintro e w2 ⟨rfl,hw2,hk2⟩
 go_wp2_with fail
 refine(wSmall_any B g t _ _ _ hw2 (by simp)).mono ?_
 rintro e w3 ⟨rfl,hw3,hk3⟩
 go_wp2_with fail
 clear hmk
 have hk:=(hk1.trans hk2).trans hk3
 have hx3:Vals w3 a xs:=by
  by_cases hne:xs=[]
  ·exact .inl hne
  exact vals_keep hx hk (hap hne)
 clear hk1 hk2 hk3 hw1 hw2 c0
 go_loopw [27] (fun i wr=>∃ k:Nat,k≤xs.length∧i=.int .i64 k∧wr.rowIs w3.heap.size 245 xs.length (fun j=>uv (if j<k then (xs.map heldBit)[j]?.getD 0 else 0))∧Below w3.heap.size w3 wr) (fun i _=>xs.length-(intOf i).toNat)
 case atStart=>exact⟨0,by omega,rfl,World.rowIs_made _ _ _ _,(Below.refl _ _).alloc (Nat.le_refl _) _⟩
 case round=>
  obtain⟨k,hkl,rfl,hrow,hbw⟩:=hrel
  by_cases hlt:k<xs.length
  ·obtain⟨b1,o1,rfl,hb1,x1,x2,x3⟩:=(hx3.below hbw).at hlt
   have c1:=hrow.cell hlt
   have c2:=hrow.frozen k
   have c3:=hrow.lt
   have hget:(xs.map heldBit)[k]?.getD 0=heldBit xs[k]:=by simp[hlt]
   have HGT:Hid _:=hget
   clear hget
   by_cases h0:xs[k].k=0
   ·have h0':(xs[k].k != 0)=false:=by simp[h0]
    have H0:Hid (xs[k].k=0):=h0
    clear h0
    go_wp2
    go_roundw
    case rel=>
     refine⟨k+1,by omega,by go_num,(hrow.alloc _).congr fun j hj=>?_,below_alloc hbw _⟩
     by_cases e:j=k
     ·subst e
      simp only[Nat.lt_irrefl,if_false,Nat.lt_succ_self,if_true]
      rw[HGT.out]
      simp[heldBit,H0.out]
     have e2:(j<k+1)=(j<k):=by rw[eq_iff_iff];omega
     simp only[e2]
    case measure=>simp[intOf];omega
   have h0':(xs[k].k != 0)=true:=by simp[h0]
   have H0:Hid (¬ xs[k].k=0):=h0
   clear h0
   go_wp2
   go_roundw
   case rel=>
    refine⟨k+1,by omega,by go_num,((hrow.set k _).alloc _).congr fun j hj=>?_,below_alloc (hbw.setCell (p:=⟨w3.heap.size,k,none⟩) (Nat.le_refl _) _) _⟩
    by_cases e:j=k
    ·subst e
     simp only[if_true,Nat.lt_succ_self]
     rw[HGT.out]
     simp[heldBit,H0.out,uv]
    have e2:(j<k+1)=(j<k):=by rw[eq_iff_iff];omega
    simp only[e,e2,if_false]
   case measure=>simp[intOf];omega
  have hke:k=xs.length:=by omega
  subst hke
  have hown:OwnC wr w3.heap.size 245 (.slice (some ⟨w3.heap.size,0,none⟩) xs.length xs.length) ((xs.map heldBit).map uv):=
   own_of_row hrow (Nat.le_refl _) (by unfold maxLen;omega) _ (by simp) (by
    intro i hi
    have hi':i<xs.length:=by simpa using hi
    simp[hi'])
  obtain⟨a4,cap4,e4,hc4⟩:=hown.cells
  simp only[List.length_map]at e4
  injection e4 with e5 e6 e7
  subst e5
  subst e7
  have hcl:(xs.map heldBit).length=xs.length:=by simp
  have hw4:=hw3.below hbw
  have hlt4:=hrow.lt
  go_wp2_with fail
  rw[←hcl]
  refine(wFields_any B g t _ 1 _ _ (xs.map heldBit) _ hw4 (by simp) (by omega) (by simpa using hn) (by
   intro n hn;obtain⟨v,_,rfl⟩:=List.mem_map.1 hn;unfold heldBit;split<;>omega) hc4 (by
   intro b o hbo
   simp at hbo
   obtain⟨rfl,rfl⟩:=hbo
   exact apart_new hw3 hbw (Nat.le_refl _) hlt4)).mono ?_
  rintro e w5 ⟨rfl,hw5,hk5⟩
  go_wp2_with fail
  go_end0
  refine⟨rfl,?_,(hk.trans (WKeep.of_below hbw hw3.lt)).trans hk5⟩
  rw[heldBits]at hw5
  exact hw5
end
section
open Go.RowKit
def runsAux (v:V)(c:Nat):List V→List UInt8
 |[]=>low c::enc v.k v.n v.s
 |u::l=>if u.beq v then runsAux v (c+1) l else (low c::enc v.k v.n v.s)++runsAux u 1 l
def runsEnc:List V→List UInt8
 |[]=>[]
 |v::l=>runsAux v 1 l
theorem runsAux_eq (l:List V):∀ (v:V) (c:Nat),runsAux v c l=(low ((c+runLen v l:Nat):Int)::enc v.k v.n v.s)++runsEnc (l.drop (runLen v l)):=by
 induction l with
 |nil=>intro v c;simp[runsAux,runLen,runsEnc]
 |cons u l ih=>
  intro v c
  by_cases e:u.beq v=true
  ·simp only[runsAux,runLen,e,if_true,List.drop_succ_cons]
   rw[ih v (c+1)]
   have:c+1+runLen v l=c+(runLen v l+1):=by omega
   rw[this]
  simp only[runsAux,runLen,e,if_false,Bool.false_eq_true]
  simp[runsEnc]
theorem runsEnc_cons (v:V)(l:List V):runsEnc (v::l)=(low ((runLen v (v::l):Nat):Int)::enc v.k v.n v.s)++runsEnc ((v::l).drop (runLen v (v::l))):=by
 have e:runLen v (v::l)=runLen v l+1:=by simp[runLen,(V.beq_iff v v).2 rfl]
 rw[e,List.drop_succ_cons]
 show runsAux v 1 l=_
 rw[runsAux_eq]
 have:1+runLen v l=runLen v l+1:=by omega
 rw[this]
theorem runsEnc_nil:runsEnc []=[]:=rfl
def slen:Value→Nat|.slice _ n _=>n|_=>0
theorem runLen_pos (v:V)(l:List V):1≤runLen v (v::l):=by simp[runLen,(V.beq_iff v v).2 rfl]
theorem vals_drop {w:World}{b o:Nat}{vs:List V}(h:Vals w (some ⟨b,o,none⟩) vs)(m:Nat):Vals w (some ⟨b,o+m*3,none⟩) (vs.drop m):=by
 rcases h with h|⟨b',o',e,hb,h⟩
 ·subst h;exact .inl (by simp)
 simp at e
 obtain⟨rfl,rfl⟩:=e
 refine .inr ⟨b,o+m*3,rfl,hb,fun i v hv=>?_⟩
 have:=h (m+i) v (by simpa using hv)
 have e2:o+m*3+i*3=o+(m+i)*3:=by omega
 rw[e2];exact this
theorem runsEnc_le:∀ (n:Nat)(xs:List V),xs.length≤n→(∀ v∈xs,good v.k v.s)→(runsEnc xs).length≤42*xs.length:=by
 intro n
 induction n with
 |zero=>intro xs h _;have:xs=[]:=List.length_eq_zero_iff.1 (by omega);subst this;simp[runsEnc]
 |succ n ih=>
  intro xs h hg
  cases xs with
  |nil=>simp[runsEnc]
  |cons v l=>
   rw[runsEnc_cons]
   have h1:=enc_le v.k v.n v.s (hg v List.mem_cons_self)
   have h2:=runLen_pos v l
   have h3:=ih ((v::l).drop (runLen v (v::l))) (by rw[List.length_drop];simp at h ⊢;omega) (fun u hu=>hg u (List.mem_of_mem_drop hu))
   rw[List.length_append,List.length_cons]
   rw[List.length_drop]at h3
   have h4:=runLen_le v (v::l)
   omega
theorem wRuns_any (B g:Nat)(t:Int)(a:Option Addr)(cap:Nat)(xs:List V)(bs:List UInt8)(w:World)(h:WAt w B g t bs)(hl:bs.length≤10000)(hn:xs.length≤64)(hcap:xs.length≤cap)(hgd:∀ v∈xs,good v.k v.s)(hx:Vals w a xs)(hap:∀ b o,a=some ⟨b,o,none⟩→Apart w g b) :
  Calls Tryz.prog 138 #[.pointer (some ⟨g,0,none⟩),.slice a xs.length cap] w fun e w'=>e=.returned (.tuple #[])∧WAt w' B g t (bs++runsEnc xs)∧WKeep w w' g:=by
 go_enter Tryz.func138,Tryz.ntmps138
 go_wp2
 go_loopw [1] (fun sl wr=>∃ (rest:List V) (done:List UInt8) (a2:Option Addr) (cap2:Nat),sl=.slice a2 rest.length cap2∧rest.length≤xs.length∧rest.length≤cap2∧Hid (∀ v∈rest,good v.k v.s)∧Hid (bs++runsEnc xs=done++runsEnc rest)∧Vals wr a2 rest∧(∀ b o,a2=some ⟨b,o,none⟩→Apart wr g b)∧WAt wr B g t done∧WKeep w wr g) (fun sl _=>slen sl)
 case atStart=>exact⟨xs,bs,a,cap,rfl,Nat.le_refl _,hcap,hgd,rfl,hx,hap,h,WKeep.refl _ _⟩
 case round=>
  obtain⟨rest,done,a2,cap2,rfl,hrl,hrc,hg2,heq,hx2,hap2,hw,hkeep⟩:=hrel
  cases rest with
  |nil=>
   go_wp2
   go_end0
   have:=heq.out
   rw[runsEnc_nil,List.append_nil]at this
   rw[this]
   exact⟨rfl,hw,hkeep⟩
  |cons v l=>
   have hpos:=runLen_pos v l
   have hle:=runLen_le v (v::l)
   have hln:(v::l).length≤64:=by omega
   have hgv:good v.k v.s:=hg2.out v List.mem_cons_self
   obtain⟨b2,o2,rfl,hb2,z1,z2,z3⟩:=hx2.at (i:=0) (by simp)
   simp only[List.getElem_cons_zero,Nat.zero_mul,Nat.add_zero]at z1 z2 z3
   have hap3:=hap2 b2 o2 rfl
   have hrn:=runsEnc_cons v l
   have HRN:Hid _:=hrn
   have HGV:Hid (good v.k v.s):=hgv
   have hdl:done.length≤20000:=by
    have h1:=congrArg List.length heq.out
    rw[List.length_append,List.length_append]at h1
    have h2:=runsEnc_le _ xs (Nat.le_refl _) hgd
    omega
   clear hrn hgv
   have hc1:(0:Int)<((v::l).length:Int):=by rw[List.length_cons];omega
   have hrun:=runLength_any (some ⟨b2,o2,none⟩) cap2 v l wr hln hx2
   have HX:Hid (Vals wr (some ⟨b2,o2,none⟩) (v::l)):=hx2
   generalize hR:v::l=R at *
   have hl0:0<R.length:=by rw[←hR];simp
   have HR:Hid (v::l=R):=hR
   clear hR hx2
   obtain⟨q,hq⟩:∃ q:Nat,q=runLen v R:=⟨_,rfl⟩
   rw[←hq]at hrun hpos hle HRN
   have HQ:Hid (q=runLen v R):=hq
   clear hq
   have HRUN:Hid (Calls Tryz.prog 148 #[.slice (some ⟨b2,o2,none⟩) R.length cap2] wr fun e w'=>e=.returned (.int .i64 (q:Nat))∧Below wr.heap.size wr w'):=hrun
   clear hrun
   go_wp2_with fail
   refine HRUN.out.mono ?_
   rintro e w1 ⟨rfl,hb1⟩
   have hw1:=hw.below hb1
   go_wp2_with fail
   refine(wSmall_any B g t _ _ _ hw1 (by omega)).mono ?_
   rintro e w2 ⟨rfl,hw2,hk2⟩
   have hkA:WKeep wr w2 g:=(WKeep.of_below hb1 hw.lt).trans hk2
   have hbk:=(hkA.block b2 hap3).1
   have y1:w2.cell? ⟨b2,o2,none⟩=some (.int .i64 v.k):=by rw[World.cell?_of_block (w:=wr) hbk];exact z1
   have y2:w2.cell? ⟨b2,o2+1,none⟩=some (.int .i64 v.n):=by rw[World.cell?_of_block (w:=wr) hbk];exact z2
   have y3:w2.cell? ⟨b2,o2+2,none⟩=some (.string v.s):=by rw[World.cell?_of_block (w:=wr) hbk];exact z3
   clear z1 z2 z3
   go_wp2_with fail
   refine(wValue_any B g t v _ _ hw2 (by rw[List.length_append,List.length_cons,List.length_nil];omega) HGV.out).mono ?_
   rintro e w3 ⟨rfl,hw3,hk3⟩
   have hkB:=hkA.trans hk3
   go_wp2
   go_roundw
   case rel=>
    have hx3:=vals_keep HX.out hkB hap2
    have heq2:bs++runsEnc xs=(done++[low (q:Int)]++enc v.k v.n v.s)++runsEnc (R.drop q):=by rw[heq.out,HRN.out];simp
    refine⟨R.drop q,done++[low (q:Int)]++enc v.k v.n v.s,_,cap2-q,by rw[List.length_drop],by rw[List.length_drop];omega,by rw[List.length_drop];omega,fun u hu=>hg2.out u (List.mem_of_mem_drop hu),heq2,?_,?_,hw3,hkeep.trans hkB⟩
    ·by_cases e:cap2=q
     ·have:R.drop q=[]:=List.drop_eq_nil_iff.2 (by omega)
      rw[this];exact Vals.nil _ _
     rw[if_neg e];exact vals_drop hx3 q
    intro b o hbo
    have hbb:b=b2:=by
     split at hbo<;>simp at hbo<;>exact hbo.1.symm
    subst hbb
    exact(hkB.block _ hap3).2
   case measure=>simp[slen];omega
theorem mem_uniq_keep (l:List V):∀ (d:List V) (v:V),v∈d→v∈uniq d l:=by
 induction l with
 |nil=>intro d v h;exact h
 |cons u l ih=>
  intro d v h
  simp only[uniq]
  refine ih _ v ?_
  split
  ·exact h
  exact List.mem_append_left _ h
theorem mem_uniq (l:List V):∀ (d:List V) (v:V),v∈l→v∈uniq d l:=by
 induction l with
 |nil=>intro d v h;simp at h
 |cons u l ih=>
  intro d v h
  simp only[uniq]
  rcases List.mem_cons.1 h with rfl|h
  ·refine mem_uniq_keep l _ v ?_
   split
   ·rename_i hp
    have:=getElem_place d v hp
    rw[←this];exact List.getElem_mem hp
   exact List.mem_append_right _ (by simp)
  exact ih _ v h
theorem place_lt_of_mem (l:List V)(v:V)(h:v∈l):place l v<l.length:=by
 induction l with
 |nil=>simp at h
 |cons u l ih=>
  by_cases e:u.beq v=true
  ·simp[place,e]
  have hne:u≠v:=(V.beq_false u v).1 (by simpa using e)
  have:v∈l:=by rcases List.mem_cons.1 h with rfl|h;exact absurd rfl hne;exact h
  simp[place,e];exact ih this
theorem uniq_mem (l:List V):∀ (d:List V) (v:V),v∈uniq d l→v∈d∨v∈l:=by
 induction l with
 |nil=>intro d v h;exact .inl h
 |cons u l ih=>
  intro d v h
  simp only[uniq]at h
  rcases ih _ v h with h|h
  ·split at h
   ·exact .inl h
   rcases List.mem_append.1 h with h|h
   ·exact .inl h
   right;simp at h;subst h;exact List.mem_cons_self
  exact .inr (List.mem_cons_of_mem _ h)
def dictEnc (xs:List V):List UInt8:=(low (uniq [] xs).length::encAll (uniq [] xs))++packBits (bitsOf 4 (xs.map (place (uniq [] xs))))
theorem idx_pos (d:List V)(v:V)(h:place d v<d.length):idx d v=(place d v:Int):=by unfold idx;rw[if_pos h]
theorem wDictionary_any (B g:Nat)(t:Int)(a:Option Addr)(cap:Nat)(xs:List V)(bs:List UInt8)(w:World)(h:WAt w B g t bs)(hl:bs.length≤1000)(hn:xs.length≤64)(hgd:∀ v∈xs,good v.k v.s)(hx:Vals w a xs)(hap:∀ b o,a=some ⟨b,o,none⟩→Apart w g b) :
  Calls Tryz.prog 137 #[.pointer (some ⟨g,0,none⟩),.slice a xs.length cap] w fun e w'=>e=.returned (.tuple #[])∧WAt w' B g t (bs++dictEnc xs)∧WKeep w w' g:=by
 have hmk:∀ W,(Instr.makeSlice 259 (.int .i64 (xs.length:Int)) (.int .i64 (xs.length:Int))).run Tryz.prog W=.ok (.slice (some ⟨W.heap.size,0,none⟩) xs.length xs.length) (W.alloc (.cells (madeCells #[.int .u64 0] xs.length) 245)):=
  fun W=>run_make_row' 259 245 (.int .u64 0) 8 (by kernel_rfl) info_u64 rfl .i64 .i64 xs.length (by omega) (by omega) W
 have hul:=uniq_le xs []
 have hgu:∀ v∈uniq [] xs,good v.k v.s:=fun v hv=>by
  rcases uniq_mem xs [] v hv with h|h
  ·simp at h
  exact hgd v h
 have hpl:∀ v∈xs,place (uniq [] xs) v<(uniq [] xs).length:=fun v hv=>place_lt_of_mem _ _ (mem_uniq xs [] v hv)
 have hde:dictEnc xs=(low (uniq [] xs).length::encAll (uniq [] xs))++packBits (bitsOf 4 (xs.map (place (uniq [] xs)))):=rfl
 have HDE:Hid _:=hde
 clear hde
 go_enter Tryz.func137,Tryz.ntmps137
 go_wp2_with fail
 refine(different_any a cap xs w hn hx).mono ?_
 rintro e w1 ⟨sv,rfl,hown,hb1⟩
 obtain⟨a1,cap1,rfl,hv1⟩:=hown.vals
 have hblk:∀ b o,a1=some ⟨b,o,none⟩→Apart w1 g b:=by
  intro b o hbo
  subst hbo
  have:=owns_block hown (g:=b) rfl
  exact apart_new h hb1 this.1 this.2
 generalize uniq [] xs=d at *
 have hd:d.length≤64:=by simp at hul;omega
 have hw1:=h.below hb1
 clear hown
 go_wp2_with fail
 refine(wSmall_any B g t _ _ _ hw1 (by omega)).mono ?_
 rintro e w2 ⟨rfl,hw2,hk2⟩
 have hv2:=vals_keep hv1 hk2 hblk
 have hblk2:=apart_keep hk2 hblk
 go_wp2_with fail
 refine(wPlain_any B g t a1 cap1 d _ _ hw2 (by rw[List.length_append,List.length_cons,List.length_nil];omega) hd hgu hv2 hblk2).mono ?_
 rintro e w3 ⟨rfl,hw3,hk3⟩
 have hk13:=hk2.trans hk3
 have hk:=(WKeep.of_below hb1 h.lt).trans hk13
 have hv3:=vals_keep hv2 hk3 hblk2
 have hx3:=vals_keep hx hk hap
 have hle:=encAll_le d hgu
 have hlen3:(bs++[low d.length]++encAll d).length≤50000:=by simp only[List.length_append,List.length_cons,List.length_nil];omega
 clear hv1 hv2 hblk hblk2 hw1 hw2 hk2 hk3 hb1 hk13 hgu hle
 have hd':d.length≤maxLen:=by unfold maxLen;omega
 go_wp2_with fail
 clear hmk
 go_loopw [22] (fun i wr=>∃ k:Nat,k≤xs.length∧i=.int .i64 k∧wr.rowIs w3.heap.size 245 xs.length (fun j=>uv (if j<k then (xs.map (place d))[j]?.getD 0 else 0))∧Below w3.heap.size w3 wr) (fun i _=>xs.length-(intOf i).toNat)
 case atStart=>exact⟨0,by omega,rfl,World.rowIs_made _ _ _ _,(Below.refl _ _).alloc (Nat.le_refl _) _⟩
 case round=>
  obtain⟨k,hkl,rfl,hrow,hbw⟩:=hrel
  by_cases hlt:k<xs.length
  ·obtain⟨b1,o1,rfl,hb1,x1,x2,x3⟩:=(hx3.below hbw).at hlt
   have c3:=hrow.lt
   have hp:=hpl _ (List.getElem_mem hlt)
   have hidx:=idx_pos d xs[k] hp
   have hget:(xs.map (place d))[k]?.getD 0=place d xs[k]:=by simp[hlt]
   have HGT:Hid _:=hget
   have HIX:Hid (idx d xs[k]=(place d xs[k]:Int)):=hidx
   have hvw:=(hv3.below hbw).below ((Below.refl _ _).alloc (Nat.le_refl _) (.cells #[.int .i64 xs[k].k,.int .i64 xs[k].n,.string xs[k].s] 61))
   have hpb:place d xs[k]≤64:=by omega
   clear hget hidx hp
   go_wp2_with fail
   refine(index_any a1 cap1 d xs[k] _ hd' hvw).mono ?_
   rintro e w4 ⟨rfl,hb4⟩
   rw[HIX.out]
   obtain⟨hc4,hf4⟩:=below_keep hb4
   have hrow4:w4.rowIs w3.heap.size 245 xs.length (fun j=>uv (if j<k then (xs.map (place d))[j]?.getD 0 else 0)):=(hrow.alloc _).of_block (hb4.block _ (hrow.alloc _).lt)
   have c1:=hrow4.cell hlt
   have c2:=hrow4.frozen k
   clear hc4 hf4
   generalize place d xs[k]=P at *
   go_wp2
   go_roundw
   case rel=>
    refine⟨k+1,by omega,by go_num,(hrow4.set k _).congr fun j hj=>?_,(below_then hbw (below_behind hb4)).setCell (p:=⟨w3.heap.size,k,none⟩) (Nat.le_refl _) _⟩
    by_cases e:j=k
    ·subst e
     simp only[if_true,Nat.lt_succ_self]
     rw[HGT.out]
     rfl
    have e2:(j<k+1)=(j<k):=by rw[eq_iff_iff];omega
    simp only[e,e2,if_false]
   case measure=>simp[intOf];omega
  have hke:k=xs.length:=by omega
  subst hke
  have hown:OwnC wr w3.heap.size 245 (.slice (some ⟨w3.heap.size,0,none⟩) xs.length xs.length) ((xs.map (place d)).map uv):=
   own_of_row hrow (Nat.le_refl _) (by unfold maxLen;omega) _ (by simp) (by
    intro i hi
    have hi':i<xs.length:=by simpa using hi
    simp[hi'])
  obtain⟨a4,cap4,e4,hc4⟩:=hown.cells
  simp only[List.length_map]at e4
  injection e4 with e5 e6 e7
  subst e5
  subst e7
  have hcl:(xs.map (place d)).length=xs.length:=by simp
  have hw4:=hw3.below hbw
  have hlt4:=hrow.lt
  go_wp2_with fail
  rw[←hcl]
  refine(wFields_any B g t _ 4 _ _ (xs.map (place d)) _ hw4 hlen3 (by omega) (by simpa using hn) (by
   intro n hn;obtain⟨v,hv,rfl⟩:=List.mem_map.1 hn;have:=hpl v hv;omega) hc4 (by
   intro b o hbo
   simp at hbo
   obtain⟨rfl,rfl⟩:=hbo
   exact apart_new hw3 hbw (Nat.le_refl _) hlt4)).mono ?_
  rintro e w5 ⟨rfl,hw5,hk5⟩
  go_wp2_with fail
  go_end0
  refine⟨rfl,?_,(hk.trans (WKeep.of_below hbw hw3.lt)).trans hk5⟩
  rw[HDE.out]
  simpa using hw5
end
section
open Go.RowKit
def packedInt:List V→List UInt8
 |[]=>[]
 |v::l=>
  le8 (u64 (leastFrom v.n (v::l)))++[low (bitLen (maxOf (dif v.n (leastFrom v.n (v::l))) (difs l (leastFrom v.n (v::l)))):Nat)]
   ++ packBits (bitsOf (bitLen (maxOf (dif v.n (leastFrom v.n (v::l))) (difs l (leastFrom v.n (v::l))))) (difs (v::l) (leastFrom v.n (v::l))))
def packedEnc (t:Int)(xs:List V):List UInt8:=if t=2 then packBits (bitsOf 1 (difs xs 0))else packedInt xs
theorem difs_lt (xs:List V)(q:Int):∀ n∈difs xs q,n<18446744073709551616:=by
 intro n hn
 obtain⟨v,_,rfl⟩:=List.mem_map.1 hn
 exact u64_lt _
theorem bitLen_le64 (n:Nat)(h:n<18446744073709551616):bitLen n≤64:=by
 unfold bitLen
 split
 ·omega
 rename_i h0
 have:=(Nat.log2_lt h0).2 (show n<2 ^ 64 from h)
 omega
theorem wPacked_any (B g:Nat)(t:Int)(a:Option Addr)(cap:Nat)(xs:List V)(bs:List UInt8)(w:World)(h:WAt w B g t bs)(hl:bs.length≤1000)(hn:xs.length≤64)(hx:Vals w a xs) :
  Calls Tryz.prog 139 #[.pointer (some ⟨g,0,none⟩),.slice a xs.length cap] w fun e w'=>e=.returned (.tuple #[])∧WAt w' B g t (bs++packedEnc t xs)∧WKeep w w' g:=by
 obtain⟨sv0,c0,_,_,_,_⟩:=h.cells
 unfold packedEnc
 by_cases ht:t=2
 ·subst ht
  rw[if_pos rfl]
  go_enter Tryz.func139,Tryz.ntmps139
  go_wp2_with fail
  refine(differences_any a cap xs 0 w hn hx).mono ?_
  rintro e w1 ⟨sv,rfl,hown,hb1⟩
  have hblk:=fun b hb=>owns_block hown (g:=b) hb
  obtain⟨a1,cap1,rfl,hc1⟩:=hown.cells
  rw[List.length_map]
  have hlt:=difs_lt xs 0
  have hdl:(difs xs 0).length≤64:=by simpa [difs] using hn
  generalize hds:difs xs 0=ds at *
  have HDS:Hid (difs xs 0=ds):=hds
  clear hds
  go_wp2_with fail
  refine(wFields_any B g 2 _ 1 _ _ ds _ (h.below hb1) (by omega) (by omega) hdl hlt hc1 (by
   intro b o hbo
   subst hbo
   have:=hblk b rfl
   exact apart_new h hb1 this.1 this.2)).mono ?_
  rintro e w2 ⟨rfl,hw2,hk2⟩
  go_wp2_with fail
  exact bodyPost_ret (v:=.tuple #[]) (by simp[results,Tryz.results139,go_sem]) rfl ⟨rfl,by rw[HDS.out];exact hw2,(WKeep.of_below hb1 h.lt).trans hk2⟩
 rw[if_neg ht]
 have ht':(t==2)=false:=by simp[ht]
 cases xs with
 |nil=>
  go_enter Tryz.func139,Tryz.ntmps139
  go_wp2
  exact bodyPost_ret (v:=.tuple #[]) (by simp[results,Tryz.results139,go_sem]) rfl ⟨rfl,by simpa [packedInt] using h,WKeep.refl _ _⟩
 |cons v l=>
  have hpe:packedInt (v::l)=le8 (u64 (leastFrom v.n (v::l)))++[low (bitLen (maxOf (dif v.n (leastFrom v.n (v::l))) (difs l (leastFrom v.n (v::l)))):Nat)]
   ++ packBits (bitsOf (bitLen (maxOf (dif v.n (leastFrom v.n (v::l))) (difs l (leastFrom v.n (v::l))))) (difs (v::l) (leastFrom v.n (v::l)))):=rfl
  have hle0:=leastNumber_any a cap v l w hn hx
  generalize leastFrom v.n (v::l)=q at *
  have HPE:Hid _:=hpe
  clear hpe
  have hdf:=fun W h1 h2=>differences_any a cap (v::l) q W h1 h2
  have hds:difs (v::l) q=dif v.n q::difs l q:=rfl
  have hlt0:=difs_lt (v::l) q
  rw[hds]at HPE hlt0
  have hdl:(dif v.n q::difs l q).length≤64:=by simpa [difs] using hn
  have hmx:maxOf (dif v.n q) (difs l q)<18446744073709551616:=maxOf_lt _ _ _ (hlt0 _ List.mem_cons_self) fun n hn=>hlt0 n (List.mem_cons_of_mem _ hn)
  have hb64:=bitLen_le64 _ hmx
  have hR:∃ R:List V,R=v::l:=⟨_,rfl⟩
  obtain⟨R,hR⟩:=hR
  have hl0:((R.length:Int)==0)=false:=by rw[hR];simp;omega
  rw[←hR]at hx hn hle0 hdf hds HPE ⊢
  clear hR
  have HLE:Hid (Calls Tryz.prog 150 #[.slice a R.length cap] w fun e w'=>e=.returned (.int .i64 q)∧Below w.heap.size w w'):=hle0
  clear hle0
  generalize dif v.n q=d0 at *
  generalize difs l q=ds at *
  have HDF:Hid (∀ W,R.length≤64→Vals W a R→Calls Tryz.prog 149 #[.slice a R.length cap,.int .i64 q] W fun e w'=>∃ sv,e=.returned sv∧OwnC w' W.heap.size 245 sv ((difs R q).map uv)∧Below W.heap.size W w'):=hdf
  clear hdf
  go_enter Tryz.func139,Tryz.ntmps139
  go_wp2_with fail
  refine HLE.out.mono ?_
  rintro e w1 ⟨rfl,hb1⟩
  go_wp2_with fail
  refine(HDF.out w1 hn (hx.below hb1)).mono ?_
  rintro e w2 ⟨sv,rfl,hown,hb2⟩
  have hblk:=fun b hb=>owns_block hown (g:=b) hb
  rw[hds]at hown
  obtain⟨a2,cap2,rfl,hc2⟩:=hown.cells
  rw[List.length_map]
  go_wp2_with fail
  refine(max_any a2 cap2 d0 ds w2 hdl hc2).mono ?_
  rintro e w3 ⟨rfl,hb3⟩
  unfold uv
  go_wp2_with fail
  refine(len64_any _ w3 hmx).mono ?_
  rintro e w4 ⟨rfl,hw4e⟩
  subst w4
  have hb13:=below_then hb1 (below_then hb2 hb3)
  have hw3:=h.below hb13
  have hc3:=hc2.below hb3
  generalize bitLen (maxOf d0 ds)=wd at *
  go_wp2_with fail
  refine(wNumber_any B g t q _ _ hw3 (by omega)).mono ?_
  rintro e w5 ⟨rfl,hw5,hk5⟩
  go_wp2_with fail
  refine(wSmall_any B g t _ _ _ hw5 (by rw[List.length_append,le8_length];omega)).mono ?_
  rintro e w6 ⟨rfl,hw6,hk6⟩
  have hk36:=hk5.trans hk6
  have hap3:∀ b o,a2=some ⟨b,o,none⟩→Apart w3 g b:=by
   intro b o hbo
   subst hbo
   have:=hblk b rfl
   have s1:=hb1.size
   have s2:=hb2.size
   have s3:=hb3.size
   exact apart_new h hb13 (by omega) (by omega)
  go_wp2_with fail
  refine(wFields_any B g t _ wd a2 cap2 (d0::ds) _ hw6 (by simp only[List.length_append,le8_length,List.length_cons,List.length_nil];omega) hb64 hdl hlt0 (cells_keep hc3 hk36 hap3) (apart_keep hk36 hap3)).mono ?_
  rintro e w7 ⟨rfl,hw7,hk7⟩
  go_wp2_with fail
  go_end0
  refine⟨rfl,?_,((WKeep.of_below hb13 h.lt).trans hk36).trans hk7⟩
  rw[HPE.out]
  simpa using hw7
theorem wWays_any (g:Nat)(w:World) :
  Calls Tryz.prog 119 #[.pointer (some ⟨g,0,none⟩)] w fun e w'=>e=.returned (.agg #[.func (.func 136) #[.pointer (some ⟨g,0,none⟩)] #[],.func (.func 137) #[.pointer (some ⟨g,0,none⟩)] #[],.func (.func 138) #[.pointer (some ⟨g,0,none⟩)] #[],.func (.func 139) #[.pointer (some ⟨g,0,none⟩)] #[]])∧Below w.heap.size w w':=by
 have hone:∀ (W:World) (a:Addr) f x c,(store a (.func f x c)).run Tryz.prog W=match W.cell? a with
   | some _ => if W.frozen? a then .halt (.unsupported (.unsafePointer "a write to bytes that a string shares")) W else .ok () (W.setCell a (.func f x c))
   |none=>match W.farStore Tryz.prog a (.func f x c) (Mode.plain==.atomic)with
    |.ok (w',_)=>.ok () w'
    |.error h=>.halt h W:=fun W a f x c=>run_store Tryz.prog W a (.func f x c) .plain rfl
 go_enter Tryz.func119,Tryz.ntmps119
 go_wp2
 exact bodyPost_ret (v:=.agg #[.func (.func 136) #[.pointer (some ⟨g,0,none⟩)] #[],.func (.func 137) #[.pointer (some ⟨g,0,none⟩)] #[],.func (.func 138) #[.pointer (some ⟨g,0,none⟩)] #[],.func (.func 139) #[.pointer (some ⟨g,0,none⟩)] #[]]) (by simp[results,Tryz.results119,go_sem]) rfl ⟨rfl,(Below.refl _ _).alloc (Nat.le_refl _) _⟩
end
section
open Go.RowKit Go.Extern.Stop Go.Stop Go.Extern
theorem erris_any (v:Value)(a t:Addr)(w:World)(h:∃ k,ChainR w k v a)(ha:∃ c t,w.heap[a.block]?=some (.cells c t (0,0)))(ht:∃ c u,w.heap[t.block]?=some (.cells c u (0,0)))(r:Bool)(hr:r=true↔a=t) :
  Calls Tryz.prog 83 #[v,.iface 284 (.pointer (some t)),.bool true] w fun e w'=>e=.returned (.bool r)∧w'=w:=by
 obtain⟨ca,ta,ha⟩:=ha
 obtain⟨ct,tt,ht⟩:=ht
 obtain⟨i,hi,hcmp⟩:=Option.map_eq_some_iff.1 isComp
 obtain⟨j,hj,hjs⟩:=Option.map_eq_some_iff.1 isSize
 have hEQ:Hid ((binOp .eql 81 (.iface 284 (.pointer (some a))) (.iface 284 (.pointer (some t)))).run Tryz.prog w=.ok (.bool r) w):=by
  show _=_
  by_cases he:a=t
  ·rw[hr.2 he];subst he
   exact run_eql_iface_ptr_same (P:=Tryz.prog) w a Tryz.underlying81 Tryz.underlying284 hi hcmp hj
  have:r=false:=by cases r with
   |false=>rfl
   |true=>exact absurd (hr.1 rfl) he
  rw[this]
  exact run_eql_iface_ptr_other (P:=Tryz.prog) w Tryz.underlying81 Tryz.underlying284 hi hcmp hj (by rw[hjs];decide) he ha ht
 have HH:Hid (∃ k,ChainR w k v a):=h
 obtain⟨ty0,x0,rfl⟩:∃ ty x,v=.iface ty x:=by obtain⟨_,hc⟩:=h;exact hc.iface
 clear h hr ha ht hi hcmp hj hjs
 go_enter Tryz.func83,Tryz.ntmps83
 go_wp2_with fail
 obtain⟨k0,hk0⟩:=HH.out
 go_loopg [0] k0 (fun k ev wr=>wr=w∧ChainR w k ev a)
 case atStart=>exact⟨rfl,hk0⟩
 case round=>
  obtain⟨hwr,hx⟩:=hrel
  subst hwr
  clear HH hk0
  rcases gk with _|n
  ·have hx0:_=Value.iface 284 (.pointer (some a)):=hx
   subst hx0
   clear hx
   have nI:=noIsRoot
   have uU:=unwrapRoot
   have vE:=noUnwrapsRoot
   have heq:=hEQ.out
   cases r with
   |true=>
    go_wp2_with fail
    go_ret
    exact⟨rfl,rfl⟩
   |false=>
    go_wp2_with fail
    go_ret
    exact⟨rfl,rfl⟩
  obtain⟨ty,off,un,b,v,hW,hev,hcell,hrest⟩:=hx
  subst hev
  have HR:Hid (ChainR wr n v a):=hrest
  have HW:Hid (Calls Tryz.prog un #[.pointer (some ⟨b,0,none⟩)] wr fun e w'=>e=.returned v∧w'=wr):=hW.walk b v _ hcell
  obtain⟨ty1,x1,rfl⟩:=hrest.iface
  have nI:=hW.noIs
  have uU:=hW.unwrap
  have mU:=hW.meth
  have eN:=hW.enter
  have eQ:=hW.eql
  have hn1:=run_eql_held_nil (P:=Tryz.prog) wr 81 ty1 x1 (by kernel_rfl)
  clear hW hcell hrest hEQ
  go_wp2_with fail
  refine HW.out.mono ?_
  rintro e w' ⟨rfl,rfl⟩
  go_wp2_with fail
  go_roundg n
  case measure=>exact Nat.lt_succ_self n
  case rel=>exact⟨by first|trivial|rfl,HR.out⟩
theorem is_any (v:Value)(a t:Addr)(w:World)(h:∃ k,ChainR w k v a)(ha:∃ c t,w.heap[a.block]?=some (.cells c t (0,0)))(ht:∃ c u,w.heap[t.block]?=some (.cells c u (0,0)))(r:Bool)(hr:r=true↔a=t) :
  Calls Tryz.prog 64 #[v,.iface 284 (.pointer (some t))] w fun e w'=>e=.returned (.bool r)∧w'=w:=by
 have h8:=@run_callFunc_extern Tryz.prog 82 _ Extern.ReflectliteType.typeOf Tryz.func82 (by kernel_rfl) (by kernel_rfl) (by kernel_rfl) (by kernel_rfl)
 have h32:=run_cmpM
 have tT:=typeOfRoot
 have cT:=isComparable
 have mR:=isMethodComparable
 have hc:=erris_any v a t w h ha ht r hr
 obtain⟨ty,x,rfl⟩:∃ ty x,v=.iface ty x:=by obtain⟨_,hc⟩:=h;exact hc.iface
 have HC:Hid (Calls Tryz.prog 83 #[.iface ty x,.iface 284 (.pointer (some t)),.bool true] w fun e w'=>e=.returned (.bool r)∧w'=w):=hc
 clear hc hr ha ht h
 go_enter Tryz.func64,Tryz.ntmps64
 go_wp2_with fail
 refine HC.out.mono ?_
 rintro e w' ⟨rfl,rfl⟩
 go_wp2_with fail
 go_ret
 exact⟨rfl,rfl⟩
end
section
open Go.RowKit
def markV:V:=⟨-7,0,⟨#[109,97,114,107]⟩⟩
theorem cells_len (vs:List V):(vs.flatMap V.cells).length=vs.length*3:=by
 induction vs with
 |nil=>rfl
 |cons v vs ih=>rw[List.flatMap_cons,List.length_append,ih];simp[V.cells];omega
theorem vals_src {w:World}{b o:Nat}{xs:List V}(h:∀ i v,xs[i]?=some v→VAt w b (o+i*3) v):∀ j u,(xs.flatMap V.cells)[j]?=some u→w.cell? ((⟨b,o,none⟩:Addr).add j)=some u:=by
 intro j u hj
 have key:∀ (us:List V) (j:Nat) (u:Value),(us.flatMap V.cells)[j]?=some u→∃ i v,us[i]?=some v∧((j=i*3∧u=.int .i64 v.k)∨(j=i*3+1∧u=.int .i64 v.n)∨(j=i*3+2∧u=.string v.s)):=by
  intro us
  induction us with
  |nil=>intro j u h;simp at h
  |cons v us ih=>
   intro j u h
   match j,h with
   |0,h=>exact⟨0,v,rfl,by simp[V.cells]at h;simp[h]⟩
   |1,h=>exact⟨0,v,rfl,by simp[V.cells]at h;simp[h]⟩
   |2,h=>exact⟨0,v,rfl,by simp[V.cells]at h;simp[h]⟩
   |j+3,h=>
    obtain⟨i,v',hi,hc⟩:=ih j u (by simpa [V.cells] using h)
    refine⟨i+1,v',by simpa using hi,?_⟩
    rcases hc with⟨e,hu⟩|⟨e,hu⟩|⟨e,hu⟩
    ·exact .inl ⟨by omega,hu⟩
    ·exact .inr (.inl ⟨by omega,hu⟩)
    exact .inr (.inr ⟨by omega,hu⟩)
 obtain⟨i,v,hi,hc⟩:=key xs j u hj
 obtain⟨h1,h2,h3⟩:=h i v hi
 have hadd:(⟨b,o,none⟩:Addr).add j=⟨b,o+j,none⟩:=by unfold Addr.add;split<;>simp_all
 rw[hadd]
 rcases hc with⟨e,hu⟩|⟨e,hu⟩|⟨e,hu⟩
 ·rw[e,hu];exact h1
 ·rw[e,hu,←Nat.add_assoc];exact h2
 rw[e,hu,←Nat.add_assoc];exact h3
theorem cells_one (vs:List V):∀ u∈vs.flatMap V.cells,u.oneCell'=true:=by
 intro u hu
 obtain⟨v,_,hv⟩:=List.mem_flatMap.1 hu
 simp[V.cells]at hv
 rcases hv with rfl|rfl|rfl<;>rfl
theorem run_copy_V (w:World)(ty:TypeId)(g dLen dCap:Nat)(a:Option Addr)(cap:Nat)(xs:List V)(hx:Vals w a xs)(cur:Array Value)(hg:w.heap[g]?=some (.cells cur 61 (0,0)))(hd:xs.length≤dLen)(hsz:xs.length*3≤cur.size) :
  (Builtin.copy_ #[72,72] ty #[.slice (some ⟨g,0,none⟩) dLen dCap,.slice a xs.length cap]).run Tryz.prog w=
   .ok (goInt xs.length) (w.setRow g (xs.flatMap V.cells++cur.toList.drop (xs.length*3)).toArray):=by
 obtain⟨i,hi,hz,hs3,hby⟩:=info_parts infoV
 have hmin:Nat.min xs.length dLen=xs.length:=Nat.min_eq_left hd
 have hl3:=cells_len xs
 have hst:=run_storeCells_at Tryz.prog g 0 61 (xs.flatMap V.cells) 0 cur w hg (by omega) (cells_one xs)
 simp only[Nat.zero_add,List.take_zero,List.nil_append,hl3]at hst
 have hu:Tryz.prog.underlying 72=some (.slice 61):=by kernel_rfl
 rcases hx with hx|⟨b,o,rfl,hb,hx⟩
 ·subst hx
  simp at hst
  cases a with
  |none=>simp[Builtin.copy_,run_underlying hu,Builtin.lenOf,Builtin.firstCells,sizeOf,typeInfo,hi,hst]
  |some a=>
   have hl:=run_loadCells_list (P:=Tryz.prog) w a [] (by intro j v h;simp at h)
   rw[List.length_nil]at hl
   simp[Builtin.copy_,run_underlying hu,Builtin.lenOf,Builtin.firstCells,sizeOf,typeInfo,hi,hl,hst]
 have hl:=run_loadCells_list (P:=Tryz.prog) w ⟨b,o,none⟩ (xs.flatMap V.cells) (vals_src hx)
 rw[hl3]at hl
 simp[Builtin.copy_,run_underlying hu,Builtin.lenOf,Builtin.firstCells,sizeOf,typeInfo,hi,hs3,hmin,hl,hst]
def RowT (w:World)(g:Nat)(vs:List V)(tl:List Value):Prop:=∃ C:Array Value,w.heap[g]?=some (.cells C 61 (0,0))∧C.toList=vs.flatMap V.cells++tl
theorem RowT.of_block {w w':World}{g:Nat}{vs:List V}{tl:List Value}(h:RowT w g vs tl)(e:w'.heap[g]?=w.heap[g]?):RowT w' g vs tl:=by
 obtain⟨C,hg,hC⟩:=h
 exact⟨C,by rw[e];exact hg,hC⟩
theorem RowT.lt {w:World}{g:Nat}{vs:List V}{tl:List Value}(h:RowT w g vs tl):g<w.heap.size:=by
 obtain⟨C,hg,_⟩:=h
 rcases Nat.lt_or_ge g w.heap.size with h'|h'
 ·exact h'
 simp[Array.getElem?_eq_none h']at hg
theorem RowT.cell {w:World}{g:Nat}{vs:List V}{tl:List Value}(h:RowT w g vs tl){j:Nat}{x:Value}(hj:tl[j]?=some x):w.cell? ⟨g,vs.length*3+j,none⟩=some x∧w.frozen? ⟨g,vs.length*3+j,none⟩=false:=by
 obtain⟨C,hg,hC⟩:=h
 have:C[vs.length*3+j]?=some x:=by
  rw[←Array.getElem?_toList,hC,List.getElem?_append_right (by rw[cells_len];omega),cells_len]
  have e:vs.length*3+j-vs.length*3=j:=by omega
  rw[e];exact hj
 exact⟨by simp[World.cell?,hg,this],by simp[World.frozen?,hg]⟩
theorem RowT.vals {w:World}{g:Nat}{vs:List V}{tl:List Value}(h:RowT w g vs tl):Vals w (some ⟨g,0,none⟩) vs:=by
 have hlt:=h.lt
 obtain⟨C,hg,hC⟩:=h
 have hown:w.ownsRow 0 61 3 (.slice (some ⟨g,0,none⟩) vs.length C.size) vs.length (vs.flatMap V.cells)→True:=fun _=>trivial
 clear hown
 refine .inr ⟨g,0,rfl,hlt,fun i v hi=>?_⟩
 have key:∀ (us:List V) (i:Nat) (v:V),us[i]?=some v→(us.flatMap V.cells)[i*3]?=some (.int .i64 v.k)∧(us.flatMap V.cells)[i*3+1]?=some (.int .i64 v.n)∧(us.flatMap V.cells)[i*3+2]?=some (.string v.s):=by
  intro us
  induction us with
  |nil=>intro i v h;simp at h
  |cons u us ih=>
   intro i v h
   cases i with
   |zero=>simp at h;subst h;simp[V.cells]
   |succ i=>
    have:=ih i v (by simpa using h)
    have e0:(i+1)*3=i*3+3:=by omega
    simp only[List.flatMap_cons,V.cells,e0]
    simpa using this
 obtain⟨k1,k2,k3⟩:=key vs i v hi
 have hin:i<vs.length:=by
  rcases Nat.lt_or_ge i vs.length with h'|h'
  ·exact h'
  rw[List.getElem?_eq_none h']at hi;simp at hi
 have g1:C[i*3]?=some (.int .i64 v.k):=by rw[←Array.getElem?_toList,hC,List.getElem?_append_left (by rw[cells_len];omega)];exact k1
 have g2:C[i*3+1]?=some (.int .i64 v.n):=by rw[←Array.getElem?_toList,hC,List.getElem?_append_left (by rw[cells_len];omega)];exact k2
 have g3:C[i*3+2]?=some (.string v.s):=by rw[←Array.getElem?_toList,hC,List.getElem?_append_left (by rw[cells_len];omega)];exact k3
 unfold VAt
 simp only[World.cell?,hg,Nat.zero_add]
 simp[g1,g2,g3]
theorem set_tl (C:Array Value)(pre tl:List Value)(x y:Value)(n:Nat)(h:C.toList=pre++x::tl)(hn:pre.length=n):(C.setIfInBounds n y).toList=(pre++[y])++tl:=by
 rw[Array.toList_setIfInBounds,h,List.set_append_right _ _ (by omega),hn,Nat.sub_self]
 simp
theorem RowT.set3 {w:World}{g:Nat}{vs:List V}{x0 x1 x2:Value}{tl:List Value}(h:RowT w g vs (x0::x1::x2::tl))(v:V)(n:Nat)(hn:n=vs.length) :
  RowT (((w.setCell ⟨g,n*3,none⟩ (.int .i64 v.k)).setCell ⟨g,n*3+1,none⟩ (.int .i64 v.n)).setCell ⟨g,n*3+2,none⟩ (.string v.s)) g (vs++[v]) tl:=by
 subst hn
 obtain⟨C,hg,hC⟩:=h
 have hl:=cells_len vs
 have h1:=set_tl C _ _ _ (.int .i64 v.k) _ hC hl
 have h2:=set_tl _ _ _ _ (.int .i64 v.n) (vs.length*3+1) h1 (by simp[hl])
 have h3:=set_tl _ _ _ _ (.string v.s) (vs.length*3+2) h2 (by simp[hl])
 refine⟨_,?_,h3.trans ?_⟩
 ·simp[World.setCell,Array.getElem?_modify,hg]
 simp[V.cells]
end
section
open Go.RowKit
end
section
open Go.RowKit
theorem grown_trans {w w1 w2:World}{r:Option Nat}(h:w.grownBy w1 r)(k:w1.grownBy w2 r):w.grownBy w2 r:=
 ⟨k.os.trans h.os,k.tape.trans h.tape,k.output.trans h.output,Nat.le_trans h.size k.size,fun j hj hne=>(k.block j (Nat.lt_of_lt_of_le hj h.size) hne).trans (h.block j hj hne)⟩
theorem grown_below {w w':World}{r:Option Nat}(h:Below w.heap.size w w'):w.grownBy w' r:=⟨h.os,h.tape,h.output,h.size,fun j hj _=>h.block j hj⟩
theorem grown_set {w w':World}{g:Nat}(h:w.grownBy w' (some g))(o:Nat)(v:Value):w.grownBy (w'.setCell ⟨g,o,none⟩ v) (some g):=
 ⟨h.os,h.tape,h.output,by simpa [World.setCell] using h.size,fun j hj hne=>(Below.heap_setCell _ _ _ _ (fun e=>hne (by rw[e]))).trans (h.block j hj hne)⟩
theorem RowT.at3 {w:World}{g:Nat}{ys:List V}(h:RowT w g ys [])(v:V)(k:Nat)(hk:k<ys.length) :
  ((w.cell? ⟨g,k*3,none⟩=some (.int .i64 ys[k].k)∧w.frozen? ⟨g,k*3,none⟩=false)∧(w.cell? ⟨g,k*3+1,none⟩=some (.int .i64 ys[k].n)∧w.frozen? ⟨g,k*3+1,none⟩=false)∧(w.cell? ⟨g,k*3+2,none⟩=some (.string ys[k].s)∧w.frozen? ⟨g,k*3+2,none⟩=false)) ∧
  RowT (((w.setCell ⟨g,k*3,none⟩ (.int .i64 v.k)).setCell ⟨g,k*3+1,none⟩ (.int .i64 v.n)).setCell ⟨g,k*3+2,none⟩ (.string v.s)) g (ys.set k v) []:=by
 obtain⟨C,hg,hC⟩:=h
 rw[List.append_nil]at hC
 have hsplit:ys=ys.take k++ys[k]::ys.drop (k+1):=by rw[←List.drop_eq_getElem_cons hk,List.take_append_drop]
 have hlen:(ys.take k).length=k:=by rw[List.length_take];omega
 have h1:RowT w g (ys.take k) (ys[k].cells++(ys.drop (k+1)).flatMap V.cells):=by
  refine⟨C,hg,?_⟩
  rw[hC]
  conv=>lhs;rw[hsplit]
  rw[List.flatMap_append,List.flatMap_cons]
 have c0:=h1.cell (j:=0) rfl
 have c1:=h1.cell (j:=1) rfl
 have c2:=h1.cell (j:=2) rfl
 rw[hlen]at c0 c1 c2
 rw[Nat.add_zero]at c0
 refine⟨⟨c0,c1,c2⟩,?_⟩
 obtain⟨C',hg',hC'⟩:=h1.set3 v k hlen.symm
 refine⟨C',hg',?_⟩
 rw[hC',List.append_nil]
 have hset:ys.set k v=ys.take k++v::ys.drop (k+1):=by
  rw[List.set_eq_take_append_cons_drop,if_pos hk]
 rw[hset]
 simp[V.cells]
end
section
def fstep (s:Nat)(b:UInt8):Nat:=((s ^^^ b.toNat)*1099511628211) % 18446744073709551616
def fsum (l:List UInt8):Nat:=l.foldl fstep 14695981039346656037
def le7 (u:Nat):List UInt8:=(List.range 7).map fun i=>UInt8.ofNat (u / 256 ^ i % 256)
def sumB (l:List UInt8):List UInt8:=le7 (fsum l)
def body (piece:List UInt8):List UInt8:=piece++List.replicate (56-piece.length) 0++[UInt8.ofNat piece.length]
def sealP (piece:List UInt8):List UInt8:=body piece++sumB (body piece)
theorem body_length {piece:List UInt8}(h:piece.length≤56):(body piece).length=57:=by
 simp[body];omega
theorem le7_length (u:Nat):(le7 u).length=7:=by simp[le7]
theorem sumB_length (l:List UInt8):(sumB l).length=7:=le7_length _
end
section
open Go.RowKit
def PgAt (w:World)(b:Nat)(p:List UInt8):Prop:=p.length=64∧w.rowIs b 277 64 (fun j=>bv (p.getD j 0))
theorem PgAt.of_block {w w':World}{b:Nat}{p:List UInt8}(h:PgAt w b p)(e:w'.heap[b]?=w.heap[b]?):PgAt w' b p:=⟨h.1,h.2.of_block e⟩
theorem PgAt.below {w w':World}{b:Nat}{p:List UInt8}(h:PgAt w b p)(hb:Below w.heap.size w w'):PgAt w' b p:=h.of_block (hb.block _ h.2.lt)
theorem u64_xor (x y:Nat)(hx:x<18446744073709551616)(hy:y<18446744073709551616):bits .xor .u64 (x:Int) (y:Int)=((x ^^^ y:Nat):Int):=by
 have hxy:x ^^^ y<18446744073709551616:=Nat.xor_lt_two_pow (n:=64) hx hy
 have key:(BitVec.ofInt 64 (x:Int) ^^^ BitVec.ofInt 64 (y:Int)).toNat=x ^^^ y:=by
  rw[BitVec.toNat_xor,BitVec.toNat_ofInt,BitVec.toNat_ofInt]
  have e1:((x:Int) % ((2 ^ 64:Nat):Int)).toNat=x:=by omega
  have e2:((y:Int) % ((2 ^ 64:Nat):Int)).toNat=y:=by omega
  rw[e1,e2]
 show IntKind.u64.wrap ((BitVec.ofInt 64 (x:Int) ^^^ BitVec.ofInt 64 (y:Int)).toNat:Nat)=_
 rw[key,IntKind.wrap_u64]
 omega
theorem fold_take (p:List UInt8)(k:Nat)(hk:k<p.length)(s:Nat):(p.take (k+1)).foldl fstep s=fstep ((p.take k).foldl fstep s) (p.getD k 0):=by
 rw[List.take_succ_eq_append_getElem hk,List.foldl_append,List.foldl_cons,List.foldl_nil]
 congr 1
 simp[hk]
theorem dSum_any (b:Nat)(p:List UInt8)(w:World)(h:PgAt w b p) :
  Calls Tryz.prog 154 #[.pointer (some ⟨b,0,none⟩)] w fun e w'=>e=.returned (.string (str (sumB (p.take 57))))∧Below w.heap.size w w':=by
 go_enter Tryz.func154,Tryz.ntmps154
 go_wp2
 go_loopw [3,12] (fun s i wr=>∃ k z:Nat,k≤57∧i=.int .i64 k∧s=.int .u64 z∧z<18446744073709551616∧Hid (z=(p.take k).foldl fstep 14695981039346656037)∧(∃ m,wr=w.drewN m)) (fun _ i _=>57-(intOf i).toNat)
 case atStart=>exact⟨0,14695981039346656037,by omega,rfl,rfl,by decide,rfl,0,rfl⟩
 case round=>
  rename_i s i
  obtain⟨k,z,hk,rfl,rfl,hz,HZ,m,rfl⟩:=hrel
  by_cases hlt:k<57
  ·obtain⟨n,hn,HU⟩:∃ n:Nat,n<256∧Hid (n=(p.getD k 0).toNat):=⟨_,(p.getD k 0).toNat_lt,rfl⟩
   have hc:w.cell? ⟨b,k,none⟩=some (.int .u8 (n:Nat)):=by rw[h.2.cell (i:=k) (by omega),HU.out];rfl
   have hx:=u64_xor z n hz (by omega)
   have hxl:z ^^^ n<18446744073709551616:=Nat.xor_lt_two_pow (n:=64) hz (by omega)
   have HF:Hid (fstep z (p.getD k 0)=((z ^^^ n)*1099511628211) % 18446744073709551616):=by show fstep _ _=_;rw[HU.out];rfl
   generalize z ^^^ n=x at *
   go_wp2
   go_roundw
   case rel=>
    refine⟨k+1,(x*1099511628211) % 18446744073709551616,by omega,by go_num,?_,by omega,?_,m,rfl⟩
    ·have e:((x*1099511628211 % 18446744073709551616:Nat):Int)=(x:Int)*1099511628211 % 18446744073709551616:=by omega
     rw[IntKind.wrap_u64,e]
    exact(HF.out.symm.trans (by rw[HZ.out])).trans (fold_take p k (by rw[h.1];omega) _).symm
   case measure=>simp[intOf];omega
  obtain rfl:k=57:=by omega
  go_wp2
  go_loopw [22] (fun i wr=>∃ k:Nat,k≤7∧i=.int .i64 k∧wr.rowIs w.heap.size 283 7 (fun j=>bv (if j<k then (le7 z).getD j 0 else 0))∧Below w.heap.size w wr) (fun i _=>7-(intOf i).toNat)
  case atStart=>
   refine⟨0,by omega,rfl,World.rowIs_alloc _ _ _ _ ?_,(below_drewN (Below.refl _ w) m).alloc (Nat.le_refl _) _⟩
   intro i hi
   match i,hi with
   |0,_=>rfl
   |1,_=>rfl
   |2,_=>rfl
   |3,_=>rfl
   |4,_=>rfl
   |5,_=>rfl
   |6,_=>rfl
  case round=>
   rename_i i
   obtain⟨k,hk,rfl,hrow,hbw⟩:=hrel
   by_cases hlt:k<7
   ·have hc:=hrow.cell (i:=k) (by omega)
    have hf:=hrow.frozen k
    go_wp2
    go_roundw
    case rel=>
     refine⟨k+1,by omega,by go_num,(hrow.set k _).congr fun j hj=>?_,hbw.setCell (p:=⟨w.heap.size,k,none⟩) (Nat.le_refl _) _⟩
     by_cases hjk:j=k
     ·subst hjk
      have hp:(2:Int) ^ (8*j)=((256 ^ j:Nat):Int):=by
       have:(256:Nat) ^ j=2 ^ (8*j):=by rw[Nat.pow_mul]
       rw[this]
       simp
      simp[le7,hlt,bv,hp]
     have:(j<k+1)=(j<k):=by rw[eq_iff_iff];omega
     simp[hjk,this]
    case measure=>simp[intOf];omega
   obtain rfl:k=7:=by omega
   have hcv:(convert 212 9 (.slice (some ⟨w.heap.size,0,none⟩) 7 7)).run Tryz.prog wr=.ok (.string (str (le7 z))) wr:=by
    have:=run_conv_bytes wr ⟨w.heap.size,0,none⟩ 7 (le7 z) (fun j u hj=>?_)
    ·rwa [le7_length]at this
    have hj7:j<7:=by
     rcases Nat.lt_or_ge j 7 with h'|h'
     ·exact h'
     ·rw[List.getElem?_eq_none (by simp[le7_length];exact h')]at hj;simp at hj
    have:=hrow.cell (i:=j) hj7
    rw[Addr.add_mid]
    simp only[Nat.zero_add]
    rw[this]
    simp[hj7,le7_length]at hj ⊢
    exact hj
   go_wp2
   go_ret
   refine⟨?_,hbw⟩
   show Ending.returned (Value.string (str (le7 z)))=_
   rw[show sumB (p.take 57)=le7 z by unfold sumB fsum;rw[←HZ.out]]
theorem size_u8 (w:World):(Go.sizeOf 5).run Tryz.prog w=.ok 1 w:=by kernel_rfl
theorem str_data (l:List UInt8):(str l).data.toList=l:=by simp[str]
theorem page_row (w:World)(C:Array Value)(hC:C=Array.replicate 64 (.int .u8 0)):(w.alloc (.cells C 277)).rowIs w.heap.size 277 64 (fun _=>bv 0):=by
 subst hC
 refine World.rowIs_alloc _ _ _ _ fun i hi=>?_
 simp at hi
 rw[Array.getElem?_replicate,if_pos hi]
 rfl
theorem page_body (piece:List UInt8)(hp:piece.length≤56)(j:Nat)(hj:j<64) :
  (if j=56 then Value.int .u8 ((piece.length:Nat):Int)else if 0≤j∧j<0+(piece.map fun x=>Value.int .u8 (x.toNat:Int)).length then (piece.map fun x=>Value.int .u8 (x.toNat:Int))[j-0]?.getD default else bv 0)=bv ((body piece++List.replicate 7 0).getD j 0):=by
 by_cases h56:j=56
 ·subst h56
  have e:(body piece++List.replicate 7 0).getD 56 0=UInt8.ofNat piece.length:=by
   rw[List.getD_eq_getElem?_getD,List.getElem?_append_left (by rw[body_length hp];omega),body,List.getElem?_append_right (by simp;omega)]
   have:56-(piece++List.replicate (56-piece.length) (0:UInt8)).length=0:=by simp;omega
   rw[this];rfl
  rw[if_pos rfl,e]
  simp[bv]
  omega
 rw[if_neg h56]
 by_cases hl:j<piece.length
 ·rw[if_pos (by simp;omega)]
  have e:(body piece++List.replicate 7 0).getD j 0=piece[j]:=by
   rw[List.getD_eq_getElem?_getD,List.getElem?_append_left (by rw[body_length hp];omega),body,List.append_assoc,List.getElem?_append_left hl]
   simp[hl]
  rw[e]
  simp[hl,bv]
 rw[if_neg (by simp;omega)]
 have e:(body piece++List.replicate 7 0).getD j 0=0:=by
  rw[List.getD_eq_getElem?_getD]
  rcases Nat.lt_or_ge j 57 with h|h
  ·rw[List.getElem?_append_left (by rw[body_length hp];omega),body,List.getElem?_append_left (by simp;omega),List.getElem?_append_right (by omega),List.getElem?_replicate]
   split<;>rfl
  rw[List.getElem?_append_right (by rw[body_length hp];omega),List.getElem?_replicate]
  split<;>rfl
 rw[e]
theorem page_seal (bd sb:List UInt8)(hb:bd.length=57)(hs:sb.length=7)(j:Nat)(hj:j<64) :
  (if 57≤j∧j<57+(sb.map fun x=>Value.int .u8 (x.toNat:Int)).length then (sb.map fun x=>Value.int .u8 (x.toNat:Int))[j-57]?.getD default else bv ((bd++List.replicate 7 0).getD j 0))=bv ((bd++sb).getD j 0):=by
 by_cases h:57≤j
 ·rw[if_pos (by simp[hs];omega),List.getD_eq_getElem?_getD,List.getElem?_append_right (by omega),hb]
  simp[show j-57<sb.length by omega,bv]
 rw[if_neg (by simp;omega),List.getD_eq_getElem?_getD,List.getD_eq_getElem?_getD,List.getElem?_append_left (by omega),List.getElem?_append_left (by omega)]
theorem seal_any (piece:List UInt8)(hp:piece.length≤56)(w:World) :
  Calls Tryz.prog 141 #[.string (str piece)] w fun e w'=>e=.returned (.pointer (some ⟨w.heap.size,0,none⟩))∧PgAt w' w.heap.size (sealP piece)∧Below w.heap.size w w':=by
 have hsz:=str_size piece
 go_enter Tryz.func141,Tryz.ntmps141
 go_upto_region 2 with fail
 generalize hZ:World.alloc w (Obj.cells _ 277)=W0
 have hr0:W0.rowIs w.heap.size 277 64 (fun _=>bv 0):=by rw[←hZ];exact page_row w _ rfl
 have hb0:Below w.heap.size w W0:=by rw[←hZ];exact(Below.refl _ w).alloc (Nat.le_refl _) _
 clear hZ
 have hcp:=run_copy_string (P:=Tryz.prog) W0 212 9 3 5 w.heap.size 0 64 64 (str piece) Tryz.underlying212 size_u8 (by omega)
  (fun j hj=>by rw[Nat.zero_add,hr0.cell (by omega)];rfl) (fun j hj=>by rw[Nat.zero_add];exact hr0.frozen j)
 have hr1:=rowIs_setCells ((str piece).data.toList.map fun x=>Value.int .u8 (x.toNat:Int)) 0 _ _ hr0
 have hb1:=below_setCells (Nat.le_refl w.heap.size) ((str piece).data.toList.map fun x=>Value.int .u8 (x.toNat:Int)) 0 _ hb0
 generalize W0.setCells w.heap.size 0 ((str piece).data.toList.map fun x=>Value.int .u8 (x.toNat:Int))=W1 at *
 have c56:=hr1.cell (i:=56) (by omega)
 have f56:=hr1.frozen 56
 go_upto_region 4 with fail
 have hr2:=hr1.set 56 (.int .u8 ((piece.length:Nat):Int))
 have hb2:=hb1.setCell (p:=⟨w.heap.size,56,none⟩) (Nat.le_refl _) (.int .u8 ((piece.length:Nat):Int))
 generalize W1.setCell ⟨w.heap.size,56,none⟩ (.int .u8 ((piece.length:Nat):Int))=W2 at *
 have hpg:PgAt W2 w.heap.size (body piece++List.replicate 7 0):=by
  refine⟨by simp[body_length hp],hr2.congr fun j hj=>?_⟩
  rw[str_data]
  exact page_body piece hp j hj
 clear hcp hr1 hb1 c56 f56 hr2 hr0 hb0
 have htk:(body piece++List.replicate 7 0).take 57=body piece:=by
  rw[List.take_append_of_le_length (by rw[body_length hp];exact Nat.le_refl _),List.take_of_length_le (by rw[body_length hp];exact Nat.le_refl _)]
 have hsum:=dSum_any w.heap.size _ W2.drew (hpg.of_block rfl)
 rw[htk]at hsum
 have hs7:=sumB_length (body piece)
 have HS:Hid (sealP piece=body piece++sumB (body piece)):=rfl
 generalize sumB (body piece)=sb at *
 go_region_with (first|(go_at_call 154;refine hsum.mono ?_;rintro e w3 ⟨rfl,hb3⟩;have hr3:=(hpg.below (below_undrew hb3)).2;have hcp3:=run_copy_string (P:=Tryz.prog) w3 212 9 3 5 w.heap.size 57 7 7 (str sb) Tryz.underlying212 size_u8 (by rw[str_size,hs7];omega) (fun j hj=>by rw[str_size,hs7]at hj;rw[hr3.cell (by omega)];rfl) (fun j hj=>hr3.frozen _)))
 have hr4:=rowIs_setCells ((str sb).data.toList.map fun x=>Value.int .u8 (x.toNat:Int)) 57 _ _ hr3
 have hb4:=below_setCells (Nat.le_refl w.heap.size) ((str sb).data.toList.map fun x=>Value.int .u8 (x.toNat:Int)) 57 _ (hb2.trans ((below_undrew hb3).mono hb2.size))
 go_wp2
 go_ret
 refine⟨rfl,⟨by rw[HS.out];simp[body_length hp,hs7],hr4.congr fun j hj=>?_⟩,hb4⟩
 rw[str_data,HS.out]
 exact page_seal (body piece) sb (body_length hp) hs7 j hj
def isTab (name:ByteArray)(ts:List Int)(rs:List (List V)):Prop:=
 (1≤name.size∧name.size≤20)∧((1≤ts.length∧ts.length≤6)∧∀ j (hj:j<ts.length),typeOk ts[j]=true)∧rs.length≤200∧∀ i (hi:i<rs.length),rs[i].length=ts.length∧∀ j (hj:j<rs[i].length),okB (ts.getD j 0) rs[i][j].k rs[i][j].n rs[i][j].s=true
open Classical in
theorem isTable_any (name:ByteArray)(at_ ar:Option Addr)(ct cr:Nat)(ts:List Int)(hs:List (Option Addr×Nat))(rs:List (List V))(w:World)(hnn:name.size≤maxLen)(hn:ts.length≤maxLen)(hr:rs.length≤maxLen)(hrr:∀ r∈rs,r.length≤maxLen)(hx:Ints w at_ ts)(hy:RowsAt w ar hs rs) :
  Calls Tryz.prog 67 #[.agg #[.string name,.slice at_ ts.length ct,.slice ar rs.length cr]] w fun e w'=>e=.returned (.bool (decide (isTab name ts rs)))∧Below w.heap.size w w':=by
 have hx0:=hx.below (w':=w.alloc (.cells #[.string name,.slice at_ ts.length ct,.slice ar rs.length cr] 40)) ((Below.refl _ _).alloc (Nat.le_refl _) _)
 obtain⟨bt,hbt⟩:∃ bt:Bool,bt=true↔(1≤ts.length∧ts.length≤6)∧∀ j (hj:j<ts.length),typeOk ts[j]=true:=⟨decide _,decide_eq_true_iff⟩
 have hat:=areTypes_any at_ ct ts _ hn hx0 bt hbt
 have HT:Hid (bt=true↔(1≤ts.length∧ts.length≤6)∧∀ j (hj:j<ts.length),typeOk ts[j]=true):=hbt
 clear hbt
 unfold maxLen at hnn hn hr
 obtain⟨b,HB⟩:∃ b:Bool,Hid (b=decide (isTab name ts rs)):=⟨_,rfl⟩
 rw[←HB.out]
 have HBI:Hid (b=true↔isTab name ts rs):=by show _↔_;rw[HB.out];exact decide_eq_true_iff
 clear HB hx0
 have hB0:Below w.heap.size w (w.alloc (.cells #[.string name,.slice at_ ts.length ct,.slice ar rs.length cr] 40)):=(Below.refl _ _).alloc (Nat.le_refl _) _
 have no:¬ isTab name ts rs→Hid (b=false):=fun h=>by
  show b=false
  cases hb:b with
  |false=>rfl
  |true=>exact absurd (HBI.out.1 hb) h
 have NO:Hid (¬ isTab name ts rs→Hid (b=false)):=no
 clear no
 by_cases h1:name.size<1
 ·have H0:Hid (b=false):=NO.out fun h=>by have:=h.1;omega
  go_enter Tryz.func67,Tryz.ntmps67
  go_wp2_with (go_at_call 90;refine hat.mono ?_;rintro e w' ⟨rfl,hw'⟩;subst w')
  go_ret
  exact⟨ret_bool H0.out.symm,hB0⟩
 by_cases h2:20<name.size
 ·have H0:Hid (b=false):=NO.out fun h=>by have:=h.1;omega
  go_enter Tryz.func67,Tryz.ntmps67
  go_wp2_with (go_at_call 90;refine hat.mono ?_;rintro e w' ⟨rfl,hw'⟩;subst w')
  go_ret
  exact⟨ret_bool H0.out.symm,hB0⟩
 cases hbt:bt with
 |false=>
  subst hbt
  have H0:Hid (b=false):=NO.out fun h=>by have:=HT.out.2 h.2.1;simp at this
  go_enter Tryz.func67,Tryz.ntmps67
  go_wp2_with (go_at_call 90;refine hat.mono ?_;rintro e w' ⟨rfl,hw'⟩;subst w')
  go_ret
  exact⟨ret_bool H0.out.symm,hB0⟩
 |true=>
  subst hbt
  by_cases h3:200<rs.length
  ·have H0:Hid (b=false):=NO.out fun h=>by have:=h.2.2.1;omega
   go_enter Tryz.func67,Tryz.ntmps67
   go_wp2_with (go_at_call 90;refine hat.mono ?_;rintro e w' ⟨rfl,hw'⟩;subst w')
   go_ret
   exact⟨ret_bool H0.out.symm,hB0⟩
  have HRR:Hid (∀ r∈rs,r.length≤maxLen):=hrr
  clear hrr
  go_enter Tryz.func67,Tryz.ntmps67
  go_wp2_with (go_at_call 90;refine hat.mono ?_;rintro e w' ⟨rfl,hw'⟩;subst w')
  go_loopw [30] (fun i wr=>∃ k:Nat,k≤rs.length∧i=.int .i64 k∧Below (w.alloc (.cells #[.string name,.slice at_ ts.length ct,.slice ar rs.length cr] 40)).heap.size (w.alloc (.cells #[.string name,.slice at_ ts.length ct,.slice ar rs.length cr] 40)) wr∧Hid (∀ i (hi:i<rs.length),i<k→rs[i].length=ts.length∧∀ j (hj:j<rs[i].length),okB (ts.getD j 0) rs[i][j].k rs[i][j].n rs[i][j].s=true)) (fun i _=>rs.length-(intOf i).toNat)
  case atStart=>exact⟨0,Nat.zero_le _,rfl,Below.refl _ _,fun j _ hj=>absurd hj (Nat.not_lt_zero _)⟩
  case round=>
   obtain⟨k,hk,rfl,hbw,hall⟩:=hrel
   have hbw0:=below_behind hbw
   have c1:wr.cell? ⟨w.heap.size,1,none⟩=some (.slice at_ ts.length ct):=by rw[(below_keep hbw).1 w.heap.size 1 (by simp)];simp
   by_cases hlt:k<rs.length
   ·obtain⟨b1,o1,ra,rc,rfl,hb1,x1,hv⟩:=(hy.below hbw0).at hlt
    obtain⟨br,hbr⟩:∃ br:Bool,br=true↔rs[k].length=ts.length∧∀ j (hj:j<rs[k].length),okB (ts.getD j 0) rs[k][j].k rs[k][j].n rs[k][j].s=true:=⟨decide _,decide_eq_true_iff⟩
    have hir:=isRow_any ra at_ rc ct rs[k] ts wr (HRR.out _ (List.getElem_mem hlt)) hv (hx.below hbw0) br hbr
    have HR:Hid (br=true↔rs[k].length=ts.length∧∀ j (hj:j<rs[k].length),okB (ts.getD j 0) rs[k][j].k rs[k][j].n rs[k][j].s=true):=hbr
    clear hbr hat
    cases hb:br with
    |false=>
     subst hb
     have H0:Hid (b=false):=NO.out fun h=>by have:=HR.out.2 (h.2.2.2 k hlt);simp at this
     go_wp2_with (go_at_call 91;refine hir.mono ?_;rintro e w' ⟨rfl,hb⟩)
     go_ret
     exact⟨ret_bool H0.out.symm,below_then hbw0 hb⟩
    |true=>
     subst hb
     go_wp2_with (go_at_call 91;refine hir.mono ?_;rintro e w' ⟨rfl,hb⟩)
     go_roundw
     case rel=>
      refine⟨k+1,by omega,by go_num,below_then hbw hb,fun i hi hik=>?_⟩
      by_cases e:i=k
      ·subst e;exact HR.out.1 (by simp)
      exact hall.out i hi (by omega)
     case measure=>simp[intOf];omega
   go_wp2
   go_ret
   exact⟨ret_bool (HBI.out.2 ⟨⟨by omega,by omega⟩,HT.out.1 (by simp),by omega,fun i hi=>hall.out i hi (by omega)⟩).symm,hbw0⟩
def OnlyN (Q:Exit→Act→World→Prop):Exit→Act→World→Prop
 |.normal,a,w=>Q .normal a w
 |_,_,_=>False
theorem OnlyN.imp {Q:Exit→Act→World→Prop}:∀ (e:Exit) (a:Act) (w:World),OnlyN Q e a w→Q e a w:=fun e a w h=>by
 cases e<;>first|exact h|exact(h:False).elim
theorem OnlyN.shut {Q:Exit→Act→World→Prop}:¬ LetsOut (OnlyN Q):=fun ⟨_,_,h⟩=>h
def noDefer (ops:Array Oper):Bool:=ops.all fun o=>match o.op with|.defer _=>false|_=>true
theorem noDefer_at {ops:Array Oper}(h:noDefer ops=true){i:Nat}{o:Oper}(ho:ops[i]?=some o):∀ c,o.op≠.defer c:=by
 intro c hc
 obtain⟨hi,rfl⟩:=Array.getElem?_eq_some_iff.1 ho
 have:=Array.all_eq_true.1 h i hi
 rw[hc]at this
 simp at this
theorem upon_round {P:Program}{l n:Nat}{o:Oper}{a:Act}{next:Act→World→Prop}{Q:Exit→Act→World→Prop}{r:Result Next}(h:o.upon P a next Q r):o.uponIn (Fence.wide.inRound l) n P a next Q r:=by
 cases r with
 |ok nx w=>
  cases nx<;>simp only[Oper.upon]at h
  case value v=>exact h
  case skip=>exact h
  case defer d=>exact h
  case enter f args=>exact⟨fun hd=>absurd hd (by simp[Fence.inRound,Fence.wide]),CallsIn.inRound l (callsIn_wide.2 h)⟩
  case row row args=>
   refine⟨fun hd=>absurd hd (by simp[Fence.inRound,Fence.wide]),fun c cs _=>?_⟩
   obtain⟨v,w',hr,hs⟩:=h c cs
   exact⟨v,w',hr,stepsIn_wide.2 hs⟩
 |halt x w=>
  cases x<;>simp only[Oper.upon]at h
  case panic v=>exact h
theorem wpOp_round {P:Program}{l n:Nat}{ops:Array Oper}{Q:Exit→Act→World→Prop}(hnd:noDefer ops=true)(hlo:¬ LetsOut Q){i:Nat}{K:Act→World→Prop}{a:Act}{w:World}(h:wpOp P ops Q i K a w):wpOpIn (Fence.wide.inRound l) n P ops Q i K a w:=by
 unfold wpOp at h
 unfold wpOpIn
 cases ho:ops[i]? with
 |none=>rw[ho]at h;exact h
 |some o=>
  rw[ho]at h
  simp only at h ⊢
  split
  ·rename_i hw
   rw[if_pos hw]at h
   have h':=h.resolve_right fun hh=>hlo hh.2
   refine⟨fun _ _=>trivial,?_⟩
   rw[Oper.semAt_plain (Fence.wide.inRound l) _ _ (noDefer_at hnd ho)]
   exact upon_round h'
  rename_i hw
  rw[if_neg hw]at h
  exact⟨fun _ _=>trivial,h⟩
theorem wpAny_round {P:Program}{l n:Nat}{md:Region.Mode}{ops:Array Oper}{Q:Exit→Act→World→Prop}(hnd:noDefer ops=true)(hlo:¬ LetsOut Q):∀ (fuel:Nat) (listed:Array Bool) (a:Act) (w:World),wpAny P md ops Q fuel listed a w→wpAnyIn (Fence.wide.inRound l) n P md ops Q fuel listed a w
 |0,_,_,_,h=>h
 |fuel+1,_,_,_,h=>⟨h.1,fun i hi=>wpOp_round hnd hlo (wpOp_mono (fun a' w' h'=>wpAny_round hnd hlo fuel _ a' w' h') (h.2 i hi))⟩
theorem region_round {P:Program}{l n id:Nat}{ops:Array Oper}{Q:Exit→Act→World→Prop}{S:World→Prop}{a:Act}{w:World}(hm:P.follows .mixedOrders=true)(hnd:noDefer ops=true)(hS:S w.drew)
  (h:S w.drew→wpAnyH P .any ops (OnlyN Q) S ops.size (Array.replicate ops.size false) a w.drew):(Code.region id ops true).wpIn (Fence.wide.inRound l) n P Q a w:=
 Code.wpIn_mono OnlyN.imp (wpIn_region_any hm (wpAny_round hnd OnlyN.shut _ _ _ _ (wpAny_of_held _ _ _ _ (h hS))))
variable {F:Fence} {n:Nat} {P:Program}
section
variable {P:Program} {md:Region.Mode} {ops:Array Oper} {Q:Exit→Act→World→Prop} {S:World→Prop} {m:Nat}
def wpAnyL (P:Program)(md:Region.Mode)(ops:Array Oper)(Q:Exit→Act→World→Prop)(S:World→Prop)(m:Nat):Nat→Array Bool→Act→World→Prop
 |0,listed,a,w=>Region.ready md ops listed=[]∧Q .normal a w
 |fuel+1,listed,a,w=>(Region.ready md ops listed=[]→Q .normal a w)∧∀ i∈Region.ready md ops listed,wpOp P ops Q i (fun a' w'=>(i≠m→S w')∧wpAnyL P md ops Q S m fuel (listed.setIfInBounds i true) a' w') a w
theorem wpAny_of_last:∀ (fuel:Nat)(listed:Array Bool)(a:Act)(w:World),wpAnyL P md ops Q S m fuel listed a w→wpAny P md ops Q fuel listed a w
 |0,_,_,_,h=>h
 |fuel+1,_,_,_,h=>⟨h.1,fun i hi=>wpOp_mono (fun a' w' h'=>wpAny_of_last fuel _ a' w' h'.2) (h.2 i hi)⟩
def waits (md:Region.Mode)(ops:Array Oper)(m i:Nat):Bool:=((ops[m]?).map fun o=>o.after.any fun e=>Region.binds md e&&e.on==i).getD false
theorem waits_spec {i:Nat}(h:waits md ops m i=true){o:Oper}(ho:ops[m]?=some o):∃ e∈o.after,Region.binds md e=true∧e.on=i:=by
 unfold waits at h
 rw[ho]at h
 simp only[Option.map_some,Option.getD_some,Array.any_eq_true']at h
 obtain⟨e,he,h2⟩:=h
 rw[Bool.and_eq_true,beq_iff_eq]at h2
 exact⟨e,he,h2⟩
theorem wpAnyL_first {i:Nat}{oi:Oper}{v:Value}(hi:ops[i]?=some oi)(hsel:∀ (j:Nat) (o:Oper) cs b,ops[j]?=some o→o.op≠.select cs b)(him:i≠m)(hwt:waits md ops m i=true)
  (hQ:∀ c a w,Q (.panic c) (a.put oi.dst v) w→Q (.panic c) a w) :
  ∀ (fuel:Nat) (listed:Array Bool) (a:Act) (w:World),
   (∀ j oj,ops[j]?=some oj→j≠i→listed.getD j true=false→(∀ e∈oj.after,Region.binds md e=true→e.on≠i)→oi.apart ops oj=true) →
   i∈Region.ready md ops listed→YieldsIf P ops S oi v a→S w →
   wpAnyL P md ops Q S m fuel (listed.setIfInBounds i true) (a.put oi.dst v) w→wpAnyL P md ops Q S m (fuel+1) listed a w:=by
 intro fuel
 induction fuel with
 |zero=>
  intro listed a w _ hr hy hS H
  refine⟨fun h=>(by rw[h]at hr;cases hr),fun j hj=>?_⟩
  by_cases hji:j=i
  ·subst hji;exact hy.wpOp hi hS ⟨fun _=>hS,H⟩
  have:=ready_mono hj hji
  rw[H.1]at this
  cases this
 |succ fuel ih=>
  intro listed a w hfree hr hy hS H
  refine⟨fun h=>(by rw[h]at hr;cases hr),fun j hj=>?_⟩
  by_cases hji:j=i
  ·subst hji;exact hy.wpOp hi hS ⟨fun _=>hS,H⟩
  have h1:=H.2 j (ready_mono hj hji)
  obtain⟨hjun,oj,hoj,hall⟩:=mem_ready.1 hj
  have hnot:∀ e∈oj.after,Region.binds md e=true→e.on≠i:=fun e he hb heq=>by
   have h1:=hall e he hb
   have h0:=(mem_ready.1 hr).1
   rw[heq]at h1
   rcases Nat.lt_or_ge i listed.size with h'|h'
   ·simp[h']at h0 h1;rw[h0]at h1;cases h1
   simp[Array.getElem?_eq_none h']at h1
  have hjm:j≠m:=fun e=>by
   subst e
   obtain⟨e,he,hb,ho⟩:=waits_spec hwt hoj
   exact hnot e he hb ho
  have h2:=wpOp_putIf hoj (hfree j oj hoj hji hjun hnot) (fun cs b=>hsel i oi cs b hi) (fun cs b=>hsel j oj cs b hoj) hQ hy h1
  have hfree':∀ k ok,ops[k]?=some ok→k≠i→(listed.setIfInBounds j true).getD k true=false →
    (∀ e∈ok.after,Region.binds md e=true→e.on≠i)→oi.apart ops ok=true:=fun k ok hk hki hun hno=>by
   refine hfree k ok hk hki ?_ hno
   by_cases hjk:j=k
   ·subst hjk;exact hjun
   rw[getD_set_ne true hjk]at hun;exact hun
  refine wpOp_mono (fun a' w' h3=>⟨h3.2.1,ih (listed.setIfInBounds j true) a' w' hfree' (ready_mono hr (Ne.symm hji)) h3.1 (h3.2.1 hjm) ?_⟩) h2
  rw[Array.setIfInBounds_comm _ _ hji]
  exact h3.2.2
theorem tkm {oi:Oper}{fuel:Nat}{listed:Array Bool}{a:Act}{w:World}{v:Value}(i:Nat)(hi:ops[i]?=some oi)(hS:S w)
  (h:wpAnyL P md ops Q S m fuel (listed.setIfInBounds i true) (a.put oi.dst v) w)
  (hr:(Region.ready md ops listed).contains i=true:=by kernel_rfl) (hf:Region.free md ops listed i=true:=by kernel_rfl) (hs:Region.noSelect ops=true:=by kernel_rfl) (hwt:waits md ops m i=true:=by kernel_rfl) (him:i≠m:=by decide)
  (hy:∀ w,S w→(execOp a.eval oi).run P w=.ok (.value v) w:=by intro w hSw;(try dsimp only at hSw);go_simp;try rfl)
  (hQ:∀ c a w,Q (.panic c) (a.put oi.dst v) w→Q (.panic c) a w:=by exact fun _ _ _ h=>h) (hw:Region.wanted oi (yielded ops a.tmps)=true:=by rfl):wpAnyL P md ops Q S m (fuel+1) listed a w:=
 wpAnyL_first hi (Region.noSelect_spec hs) him hwt hQ fuel listed a w (Region.free_spec hi hf) (by simpa using hr) (.inl ⟨hw,hy⟩) hS h
theorem tku {oi:Oper}{fuel:Nat}{listed:Array Bool}{a:Act}{w:World}(i:Nat)(hi:ops[i]?=some oi)(hS:S w)(h:wpAnyH P md ops Q S fuel (listed.setIfInBounds i true) (a.put oi.dst undef) w)
  (hr:(Region.ready md ops listed).contains i=true:=by kernel_rfl) (hf:Region.free md ops listed i=true:=by kernel_rfl) (hs:Region.noSelect ops=true:=by kernel_rfl)
  (hQ:∀ c a w,Q (.panic c) (a.put oi.dst undef) w→Q (.panic c) a w:=by exact fun _ _ _ h=>h) (hw:Region.wanted oi (yielded ops a.tmps)=false:=by kernel_rfl):wpAnyH P md ops Q S (fuel+1) listed a w:=
 wpAnyH_take hi hs hf hr hQ (.inr ⟨hw,rfl⟩) hS h
theorem wpAnyL_one {fuel:Nat}{listed:Array Bool}{a:Act}{w:World}(i:Nat){o:Oper}(ho:ops[i]?=some o)(h:∀ K':Act→World→Prop,Shut (∀ a w,S w→(S w→wpAnyL P md ops Q S m fuel (listed.setIfInBounds i true) a w)→K' a w)→if Region.wanted o (yielded ops a.tmps)=true then Oper.wp P o a w K' Q else K' (a.put o.dst undef) w)
  (hr:Region.ready md ops listed=[i]:=by kernel_rfl):wpAnyL P md ops Q S m (fuel+1) listed a w:=
 ⟨fun h0=>(by rw[hr]at h0;cases h0),fun j hj=>by
  rw[hr,List.mem_singleton]at hj
  subst hj
  exact wpOp_step ho fun K' hK=>h K' fun a w hS hW=>hK a w ⟨fun _=>hS,hW hS⟩⟩
theorem wpAnyL_last {fuel:Nat}{listed:Array Bool}{a:Act}{w:World}{o:Oper}(ho:ops[m]?=some o)(h:∀ K':Act→World→Prop,Shut (∀ a w,Q .normal a w→K' a w)→if Region.wanted o (yielded ops a.tmps)=true then Oper.wp P o a w K' Q else K' (a.put o.dst undef) w)
  (hr:Region.ready md ops listed=[m]:=by kernel_rfl) (hr2:Region.ready md ops (listed.setIfInBounds m true)=[]:=by kernel_rfl):wpAnyL P md ops Q S m (fuel+1) listed a w:=
 ⟨fun h0=>(by rw[hr]at h0;cases h0),fun j hj=>by
  rw[hr,List.mem_singleton]at hj
  subst hj
  refine wpOp_step ho fun K' hK=>h K' fun a w hq=>hK a w ⟨fun hne=>absurd rfl hne,?_⟩
  cases fuel with
  |zero=>exact⟨hr2,hq⟩
  |succ f=>exact⟨fun _=>hq,by rw[hr2];simp⟩⟩
theorem wp_region_last {id:Nat}{a:Act}{w:World}(m:Nat)(hm:P.follows .mixedOrders=true)(hS:S w.drew)
  (h:S w.drew→wpAnyL P .any ops Q S m ops.size (Array.replicate ops.size false) a w.drew):(Code.region id ops true).wp P Q a w:=
 wp_region_any hm (wpAny_of_last _ _ _ _ (h hS))
end
variable {P:Program} {md:Region.Mode} {ops:Array Oper} {Q:Exit→Act→World→Prop}
variable {F:Fence} {n:Nat} {P:Program}
end
end Go.Proofs.YtkgibdjakgmmcaaGreatDoor
