/- The document's Load. -/
import Derived.Test.YtkgibdjakgmmcaaGreatDoorWh
import Derived.Test.YtkgibdjakgmmcaaGreatDoorLawP
set_option maxHeartbeats 8000000
set_option maxRecDepth 100000
namespace Go.Proofs.YtkgibdjakgmmcaaGreatDoor
open Go.RowKit Go.Shelf
attribute [local go_sem] Oper.semAt_some
def lenI (T:List (List UInt8)):List Value:=T.map fun t=>iv (t.length:Int)
theorem lenI_append (T U:List (List UInt8)):lenI (T++U)=lenI T++lenI U:=List.map_append
theorem rLoad_any (N:Nat→Prop)(st n:Nat)(Rs:List (ByteArray×List Int))(name:ByteArray)(at_ ar ah:Option Addr)(ct cr ch:Nat)(ts hs:List Int)(xs:List (Option Addr×Nat))(rs:List (List V))(g:Int)(w:World)(h:RSto N w st n Rs)(hfew:Rs.length≤1000)(hn:n≤132000*Rs.length)(hA:ArgAt w name at_ ar ah cr ts hs xs rs) :
  Calls Tryz.prog 33 #[.pointer (some ⟨st,0,none⟩),tabArg name at_ ar ct cr ts rs,.slice ah hs.length ch,.int .i64 g] w (RLoadP N w st n Rs name ts (loadQ Rs name ts hs rs g)):=by
 unfold tabArg
 obtain⟨W,hW⟩:∃ W,W=(w.alloc (.cells #[.string name,.slice at_ ts.length ct,.slice ar rs.length cr] 40)).alloc zeroFault:=⟨_,rfl⟩
 have hbW:Below w.heap.size w W:=by rw[hW];exact((Below.refl _ w).alloc (Nat.le_refl _) _).alloc (by simp) _
 have hWz:W.heap.size=w.heap.size+2:=by rw[hW];simp
 have hWt:W.heap[w.heap.size]?=some (.cells #[.string name,.slice at_ ts.length ct,.slice ar rs.length cr] 40 (0,0)):=by rw[hW,Below.heap_alloc _ _ _ (by simp)];exact heap_alloc_new _ _
 have hWf:W.heap[w.heap.size+1]?=some (.cells #[.int .i64 0,.int .i64 0,.int .i64 0,.int .i64 0,.int .i64 0] 52 (0,0)):=by
  rw[hW]
  have:=heap_alloc_new (w.alloc (.cells #[.string name,.slice at_ ts.length ct,.slice ar rs.length cr] 40)) zeroFault
  rwa [World.size_alloc]at this
 have HW:Hid (Below w.heap.size w W∧W.heap.size=w.heap.size+2∧W.heap[w.heap.size]?=some (.cells #[.string name,.slice at_ ts.length ct,.slice ar rs.length cr] 40 (0,0))∧W.heap[w.heap.size+1]?=some (.cells #[.int .i64 0,.int .i64 0,.int .i64 0,.int .i64 0,.int .i64 0] 52 (0,0))):=⟨hbW,hWz,hWt,hWf⟩
 have q0:W.cell? ⟨w.heap.size,0,none⟩=some (.string name):=by simp[World.cell?,hWt]
 have q1:W.cell? ⟨w.heap.size,1,none⟩=some (.slice at_ ts.length ct):=by simp[World.cell?,hWt]
 have q2:W.cell? ⟨w.heap.size,2,none⟩=some (.slice ar rs.length cr):=by simp[World.cell?,hWt]
 have HS:Hid (RSto N w st n Rs∧Rs.length≤1000∧n≤132000*Rs.length):=⟨h,hfew,hn⟩
 have HA:Hid (ArgAt w name at_ ar ah cr ts hs xs rs):=hA
 obtain⟨R,hR⟩:∃ R,loadQ Rs name ts hs rs g=R:=⟨_,rfl⟩
 rw[hR]
 have HR:Hid (loadQ Rs name ts hs rs g=R):=hR
 obtain⟨bw,hbw⟩:∃ bw:Bool,bw=true↔isTab name ts rs∧waysOk ts hs∧1≤g∧g≤64:=⟨@decide _ (goodD name ts hs rs g),@decide_eq_true_iff _ (goodD name ts hs rs g)⟩
 have hwh:=rWhole_any name at_ ar ah ct cr ch ts hs xs rs g W (hA.below hbW) bw hbw
 unfold tabArg at hwh
 have HB:Hid (bw=true↔isTab name ts rs∧waysOk ts hs∧1≤g∧g≤64):=hbw
 clear h hfew hn hA hbw hR hbW hWz hWt hWf
 have HWE:Hid (W=(w.alloc (.cells #[.string name,.slice at_ ts.length ct,.slice ar rs.length cr] 40)).alloc zeroFault):=hW
 go_enter Tryz.func33,Tryz.ntmps33
 go_upto_region 1 with fail
 rw[←hW]
 clear hW HWE
 go_upto_region 2 with(go_at_call 54;refine hwh.mono ?_;rintro e w1 ⟨rfl,hb1⟩)
 clear hwh q0 q1 q2
 have HW1:Hid (Below w.heap.size w w1∧w.heap.size+2≤w1.heap.size∧w1.heap[w.heap.size]?=some (.cells #[.string name,.slice at_ ts.length ct,.slice ar rs.length cr] 40 (0,0))∧w1.heap[w.heap.size+1]?=some (.cells #[.int .i64 0,.int .i64 0,.int .i64 0,.int .i64 0,.int .i64 0] 52 (0,0))):=by
  obtain⟨k1,k2,k3,k4⟩:=HW.out
  exact⟨below_then k1 hb1,by have:=hb1.size;omega,(hb1.block _ (by omega)).trans k3,(hb1.block _ (by omega)).trans k4⟩
 clear hb1 HW
 cases hbw:bw with
 |false=>
  subst hbw
  have hR:R=.inl ():=by rw[←HR.out];unfold loadQ;rw[if_neg fun h=>by have:=HB.out.2 h;cases this]
  subst hR
  have hk1:=HW1.out.2.2.2
  go_upto_region 3 with fail
  have hbd:=rBad_any 1 w1
  go_wp2_with fail
  refine hbd.mono ?_
  rintro e W3 ⟨rfl,hb3⟩
  have hk3:=(hb3.block _ (lt_of_heap hk1)).trans hk1
  have a0:W3.cell? ⟨w.heap.size+1,0,none⟩=some (.int .i64 0):=by simp[World.cell?,hk3]
  have a1:W3.cell? ⟨w.heap.size+1,1,none⟩=some (.int .i64 0):=by simp[World.cell?,hk3]
  have a2:W3.cell? ⟨w.heap.size+1,2,none⟩=some (.int .i64 0):=by simp[World.cell?,hk3]
  have a3:W3.cell? ⟨w.heap.size+1,3,none⟩=some (.int .i64 0):=by simp[World.cell?,hk3]
  have a4:W3.cell? ⟨w.heap.size+1,4,none⟩=some (.int .i64 0):=by simp[World.cell?,hk3]
  have az0:W3.frozen? ⟨w.heap.size+1,0,none⟩=false:=by simp[World.frozen?,hk3]
  have az1:W3.frozen? ⟨w.heap.size+1,1,none⟩=false:=by simp[World.frozen?,hk3]
  have az2:W3.frozen? ⟨w.heap.size+1,2,none⟩=false:=by simp[World.frozen?,hk3]
  have az3:W3.frozen? ⟨w.heap.size+1,3,none⟩=false:=by simp[World.frozen?,hk3]
  have az4:W3.frozen? ⟨w.heap.size+1,4,none⟩=false:=by simp[World.frozen?,hk3]
  have hk5:=heap_set (heap_set (heap_set (heap_set (heap_set hk3 0 (.int .i64 1)) 1 (.int .i64 (-1))) 2 (.int .i64 (-1))) 3 (.int .i64 (-1))) 4 (.int .i64 (-1))
  simp only[List.setIfInBounds_toArray,List.set_cons_zero,List.set_cons_succ]at hk5
  have HK5:Hid _:=hk5
  have HB3:Hid _:=hb3
  clear hk5 hk3 hb3 hbd
  go_wp2
  exact bodyPost_ret (v:=fault 1) (by simp[results,Tryz.results33,go_sem,World.cell?,HK5.out]) rfl (RLoadP.same HS.out.1 (below_set5 (below_then HW1.out.1 HB3.out) (by omega) _ _ _ _ _) rfl rfl rfl)
 |true=>
  subst hbw
  have HG:Hid (isTab name ts rs∧waysOk ts hs∧1≤g∧g≤64):=HB.out.1 rfl
  clear HB
  have c0:w1.cell? ⟨w.heap.size,0,none⟩=some (.string name):=by simp[World.cell?,HW1.out.2.2.1]
  have hfd:=rFind_any st Rs name w1 (HS.out.1.below HW1.out.1).tabs HS.out.2.1
  obtain⟨F,hF⟩:∃ F,findRV Rs name=F:=⟨_,rfl⟩
  rw[hF]at hfd
  have HF:Hid (findRV Rs name=F):=hF
  obtain⟨ra_,rc_,hst4,_⟩:=(HS.out.1.below HW1.out.1).tabs
  clear hF
  by_cases hf:findR Rs name<Rs.length
  ·have i1:F≥0:=by rw[←HF.out];unfold findRV;rw[if_pos hf];omega
   have hR:R=.inr (.inl ()):=by rw[←HR.out];unfold loadQ;rw[if_pos HG.out,if_pos (.inl hf)]
   subst hR
   have hk1:=HW1.out.2.2.2
   clear hf
   go_upto_region 5 with(go_at_call 42;refine hfd.mono ?_;rintro e w2 ⟨rfl,hw2⟩;subst w2)
   clear hfd hst4 c0
   have hbd:=rBad_any 4 w1
   go_wp2_with fail
   refine hbd.mono ?_
   rintro e W3 ⟨rfl,hb3⟩
   have hk3:=(hb3.block _ (lt_of_heap hk1)).trans hk1
   have a0:W3.cell? ⟨w.heap.size+1,0,none⟩=some (.int .i64 0):=by simp[World.cell?,hk3]
   have a1:W3.cell? ⟨w.heap.size+1,1,none⟩=some (.int .i64 0):=by simp[World.cell?,hk3]
   have a2:W3.cell? ⟨w.heap.size+1,2,none⟩=some (.int .i64 0):=by simp[World.cell?,hk3]
   have a3:W3.cell? ⟨w.heap.size+1,3,none⟩=some (.int .i64 0):=by simp[World.cell?,hk3]
   have a4:W3.cell? ⟨w.heap.size+1,4,none⟩=some (.int .i64 0):=by simp[World.cell?,hk3]
   have az0:W3.frozen? ⟨w.heap.size+1,0,none⟩=false:=by simp[World.frozen?,hk3]
   have az1:W3.frozen? ⟨w.heap.size+1,1,none⟩=false:=by simp[World.frozen?,hk3]
   have az2:W3.frozen? ⟨w.heap.size+1,2,none⟩=false:=by simp[World.frozen?,hk3]
   have az3:W3.frozen? ⟨w.heap.size+1,3,none⟩=false:=by simp[World.frozen?,hk3]
   have az4:W3.frozen? ⟨w.heap.size+1,4,none⟩=false:=by simp[World.frozen?,hk3]
   have hk5:=heap_set (heap_set (heap_set (heap_set (heap_set hk3 0 (.int .i64 4)) 1 (.int .i64 (-1))) 2 (.int .i64 (-1))) 3 (.int .i64 (-1))) 4 (.int .i64 (-1))
   simp only[List.setIfInBounds_toArray,List.set_cons_zero,List.set_cons_succ]at hk5
   have HK5:Hid _:=hk5
   have HB3:Hid _:=hb3
   clear hk5 hk3 hb3 hbd
   go_wp2
   exact bodyPost_ret (v:=fault 4) (by simp[results,Tryz.results33,go_sem,World.cell?,HK5.out]) rfl (RLoadP.same HS.out.1 (below_set5 (below_then HW1.out.1 HB3.out) (by omega) _ _ _ _ _) rfl rfl rfl)
  by_cases hsix:6≤Rs.length
  ·have i1:¬ (F≥0):=by rw[←HF.out];unfold findRV;rw[if_neg hf];omega
   have i2:((Rs.length:Nat):Int)≥6:=by omega
   have hR:R=.inr (.inl ()):=by rw[←HR.out];unfold loadQ;rw[if_pos HG.out,if_pos (.inr hsix)]
   subst hR
   have hk1:=HW1.out.2.2.2
   clear hf hsix
   go_upto_region 5 with(go_at_call 42;refine hfd.mono ?_;rintro e w2 ⟨rfl,hw2⟩;subst w2)
   clear hfd hst4 c0
   have hbd:=rBad_any 4 w1
   go_wp2_with fail
   refine hbd.mono ?_
   rintro e W3 ⟨rfl,hb3⟩
   have hk3:=(hb3.block _ (lt_of_heap hk1)).trans hk1
   have a0:W3.cell? ⟨w.heap.size+1,0,none⟩=some (.int .i64 0):=by simp[World.cell?,hk3]
   have a1:W3.cell? ⟨w.heap.size+1,1,none⟩=some (.int .i64 0):=by simp[World.cell?,hk3]
   have a2:W3.cell? ⟨w.heap.size+1,2,none⟩=some (.int .i64 0):=by simp[World.cell?,hk3]
   have a3:W3.cell? ⟨w.heap.size+1,3,none⟩=some (.int .i64 0):=by simp[World.cell?,hk3]
   have a4:W3.cell? ⟨w.heap.size+1,4,none⟩=some (.int .i64 0):=by simp[World.cell?,hk3]
   have az0:W3.frozen? ⟨w.heap.size+1,0,none⟩=false:=by simp[World.frozen?,hk3]
   have az1:W3.frozen? ⟨w.heap.size+1,1,none⟩=false:=by simp[World.frozen?,hk3]
   have az2:W3.frozen? ⟨w.heap.size+1,2,none⟩=false:=by simp[World.frozen?,hk3]
   have az3:W3.frozen? ⟨w.heap.size+1,3,none⟩=false:=by simp[World.frozen?,hk3]
   have az4:W3.frozen? ⟨w.heap.size+1,4,none⟩=false:=by simp[World.frozen?,hk3]
   have hk5:=heap_set (heap_set (heap_set (heap_set (heap_set hk3 0 (.int .i64 4)) 1 (.int .i64 (-1))) 2 (.int .i64 (-1))) 3 (.int .i64 (-1))) 4 (.int .i64 (-1))
   simp only[List.setIfInBounds_toArray,List.set_cons_zero,List.set_cons_succ]at hk5
   have HK5:Hid _:=hk5
   have HB3:Hid _:=hb3
   clear hk5 hk3 hb3 hbd
   go_wp2
   exact bodyPost_ret (v:=fault 4) (by simp[results,Tryz.results33,go_sem,World.cell?,HK5.out]) rfl (RLoadP.same HS.out.1 (below_set5 (below_then HW1.out.1 HB3.out) (by omega) _ _ _ _ _) rfl rfl rfl)
  have i1:¬ (F≥0):=by rw[←HF.out];unfold findRV;rw[if_neg hf];omega
  have i2:¬ (((Rs.length:Nat):Int)≥6):=by omega
  obtain⟨G,hG⟩:∃ G:Nat,g=(G:Int):=⟨g.toNat,by have:=HG.out.2.2;omega⟩
  subst hG
  have hG1:1≤G:=by have:=HG.out.2.2;omega
  have hG64:G≤64:=by have:=HG.out.2.2;omega
  have hr200:rs.length≤200:=HG.out.1.2.2.1
  have hts6:ts.length≤6:=HG.out.1.2.1.1.2
  have HP:Hid ((∀ c,packF rs ts hs (cks rs.length G (ckN rs.length G))=.inr c→R=.inr (.inr (.inl c)))∧(∀ T,packF rs ts hs (cks rs.length G (ckN rs.length G))=.inl T→R=.inr (.inr (.inr T)))):=by
   have hR:=HR.out
   unfold loadQ at hR
   rw[if_pos HG.out,if_neg (by omega),Int.toNat_natCast]at hR
   exact⟨fun c hc=>by rw[hc]at hR;exact hR.symm,fun T hT=>by rw[hT]at hR;exact hR.symm⟩
  have HR6:Hid (Rs.length<6∧¬ findR Rs name<Rs.length):=⟨by omega,hf⟩
  have HHL:Hid (hs.length=ts.length∧∀ j (hj:j<hs.length),way (ts.getD j 0) hs[j]=true):=HG.out.2.1
  clear hf hsix HR
  go_upto_region 8 with(go_at_call 42;refine hfd.mono ?_;rintro e w2 ⟨rfl,hw2⟩;subst w2)
  clear hfd hst4 c0 HF i1 i2
  go_loopw [10,11] (fun sv lo wr=>∃ (j J:Nat) (T:List (List UInt8)),lo=.int .i64 (J:Int)∧J≤300∧Hid (J=j*G∧j≤ckN rs.length G∧packF rs ts hs (cks rs.length G j)=.inl T∧OwnC wr w1.heap.size 3 sv (lenI T)∧Below w1.heap.size w1 wr)) (fun _ lo _=>rs.length-(intOf lo).toNat)
  case atStart=>exact⟨0,0,[],rfl,by omega,by omega,Nat.zero_le _,rfl,OwnC.nil _ _ _,Below.refl _ _⟩
  case round=>
   obtain⟨j,J,T,rfl,hJ3,HT⟩:=hrel
   have hblk:wr.heap[w.heap.size]?=some (.cells #[.string name,.slice at_ ts.length ct,.slice ar rs.length cr] 40 (0,0)):=(HT.out.2.2.2.2.block _ (by have:=HW1.out.2.1;omega)).trans HW1.out.2.2.1
   have c0:wr.cell? ⟨w.heap.size,0,none⟩=some (.string name):=by simp[World.cell?,hblk]
   have c1:wr.cell? ⟨w.heap.size,1,none⟩=some (.slice at_ ts.length ct):=by simp[World.cell?,hblk]
   have c2:wr.cell? ⟨w.heap.size,2,none⟩=some (.slice ar rs.length cr):=by simp[World.cell?,hblk]
   have HBL:Hid (wr.heap[w.heap.size]?=some (.cells #[.string name,.slice at_ ts.length ct,.slice ar rs.length cr] 40 (0,0))):=hblk
   clear hblk
   by_cases hlt:J<rs.length
   ·have HJN:Hid (j<ckN rs.length G∧J<rs.length):=⟨ckN_gt hG1 (by have:=HT.out.1;omega),hlt⟩
    have HX:Hid ((rowsOf rs (ckAt rs.length G j)).length=min G (rs.length-J)∧(∀ p,p<min G (rs.length-J)→(rowsOf rs (ckAt rs.length G j))[p]?=rs[J+p]?)∧(∀ r∈rowsOf rs (ckAt rs.length G j),r∈rs)):=by
     have e1:=HT.out.1
     refine⟨by simp[rowsOf,ckAt];omega,fun p hp=>?_,fun r hr=>List.mem_of_mem_drop (List.mem_of_mem_take hr)⟩
     simp only[rowsOf,ckAt]
     rw[List.getElem?_take_of_lt (by omega),List.getElem?_drop,e1]
    obtain⟨X,hX⟩:∃ X,rowsOf rs (ckAt rs.length G j)=X:=⟨_,rfl⟩
    rw[hX]at HX
    have HXE:Hid (rowsOf rs (ckAt rs.length G j)=X):=hX
    obtain⟨q,hq⟩:∃ q,q=min G (rs.length-J):=⟨_,rfl⟩
    rw[←hq]at HX
    have hq1:q≤G:=by omega
    have hq2:J+q≤rs.length:=by omega
    have HQ:Hid (q=min G (rs.length-J)):=hq
    clear hX hq
    go_upto_region 11 with fail
    clear c0 c1 c2
    go_loopw [10,12] (fun sv' cv wx=>∃ (m:Nat) (l:List (List UInt8)),cv=.int .i64 (m:Int)∧m≤ts.length∧Hid (packK X ts hs m=.inl l∧OwnC wx w1.heap.size 3 sv' (lenI (T++l))∧Below w1.heap.size w1 wx)) (fun _ cv _=>ts.length-(intOf cv).toNat)
    case atStart=>exact⟨0,[],rfl,Nat.zero_le _,rfl,by rw[List.append_nil];exact HT.out.2.2.2.1,HT.out.2.2.2.2⟩
    case round=>
     clear HBL
     obtain⟨m,l,rfl,hm,HL⟩:=hrel
     have hblk:wr.heap[w.heap.size]?=some (.cells #[.string name,.slice at_ ts.length ct,.slice ar rs.length cr] 40 (0,0)):=(HL.out.2.2.block _ (by have:=HW1.out.2.1;omega)).trans HW1.out.2.2.1
     have c1:wr.cell? ⟨w.heap.size,1,none⟩=some (.slice at_ ts.length ct):=by simp[World.cell?,hblk]
     clear hblk
     by_cases hlm:m<ts.length
     ·have HM:Hid (m<ts.length):=hlm
      have HCL:Hid ((colOf X m).length=q):=by show (X.map _).length=q;rw[List.length_map];exact HX.out.1
      obtain⟨C,hC⟩:∃ C,colOf X m=C:=⟨_,rfl⟩
      rw[hC]at HCL
      have HCE:Hid (colOf X m=C):=hC
      clear hC
      go_upto_region 15 with fail
      clear c1
      rename_i sv1 _
      obtain⟨V0,hV0⟩:∃ V0,V0=wr:=⟨_,rfl⟩
      subst hV0
      go_loopw [13,14] (fun vv iv' wx=>∃ p:Nat,iv'=.int .i64 ((J:Int)+(p:Int))∧p≤q∧Hid (OwnV wx V0.heap.size vv (C.take p)∧Below V0.heap.size V0 wx)) (fun _ iv' _=>J+q-(intOf iv').toNat)
      case atStart=>exact⟨0,by simp,Nat.zero_le _,by rw[List.take_zero];exact OwnV.nil _ _,Below.refl _ _⟩
      case round=>
       obtain⟨p,rfl,hp,HV⟩:=hrel
       have hblk:wr.heap[w.heap.size]?=some (.cells #[.string name,.slice at_ ts.length ct,.slice ar rs.length cr] 40 (0,0)):=((below_then HL.out.2.2 HV.out.2).block _ (by have:=HW1.out.2.1;omega)).trans HW1.out.2.2.1
       have c1:wr.cell? ⟨w.heap.size,1,none⟩=some (.slice at_ ts.length ct):=by simp[World.cell?,hblk]
       have c2:wr.cell? ⟨w.heap.size,2,none⟩=some (.slice ar rs.length cr):=by simp[World.cell?,hblk]
       clear hblk
       have HBX:Hid (Below w.heap.size w wr):=below_then HW1.out.1 (below_then HL.out.2.2 HV.out.2)
       by_cases hlp:p<q
       ·have hjl:J+p<rs.length:=by omega
        have hmr:m<(rs[J+p]).length:=by have:=(HG.out.1.2.2.2 _ hjl).1;have:=HM.out;omega
        obtain⟨b3,o3,ra,rc,rfl,_,x3,hv⟩:=(HA.out.rows.below HBX.out).at hjl
        obtain⟨b2,o2,rfl,_,v0,v1,v2⟩:=hv.at hmr
        have HVV:Hid (C.take (p+1)=C.take p++[(rs[J+p])[m]]):=by
         show _=_
         have e1:X[p]?=some rs[J+p]:=by rw[HX.out.2.1 p (by have:=HQ.out;omega),List.getElem?_eq_getElem hjl]
         have e2:C[p]?=some ((rs[J+p])[m]):=by
          rw[←HCE.out]
          simp only[colOf,List.getElem?_map,e1,Option.map_some]
          simp[hmr]
         rw[List.take_add_one,e2]
         rfl
        generalize (rs[J+p])[m]=v at v0 v1 v2 HVV
        generalize (rs[J+p]).length=rn at x3 hmr
        have i1:(0:Int)≤(J:Int)+(p:Int):=by omega
        have i2:(J:Int)+(p:Int)<(rs.length:Int):=by omega
        have i3:(J:Int)+(p:Int)<(J:Int)+(G:Int):=by omega
        have i4:(0:Int)≤(m:Int):=by omega
        have i5:(m:Int)<(rn:Int):=by omega
        have i6:((J:Int)+(p:Int)).toNat=J+p:=by omega
        have HLP:Hid (p<q):=hlp
        clear c1
        go_wp2_with (at_builtin;go_must (refine wpList_append_V (by rfl) _ _ (by rfl) V0.heap.size _ _ (by rfl) (HV.out.1.alloc _) _ _ v (by rfl) (by refine⟨?_,?_,?_⟩<;>simp) (by have:=HCL.out;have:=HLP.out;simp;omega) (by have:=HV.out.2.size;simp;omega) ?_);intro sv' w4 t1 t2 t3)
        go_roundw
        case rel=>exact⟨p+1,by go_num,HLP.out,by rw[HVV.out];exact t1,below_grown (below_alloc HV.out.2 _) t2 fun k hk=>(owns_block HV.out.1 hk).1⟩
        case measure=>have:=HLP.out;simp[intOf];omega
       have hpq:p=q:=by omega
       subst hpq
       have hpG:p=G∨(p<G∧J+p=rs.length):=by have:=HQ.out;omega
       have hVC:=HV.out.1
       rw[List.take_of_length_le (by have:=HCL.out;omega)]at hVC
       obtain⟨a5,c5,h5,hv5⟩:=hVC.vals
       subst h5
       have HV5:Hid (Vals wr a5 C∧Below V0.heap.size V0 wr):=⟨hv5,HV.out.2⟩
       clear hVC hv5 HV
       have hmh:m<hs.length:=by have:=HHL.out.1;have:=HM.out;omega
       obtain⟨b1,o1,rfl,_,y1⟩:=(show Ints wr at_ ts from HA.out.types.below HBX.out).at HM.out
       obtain⟨b2,o2,rfl,_,y2⟩:=(show Ints wr ah hs from HA.out.hows.below HBX.out).at hmh
       have HCT:Hid (pOut ts[m] hs[m] C=colText X ts hs m):=by
        show _=pOut (ts.getD m 0) (hs.getD m 0) (colOf X m)
        rw[HCE.out,List.getD_eq_getElem?_getD,List.getElem?_eq_getElem HM.out,List.getD_eq_getElem?_getD,List.getElem?_eq_getElem hmh]
        rfl
       have HCC:Hid ((colText X ts hs m).2=0∨(colText X ts hs m).2=2):=colText_code HG.out.1 HX.out.2.2 (by have:=HX.out.1;omega) m HM.out HHL.out.1 HHL.out.2
       generalize ts[m]=ty at y1 HCT
       generalize hs[m]=ho at y2 HCT
       obtain⟨⟨tx,cd⟩,hco⟩:∃ co,colText X ts hs m=co:=⟨_,rfl⟩
       rw[hco]at HCT HCC
       have HCO:Hid (colText X ts hs m=(tx,cd)):=hco
       clear hco
       have HPK:Hid (∀ Z,Below wr.heap.size wr Z→Calls Tryz.prog 55 #[.int .i64 ty,.int .i64 ho,.slice a5 C.length c5] Z fun e w'=>e=.returned (.tuple #[.string (str tx),fault cd])∧Below Z.heap.size Z w'):=fun Z hZ=>by
        have:=rPack_any ty ho a5 c5 C Z (HV5.out.1.below hZ)
        rw[HCT.out]at this
        exact this
       have k1':(0:Int)≤(m:Int):=by omega
       have k2':(m:Int)<(ts.length:Int):=by have:=HM.out;omega
       have k3':(m:Int)<(hs.length:Int):=by omega
       have hm1:m<1000:=by have:=HM.out;omega
       clear hmh
       refine hpG.elim (fun hpG=>?wa) (fun hpG=>?wb)
       case' wa=>
        have x1:¬ ((J:Int)+(p:Int)<(J:Int)+(G:Int)):=by omega
        clear hpG
        go_upto_region 18 with fail
       case' wb=>
        have x1:(J:Int)+(p:Int)<(J:Int)+(G:Int):=by omega
        have x2:¬ ((J:Int)+(p:Int)<(rs.length:Int)):=by omega
        clear hpG
        go_upto_region 18 with fail
       all_goals
        go_cut [15,16] from 84 to 97 (fun bv fv wx=>bv=.string (str tx)∧∃ fa,fv=.pointer (some ⟨fa,0,none⟩)∧wx.heap[fa]?=some (.cells #[.int .i64 cd,.int .i64 (-1),.int .i64 (-1),.int .i64 (-1),.int .i64 (-1)] 52 (0,0))∧wr.heap.size≤fa∧Below wr.heap.size wr wx)
        case first=>
         refine wp_region_held_drew (S:=fun Z=>(Z.cell? ⟨w.heap.size,1,none⟩=some (.slice (some ⟨b1,o1,none⟩) ts.length ct)∧Z.cell? ⟨b1,o1+m,none⟩=some (.int .i64 ty)∧Z.cell? ⟨b2,o2+m,none⟩=some (.int .i64 ho))∧Below wr.heap.size wr Z) (by kernel_rfl) ⟨⟨cell_drew c1,cell_drew y1,cell_drew y2⟩,below_drew1 (Below.refl _ _)⟩ (fun hH=>?_)
         refine tkj 0 rfl hH ?_
         refine tkj 1 rfl hH ?_
         refine tkj 2 rfl hH ?_
         refine tkj 3 rfl hH ?_
         refine tkj 4 rfl hH ?_
         refine tkj 5 rfl hH ?_
         refine tkj 6 rfl hH ?_
         refine tkj 7 rfl hH ?_
         refine tkj 8 rfl hH ?_
         refine tkj 9 rfl hH ?_
         refine tkn ?_
         refine wpAnyH_ready (rs:=[10,14]) (by kernel_rfl) (by simp) (AllReadyH.cons rfl (fun K hK=>?_) (AllReadyH.cons rfl (fun K hK=>?_) AllReadyH.nil))
         ·go_simp
          refine(HPK.out _ hH.2).mono ?_
          rintro e X1 ⟨rfl,hx1⟩
          go_simp
          refine hK.out _ _ ⟨⟨cell_below hx1 hH.1.1,cell_below hx1 hH.1.2.1,cell_below hx1 hH.1.2.2⟩,below_then hH.2 hx1⟩ (fun hH=>?_)
          clear hK K hx1
          refine tkj 11 rfl hH ?_
          refine tkj 12 rfl hH ?_
          refine tkj 13 rfl hH ?_
          refine tkn ?_
          refine tkr 14 rfl fun K hK=>?_
          go_simp
          have hby:Below X1.heap.size X1 (X1.alloc zeroFault):=(Below.refl _ X1).alloc (Nat.le_refl _) zeroFault
          have hz:=heap_alloc_new X1 zeroFault
          have HFA:Hid (wr.heap.size≤X1.heap.size):=hH.2.size
          refine hK.out _ _ ⟨⟨cell_below hby hH.1.1,cell_below hby hH.1.2.1,cell_below hby hH.1.2.2⟩,below_then hH.2 hby⟩ (fun hH=>?_)
          clear hK K
          generalize X1.alloc zeroFault=Y0 at hz hH ⊢
          generalize X1.heap.size=fa at hz HFA ⊢
          clear hby
          refine tkj 15 rfl hH ?_
          refine tkn ?_
          have hfz:∀ o:Nat,Y0.frozen? ⟨fa,o,none⟩=false:=fun o=>by simp[World.frozen?,hz]
          have k0:Y0.cell? ⟨fa,0,none⟩=some (.int .i64 0):=by simp[World.cell?,hz]
          have k1:Y0.cell? ⟨fa,1,none⟩=some (.int .i64 0):=by simp[World.cell?,hz]
          have k2:Y0.cell? ⟨fa,2,none⟩=some (.int .i64 0):=by simp[World.cell?,hz]
          have k3:Y0.cell? ⟨fa,3,none⟩=some (.int .i64 0):=by simp[World.cell?,hz]
          have k4:Y0.cell? ⟨fa,4,none⟩=some (.int .i64 0):=by simp[World.cell?,hz]
          have f0:=hfz 0
          have f1:=hfz 1
          have f2:=hfz 2
          have f3:=hfz 3
          have f4:=hfz 4
          have hk5:=heap_set (heap_set (heap_set (heap_set (heap_set hz 0 (.int .i64 cd)) 1 (.int .i64 (-1))) 2 (.int .i64 (-1))) 3 (.int .i64 (-1))) 4 (.int .i64 (-1))
          simp only[List.setIfInBounds_toArray,List.set_cons_zero,List.set_cons_succ]at hk5
          have HK5:Hid _:=hk5
          have HLO:Hid (Below wr.heap.size wr (((((Y0.setCell ⟨fa,0,none⟩ (.int .i64 cd)).setCell ⟨fa,1,none⟩ (.int .i64 (-1))).setCell ⟨fa,2,none⟩ (.int .i64 (-1))).setCell ⟨fa,3,none⟩ (.int .i64 (-1))).setCell ⟨fa,4,none⟩ (.int .i64 (-1)))):=below_set5 hH.2 HFA.out _ _ _ _ _
          clear hz hfz hk5
          refine tkr 16 rfl fun K hK=>?_
          go_simp
          refine hK.out _ _ ⟨⟨cell_below HLO.out c1,cell_below HLO.out y1,cell_below HLO.out y2⟩,HLO.out⟩ (fun _=>?_)
          clear hK K k0 k1 k2 k3 k4 f0 f1 f2 f3 f4 hH
          refine wpAnyH_done (by kernel_rfl) ?_ _
          go_wp2_with fail
          go_meet
          case rel=>exact⟨rfl,fa,rfl,HK5.out,HFA.out,HLO.out⟩
         go_simp
         have hb2:Below wr.heap.size wr (wr.alloc zeroFault).drew:=below_drew1 ((Below.refl _ wr).alloc (Nat.le_refl _) zeroFault)
         have hz0:(wr.alloc zeroFault).drew.heap[wr.heap.size]?=some zeroFault:=heap_alloc_new wr zeroFault
         refine hK.out _ _ ⟨⟨cell_below hb2 c1,cell_below hb2 y1,cell_below hb2 y2⟩,hb2⟩ (fun hH=>?_)
         clear hK K
         generalize (wr.alloc zeroFault).drew=X2 at hz0 hH hb2 ⊢
         have HFA:Hid (wr.heap.size≤wr.heap.size):=Nat.le_refl _
         clear hb2
         refine tkr 10 rfl fun K hK=>?_
         go_simp
         refine(HPK.out _ hH.2).mono ?_
         rintro e Y0 ⟨rfl,hx1⟩
         go_simp
         have hz:=(hx1.block _ (lt_of_heap hz0)).trans hz0
         refine hK.out _ _ ⟨⟨cell_below hx1 hH.1.1,cell_below hx1 hH.1.2.1,cell_below hx1 hH.1.2.2⟩,below_then hH.2 hx1⟩ (fun hH=>?_)
         clear hK K hx1 hz0
         refine tkj 11 rfl hH ?_
         refine tkj 12 rfl hH ?_
         refine tkj 13 rfl hH ?_
         refine tkj 15 rfl hH ?_
         refine tkn ?_
         have hfz:∀ o:Nat,Y0.frozen? ⟨wr.heap.size,o,none⟩=false:=fun o=>by simp[World.frozen?,hz]
         have k0:Y0.cell? ⟨wr.heap.size,0,none⟩=some (.int .i64 0):=by simp[World.cell?,hz]
         have k1:Y0.cell? ⟨wr.heap.size,1,none⟩=some (.int .i64 0):=by simp[World.cell?,hz]
         have k2:Y0.cell? ⟨wr.heap.size,2,none⟩=some (.int .i64 0):=by simp[World.cell?,hz]
         have k3:Y0.cell? ⟨wr.heap.size,3,none⟩=some (.int .i64 0):=by simp[World.cell?,hz]
         have k4:Y0.cell? ⟨wr.heap.size,4,none⟩=some (.int .i64 0):=by simp[World.cell?,hz]
         have f0:=hfz 0
         have f1:=hfz 1
         have f2:=hfz 2
         have f3:=hfz 3
         have f4:=hfz 4
         have hk5:=heap_set (heap_set (heap_set (heap_set (heap_set hz 0 (.int .i64 cd)) 1 (.int .i64 (-1))) 2 (.int .i64 (-1))) 3 (.int .i64 (-1))) 4 (.int .i64 (-1))
         simp only[List.setIfInBounds_toArray,List.set_cons_zero,List.set_cons_succ]at hk5
         have HK5:Hid _:=hk5
         have HLO:Hid (Below wr.heap.size wr (((((Y0.setCell ⟨wr.heap.size,0,none⟩ (.int .i64 cd)).setCell ⟨wr.heap.size,1,none⟩ (.int .i64 (-1))).setCell ⟨wr.heap.size,2,none⟩ (.int .i64 (-1))).setCell ⟨wr.heap.size,3,none⟩ (.int .i64 (-1))).setCell ⟨wr.heap.size,4,none⟩ (.int .i64 (-1)))):=below_set5 hH.2 HFA.out _ _ _ _ _
         clear hz hfz hk5
         refine tkr 16 rfl fun K hK=>?_
         go_simp
         refine hK.out _ _ ⟨⟨cell_below HLO.out c1,cell_below HLO.out y1,cell_below HLO.out y2⟩,HLO.out⟩ (fun _=>?_)
         clear hK K k0 k1 k2 k3 k4 f0 f1 f2 f3 f4 hH
         refine wpAnyH_done (by kernel_rfl) ?_ _
         go_wp2_with fail
         go_meet
         case rel=>exact⟨rfl,wr.heap.size,rfl,HK5.out,HFA.out,HLO.out⟩
        case rest=>
         obtain⟨rfl,fa,rfl,hf,hfa,hbc⟩:=hcut
         have HBC:Hid (Below V0.heap.size V0 wc∧w.heap.size+2≤fa):=⟨below_then HV5.out.2 hbc,by have h1:=HBX.out.size;have h2:=(below_then HL.out.2.2 HV5.out.2).size;have h3:=HW1.out.2.1;omega⟩
         clear hbc hfa c1 y1 y2 k1' k2' k3' x1
         have HTL:Hid ((lenI (T++l)).length≤2000):=by
          have h1:=(packFLen rs ts hs _ T HT.out.2.2.1).1
          rw[cks_length]at h1
          have h2:=packK_len X ts hs m l HL.out.1
          have h3:=ckN_le rs.length G hG1
          have h4:=HT.out.2.1
          have h5:j*ts.length≤200*6:=Nat.mul_le_mul (by omega) hts6
          show (lenI (T++l)).length≤2000
          unfold lenI
          rw[List.length_map,List.length_append]
          omega
         rcases HCC.out with hcd|hcd
         ·obtain rfl:cd=0:=hcd
          have e0:wc.cell? ⟨fa,0,none⟩=some (.int .i64 0):=by simp[World.cell?,hf]
          clear hf
          have HOW:Hid (OwnC wc w1.heap.size 3 _ (lenI (T++l))∧w1.heap.size≤wc.heap.size):=⟨owns_below HL.out.2.1 HBC.out.1,by have h1:=HL.out.2.2.size;have h2:=HBC.out.1.size;omega⟩
          go_wp2_with (at_builtin;go_must (refine wpList_append_C (by rfl) _ _ 29 3 _ 8 info_int (by rfl) (by decide) (by kernel_rfl) (by rfl) w1.heap.size _ (lenI (T++l)) (by rfl) (OwnC.alloc HOW.out.1 _) ⟨wc.heap.size,0,none⟩ 1 [.int .i64 ((str tx).size:Int)] (by rfl) (by exact news_one wc _ _) (by intro u hu;simp at hu;subst hu;rfl) (by have:=HTL.out;simp only[List.length_cons,List.length_nil];omega) (by have:=HOW.out.2;simp;omega) ?_);intro sv' w4 t1 t2 t3)
          go_roundw
          case rel=>
           refine⟨m+1,l++[tx],by go_num,HM.out,?_,?_,?_⟩
           ·simp only[packK,HL.out.1]
            rw[HCO.out,if_pos rfl]
           ·rw[←List.append_assoc,lenI_append]
            have t1':=t1
            rw[str_size]at t1'
            exact t1'
           exact below_grown (below_alloc (below_then HL.out.2.2 HBC.out.1) _) t2 fun k hk=>(owns_block HOW.out.1 hk).1
          case measure=>have:=HM.out;simp[intOf];omega
         obtain rfl:cd=2:=hcd
         have hRd:R=.inr (.inr (.inl m)):=HP.out.1 m (packF_badAt HJN.out.1 HT.out.2.2.1 (by rw[HXE.out];exact HL.out.1) HM.out (by rw[HXE.out,HCO.out];show (2:Int)≠0;decide))
         subst hRd
         have hk1:wc.heap[w.heap.size+1]?=some (.cells #[.int .i64 0,.int .i64 0,.int .i64 0,.int .i64 0,.int .i64 0] 52 (0,0)):=((below_then HL.out.2.2 HBC.out.1).block _ (by have:=HW1.out.2.1;omega)).trans HW1.out.2.2.2
         have e0:wc.cell? ⟨fa,0,none⟩=some (.int .i64 2):=by simp[World.cell?,hf]
         have e3:wc.cell? ⟨fa,3,none⟩=some (.int .i64 (-1)):=by simp[World.cell?,hf]
         have z3:wc.frozen? ⟨fa,3,none⟩=false:=by simp[World.frozen?,hf]
         go_upto_region 21 with fail
         have hk6:(wc.setCell ⟨fa,3,none⟩ (.int .i64 (m:Int))).heap[fa]?=some (.cells #[.int .i64 2,.int .i64 (-1),.int .i64 (-1),.int .i64 (m:Int),.int .i64 (-1)] 52 (0,0)):=by
          rw[heap_setCell_same wc fa 3 _ _ _ hf]
          rfl
         have hk2:(wc.setCell ⟨fa,3,none⟩ (.int .i64 (m:Int))).heap[w.heap.size+1]?=some (.cells #[.int .i64 0,.int .i64 0,.int .i64 0,.int .i64 0,.int .i64 0] 52 (0,0)):=by
          rw[heap_setCell_other _ _ _ _ (by have:=HBC.out.2;show w.heap.size+1≠fa;omega)]
          exact hk1
         have hlo:Below w.heap.size w (wc.setCell ⟨fa,3,none⟩ (.int .i64 (m:Int))):=(below_then HW1.out.1 (below_then HL.out.2.2 HBC.out.1)).setCell (p:=⟨fa,3,none⟩) (by have:=HBC.out.2;show w.heap.size≤fa;omega) _
         generalize wc.setCell ⟨fa,3,none⟩ (.int .i64 (m:Int))=W4 at hk6 hk2 hlo ⊢
         clear e0 e3 z3 hk1 hf
         have a0:W4.cell? ⟨w.heap.size+1,0,none⟩=some (.int .i64 0):=by simp[World.cell?,hk2]
         have a1:W4.cell? ⟨w.heap.size+1,1,none⟩=some (.int .i64 0):=by simp[World.cell?,hk2]
         have a2:W4.cell? ⟨w.heap.size+1,2,none⟩=some (.int .i64 0):=by simp[World.cell?,hk2]
         have a3:W4.cell? ⟨w.heap.size+1,3,none⟩=some (.int .i64 0):=by simp[World.cell?,hk2]
         have a4:W4.cell? ⟨w.heap.size+1,4,none⟩=some (.int .i64 0):=by simp[World.cell?,hk2]
         have az0:W4.frozen? ⟨w.heap.size+1,0,none⟩=false:=by simp[World.frozen?,hk2]
         have az1:W4.frozen? ⟨w.heap.size+1,1,none⟩=false:=by simp[World.frozen?,hk2]
         have az2:W4.frozen? ⟨w.heap.size+1,2,none⟩=false:=by simp[World.frozen?,hk2]
         have az3:W4.frozen? ⟨w.heap.size+1,3,none⟩=false:=by simp[World.frozen?,hk2]
         have az4:W4.frozen? ⟨w.heap.size+1,4,none⟩=false:=by simp[World.frozen?,hk2]
         have b0:W4.cell? ⟨fa,0,none⟩=some (.int .i64 2):=by simp[World.cell?,hk6]
         have b1:W4.cell? ⟨fa,1,none⟩=some (.int .i64 (-1)):=by simp[World.cell?,hk6]
         have b2:W4.cell? ⟨fa,2,none⟩=some (.int .i64 (-1)):=by simp[World.cell?,hk6]
         have b3:W4.cell? ⟨fa,3,none⟩=some (.int .i64 (m:Int)):=by simp[World.cell?,hk6]
         have b4:W4.cell? ⟨fa,4,none⟩=some (.int .i64 (-1)):=by simp[World.cell?,hk6]
         have hk5:=heap_set (heap_set (heap_set (heap_set (heap_set hk2 0 (.int .i64 2)) 1 (.int .i64 (-1))) 2 (.int .i64 (-1))) 3 (.int .i64 (m:Int))) 4 (.int .i64 (-1))
         simp only[List.setIfInBounds_toArray,List.set_cons_zero,List.set_cons_succ]at hk5
         have HK5:Hid _:=hk5
         have HLO:Hid (Below w.heap.size w W4):=hlo
         clear hk5 hk2 hk6 hlo
         go_wp2
         exact bodyPost_ret (v:=faultAt 2 (m:Int) (-1)) (by simp[results,Tryz.results33,go_sem,World.cell?,HK5.out]) rfl (RLoadP.same HS.out.1 (below_set5 HLO.out (by omega) _ _ _ _ _) rfl rfl rfl)
     have hmt:m=ts.length:=by omega
     subst hmt
     have HD:Hid (packF rs ts hs (cks rs.length G (j+1))=.inl (T++l)):=by
      show _=_
      rw[cks_succ,packF_snoc,HT.out.2.2.1]
      simp only[packS]
      rw[HXE.out,HL.out.1]
     have x1:¬ ((ts.length:Int)<(ts.length:Int)):=by omega
     go_wp2
     go_roundw
     case rel=>exact⟨j+1,J+G,T++l,by go_num,by have:=HJN.out.2;omega,by rw[HT.out.1,Nat.succ_mul],HJN.out.1,HD.out,HL.out.2.1,HL.out.2.2⟩
     case measure=>have:=HJN.out.2;simp[intOf];omega
   have hjN:j=ckN rs.length G:=by
    have h1:=HT.out.2.1
    rcases Nat.lt_or_ge j (ckN rs.length G)with h2|h2
    ·have h3:=ckN_lt hG1 h2
     have h4:=HT.out.1
     omega
    ·omega
   have HPT:Hid (packF rs ts hs (cks rs.length G (ckN rs.length G))=.inl T):=by
    show _=_
    rw[←hjN]
    exact HT.out.2.2.1
   have hRT:=HP.out.2 T HPT.out
   subst hRT
   have HTT:Hid (T.length≤1200∧(∀ t∈T,t.length≤6100)∧totalP T≤132000):=by
    obtain⟨p1,p2,p3,p4⟩:=packs_in (g:=(G:Int)) HG.out (by rw[Int.toNat_natCast];exact HPT.out)
    have h3:=ckN_le rs.length G hG1
    rw[Int.toNat_natCast]at p1
    have h5:ckN rs.length G*ts.length≤200*6:=Nat.mul_le_mul (by omega) hts6
    exact⟨by omega,fun t ht=>(p2 t ht).1,by omega⟩
   have HB1:Hid (Below w.heap.size w wr∧w1.heap.size≤wr.heap.size):=⟨below_then HW1.out.1 HT.out.2.2.2.2,HT.out.2.2.2.2.size⟩
   have h0t:0<ts.length:=HG.out.1.2.1.1.1
   obtain⟨tb,t0,hat,_,_⟩:=(show Ints wr at_ ts from HA.out.types.below HB1.out.1).at h0t
   subst hat
   have hcp:=rCopied_any name tb t0 ct ts ar cr xs rs wr (HA.out.types.below HB1.out.1) ⟨h0t,by omega⟩ (HA.out.rows.below HB1.out.1) (by omega) (fun r hr=>by
    obtain⟨i,hi,rfl⟩:=List.getElem_of_mem hr
    have:=(HG.out.1.2.2.2 i hi).1
    omega)
   have x1:¬ ((J:Int)<(rs.length:Int)):=by omega
   clear hjN hlt
   go_upto_region 24 with(go_at_call 56;refine hcp.mono ?_;rintro e Y1 ⟨ta,tc,ra,rc,xs',rfl,hi,hy,hro,hbY,hta⟩)
   clear hcp c0 c1 c2 x1
   obtain⟨Y,hY⟩:∃ Y,Y=Y1.alloc (.cells #[.string name,.slice ta ts.length tc,.slice ra rs.length rc,.slice none 0 0] 116):=⟨_,rfl⟩
   rw[←hY]
   obtain⟨sv0,tv,xs0,s1,s2,s3,s4,s5,s6,s7,s8,s9⟩:=HS.out.1.ex
   have hbYY:Below Y1.heap.size Y1 Y:=by rw[hY];exact(Below.refl _ _).alloc (Nat.le_refl _) _
   have hwY:=below_then HB1.out.1 (below_then hbY hbYY)
   have hst:=HS.out.1.lt st (s9 st (.inl rfl))
   have hYx:Y.heap[Y1.heap.size]?=some (.cells #[.string name,.slice ta ts.length tc,.slice ra rs.length rc,.slice none 0 0] 116 (0,0)):=by rw[hY];exact heap_alloc_new _ _
   have hzY:Y1.heap.size<Y.heap.size:=lt_of_heap hYx
   have hz1:=hbY.size
   have hz2:=HB1.out.1.size
   have hz3:=HB1.out.2
   have hz4:=HW1.out.2.1
   obtain⟨xb,hxb⟩:∃ xb,xb=Y1.heap.size:=⟨_,rfl⟩
   rw[←hxb]at hYx hzY ⊢
   have HXB:Hid (w.heap.size+2≤xb∧xb<Y.heap.size∧Below w.heap.size w Y∧(∀ b o,ta=some ⟨b,o,none⟩→w.heap.size+2≤b∧b<Y.heap.size∧b≠xb)∧Ints Y ta ts∧TyI Y ta∧Y.heap[w.heap.size+1]?=some (.cells #[.int .i64 0,.int .i64 0,.int .i64 0,.int .i64 0,.int .i64 0] 52 (0,0))∧st<w.heap.size):=⟨by omega,hzY,hwY,fun b o e=>by have:=hta b o e;omega,hi.below hbYY,hy.below hbYY,((below_then HT.out.2.2.2.2 (below_then hbY hbYY)).block _ (by omega)).trans HW1.out.2.2.2,hst⟩
   have HOS:Hid (OwnC Y w1.heap.size 3 _ (lenI T)∧w.heap.size+2≤w1.heap.size∧∀ g,Value.ownBlock _=some g→g<xb):=⟨owns_below HT.out.2.2.2.1 (below_then hbY hbYY),by omega,fun g hg=>by have:=(owns_block HT.out.2.2.2.1 hg).2;omega⟩
   have HRW:Hid (RWr Y st xb sv0 tv (.slice ta ts.length tc) (.slice ra rs.length rc) name n sv0 (.slice none 0 0) [] Y):=by
    refine⟨(hwY.block st hst).trans s1,owns_of_block s2 fun g hg=>hwY.block g (HS.out.1.lt g (s9 g (.inr (.inl hg)))),⟨s5,fun e=>?_⟩,fun g hg=>.inl hg,hYx,OwnC.nil _ _ _,by simp,by simp[Value.ownBlock],Keep.refl _ _,by omega,hzY,by omega⟩
    have:=HS.out.1.lt xb (s9 xb (.inr (.inl e)))
    omega
   have HS0:Hid (w.ownsRow 0 116 4 tv Rs.length (rtCs Rs xs0)∧xs0.length=Rs.length∧tv.ownBlock≠some st∧(∀ g,sv0.ownBlock=some g→tv.ownBlock≠some g)∧(∀ (j:Nat) R x,Rs[j]?=some R→xs0[j]?=some x→Ints w x.1.1 R.2∧TyI w x.1.1∧∀ b o,x.1.1=some ⟨b,o,none⟩→N b∧b≠st∧sv0.ownBlock≠some b∧tv.ownBlock≠some b)∧(∀ k,k=st∨sv0.ownBlock=some k∨tv.ownBlock=some k→N k)):=⟨s3,s4,s6,s7,s8,s9⟩
   obtain⟨aS,cS,hsS,_⟩:=HOS.out.1.cells
   subst hsS
   have hlT:(lenI T).length=T.length:=List.length_map _
   rw[hlT]
   clear s1 s2 s3 s4 s5 s6 s7 s8 s9 hbYY hwY hst hYx hzY hz1 hz2 hz3 hz4 hxb hY hi hy hro hbY hta hlT HBL
   have hT12:T.length≤1200:=HTT.out.1
   go_upto_region 25 with fail
   go_loopw [18] (fun kv wx=>∃ (k:Nat) (sv pv:Value) (pl:List Value),kv=.int .i64 (k:Int)∧k≤T.length∧Hid (RWr Y st xb sv0 tv (.slice ta ts.length tc) (.slice ra rs.length rc) name (n+totalP (T.take k)) sv pv pl wx)) (fun kv _=>T.length-(intOf kv).toNat)
   case atStart=>exact⟨0,sv0,.slice none 0 0,[],rfl,Nat.zero_le _,by rw[List.take_zero];exact HRW.out⟩
   case round=>
    clear HRW
    obtain⟨k,sv,pv,pl,rfl,hk,HK⟩:=hrel
    have HOK:Hid (OwnC wr w1.heap.size 3 (.slice aS T.length cS) (lenI T)):=by
     have h1:=HOS.out.1
     rw[show (lenI T).length=T.length from List.length_map _]at h1
     refine owns_of_block h1 fun g hg=>HK.out.keep.block g (owns_block h1 hg).2 fun e=>?_
     have h2:=(owns_block h1 hg).1
     have h3:=HOS.out.2.1
     have h4:=HXB.out.2.2.2.2.2.2.2
     rcases e with e|e|e
     ·omega
     ·have:=HS.out.1.lt g (HS0.out.2.2.2.2.2 g (.inr (.inl e)));omega
     have:=HOS.out.2.2 g (by rw[show (lenI T).length=T.length from List.length_map _];exact hg);omega
    by_cases hkl:k<T.length
    ·obtain⟨a6,c6,h6,hc6⟩:=HOK.out.cells
     injection h6 with h6 h6l h6'
     subst h6
     obtain⟨bS,oS,hbS,_,y1⟩:=hc6.at (show k<(lenI T).length by unfold lenI;rw[List.length_map];exact hkl)
     subst hbS
     have hsz:(lenI T)[k]'(by unfold lenI;rw[List.length_map];exact hkl)=.int .i64 (T[k].length:Int):=by simp[lenI,iv]
     rw[hsz]at y1
     have HTK:Hid (totalP (T.take (k+1))=totalP (T.take k)+(T[k].length+55) / 56∧totalP (T.take (k+1))≤132000∧k<T.length):=⟨totalP_take T k hkl,Nat.le_trans (totalP_take_le T _) HTT.out.2.2,hkl⟩
     have hs61:T[k].length≤6100:=HTT.out.2.1 _ (List.getElem_mem hkl)
     generalize T[k].length=s at y1 HTK hs61
     have i1:(0:Int)≤(k:Int):=by omega
     have i2:(k:Int)<(T.length:Int):=by omega
     clear hsz hc6 h6' h6l
     go_upto_region 28 with fail
     clear y1 i1 i2
     obtain⟨M0,hM0⟩:∃ M0,M0=n+totalP (T.take k):=⟨_,rfl⟩
     rw[←hM0]at HK
     have HM0:Hid (M0=n+totalP (T.take k)∧M0+(s+55) / 56≤800000):=⟨hM0,by have h1:=HTK.out;have h2:=HS.out.2.2;have h3:=HR6.out.1;omega⟩
     clear hM0
     go_loopw [19] (fun nv wx=>∃ (i:Nat) (sv pv:Value) (pl:List Value),nv=.int .i64 ((s:Int)-56*(i:Int))∧i≤(s+55) / 56∧Hid (RWr Y st xb sv0 tv (.slice ta ts.length tc) (.slice ra rs.length rc) name (M0+i) sv pv pl wx)) (fun nv _=>(intOf nv).toNat)
     case atStart=>exact⟨0,sv,pv,pl,by simp,Nat.zero_le _,HK.out⟩
     case round=>
      clear HK HOK
      obtain⟨i,sv,pv,pl,rfl,hi,HK⟩:=hrel
      by_cases hil:i<(s+55) / 56
      ·have i1:(s:Int)-56*(i:Int)>0:=by omega
       have hMi:M0+i≤800000:=by have:=HM0.out.2;omega
       have hwr:=rWrite_any 0 st (M0+i) 1048576 0 ((M0+i:Nat):Int) sv tv wr HK.out.store HK.out.own HK.out.ne.1 (by omega) (by omega) (by omega) (by omega) (by omega) (Nat.zero_le _)
       have HIL:Hid (i<(s+55) / 56):=hil
       clear hil
       go_upto_region 34 with(go_at_call 57;refine hwr.mono ?_;rintro e w2 ⟨rfl,sv',k1,k2,k3,k4⟩)
       clear hwr
       have HK2:Hid (RWr Y st xb sv0 tv (.slice ta ts.length tc) (.slice ra rs.length rc) name (M0+i+1) sv' pv pl w2∧pl.length≤M0+i):=⟨HK.out.wrote k1 k2 k3 k4,HK.out.len⟩
       clear k1 k2 k3 k4 HK
       have e3:w2.cell? ⟨xb,3,none⟩=some pv:=by simp[World.cell?,HK2.out.1.tab]
       have HLX:Hid (∀ (o:Obj) (X:World),(w2.alloc o).grownBy X pv.ownBlock→X.cell? ⟨xb,3,none⟩=some pv∧X.frozen? ⟨xb,3,none⟩=false):=fun o X hg=>by
        have hl:=lt_of_heap HK2.out.1.tab
        have hx:X.heap[xb]?=w2.heap[xb]?:=(hg.block xb (by rw[World.size_alloc];omega) fun e=>by have h1:=owns_block HK2.out.1.pages e.symm;have h2:=HK2.out.1.lt;omega).trans (Below.heap_alloc _ _ _ hl)
        exact⟨by simp[World.cell?,hx,HK2.out.1.tab],by simp[World.frozen?,hx,HK2.out.1.tab]⟩
       obtain⟨ap,cp,hpv⟩:=row_slice HK2.out.1.pages
       subst hpv
       go_wp2_with (at_builtin;go_must (refine wpList_append_C (by rfl) _ _ 29 3 _ 8 info_int (by rfl) (by decide) (by kernel_rfl) (by rfl) Y.heap.size _ pl (by rfl) (OwnC.alloc HK2.out.1.pages _) ⟨w2.heap.size,0,none⟩ 1 [.int .i64 ((M0+i:Nat):Int)] (by rfl) (by exact news_one w2 _ _) (by intro u hu;simp at hu;subst hu;rfl) (by have:=HK2.out.2;simp only[List.length_cons,List.length_nil];omega) (by have:=HK2.out.1.keep.size;simp;omega) ?_);intro pv' w4 t1 t2 t3;have z1:=(HLX.out _ w4 t2).1;have z2:=(HLX.out _ w4 t2).2;obtain⟨ap',cp',hpv'⟩:=row_slice t1;rw[List.length_append,List.length_singleton]at hpv';subst hpv')
       go_roundw
       case rel=>exact⟨i+1,sv',_,_,by go_num,HIL.out,HK2.out.1.paged t1 t2 t3 (by have:=HK2.out.2;omega)⟩
       case measure=>have:=HIL.out;simp[intOf];omega
      have hie:i=(s+55) / 56:=by omega
      have HIE:Hid (n+totalP (T.take (k+1))=M0+i):=by have h1:=HTK.out.1;have h2:=HM0.out.1;show n+totalP (T.take (k+1))=M0+i;omega
      have i1:¬ ((s:Int)-56*(i:Int)>0):=by omega
      clear hie hil
      go_wp2
      go_roundw
      case rel=>exact⟨k+1,sv,pv,pl,by go_num,HTK.out.2.2,by rw[HIE.out];exact HK.out⟩
      case measure=>have:=HTK.out.2.2;simp[intOf];omega
    obtain rfl:k=T.length:=by omega
    rw[List.take_length]at HK
    have i1:¬ ((T.length:Int)<(T.length:Int)):=by omega
    clear HOK
    go_upto_region 35 with fail
    clear i1
    obtain⟨ap,cp,hpv⟩:=row_slice HK.out.pages
    subst hpv
    have htl:∀ g,tv.ownBlock=some g→g<w.heap.size:=fun g hg=>HS.out.1.lt g (HS0.out.2.2.2.2.2 g (.inr (.inr hg)))
    have HTO:Hid (wr.ownsRow 0 116 4 tv Rs.length (rtCs Rs xs0)):=by
     refine owns_of_block HS0.out.1 fun g hg=>?_
     have h1:=htl g hg
     have h2:=HXB.out
     rw[HK.out.keep.block g (by omega) fun e=>?_]
     ·exact h2.2.2.1.block g h1
     rcases e with e|e|e
     ·exact HS0.out.2.2.1 (e▸hg)
     ·exact HS0.out.2.2.2.1 g e hg
     omega
    have HTN:Hid (tv.ownBlock≠some xb):=fun e=>by have h1:=htl xb e;have h2:=HXB.out.1;omega
    clear htl
    obtain⟨at2,ct2,htv⟩:=row_slice HTO.out
    subst htv
    have d4:wr.cell? ⟨st,4,none⟩=some (.slice at2 Rs.length ct2):=by simp[World.cell?,HK.out.store]
    have g0:wr.cell? ⟨xb,0,none⟩=some (.string name):=by simp[World.cell?,HK.out.tab]
    have g1:wr.cell? ⟨xb,1,none⟩=some (.slice ta ts.length tc):=by simp[World.cell?,HK.out.tab]
    have g2:wr.cell? ⟨xb,2,none⟩=some (.slice ra rs.length rc):=by simp[World.cell?,HK.out.tab]
    have g3:wr.cell? ⟨xb,3,none⟩=some (.slice ap pl.length cp):=by simp[World.cell?,HK.out.tab]
    refine wp_region_last 10 (S:=fun Z=>Z.cell? ⟨st,4,none⟩=some (.slice at2 Rs.length ct2)∧Z.cell? ⟨xb,0,none⟩=some (.string name)∧Z.cell? ⟨xb,1,none⟩=some (.slice ta ts.length tc)∧Z.cell? ⟨xb,2,none⟩=some (.slice ra rs.length rc)∧Z.cell? ⟨xb,3,none⟩=some (.slice ap pl.length cp)) (by kernel_rfl) ⟨cell_drew d4,cell_drew g0,cell_drew g1,cell_drew g2,cell_drew g3⟩ (fun hH=>?_)
    refine tkm 0 rfl hH ?_
    refine tkm 1 rfl hH ?_
    refine tkm 2 rfl hH ?_
    refine tkm 3 rfl hH ?_
    refine tkn ?_
    refine tkm 4 rfl hH ?_
    refine tkm 5 rfl hH ?_
    refine tkn ?_
    clear d4 g0 g1 g2 g3
    obtain⟨Z,hZ⟩:∃ Z,Z=wr.drew:=⟨_,rfl⟩
    rw[←hZ]at hH ⊢
    have HZ:Hid (Z=wr.drew):=hZ
    clear hZ
    have HKZ:Hid (RWr Y st xb sv0 (.slice at2 Rs.length ct2) (.slice ta ts.length tc) (.slice ra rs.length rc) name (n+totalP T) sv (.slice ap pl.length cp) pl Z∧Z.ownsRow 0 116 4 (.slice at2 Rs.length ct2) Rs.length (rtCs Rs xs0)):=by
     rw[HZ.out]
     exact⟨⟨HK.out.store,HK.out.own,HK.out.ne,HK.out.old,HK.out.tab,HK.out.pages,HK.out.len,HK.out.apart,HK.out.keep.drewN 1,HK.out.lt⟩,HTO.out⟩
    clear HK HTO HZ
    refine wpAnyL_one 6 rfl (fun K hK=>?_)
    go_simp
    have hb3:Below Z.heap.size Z (Z.alloc (.cells #[.string name,.slice ta ts.length tc,.slice ra rs.length rc,.slice ap pl.length cp] 116)):=below_alloc (Below.refl _ _) _
    refine hK.out _ _ ⟨cell_below hb3 hH.1,cell_below hb3 hH.2.1,cell_below hb3 hH.2.2.1,cell_below hb3 hH.2.2.2.1,cell_below hb3 hH.2.2.2.2⟩ (fun hH=>?_)
    clear hK K hb3 hH
    refine wpAnyL_one 7 rfl (fun K hK=>?_)
    refine step_append_T rfl (.tmp 149) (.tmp 151) rfl HKZ.out.2 [.string name,.slice ta ts.length tc,.slice ra rs.length rc,.slice ap pl.length cp] rfl (fun u hu=>by simp at hu;rcases hu with rfl|rfl|rfl|rfl<;>rfl) (by have:=HR6.out.1;omega) rfl rfl (fun a7 c7 w4 t1 t2 t3=>?_)
    have hblk:∀ b,b<Z.heap.size→(Value.slice at2 Rs.length ct2).ownBlock≠some b→w4.heap[b]?=Z.heap[b]?:=fun b hb hn=>(t2.block b (by rw[World.size_alloc];omega) fun e=>hn e.symm).trans (Below.heap_alloc _ _ _ hb)
    have hxz:=(hblk xb (lt_of_heap HKZ.out.1.tab) HTN.out).trans HKZ.out.1.tab
    have hsz:=(hblk st (lt_of_heap HKZ.out.1.store) HS0.out.2.2.1).trans HKZ.out.1.store
    have d4:w4.cell? ⟨st,4,none⟩=some (.slice at2 Rs.length ct2):=by simp[World.cell?,hsz]
    have z4:w4.frozen? ⟨st,4,none⟩=false:=by simp[World.frozen?,hsz]
    refine hK.out _ _ ⟨d4,by simp[World.cell?,hxz],by simp[World.cell?,hxz],by simp[World.cell?,hxz],by simp[World.cell?,hxz]⟩ (fun hH=>?_)
    clear hK K hblk hxz hsz
    simp only[Act.put,List.getElem_toArray,List.getElem_cons_zero,List.getElem_cons_succ,List.setIfInBounds_toArray,List.set_cons_zero,List.set_cons_succ]
    refine wpAnyL_one 8 rfl (fun K hK=>?_)
    go_simp
    refine hK.out _ _ hH (fun hH=>?_)
    clear hK K
    refine tkm 9 rfl hH ?_
    refine tkn ?_
    refine wpAnyL_last rfl (fun K hK=>?_)
    go_simp
    refine hK.out _ _ ?_
    clear hK K d4 z4 hH
    have HDN:Hid _:=HKZ.out.1.done HS.out.1 HXB.out.2.2.1 (by have:=HXB.out.1;omega) HS0.out.2.1 HS0.out.2.2.1 HS0.out.2.2.2.1 HS0.out.2.2.2.2.1 HS0.out.2.2.2.2.2 HXB.out.2.2.2.2.1 HXB.out.2.2.2.2.2.1 (fun b o e=>by have:=HXB.out.2.2.2.1 b o e;omega) t1 t2 t3
    have hk9:(w4.setCell ⟨st,4,none⟩ (.slice a7 (Rs.length+1) c7)).heap[w.heap.size+1]?=some (.cells #[.int .i64 0,.int .i64 0,.int .i64 0,.int .i64 0,.int .i64 0] 52 (0,0)):=by
     have h1:=HXB.out
     have h2:=HKZ.out.1.keep.size
     rw[heap_setCell_other _ _ _ _ (by show w.heap.size+1≠st;omega),t2.block _ (by rw[World.size_alloc];omega) fun e=>?_,Below.heap_alloc _ _ _ (by omega),HKZ.out.1.keep.block _ (by omega) fun e=>?_]
     ·exact h1.2.2.2.2.2.2.1
     ·rcases e with e|e|e
      ·omega
      ·have:=HS.out.1.lt _ (HS0.out.2.2.2.2.2 _ (.inr (.inl e)));omega
      omega
     have:=HS.out.1.lt _ (HS0.out.2.2.2.2.2 _ (.inr (.inr e.symm)));omega
    generalize w4.setCell ⟨st,4,none⟩ (.slice a7 (Rs.length+1) c7)=W6 at HDN hk9 ⊢
    clear t1 t2 t3 HKZ
    go_upto_region 36 with fail
    have hgd:=rGood_any W6
    go_wp2_with fail
    refine hgd.mono ?_
    rintro e W7 ⟨rfl,hb7⟩
    have hk7:=(hb7.block _ (lt_of_heap hk9)).trans hk9
    have a0:W7.cell? ⟨w.heap.size+1,0,none⟩=some (.int .i64 0):=by simp[World.cell?,hk7]
    have a1:W7.cell? ⟨w.heap.size+1,1,none⟩=some (.int .i64 0):=by simp[World.cell?,hk7]
    have a2:W7.cell? ⟨w.heap.size+1,2,none⟩=some (.int .i64 0):=by simp[World.cell?,hk7]
    have a3:W7.cell? ⟨w.heap.size+1,3,none⟩=some (.int .i64 0):=by simp[World.cell?,hk7]
    have a4:W7.cell? ⟨w.heap.size+1,4,none⟩=some (.int .i64 0):=by simp[World.cell?,hk7]
    have b0:W7.frozen? ⟨w.heap.size+1,0,none⟩=false:=by simp[World.frozen?,hk7]
    have b1:W7.frozen? ⟨w.heap.size+1,1,none⟩=false:=by simp[World.frozen?,hk7]
    have b2:W7.frozen? ⟨w.heap.size+1,2,none⟩=false:=by simp[World.frozen?,hk7]
    have b3:W7.frozen? ⟨w.heap.size+1,3,none⟩=false:=by simp[World.frozen?,hk7]
    have b4:W7.frozen? ⟨w.heap.size+1,4,none⟩=false:=by simp[World.frozen?,hk7]
    have hk5:=heap_set (heap_set (heap_set (heap_set (heap_set hk7 0 (.int .i64 0)) 1 (.int .i64 (-1))) 2 (.int .i64 (-1))) 3 (.int .i64 (-1))) 4 (.int .i64 (-1))
    simp only[List.setIfInBounds_toArray,List.set_cons_zero,List.set_cons_succ]at hk5
    have HK5:Hid _:=hk5
    have HB7:Hid (Below W6.heap.size W6 W7):=hb7
    clear hk5 hk7 hk9 hb7 hgd
    go_wp2
    refine bodyPost_ret (v:=fault 0) (by simp[results,Tryz.results33,go_sem,World.cell?,HK5.out]) rfl ⟨rfl,HDN.out _ ⟨HB7.out.os,HB7.out.tape,HB7.out.output,by rw[set5_size];exact HB7.out.size,fun k hk' hn=>?_⟩⟩
    by_cases e:k=w.heap.size+1
    ·subst e
     refine absurd ?_ hn
     have h1:=HXB.out
     exact⟨by omega,by omega,by omega,fun o e=>by have:=h1.2.2.2.1 _ o e;omega⟩
    exact(set5_other _ _ _ _ _ _ _ k e).trans (HB7.out.block k hk')
end Go.Proofs.YtkgibdjakgmmcaaGreatDoor
