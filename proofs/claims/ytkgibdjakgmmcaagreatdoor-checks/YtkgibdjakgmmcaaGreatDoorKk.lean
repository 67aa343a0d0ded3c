/- What package segments' Pack answers: for every type, way and list of values. -/
import Derived.Test.YtkgibdjakgmmcaaGreatDoorRh
import Derived.Test.YtkgibdjakgmmcaaGreatDoorEw
import Derived.Recover
import Derived.Defers
import Derived.Lib.ConvBytes
import Derived.Lib.Strings
import Derived.Lib.Walk
import Derived.Lib.BufferWrite
import Derived.Lib.UnsafeStr
import Derived.Laws.MakeOwn
set_option maxHeartbeats 1000000
set_option maxRecDepth 100000
namespace Go.Proofs.YtkgibdjakgmmcaaGreatDoor
section
open Go.RowKit
theorem size_wayfn:(Tryz.prog.info? 238).map (fun i=>i.size)=some 1:=by kernel_rfl
theorem run_index_ways (x0 x1 x2 x3:Value)(w:World) :
  (Instr.index 239 (.agg #[x0,x1,x2,x3]) (.int .i64 0)).run Tryz.prog w=.ok x0 w ∧
  (Instr.index 239 (.agg #[x0,x1,x2,x3]) (.int .i64 1)).run Tryz.prog w=.ok x1 w ∧
  (Instr.index 239 (.agg #[x0,x1,x2,x3]) (.int .i64 2)).run Tryz.prog w=.ok x2 w ∧
  (Instr.index 239 (.agg #[x0,x1,x2,x3]) (.int .i64 3)).run Tryz.prog w=.ok x3 w:=by
 obtain⟨i,hi,hs⟩:=Option.map_eq_some_iff.1 size_wayfn
 refine⟨?_,?_,?_,?_⟩<;>simp[Instr.index,run_underlying Tryz.underlying239,run_underlying Tryz.underlying238,asIntOf,part,isAgg,sizeOf,typeInfo,hi,hs]
def okAll (t:Int)(xs:List V):Prop:=xs.length≤64∧∀ j (hj:j<xs.length),okB t xs[j].k xs[j].n xs[j].s=true
def bodyEnc (t how:Int)(l:List V):List UInt8:=
 if how=0 then encAll l else if how=1 then dictEnc l else if how=2 then runsEnc l else packedEnc t l
def segEnc (t how:Int)(xs:List V):List UInt8:=headEnc t how xs++bodyEnc t how (heldOf xs)
theorem good_held (t:Int)(xs:List V)(h:okAll t xs):∀ v∈heldOf xs,good v.k v.s:=by
 intro v hv
 obtain⟨hm,hk⟩:=List.mem_filter.1 hv
 obtain⟨j,hj,rfl⟩:=List.getElem_of_mem hm
 have:=h.2 j hj
 unfold okB okK at this
 simp at this hk
 unfold good
 omega
theorem wat_new (w:World)(B:Nat)(t:Int)(hB:B≤w.heap.size):WAt (w.alloc (.cells #[.int .i64 t,.slice none 0 0] 236)) B w.heap.size t []:=
 ⟨hB,.slice none 0 0,heap_alloc_new _ _,OwnC.nil _ _ _,by simp[Value.ownBlock]⟩
theorem apart_old (w:World)(t:Int){k:Nat}(hk:k<w.heap.size):Apart (w.alloc (.cells #[.int .i64 t,.slice none 0 0] 236)) w.heap.size k:=by
 refine⟨by simp;omega,by omega,fun sv hs=>?_⟩
 have:sv=.slice none 0 0:=by simpa using hs.symm
 subst this
 simp[Value.ownBlock]
theorem wkeep_below {w w':World}{B g:Nat}{t:Int}{bs:List UInt8}(h:WAt w B g t bs)(hk:WKeep w w' g)(w0:World)(hB:B=w0.heap.size)(h0:Below w0.heap.size w0 w):Below w0.heap.size w0 w':=by
 refine⟨hk.os.trans h0.os,hk.tape.trans h0.tape,hk.output.trans h0.output,Nat.le_trans h0.size hk.size,fun k hlt=>?_⟩
 have hs:=h0.size
 rw[(hk.block k (h.apart (by omega) (by omega))).1,h0.block k hlt]
theorem sPack_arg (t how:Int)(a:Option Addr)(cap:Nat)(xs:List V)(w:World)(hn:xs.length≤maxLen)(hx:Vals w a xs)(e0:Value)(hE0:w.cell? ⟨14,0,none⟩=some e0)(hbad:¬ (way t how=true∧okAll t xs)) :
  Calls Tryz.prog 94 #[.int .i64 t,.int .i64 how,.slice a xs.length cap] w fun e w'=>e=.returned (.tuple #[.string (str []),e0])∧Below w.heap.size w w':=by
 cases hway:way t how
 ·go_enter Tryz.func94,Tryz.ntmps94
  go_wp2_with (go_at_call 92;refine(canBe_any _ _ _).mono ?_;rintro e w' ⟨rfl,hw'⟩;rw[hway];subst w')
  go_quiet (fail)
  go_wp2
  go_ret2
  exact⟨rfl,below_drewN (Below.refl _ _) _⟩
 have hb:¬ okAll t xs:=fun h=>hbad ⟨hway,h⟩
 have HB:Hid (false=true↔xs.length≤64∧∀ j (hj:j<xs.length),okB t xs[j].k xs[j].n xs[j].s=true):=⟨fun h=>by simp at h,fun h=>absurd h hb⟩
 clear hbad hb
 have hlt0:=lt_of_cell hE0
 simp only at hlt0
 go_enter Tryz.func94,Tryz.ntmps94
 go_wp2_with (first
  |(go_at_call 92;refine(canBe_any _ _ _).mono ?_;rintro e w' ⟨rfl,hw'⟩;rw[hway];subst w')
  |(go_at_call 115;refine(areValues_any t a cap xs _ hn hx false HB.out).mono ?_;rintro e w1 ⟨rfl,hb1⟩;have hE1:w1.cell? ⟨14,0,none⟩=some e0:=(by rw[(below_keep hb1).1 14 0 hlt0];exact hE0)))
 go_quiet (fail)
 go_wp2
 go_ret2
 exact⟨rfl,below_drewN hb1 _⟩
theorem sPack_dict (t:Int)(a:Option Addr)(cap:Nat)(xs:List V)(w:World)(hn:xs.length≤maxLen)(hx:Vals w a xs)(e1:Value)(hE1:w.cell? ⟨1,0,none⟩=some e1)(hway:way t 1=true)(hok:okAll t xs)(hd:16<(uniq [] (heldOf xs)).length) :
  Calls Tryz.prog 94 #[.int .i64 t,.int .i64 1,.slice a xs.length cap] w fun e w'=>e=.returned (.tuple #[.string (str []),e1])∧Below w.heap.size w w':=by
 have hlt0:=lt_of_cell hE1
 simp only at hlt0
 have h64:=hok.1
 have hhl:=heldOf_le xs
 go_enter Tryz.func94,Tryz.ntmps94
 go_wp2_with fail
 refine(canBe_any _ _ _).mono ?_
 rintro e w' ⟨rfl,hw'⟩
 rw[hway]
 subst w'
 go_wp2_with fail
 refine(areValues_any t a cap xs _ hn hx true ⟨fun _=>hok,fun _=>rfl⟩).mono ?_
 rintro e w1 ⟨rfl,hb1⟩
 go_wp2_with fail
 refine(withoutNulls_any a cap xs w1 h64 (hx.below hb1)).mono ?_
 rintro e w2 ⟨sv2,rfl,hown2,hb2⟩
 obtain⟨a2,cap2,rfl,hv2⟩:=hown2.vals
 generalize heldOf xs=hl at *
 go_wp2_with fail
 refine(different_any a2 cap2 hl w2 (by omega) hv2).mono ?_
 rintro e w3 ⟨sv3,rfl,hown3,hb3⟩
 obtain⟨a3,cap3,rfl,hv3⟩:=hown3.vals
 have hball:=below_then hb1 (below_then hb2 hb3)
 have hE3:w3.cell? ⟨1,0,none⟩=some e1:=by rw[(below_keep hball).1 1 0 hlt0];exact hE1
 have hd':(16:Int)<((uniq [] hl).length:Int):=by omega
 generalize uniq [] hl=d at *
 go_wp2
 go_quiet (fail)
 go_wp2
 go_ret2
 exact⟨rfl,below_drewN hball _⟩
theorem conv_out {w:World}{B g:Nat}{t:Int}{bs:List UInt8}(h:WAt w B g t bs)(hne:bs≠[]){sv:Value}(h1:w.cell? ⟨g,1,none⟩=some sv):(convert 212 9 sv).run Tryz.prog w=.ok (.string (str bs)) w:=by
 obtain⟨sv',_,h1',_,ho,_⟩:=h.cells
 rw[h1]at h1'
 cases h1'
 obtain⟨a,cap,rfl,hc⟩:=ho.cells
 rw[List.length_map]
 rcases hc with hc|⟨b,o,rfl,_,hc⟩
 ·exact absurd (List.map_eq_nil_iff.1 hc) hne
 refine run_conv_bytes w ⟨b,o,none⟩ cap bs fun j u hj=>?_
 rw[Addr.add_mid]
 exact hc j u hj
theorem OwnV.cap {w:World}{B:Nat}{a:Option Addr}{n c:Nat}{vs:List V}(h:OwnV w B (.slice a n c) vs):vs.length≤c:=by
 rcases h.2 with⟨_,h0⟩|⟨g,cap,cur,hv,_,_,hc,_⟩
 ·omega
 injection hv with _ _ h3
 omega
theorem sPack_plain (t:Int)(a:Option Addr)(cap:Nat)(xs:List V)(w:World)(hn:xs.length≤maxLen)(hx:Vals w a xs)(hway:way t 0=true)(hok:okAll t xs) :
  Calls Tryz.prog 94 #[.int .i64 t,.int .i64 0,.slice a xs.length cap] w fun e w'=>e=.returned (.tuple #[.string (str (segEnc t 0 xs)),.nilIface])∧Below w.heap.size w w':=by
 have h64:=hok.1
 have hhl:=heldOf_le xs
 have hgd:=good_held t xs hok
 have HSE:Hid (segEnc t 0 xs=headEnc t 0 xs++encAll (heldOf xs)):=rfl
 have hhd:(headEnc t 0 xs).length≤1000:=by unfold headEnc;rw[List.length_append,packBits_length,List.length_map];simp only[List.length_cons,List.length_nil];omega
 have hhn:headEnc t 0 xs≠[]:=by simp[headEnc]
 go_enter Tryz.func94,Tryz.ntmps94
 go_wp2_with fail
 refine(canBe_any _ _ _).mono ?_
 rintro e w' ⟨rfl,hw'⟩
 rw[hway]
 subst w'
 go_wp2_with fail
 refine(areValues_any t a cap xs _ hn hx true ⟨fun _=>hok,fun _=>rfl⟩).mono ?_
 rintro e w1 ⟨rfl,hb1⟩
 go_wp2_with fail
 refine(withoutNulls_any a cap xs w1 h64 (hx.below hb1)).mono ?_
 rintro e w2 ⟨sv2,rfl,hown2,hb2⟩
 have hblk:=fun b hb=>owns_block hown2 (g:=b) hb
 obtain⟨a2,cap2,rfl,hv2⟩:=hown2.vals
 clear hown2
 generalize heldOf xs=hl at *
 have hb12:=below_then hb1 hb2
 have hx2:=hx.below hb12
 have hs3:w2.heap.size≤w2.heap.size:=Nat.le_refl _
 have hb23:=hb12
 go_wp2_with fail
 have hw5:=wat_new w2 w.heap.size t hb23.size
 have hap4:∀ k,k<w2.heap.size→Apart (w2.alloc (.cells #[.int .i64 t,.slice none 0 0] 236)) w2.heap.size k:=fun k hk=>apart_old w2 t hk
 have hba:Below w2.heap.size w2 (w2.alloc (.cells #[.int .i64 t,.slice none 0 0] 236)):=(Below.refl _ _).alloc (Nat.le_refl _) _
 have hx5:=hx2.below hba
 have hv5:=hv2.below hba
 have hb5:=below_then hb23 hba
 have hap5:∀ b o,a2=some ⟨b,o,none⟩→Apart (w2.alloc (.cells #[.int .i64 t,.slice none 0 0] 236)) w2.heap.size b:=by
  intro b o hbo
  subst hbo
  have:=hblk b rfl
  exact hap4 b (by omega)
 have hax:xs≠[]→∀ b o,a=some ⟨b,o,none⟩→Apart (w2.alloc (.cells #[.int .i64 t,.slice none 0 0] 236)) w2.heap.size b:=by
  intro hne b o hbo
  rcases hx2 with h|⟨b',o',e,hb,_⟩
  ·exact absurd h hne
  rw[hbo]at e;cases e;exact hap4 b hb
 generalize hW5:w2.alloc (.cells #[.int .i64 t,.slice none 0 0] 236)=w5 at *
 generalize hg:w2.heap.size=g at *
 clear hW5 hap4 hba hg
 refine(wHead_any w.heap.size g t 0 a cap xs w5 hw5 h64 hx5 hax).mono ?_
 rintro e w6' ⟨rfl,hw6',hk6'⟩
 go_wp2_with fail
 refine(wWays_any g w6').mono ?_
 rintro e w6 ⟨rfl,hb6⟩
 have hw6:=hw6'.below hb6
 have hk6:=hk6'.trans (WKeep.of_below hb6 hw6'.lt)
 have hv6:=vals_keep hv5 hk6 hap5
 have hap6:=apart_keep hk6 hap5
 have hix:=(run_index_ways (.func (.func 136) #[.pointer (some ⟨g,0,none⟩)] #[]) (.func (.func 137) #[.pointer (some ⟨g,0,none⟩)] #[]) (.func (.func 138) #[.pointer (some ⟨g,0,none⟩)] #[]) (.func (.func 139) #[.pointer (some ⟨g,0,none⟩)] #[]) w6).1
 generalize headEnc t 0 xs=hd0 at *
 go_wp2_with fail
 refine(wPlain_any w.heap.size g t a2 cap2 hl _ w6 hw6 (by omega) (by omega) hgd hv6 hap6).mono ?_
 rintro e w7 ⟨rfl,hw7,hk7⟩
 obtain⟨sv7,c0,c1,_,_,_⟩:=hw7.cells
 have hcv:=conv_out hw7 (by simp[hhn]) c1
 have hfin:=wkeep_below hw5 (hk6.trans hk7) w rfl hb5
 rw[←HSE.out]at hcv
 go_wp2
 go_ret2
 exact⟨rfl,hfin⟩
theorem sPack_dictionary (t:Int)(a:Option Addr)(cap:Nat)(xs:List V)(w:World)(hn:xs.length≤maxLen)(hx:Vals w a xs)(hway:way t 1=true)(hok:okAll t xs)(hd:(uniq [] (heldOf xs)).length≤16) :
  Calls Tryz.prog 94 #[.int .i64 t,.int .i64 1,.slice a xs.length cap] w fun e w'=>e=.returned (.tuple #[.string (str (segEnc t 1 xs)),.nilIface])∧Below w.heap.size w w':=by
 have h64:=hok.1
 have hhl:=heldOf_le xs
 have hgd:=good_held t xs hok
 have HSE:Hid (segEnc t 1 xs=headEnc t 1 xs++dictEnc (heldOf xs)):=rfl
 have hhd:(headEnc t 1 xs).length≤1000:=by unfold headEnc;rw[List.length_append,packBits_length,List.length_map];simp only[List.length_cons,List.length_nil];omega
 have hhn:headEnc t 1 xs≠[]:=by simp[headEnc]
 go_enter Tryz.func94,Tryz.ntmps94
 go_wp2_with fail
 refine(canBe_any _ _ _).mono ?_
 rintro e w' ⟨rfl,hw'⟩
 rw[hway]
 subst w'
 go_wp2_with fail
 refine(areValues_any t a cap xs _ hn hx true ⟨fun _=>hok,fun _=>rfl⟩).mono ?_
 rintro e w1 ⟨rfl,hb1⟩
 go_wp2_with fail
 refine(withoutNulls_any a cap xs w1 h64 (hx.below hb1)).mono ?_
 rintro e w2 ⟨sv2,rfl,hown2,hb2⟩
 have hblk:=fun b hb=>owns_block hown2 (g:=b) hb
 obtain⟨a2,cap2,rfl,hv2⟩:=hown2.vals
 clear hown2
 generalize heldOf xs=hl at *
 have hb12:=below_then hb1 hb2
 have hx2:=hx.below hb12
 go_wp2_with fail
 refine(different_any a2 cap2 hl w2 (by omega) hv2).mono ?_
 rintro e w3 ⟨sv3,rfl,hown3,hb3⟩
 obtain⟨a3,cap3,rfl,_⟩:=hown3.vals
 have hd':((uniq [] hl).length:Int)≤(16:Int):=by omega
 have hs3:=hb3.size
 have hb23:=below_then hb12 hb3
 replace hx2:=hx2.below hb3
 replace hv2:=hv2.below hb3
 go_wp2_with fail
 have hw5:=wat_new w3 w.heap.size t hb23.size
 have hap4:∀ k,k<w3.heap.size→Apart (w3.alloc (.cells #[.int .i64 t,.slice none 0 0] 236)) w3.heap.size k:=fun k hk=>apart_old w3 t hk
 have hba:Below w3.heap.size w3 (w3.alloc (.cells #[.int .i64 t,.slice none 0 0] 236)):=(Below.refl _ _).alloc (Nat.le_refl _) _
 have hx5:=hx2.below hba
 have hv5:=hv2.below hba
 have hb5:=below_then hb23 hba
 have hap5:∀ b o,a2=some ⟨b,o,none⟩→Apart (w3.alloc (.cells #[.int .i64 t,.slice none 0 0] 236)) w3.heap.size b:=by
  intro b o hbo
  subst hbo
  have:=hblk b rfl
  exact hap4 b (by omega)
 have hax:xs≠[]→∀ b o,a=some ⟨b,o,none⟩→Apart (w3.alloc (.cells #[.int .i64 t,.slice none 0 0] 236)) w3.heap.size b:=by
  intro hne b o hbo
  rcases hx2 with h|⟨b',o',e,hb,_⟩
  ·exact absurd h hne
  rw[hbo]at e;cases e;exact hap4 b hb
 generalize hW5:w3.alloc (.cells #[.int .i64 t,.slice none 0 0] 236)=w5 at *
 generalize hg:w3.heap.size=g at *
 clear hW5 hap4 hba hg
 refine(wHead_any w.heap.size g t 1 a cap xs w5 hw5 h64 hx5 hax).mono ?_
 rintro e w6' ⟨rfl,hw6',hk6'⟩
 go_wp2_with fail
 refine(wWays_any g w6').mono ?_
 rintro e w6 ⟨rfl,hb6⟩
 have hw6:=hw6'.below hb6
 have hk6:=hk6'.trans (WKeep.of_below hb6 hw6'.lt)
 have hv6:=vals_keep hv5 hk6 hap5
 have hap6:=apart_keep hk6 hap5
 have hix:=(run_index_ways (.func (.func 136) #[.pointer (some ⟨g,0,none⟩)] #[]) (.func (.func 137) #[.pointer (some ⟨g,0,none⟩)] #[]) (.func (.func 138) #[.pointer (some ⟨g,0,none⟩)] #[]) (.func (.func 139) #[.pointer (some ⟨g,0,none⟩)] #[]) w6).2.1
 generalize headEnc t 1 xs=hd0 at *
 go_wp2_with fail
 refine(wDictionary_any w.heap.size g t a2 cap2 hl _ w6 hw6 hhd (by omega) hgd hv6 hap6).mono ?_
 rintro e w7 ⟨rfl,hw7,hk7⟩
 obtain⟨sv7,c0,c1,_,_,_⟩:=hw7.cells
 have hcv:=conv_out hw7 (by simp[hhn]) c1
 have hfin:=wkeep_below hw5 (hk6.trans hk7) w rfl hb5
 rw[←HSE.out]at hcv
 go_wp2
 go_ret2
 exact⟨rfl,hfin⟩
theorem sPack_runs (t:Int)(a:Option Addr)(cap:Nat)(xs:List V)(w:World)(hn:xs.length≤maxLen)(hx:Vals w a xs)(hway:way t 2=true)(hok:okAll t xs) :
  Calls Tryz.prog 94 #[.int .i64 t,.int .i64 2,.slice a xs.length cap] w fun e w'=>e=.returned (.tuple #[.string (str (segEnc t 2 xs)),.nilIface])∧Below w.heap.size w w':=by
 have h64:=hok.1
 have hhl:=heldOf_le xs
 have hgd:=good_held t xs hok
 have HSE:Hid (segEnc t 2 xs=headEnc t 2 xs++runsEnc (heldOf xs)):=rfl
 have hhd:(headEnc t 2 xs).length≤1000:=by unfold headEnc;rw[List.length_append,packBits_length,List.length_map];simp only[List.length_cons,List.length_nil];omega
 have hhn:headEnc t 2 xs≠[]:=by simp[headEnc]
 go_enter Tryz.func94,Tryz.ntmps94
 go_wp2_with fail
 refine(canBe_any _ _ _).mono ?_
 rintro e w' ⟨rfl,hw'⟩
 rw[hway]
 subst w'
 go_wp2_with fail
 refine(areValues_any t a cap xs _ hn hx true ⟨fun _=>hok,fun _=>rfl⟩).mono ?_
 rintro e w1 ⟨rfl,hb1⟩
 go_wp2_with fail
 refine(withoutNulls_any a cap xs w1 h64 (hx.below hb1)).mono ?_
 rintro e w2 ⟨sv2,rfl,hown2,hb2⟩
 have hblk:=fun b hb=>owns_block hown2 (g:=b) hb
 obtain⟨a2,cap2,rfl,hv2⟩:=hown2.vals
 have hcp:=hown2.cap
 clear hown2
 generalize heldOf xs=hl at *
 have hb12:=below_then hb1 hb2
 have hx2:=hx.below hb12
 have hs3:w2.heap.size≤w2.heap.size:=Nat.le_refl _
 have hb23:=hb12
 go_wp2_with fail
 have hw5:=wat_new w2 w.heap.size t hb23.size
 have hap4:∀ k,k<w2.heap.size→Apart (w2.alloc (.cells #[.int .i64 t,.slice none 0 0] 236)) w2.heap.size k:=fun k hk=>apart_old w2 t hk
 have hba:Below w2.heap.size w2 (w2.alloc (.cells #[.int .i64 t,.slice none 0 0] 236)):=(Below.refl _ _).alloc (Nat.le_refl _) _
 have hx5:=hx2.below hba
 have hv5:=hv2.below hba
 have hb5:=below_then hb23 hba
 have hap5:∀ b o,a2=some ⟨b,o,none⟩→Apart (w2.alloc (.cells #[.int .i64 t,.slice none 0 0] 236)) w2.heap.size b:=by
  intro b o hbo
  subst hbo
  have:=hblk b rfl
  exact hap4 b (by omega)
 have hax:xs≠[]→∀ b o,a=some ⟨b,o,none⟩→Apart (w2.alloc (.cells #[.int .i64 t,.slice none 0 0] 236)) w2.heap.size b:=by
  intro hne b o hbo
  rcases hx2 with h|⟨b',o',e,hb,_⟩
  ·exact absurd h hne
  rw[hbo]at e;cases e;exact hap4 b hb
 generalize hW5:w2.alloc (.cells #[.int .i64 t,.slice none 0 0] 236)=w5 at *
 generalize hg:w2.heap.size=g at *
 clear hW5 hap4 hba hg
 refine(wHead_any w.heap.size g t 2 a cap xs w5 hw5 h64 hx5 hax).mono ?_
 rintro e w6' ⟨rfl,hw6',hk6'⟩
 go_wp2_with fail
 refine(wWays_any g w6').mono ?_
 rintro e w6 ⟨rfl,hb6⟩
 have hw6:=hw6'.below hb6
 have hk6:=hk6'.trans (WKeep.of_below hb6 hw6'.lt)
 have hv6:=vals_keep hv5 hk6 hap5
 have hap6:=apart_keep hk6 hap5
 have hix:=(run_index_ways (.func (.func 136) #[.pointer (some ⟨g,0,none⟩)] #[]) (.func (.func 137) #[.pointer (some ⟨g,0,none⟩)] #[]) (.func (.func 138) #[.pointer (some ⟨g,0,none⟩)] #[]) (.func (.func 139) #[.pointer (some ⟨g,0,none⟩)] #[]) w6).2.2.1
 generalize headEnc t 2 xs=hd0 at *
 go_wp2_with fail
 refine(wRuns_any w.heap.size g t a2 cap2 hl _ w6 hw6 (by omega) (by omega) hcp hgd hv6 hap6).mono ?_
 rintro e w7 ⟨rfl,hw7,hk7⟩
 obtain⟨sv7,c0,c1,_,_,_⟩:=hw7.cells
 have hcv:=conv_out hw7 (by simp[hhn]) c1
 have hfin:=wkeep_below hw5 (hk6.trans hk7) w rfl hb5
 rw[←HSE.out]at hcv
 go_wp2
 go_ret2
 exact⟨rfl,hfin⟩
theorem sPack_packed (t:Int)(a:Option Addr)(cap:Nat)(xs:List V)(w:World)(hn:xs.length≤maxLen)(hx:Vals w a xs)(hway:way t 3=true)(hok:okAll t xs) :
  Calls Tryz.prog 94 #[.int .i64 t,.int .i64 3,.slice a xs.length cap] w fun e w'=>e=.returned (.tuple #[.string (str (segEnc t 3 xs)),.nilIface])∧Below w.heap.size w w':=by
 have h64:=hok.1
 have hhl:=heldOf_le xs
 have HSE:Hid (segEnc t 3 xs=headEnc t 3 xs++packedEnc t (heldOf xs)):=rfl
 have hhd:(headEnc t 3 xs).length≤1000:=by unfold headEnc;rw[List.length_append,packBits_length,List.length_map];simp only[List.length_cons,List.length_nil];omega
 have hhn:headEnc t 3 xs≠[]:=by simp[headEnc]
 go_enter Tryz.func94,Tryz.ntmps94
 go_wp2_with fail
 refine(canBe_any _ _ _).mono ?_
 rintro e w' ⟨rfl,hw'⟩
 rw[hway]
 subst w'
 go_wp2_with fail
 refine(areValues_any t a cap xs _ hn hx true ⟨fun _=>hok,fun _=>rfl⟩).mono ?_
 rintro e w1 ⟨rfl,hb1⟩
 go_wp2_with fail
 refine(withoutNulls_any a cap xs w1 h64 (hx.below hb1)).mono ?_
 rintro e w2 ⟨sv2,rfl,hown2,hb2⟩
 have hblk:=fun b hb=>owns_block hown2 (g:=b) hb
 obtain⟨a2,cap2,rfl,hv2⟩:=hown2.vals
 clear hown2
 generalize heldOf xs=hl at *
 have hb12:=below_then hb1 hb2
 have hx2:=hx.below hb12
 have hs3:w2.heap.size≤w2.heap.size:=Nat.le_refl _
 have hb23:=hb12
 go_wp2_with fail
 have hw5:=wat_new w2 w.heap.size t hb23.size
 have hap4:∀ k,k<w2.heap.size→Apart (w2.alloc (.cells #[.int .i64 t,.slice none 0 0] 236)) w2.heap.size k:=fun k hk=>apart_old w2 t hk
 have hba:Below w2.heap.size w2 (w2.alloc (.cells #[.int .i64 t,.slice none 0 0] 236)):=(Below.refl _ _).alloc (Nat.le_refl _) _
 have hx5:=hx2.below hba
 have hv5:=hv2.below hba
 have hb5:=below_then hb23 hba
 have hap5:∀ b o,a2=some ⟨b,o,none⟩→Apart (w2.alloc (.cells #[.int .i64 t,.slice none 0 0] 236)) w2.heap.size b:=by
  intro b o hbo
  subst hbo
  have:=hblk b rfl
  exact hap4 b (by omega)
 have hax:xs≠[]→∀ b o,a=some ⟨b,o,none⟩→Apart (w2.alloc (.cells #[.int .i64 t,.slice none 0 0] 236)) w2.heap.size b:=by
  intro hne b o hbo
  rcases hx2 with h|⟨b',o',e,hb,_⟩
  ·exact absurd h hne
  rw[hbo]at e;cases e;exact hap4 b hb
 generalize hW5:w2.alloc (.cells #[.int .i64 t,.slice none 0 0] 236)=w5 at *
 generalize hg:w2.heap.size=g at *
 clear hW5 hap4 hba hg
 refine(wHead_any w.heap.size g t 3 a cap xs w5 hw5 h64 hx5 hax).mono ?_
 rintro e w6' ⟨rfl,hw6',hk6'⟩
 go_wp2_with fail
 refine(wWays_any g w6').mono ?_
 rintro e w6 ⟨rfl,hb6⟩
 have hw6:=hw6'.below hb6
 have hk6:=hk6'.trans (WKeep.of_below hb6 hw6'.lt)
 have hv6:=vals_keep hv5 hk6 hap5
 have hix:=(run_index_ways (.func (.func 136) #[.pointer (some ⟨g,0,none⟩)] #[]) (.func (.func 137) #[.pointer (some ⟨g,0,none⟩)] #[]) (.func (.func 138) #[.pointer (some ⟨g,0,none⟩)] #[]) (.func (.func 139) #[.pointer (some ⟨g,0,none⟩)] #[]) w6).2.2.2
 generalize headEnc t 3 xs=hd0 at *
 go_wp2_with fail
 refine(wPacked_any w.heap.size g t a2 cap2 hl _ w6 hw6 hhd (by omega) hv6).mono ?_
 rintro e w7 ⟨rfl,hw7,hk7⟩
 obtain⟨sv7,c0,c1,_,_,_⟩:=hw7.cells
 have hcv:=conv_out hw7 (by simp[hhn]) c1
 have hfin:=wkeep_below hw5 (hk6.trans hk7) w rfl hb5
 rw[←HSE.out]at hcv
 go_wp2
 go_ret2
 exact⟨rfl,hfin⟩
end
section
open Go.RowKit
def okAllB (t:Int)(xs:List V):Bool:=decide (xs.length≤64)&&xs.all fun v=>okB t v.k v.n v.s
theorem okAllB_iff (t:Int)(xs:List V):okAllB t xs=true↔okAll t xs:=by
 unfold okAllB okAll
 rw[Bool.and_eq_true,decide_eq_true_eq,List.all_eq_true]
 constructor
 ·intro h;exact⟨h.1,fun j hj=>h.2 _ (List.getElem_mem hj)⟩
 intro h
 refine⟨h.1,fun v hv=>?_⟩
 obtain⟨j,hj,rfl⟩:=List.getElem_of_mem hv
 exact h.2 j hj
def pOut (t how:Int)(xs:List V):List UInt8×Int:=
 if (way t how&&okAllB t xs)=true then (if how=1∧16<(uniq [] (heldOf xs)).length then ([],2)else (segEnc t how xs,0))else ([],1)
theorem way_cases (t how:Int)(h:way t how=true):how=0∨how=1∨how=2∨how=3:=by
 unfold way at h
 simp at h
 omega
end
section
open Go.RowKit
end
section
open Go.RowKit
theorem cells_u8:Tryz.prog.cellsOf 5=1:=by kernel_rfl
theorem lClone_any (x:List UInt8)(w:World)(hx:x.length≤255) :
  Calls Tryz.prog 98 #[.string (str x)] w fun e w'=>e=.returned (.string (str x))∧Below w.heap.size w w':=by
 have hs:=str_size x
 by_cases h0:x=[]
 ·subst h0
  go_enter Tryz.func98,Tryz.ntmps98
  go_wp2
  go_ret
  exact⟨rfl,Below.refl _ _⟩
 have hpos:=List.length_pos_iff.2 h0
 have hmk:∀ W,(Instr.makeSlice 212 (.int .i64 (x.length:Int)) (.int .i64 (x.length:Int))).run Tryz.prog W=.ok (.slice (some ⟨W.heap.size,0,none⟩) x.length x.length) (W.alloc (.cells (madeCells #[.int .u8 0] x.length) 5)):=
  fun W=>run_make_row' 212 5 (.int .u8 0) 1 (by kernel_rfl) info_u8 rfl .i64 .i64 x.length (by omega) (by omega) W
 obtain⟨M,hM⟩:∃ M,M=madeCells #[Value.int .u8 0] x.length:=⟨_,rfl⟩
 have hMs:M.size=x.length:=by rw[hM,size_madeCells]
 rw[←hM]at hmk
 clear hM
 have hcp:=Lib.run_copy_row_string (P:=Tryz.prog) (w.alloc (.cells M 5)) 212 9 3 5 w.heap.size 0 x.length x.length (str x) M 5 Tryz.underlying212 (by kernel_rfl) (MapKept.heap_alloc w _).1 (by omega) (by omega)
 obtain⟨Y,hY⟩:∃ Y,Y=(M.toList.take 0++Lib.byteCells (str x).data.toList++M.toList.drop (0+(str x).size)).toArray:=⟨_,rfl⟩
 rw[←hY]at hcp
 have hYl:Y.toList=Lib.byteCells x:=by
  rw[hY,List.toList_toArray,List.take_zero,List.nil_append,List.drop_of_length_le (by rw[Array.length_toList];omega),List.append_nil]
  simp[str]
 have hYs:Y.size=x.length:=by rw[←Array.length_toList,hYl,Lib.byteCells_length]
 have hgY:((w.alloc (.cells M 5)).setRow w.heap.size Y).heap[w.heap.size]?=some (.cells Y 5 (0,0)):=setRow_heap _ _ M _ 5 (0,0) (MapKept.heap_alloc w _).1
 have hUS:=Lib.run_unsafeString_row (P:=Tryz.prog) (w:=(w.alloc (.cells M 5)).setRow w.heap.size Y) 243 3 9 5 Tryz.underlying243 cells_u8 w.heap.size Y.size (by unfold World.shape?;rw[hgY]) x h0 (by omega) (by omega)
  (fun j b hb=>Lib.cells_of_row hgY Y.size j _ (by rw[List.take_of_length_le (by rw[Array.length_toList];exact Nat.le_refl _),hYl];simp[Lib.byteCells,hb]))
 rw[hs]at hcp
 clear hY
 have hz:((x.length:Int)==0)=false:=by rw[beq_eq_false_iff_ne];omega
 have hix:(0:Int)≤0∧(0:Int)<(x.length:Int):=by omega
 clear hpos
 go_enter Tryz.func98,Tryz.ntmps98
 go_wp2
 go_ret
 have hb1:Below w.heap.size w (w.alloc (.cells M 5)):=(Below.refl _ w).alloc (Nat.le_refl _) _
 have hb2:Below w.heap.size (w.alloc (.cells M 5)) ((w.alloc (.cells M 5)).setRow w.heap.size Y):=⟨rfl,rfl,rfl,by simp,fun k hk=>setRow_other _ _ _ _ (by omega)⟩
 exact⟨rfl,Lib.below_freeze (hb1.trans hb2) (p:=⟨w.heap.size,0,none⟩) (Nat.le_refl _) _⟩
theorem sClone_any (x:List UInt8)(w:World)(hx:x.length≤255) :
  Calls Tryz.prog 71 #[.string (str x)] w fun e w'=>e=.returned (.string (str x))∧Below w.heap.size w w':=by
 go_enter Tryz.func71,Tryz.ntmps71
 go_wp2_with (go_at_call 98;refine(lClone_any x _ hx).mono ?_;rintro e w' ⟨rfl,hb⟩)
 go_ret
 exact⟨rfl,hb⟩
def zeroV:V:=⟨0,0,⟨#[]⟩⟩
theorem made_V (n:Nat):(madeCells #[.int .i64 0,.int .i64 0,.string ⟨#[]⟩] (n*3)).toList=(List.replicate n zeroV).flatMap V.cells:=by
 have key:∀ n,(List.range (n*3)).map (fun j=>(#[Value.int .i64 0,.int .i64 0,.string ⟨#[]⟩]:Array Value)[j % 3]!)=(List.replicate n zeroV).flatMap V.cells:=by
  intro n
  induction n with
  |zero=>rfl
  |succ n ih=>
   have e:(n+1)*3=n*3+1+1+1:=by omega
   rw[e,List.range_succ,List.range_succ,List.range_succ,List.replicate_succ',List.flatMap_append,List.map_append,List.map_append,List.map_append,ih]
   have h0:(n*3) % 3=0:=by omega
   have h1:(n*3+1) % 3=1:=by omega
   have h2:(n*3+1+1) % 3=2:=by omega
   simp[h0,h1,h2,V.cells,zeroV]
 have:=key n
 unfold madeCells
 rw[Array.toList_map,Array.toList_range]
 exact this
theorem make_V (n:Nat)(hn:n≤1000)(W:World):∃ C,(Instr.makeSlice 72 (.int .i64 (n:Int)) (.int .i64 (n:Int))).run Tryz.prog W=.ok (.slice (some ⟨W.heap.size,0,none⟩) n n) (W.alloc (.cells C 61))∧RowT (W.alloc (.cells C 61)) W.heap.size (List.replicate n zeroV) []:=by
 obtain⟨i,hi,hz,hs3,hby⟩:=info_parts infoV
 have hr:=run_make (P:=Tryz.prog) W 72 61 i _ (by kernel_rfl) hi hz .i64 .i64 (n:Int) (n:Int) (by omega) (Int.le_refl _) (by rw[hby];omega) (by omega)
 rw[Int.toNat_natCast,hs3]at hr
 exact⟨_,hr,_,(MapKept.heap_alloc W _).1,by rw[List.append_nil];exact made_V n⟩
def ValsAt (w w':World)(vs:List V)(v:Value):Prop:=∃ b,v=.slice (some ⟨b,0,none⟩) vs.length vs.length∧w.heap.size≤b∧RowT w' b vs []
theorem set_at (us:List V)(k m:Nat)(v:V)(hk:us.length=k)(hm:k<m):(us++List.replicate (m-k) zeroV).set k v=(us++[v])++List.replicate (m-(k+1)) zeroV:=by
 obtain⟨d,hd⟩:∃ d,m-k=d+1:=⟨m-k-1,by omega⟩
 have e:m-(k+1)=d:=by omega
 rw[hd,e,List.replicate_succ,List.set_append_right _ _ (by omega),hk,Nat.sub_self]
 simp
theorem RowT.put {w:World}{g:Nat}{ys:List V}(h:RowT w g ys [])(v:V)(k:Nat)(hk:k<ys.length):∃ u:V,
  (w.cell? ⟨g,k*3,none⟩=some (.int .i64 u.k)∧w.frozen? ⟨g,k*3,none⟩=false)∧(w.cell? ⟨g,k*3+1,none⟩=some (.int .i64 u.n)∧w.frozen? ⟨g,k*3+1,none⟩=false)∧(w.cell? ⟨g,k*3+2,none⟩=some (.string u.s)∧w.frozen? ⟨g,k*3+2,none⟩=false) ∧
  RowT (((w.setCell ⟨g,k*3,none⟩ (.int .i64 v.k)).setCell ⟨g,k*3+1,none⟩ (.int .i64 v.n)).setCell ⟨g,k*3+2,none⟩ (.string v.s)) g (ys.set k v) []:=by
 obtain⟨⟨h0,h1,h2⟩,h3⟩:=h.at3 v k hk
 exact⟨_,h0,h1,h2,h3⟩
end
section
open Go.RowKit
end
section
open Go.RowKit
end
section
open Go.RowKit
end
section
open Go.RowKit
def errVal (a0 a1:Addr)(c:Int):Value:=if c=0 then .nilIface else if c=2 then .iface 284 (.pointer (some a1))else .iface 284 (.pointer (some a0))
theorem sPack_any (t how:Int)(a:Option Addr)(cap:Nat)(xs:List V)(w:World)(hn:xs.length≤maxLen)(hx:Vals w a xs)(a0 a1 a2:Addr)(he:Errs w a0 a1 a2) :
  Calls Tryz.prog 94 #[.int .i64 t,.int .i64 how,.slice a xs.length cap] w fun e w'=>e=.returned (.tuple #[.string (str (pOut t how xs).1),errVal a0 a1 (pOut t how xs).2])∧Below w.heap.size w w':=by
 by_cases hok:way t how=true∧okAll t xs
 ·have hb:(way t how&&okAllB t xs)=true:=by rw[Bool.and_eq_true];exact⟨hok.1,(okAllB_iff t xs).2 hok.2⟩
  by_cases hd:how=1∧16<(uniq [] (heldOf xs)).length
  ·have e:pOut t how xs=([],2):=by unfold pOut;rw[if_pos hb,if_pos hd]
   rw[e]
   obtain⟨rfl,hd⟩:=hd
   exact sPack_dict t a cap xs w hn hx _ he.c1 hok.1 hok.2 hd
  have e:pOut t how xs=(segEnc t how xs,0):=by unfold pOut;rw[if_pos hb,if_neg hd]
  rw[e]
  rcases way_cases t how hok.1 with rfl|rfl|rfl|rfl
  ·exact sPack_plain t a cap xs w hn hx hok.1 hok.2
  ·exact sPack_dictionary t a cap xs w hn hx hok.1 hok.2 (by omega)
  ·exact sPack_runs t a cap xs w hn hx hok.1 hok.2
  exact sPack_packed t a cap xs w hn hx hok.1 hok.2
 have hb:¬ (way t how&&okAllB t xs)=true:=by rw[Bool.and_eq_true];exact fun h=>hok ⟨h.1,(okAllB_iff t xs).1 h.2⟩
 have e:pOut t how xs=([],1):=by unfold pOut;rw[if_neg hb]
 rw[e]
 exact sPack_arg t how a cap xs w hn hx _ he.c0 hok
structure WayP (how:Int):Prop where
 pack:∀ (t:Int) (a:Option Addr) (cap:Nat) (xs:List V) (w:World),xs.length≤maxLen→Vals w a xs→∀ (a0 a1 a2:Addr),Errs w a0 a1 a2 →
  Calls Tryz.prog 94 #[.int .i64 t,.int .i64 how,.slice a xs.length cap] w fun e w'=>e=.returned (.tuple #[.string (str (pOut t how xs).1),errVal a0 a1 (pOut t how xs).2])∧Below w.heap.size w w'
theorem wayP_any (how:Int):WayP how:=⟨fun t a cap xs w hn hx a0 a1 a2 he=>sPack_any t how a cap xs w hn hx a0 a1 a2 he⟩
end
section
open Go.RowKit
end
section
open Go.RowKit
end
end Go.Proofs.YtkgibdjakgmmcaaGreatDoor
