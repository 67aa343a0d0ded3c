/- A table taken off a set's list: slices.Delete, of one place of a row that is known cell by cell. -/
import Derived.Test.YtkgibdjakgmmcaaGreatDoorTp
import Derived.Deep.RegionLaw
import Derived.Deep.RegionHeld3
import Derived.Lib.LazyBuf
import Derived.Lib.SlicesDelete
import Derived.Deep.AppendLies
set_option maxHeartbeats 4000000
set_option maxRecDepth 100000
namespace Go.Proofs.YtkgibdjakgmmcaaGreatDoor
section
open Go.RowKit Go.Shelf
theorem info_ptable:(Tryz.prog.info? 109).map (fun i=>(i.zero,i.size,i.bytes))=some (some (.pointer none),1,8):=by kernel_rfl
end
section
open Go.RowKit Go.Shelf
def waysOk (ts hs:List Int):Prop:=hs.length=ts.length∧∀ j (hj:j<hs.length),way (ts.getD j 0) hs[j]=true
structure ArgAt (w:World) (name:ByteArray) (at_ ar ah:Option Addr) (cr:Nat) (ts hs:List Int) (xs:List (Option Addr×Nat)) (rs:List (List V)):Prop where
 ln:name.size≤maxLen
 lt:ts.length≤maxLen
 lr:rs.length≤maxLen
 lrr:∀ r∈rs,r.length≤maxLen
 lh:hs.length≤maxLen
 cap:rs.length≤cr
 types:Ints w at_ ts
 hows:Ints w ah hs
 rows:RowsAt w ar xs rs
theorem ArgAt.below {w w':World}{name:ByteArray}{at_ ar ah:Option Addr}{cr:Nat}{ts hs:List Int}{xs:List (Option Addr×Nat)}{rs:List (List V)}(h:ArgAt w name at_ ar ah cr ts hs xs rs)(hb:Below w.heap.size w w'):ArgAt w' name at_ ar ah cr ts hs xs rs:=
 ⟨h.ln,h.lt,h.lr,h.lrr,h.lh,h.cap,h.types.below hb,h.hows.below hb,h.rows.below hb⟩
abbrev tabArg (name:ByteArray)(at_ ar:Option Addr)(ct cr:Nat)(ts:List Int)(rs:List (List V)):Value:=.agg #[.string name,.slice at_ ts.length ct,.slice ar rs.length cr]
abbrev tabObj (name:ByteArray)(at_ ar:Option Addr)(ct cr:Nat)(ts:List Int)(rs:List (List V)):Obj:=.cells #[.string name,.slice at_ ts.length ct,.slice ar rs.length cr] 40
open Classical in
theorem tLoad_arg (s:Nat)(name:ByteArray)(at_ ar ah:Option Addr)(ct cr ch:Nat)(ts hs:List Int)(xs:List (Option Addr×Nat))(rs:List (List V))(g:Int)(w:World)(h:ArgAt w name at_ ar ah cr ts hs xs rs)(ta:Addr)(hta:w.cell? ⟨12,0,none⟩=some (.iface 284 (.pointer (some ta))))
  (hbad:¬ (isTab name ts rs∧waysOk ts hs∧1≤g∧g≤64)) :
  Calls Tryz.prog 52 #[.pointer (some ⟨s,0,none⟩),tabArg name at_ ar ct cr ts rs,.slice ah hs.length ch,.int .i64 g] w fun e w'=>e=.returned (.iface 284 (.pointer (some ta)))∧Below w.heap.size w w':=by
 have hb0:Below w.heap.size w (w.alloc (tabObj name at_ ar ct cr ts rs)):=(Below.refl _ w).alloc (Nat.le_refl _) _
 have hT:=isTable_any name at_ ar ct cr ts xs rs _ h.ln h.lt h.lr h.lrr (h.types.below hb0) (h.rows.below hb0)
 have q1:(w.alloc (tabObj name at_ ar ct cr ts rs)).cell? ⟨w.heap.size,1,none⟩=some (.slice at_ ts.length ct):=by simp
 have HTA:Hid (w.cell? ⟨12,0,none⟩=some (.iface 284 (.pointer (some ta)))):=hta
 clear hta
 by_cases h1:isTab name ts rs
 ·rw[decide_eq_true h1]at hT
  by_cases h2:waysOk ts hs
  ·have hW:∀ W,Below w.heap.size w W→Calls Tryz.prog 68 #[.slice ah hs.length ch,.slice at_ ts.length ct] W fun e w'=>e=.returned (.bool true)∧w'=W:=fun W hb=>areWays_any ah at_ ch ct hs ts W h.lh (h.hows.below hb) (h.types.below hb) true (by simpa [waysOk] using h2)
   have HW:Hid (∀ W,Below w.heap.size w W→Calls Tryz.prog 68 #[.slice ah hs.length ch,.slice at_ ts.length ct] W fun e w'=>e=.returned (.bool true)∧w'=W):=hW
   clear hW h
   by_cases h3:g<1
   rotate_left 1
   focus
    have h4:¬ g≤64:=fun h5=>hbad ⟨h1,h2,by omega,h5⟩
   all_goals
    clear h1 h2 hbad
    go_enter Tryz.func52,Tryz.ntmps52
    go_wp2_with (first|(go_at_call 67;refine hT.mono ?_;rintro e W1 ⟨rfl,hb1⟩;have hb2:=below_then hb0 hb1;have d1:=cell_below hb1 q1;have dta:=cell_below hb2 HTA.out)|(go_at_call 68;refine(HW.out W1 hb2).mono ?_;rintro e W2 ⟨rfl,rfl⟩))
    go_ret
    exact⟨rfl,hb2⟩
  have hW:∀ W,Below w.heap.size w W→Calls Tryz.prog 68 #[.slice ah hs.length ch,.slice at_ ts.length ct] W fun e w'=>e=.returned (.bool false)∧w'=W:=fun W hb=>areWays_any ah at_ ch ct hs ts W h.lh (h.hows.below hb) (h.types.below hb) false (by simpa [waysOk] using h2)
  have HW:Hid (∀ W,Below w.heap.size w W→Calls Tryz.prog 68 #[.slice ah hs.length ch,.slice at_ ts.length ct] W fun e w'=>e=.returned (.bool false)∧w'=W):=hW
  clear hW h h1 h2 hbad
  go_enter Tryz.func52,Tryz.ntmps52
  go_wp2_with (first|(go_at_call 67;refine hT.mono ?_;rintro e W1 ⟨rfl,hb1⟩;have hb2:=below_then hb0 hb1;have d1:=cell_below hb1 q1;have dta:=cell_below hb2 HTA.out)|(go_at_call 68;refine(HW.out W1 hb2).mono ?_;rintro e W2 ⟨rfl,rfl⟩))
  go_ret
  exact⟨rfl,hb2⟩
 rw[decide_eq_false h1]at hT
 clear h h1 hbad
 go_enter Tryz.func52,Tryz.ntmps52
 go_wp2_with (first|(go_at_call 67;refine hT.mono ?_;rintro e W1 ⟨rfl,hb1⟩;have hb2:=below_then hb0 hb1;have d1:=cell_below hb1 q1;have dta:=cell_below hb2 HTA.out))
 go_ret
 exact⟨rfl,hb2⟩
open Classical in
theorem tLoad_table (s d:Nat)(name:ByteArray)(at_ ar ah:Option Addr)(ct cr ch:Nat)(ts hs:List Int)(xs:List (Option Addr×Nat))(rs:List (List V))(g:Int)(w:World)(h:ArgAt w name at_ ar ah cr ts hs xs rs)(hgood:isTab name ts rs∧waysOk ts hs∧1≤g∧g≤64)
  (G:Nat→Prop) (Ts:List TS) (sv:Value) (bs:List Nat) (hx:SetX w G s d Ts sv bs) (et:Addr) (het:w.cell? ⟨3,0,none⟩=some (.iface 284 (.pointer (some et)))) (hthere:findI Ts name<Ts.length∨6≤Ts.length) :
  Calls Tryz.prog 52 #[.pointer (some ⟨s,0,none⟩),tabArg name at_ ar ct cr ts rs,.slice ah hs.length ch,.int .i64 g] w fun e w'=>e=.returned (.iface 284 (.pointer (some et)))∧Below w.heap.size w w':=by
 have hb0:Below w.heap.size w (w.alloc (tabObj name at_ ar ct cr ts rs)):=(Below.refl _ w).alloc (Nat.le_refl _) _
 obtain⟨h1,h2,hg1,hg2⟩:=hgood
 have hT:=isTable_any name at_ ar ct cr ts xs rs _ h.ln h.lt h.lr h.lrr (h.types.below hb0) (h.rows.below hb0)
 rw[decide_eq_true h1]at hT
 have q0:(w.alloc (tabObj name at_ ar ct cr ts rs)).cell? ⟨w.heap.size,0,none⟩=some (.string name):=by simp
 have q1:(w.alloc (tabObj name at_ ar ct cr ts rs)).cell? ⟨w.heap.size,1,none⟩=some (.slice at_ ts.length ct):=by simp
 have HW:Hid (∀ W,Below w.heap.size w W→Calls Tryz.prog 68 #[.slice ah hs.length ch,.slice at_ ts.length ct] W fun e w'=>e=.returned (.bool true)∧w'=W):=fun W hb=>areWays_any ah at_ ch ct hs ts W h.lh (h.hows.below hb) (h.types.below hb) true (by simpa [waysOk] using h2)
 have HF:Hid (∀ W,Below w.heap.size w W→Calls Tryz.prog 35 #[.pointer (some ⟨s,0,none⟩),.string name] W fun e w'=>e=.returned (.int .i64 (findV Ts name))∧Below W.heap.size W w'):=fun W hb=>tFind_any name W G s d Ts sv bs (hx.below hb)
 have HET:Hid (w.cell? ⟨3,0,none⟩=some (.iface 284 (.pointer (some et)))):=het
 obtain⟨_,c1⟩:=hx.field
 obtain⟨a,cap,hsv,_⟩:=hx.own.cells
 rw[List.length_map]at hsv
 have hlen:=hx.len
 rw[hlen]at hsv
 subst hsv
 have hfew:=hx.few
 clear het hx h h1 h2 hlen
 by_cases hf:findI Ts name<Ts.length
 ·have hfv:findV Ts name=(findI Ts name:Int):=by unfold findV;rw[if_pos hf]
  rw[hfv]at HF
  generalize findI Ts name=k at *
  clear hfv hthere
  go_enter Tryz.func52,Tryz.ntmps52
  go_wp2_with (first|(go_at_call 67;refine hT.mono ?_;rintro e W1 ⟨rfl,hb1⟩;have hb2:=below_then hb0 hb1;have d0:=cell_below hb1 q0;have d1:=cell_below hb1 q1)|(go_at_call 68;refine(HW.out W1 hb2).mono ?_;rintro e W2 ⟨rfl,rfl⟩)|(go_at_call 35;refine(HF.out _ hb2).mono ?_;rintro e W3 ⟨rfl,hb3⟩;have hb4:=below_then hb2 hb3;have det:=cell_below hb4 HET.out))
  go_ret
  exact⟨rfl,hb4⟩
 have hfv:findV Ts name=-1:=by unfold findV;rw[if_neg hf]
 rw[hfv]at HF
 have h6:Ts.length=6:=by omega
 rw[h6]at c1
 clear hfv hthere hf
 go_enter Tryz.func52,Tryz.ntmps52
 go_wp2_with (first|(go_at_call 67;refine hT.mono ?_;rintro e W1 ⟨rfl,hb1⟩;have hb2:=below_then hb0 hb1;have d0:=cell_below hb1 q0;have d1:=cell_below hb1 q1)|(go_at_call 68;refine(HW.out W1 hb2).mono ?_;rintro e W2 ⟨rfl,rfl⟩)|(go_at_call 35;refine(HF.out _ hb2).mono ?_;rintro e W3 ⟨rfl,hb3⟩;have hb4:=below_then hb2 hb3;have det:=cell_below hb4 HET.out;have dc1:=cell_below hb4 c1))
 go_ret
 exact⟨rfl,hb4⟩
end
section
open Go.RowKit Go.Shelf
structure LoadIn (w:World) (s d:Nat) (F G:Nat→Prop) (D:DS) (Ts:List TS) (sv:Value) (bs:List Nat) (name:ByteArray) (at_ ar ah:Option Addr) (cr:Nat) (ts hs:List Int) (xs:List (Option Addr×Nat)) (rs:List (List V)) (g:Nat):Prop where
 args:ArgAt w name at_ ar ah cr ts hs xs rs
 tab:isTab name ts rs
 ways:waysOk ts hs
 g1:1≤g
 g2:g≤64
 set:SetX w G s d Ts sv bs
 new:¬ findI Ts name<Ts.length
 few:Ts.length<6
 disk:DiskAt w F d D
 lt:∀ k,F k∨G k→k<w.heap.size
 apart:∀ k,G k→¬ F k
 sF:¬ F s
 gF:∀ g,sv.ownBlock=some g→¬ F g
 tF:∀ b o,at_=some ⟨b,o,none⟩→¬ F b
 small:D.pages.length≤660000
 wayc:∀ x∈hs,WayP x
open Classical in
theorem tLoad_dict (s d:Nat)(F G:Nat→Prop)(D:DS)(Ts:List TS)(sv:Value)(bs:List Nat)(name:ByteArray)(at_ ar ah:Option Addr)(ct cr ch:Nat)(ts hs:List Int)(xs:List (Option Addr×Nat))(rs:List (List V))(g:Nat)(w:World)(h:LoadIn w s d F G D Ts sv bs name at_ ar ah cr ts hs xs rs g)(a0 a1 a2:Addr)(he:Errs w a0 a1 a2)
  (c:Nat) (hp:packF rs ts hs (cks rs.length g (ckN rs.length g))=.inr c) :
  Calls Tryz.prog 52 #[.pointer (some ⟨s,0,none⟩),tabArg name at_ ar ct cr ts rs,.slice ah hs.length ch,.int .i64 (g:Int)] w fun e w'=>Below w.heap.size w w'∧∃ b,e=.returned (.iface 158 (.pointer (some ⟨b,0,none⟩)))∧Chain w' (.iface 158 (.pointer (some ⟨b,0,none⟩))) a1 (some (c:Int)) none:=by
 have hb0:Below w.heap.size w (w.alloc (tabObj name at_ ar ct cr ts rs)):=(Below.refl _ w).alloc (Nat.le_refl _) _
 have hA:=h.args
 have hT:=isTable_any name at_ ar ct cr ts xs rs _ hA.ln hA.lt hA.lr hA.lrr (hA.types.below hb0) (hA.rows.below hb0)
 rw[decide_eq_true h.tab]at hT
 have q0:(w.alloc (tabObj name at_ ar ct cr ts rs)).cell? ⟨w.heap.size,0,none⟩=some (.string name):=by simp
 have q1:(w.alloc (tabObj name at_ ar ct cr ts rs)).cell? ⟨w.heap.size,1,none⟩=some (.slice at_ ts.length ct):=by simp
 have q2:(w.alloc (tabObj name at_ ar ct cr ts rs)).cell? ⟨w.heap.size,2,none⟩=some (.slice ar rs.length cr):=by simp
 have HW:Hid (∀ W,Below w.heap.size w W→Calls Tryz.prog 68 #[.slice ah hs.length ch,.slice at_ ts.length ct] W fun e w'=>e=.returned (.bool true)∧w'=W):=fun W hb=>areWays_any ah at_ ch ct hs ts W hA.lh (hA.hows.below hb) (hA.types.below hb) true (by simpa [waysOk] using h.ways)
 have hfv:findV Ts name=-1:=by unfold findV;rw[if_neg h.new]
 have HF:Hid (∀ W,Below w.heap.size w W→Calls Tryz.prog 35 #[.pointer (some ⟨s,0,none⟩),.string name] W fun e w'=>e=.returned (.int .i64 (-1))∧Below W.heap.size W w'):=fun W hb=>by rw[←hfv];exact tFind_any name W G s d Ts sv bs (h.set.below hb)
 have HP:Hid (∀ W,Below w.heap.size w W→Calls Tryz.prog 69 #[.agg #[.string name,.slice at_ ts.length ct,.slice ar rs.length cr],.slice ah hs.length ch,.int .i64 (g:Int)] W fun e w'=>Below W.heap.size W w'∧∃ b,e=.returned (.tuple #[.slice none 0 0,.iface 158 (.pointer (some ⟨b,0,none⟩))])∧W.heap.size≤b∧Chain w' (.iface 158 (.pointer (some ⟨b,0,none⟩))) a1 (some (c:Int)) none):=fun W hb=>by
  have:=tPack_any name at_ ar ah ct cr ch g ts hs xs rs W h.tab h.ways.1 h.ways.2 h.g1 h.g2 hA.cap (hA.types.below hb) (hA.hows.below hb) (hA.rows.below hb) h.wayc a0 a1 a2 (he.below hb)
  rw[hp]at this
  exact this
 obtain⟨_,c1⟩:=h.set.field
 obtain⟨a,cap,hsv,_⟩:=h.set.own.cells
 rw[List.length_map,h.set.len]at hsv
 subst hsv
 have hfew:=h.few
 have hg1:=h.g1
 have hg2:=h.g2
 clear h hA hfv hp
 go_enter Tryz.func52,Tryz.ntmps52
 go_wp2_with (first|(go_at_call 67;refine hT.mono ?_;rintro e W1 ⟨rfl,hb1⟩;have hb2:=below_then hb0 hb1;have d0:=cell_below hb1 q0;have d1:=cell_below hb1 q1;have d2:=cell_below hb1 q2)|(go_at_call 68;refine(HW.out W1 hb2).mono ?_;rintro e W2 ⟨rfl,rfl⟩)|(go_at_call 35;refine(HF.out _ hb2).mono ?_;rintro e W3 ⟨rfl,hb3⟩;have hb4:=below_then hb2 hb3;have dc1:=cell_below hb4 c1;have e0:=cell_below hb3 d0;have e1:=cell_below hb3 d1;have e2:=cell_below hb3 d2)|(go_at_call 69;refine(HP.out _ hb4).mono ?_;rintro e W4 ⟨hb5,b,rfl,hbl,hch⟩))
 go_ret
 exact⟨below_then hb4 hb5,b,rfl,hch⟩
end
section
open Go.RowKit Go.Shelf
structure LoadHid (w:World) (s d:Nat) (F:Nat→Prop) (D:DS) (Ts:List TS) (name:ByteArray) (at_ ar ah:Option Addr) (ct cr ch:Nat) (ts hs:List Int) (rs:List (List V)) (g:Nat) (T:List (List UInt8)) (q qw:Addr):Prop where
 t:Calls Tryz.prog 67 #[tabArg name at_ ar ct cr ts rs] (w.alloc (tabObj name at_ ar ct cr ts rs)) fun e w'=>e=.returned (.bool true)∧Below (w.alloc (tabObj name at_ ar ct cr ts rs)).heap.size (w.alloc (tabObj name at_ ar ct cr ts rs)) w'
 ws:∀ W,Below w.heap.size w W→Calls Tryz.prog 68 #[.slice ah hs.length ch,.slice at_ ts.length ct] W fun e w'=>e=.returned (.bool true)∧w'=W
 f:∀ W,Below w.heap.size w W→Calls Tryz.prog 35 #[.pointer (some ⟨s,0,none⟩),.string name] W fun e w'=>e=.returned (.int .i64 (-1))∧Below W.heap.size W w'
 p:∀ W,Below w.heap.size w W→Calls Tryz.prog 69 #[.agg #[.string name,.slice at_ ts.length ct,.slice ar rs.length cr],.slice ah hs.length ch,.int .i64 (g:Int)] W fun e w'=>Below W.heap.size W w'∧∃ a cap,e=.returned (.tuple #[.slice a T.length cap,.nilIface])∧Cells w' a (T.map tv)∧∀ b o,a=some ⟨b,o,none⟩→W.heap.size≤b
 l:∀ W a cap,Below w.heap.size w W→Cells W a (T.map tv)→(∀ b o,a=some ⟨b,o,none⟩→w.heap.size≤b)→Calls Tryz.prog 70 #[.pointer (some ⟨s,0,none⟩),.slice a T.length cap] W fun e w'=>LayAllPost W F d q qw (layAll D T) e w'
open Classical in
theorem LoadIn.hid {w:World}{s d:Nat}{F G:Nat→Prop}{D:DS}{Ts:List TS}{sv:Value}{bs:List Nat}{name:ByteArray}{at_ ar ah:Option Addr}{cr:Nat}{ts hs:List Int}{xs:List (Option Addr×Nat)}{rs:List (List V)}{g:Nat}(h:LoadIn w s d F G D Ts sv bs name at_ ar ah cr ts hs xs rs g)(ct ch:Nat)(a0 a1 a2:Addr)(he:Errs w a0 a1 a2)
  (T:List (List UInt8)) (hp:packF rs ts hs (cks rs.length g (ckN rs.length g))=.inl T) (q qw:Addr) (hq:w.cell? ⟨4,0,none⟩=some (.iface 284 (.pointer (some q)))) (hw:w.cell? ⟨5,0,none⟩=some (.iface 284 (.pointer (some qw)))) (hFq:¬ F 4) (hFw:¬ F 5):LoadHid w s d F D Ts name at_ ar ah ct cr ch ts hs rs g T q qw:=by
 have hb0:Below w.heap.size w (w.alloc (tabObj name at_ ar ct cr ts rs)):=(Below.refl _ w).alloc (Nat.le_refl _) _
 have hA:=h.args
 have hT:=isTable_any name at_ ar ct cr ts xs rs _ hA.ln hA.lt hA.lr hA.lrr (hA.types.below hb0) (hA.rows.below hb0)
 rw[decide_eq_true h.tab]at hT
 have hfv:findV Ts name=-1:=by unfold findV;rw[if_neg h.new]
 refine⟨hT,fun W hb=>areWays_any ah at_ ch ct hs ts W hA.lh (hA.hows.below hb) (hA.types.below hb) true (by simpa [waysOk] using h.ways),fun W hb=>by rw[←hfv];exact tFind_any name W G s d Ts sv bs (h.set.below hb),fun W hb=>?_,fun W a cap hb hc ha=>?_⟩
 ·have:=tPack_any name at_ ar ah ct cr ch g ts hs xs rs W h.tab h.ways.1 h.ways.2 h.g1 h.g2 hA.cap (hA.types.below hb) (hA.hows.below hb) (hA.rows.below hb) h.wayc a0 a1 a2 (he.below hb)
  rw[hp]at this
  exact this
 obtain⟨hl1,hl2⟩:=packFLen rs ts hs _ T hp
 have hck:(cks rs.length g (ckN rs.length g)).length≤200:=by
  have h2:rs.length≤200:=h.tab.2.2.1
  have h3:ckN rs.length g≤rs.length:=by
   unfold ckN
   have:=h.g1
   exact Nat.le_of_lt_succ ((Nat.div_lt_iff_lt_mul (by omega)).2 (by
    have:rs.length+1≤(rs.length+1)*g:=Nat.le_mul_of_pos_right _ (by omega)
    rw[Nat.succ_mul]at this ⊢
    have h5:rs.length≤rs.length*g:=Nat.le_mul_of_pos_right _ (by omega)
    omega))
  simp[cks]
  omega
 have h6:ts.length≤6:=h.tab.2.1.1.2
 have hTl:T.length≤1200:=by
  rw[hl1]
  exact Nat.le_trans (Nat.mul_le_mul hck h6) (by decide)
 have htp:=totalP_le T fun t ht=>(hl2 t ht).1
 have hsm:=h.small
 exact tLay_any s d a cap T W F D (h.disk.below hb) (fun k hk=>Nat.lt_of_lt_of_le (h.lt k (.inl hk)) hb.size) hc (fun b o hbo hf=>by have:=h.lt b (.inl hf);have:=ha b o hbo;omega) (cell_below hb h.set.field.1) h.sF q qw (cell_below hb hq) (cell_below hb hw) hFq hFw (by omega) (by omega) (fun t ht=>by have:=(hl2 t ht).1;omega)
theorem tLoad_disk (s d:Nat)(F G:Nat→Prop)(D:DS)(Ts:List TS)(sv:Value)(bs:List Nat)(name:ByteArray)(at_ ar ah:Option Addr)(ct cr ch:Nat)(ts hs:List Int)(xs:List (Option Addr×Nat))(rs:List (List V))(g:Nat)(w:World)(h:LoadIn w s d F G D Ts sv bs name at_ ar ah cr ts hs xs rs g)(a0 a1 a2:Addr)(he:Errs w a0 a1 a2)
  (T:List (List UInt8)) (hp:packF rs ts hs (cks rs.length g (ckN rs.length g))=.inl T) (q qw:Addr) (hq:w.cell? ⟨4,0,none⟩=some (.iface 284 (.pointer (some q)))) (hw:w.cell? ⟨5,0,none⟩=some (.iface 284 (.pointer (some qw)))) (hFq:¬ F 4) (hFw:¬ F 5) (x:Bool) (hx:(layAll D T).2.2=some x) :
  Calls Tryz.prog 52 #[.pointer (some ⟨s,0,none⟩),tabArg name at_ ar ct cr ts rs,.slice ah hs.length ch,.int .i64 (g:Int)] w fun e w'=>Keep F w w'∧∃ FD:Nat→Prop,DiskAt w' FD d (relAll (layAll D T).1 (layAll D T).2.1)∧(∀ k,FD k→F k∨w.heap.size≤k)∧(∀ k,FD k→k<w'.heap.size)∧∃ b,e=.returned (.iface 158 (.pointer (some ⟨b,0,none⟩)))∧Chain w' (.iface 158 (.pointer (some ⟨b,0,none⟩))) (if x then q else qw) (some (-1)) (some (-1)):=by
 have hb0:Below w.heap.size w (w.alloc (tabObj name at_ ar ct cr ts rs)):=(Below.refl _ w).alloc (Nat.le_refl _) _
 obtain⟨hT,hW,hF,hP,hL⟩:=h.hid ct ch a0 a1 a2 he T hp q qw hq hw hFq hFw
 have HW:Hid (∀ W,Below w.heap.size w W→Calls Tryz.prog 68 #[.slice ah hs.length ch,.slice at_ ts.length ct] W fun e w'=>e=.returned (.bool true)∧w'=W):=hW
 have HF:Hid (∀ W,Below w.heap.size w W→Calls Tryz.prog 35 #[.pointer (some ⟨s,0,none⟩),.string name] W fun e w'=>e=.returned (.int .i64 (-1))∧Below W.heap.size W w'):=hF
 have HP:Hid (∀ W,Below w.heap.size w W→Calls Tryz.prog 69 #[.agg #[.string name,.slice at_ ts.length ct,.slice ar rs.length cr],.slice ah hs.length ch,.int .i64 (g:Int)] W fun e w'=>Below W.heap.size W w'∧∃ a cap,e=.returned (.tuple #[.slice a T.length cap,.nilIface])∧Cells w' a (T.map tv)∧∀ b o,a=some ⟨b,o,none⟩→W.heap.size≤b):=hP
 generalize hA:(if x then q else qw)=A
 have HL:Hid (∀ W a cap,Below w.heap.size w W→Cells W a (T.map tv)→(∀ b o,a=some ⟨b,o,none⟩→w.heap.size≤b)→Calls Tryz.prog 70 #[.pointer (some ⟨s,0,none⟩),.slice a T.length cap] W fun e w'=>Keep F W w'∧∃ FD:Nat→Prop,DiskAt w' FD d (relAll (layAll D T).1 (layAll D T).2.1)∧(∀ k,FD k→F k∨W.heap.size≤k)∧(∀ k,FD k→k<w'.heap.size)∧∃ b,e=.returned (.tuple #[.slice none 0 0,.iface 162 (.pointer (some ⟨b,0,none⟩))])∧Chain w' (.iface 162 (.pointer (some ⟨b,0,none⟩))) A none (some (-1))):=fun W a cap h1 h2 h3=>
  (hL W a cap h1 h2 h3).mono fun e w' hpost=>by
   unfold LayAllPost at hpost
   rw[hx]at hpost
   obtain⟨hk5,FD,hd5,hf5,hl5,b,he,hbl,hch,hbF⟩:=hpost
   rw[hA]at hch
   exact⟨hk5,FD,hd5,hf5,hl5,b,he,hch⟩
 have q0:(w.alloc (tabObj name at_ ar ct cr ts rs)).cell? ⟨w.heap.size,0,none⟩=some (.string name):=by simp
 have q1:(w.alloc (tabObj name at_ ar ct cr ts rs)).cell? ⟨w.heap.size,1,none⟩=some (.slice at_ ts.length ct):=by simp
 have q2:(w.alloc (tabObj name at_ ar ct cr ts rs)).cell? ⟨w.heap.size,2,none⟩=some (.slice ar rs.length cr):=by simp
 have hn0:¬ F w.heap.size:=fun hf=>Nat.lt_irrefl _ (h.lt _ (.inl hf))
 have HFL:Hid (∀ k,F k→k<w.heap.size):=fun k hk=>h.lt k (.inl hk)
 obtain⟨_,c1⟩:=h.set.field
 obtain⟨a,cap,hsv,_⟩:=h.set.own.cells
 rw[List.length_map,h.set.len]at hsv
 subst hsv
 have hfew:=h.few
 have hg1:=h.g1
 have hg2:=h.g2
 clear h hp hW hF hP hL hq hw hA hx
 go_enter Tryz.func52,Tryz.ntmps52
 go_wp2_with (first|(go_at_call 67;refine hT.mono ?_;rintro e W1 ⟨rfl,hb1⟩;have hb2:=below_then hb0 hb1;have d0:=cell_below hb1 q0;have d1:=cell_below hb1 q1;have d2:=cell_below hb1 q2)|(go_at_call 68;refine(HW.out W1 hb2).mono ?_;rintro e W2 ⟨rfl,rfl⟩)|(go_at_call 35;refine(HF.out _ hb2).mono ?_;rintro e W3 ⟨rfl,hb3⟩;have hb4:=below_then hb2 hb3;have dc1:=cell_below hb4 c1;have e0:=cell_below hb3 d0;have e1:=cell_below hb3 d1;have e2:=cell_below hb3 d2)|(go_at_call 69;refine(HP.out _ hb4).mono ?_;rintro e W4 ⟨hb5,pa,pc,rfl,hpc,hpa⟩;have hb6:=below_then hb4 hb5;have f0:=cell_below hb5 e0;have z4:=hb4.size)|(go_at_call 70;refine(HL.out _ pa pc hb6 hpc (fun b o hb=>Nat.le_trans z4 (hpa b o hb))).mono ?_;rintro e W5 ⟨hk5,FD,hd5,hf5,hl5,b,rfl,hch⟩;have g0:=hk5.cell f0 hn0))
 go_ret
 have z6:=hb6.size
 have hk6:Keep F w W5:=(Keep.of_below hb6).trans hk5
 have hba:Below W5.heap.size W5 (W5.alloc (.cells #[.string name,.int .i64 (-1),.iface 162 (.pointer (some ⟨b,0,none⟩))] 161)):=(Below.refl _ _).alloc (Nat.le_refl _) _
 refine⟨hk6.trans (Keep.of_below hba),FD,hd5.below hba,fun k hk=>(hf5 k hk).imp_right fun h=>by omega,fun k hk=>by have:=hl5 k hk;simp;omega,W5.heap.size,rfl,?_⟩
 obtain⟨h0,h1⟩:=hch.disk_at
 exact .both _ _ _ _ _ (by simp) (by simp) (cell_below hba h0) (cell_below hba h1)
end
section
open Go.RowKit Go.Shelf
def LoadOk (w:World)(s d:Nat)(F G:Nat→Prop)(D:DS)(Ts:List TS)(sv:Value)(bs:List Nat)(name:ByteArray)(ts:List Int)(rs:List (List V))(g:Nat)(T:List (List UInt8))(w':World):Prop:=
 Keep (fun k=>F k∨setF s sv k) w w'∧∃ (FD G':Nat→Prop) (sv':Value) (tb:Nat),DiskAt w' FD d (layAll D T).1∧SetX w' G' s d (Ts++[⟨name,ts,rs.length,g,(layAll D T).2.1⟩]) sv' (bs++[tb])∧(∀ k,FD k→F k∨w.heap.size≤k)∧(∀ k,G' k→G k∨w.heap.size≤k)∧(∀ k,FD k∨G' k→k<w'.heap.size)∧(∀ k,G' k→¬ FD k)∧¬ FD s∧(∀ k,sv'.ownBlock=some k→¬ FD k)∧(∀ k,sv'.ownBlock=some k→sv.ownBlock=some k∨w.heap.size≤k)
abbrev recObj (name:ByteArray)(g7 c7:Nat)(ts:List Int)(rs:List (List V))(g:Nat)(sa:Option Addr)(n sc:Nat):Obj:=.cells #[.string name,.slice (some ⟨g7,0,none⟩) ts.length c7,.int .i64 (rs.length:Int),.int .i64 (g:Int),.slice sa n sc] 108
theorem load_done {w:World}{s d:Nat}{F G:Nat→Prop}{D:DS}{Ts:List TS}{sv:Value}{bs:List Nat}{name:ByteArray}{at_ ar ah:Option Addr}{cr:Nat}{ts hs:List Int}{xs:List (Option Addr×Nat)}{rs:List (List V)}{g:Nat}(h:LoadIn w s d F G D Ts sv bs name at_ ar ah cr ts hs xs rs g)
  {T:List (List UInt8)} {W4 W5 X2 X5:World} {FD:Nat→Prop} {sa:Option Addr} {sc:Nat} {us:List (Option Addr×Nat)} (hb6:Below w.heap.size w W4) (hk5:Keep F W4 W5) (hd5:DiskAt W5 FD d (layAll D T).1) (hf5:∀ k,FD k→F k∨W4.heap.size≤k) (hl5:∀ k,FD k→k<W5.heap.size)
  (hsg:SegsAt W5 (fun k=>W4.heap.size≤k∧k<W5.heap.size∧¬ FD k) sa us (layAll D T).2.1) (hsc:(layAll D T).2.1.length≤sc) (hb7:Below W5.heap.size W5 X2) {g7 c7:Nat} (hg7:W5.heap.size≤g7) (hg7l:g7<X2.heap.size) (hI:Ints X2 (some ⟨g7,0,none⟩) ts)
  {sv':Value} {o4:Obj} (hown:OwnC X5 0 109 sv' (bs.map tabV++[tabV X2.heap.size])) (hgr:((X2.alloc (recObj name g7 c7 ts rs g sa (layAll D T).2.1.length sc)).alloc o4).grownBy X5 sv.ownBlock) (hat:sv'.ownBlock=sv.ownBlock∨sv'.ownBlock=some (X2.heap.size+2)) :
  LoadOk w s d F G D Ts sv bs name ts rs g T (X5.setCell ⟨s,1,none⟩ sv'):=by
 have z6:=hb6.size
 have z5:=hk5.size
 have z7:=hb7.size
 have z8:=hgr.size
 simp only[World.size_alloc]at z8
 have hsl:s<w.heap.size:=lt_of_heap h.set.cells
 have hol:∀ k,sv.ownBlock=some k→k<w.heap.size:=fun k hk=>own_block_ge h.set.own hk
 have hfl:∀ k,F k→k<w.heap.size:=fun k hk=>h.lt k (.inl hk)
 have hgl:∀ k,G k→k<w.heap.size:=fun k hk=>h.lt k (.inr hk)
 have hfd:∀ k,k<w.heap.size→FD k→F k:=fun k hk hf=>(hf5 k hf).resolve_right (by omega)
 have hsz:(X5.setCell ⟨s,1,none⟩ sv').heap.size=X5.heap.size:=by simp[World.setCell]
 -- the blocks that stand
 have st4:∀ k,k<X2.heap.size+2→sv.ownBlock≠some k→k≠s→(X5.setCell ⟨s,1,none⟩ sv').heap[k]?=((X2.alloc (recObj name g7 c7 ts rs g sa (layAll D T).2.1.length sc)).alloc o4).heap[k]?:=fun k hk hne hks=>
  (Below.heap_setCell _ _ _ _ hks).trans (hgr.block k (by simp;omega) (Ne.symm hne))
 have st2:∀ k,k<X2.heap.size→sv.ownBlock≠some k→k≠s→(X5.setCell ⟨s,1,none⟩ sv').heap[k]?=X2.heap[k]?:=fun k hk hne hks=>
  (st4 k (by omega) hne hks).trans ((Below.heap_alloc _ o4 k (by simp;omega)).trans (Below.heap_alloc X2 _ k hk))
 have st5:∀ k,k<W5.heap.size→sv.ownBlock≠some k→k≠s→(X5.setCell ⟨s,1,none⟩ sv').heap[k]?=W5.heap[k]?:=fun k hk hne hks=>
  (st2 k (by omega) hne hks).trans (hb7.block k hk)
 have st0:∀ k,k<w.heap.size→¬ F k→sv.ownBlock≠some k→k≠s→(X5.setCell ⟨s,1,none⟩ sv').heap[k]?=w.heap[k]?:=fun k hk hF hne hks=>
  (st5 k (by omega) hne hks).trans ((hk5.block k (by omega) hF).trans (hb6.block k hk))
 have hsne:sv.ownBlock≠some s:=fun e=>(h.set.gF s e).2 rfl
 have hs5:X5.heap[s]?=some (.cells #[.pointer (some ⟨d,0,none⟩),sv] 112 (0,0)):=by
  rw[hgr.block s (by simp;omega) (Ne.symm hsne),Below.heap_alloc _ o4 s (by simp;omega),Below.heap_alloc X2 _ s (by omega),hb7.block s (by omega),hk5.block s (by omega) h.sF,hb6.block s hsl]
  exact h.set.cells
 have hnb:∀ k,sv'.ownBlock=some k→sv.ownBlock=some k∨k=X2.heap.size+2:=fun k hk=>by
  rcases hat with e|e
  ·exact .inl (e▸hk)
  rw[e]at hk;simp at hk;exact .inr hk.symm
 refine⟨⟨hgr.os.trans ((hb7.os).trans (hk5.os.trans hb6.os)),hgr.tape.trans ((hb7.tape).trans (hk5.tape.trans hb6.tape)),hgr.output.trans ((hb7.output).trans (hk5.output.trans hb6.output)),by rw[hsz];omega,fun k hk hn=>st0 k hk (fun hF=>hn (.inl hF)) (fun e=>hn (.inr (.inr e))) (fun e=>hn (.inr (.inl e)))⟩,
  FD,fun k=>G k∨(W4.heap.size≤k∧k<W5.heap.size∧¬ FD k)∨k=g7∨k=X2.heap.size,sv',X2.heap.size,?_,?_,fun k hk=>(hf5 k hk).imp_right fun h=>by omega,?_,?_,?_,?_,?_,?_⟩
 ·refine hd5.stands fun k hk hl=>st5 k hl (fun e=>?_) (fun e=>?_)
  ·exact h.gF k e (hfd k (hol k e) hk)
  subst e;exact h.sF (hfd k hsl hk)
 ·refine⟨heap_setCell_same X5 s 1 _ _ _ hs5,?_,?_,?_,by simp[h.set.len],?_,by have:=h.few;simp;omega⟩
  ·rw[List.map_append,List.map_cons,List.map_nil]
   refine own_of_block hown fun k hk=>Below.heap_setCell _ _ _ _ fun e=>?_
   subst e
   rcases hnb k hk with e|e
   ·exact hsne e
   omega
  ·rintro(h1|⟨h1,_⟩|h1|h1)
   ·exact h.set.sF h1
   ·omega
   ·omega
   omega
  ·intro k hk
   refine⟨?_,fun e=>?_⟩
   ·rintro(h1|⟨h1,h2,_⟩|h1|h1)
    ·rcases hnb k hk with e|e
     ·exact(h.set.gF k e).1 h1
     have:=hgl k h1;omega
    ·rcases hnb k hk with e|e
     ·have:=hol k e;omega
     omega
    ·rcases hnb k hk with e|e
     ·have:=hol k e;omega
     omega
    rcases hnb k hk with e|e
    ·have:=hol k e;omega
    omega
   subst e
   rcases hnb k hk with e|e
   ·exact hsne e
   omega
  intro i b Tb hb hTb
  by_cases hi:i<bs.length
  ·rw[List.getElem?_append_left hi]at hb
   rw[List.getElem?_append_left (by rw[←h.set.len];exact hi)]at hTb
   refine((h.set.tab i b Tb hb hTb).stands (by rw[hsz];omega) fun k hk hl=>st0 k hl (h.apart k hk) (fun e=>(h.set.gF k e).1 hk) (fun e=>h.set.sF (e▸hk))).mono fun k hk=>.inl hk
  have hi2:i=bs.length:=by
   have:=(List.getElem?_eq_some_iff.1 hb).1
   simp at this
   omega
  subst hi2
  rw[List.getElem?_append_right (Nat.le_refl _)]at hb
  rw[h.set.len,List.getElem?_append_right (Nat.le_refl _)]at hTb
  simp at hb hTb
  subst hb hTb
  have nb:∀ k,W4.heap.size≤k→sv.ownBlock≠some k:=fun k hk e=>by have:=hol k e;omega
  refine⟨some ⟨g7,0,none⟩,c7,sa,sc,us,?_,?_,?_,?_,hsc,.inr (.inr (.inr rfl))⟩
  ·rw[st4 _ (by omega) (nb _ (by omega)) (by omega),Below.heap_alloc _ o4 _ (by simp),heap_alloc_new]
  ·refine hI.of_block (by rw[hsz];omega) fun b o hbo hl=>?_
   simp at hbo
   obtain⟨rfl,rfl⟩:=hbo
   exact st2 _ hl (nb _ (by omega)) (by omega)
  ·intro b o hbo
   simp at hbo
   exact .inr (.inr (.inl hbo.1.symm))
  exact(hsg.stands (by rw[hsz];omega) fun k hk hl=>st5 k hl (nb k hk.1) (by have:=hk.1;omega)).mono fun k hk=>.inr (.inl hk)
 ·rintro k (h1|⟨h1,_⟩|h1|h1)
  ·exact .inl h1
  ·exact .inr (by omega)
  ·exact .inr (by omega)
  exact .inr (by omega)
 ·rw[hsz]
  rintro k (h1|h1|⟨_,h1,_⟩|h1|h1)
  ·have:=hl5 k h1;omega
  ·have:=hgl k h1;omega
  ·omega
  ·omega
  omega
 ·rintro k (h1|⟨_,_,h1⟩|h1|h1) hf
  ·exact h.apart k h1 (hfd k (hgl k h1) hf)
  ·exact h1 hf
  ·have:=hl5 k hf;omega
  have:=hl5 k hf;omega
 ·exact fun hf=>h.sF (hfd s hsl hf)
 ·intro k hk hf
  rcases hnb k hk with e|e
  ·exact h.gF k e (hfd k (hol k e) hf)
  have:=hl5 k hf;omega
 intro k hk
 rcases hnb k hk with e|e
 ·exact .inl e
 exact .inr (by omega)
theorem tLoad_ok (s d:Nat)(F G:Nat→Prop)(D:DS)(Ts:List TS)(sv:Value)(bs:List Nat)(name:ByteArray)(at_ ar ah:Option Addr)(ct cr ch:Nat)(ts hs:List Int)(xs:List (Option Addr×Nat))(rs:List (List V))(g:Nat)(w:World)(h:LoadIn w s d F G D Ts sv bs name at_ ar ah cr ts hs xs rs g)(a0 a1 a2:Addr)(he:Errs w a0 a1 a2)
  (T:List (List UInt8)) (hp:packF rs ts hs (cks rs.length g (ckN rs.length g))=.inl T) (q qw:Addr) (hq:w.cell? ⟨4,0,none⟩=some (.iface 284 (.pointer (some q)))) (hw:w.cell? ⟨5,0,none⟩=some (.iface 284 (.pointer (some qw)))) (hFq:¬ F 4) (hFw:¬ F 5) (hx:(layAll D T).2.2=none) :
  Calls Tryz.prog 52 #[.pointer (some ⟨s,0,none⟩),tabArg name at_ ar ct cr ts rs,.slice ah hs.length ch,.int .i64 (g:Int)] w fun e w'=>e=.returned .nilIface∧LoadOk w s d F G D Ts sv bs name ts rs g T w':=by
 have hb0:Below w.heap.size w (w.alloc (tabObj name at_ ar ct cr ts rs)):=(Below.refl _ w).alloc (Nat.le_refl _) _
 obtain⟨hT,hW,hF,hP,hL⟩:=h.hid ct ch a0 a1 a2 he T hp q qw hq hw hFq hFw
 have HW:Hid (∀ W,Below w.heap.size w W→Calls Tryz.prog 68 #[.slice ah hs.length ch,.slice at_ ts.length ct] W fun e w'=>e=.returned (.bool true)∧w'=W):=hW
 have HF:Hid (∀ W,Below w.heap.size w W→Calls Tryz.prog 35 #[.pointer (some ⟨s,0,none⟩),.string name] W fun e w'=>e=.returned (.int .i64 (-1))∧Below W.heap.size W w'):=hF
 have HP:Hid (∀ W,Below w.heap.size w W→Calls Tryz.prog 69 #[.agg #[.string name,.slice at_ ts.length ct,.slice ar rs.length cr],.slice ah hs.length ch,.int .i64 (g:Int)] W fun e w'=>Below W.heap.size W w'∧∃ a cap,e=.returned (.tuple #[.slice a T.length cap,.nilIface])∧Cells w' a (T.map tv)∧∀ b o,a=some ⟨b,o,none⟩→W.heap.size≤b):=hP
 have HL:Hid (∀ W a cap,Below w.heap.size w W→Cells W a (T.map tv)→(∀ b o,a=some ⟨b,o,none⟩→w.heap.size≤b)→Calls Tryz.prog 70 #[.pointer (some ⟨s,0,none⟩),.slice a T.length cap] W fun e w'=>Keep F W w'∧∃ FD:Nat→Prop,DiskAt w' FD d (layAll D T).1∧(∀ k,FD k→F k∨W.heap.size≤k)∧(∀ k,FD k→k<w'.heap.size)∧∃ sa sc us,e=.returned (.tuple #[.slice sa (layAll D T).2.1.length sc,.nilIface])∧SegsAt w' (fun k=>W.heap.size≤k∧k<w'.heap.size∧¬ FD k) sa us (layAll D T).2.1∧(layAll D T).2.1.length≤sc):=fun W a cap h1 h2 h3=>
  (hL W a cap h1 h2 h3).mono fun e w' hpost=>by
   unfold LayAllPost at hpost
   rw[hx]at hpost
   exact hpost
 have q0:(w.alloc (tabObj name at_ ar ct cr ts rs)).cell? ⟨w.heap.size,0,none⟩=some (.string name):=by simp
 have q1:(w.alloc (tabObj name at_ ar ct cr ts rs)).cell? ⟨w.heap.size,1,none⟩=some (.slice at_ ts.length ct):=by simp
 have q2:(w.alloc (tabObj name at_ ar ct cr ts rs)).cell? ⟨w.heap.size,2,none⟩=some (.slice ar rs.length cr):=by simp
 have hn0:¬ F w.heap.size:=fun hf=>Nat.lt_irrefl _ (h.lt _ (.inl hf))
 have HH:Hid (LoadIn w s d F G D Ts sv bs name at_ ar ah cr ts hs xs rs g):=h
 obtain⟨_,c1⟩:=h.set.field
 obtain⟨a,cap,hsv,_⟩:=h.set.own.cells
 rw[List.length_map,h.set.len]at hsv
 subst hsv
 have hfew:=h.few
 have hg1:=h.g1
 have hg2:=h.g2
 have hsF:=h.sF
 have hne:ts≠[]:=fun e=>by have:=h.tab.2.1.1.1;rw[e]at this;simp at this
 obtain⟨tb,tof,rfl⟩:∃ b o,at_=some ⟨b,o,none⟩:=by
  rcases h.args.types with h0|⟨b,o,hb,_⟩
  ·simp at h0;exact absurd h0 hne
  exact⟨b,o,hb⟩
 have HNE:Hid (ts≠[]):=hne
 have hr200:rs.length≤200:=h.tab.2.2.1
 generalize hR:(layAll D T).2.1=R at *
 have HR:Hid ((layAll D T).2.1=R):=hR
 clear hR
 have HSC:Hid (∀ W,Calls Tryz.prog 71 #[.string name] W fun e w'=>e=.returned (.string name)∧Below W.heap.size W w'):=fun W=>by
  have:=sClone_any name.toList W (by have:=h.tab.1.2;rw[←str_size,str_toList];omega)
  rwa [str_toList]at this
 have HCI:Hid (∀ W,Ints W (some ⟨tb,tof,none⟩) ts→Calls Tryz.prog 36 #[.slice (some ⟨tb,tof,none⟩) ts.length ct] W fun e w'=>Below W.heap.size W w'∧∃ g c,e=.returned (.slice (some ⟨g,0,none⟩) ts.length c)∧W.heap.size≤g∧g<w'.heap.size∧Ints w' (some ⟨g,0,none⟩) ts):=fun W hI=>cloneInts_any tb tof ct ts W hne (by have:=h.tab.2.1.1.2;omega) hI
 obtain⟨i0,hi0,hz0,hz1,hz2⟩:=info_parts info_ptable
 clear h hp hW hF hP hL hq hw hx hne
 go_enter Tryz.func52,Tryz.ntmps52
 go_wp2_with (first|(go_at_call 67;refine hT.mono ?_;rintro e W1 ⟨rfl,hb1⟩;have hb2:=below_then hb0 hb1;have d0:=cell_below hb1 q0;have d1:=cell_below hb1 q1;have d2:=cell_below hb1 q2)|(go_at_call 68;refine(HW.out W1 hb2).mono ?_;rintro e W2 ⟨rfl,rfl⟩)|(go_at_call 35;refine(HF.out _ hb2).mono ?_;rintro e W3 ⟨rfl,hb3⟩;have hb4:=below_then hb2 hb3;have dc1:=cell_below hb4 c1;have e0:=cell_below hb3 d0;have e1:=cell_below hb3 d1;have e2:=cell_below hb3 d2)|(go_at_call 69;refine(HP.out _ hb4).mono ?_;rintro e W4 ⟨hb5,pa,pc,rfl,hpc,hpa⟩;have hb6:=below_then hb4 hb5;have f0:=cell_below hb5 e0;have f1:=cell_below hb5 e1;have f2:=cell_below hb5 e2;have fc:=cell_below hb6 c1;have z4:=hb4.size)|(go_at_call 70;refine(HL.out _ pa pc hb6 hpc (fun b o hb=>Nat.le_trans z4 (hpa b o hb))).mono ?_;rintro e W5 ⟨hk5,FD,hd5,hf5,hl5,sa,sc,us,rfl,hsg,hsc⟩;have g0:=hk5.cell f0 hn0;have g1:=hk5.cell f1 hn0;have g2:=hk5.cell f2 hn0;have gc:=hk5.cell fc hsF))
 have hIt:Ints W5 (some ⟨tb,tof,none⟩) ts:=(HH.out.args.types.below hb6).of_block hk5.size fun b o hbo hl=>by
  simp at hbo
  obtain⟨rfl,rfl⟩:=hbo
  exact hk5.block _ hl (HH.out.tF _ _ rfl)
 have HIT:Hid (Ints W5 (some ⟨tb,tof,none⟩) ts):=hIt
 have HSG:Hid (SegsAt W5 (fun k=>W4.heap.size≤k∧k<W5.heap.size∧¬ FD k) sa us R):=hsg
 clear hIt hsg hT q0 q1 q2 d0 d1 d2 e0 e1 e2 f0 f1 f2 fc dc1 c1 hpc hpa HW HF HP HL
 refine wp_region_held_drew (S:=fun X=>X.cell? ⟨w.heap.size,0,none⟩=some (.string name)∧X.cell? ⟨w.heap.size,1,none⟩=some (.slice (some ⟨tb,tof,none⟩) ts.length ct)∧X.cell? ⟨w.heap.size,2,none⟩=some (.slice ar rs.length cr)) (by kernel_rfl) ⟨g0,g1,g2⟩ (fun hH=>?_)
 refine tkj 0 rfl hH ?_
 refine tkj 1 rfl hH ?_
 refine tkj 2 rfl hH ?_
 refine tkj 3 rfl hH ?_
 refine tkj 5 rfl hH ?_
 refine tkj 6 rfl hH ?_
 refine tkj 8 rfl hH ?_
 refine tkj 9 rfl hH ?_
 refine tkj 11 rfl hH ?_
 refine tkj 12 rfl hH ?_
 refine tkj 13 rfl hH ?_
 refine tkj 14 rfl hH ?_
 refine tkj 15 rfl hH ?_
 refine tkn ?_
 refine wpAnyH_ready (rs:=[4,7]) (by kernel_rfl) (by simp) (AllReadyH.cons rfl (fun K hK=>?_) (AllReadyH.cons rfl (fun K hK=>?_) AllReadyH.nil))
 ·go_simp
  refine hK.out _ _ hH (fun hH=>?_)
  clear hK K
  refine tkr 7 rfl fun K hK=>?_
  go_simp
  refine(HSC.out _).mono ?_
  rintro e X1 ⟨rfl,hx1⟩
  have s1:=cell_below hx1 (show W5.drew.cell? _=_ from gc)
  go_simp
  refine hK.out _ _ ⟨cell_below hx1 hH.1,cell_below hx1 hH.2.1,cell_below hx1 hH.2.2⟩ (fun hH=>?_)
  clear hK K
  refine tkr 10 rfl fun K hK=>?_
  go_simp
  refine(HCI.out _ ((HIT.out.of_block (w':=X1) hx1.size fun b o _ hl=>hx1.block b hl))).mono ?_
  rintro e X2 ⟨hx2,g7,c7,rfl,hg7,hg7l,hI7⟩
  have HI7:Hid (Ints X2 (some ⟨g7,0,none⟩) ts):=hI7
  clear hI7
  have s2:=cell_below hx2 s1
  go_simp
  refine hK.out _ _ ⟨cell_below hx2 hH.1,cell_below hx2 hH.2.1,cell_below hx2 hH.2.2⟩ (fun hH=>?_)
  clear hK K
  refine tkj 16 rfl hH ?_
  refine tkn ?_
  refine tkr 17 rfl fun K hK=>?_
  go_simp
  have hx3:Below X2.heap.size X2 (X2.alloc (recObj name g7 c7 ts rs g sa R.length sc)):=(Below.refl _ _).alloc (Nat.le_refl _) _
  have s3:=cell_below hx3 s2
  refine hK.out _ _ ⟨cell_below hx3 hH.1,cell_below hx3 hH.2.1,cell_below hx3 hH.2.2⟩ (fun hH=>?_)
  clear hK K
  refine tkr 18 rfl fun K hK=>?_
  go_simp
  have hx4:Below (X2.alloc (recObj name g7 c7 ts rs g sa R.length sc)).heap.size (X2.alloc (recObj name g7 c7 ts rs g sa R.length sc)) ((X2.alloc (recObj name g7 c7 ts rs g sa R.length sc)).alloc (.cells #[.pointer (some ⟨X2.heap.size,0,none⟩)] 109)):=(Below.refl _ _).alloc (Nat.le_refl _) _
  have s4:=cell_below hx4 s3
  refine hK.out _ _ ⟨cell_below hx4 hH.1,cell_below hx4 hH.2.1,cell_below hx4 hH.2.2⟩ (fun hH=>?_)
  clear hK K
  refine tkr 19 rfl fun K hK=>?_
  have z1:W5.heap.size≤X1.heap.size:=hx1.size
  have hb7:Below W5.heap.size W5 X2:=below_undrew (below_then hx1 hx2)
  have hst:∀ k,k<W5.heap.size→((X2.alloc (recObj name g7 c7 ts rs g sa R.length sc)).alloc (.cells #[.pointer (some ⟨X2.heap.size,0,none⟩)] 109)).heap[k]?=W5.heap[k]?:=fun k hk=>by
   have z2:=hb7.size
   rw[hx4.block k (by simp;omega),hx3.block k (by omega),hb7.block k hk]
  have hown4:OwnC ((X2.alloc (recObj name g7 c7 ts rs g sa R.length sc)).alloc (.cells #[.pointer (some ⟨X2.heap.size,0,none⟩)] 109)) 0 109 (.slice a Ts.length cap) (bs.map tabV):=own_of_block HH.out.set.own fun k hk=>by
   have hkl:=own_block_ge HH.out.set.own hk
   have z6:=hb6.size
   have z5:=hk5.size
   rw[hst k (by omega),hk5.block k (by omega) (HH.out.gF k hk),hb6.block k hkl]
  have hown5:((X2.alloc (recObj name g7 c7 ts rs g sa R.length sc)).alloc (.cells #[.pointer (some ⟨X2.heap.size,0,none⟩)] 109)).ownsRow 0 109 1 (.slice a Ts.length cap) Ts.length (bs.map tabV):=by
   have:=hown4
   unfold OwnC at this
   rwa [List.length_map,HH.out.set.len]at this
  have hs4:((X2.alloc (recObj name g7 c7 ts rs g sa R.length sc)).alloc (.cells #[.pointer (some ⟨X2.heap.size,0,none⟩)] 109)).heap[s]?=some (.cells #[.pointer (some ⟨d,0,none⟩),.slice a Ts.length cap] 112 (0,0)):=by
   have hsl:=lt_of_heap HH.out.set.cells
   have z6:=hb6.size
   have z5:=hk5.size
   rw[hst s (by omega),hk5.block s (by omega) HH.out.sF,hb6.block s hsl]
   exact HH.out.set.cells
  have hb4n:((X2.alloc (recObj name g7 c7 ts rs g sa R.length sc)).alloc (.cells #[.pointer (some ⟨X2.heap.size,0,none⟩)] 109)).heap[X2.heap.size+1]?=some (.cells #[.pointer (some ⟨X2.heap.size,0,none⟩)] 109 (0,0)):=by
   have:=heap_alloc_new (X2.alloc (recObj name g7 c7 ts rs g sa R.length sc)) (.cells #[.pointer (some ⟨X2.heap.size,0,none⟩)] 109)
   rwa [World.size_alloc]at this
  refine step_append_lies ((X2.alloc (recObj name g7 c7 ts rs g sa R.length sc)).alloc (.cells #[.pointer (some ⟨X2.heap.size,0,none⟩)] 109)) rfl (.tmp 73) (.tmp 87) 110 rfl 0 109 i0 (.pointer none) 1 8 Tryz.underlying110 hi0 hz0 hz1 hz2 rfl (by decide) (.slice a Ts.length cap) Ts.length (bs.map tabV) rfl hown5 ⟨X2.heap.size+1,0,none⟩ 1 1 [tabV X2.heap.size] rfl rfl (fun j u hu=>World.news_of_block hb4n j u (by simpa [tabV] using hu)) (fun u hu=>by simp at hu;subst hu;rfl) (by decide) (by unfold maxLen;omega) (by omega) (Nat.zero_le _) (X2.heap.size+2) (by simp) (fun g9 cap9 X5 ho9 hg9 hat9 hl9=>?_)
  have z9:=hg9.size
  have hne9:(Value.slice a Ts.length cap).ownBlock≠some s:=fun e=>(HH.out.set.gF s e).2 rfl
  have hnw9:(Value.slice a Ts.length cap).ownBlock≠some w.heap.size:=fun e=>Nat.lt_irrefl _ (own_block_ge HH.out.set.own e)
  have hs5:X5.heap[s]?=some (.cells #[.pointer (some ⟨d,0,none⟩),.slice a Ts.length cap] 112 (0,0)):=(hg9.block s (lt_of_heap hs4) (Ne.symm hne9)).trans hs4
  have hw5:X5.heap[w.heap.size]?=((X2.alloc (recObj name g7 c7 ts rs g sa R.length sc)).alloc (.cells #[.pointer (some ⟨X2.heap.size,0,none⟩)] 109)).heap[w.heap.size]?:=hg9.block w.heap.size (lt_of_cell hH.1) (Ne.symm hnw9)
  have hcw:∀ o:Nat,X5.cell? ⟨w.heap.size,o,none⟩=((X2.alloc (recObj name g7 c7 ts rs g sa R.length sc)).alloc (.cells #[.pointer (some ⟨X2.heap.size,0,none⟩)] 109)).cell? ⟨w.heap.size,o,none⟩:=fun o=>by simp only[World.cell?,hw5]
  have hsw:s≠w.heap.size:=fun e=>by have:=lt_of_heap HH.out.set.cells;omega
  refine hK.out _ _ ⟨(hcw 0).trans hH.1,(hcw 1).trans hH.2.1,(hcw 2).trans hH.2.2⟩ (fun hH=>?_)
  clear hK K hcw hw5 hown4 hst
  have s5:X5.cell? ⟨s,1,none⟩=some (.slice a Ts.length cap):=by simp[World.cell?,hs5]
  have f5:X5.frozen? ⟨s,1,none⟩=false:=by simp[World.frozen?,hs5]
  simp only[Act.put,List.getElem_toArray,List.getElem_cons_zero,List.getElem_cons_succ,List.setIfInBounds_toArray,List.set_cons_zero,List.set_cons_succ]
  refine tkj 20 rfl hH ?_
  refine tkj 21 rfl hH ?_
  refine tkn ?_
  refine tkr 22 rfl fun K hK=>?_
  go_simp
  have hcs:∀ o:Nat,(X5.setCell ⟨s,1,none⟩ (.slice (some ⟨g9,0,none⟩) (Ts.length+1) cap9)).cell? ⟨w.heap.size,o,none⟩=X5.cell? ⟨w.heap.size,o,none⟩:=fun o=>World.cell?_setCell_other _ _ _ _ (by intro e;injection e with e1;exact absurd e1 (by omega))
  refine hK.out _ _ ⟨(hcs 0).trans hH.1,(hcs 1).trans hH.2.1,(hcs 2).trans hH.2.2⟩ (fun hH=>?_)
  clear hK K hcs
  refine wpAnyH_done (by kernel_rfl) ?_ _
  clear hH s5 f5
  have hfin:LoadOk w s d F G D Ts (.slice a Ts.length cap) bs name ts rs g T (X5.setCell ⟨s,1,none⟩ (.slice (some ⟨g9,0,none⟩) (Ts.length+1) cap9)):=by
   obtain rfl:=HR.out
   refine load_done HH.out hb6 hk5 hd5 hf5 hl5 HSG.out hsc hb7 (Nat.le_trans z1 hg7) hg7l HI7.out (sv':=.slice (some ⟨g9,0,none⟩) (Ts.length+1) cap9) ?_ hg9 (by rcases hat9 with e|e;exact .inl (by rw[e];rfl);exact .inr (by rw[e];rfl))
   unfold OwnC
   rw[List.length_append,List.length_map,HH.out.set.len]
   exact ho9
  have HFIN:Hid (LoadOk w s d F G D Ts (.slice a Ts.length cap) bs name ts rs g T (X5.setCell ⟨s,1,none⟩ (.slice (some ⟨g9,0,none⟩) (Ts.length+1) cap9))):=hfin
  clear hfin
  generalize X5.setCell ⟨s,1,none⟩ (.slice (some ⟨g9,0,none⟩) (Ts.length+1) cap9)=X6 at *
  go_wp2
  go_ret
  exact⟨rfl,HFIN.out⟩
 go_simp
 refine(HSC.out _).mono ?_
 rintro e X1 ⟨rfl,hx1⟩
 have s1:=cell_below hx1 (show W5.drew.cell? _=_ from gc)
 go_simp
 refine hK.out _ _ ⟨cell_below hx1 hH.1,cell_below hx1 hH.2.1,cell_below hx1 hH.2.2⟩ (fun hH=>?_)
 clear hK K
 refine wpAnyH_ready (rs:=[4,10]) (by kernel_rfl) (by simp) (AllReadyH.cons rfl (fun K hK=>?_) (AllReadyH.cons rfl (fun K hK=>?_) AllReadyH.nil))
 ·go_simp
  refine hK.out _ _ hH (fun hH=>?_)
  clear hK K
  refine tkr 10 rfl fun K hK=>?_
  go_simp
  refine(HCI.out _ ((HIT.out.of_block (w':=X1) hx1.size fun b o _ hl=>hx1.block b hl))).mono ?_
  rintro e X2 ⟨hx2,g7,c7,rfl,hg7,hg7l,hI7⟩
  have HI7:Hid (Ints X2 (some ⟨g7,0,none⟩) ts):=hI7
  clear hI7
  have s2:=cell_below hx2 s1
  go_simp
  refine hK.out _ _ ⟨cell_below hx2 hH.1,cell_below hx2 hH.2.1,cell_below hx2 hH.2.2⟩ (fun hH=>?_)
  clear hK K
  refine tkj 16 rfl hH ?_
  refine tkn ?_
  refine tkr 17 rfl fun K hK=>?_
  go_simp
  have hx3:Below X2.heap.size X2 (X2.alloc (recObj name g7 c7 ts rs g sa R.length sc)):=(Below.refl _ _).alloc (Nat.le_refl _) _
  have s3:=cell_below hx3 s2
  refine hK.out _ _ ⟨cell_below hx3 hH.1,cell_below hx3 hH.2.1,cell_below hx3 hH.2.2⟩ (fun hH=>?_)
  clear hK K
  refine tkr 18 rfl fun K hK=>?_
  go_simp
  have hx4:Below (X2.alloc (recObj name g7 c7 ts rs g sa R.length sc)).heap.size (X2.alloc (recObj name g7 c7 ts rs g sa R.length sc)) ((X2.alloc (recObj name g7 c7 ts rs g sa R.length sc)).alloc (.cells #[.pointer (some ⟨X2.heap.size,0,none⟩)] 109)):=(Below.refl _ _).alloc (Nat.le_refl _) _
  have s4:=cell_below hx4 s3
  refine hK.out _ _ ⟨cell_below hx4 hH.1,cell_below hx4 hH.2.1,cell_below hx4 hH.2.2⟩ (fun hH=>?_)
  clear hK K
  refine tkr 19 rfl fun K hK=>?_
  have z1:W5.heap.size≤X1.heap.size:=hx1.size
  have hb7:Below W5.heap.size W5 X2:=below_undrew (below_then hx1 hx2)
  have hst:∀ k,k<W5.heap.size→((X2.alloc (recObj name g7 c7 ts rs g sa R.length sc)).alloc (.cells #[.pointer (some ⟨X2.heap.size,0,none⟩)] 109)).heap[k]?=W5.heap[k]?:=fun k hk=>by
   have z2:=hb7.size
   rw[hx4.block k (by simp;omega),hx3.block k (by omega),hb7.block k hk]
  have hown4:OwnC ((X2.alloc (recObj name g7 c7 ts rs g sa R.length sc)).alloc (.cells #[.pointer (some ⟨X2.heap.size,0,none⟩)] 109)) 0 109 (.slice a Ts.length cap) (bs.map tabV):=own_of_block HH.out.set.own fun k hk=>by
   have hkl:=own_block_ge HH.out.set.own hk
   have z6:=hb6.size
   have z5:=hk5.size
   rw[hst k (by omega),hk5.block k (by omega) (HH.out.gF k hk),hb6.block k hkl]
  have hown5:((X2.alloc (recObj name g7 c7 ts rs g sa R.length sc)).alloc (.cells #[.pointer (some ⟨X2.heap.size,0,none⟩)] 109)).ownsRow 0 109 1 (.slice a Ts.length cap) Ts.length (bs.map tabV):=by
   have:=hown4
   unfold OwnC at this
   rwa [List.length_map,HH.out.set.len]at this
  have hs4:((X2.alloc (recObj name g7 c7 ts rs g sa R.length sc)).alloc (.cells #[.pointer (some ⟨X2.heap.size,0,none⟩)] 109)).heap[s]?=some (.cells #[.pointer (some ⟨d,0,none⟩),.slice a Ts.length cap] 112 (0,0)):=by
   have hsl:=lt_of_heap HH.out.set.cells
   have z6:=hb6.size
   have z5:=hk5.size
   rw[hst s (by omega),hk5.block s (by omega) HH.out.sF,hb6.block s hsl]
   exact HH.out.set.cells
  have hb4n:((X2.alloc (recObj name g7 c7 ts rs g sa R.length sc)).alloc (.cells #[.pointer (some ⟨X2.heap.size,0,none⟩)] 109)).heap[X2.heap.size+1]?=some (.cells #[.pointer (some ⟨X2.heap.size,0,none⟩)] 109 (0,0)):=by
   have:=heap_alloc_new (X2.alloc (recObj name g7 c7 ts rs g sa R.length sc)) (.cells #[.pointer (some ⟨X2.heap.size,0,none⟩)] 109)
   rwa [World.size_alloc]at this
  refine step_append_lies ((X2.alloc (recObj name g7 c7 ts rs g sa R.length sc)).alloc (.cells #[.pointer (some ⟨X2.heap.size,0,none⟩)] 109)) rfl (.tmp 73) (.tmp 87) 110 rfl 0 109 i0 (.pointer none) 1 8 Tryz.underlying110 hi0 hz0 hz1 hz2 rfl (by decide) (.slice a Ts.length cap) Ts.length (bs.map tabV) rfl hown5 ⟨X2.heap.size+1,0,none⟩ 1 1 [tabV X2.heap.size] rfl rfl (fun j u hu=>World.news_of_block hb4n j u (by simpa [tabV] using hu)) (fun u hu=>by simp at hu;subst hu;rfl) (by decide) (by unfold maxLen;omega) (by omega) (Nat.zero_le _) (X2.heap.size+2) (by simp) (fun g9 cap9 X5 ho9 hg9 hat9 hl9=>?_)
  have z9:=hg9.size
  have hne9:(Value.slice a Ts.length cap).ownBlock≠some s:=fun e=>(HH.out.set.gF s e).2 rfl
  have hnw9:(Value.slice a Ts.length cap).ownBlock≠some w.heap.size:=fun e=>Nat.lt_irrefl _ (own_block_ge HH.out.set.own e)
  have hs5:X5.heap[s]?=some (.cells #[.pointer (some ⟨d,0,none⟩),.slice a Ts.length cap] 112 (0,0)):=(hg9.block s (lt_of_heap hs4) (Ne.symm hne9)).trans hs4
  have hw5:X5.heap[w.heap.size]?=((X2.alloc (recObj name g7 c7 ts rs g sa R.length sc)).alloc (.cells #[.pointer (some ⟨X2.heap.size,0,none⟩)] 109)).heap[w.heap.size]?:=hg9.block w.heap.size (lt_of_cell hH.1) (Ne.symm hnw9)
  have hcw:∀ o:Nat,X5.cell? ⟨w.heap.size,o,none⟩=((X2.alloc (recObj name g7 c7 ts rs g sa R.length sc)).alloc (.cells #[.pointer (some ⟨X2.heap.size,0,none⟩)] 109)).cell? ⟨w.heap.size,o,none⟩:=fun o=>by simp only[World.cell?,hw5]
  have hsw:s≠w.heap.size:=fun e=>by have:=lt_of_heap HH.out.set.cells;omega
  refine hK.out _ _ ⟨(hcw 0).trans hH.1,(hcw 1).trans hH.2.1,(hcw 2).trans hH.2.2⟩ (fun hH=>?_)
  clear hK K hcw hw5 hown4 hst
  have s5:X5.cell? ⟨s,1,none⟩=some (.slice a Ts.length cap):=by simp[World.cell?,hs5]
  have f5:X5.frozen? ⟨s,1,none⟩=false:=by simp[World.frozen?,hs5]
  simp only[Act.put,List.getElem_toArray,List.getElem_cons_zero,List.getElem_cons_succ,List.setIfInBounds_toArray,List.set_cons_zero,List.set_cons_succ]
  refine tkj 20 rfl hH ?_
  refine tkj 21 rfl hH ?_
  refine tkn ?_
  refine tkr 22 rfl fun K hK=>?_
  go_simp
  have hcs:∀ o:Nat,(X5.setCell ⟨s,1,none⟩ (.slice (some ⟨g9,0,none⟩) (Ts.length+1) cap9)).cell? ⟨w.heap.size,o,none⟩=X5.cell? ⟨w.heap.size,o,none⟩:=fun o=>World.cell?_setCell_other _ _ _ _ (by intro e;injection e with e1;exact absurd e1 (by omega))
  refine hK.out _ _ ⟨(hcs 0).trans hH.1,(hcs 1).trans hH.2.1,(hcs 2).trans hH.2.2⟩ (fun hH=>?_)
  clear hK K hcs
  refine wpAnyH_done (by kernel_rfl) ?_ _
  clear hH s5 f5
  have hfin:LoadOk w s d F G D Ts (.slice a Ts.length cap) bs name ts rs g T (X5.setCell ⟨s,1,none⟩ (.slice (some ⟨g9,0,none⟩) (Ts.length+1) cap9)):=by
   obtain rfl:=HR.out
   refine load_done HH.out hb6 hk5 hd5 hf5 hl5 HSG.out hsc hb7 (Nat.le_trans z1 hg7) hg7l HI7.out (sv':=.slice (some ⟨g9,0,none⟩) (Ts.length+1) cap9) ?_ hg9 (by rcases hat9 with e|e;exact .inl (by rw[e];rfl);exact .inr (by rw[e];rfl))
   unfold OwnC
   rw[List.length_append,List.length_map,HH.out.set.len]
   exact ho9
  have HFIN:Hid (LoadOk w s d F G D Ts (.slice a Ts.length cap) bs name ts rs g T (X5.setCell ⟨s,1,none⟩ (.slice (some ⟨g9,0,none⟩) (Ts.length+1) cap9))):=hfin
  clear hfin
  generalize X5.setCell ⟨s,1,none⟩ (.slice (some ⟨g9,0,none⟩) (Ts.length+1) cap9)=X6 at *
  go_wp2
  go_ret
  exact⟨rfl,HFIN.out⟩
 go_simp
 refine(HCI.out _ ((HIT.out.of_block (w':=X1) hx1.size fun b o _ hl=>hx1.block b hl))).mono ?_
 rintro e X2 ⟨hx2,g7,c7,rfl,hg7,hg7l,hI7⟩
 have HI7:Hid (Ints X2 (some ⟨g7,0,none⟩) ts):=hI7
 clear hI7
 have s2:=cell_below hx2 s1
 go_simp
 refine hK.out _ _ ⟨cell_below hx2 hH.1,cell_below hx2 hH.2.1,cell_below hx2 hH.2.2⟩ (fun hH=>?_)
 clear hK K
 refine tkj 16 rfl hH ?_
 refine tkn ?_
 refine wpAnyH_ready (rs:=[4,17]) (by kernel_rfl) (by simp) (AllReadyH.cons rfl (fun K hK=>?_) (AllReadyH.cons rfl (fun K hK=>?_) AllReadyH.nil))
 ·go_simp
  refine hK.out _ _ hH (fun hH=>?_)
  clear hK K
  refine tkr 17 rfl fun K hK=>?_
  go_simp
  have hx3:Below X2.heap.size X2 (X2.alloc (recObj name g7 c7 ts rs g sa R.length sc)):=(Below.refl _ _).alloc (Nat.le_refl _) _
  have s3:=cell_below hx3 s2
  refine hK.out _ _ ⟨cell_below hx3 hH.1,cell_below hx3 hH.2.1,cell_below hx3 hH.2.2⟩ (fun hH=>?_)
  clear hK K
  refine tkr 18 rfl fun K hK=>?_
  go_simp
  have hx4:Below (X2.alloc (recObj name g7 c7 ts rs g sa R.length sc)).heap.size (X2.alloc (recObj name g7 c7 ts rs g sa R.length sc)) ((X2.alloc (recObj name g7 c7 ts rs g sa R.length sc)).alloc (.cells #[.pointer (some ⟨X2.heap.size,0,none⟩)] 109)):=(Below.refl _ _).alloc (Nat.le_refl _) _
  have s4:=cell_below hx4 s3
  refine hK.out _ _ ⟨cell_below hx4 hH.1,cell_below hx4 hH.2.1,cell_below hx4 hH.2.2⟩ (fun hH=>?_)
  clear hK K
  refine tkr 19 rfl fun K hK=>?_
  have z1:W5.heap.size≤X1.heap.size:=hx1.size
  have hb7:Below W5.heap.size W5 X2:=below_undrew (below_then hx1 hx2)
  have hst:∀ k,k<W5.heap.size→((X2.alloc (recObj name g7 c7 ts rs g sa R.length sc)).alloc (.cells #[.pointer (some ⟨X2.heap.size,0,none⟩)] 109)).heap[k]?=W5.heap[k]?:=fun k hk=>by
   have z2:=hb7.size
   rw[hx4.block k (by simp;omega),hx3.block k (by omega),hb7.block k hk]
  have hown4:OwnC ((X2.alloc (recObj name g7 c7 ts rs g sa R.length sc)).alloc (.cells #[.pointer (some ⟨X2.heap.size,0,none⟩)] 109)) 0 109 (.slice a Ts.length cap) (bs.map tabV):=own_of_block HH.out.set.own fun k hk=>by
   have hkl:=own_block_ge HH.out.set.own hk
   have z6:=hb6.size
   have z5:=hk5.size
   rw[hst k (by omega),hk5.block k (by omega) (HH.out.gF k hk),hb6.block k hkl]
  have hown5:((X2.alloc (recObj name g7 c7 ts rs g sa R.length sc)).alloc (.cells #[.pointer (some ⟨X2.heap.size,0,none⟩)] 109)).ownsRow 0 109 1 (.slice a Ts.length cap) Ts.length (bs.map tabV):=by
   have:=hown4
   unfold OwnC at this
   rwa [List.length_map,HH.out.set.len]at this
  have hs4:((X2.alloc (recObj name g7 c7 ts rs g sa R.length sc)).alloc (.cells #[.pointer (some ⟨X2.heap.size,0,none⟩)] 109)).heap[s]?=some (.cells #[.pointer (some ⟨d,0,none⟩),.slice a Ts.length cap] 112 (0,0)):=by
   have hsl:=lt_of_heap HH.out.set.cells
   have z6:=hb6.size
   have z5:=hk5.size
   rw[hst s (by omega),hk5.block s (by omega) HH.out.sF,hb6.block s hsl]
   exact HH.out.set.cells
  have hb4n:((X2.alloc (recObj name g7 c7 ts rs g sa R.length sc)).alloc (.cells #[.pointer (some ⟨X2.heap.size,0,none⟩)] 109)).heap[X2.heap.size+1]?=some (.cells #[.pointer (some ⟨X2.heap.size,0,none⟩)] 109 (0,0)):=by
   have:=heap_alloc_new (X2.alloc (recObj name g7 c7 ts rs g sa R.length sc)) (.cells #[.pointer (some ⟨X2.heap.size,0,none⟩)] 109)
   rwa [World.size_alloc]at this
  refine step_append_lies ((X2.alloc (recObj name g7 c7 ts rs g sa R.length sc)).alloc (.cells #[.pointer (some ⟨X2.heap.size,0,none⟩)] 109)) rfl (.tmp 73) (.tmp 87) 110 rfl 0 109 i0 (.pointer none) 1 8 Tryz.underlying110 hi0 hz0 hz1 hz2 rfl (by decide) (.slice a Ts.length cap) Ts.length (bs.map tabV) rfl hown5 ⟨X2.heap.size+1,0,none⟩ 1 1 [tabV X2.heap.size] rfl rfl (fun j u hu=>World.news_of_block hb4n j u (by simpa [tabV] using hu)) (fun u hu=>by simp at hu;subst hu;rfl) (by decide) (by unfold maxLen;omega) (by omega) (Nat.zero_le _) (X2.heap.size+2) (by simp) (fun g9 cap9 X5 ho9 hg9 hat9 hl9=>?_)
  have z9:=hg9.size
  have hne9:(Value.slice a Ts.length cap).ownBlock≠some s:=fun e=>(HH.out.set.gF s e).2 rfl
  have hnw9:(Value.slice a Ts.length cap).ownBlock≠some w.heap.size:=fun e=>Nat.lt_irrefl _ (own_block_ge HH.out.set.own e)
  have hs5:X5.heap[s]?=some (.cells #[.pointer (some ⟨d,0,none⟩),.slice a Ts.length cap] 112 (0,0)):=(hg9.block s (lt_of_heap hs4) (Ne.symm hne9)).trans hs4
  have hw5:X5.heap[w.heap.size]?=((X2.alloc (recObj name g7 c7 ts rs g sa R.length sc)).alloc (.cells #[.pointer (some ⟨X2.heap.size,0,none⟩)] 109)).heap[w.heap.size]?:=hg9.block w.heap.size (lt_of_cell hH.1) (Ne.symm hnw9)
  have hcw:∀ o:Nat,X5.cell? ⟨w.heap.size,o,none⟩=((X2.alloc (recObj name g7 c7 ts rs g sa R.length sc)).alloc (.cells #[.pointer (some ⟨X2.heap.size,0,none⟩)] 109)).cell? ⟨w.heap.size,o,none⟩:=fun o=>by simp only[World.cell?,hw5]
  have hsw:s≠w.heap.size:=fun e=>by have:=lt_of_heap HH.out.set.cells;omega
  refine hK.out _ _ ⟨(hcw 0).trans hH.1,(hcw 1).trans hH.2.1,(hcw 2).trans hH.2.2⟩ (fun hH=>?_)
  clear hK K hcw hw5 hown4 hst
  have s5:X5.cell? ⟨s,1,none⟩=some (.slice a Ts.length cap):=by simp[World.cell?,hs5]
  have f5:X5.frozen? ⟨s,1,none⟩=false:=by simp[World.frozen?,hs5]
  simp only[Act.put,List.getElem_toArray,List.getElem_cons_zero,List.getElem_cons_succ,List.setIfInBounds_toArray,List.set_cons_zero,List.set_cons_succ]
  refine tkj 20 rfl hH ?_
  refine tkj 21 rfl hH ?_
  refine tkn ?_
  refine tkr 22 rfl fun K hK=>?_
  go_simp
  have hcs:∀ o:Nat,(X5.setCell ⟨s,1,none⟩ (.slice (some ⟨g9,0,none⟩) (Ts.length+1) cap9)).cell? ⟨w.heap.size,o,none⟩=X5.cell? ⟨w.heap.size,o,none⟩:=fun o=>World.cell?_setCell_other _ _ _ _ (by intro e;injection e with e1;exact absurd e1 (by omega))
  refine hK.out _ _ ⟨(hcs 0).trans hH.1,(hcs 1).trans hH.2.1,(hcs 2).trans hH.2.2⟩ (fun hH=>?_)
  clear hK K hcs
  refine wpAnyH_done (by kernel_rfl) ?_ _
  clear hH s5 f5
  have hfin:LoadOk w s d F G D Ts (.slice a Ts.length cap) bs name ts rs g T (X5.setCell ⟨s,1,none⟩ (.slice (some ⟨g9,0,none⟩) (Ts.length+1) cap9)):=by
   obtain rfl:=HR.out
   refine load_done HH.out hb6 hk5 hd5 hf5 hl5 HSG.out hsc hb7 (Nat.le_trans z1 hg7) hg7l HI7.out (sv':=.slice (some ⟨g9,0,none⟩) (Ts.length+1) cap9) ?_ hg9 (by rcases hat9 with e|e;exact .inl (by rw[e];rfl);exact .inr (by rw[e];rfl))
   unfold OwnC
   rw[List.length_append,List.length_map,HH.out.set.len]
   exact ho9
  have HFIN:Hid (LoadOk w s d F G D Ts (.slice a Ts.length cap) bs name ts rs g T (X5.setCell ⟨s,1,none⟩ (.slice (some ⟨g9,0,none⟩) (Ts.length+1) cap9))):=hfin
  clear hfin
  generalize X5.setCell ⟨s,1,none⟩ (.slice (some ⟨g9,0,none⟩) (Ts.length+1) cap9)=X6 at *
  go_wp2
  go_ret
  exact⟨rfl,HFIN.out⟩
 go_simp
 have hx3:Below X2.heap.size X2 (X2.alloc (recObj name g7 c7 ts rs g sa R.length sc)):=(Below.refl _ _).alloc (Nat.le_refl _) _
 have s3:=cell_below hx3 s2
 refine hK.out _ _ ⟨cell_below hx3 hH.1,cell_below hx3 hH.2.1,cell_below hx3 hH.2.2⟩ (fun hH=>?_)
 clear hK K
 refine wpAnyH_ready (rs:=[4,18]) (by kernel_rfl) (by simp) (AllReadyH.cons rfl (fun K hK=>?_) (AllReadyH.cons rfl (fun K hK=>?_) AllReadyH.nil))
 focus
  go_simp
  refine hK.out _ _ hH (fun hH=>?_)
  clear hK K
  refine tkr 18 rfl fun K hK=>?_
  go_simp
  have hx4:Below (X2.alloc (recObj name g7 c7 ts rs g sa R.length sc)).heap.size (X2.alloc (recObj name g7 c7 ts rs g sa R.length sc)) ((X2.alloc (recObj name g7 c7 ts rs g sa R.length sc)).alloc (.cells #[.pointer (some ⟨X2.heap.size,0,none⟩)] 109)):=(Below.refl _ _).alloc (Nat.le_refl _) _
  have s4:=cell_below hx4 s3
  refine hK.out _ _ ⟨cell_below hx4 hH.1,cell_below hx4 hH.2.1,cell_below hx4 hH.2.2⟩ (fun hH=>?_)
 rotate_left 1
 focus
  go_simp
  have hx4:Below (X2.alloc (recObj name g7 c7 ts rs g sa R.length sc)).heap.size (X2.alloc (recObj name g7 c7 ts rs g sa R.length sc)) ((X2.alloc (recObj name g7 c7 ts rs g sa R.length sc)).alloc (.cells #[.pointer (some ⟨X2.heap.size,0,none⟩)] 109)):=(Below.refl _ _).alloc (Nat.le_refl _) _
  have s4:=cell_below hx4 s3
  refine hK.out _ _ ⟨cell_below hx4 hH.1,cell_below hx4 hH.2.1,cell_below hx4 hH.2.2⟩ (fun hH=>?_)
  clear hK K
  refine tkr 4 rfl fun K hK=>?_
  go_simp
  refine hK.out _ _ hH (fun hH=>?_)
 all_goals
  clear hK K
  refine tkr 19 rfl fun K hK=>?_
  have z1:W5.heap.size≤X1.heap.size:=hx1.size
  have hb7:Below W5.heap.size W5 X2:=below_undrew (below_then hx1 hx2)
  have hst:∀ k,k<W5.heap.size→((X2.alloc (recObj name g7 c7 ts rs g sa R.length sc)).alloc (.cells #[.pointer (some ⟨X2.heap.size,0,none⟩)] 109)).heap[k]?=W5.heap[k]?:=fun k hk=>by
   have z2:=hb7.size
   rw[hx4.block k (by simp;omega),hx3.block k (by omega),hb7.block k hk]
  have hown4:OwnC ((X2.alloc (recObj name g7 c7 ts rs g sa R.length sc)).alloc (.cells #[.pointer (some ⟨X2.heap.size,0,none⟩)] 109)) 0 109 (.slice a Ts.length cap) (bs.map tabV):=own_of_block HH.out.set.own fun k hk=>by
   have hkl:=own_block_ge HH.out.set.own hk
   have z6:=hb6.size
   have z5:=hk5.size
   rw[hst k (by omega),hk5.block k (by omega) (HH.out.gF k hk),hb6.block k hkl]
  have hown5:((X2.alloc (recObj name g7 c7 ts rs g sa R.length sc)).alloc (.cells #[.pointer (some ⟨X2.heap.size,0,none⟩)] 109)).ownsRow 0 109 1 (.slice a Ts.length cap) Ts.length (bs.map tabV):=by
   have:=hown4
   unfold OwnC at this
   rwa [List.length_map,HH.out.set.len]at this
  have hs4:((X2.alloc (recObj name g7 c7 ts rs g sa R.length sc)).alloc (.cells #[.pointer (some ⟨X2.heap.size,0,none⟩)] 109)).heap[s]?=some (.cells #[.pointer (some ⟨d,0,none⟩),.slice a Ts.length cap] 112 (0,0)):=by
   have hsl:=lt_of_heap HH.out.set.cells
   have z6:=hb6.size
   have z5:=hk5.size
   rw[hst s (by omega),hk5.block s (by omega) HH.out.sF,hb6.block s hsl]
   exact HH.out.set.cells
  have hb4n:((X2.alloc (recObj name g7 c7 ts rs g sa R.length sc)).alloc (.cells #[.pointer (some ⟨X2.heap.size,0,none⟩)] 109)).heap[X2.heap.size+1]?=some (.cells #[.pointer (some ⟨X2.heap.size,0,none⟩)] 109 (0,0)):=by
   have:=heap_alloc_new (X2.alloc (recObj name g7 c7 ts rs g sa R.length sc)) (.cells #[.pointer (some ⟨X2.heap.size,0,none⟩)] 109)
   rwa [World.size_alloc]at this
  refine step_append_lies ((X2.alloc (recObj name g7 c7 ts rs g sa R.length sc)).alloc (.cells #[.pointer (some ⟨X2.heap.size,0,none⟩)] 109)) rfl (.tmp 73) (.tmp 87) 110 rfl 0 109 i0 (.pointer none) 1 8 Tryz.underlying110 hi0 hz0 hz1 hz2 rfl (by decide) (.slice a Ts.length cap) Ts.length (bs.map tabV) rfl hown5 ⟨X2.heap.size+1,0,none⟩ 1 1 [tabV X2.heap.size] rfl rfl (fun j u hu=>World.news_of_block hb4n j u (by simpa [tabV] using hu)) (fun u hu=>by simp at hu;subst hu;rfl) (by decide) (by unfold maxLen;omega) (by omega) (Nat.zero_le _) (X2.heap.size+2) (by simp) (fun g9 cap9 X5 ho9 hg9 hat9 hl9=>?_)
  have z9:=hg9.size
  have hne9:(Value.slice a Ts.length cap).ownBlock≠some s:=fun e=>(HH.out.set.gF s e).2 rfl
  have hnw9:(Value.slice a Ts.length cap).ownBlock≠some w.heap.size:=fun e=>Nat.lt_irrefl _ (own_block_ge HH.out.set.own e)
  have hs5:X5.heap[s]?=some (.cells #[.pointer (some ⟨d,0,none⟩),.slice a Ts.length cap] 112 (0,0)):=(hg9.block s (lt_of_heap hs4) (Ne.symm hne9)).trans hs4
  have hw5:X5.heap[w.heap.size]?=((X2.alloc (recObj name g7 c7 ts rs g sa R.length sc)).alloc (.cells #[.pointer (some ⟨X2.heap.size,0,none⟩)] 109)).heap[w.heap.size]?:=hg9.block w.heap.size (lt_of_cell hH.1) (Ne.symm hnw9)
  have hcw:∀ o:Nat,X5.cell? ⟨w.heap.size,o,none⟩=((X2.alloc (recObj name g7 c7 ts rs g sa R.length sc)).alloc (.cells #[.pointer (some ⟨X2.heap.size,0,none⟩)] 109)).cell? ⟨w.heap.size,o,none⟩:=fun o=>by simp only[World.cell?,hw5]
  have hsw:s≠w.heap.size:=fun e=>by have:=lt_of_heap HH.out.set.cells;omega
  refine hK.out _ _ ⟨(hcw 0).trans hH.1,(hcw 1).trans hH.2.1,(hcw 2).trans hH.2.2⟩ (fun hH=>?_)
  clear hK K hcw hw5 hown4 hst
  have s5:X5.cell? ⟨s,1,none⟩=some (.slice a Ts.length cap):=by simp[World.cell?,hs5]
  have f5:X5.frozen? ⟨s,1,none⟩=false:=by simp[World.frozen?,hs5]
  simp only[Act.put,List.getElem_toArray,List.getElem_cons_zero,List.getElem_cons_succ,List.setIfInBounds_toArray,List.set_cons_zero,List.set_cons_succ]
  refine tkj 20 rfl hH ?_
  refine tkj 21 rfl hH ?_
  refine tkn ?_
  refine tkr 22 rfl fun K hK=>?_
  go_simp
  have hcs:∀ o:Nat,(X5.setCell ⟨s,1,none⟩ (.slice (some ⟨g9,0,none⟩) (Ts.length+1) cap9)).cell? ⟨w.heap.size,o,none⟩=X5.cell? ⟨w.heap.size,o,none⟩:=fun o=>World.cell?_setCell_other _ _ _ _ (by intro e;injection e with e1;exact absurd e1 (by omega))
  refine hK.out _ _ ⟨(hcs 0).trans hH.1,(hcs 1).trans hH.2.1,(hcs 2).trans hH.2.2⟩ (fun hH=>?_)
  clear hK K hcs
  refine wpAnyH_done (by kernel_rfl) ?_ _
  clear hH s5 f5
  have hfin:LoadOk w s d F G D Ts (.slice a Ts.length cap) bs name ts rs g T (X5.setCell ⟨s,1,none⟩ (.slice (some ⟨g9,0,none⟩) (Ts.length+1) cap9)):=by
   obtain rfl:=HR.out
   refine load_done HH.out hb6 hk5 hd5 hf5 hl5 HSG.out hsc hb7 (Nat.le_trans z1 hg7) hg7l HI7.out (sv':=.slice (some ⟨g9,0,none⟩) (Ts.length+1) cap9) ?_ hg9 (by rcases hat9 with e|e;exact .inl (by rw[e];rfl);exact .inr (by rw[e];rfl))
   unfold OwnC
   rw[List.length_append,List.length_map,HH.out.set.len]
   exact ho9
  have HFIN:Hid (LoadOk w s d F G D Ts (.slice a Ts.length cap) bs name ts rs g T (X5.setCell ⟨s,1,none⟩ (.slice (some ⟨g9,0,none⟩) (Ts.length+1) cap9))):=hfin
  clear hfin
  generalize X5.setCell ⟨s,1,none⟩ (.slice (some ⟨g9,0,none⟩) (Ts.length+1) cap9)=X6 at *
  go_wp2
  go_ret
  exact⟨rfl,HFIN.out⟩
def StoreAt (w:World)(st d s:Nat):Prop:=w.heap[st]?=some (.cells #[.pointer (some ⟨d,0,none⟩),.pointer (some ⟨s,0,none⟩)] 77 (0,0))
theorem StoreAt.field {w:World}{st d s:Nat}(h:StoreAt w st d s):w.cell? ⟨st,0,none⟩=some (.pointer (some ⟨d,0,none⟩))∧w.cell? ⟨st,1,none⟩=some (.pointer (some ⟨s,0,none⟩)):=by
 unfold StoreAt at h
 simp[World.cell?,h]
theorem Used_any (st:Nat)(w:World)(F:Nat→Prop)(s d:Nat)(D:DS)(hst:StoreAt w st d s)(hd:DiskAt w F d D) :
  Calls Tryz.prog 10 #[.pointer (some ⟨st,0,none⟩)] w fun e w'=>e=.returned (.int .i64 ((usedOf D.pages:Nat):Int))∧w'=w:=by
 obtain⟨c0,_⟩:=hst.field
 have hn:=dUsed_any d w F D hd
 clear hd hst
 go_enter Tryz.func10,Tryz.ntmps10
 go_wp2_with (go_at_call 19;refine hn.mono ?_;rintro e W1 ⟨rfl,rfl⟩)
 go_ret
 exact⟨rfl,rfl⟩
end
section
open Go.RowKit Go.Shelf
theorem set5_other (W:World)(B:Nat)(v0 v1 v2 v3 v4:Value)(k:Nat)(hk:k≠B):(((((W.setCell ⟨B,0,none⟩ v0).setCell ⟨B,1,none⟩ v1).setCell ⟨B,2,none⟩ v2).setCell ⟨B,3,none⟩ v3).setCell ⟨B,4,none⟩ v4).heap[k]?=W.heap[k]?:=by
 rw[Below.heap_setCell _ _ _ _ hk,Below.heap_setCell _ _ _ _ hk,Below.heap_setCell _ _ _ _ hk,Below.heap_setCell _ _ _ _ hk,Below.heap_setCell _ _ _ _ hk]
theorem set5_size (W:World)(B:Nat)(v0 v1 v2 v3 v4:Value):(((((W.setCell ⟨B,0,none⟩ v0).setCell ⟨B,1,none⟩ v1).setCell ⟨B,2,none⟩ v2).setCell ⟨B,3,none⟩ v3).setCell ⟨B,4,none⟩ v4).heap.size=W.heap.size:=by simp[World.setCell]
structure Sto (M:Nat→Prop) (w:World) (st:Nat) (D:DS) (Ts:List TS):Prop where
 ex:∃ (d s:Nat) (F G:Nat→Prop) (sv:Value) (bs:List Nat),StoreAt w st d s∧SetX w G s d Ts sv bs∧DiskAt w F d D∧(∀ k,G k→¬ F k)∧¬ F s∧(∀ g,sv.ownBlock=some g→¬ F g)∧¬ F st∧¬ G st∧st≠s∧sv.ownBlock≠some st∧(∀ k,F k∨G k∨setF s sv k∨k=st→M k)
 lt:∀ k,M k→k<w.heap.size
theorem Sto.stands {M:Nat→Prop}{w w':World}{st:Nat}{D:DS}{Ts:List TS}(h:Sto M w st D Ts)(hs:w.heap.size≤w'.heap.size)(hk:∀ k,M k→w'.heap[k]?=w.heap[k]?):Sto M w' st D Ts:=by
 obtain⟨⟨d,s,F,G,sv,bs,h1,h2,h3,h4,h5,h6,h7,h8,h9,h10,hM⟩,hl⟩:=h
 refine⟨⟨d,s,F,G,sv,bs,?_,h2.stands hs fun k hk' _=>hk k (hM k (hk'.elim (fun a=>.inr (.inl a)) (fun a=>.inr (.inr (.inl a))))),h3.stands fun k hf _=>hk k (hM k (.inl hf)),h4,h5,h6,h7,h8,h9,h10,hM⟩,fun k hk'=>Nat.lt_of_lt_of_le (hl k hk') hs⟩
 unfold StoreAt at h1 ⊢
 rw[hk st (hM st (.inr (.inr (.inr rfl))))]
 exact h1
theorem Sto.below {M:Nat→Prop}{w w':World}{st:Nat}{D:DS}{Ts:List TS}(h:Sto M w st D Ts)(hb:Below w.heap.size w w'):Sto M w' st D Ts:=h.stands hb.size fun k hk=>hb.block k (h.lt k hk)
theorem tNew_any (d:Nat)(w:World):Calls Tryz.prog 29 #[.pointer (some ⟨d,0,none⟩)] w fun e w'=>e=.returned (.pointer (some ⟨w.heap.size,0,none⟩))∧w'=w.alloc (.cells #[.pointer (some ⟨d,0,none⟩),.slice none 0 0] 112):=by
 go_enter Tryz.func29,Tryz.ntmps29
 go_wp2
 go_ret
 exact⟨rfl,rfl⟩
theorem New_any (q f:Int)(w:World) :
  Calls Tryz.prog 16 #[.agg #[.int .i64 q,.int .i64 f]] w fun e w'=>Below w.heap.size w w'∧∃ (st:Nat) (M:Nat→Prop),e=.returned (.pointer (some ⟨st,0,none⟩))∧Sto M w' st (emptyDS q f) []∧(∀ k,M k→w.heap.size≤k):=by
 have hb0:Below w.heap.size w (w.alloc (.cells #[.int .i64 q,.int .i64 f] 35)):=(Below.refl _ w).alloc (Nat.le_refl _) _
 have hD:=dNew_any q f (w.alloc (.cells #[.int .i64 q,.int .i64 f] 35))
 go_enter Tryz.func16,Tryz.ntmps16
 go_wp2_with (first|(go_at_call 28;refine hD.mono ?_;rintro e W1 ⟨d,rfl,hdb,hd1,hb1⟩;have hb2:=below_then hb0 hb1)|(go_at_call 29;refine(tNew_any d W1).mono ?_;rintro e W2 ⟨rfl,rfl⟩))
 go_ret
 have hb3:Below W1.heap.size W1 ((W1.alloc (.cells #[.pointer (some ⟨d,0,none⟩),.slice none 0 0] 112)).alloc (.cells #[.pointer (some ⟨d,0,none⟩),.pointer (some ⟨W1.heap.size,0,none⟩)] 77)):=((Below.refl _ _).alloc (Nat.le_refl _) _).alloc (by simp) _
 have hz:=hb2.size
 have hdl:d<W1.heap.size:=by
  obtain⟨sv,ps,hx⟩:=hd1
  exact lt_of_heap hx.cells
 rw[World.size_alloc]at hdb
 have hn2:=heap_alloc_new (W1.alloc (.cells #[.pointer (some ⟨d,0,none⟩),.slice none 0 0] 112)) (.cells #[.pointer (some ⟨d,0,none⟩),.pointer (some ⟨W1.heap.size,0,none⟩)] 77)
 rw[World.size_alloc]at hn2
 refine⟨below_then hb2 hb3,W1.heap.size+1,fun k=>k=d∨k=W1.heap.size∨k=W1.heap.size+1,rfl,⟨⟨d,W1.heap.size,fun k=>k=d,fun _=>False,.slice none 0 0,[],hn2,?_,hd1.below hb3,by simp,by omega,by simp[Value.ownBlock],by omega,by simp,by omega,by simp[Value.ownBlock],?_⟩,?_⟩,?_⟩
 ·refine⟨?_,OwnC.nil _ _ _,by simp,by simp[Value.ownBlock],rfl,by simp,by simp⟩
  rw[Below.heap_alloc _ _ _ (by simp),heap_alloc_new]
 ·rintro k (h|h|h|h)
  ·exact .inl h
  ·exact h.elim
  ·rcases h with h|h
   ·exact .inr (.inl h)
   simp[Value.ownBlock]at h
  exact .inr (.inr h)
 ·rintro k (h|h|h)<;>subst h<;>simp<;>omega
 rintro k (h|h|h)<;>subst h<;>omega
abbrev zeroFault:Obj:=.cells #[.int .i64 0,.int .i64 0,.int .i64 0,.int .i64 0,.int .i64 0] 52
theorem Load_frame (st s:Nat)(name:ByteArray)(v1 v2:Value)(a1 a2 a3:Option Addr)(n1 c1' n2 c2 n3 c3:Nat)(hv1:v1=.slice a1 n1 c1')(hv2:v2=.slice a2 n2 c2)(g:Int)(w:World)(M1:Nat→Prop)(hM:∀ k,M1 k→k<w.heap.size)(hst:¬ M1 st)(c1:w.cell? ⟨st,1,none⟩=some (.pointer (some ⟨s,0,none⟩)))
  (c nd col pg:Int) (P:World→Prop)
  (hL:Calls Tryz.prog 52 #[.pointer (some ⟨s,0,none⟩),.agg #[.string name,v1,v2],.slice a3 n3 c3,.int .i64 g] ((w.alloc (.cells #[.string name,v1,v2] 40)).alloc zeroFault).drew fun e w'=>∃ ev,e=.returned ev∧Keep M1 ((w.alloc (.cells #[.string name,v1,v2] 40)).alloc zeroFault) w'∧P w'∧Calls Tryz.prog 22 #[ev] w' (fun e w''=>e=.returned (faultN c nd col pg)∧Below w'.heap.size w' w'')) :
  Calls Tryz.prog 31 #[.pointer (some ⟨st,0,none⟩),.agg #[.string name,v1,v2],.slice a3 n3 c3,.int .i64 g] w fun e w'=>e=.returned (faultN c nd col pg)∧∃ w2,P w2∧Keep M1 ((w.alloc (.cells #[.string name,v1,v2] 40)).alloc zeroFault) w2∧Keep (fun k=>k=w.heap.size+1) w2 w':=by
 subst hv1 hv2
 have hb0:Below w.heap.size w ((w.alloc (.cells #[.string name,.slice a1 n1 c1',.slice a2 n2 c2] 40)).alloc zeroFault):=((Below.refl _ w).alloc (Nat.le_refl _) _).alloc (by simp) _
 have d1:=cell_below hb0 c1
 have hstl:st<w.heap.size:=lt_of_cell c1
 have n0:¬ M1 w.heap.size:=fun h=>Nat.lt_irrefl _ (hM _ h)
 have n1':¬ M1 (w.heap.size+1):=fun h=>by have:=hM _ h;omega
 obtain⟨W,hW⟩:∃ W,W=(w.alloc (.cells #[.string name,.slice a1 n1 c1',.slice a2 n2 c2] 40)).alloc zeroFault:=⟨_,rfl⟩
 have q0:W.cell? ⟨w.heap.size,0,none⟩=some (.string name):=by rw[hW,World.cell?_alloc_lt _ _ _ (by simp)];simp
 have q1:W.cell? ⟨w.heap.size,1,none⟩=some (.slice a1 n1 c1'):=by rw[hW,World.cell?_alloc_lt _ _ _ (by simp)];simp
 have q2:W.cell? ⟨w.heap.size,2,none⟩=some (.slice a2 n2 c2):=by rw[hW,World.cell?_alloc_lt _ _ _ (by simp)];simp
 have hk0:W.heap[w.heap.size+1]?=some (.cells #[.int .i64 0,.int .i64 0,.int .i64 0,.int .i64 0,.int .i64 0] 52 (0,0)):=by
  rw[hW]
  have:=heap_alloc_new (w.alloc (.cells #[.string name,.slice a1 n1 c1',.slice a2 n2 c2] 40)) zeroFault
  rwa [World.size_alloc]at this
 have hWz:W.heap.size=w.heap.size+2:=by rw[hW];simp
 rw[←hW]at hL hb0 d1
 clear hM
 go_enter Tryz.func31,Tryz.ntmps31
 go_wp2_with fail
 rw[←hW]
 have HWE:Hid (W=(w.alloc (.cells #[.string name,.slice a1 n1 c1',.slice a2 n2 c2] 40)).alloc zeroFault):=hW
 clear hW
 refine wp_region_held_drew (S:=fun X=>X.cell? ⟨st,1,none⟩=some (.pointer (some ⟨s,0,none⟩))∧X.cell? ⟨w.heap.size,0,none⟩=some (.string name)∧X.cell? ⟨w.heap.size,1,none⟩=some (.slice a1 n1 c1')∧X.cell? ⟨w.heap.size,2,none⟩=some (.slice a2 n2 c2)) (by kernel_rfl) ⟨d1,q0,q1,q2⟩ (fun hH=>?_)
 refine tkj 0 rfl hH ?_
 refine tkj 1 rfl hH ?_
 refine tkj 2 rfl hH ?_
 refine tkj 3 rfl hH ?_
 refine tkj 4 rfl hH ?_
 refine tkj 5 rfl hH ?_
 refine tkj 6 rfl hH ?_
 refine tkn ?_
 refine tkr 7 rfl fun K hK=>?_
 go_simp
 refine hL.mono ?_
 rintro e w2 ⟨ev,rfl,hk,hp,hf⟩
 have HP:Hid (P w2):=hp
 have HF:Hid (Calls Tryz.prog 22 #[ev] w2 (fun e w''=>e=.returned (faultN c nd col pg)∧Below w2.heap.size w2 w'')):=hf
 clear hp hf hL
 go_simp
 refine hK.out _ _ ⟨hk.cell d1 hst,hk.cell q0 n0,hk.cell q1 n0,hk.cell q2 n0⟩ (fun hH=>?_)
 clear hK K
 refine tkr 8 rfl fun K hK=>?_
 go_simp
 refine HF.out.mono ?_
 rintro e w3 ⟨rfl,hb3⟩
 go_simp
 refine hK.out _ _ ⟨cell_below hb3 hH.1,cell_below hb3 hH.2.1,cell_below hb3 hH.2.2.1,cell_below hb3 hH.2.2.2⟩ (fun hH=>?_)
 clear hK K
 have hz2:=hk.size
 have hblk:w3.heap[w.heap.size+1]?=some (.cells #[.int .i64 0,.int .i64 0,.int .i64 0,.int .i64 0,.int .i64 0] 52 (0,0)):=
  (hb3.block _ (by omega)).trans ((hk.block _ (by omega) n1').trans hk0)
 have k0:w3.cell? ⟨w.heap.size+1,0,none⟩=some (.int .i64 0):=by simp[World.cell?,hblk]
 have k1:w3.cell? ⟨w.heap.size+1,1,none⟩=some (.int .i64 0):=by simp[World.cell?,hblk]
 have k2:w3.cell? ⟨w.heap.size+1,2,none⟩=some (.int .i64 0):=by simp[World.cell?,hblk]
 have k3:w3.cell? ⟨w.heap.size+1,3,none⟩=some (.int .i64 0):=by simp[World.cell?,hblk]
 have k4:w3.cell? ⟨w.heap.size+1,4,none⟩=some (.int .i64 0):=by simp[World.cell?,hblk]
 have fz:∀ o:Nat,w3.frozen? ⟨w.heap.size+1,o,none⟩=false:=fun o=>by simp[World.frozen?,hblk]
 have f0:=fz 0
 have f1:=fz 1
 have f2:=fz 2
 have f3:=fz 3
 have f4:=fz 4
 have hk5:=heap_set (heap_set (heap_set (heap_set (heap_set hblk 0 (.int .i64 c)) 1 (.int .i64 nd)) 2 (.int .i64 (-1))) 3 (.int .i64 col)) 4 (.int .i64 pg)
 simp only[List.setIfInBounds_toArray,List.set_cons_zero,List.set_cons_succ]at hk5
 clear hblk fz
 refine tkr 9 rfl fun K hK=>?_
 go_simp
 have hcs:∀ (b o:Nat),b≠w.heap.size+1→(((((w3.setCell ⟨w.heap.size+1,0,none⟩ (.int .i64 c)).setCell ⟨w.heap.size+1,1,none⟩ (.int .i64 nd)).setCell ⟨w.heap.size+1,2,none⟩ (.int .i64 (-1))).setCell ⟨w.heap.size+1,3,none⟩ (.int .i64 col)).setCell ⟨w.heap.size+1,4,none⟩ (.int .i64 pg)).cell? ⟨b,o,none⟩=w3.cell? ⟨b,o,none⟩:=fun b o hb=>by
  simp only[World.cell?,set5_other _ _ _ _ _ _ _ b hb]
 refine hK.out _ _ ⟨(hcs _ _ (by omega)).trans hH.1,(hcs _ _ (by omega)).trans hH.2.1,(hcs _ _ (by omega)).trans hH.2.2.1,(hcs _ _ (by omega)).trans hH.2.2.2⟩ (fun hH=>?_)
 clear hK K hcs hH k0 k1 k2 k3 k4 f0 f1 f2 f3 f4
 refine wpAnyH_done (by kernel_rfl) ?_ _
 go_wp2
 refine bodyPost_ret (v:=faultN c nd col pg) (by simp[results,Tryz.results31,go_sem,faultN,World.cell?,hk5]) rfl ⟨rfl,w2,HP.out,by rw[←HWE.out];exact hk,?_⟩
 exact⟨hb3.os,hb3.tape,hb3.output,by rw[set5_size];exact hb3.size,fun k hk' hn=>(set5_other _ _ _ _ _ _ _ k hn).trans (hb3.block k hk')⟩
end
section
open Go.RowKit Go.Shelf
structure Names (w:World) (a0 a1 a2 tt q wr pg pl ex ta:Addr):Prop where
 e:Errs w a0 a1 a2
 m:More w a0 a1 a2 tt q wr pg
 m2:More2 w [a0,a1,a2,tt,q,wr,pg] pl ex
 c:w.cell? ⟨12,0,none⟩=some (.iface 284 (.pointer (some ta)))
 b:∃ c t,w.heap[ta.block]?=some (.cells c t (0,0))
 n:ta∉[a0,a1,a2,tt,q,wr,pg,pl,ex]
 m3:∃ dv ov gv mn,More3 w [ex,pl,a0,a1,a2,tt,q,wr,pg] dv ov gv mn∧ta∉[dv,ov,gv,mn]
theorem Names.below {w w':World}{a0 a1 a2 tt q wr pg pl ex ta:Addr}(h:Names w a0 a1 a2 tt q wr pg pl ex ta)(hb:Below w.heap.size w w'):Names w' a0 a1 a2 tt q wr pg pl ex ta:=
 ⟨h.e.below hb,h.m.below hb,h.m2.below hb,cell_below hb h.c,heap_below hb h.b,h.n,by obtain⟨dv,ov,gv,mn,h3,h4⟩:=h.m3;exact⟨dv,ov,gv,mn,h3.below hb,h4⟩⟩
abbrev LoadR:Type:=Unit⊕(Unit⊕(Nat⊕((Bool×DS)⊕(DS×TS))))
abbrev LoadR.arg:LoadR:=.inl ()
abbrev LoadR.table:LoadR:=.inr (.inl ())
abbrev LoadR.dict (c:Nat):LoadR:=.inr (.inr (.inl c))
abbrev LoadR.disk (x:Bool)(D:DS):LoadR:=.inr (.inr (.inr (.inl (x,D))))
abbrev LoadR.ok (D:DS)(T:TS):LoadR:=.inr (.inr (.inr (.inr (D,T))))
def LoadR.fault:LoadR→Value
 |.inl _=>faultAt 1 (-1) (-1)
 |.inr (.inl _)=>faultAt 4 (-1) (-1)
 |.inr (.inr (.inl c))=>faultAt 2 (c:Int) (-1)
 |.inr (.inr (.inr (.inl x)))=>faultAt (if x.1 then 5 else 6) (-1) (-1)
 |.inr (.inr (.inr (.inr _)))=>faultAt 0 (-1) (-1)
def LoadR.d (D:DS):LoadR→DS
 |.inr (.inr (.inr (.inl x)))=>x.2
 |.inr (.inr (.inr (.inr x)))=>x.1
 |_=>D
def LoadR.ts (Ts:List TS):LoadR→List TS
 |.inr (.inr (.inr (.inr x)))=>Ts++[x.2]
 |_=>Ts
def goodD (name:ByteArray)(ts hs:List Int)(rs:List (List V))(g:Int):Decidable (isTab name ts rs∧waysOk ts hs∧1≤g∧g≤64):=by
 unfold isTab waysOk
 infer_instance
def loadR (D:DS)(Ts:List TS)(name:ByteArray)(ts hs:List Int)(rs:List (List V))(g:Int):LoadR:=
 @ite _ (isTab name ts rs∧waysOk ts hs∧1≤g∧g≤64) (goodD name ts hs rs g)
  (if findI Ts name<Ts.length∨6≤Ts.length then .table
  else match packF rs ts hs (cks rs.length g.toNat (ckN rs.length g.toNat))with
   |.inr c=>.dict c
   |.inl T=>match (layAll D T).2.2 with
    |some x=>.disk x (relAll (layAll D T).1 (layAll D T).2.1)
    |none=>.ok (layAll D T).1 ⟨name,ts,rs.length,g.toNat,(layAll D T).2.1⟩)
  .arg
theorem keep_join {M M1:Nat→Prop}{w W w2 w':World}{j:Nat}(hb:Below w.heap.size w W)(hk:Keep M1 W w2)(hk2:Keep (fun k=>k=j) w2 w')(hj:w.heap.size≤j)(h1:∀ k,M1 k→M k):Keep M w w':=by
 have z1:=hb.size
 have z2:=hk.size
 have z3:=hk2.size
 refine⟨(hk2.os.trans hk.os).trans hb.os,(hk2.tape.trans hk.tape).trans hb.tape,(hk2.output.trans hk.output).trans hb.output,by omega,fun k hk' hn=>?_⟩
 exact(hk2.block k (by omega) (by omega)).trans ((hk.block k (by omega) fun h=>hn (h1 k h)).trans (hb.block k hk'))
def SLoadPost (M:Nat→Prop)(w:World)(st:Nat)(D:DS)(Ts:List TS)(r:LoadR)(e:Ending)(w':World):Prop:=
 e=.returned r.fault∧Keep M w w'∧∃ M':Nat→Prop,Sto M' w' st (r.d D) (r.ts Ts)∧(∀ k,M k→M' k)∧(∀ k,M' k→M k∨w.heap.size≤k)
theorem sload_same {M:Nat→Prop}{w W w2 w':World}{st:Nat}{D:DS}{Ts:List TS}(h:Sto M w st D Ts)(hb:Below w.heap.size w W)(hb2:Below W.heap.size W w2)(hk2:Keep (fun k=>k=w.heap.size+1) w2 w')(r:LoadR)(hd:r.d D=D)(ht:r.ts Ts=Ts)(e:Ending)(he:e=.returned r.fault):SLoadPost M w st D Ts r e w':=by
 have z1:=hb.size
 have z2:=hb2.size
 have z3:=hk2.size
 refine⟨he,keep_join hb (Keep.of_below (F:=fun _=>False) hb2) hk2 (by omega) (fun _ h=>h.elim),M,?_,fun k hk=>hk,fun k hk=>.inl hk⟩
 rw[hd,ht]
 refine h.stands (by omega) fun k hk=>?_
 have:=h.lt k hk
 exact(hk2.block k (by omega) (by omega)).trans ((hb2.block k (by omega)).trans (hb.block k this))
theorem Load_good (M:Nat→Prop)(st:Nat)(D:DS)(Ts:List TS)(name:ByteArray)(at_ ar ah:Option Addr)(ct cr ch:Nat)(ts hs:List Int)(xs:List (Option Addr×Nat))(rs:List (List V))(g:Int)(w:World)(h:Sto M w st D Ts)(hA:ArgAt w name at_ ar ah cr ts hs xs rs)(hAM:∀ b o,at_=some ⟨b,o,none⟩→¬ M b)(hsm:D.pages.length≤660000)
  (a0 a1 a2 tt q wr pg pl ex ta:Addr) (w0:World) (hN0:Names w0 a0 a1 a2 tt q wr pg pl ex ta) (hb00:Below w0.heap.size w0 w) (hMB:∀ k,M k→w0.heap.size≤k) (hWC:∀ x∈hs,WayP x) (hr0:∃ E T,loadR D Ts name ts hs rs g=.ok E T) :
  Calls Tryz.prog 31 #[.pointer (some ⟨st,0,none⟩),tabArg name at_ ar ct cr ts rs,.slice ah hs.length ch,.int .i64 g] w fun e w'=>SLoadPost M w st D Ts (loadR D Ts name ts hs rs g) e w':=by
 have hS:=h
 have hN:=hN0.below hb00
 have hMq:¬ M 4:=fun hm=>by have h1:=hMB _ hm;have h2:=lt_of_cell hN0.m.cq;simp only at h2;omega
 have hMw:¬ M 5:=fun hm=>by have h1:=hMB _ hm;have h2:=lt_of_cell hN0.m.cw;simp only at h2;omega
 obtain⟨⟨d,s,F,G,sv,bs,h1,h2,h3,h4,h5,h6,h7,h8,h9,h10,hM⟩,hlt⟩:=h
 obtain⟨W,hW⟩:∃ W,W=(w.alloc (tabObj name at_ ar ct cr ts rs)).alloc zeroFault:=⟨_,rfl⟩
 have hb0:Below w.heap.size w W:=by rw[hW];exact((Below.refl _ w).alloc (Nat.le_refl _) _).alloc (by simp) _
 have hbd:Below w.heap.size w W.drew:=⟨hb0.os,hb0.tape,hb0.output,hb0.size,hb0.block⟩
 have hWz:W.heap.size=w.heap.size+2:=by rw[hW];simp
 have hNd:=hN.below hbd
 have hAd:=hA.below hbd
 obtain⟨n1,n2,n3,n4,n5,n6,n7⟩:=codeAt_names hN.m
 have fr:=fun (M1:Nat→Prop) (hM1:∀ k,M1 k→k<w.heap.size) (hst:¬ M1 st) (c nd col pgv:Int) (P:World→Prop) hL=>Load_frame st s name (.slice at_ ts.length ct) (.slice ar rs.length cr) at_ ar ah ts.length ct rs.length cr hs.length ch rfl rfl g w M1 hM1 hst h1.field.2 c nd col pgv P hL
 have hW':(w.alloc (.cells #[.string name,.slice at_ ts.length ct,.slice ar rs.length cr] 40)).alloc zeroFault=W:=hW.symm
 rw[hW']at fr
 obtain⟨hgood,hth,T,hp,hx⟩:(isTab name ts rs∧waysOk ts hs∧1≤g∧g≤64)∧¬ (findI Ts name<Ts.length∨6≤Ts.length)∧∃ T,packF rs ts hs (cks rs.length g.toNat (ckN rs.length g.toNat))=.inl T∧(layAll D T).2.2=none:=by
  obtain⟨E,T',hr0⟩:=hr0
  unfold loadR at hr0
  by_cases hgood:isTab name ts rs∧waysOk ts hs∧1≤g∧g≤64
  ·rw[if_pos hgood]at hr0
   by_cases hth:findI Ts name<Ts.length∨6≤Ts.length
   ·rw[if_pos hth]at hr0
    cases hr0
   rw[if_neg hth]at hr0
   rcases hp:packF rs ts hs (cks rs.length g.toNat (ckN rs.length g.toNat))with T|c
   ·rw[hp]at hr0
    cases hx:(layAll D T).2.2 with
    |some x=>
     simp only[hx]at hr0
     cases hr0
    |none=>exact⟨hgood,hth,T,rfl,hx⟩
   rw[hp]at hr0
   cases hr0
  rw[if_neg hgood]at hr0
  cases hr0
 have hg:((g.toNat:Nat):Int)=g:=by omega
 have hin:LoadIn W.drew s d F G D Ts sv bs name at_ ar ah cr ts hs xs rs g.toNat:=
  ⟨hAd,hgood.1,hgood.2.1,by omega,by omega,h2.below hbd,fun hf=>hth (.inl hf),by omega,h3.below hbd,fun k hk=>Nat.lt_of_lt_of_le (hlt k (hM k (hk.elim .inl fun a=>.inr (.inl a)))) hbd.size,h4,h5,h6,fun b o hb hf=>hAM b o hb (hM b (.inl hf)),hsm,hWC⟩
 have hLq:=hNd.m.cq
 have hLw:=hNd.m.cw
 have hFq:¬ F 4:=fun hf=>hMq (hM _ (.inl hf))
 have hFw:¬ F 5:=fun hf=>hMw (hM _ (.inl hf))
 have hr:loadR D Ts name ts hs rs g=.ok (layAll D T).1 ⟨name,ts,rs.length,g.toNat,(layAll D T).2.1⟩:=by unfold loadR;rw[if_pos hgood,if_neg hth,hp];simp only;rw[hx]
 rw[hr]
 have hL:=tLoad_ok s d F G D Ts sv bs name at_ ar ah ct cr ch ts hs xs rs g.toNat W.drew hin a0 a1 a2 hNd.e T hp q wr hLq hLw hFq hFw hx
 rw[hg]at hL
 have hz0:=hb0.size
 have hM1:∀ k,F k∨setF s sv k→M k:=fun k hk=>hk.elim (fun a=>hM k (.inl a)) fun a=>hM k (.inr (.inr (.inl a)))
 have hst1:¬ (F st∨setF s sv st):=fun h=>h.elim h7 fun a=>a.elim h9 h10
 refine(fr (fun k=>F k∨setF s sv k) (fun k hk=>hlt k (hM1 k hk)) hst1 0 (-1) (-1) (-1) (fun w2=>LoadOk W.drew s d F G D Ts sv bs name ts rs g.toNat T w2) (hL.mono fun e w2 ⟨he,hk⟩=>⟨_,he,⟨hk.1.os,hk.1.tape,hk.1.output,hk.1.size,hk.1.block⟩,hk,fault_nil w2⟩)).mono fun e w' ⟨he,w2,⟨_,FD,G',sv',tb,hd2,hs2,hf2,hg2,hl2,ha2,hsF2,hvF2,hv2⟩,hk,hk2⟩=>⟨he,keep_join hb0 hk hk2 (by omega) hM1,fun k=>M k∨FD k∨G' k∨setF s sv' k,?_,fun k hk=>.inl hk,?_⟩
 ·have hkF:Keep (fun k=>F k∨setF s sv k) w w':=keep_join hb0 hk hk2 (by omega) (fun _ h=>h)
  have hstl:st<w.heap.size:=hlt st (hM st (.inr (.inr (.inr rfl))))
  have hGl:∀ k,G k→k<w.heap.size:=fun k hg'=>hlt k (hM k (.inr (.inl hg')))
  have hsl:∀ k,setF s sv k→k<w.heap.size:=fun k hs'=>hlt k (hM k (.inr (.inr (.inl hs'))))
  have hFl:∀ k,F k→k<w.heap.size:=fun k hf=>hlt k (hM k (.inl hf))
  have hWd:W.drew.heap.size=w.heap.size+2:=hWz
  have nF:∀ k,FD k→k≠w.heap.size+1:=fun k hf e=>by
   rcases hf2 k hf with a|a
   ·have:=hFl k a;omega
   omega
  have nG:∀ k,G' k→k≠w.heap.size+1:=fun k hf e=>by
   rcases hg2 k hf with a|a
   ·have:=hGl k a;omega
   omega
  have nS:∀ k,setF s sv' k→k≠w.heap.size+1:=fun k hs' e=>by
   rcases hs' with a|a
   ·have:=hsl s (.inl rfl);omega
   rcases hv2 k a with b|b
   ·have:=hsl k (.inr b);omega
   omega
  refine⟨⟨d,s,FD,G',sv',bs++[tb],?_,hs2.stands hk2.size fun k hk' hl=>hk2.block k hl (hk'.elim (nG k) (nS k)),hd2.stands fun k hf hl=>hk2.block k hl (nF k hf),ha2,hsF2,hvF2,fun hf=>?_,fun hg'=>?_,h9,fun hv'=>?_,?_⟩,?_⟩
  ·unfold StoreAt at h1 ⊢
   rw[hkF.block st hstl hst1]
   exact h1
  ·rcases hf2 st hf with a|a
   ·exact h7 a
   omega
  ·rcases hg2 st hg' with a|a
   ·exact h8 a
   omega
  ·rcases hv2 st hv' with a|a
   ·exact h10 a
   omega
  ·rintro k (a|a|a|a)
   ·exact .inr (.inl a)
   ·exact .inr (.inr (.inl a))
   ·exact .inr (.inr (.inr a))
   exact .inl (hM k (.inr (.inr (.inr a))))
  have z3:=hk2.size
  have z4:=hkF.size
  rintro k (a|a|a|a)
  ·have:=hlt k a;omega
  ·have:=hl2 k (.inl a);omega
  ·have:=hl2 k (.inr a);omega
  rcases a with a|a
  ·have:=hsl s (.inl rfl);omega
  have:=own_block_ge hs2.own a;omega
 have hWd:W.drew.heap.size=w.heap.size+2:=hWz
 rintro k (a|a|a|a)
 ·exact .inl a
 ·rcases hf2 k a with b|b
  ·exact .inl (hM k (.inl b))
  exact .inr (by omega)
 ·rcases hg2 k a with b|b
  ·exact .inl (hM k (.inr (.inl b)))
  exact .inr (by omega)
 rcases a with a|a
 ·exact .inl (hM k (.inr (.inr (.inl (.inl a)))))
 rcases hv2 k a with b|b
 ·exact .inl (hM k (.inr (.inr (.inl (.inr b)))))
 exact .inr (by omega)
theorem Load_any (M:Nat→Prop)(st:Nat)(D:DS)(Ts:List TS)(name:ByteArray)(at_ ar ah:Option Addr)(ct cr ch:Nat)(ts hs:List Int)(xs:List (Option Addr×Nat))(rs:List (List V))(g:Int)(w:World)(h:Sto M w st D Ts)(hA:ArgAt w name at_ ar ah cr ts hs xs rs)(hAM:∀ b o,at_=some ⟨b,o,none⟩→¬ M b)(hsm:Ts.length<6→D.pages.length≤660000)
  (a0 a1 a2 tt q wr pg pl ex ta:Addr) (w0:World) (hN0:Names w0 a0 a1 a2 tt q wr pg pl ex ta) (hb00:Below w0.heap.size w0 w) (hMB:∀ k,M k→w0.heap.size≤k) :
  Calls Tryz.prog 31 #[.pointer (some ⟨st,0,none⟩),tabArg name at_ ar ct cr ts rs,.slice ah hs.length ch,.int .i64 g] w fun e w'=>SLoadPost M w st D Ts (loadR D Ts name ts hs rs g) e w':=by
 have hS:=h
 have hN:=hN0.below hb00
 have hMq:¬ M 4:=fun hm=>by have h1:=hMB _ hm;have h2:=lt_of_cell hN0.m.cq;simp only at h2;omega
 have hMw:¬ M 5:=fun hm=>by have h1:=hMB _ hm;have h2:=lt_of_cell hN0.m.cw;simp only at h2;omega
 obtain⟨⟨d,s,F,G,sv,bs,h1,h2,h3,h4,h5,h6,h7,h8,h9,h10,hM⟩,hlt⟩:=h
 obtain⟨W,hW⟩:∃ W,W=(w.alloc (tabObj name at_ ar ct cr ts rs)).alloc zeroFault:=⟨_,rfl⟩
 have hb0:Below w.heap.size w W:=by rw[hW];exact((Below.refl _ w).alloc (Nat.le_refl _) _).alloc (by simp) _
 have hbd:Below w.heap.size w W.drew:=⟨hb0.os,hb0.tape,hb0.output,hb0.size,hb0.block⟩
 have hWz:W.heap.size=w.heap.size+2:=by rw[hW];simp
 have hNd:=hN.below hbd
 have hAd:=hA.below hbd
 obtain⟨n1,n2,n3,n4,n5,n6,n7⟩:=codeAt_names hN.m
 have fr:=fun (M1:Nat→Prop) (hM1:∀ k,M1 k→k<w.heap.size) (hst:¬ M1 st) (c nd col pgv:Int) (P:World→Prop) hL=>Load_frame st s name (.slice at_ ts.length ct) (.slice ar rs.length cr) at_ ar ah ts.length ct rs.length cr hs.length ch rfl rfl g w M1 hM1 hst h1.field.2 c nd col pgv P hL
 have hW':(w.alloc (.cells #[.string name,.slice at_ ts.length ct,.slice ar rs.length cr] 40)).alloc zeroFault=W:=hW.symm
 rw[hW']at fr
 by_cases hgood:isTab name ts rs∧waysOk ts hs∧1≤g∧g≤64
 ·by_cases hth:findI Ts name<Ts.length∨6≤Ts.length
  ·have hr:loadR D Ts name ts hs rs g=.table:=by unfold loadR;rw[if_pos hgood,if_pos hth]
   rw[hr]
   have hL:=tLoad_table s d name at_ ar ah ct cr ch ts hs xs rs g W.drew hAd hgood G Ts sv bs (h2.below hbd) tt hNd.m.ct hth
   refine(fr (fun _=>False) (fun _ h=>h.elim) id 4 (-1) (-1) (-1) (fun w2=>Below W.heap.size W w2) (hL.mono fun e w2 ⟨he,hb2⟩=>⟨_,he,Keep.of_below (below_undrew hb2),below_undrew hb2,?_⟩)).mono fun e w' ⟨he,w2,hp,_,hk2⟩=>sload_same hS hb0 hp hk2 _ rfl rfl e he
   have hN2:=hNd.below hb2
   have:=faultOf_any _ tt none none w2 (.root tt) hN2.m.bt a0 a1 a2 tt q wr pg (by simp) hN2.e hN2.m
   rw[n4]at this
   exact this
  have hg:((g.toNat:Nat):Int)=g:=by omega
  have hin:LoadIn W.drew s d F G D Ts sv bs name at_ ar ah cr ts hs xs rs g.toNat:=
   ⟨hAd,hgood.1,hgood.2.1,by omega,by omega,h2.below hbd,fun hf=>hth (.inl hf),by omega,h3.below hbd,fun k hk=>Nat.lt_of_lt_of_le (hlt k (hM k (hk.elim .inl fun a=>.inr (.inl a)))) hbd.size,h4,h5,h6,fun b o hb hf=>hAM b o hb (hM b (.inl hf)),hsm (by omega),fun x _=>wayP_any x⟩
  rcases hp:packF rs ts hs (cks rs.length g.toNat (ckN rs.length g.toNat))with T|c
  ·have hLq:=hNd.m.cq
   have hLw:=hNd.m.cw
   have hFq:¬ F 4:=fun hf=>hMq (hM _ (.inl hf))
   have hFw:¬ F 5:=fun hf=>hMw (hM _ (.inl hf))
   cases hx:(layAll D T).2.2 with
   |some x=>
    have hr:loadR D Ts name ts hs rs g=.disk x (relAll (layAll D T).1 (layAll D T).2.1):=by unfold loadR;rw[if_pos hgood,if_neg hth,hp];simp only;rw[hx]
    rw[hr]
    have hL:=tLoad_disk s d F G D Ts sv bs name at_ ar ah ct cr ch ts hs xs rs g.toNat W.drew hin a0 a1 a2 hNd.e T hp q wr hLq hLw hFq hFw x hx
    rw[hg]at hL
    have hz0:=hb0.size
    have hnm:∀ w2,Keep F W.drew w2→Names w2 a0 a1 a2 tt q wr pg pl ex ta:=fun w2 hk=>hN0.below (hb00.trans ((hbd.mono hb00.size).trans (hk.below (fun k hk' hf=>by have:=hMB k (hM k (.inl hf));omega) (Nat.le_trans hb00.size hbd.size))))
    refine(fr F (fun k hk=>hlt k (hM k (.inl hk))) h7 (if x then 5 else 6) (-1) (-1) (-1) (fun w2=>∃ FD:Nat→Prop,DiskAt w2 FD d (relAll (layAll D T).1 (layAll D T).2.1)∧(∀ k,FD k→F k∨W.heap.size≤k)∧(∀ k,FD k→k<w2.heap.size)) (hL.mono fun e w2 ⟨hk,FD,hd2,hf2,hl2,b,he,hch⟩=>⟨_,he,⟨hk.os,hk.tape,hk.output,hk.size,hk.block⟩,⟨FD,hd2,hf2,hl2⟩,?_⟩)).mono fun e w' ⟨he,w2,⟨FD,hd2,hf2,hl2⟩,hk,hk2⟩=>⟨he,keep_join hb0 hk hk2 (by omega) (fun k hk=>hM k (.inl hk)),fun k=>M k∨FD k,?_,fun k hk=>.inl hk,fun k hk=>hk.elim .inl fun hf=>(hf2 k hf).elim (fun a=>.inl (hM k (.inl a))) fun a=>.inr (by omega)⟩
    ·have hN2:=hnm w2 hk
     have hb:∃ c t,w2.heap[(if x then q else wr).block]?=some (.cells c t (0,0)):=by cases x with
      |true=>exact hN2.m.bq
      |false=>exact hN2.m.bw
     have:=faultOf_any _ (if x then q else wr) (some (-1)) (some (-1)) w2 hch hb a0 a1 a2 tt q wr pg (by cases x<;>simp) hN2.e hN2.m
     have hc:codeAt a1 a2 tt q wr pg (if x then q else wr)=if x then 5 else 6:=by cases x with
      |true=>exact n5
      |false=>exact n6
     rw[hc]at this
     exact this
    have hkF:Keep F w w':=keep_join hb0 hk hk2 (by omega) (fun _ h=>h)
    have hstl:st<w.heap.size:=hlt st (hM st (.inr (.inr (.inr rfl))))
    have hFDl:∀ k,k<w.heap.size→FD k→F k:=fun k hk' hf=>(hf2 k hf).resolve_right (by omega)
    have hGl:∀ k,G k→k<w.heap.size:=fun k hg'=>hlt k (hM k (.inr (.inl hg')))
    have hsl:∀ k,setF s sv k→k<w.heap.size:=fun k hs'=>hlt k (hM k (.inr (.inr (.inl hs'))))
    have hnF:∀ k,setF s sv k→¬ F k:=fun k hs'=>hs'.elim (fun a=>by rw[a];exact h5) fun a=>h6 k a
    refine⟨⟨d,s,FD,G,sv,bs,?_,h2.stands hkF.size fun k hk' hl=>hkF.block k hl (hk'.elim (h4 k) (hnF k)),hd2.stands fun k hf hl=>hk2.block k hl fun e=>?_,fun k hg' hf=>h4 k hg' (hFDl k (hGl k hg') hf),fun hf=>h5 (hFDl s (hsl s (.inl rfl)) hf),fun g' hg' hf=>h6 g' hg' (hFDl g' (hsl g' (.inr hg')) hf),fun hf=>h7 (hFDl st hstl hf),h8,h9,h10,?_⟩,?_⟩
    ·unfold StoreAt at h1 ⊢
     rw[hkF.block st hstl h7]
     exact h1
    ·rcases hf2 k hf with a|a
     ·have:=hlt k (hM k (.inl a));omega
     omega
    ·rintro k (a|a|a|a)
     ·exact .inr a
     ·exact .inl (hM k (.inr (.inl a)))
     ·exact .inl (hM k (.inr (.inr (.inl a))))
     exact .inl (hM k (.inr (.inr (.inr a))))
    have z3:=hk2.size
    have z4:=hkF.size
    rintro k (a|a)
    ·have:=hlt k a;omega
    have:=hl2 k a;omega
   |none=>
    exact Load_good M st D Ts name at_ ar ah ct cr ch ts hs xs rs g w hS hA hAM (hsm (by omega)) a0 a1 a2 tt q wr pg pl ex ta w0 hN0 hb00 hMB (fun x _=>wayP_any x) ⟨_,_,by unfold loadR;rw[if_pos hgood,if_neg hth,hp];simp only;rw[hx]⟩
  have hr:loadR D Ts name ts hs rs g=.dict c:=by unfold loadR;rw[if_pos hgood,if_neg hth,hp]
  rw[hr]
  have hL:=tLoad_dict s d F G D Ts sv bs name at_ ar ah ct cr ch ts hs xs rs g.toNat W.drew hin a0 a1 a2 hNd.e c hp
  rw[hg]at hL
  refine(fr (fun _=>False) (fun _ h=>h.elim) id 2 (-1) (c:Int) (-1) (fun w2=>Below W.heap.size W w2) (hL.mono fun e w2 ⟨hb2,b,he,hch⟩=>⟨_,he,Keep.of_below (below_undrew hb2),below_undrew hb2,?_⟩)).mono fun e w' ⟨he,w2,hp,_,hk2⟩=>sload_same hS hb0 hp hk2 _ rfl rfl e he
  have hN2:=hNd.below hb2
  have:=faultOf_any _ a1 (some (c:Int)) none w2 hch hN2.e.b1 a0 a1 a2 tt q wr pg (by simp) hN2.e hN2.m
  rw[n2]at this
  exact this
 have hr:loadR D Ts name ts hs rs g=.arg:=by unfold loadR;rw[if_neg hgood]
 rw[hr]
 have hL:=tLoad_arg s name at_ ar ah ct cr ch ts hs xs rs g W.drew hAd ta hNd.c hgood
 refine(fr (fun _=>False) (fun _ h=>h.elim) id 1 (-1) (-1) (-1) (fun w2=>Below W.heap.size W w2) (hL.mono fun e w2 ⟨he,hb2⟩=>⟨_,he,Keep.of_below (below_undrew hb2),below_undrew hb2,?_⟩)).mono fun e w' ⟨he,w2,hp,_,hk2⟩=>sload_same hS hb0 hp hk2 _ rfl rfl e he
 have hN2:=hNd.below hb2
 obtain⟨dv,ov,gv,mn,h3,h4⟩:=hN2.m3
 exact faultOf_other _ ta none none w2 (.root ta) hN2.b a0 a1 a2 tt q wr pg pl ex dv ov gv mn hN2.n h4 hN2.e hN2.m hN2.m2 h3
end
section
open Go.RowKit Go.Shelf
theorem Used_sto (M:Nat→Prop)(st:Nat)(D:DS)(Ts:List TS)(w:World)(h:Sto M w st D Ts) :
  Calls Tryz.prog 10 #[.pointer (some ⟨st,0,none⟩)] w fun e w'=>e=.returned (.int .i64 ((usedOf D.pages:Nat):Int))∧w'=w:=by
 obtain⟨⟨d,s,F,G,sv,bs,h1,h2,h3,h4,h5,h6,h7,h8,h9,h10,hM⟩,hlt⟩:=h
 exact Used_any st w F s d D h1 h3
end
end Go.Proofs.YtkgibdjakgmmcaaGreatDoor
