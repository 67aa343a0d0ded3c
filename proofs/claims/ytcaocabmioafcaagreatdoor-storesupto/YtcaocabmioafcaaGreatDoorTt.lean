/- Load of a set: what is no table, or cannot be there. -/
import Derived.Test.YtcaocabmioafcaaGreatDoorTg
import Derived.Test.YtcaocabmioafcaaGreatDoorTo
set_option maxHeartbeats 1000000
set_option maxRecDepth 100000
namespace Go.Proofs.YtcaocabmioafcaaGreatDoor
section
open Go.RowKit Go.Shelf Tryz
def Je3 (ts hs:List Int):Prop:=hs.length=ts.length∧∀ j (A:j<hs.length),way (ts.getD j 0) hs[j]=true
structure Kct (w:World) (name:ByteArray) (at_ ar ah:Option Addr) (cr:Nat) (ts hs:List Int) (xs:List (Option Addr×Nat)) (rs:List (List V)):Prop where
 ln:name.size≤maxLen
 lt:ts.length≤maxLen
 lr:rs.length≤maxLen
 lrr:∀ r∈rs,r.length≤maxLen
 lh:hs.length≤maxLen
 cap:rs.length≤cr
 types:Kc w at_ ts
 hows:Kc w ah hs
 rows:Zd w ar xs rs
theorem Kct.below {w w':World}{name:ByteArray}{at_ ar ah:Option Addr}{cr:Nat}{ts hs:List Int}{xs:List (Option Addr×Nat)}{rs:List (List V)}(h:Kct w name at_ ar ah cr ts hs xs rs)(A:Below w.heap.size w w'):Kct w' name at_ ar ah cr ts hs xs rs:=
 ⟨h.ln,h.lt,h.lr,h.lrr,h.lh,h.cap,h.types.below A,h.hows.below A,h.rows.below A⟩
abbrev Jvc (name:ByteArray)(at_ ar:Option Addr)(ct cr:Nat)(ts:List Int)(rs:List (List V)):Value:=.agg #[.string name,.slice at_ ts.length ct,.slice ar rs.length cr]
abbrev Jln (name:ByteArray)(at_ ar:Option Addr)(ct cr:Nat)(ts:List Int)(rs:List (List V)):Obj:=.cells #[.string name,.slice at_ ts.length ct,.slice ar rs.length cr] 30
open Classical in
theorem Kzy (s:Nat)(name:ByteArray)(at_ ar ah:Option Addr)(ct cr ch:Nat)(ts hs:List Int)(xs:List (Option Addr×Nat))(rs:List (List V))(g:Int)(w:World)(h:Kct w name at_ ar ah cr ts hs xs rs)(ta:Addr)(hta:w.cell? ⟨1,0,none⟩=some (.iface 528 (.pointer (some ta))))
  (hbad:¬ (Jel name ts rs∧Je3 ts hs∧1≤g∧g≤64)) :
  Calls prog 62 #[.pointer (some ⟨s,0,none⟩),Jvc name at_ ar ct cr ts rs,.slice ah hs.length ch,.int .i64 g] w fun e w'=>e=.returned (.iface 528 (.pointer (some ta)))∧Below w.heap.size w w':=by
 have hb0:Below w.heap.size w (w.alloc (Jln name at_ ar ct cr ts rs)):=(Oa5 _ w).alloc (Oa2 _) _
 have hT:=Kjj name at_ ar ct cr ts xs rs _ h.ln h.lt h.lr h.lrr (h.types.below hb0) (h.rows.below hb0)
 have q1:(w.alloc (Jln name at_ ar ct cr ts rs)).cell? ⟨w.heap.size,1,none⟩=some (.slice at_ ts.length ct):=by simp
 have HTA:Hid (w.cell? ⟨1,0,none⟩=some (.iface 528 (.pointer (some ta)))):=hta
 clear hta
 by_cases h1:Jel name ts rs
 ·rw[decide_eq_true h1]at hT
  by_cases h2:Je3 ts hs
  ·have hW:∀ W,Below w.heap.size w W→Calls prog 89 #[.slice ah hs.length ch,.slice at_ ts.length ct] W fun e w'=>e=.returned (.bool true)∧w'=W:=fun W hb=>Kjr ah at_ ch ct hs ts W h.lh (h.hows.below hb) (h.types.below hb) true (by simpa [Je3] using h2)
   have HW:Hid (∀ W,Below w.heap.size w W→Calls prog 89 #[.slice ah hs.length ch,.slice at_ ts.length ct] W fun e w'=>e=.returned (.bool true)∧w'=W):=hW
   clear hW h
   by_cases h3:g<1
   rotate_left 1
   focus
    have h4:¬ g≤64:=fun h5=>hbad ⟨h1,h2,by omega,h5⟩
   all_goals
    clear h1 h2 hbad
    go_enter func62,ntmps62
    go_wp2_with (first|(go_at_call 88;refine hT.mono ?_;rintro e W1 ⟨rfl,hb1⟩;have hb2:=Jb hb0 hb1;have d1:=Ja hb1 q1;have dta:=Ja hb2 HTA.out)|(go_at_call 89;refine(HW.out W1 hb2).mono ?_;rintro e W2 ⟨rfl,rfl⟩))
    go_ret
    exact⟨rfl,hb2⟩
  have hW:∀ W,Below w.heap.size w W→Calls prog 89 #[.slice ah hs.length ch,.slice at_ ts.length ct] W fun e w'=>e=.returned (.bool false)∧w'=W:=fun W hb=>Kjr ah at_ ch ct hs ts W h.lh (h.hows.below hb) (h.types.below hb) false (by simpa [Je3] using h2)
  have HW:Hid (∀ W,Below w.heap.size w W→Calls prog 89 #[.slice ah hs.length ch,.slice at_ ts.length ct] W fun e w'=>e=.returned (.bool false)∧w'=W):=hW
  clear hW h h1 h2 hbad
  go_enter func62,ntmps62
  go_wp2_with (first|(go_at_call 88;refine hT.mono ?_;rintro e W1 ⟨rfl,hb1⟩;have hb2:=Jb hb0 hb1;have d1:=Ja hb1 q1;have dta:=Ja hb2 HTA.out)|(go_at_call 89;refine(HW.out W1 hb2).mono ?_;rintro e W2 ⟨rfl,rfl⟩))
  go_ret
  exact⟨rfl,hb2⟩
 rw[decide_eq_false h1]at hT
 clear h h1 hbad
 go_enter func62,ntmps62
 go_wp2_with (first|(go_at_call 88;refine hT.mono ?_;rintro e W1 ⟨rfl,hb1⟩;have hb2:=Jb hb0 hb1;have d1:=Ja hb1 q1;have dta:=Ja hb2 HTA.out))
 go_ret
 exact⟨rfl,hb2⟩
open Classical in
theorem Kw6 (s d:Nat)(name:ByteArray)(at_ ar ah:Option Addr)(ct cr ch:Nat)(ts hs:List Int)(xs:List (Option Addr×Nat))(rs:List (List V))(g:Int)(w:World)(h:Kct w name at_ ar ah cr ts hs xs rs)(hgood:Jel name ts rs∧Je3 ts hs∧1≤g∧g≤64)
  (G:Nat→Prop) (Ts:List TS) (sv:Value) (bs:List Nat) (hx:Jfl w G s d Ts sv bs) (et:Addr) (het:w.cell? ⟨0,0,none⟩=some (.iface 528 (.pointer (some et)))) (hthere:Ub Ts name<Ts.length∨6≤Ts.length) :
  Calls prog 62 #[.pointer (some ⟨s,0,none⟩),Jvc name at_ ar ct cr ts rs,.slice ah hs.length ch,.int .i64 g] w fun e w'=>e=.returned (.iface 528 (.pointer (some et)))∧Below w.heap.size w w':=by
 have hb0:Below w.heap.size w (w.alloc (Jln name at_ ar ct cr ts rs)):=(Oa5 _ w).alloc (Oa2 _) _
 obtain⟨h1,h2,hg1,hg2⟩:=hgood
 have hT:=Kjj name at_ ar ct cr ts xs rs _ h.ln h.lt h.lr h.lrr (h.types.below hb0) (h.rows.below hb0)
 rw[decide_eq_true h1]at hT
 have q0:(w.alloc (Jln name at_ ar ct cr ts rs)).cell? ⟨w.heap.size,0,none⟩=some (.string name):=by simp
 have q1:(w.alloc (Jln name at_ ar ct cr ts rs)).cell? ⟨w.heap.size,1,none⟩=some (.slice at_ ts.length ct):=by simp
 have HW:Hid (∀ W,Below w.heap.size w W→Calls prog 89 #[.slice ah hs.length ch,.slice at_ ts.length ct] W fun e w'=>e=.returned (.bool true)∧w'=W):=fun W hb=>Kjr ah at_ ch ct hs ts W h.lh (h.hows.below hb) (h.types.below hb) true (by simpa [Je3] using h2)
 have HF:Hid (∀ W,Below w.heap.size w W→Calls prog 73 #[.pointer (some ⟨s,0,none⟩),.string name] W fun e w'=>e=.returned (.int .i64 (Jhc Ts name))∧Below W.heap.size W w'):=fun W hb=>Jo8 name W G s d Ts sv bs (hx.below hb)
 have HET:Hid (w.cell? ⟨0,0,none⟩=some (.iface 528 (.pointer (some et)))):=het
 obtain⟨_,c1⟩:=hx.field
 obtain⟨a,cap,hsv,_⟩:=hx.own.cells
 rw[Oa6]at hsv
 have hlen:=hx.len
 rw[hlen]at hsv
 subst hsv
 have hfew:=hx.few
 clear het hx h h1 h2 hlen
 by_cases hf:Ub Ts name<Ts.length
 ·have hfv:Jhc Ts name=(Ub Ts name:Int):=by unfold Jhc;rw[if_pos hf]
  rw[hfv]at HF
  generalize Ub Ts name=k at *
  clear hfv hthere
  go_enter func62,ntmps62
  go_wp2_with (first|(go_at_call 88;refine hT.mono ?_;rintro e W1 ⟨rfl,hb1⟩;have hb2:=Jb hb0 hb1;have d0:=Ja hb1 q0;have d1:=Ja hb1 q1)|(go_at_call 89;refine(HW.out W1 hb2).mono ?_;rintro e W2 ⟨rfl,rfl⟩)|(go_at_call 73;refine(HF.out _ hb2).mono ?_;rintro e W3 ⟨rfl,hb3⟩;have hb4:=Jb hb2 hb3;have det:=Ja hb4 HET.out))
  go_ret
  exact⟨rfl,hb4⟩
 have hfv:Jhc Ts name=-1:=by unfold Jhc;rw[if_neg hf]
 rw[hfv]at HF
 have h6:Ts.length=6:=by omega
 rw[h6]at c1
 clear hfv hthere hf
 go_enter func62,ntmps62
 go_wp2_with (first|(go_at_call 88;refine hT.mono ?_;rintro e W1 ⟨rfl,hb1⟩;have hb2:=Jb hb0 hb1;have d0:=Ja hb1 q0;have d1:=Ja hb1 q1)|(go_at_call 89;refine(HW.out W1 hb2).mono ?_;rintro e W2 ⟨rfl,rfl⟩)|(go_at_call 73;refine(HF.out _ hb2).mono ?_;rintro e W3 ⟨rfl,hb3⟩;have hb4:=Jb hb2 hb3;have det:=Ja hb4 HET.out;have dc1:=Ja hb4 c1))
 go_ret
 exact⟨rfl,hb4⟩
end
section
open Go.RowKit Go.Shelf Tryz
structure Jqy (w:World) (s d:Nat) (F G:Nat→Prop) (D:DS) (Ts:List TS) (sv:Value) (bs:List Nat) (name:ByteArray) (at_ ar ah:Option Addr) (cr:Nat) (ts hs:List Int) (xs:List (Option Addr×Nat)) (rs:List (List V)) (g:Nat):Prop where
 args:Kct w name at_ ar ah cr ts hs xs rs
 tab:Jel name ts rs
 ways:Je3 ts hs
 g1:1≤g
 g2:g≤64
 set:Jfl w G s d Ts sv bs
 new:¬ Ub Ts name<Ts.length
 few:Ts.length<6
 disk:Zb w F d D
 lt:∀ k,F k∨G k→k<w.heap.size
 apart:∀ k,G k→¬ F k
 sF:¬ F s
 gF:∀ g,sv.ownBlock=some g→¬ F g
 tF:∀ b o,at_=some ⟨b,o,none⟩→¬ F b
 small:D.pages.length≤800000
 wayc:∀ x∈hs,Qba x
open Classical in
theorem Kys (s d:Nat)(F G:Nat→Prop)(D:DS)(Ts:List TS)(sv:Value)(bs:List Nat)(name:ByteArray)(at_ ar ah:Option Addr)(ct cr ch:Nat)(ts hs:List Int)(xs:List (Option Addr×Nat))(rs:List (List V))(g:Nat)(w:World)(h:Jqy w s d F G D Ts sv bs name at_ ar ah cr ts hs xs rs g)(a0 a1 a2:Addr)(he:Jf0 w a0 a1 a2)
  (c:Nat) (hp:Jfg rs ts hs (cks rs.length g (ckN rs.length g))=.inr c) :
  Calls prog 62 #[.pointer (some ⟨s,0,none⟩),Jvc name at_ ar ct cr ts rs,.slice ah hs.length ch,.int .i64 (g:Int)] w fun e w'=>Below w.heap.size w w'∧∃ b,e=.returned (.iface 187 (.pointer (some ⟨b,0,none⟩)))∧Yu w' (.iface 187 (.pointer (some ⟨b,0,none⟩))) a1 (some (c:Int)) none:=by
 have hb0:Below w.heap.size w (w.alloc (Jln name at_ ar ct cr ts rs)):=(Oa5 _ w).alloc (Oa2 _) _
 have hA:=h.args
 have hT:=Kjj name at_ ar ct cr ts xs rs _ hA.ln hA.lt hA.lr hA.lrr (hA.types.below hb0) (hA.rows.below hb0)
 rw[decide_eq_true h.tab]at hT
 have q0:(w.alloc (Jln name at_ ar ct cr ts rs)).cell? ⟨w.heap.size,0,none⟩=some (.string name):=by simp
 have q1:(w.alloc (Jln name at_ ar ct cr ts rs)).cell? ⟨w.heap.size,1,none⟩=some (.slice at_ ts.length ct):=by simp
 have q2:(w.alloc (Jln name at_ ar ct cr ts rs)).cell? ⟨w.heap.size,2,none⟩=some (.slice ar rs.length cr):=by simp
 have HW:Hid (∀ W,Below w.heap.size w W→Calls prog 89 #[.slice ah hs.length ch,.slice at_ ts.length ct] W fun e w'=>e=.returned (.bool true)∧w'=W):=fun W hb=>Kjr ah at_ ch ct hs ts W hA.lh (hA.hows.below hb) (hA.types.below hb) true (by simpa [Je3] using h.ways)
 have hfv:Jhc Ts name=-1:=by unfold Jhc;rw[if_neg h.new]
 have HF:Hid (∀ W,Below w.heap.size w W→Calls prog 73 #[.pointer (some ⟨s,0,none⟩),.string name] W fun e w'=>e=.returned (.int .i64 (-1))∧Below W.heap.size W w'):=fun W hb=>by rw[←hfv];exact Jo8 name W G s d Ts sv bs (h.set.below hb)
 have HP:Hid (∀ W,Below w.heap.size w W→Calls prog 90 #[.agg #[.string name,.slice at_ ts.length ct,.slice ar rs.length cr],.slice ah hs.length ch,.int .i64 (g:Int)] W fun e w'=>Below W.heap.size W w'∧∃ b,e=.returned (.tuple #[.slice none 0 0,.iface 187 (.pointer (some ⟨b,0,none⟩))])∧W.heap.size≤b∧Yu w' (.iface 187 (.pointer (some ⟨b,0,none⟩))) a1 (some (c:Int)) none):=fun W hb=>by
  have:=Kkk name at_ ar ah ct cr ch g ts hs xs rs W h.tab h.ways.1 h.ways.2 h.g1 h.g2 hA.cap (hA.types.below hb) (hA.hows.below hb) (hA.rows.below hb) h.wayc a0 a1 a2 (he.below hb)
  rw[hp]at this
  exact this
 obtain⟨_,c1⟩:=h.set.field
 obtain⟨a,cap,hsv,_⟩:=h.set.own.cells
 rw[Oa6,h.set.len]at hsv
 subst hsv
 have hfew:=h.few
 have hg1:=h.g1
 have hg2:=h.g2
 clear h hA hfv hp
 go_enter func62,ntmps62
 go_wp2_with (first|(go_at_call 88;refine hT.mono ?_;rintro e W1 ⟨rfl,hb1⟩;have hb2:=Jb hb0 hb1;have d0:=Ja hb1 q0;have d1:=Ja hb1 q1;have d2:=Ja hb1 q2)|(go_at_call 89;refine(HW.out W1 hb2).mono ?_;rintro e W2 ⟨rfl,rfl⟩)|(go_at_call 73;refine(HF.out _ hb2).mono ?_;rintro e W3 ⟨rfl,hb3⟩;have hb4:=Jb hb2 hb3;have dc1:=Ja hb4 c1;have e0:=Ja hb3 d0;have e1:=Ja hb3 d1;have e2:=Ja hb3 d2)|(go_at_call 90;refine(HP.out _ hb4).mono ?_;rintro e W4 ⟨hb5,b,rfl,hbl,hch⟩))
 go_ret
 exact⟨Jb hb4 hb5,b,rfl,hch⟩
end
section
open Go.RowKit Go.Shelf Tryz
structure Kkv (w:World) (s d:Nat) (F:Nat→Prop) (D:DS) (Ts:List TS) (name:ByteArray) (at_ ar ah:Option Addr) (ct cr ch:Nat) (ts hs:List Int) (rs:List (List V)) (g:Nat) (T:List (List UInt8)) (q qw:Addr):Prop where
 t:Calls prog 88 #[Jvc name at_ ar ct cr ts rs] (w.alloc (Jln name at_ ar ct cr ts rs)) fun e w'=>e=.returned (.bool true)∧Below (w.alloc (Jln name at_ ar ct cr ts rs)).heap.size (w.alloc (Jln name at_ ar ct cr ts rs)) w'
 ws:∀ W,Below w.heap.size w W→Calls prog 89 #[.slice ah hs.length ch,.slice at_ ts.length ct] W fun e w'=>e=.returned (.bool true)∧w'=W
 f:∀ W,Below w.heap.size w W→Calls prog 73 #[.pointer (some ⟨s,0,none⟩),.string name] W fun e w'=>e=.returned (.int .i64 (-1))∧Below W.heap.size W w'
 p:∀ W,Below w.heap.size w W→Calls prog 90 #[.agg #[.string name,.slice at_ ts.length ct,.slice ar rs.length cr],.slice ah hs.length ch,.int .i64 (g:Int)] W fun e w'=>Below W.heap.size W w'∧∃ a cap,e=.returned (.tuple #[.slice a T.length cap,.nilIface])∧Uh w' a (T.map tv)∧∀ b o,a=some ⟨b,o,none⟩→W.heap.size≤b
 l:∀ W a cap,Below w.heap.size w W→Uh W a (T.map tv)→(∀ b o,a=some ⟨b,o,none⟩→w.heap.size≤b)→Calls prog 91 #[.pointer (some ⟨s,0,none⟩),.slice a T.length cap] W fun e w'=>Jxo W F d q qw (Jq D T) e w'
open Classical in
theorem Jqy.hid {w:World}{s d:Nat}{F G:Nat→Prop}{D:DS}{Ts:List TS}{sv:Value}{bs:List Nat}{name:ByteArray}{at_ ar ah:Option Addr}{cr:Nat}{ts hs:List Int}{xs:List (Option Addr×Nat)}{rs:List (List V)}{g:Nat}(h:Jqy w s d F G D Ts sv bs name at_ ar ah cr ts hs xs rs g)(ct ch:Nat)(a0 a1 a2:Addr)(he:Jf0 w a0 a1 a2)
  (T:List (List UInt8)) (hp:Jfg rs ts hs (cks rs.length g (ckN rs.length g))=.inl T) (q qw:Addr) (hq:w.cell? ⟨4,0,none⟩=some (.iface 528 (.pointer (some q)))) (hw:w.cell? ⟨5,0,none⟩=some (.iface 528 (.pointer (some qw)))) (hFq:¬ F 4) (hFw:¬ F 5):Kkv w s d F D Ts name at_ ar ah ct cr ch ts hs rs g T q qw:=by
 have hb0:Below w.heap.size w (w.alloc (Jln name at_ ar ct cr ts rs)):=(Oa5 _ w).alloc (Oa2 _) _
 have hA:=h.args
 have hT:=Kjj name at_ ar ct cr ts xs rs _ hA.ln hA.lt hA.lr hA.lrr (hA.types.below hb0) (hA.rows.below hb0)
 rw[decide_eq_true h.tab]at hT
 have hfv:Jhc Ts name=-1:=by unfold Jhc;rw[if_neg h.new]
 refine⟨hT,fun W hb=>Kjr ah at_ ch ct hs ts W hA.lh (hA.hows.below hb) (hA.types.below hb) true (by simpa [Je3] using h.ways),fun W hb=>by rw[←hfv];exact Jo8 name W G s d Ts sv bs (h.set.below hb),fun W hb=>?_,fun W a cap hb hc ha=>?_⟩
 ·have:=Kkk name at_ ar ah ct cr ch g ts hs xs rs W h.tab h.ways.1 h.ways.2 h.g1 h.g2 hA.cap (hA.types.below hb) (hA.hows.below hb) (hA.rows.below hb) h.wayc a0 a1 a2 (he.below hb)
  rw[hp]at this
  exact this
 obtain⟨hl1,hl2⟩:=Jte rs ts hs _ T hp
 have hck:(cks rs.length g (ckN rs.length g)).length≤200:=by
  have h2:rs.length≤200:=h.tab.2.2.1
  have h3:ckN rs.length g≤rs.length:=by
   unfold ckN
   have:=h.g1
   exact Nat.le_of_lt_succ ((Nat.div_lt_iff_lt_mul (by omega)).2 (by
    have:rs.length+1≤(rs.length+1)*g:=On4 _ (by omega)
    rw[Of5]at this ⊢
    have h5:rs.length≤rs.length*g:=On4 _ (by omega)
    omega))
  simp[cks]
  omega
 have h6:ts.length≤6:=h.tab.2.1.1.2
 have hTl:T.length≤1200:=by
  rw[hl1]
  exact Ob2 (Ol5 hck h6) (by decide)
 have htp:=Joc T fun t ht=>(hl2 t ht).1
 have hsm:=h.small
 exact Kks s d a cap T W F D (h.disk.below hb) (fun k hk=>Oc2 (h.lt k (.inl hk)) hb.size) hc (fun b o hbo hf=>by have:=h.lt b (.inl hf);have:=ha b o hbo;omega) (Ja hb h.set.field.1) h.sF q qw (Ja hb hq) (Ja hb hw) hFq hFw (by omega) (by omega) (fun t ht=>by have:=(hl2 t ht).1;omega)
theorem Kyk (s d:Nat)(F G:Nat→Prop)(D:DS)(bE:List TS)(sv:Value)(bs:List Nat)(name:ByteArray)(at_ ar ah:Option Addr)(ct cr ch:Nat)(ts hs:List Int)(xs:List (Option Addr×Nat))(rs:List (List V))(g:Nat)(w:World)(h:Jqy w s d F G D bE sv bs name at_ ar ah cr ts hs xs rs g)(bc bf bh:Addr)(Y:Jf0 w bc bf bh)
  (T:List (List UInt8)) (bn:Jfg rs ts hs (cks rs.length g (ckN rs.length g))=.inl T) (q N:Addr) (br:w.cell? ⟨4,0,none⟩=some (.iface 528 (.pointer (some q)))) (hw:w.cell? ⟨5,0,none⟩=some (.iface 528 (.pointer (some N)))) (bO:¬ F 4) (bP:¬ F 5) (x:Bool) (bx:(Jq D T).2.2=some x) :
  Calls prog 62 #[.pointer (some ⟨s,0,none⟩),Jvc name at_ ar ct cr ts rs,.slice ah hs.length ch,.int .i64 (g:Int)] w fun e w'=>Ju F w w'∧∃ FD:Nat→Prop,Zb w' FD d (Jcg (Jq D T).1 (Jq D T).2.1)∧(∀ k,FD k→F k∨w.heap.size≤k)∧(∀ k,FD k→k<w'.heap.size)∧∃ b,e=.returned (.iface 187 (.pointer (some ⟨b,0,none⟩)))∧Yu w' (.iface 187 (.pointer (some ⟨b,0,none⟩))) (if x then q else N) (some (-1)) (some (-1)):=by
 have bS:Below w.heap.size w (w.alloc (Jln name at_ ar ct cr ts rs)):=(Oa5 _ w).alloc (Oa2 _) _
 obtain⟨bQ,hW,hF,bk,bj⟩:=h.hid ct ch bc bf bh Y T bn q N br hw bO bP
 have bD:Hid (∀ W,Below w.heap.size w W→Calls prog 89 #[.slice ah hs.length ch,.slice at_ ts.length ct] W fun e w'=>e=.returned (.bool true)∧w'=W):=hW
 have bA:Hid (∀ W,Below w.heap.size w W→Calls prog 73 #[.pointer (some ⟨s,0,none⟩),.string name] W fun e w'=>e=.returned (.int .i64 (-1))∧Below W.heap.size W w'):=hF
 have bC:Hid (∀ W,Below w.heap.size w W→Calls prog 90 #[.agg #[.string name,.slice at_ ts.length ct,.slice ar rs.length cr],.slice ah hs.length ch,.int .i64 (g:Int)] W fun e w'=>Below W.heap.size W w'∧∃ a cap,e=.returned (.tuple #[.slice a T.length cap,.nilIface])∧Uh w' a (T.map tv)∧∀ b o,a=some ⟨b,o,none⟩→W.heap.size≤b):=bk
 generalize bi:(if x then q else N)=bz
 have bB:Hid (∀ W a cap,Below w.heap.size w W→Uh W a (T.map tv)→(∀ b o,a=some ⟨b,o,none⟩→w.heap.size≤b)→Calls prog 91 #[.pointer (some ⟨s,0,none⟩),.slice a T.length cap] W fun e w'=>Ju F W w'∧∃ FD:Nat→Prop,Zb w' FD d (Jcg (Jq D T).1 (Jq D T).2.1)∧(∀ k,FD k→F k∨W.heap.size≤k)∧(∀ k,FD k→k<w'.heap.size)∧∃ b,e=.returned (.tuple #[.slice none 0 0,.iface 211 (.pointer (some ⟨b,0,none⟩))])∧Yu w' (.iface 211 (.pointer (some ⟨b,0,none⟩))) bz none (some (-1))):=fun W a cap O bM bN=>
  (bj W a cap O bM bN).mono fun e w' bb=>by
   unfold Jxo at bb
   rw[bx]at bb
   obtain⟨M,FD,X,Z,ba,b,Y,cx,L,cv⟩:=bb
   rw[bi]at L
   exact⟨M,FD,X,Z,ba,b,Y,L⟩
 have bY:(w.alloc (Jln name at_ ar ct cr ts rs)).cell? ⟨w.heap.size,0,none⟩=some (.string name):=by simp
 have bZ:(w.alloc (Jln name at_ ar ct cr ts rs)).cell? ⟨w.heap.size,1,none⟩=some (.slice at_ ts.length ct):=by simp
 have ca:(w.alloc (Jln name at_ ar ct cr ts rs)).cell? ⟨w.heap.size,2,none⟩=some (.slice ar rs.length cr):=by simp
 have bV:¬ F w.heap.size:=fun bT=>Oe3 _ (h.lt _ (.inl bT))
 have cc:Hid (∀ k,F k→k<w.heap.size):=fun k hk=>h.lt k (.inl hk)
 obtain⟨_,c1⟩:=h.set.field
 obtain⟨a,cap,bu,_⟩:=h.set.own.cells
 rw[Oa6,h.set.len]at bu
 subst bu
 have cy:=h.few
 have cz:=h.g1
 have cA:=h.g2
 clear h bn hW hF bk bj br hw bi bx
 go_enter func62,ntmps62
 go_wp2_with (first|(go_at_call 88;refine bQ.mono ?_;rintro e bG ⟨rfl,H⟩;have R:=Jb bS H;have bH:=Ja H bY;have bI:=Ja H bZ;have bJ:=Ja H ca)|(go_at_call 89;refine(bD.out bG R).mono ?_;rintro e cf ⟨rfl,rfl⟩)|(go_at_call 73;refine(bA.out _ R).mono ?_;rintro e ci ⟨rfl,I⟩;have J:=Jb R I;have ck:=Ja J c1;have bK:=Ja I bH;have cl:=Ja I bI;have cn:=Ja I bJ)|(go_at_call 90;refine(bC.out _ J).mono ?_;rintro e cj ⟨bl,pa,pc,rfl,bX,bW⟩;have U:=Jb J bl;have bL:=Ja bl bK;have cb:=J.size)|(go_at_call 91;refine(bB.out _ pa pc U bX (fun b o bR=>Ob2 cb (bW b o bR))).mono ?_;rintro e A ⟨M,FD,X,Z,ba,b,rfl,L⟩;have cu:=M.cell bL bV))
 go_ret
 have cB:=U.size
 have bU:Ju F w A:=(Ju.of_below U).trans M
 have K:Below A.heap.size A (A.alloc (.cells #[.string name,.int .i64 (-1),.iface 211 (.pointer (some ⟨b,0,none⟩))] 189)):=(Oa5 _ _).alloc (Oa2 _) _
 refine⟨bU.trans (Ju.of_below K),FD,X.below K,fun k hk=>(Z k hk).imp_right fun h=>by omega,fun k hk=>by have:=ba k hk;simp;omega,A.heap.size,rfl,?_⟩
 obtain⟨h0,O⟩:=L.disk_at
 exact .both _ _ _ _ _ (by simp) (by simp) (Ja K h0) (Ja K O)
end
section
open Go.RowKit Go.Shelf Tryz
def Jdl (w:World)(s d:Nat)(F G:Nat→Prop)(D:DS)(H:List TS)(sv:Value)(bs:List Nat)(name:ByteArray)(ts:List Int)(rs:List (List V))(g:Nat)(T:List (List UInt8))(w':World):Prop:=
 Ju (fun k=>F k∨Jnr s sv k) w w'∧∃ (FD A:Nat→Prop) (sv':Value) (I:Nat),Zb w' FD d (Jq D T).1∧Jfl w' A s d (H++[⟨name,ts,rs.length,g,(Jq D T).2.1⟩]) sv' (bs++[I])∧(∀ k,FD k→F k∨w.heap.size≤k)∧(∀ k,A k→G k∨w.heap.size≤k)∧(∀ k,FD k∨A k→k<w'.heap.size)∧(∀ k,A k→¬ FD k)∧¬ FD s∧(∀ k,sv'.ownBlock=some k→¬ FD k)∧(∀ k,sv'.ownBlock=some k→sv.ownBlock=some k∨w.heap.size≤k)
abbrev Jr (name:ByteArray)(H A:Nat)(ts:List Int)(rs:List (List V))(g:Nat)(I:Option Addr)(n J:Nat):Obj:=.cells #[.string name,.slice (some ⟨H,0,none⟩) ts.length A,.int .i64 (rs.length:Int),.int .i64 (g:Int),.slice I n J] 157
theorem Jgq {w:World}{s d:Nat}{F G:Nat→Prop}{D:DS}{bE:List TS}{sv:Value}{bs:List Nat}{name:ByteArray}{at_ ar ah:Option Addr}{cr:Nat}{ts hs:List Int}{xs:List (Option Addr×Nat)}{rs:List (List V)}{g:Nat}(h:Jqy w s d F G D bE sv bs name at_ ar ah cr ts hs xs rs g)
  {T:List (List UInt8)} {U I H J:World} {FD:Nat→Prop} {bn:Option Addr} {br:Nat} {bK:List (Option Addr×Nat)} (Y:Below w.heap.size w U) (bb:Ju F U I) (bN:Zb I FD d (Jq D T).1) (bG:∀ k,FD k→F k∨U.heap.size≤k) (bl:∀ k,FD k→k<I.heap.size)
  (bS:Jaf I (fun k=>U.heap.size≤k∧k<I.heap.size∧¬ FD k) bn bK (Jq D T).2.1) (bR:(Jq D T).2.1.length≤br) (Z:Below I.heap.size I H) {M bu:Nat} (bW:I.heap.size≤M) (bX:M<H.heap.size) (hI:Kc H (some ⟨M,0,none⟩) ts)
  {sv':Value} {bk:Obj} (bP:Jo J 0 158 sv' (bs.map Jcp++[Jcp H.heap.size])) (ba:((H.alloc (Jr name M bu ts rs g bn (Jq D T).2.1.length br)).alloc bk).grownBy J sv.ownBlock) (bM:sv'.ownBlock=sv.ownBlock∨sv'.ownBlock=some (H.heap.size+2)) :
  Jdl w s d F G D bE sv bs name ts rs g T (J.setCell ⟨s,1,none⟩ sv'):=by
 have bZ:=Y.size
 have bY:=bb.size
 have ca:=Z.size
 have bT:=ba.size
 simp only[Oa7]at bT
 have bA:s<w.heap.size:=Jd h.set.cells
 have bc:∀ k,sv.ownBlock=some k→k<w.heap.size:=fun k hk=>Qk h.set.own hk
 have bV:∀ k,F k→k<w.heap.size:=fun k hk=>h.lt k (.inl hk)
 have bx:∀ k,G k→k<w.heap.size:=fun k hk=>h.lt k (.inr hk)
 have bi:∀ k,k<w.heap.size→FD k→F k:=fun k hk K=>(bG k K).resolve_right (by omega)
 have bj:(J.setCell ⟨s,1,none⟩ sv').heap.size=J.heap.size:=by simp[World.setCell]
 -- the blocks that stand
 have bJ:∀ k,k<H.heap.size+2→sv.ownBlock≠some k→k≠s→(J.setCell ⟨s,1,none⟩ sv').heap[k]?=((H.alloc (Jr name M bu ts rs g bn (Jq D T).2.1.length br)).alloc bk).heap[k]?:=fun k hk R N=>
  (Oa4 _ _ _ _ N).trans (ba.block k (by simp;omega) (Oc5 R))
 have bI:∀ k,k<H.heap.size→sv.ownBlock≠some k→k≠s→(J.setCell ⟨s,1,none⟩ sv').heap[k]?=H.heap[k]?:=fun k hk R N=>
  (bJ k (by omega) R N).trans ((Oa9 _ bk k (by simp;omega)).trans (Oa9 H _ k hk))
 have bD:∀ k,k<I.heap.size→sv.ownBlock≠some k→k≠s→(J.setCell ⟨s,1,none⟩ sv').heap[k]?=I.heap[k]?:=fun k hk R N=>
  (bI k (by omega) R N).trans (Z.block k hk)
 have bH:∀ k,k<w.heap.size→¬ F k→sv.ownBlock≠some k→k≠s→(J.setCell ⟨s,1,none⟩ sv').heap[k]?=w.heap[k]?:=fun k hk hF R N=>
  (bD k (by omega) R N).trans ((bb.block k (by omega) hF).trans (Y.block k hk))
 have bB:sv.ownBlock≠some s:=fun e=>(h.set.gF s e).2 rfl
 have bQ:J.heap[s]?=some (.cells #[.pointer (some ⟨d,0,none⟩),sv] 143 (0,0)):=by
  rw[ba.block s (by simp;omega) (Oc5 bB),Oa9 _ bk s (by simp;omega),Oa9 H _ s (by omega),Z.block s (by omega),bb.block s (by omega) h.sF,Y.block s bA]
  exact h.set.cells
 have L:∀ k,sv'.ownBlock=some k→sv.ownBlock=some k∨k=H.heap.size+2:=fun k hk=>by
  rcases bM with e|e
  ·exact .inl (e▸hk)
  rw[e]at hk;simp at hk;exact .inr hk.symm
 refine⟨⟨ba.os.trans ((Z.os).trans (bb.os.trans Y.os)),ba.tape.trans ((Z.tape).trans (bb.tape.trans Y.tape)),ba.output.trans ((Z.output).trans (bb.output.trans Y.output)),by rw[bj];omega,fun k hk bz=>bH k hk (fun hF=>bz (.inl hF)) (fun e=>bz (.inr (.inr e))) (fun e=>bz (.inr (.inl e)))⟩,
  FD,fun k=>G k∨(U.heap.size≤k∧k<I.heap.size∧¬ FD k)∨k=M∨k=H.heap.size,sv',H.heap.size,?_,?_,fun k hk=>(bG k hk).imp_right fun h=>by omega,?_,?_,?_,?_,?_,?_⟩
 ·refine bN.stands fun k hk O=>bD k O (fun e=>?_) (fun e=>?_)
  ·exact h.gF k e (bi k (bc k e) hk)
  subst e;exact h.sF (bi k bA hk)
 ·refine⟨heap_setCell_same J s 1 _ _ _ bQ,?_,?_,?_,by simp[h.set.len],?_,by have:=h.few;simp;omega⟩
  ·rw[Ob8,Oe4,Oi4]
   refine Yd bP fun k hk=>Oa4 _ _ _ _ fun e=>?_
   subst e
   rcases L k hk with e|e
   ·exact bB e
   omega
  ·rintro(A|⟨A,_⟩|A|A)
   ·exact h.set.sF A
   ·omega
   ·omega
   omega
  ·intro k hk
   refine⟨?_,fun e=>?_⟩
   ·rintro(A|⟨A,bU,_⟩|A|A)
    ·rcases L k hk with e|e
     ·exact(h.set.gF k e).1 A
     have:=bx k A;omega
    ·rcases L k hk with e|e
     ·have:=bc k e;omega
     omega
    ·rcases L k hk with e|e
     ·have:=bc k e;omega
     omega
    rcases L k hk with e|e
    ·have:=bc k e;omega
    omega
   subst e
   rcases L k hk with e|e
   ·exact bB e
   omega
  intro i b bL X bf
  by_cases hi:i<bs.length
  ·rw[Ob0 hi]at X
   rw[Ob0 (by rw[←h.set.len];exact hi)]at bf
   refine((h.set.tab i b bL X bf).stands (by rw[bj];omega) fun k hk O=>bH k O (h.apart k hk) (fun e=>(h.set.gF k e).1 hk) (fun e=>h.set.sF (e▸hk))).mono fun k hk=>.inl hk
  have bO:i=bs.length:=by
   have:=(Ob9.1 X).1
   simp at this
   omega
  subst bO
  rw[Ob6 (Oa2 _)]at X
  rw[h.set.len,Ob6 (Oa2 _)]at bf
  simp at X bf
  subst X bf
  have bC:∀ k,U.heap.size≤k→sv.ownBlock≠some k:=fun k hk e=>by have:=bc k e;omega
  refine⟨some ⟨M,0,none⟩,bu,bn,br,bK,?_,?_,?_,?_,bR,.inr (.inr (.inr rfl))⟩
  ·rw[bJ _ (by omega) (bC _ (by omega)) (by omega),Oa9 _ bk _ (by simp),heap_alloc_new]
  ·refine hI.of_block (by rw[bj];omega) fun b o bh O=>?_
   simp at bh
   obtain⟨rfl,rfl⟩:=bh
   exact bI _ O (bC _ (by omega)) (by omega)
  ·intro b o bh
   simp at bh
   exact .inr (.inr (.inl bh.1.symm))
  exact(bS.stands (by rw[bj];omega) fun k hk O=>bD k O (bC k hk.1) (by have:=hk.1;omega)).mono fun k hk=>.inr (.inl hk)
 ·rintro k (A|⟨A,_⟩|A|A)
  ·exact .inl A
  ·exact .inr (by omega)
  ·exact .inr (by omega)
  exact .inr (by omega)
 ·rw[bj]
  rintro k (A|A|⟨_,A,_⟩|A|A)
  ·have:=bl k A;omega
  ·have:=bx k A;omega
  ·omega
  ·omega
  omega
 ·rintro k (A|⟨_,_,A⟩|A|A) K
  ·exact h.apart k A (bi k (bx k A) K)
  ·exact A K
  ·have:=bl k K;omega
  have:=bl k K;omega
 ·exact fun K=>h.sF (bi s bA K)
 ·intro k hk K
  rcases L k hk with e|e
  ·exact h.gF k e (bi k (bc k e) K)
  have:=bl k K;omega
 intro k hk
 rcases L k hk with e|e
 ·exact .inl e
 exact .inr (by omega)
end
end Go.Proofs.YtcaocabmioafcaaGreatDoor
