/- Tallies: what is counted of a column in a group, plainly and in memory. -/
import Derived.Test.YtdlgbphkaicfaaaGreatDoorXb
import Derived.Test.YtdlgbphkaicfaaaGreatDoorXc
import Derived.Deep.RegionHeld3
import Derived.Shelf.Spec.BitsCarry
import Derived.Maps.Own
import Derived.Maps.OwnOps
import Derived.Maps.OwnSet
import Derived.DeepKeys5
import Derived.Test.YtdlgbphkaicfaaaGreatDoorIv
set_option maxHeartbeats 2000000
set_option maxRecDepth 100000
namespace Go.Proofs.YtdlgbphkaicfaaaGreatDoor
open Go.RowKit Go.Shelf Tryz
structure Tly where
 rows:Nat
 held:Nat
 sum:Int
 least:V
 most:V
def Klg:Tly:=⟨0,0,0,Jf,Jf⟩
def Tly.add (t:Tly)(v:V):Tly:=if v.k=0 then ⟨t.rows+1,t.held,t.sum,t.least,t.most⟩else ⟨t.rows+1,t.held+1,t.sum+v.n,if t.held=0∨Jxt v t.least<0 then v else t.least,if t.held=0∨0<Jxt v t.most then v else t.most⟩
def Kll (t:Tly):List Value:=[.int .i64 (t.rows:Nat),.int .i64 (t.held:Nat),.int .i64 (t.sum / 18446744073709551616),.int .u64 (t.sum % 18446744073709551616),.int .i64 t.least.k,.int .i64 t.least.n,.string t.least.s,.int .i64 t.most.k,.int .i64 t.most.n,.string t.most.s]
def Kpn (s:Int):Prop:=-1000000000000000000000000000000≤s∧s≤1000000000000000000000000000000
def Krr:Ren:=⟨fun _=>268,fun _=>247,fun x=>x⟩
theorem Kq6:Lays7.n25 prog Krr where
 mixed:=by kernel_rfl
 f25:=by kernel_rfl
 t22:=by kernel_rfl
 a22:=fun w=>by kernel_rfl
 z22:=fun w=>by kernel_rfl
 v22:=fun w=>by kernel_rfl
 i22:=by kernel_rfl
theorem Kp5 (x y:Nat)(w:World):(callFunc 268 #[.int .u64 (x:Nat),.int .u64 (y:Nat),.int .u64 0]).run prog w=.ok (.value (.tuple #[.int .u64 (((x+y) % 18446744073709551616:Nat):Int),.int .u64 (((x+y) / 18446744073709551616:Nat):Int)])) w:=
 Any7.bits_Add64 Kq6 x y 0 (by omega) w
theorem Kpu (b o:Nat)(s n:Int)(w:World)(hn:Jg n)(hs:Kpn s)(h0:w.cell? ⟨b,o,none⟩=some (.int .i64 (s / 18446744073709551616)))(h1:w.cell? ⟨b,o+1,none⟩=some (.int .u64 (s % 18446744073709551616)))(R:w.frozen? ⟨b,o,none⟩=false)(U:w.frozen? ⟨b,o+1,none⟩=false) :
  Calls prog 234 #[.pointer (some ⟨b,o,none⟩),.int .i64 n] w fun e w'=>e=.returned (.tuple #[])∧w'=(w.setCell ⟨b,o+1,none⟩ (.int .u64 ((s+n) % 18446744073709551616))).setCell ⟨b,o,none⟩ (.int .i64 ((s+n) / 18446744073709551616)):=by
 obtain⟨x,H⟩:∃ x:Nat,s % 18446744073709551616=(x:Int):=⟨(s % 18446744073709551616).toNat,by omega⟩
 obtain⟨y,A⟩:∃ y:Nat,IntKind.u64.wrap n=(y:Int):=⟨(IntKind.u64.wrap n).toNat,by rw[Oh5];omega⟩
 have O:=Kp5 x y
 rw[H]at h1
 go_enter func234,ntmps234
 go_wp2
 go_end0
 have D:((x:Int)+y) % 18446744073709551616=(s+n) % 18446744073709551616:=by rw[Oh5]at A;omega
 have E:wrap64 (s / 18446744073709551616+wrap64 (n / 9223372036854775808+wrap64 (((x:Int)+y) / 18446744073709551616)))=(s+n) / 18446744073709551616:=by
  rw[Oh5]at A
  unfold Jg at hn
  unfold Kpn at hs
  have w1:wrap64 (((x:Int)+y) / 18446744073709551616)=((x:Int)+y) / 18446744073709551616:=by unfold wrap64;omega
  rw[w1]
  have K:wrap64 (n / 9223372036854775808+((x:Int)+y) / 18446744073709551616)=n / 9223372036854775808+((x:Int)+y) / 18446744073709551616:=by unfold wrap64;omega
  rw[K]
  have M:s / 18446744073709551616+(n / 9223372036854775808+((x:Int)+y) / 18446744073709551616)=(s+n) / 18446744073709551616:=by omega
  rw[M]
  unfold wrap64
  omega
 rw[D,E]
 exact⟨rfl,rfl⟩
theorem Klb {w:World}{b o i:Nat}{y cs A:List Value}{ty:TypeId}{v:Value}(h:w.heap[b]?=some (.cells (y++cs++A).toArray ty (0,0)))(E:y.length=o)(hi:cs[i]?=some v):w.cell? ⟨b,o+i,none⟩=some v:=by
 obtain⟨D,e⟩:=Ob9.1 hi
 simp only[World.cell?,h]
 simp only[List.getElem?_toArray]
 rw[Od8,Ob6 (by omega),Ob0 (by omega),show o+i-y.length=i by omega,hi]
 rfl
theorem Km8 {w:World}{b:Nat}{cs:Array Value}{ty:TypeId}(h:w.heap[b]?=some (.cells cs ty (0,0)))(o:Nat):w.frozen? ⟨b,o,none⟩=false:=by simp[World.frozen?,h]
theorem Kli {w:World}{b o i:Nat}{y cs A:List Value}{ty:TypeId}(v:Value)(h:w.heap[b]?=some (.cells (y++cs++A).toArray ty (0,0)))(D:y.length=o)(hi:i<cs.length) :
  (w.setCell ⟨b,o+i,none⟩ v).heap[b]?=some (.cells (y++cs.set i v++A).toArray ty (0,0)):=by
 rw[Jk h (o+i) v]
 simp only[Oa1]
 rw[Od8,List.set_append,if_neg (by omega),List.set_append,if_pos (by omega),show o+i-y.length=i by omega,Od8]
structure Klf (w:World) (b o:Nat) (t:Tly):Prop where
 c0:w.cell? ⟨b,o,none⟩=some (.int .i64 (t.rows:Nat))
 c1:w.cell? ⟨b,o+1,none⟩=some (.int .i64 (t.held:Nat))
 c2:w.cell? ⟨b,o+2,none⟩=some (.int .i64 (t.sum / 18446744073709551616))
 c3:w.cell? ⟨b,o+2+1,none⟩=some (.int .u64 (t.sum % 18446744073709551616))
 c4:w.cell? ⟨b,o+4,none⟩=some (.int .i64 t.least.k)
 c5:w.cell? ⟨b,o+4+1,none⟩=some (.int .i64 t.least.n)
 c6:w.cell? ⟨b,o+4+2,none⟩=some (.string t.least.s)
 c7:w.cell? ⟨b,o+7,none⟩=some (.int .i64 t.most.k)
 c8:w.cell? ⟨b,o+7+1,none⟩=some (.int .i64 t.most.n)
 c9:w.cell? ⟨b,o+7+2,none⟩=some (.string t.most.s)
 z:∀ i,w.frozen? ⟨b,i,none⟩=false
theorem Klf.of {w:World}{b o:Nat}{t:Tly}{A D:List Value}{ty:TypeId}(h:w.heap[b]?=some (.cells (A++Kll t++D).toArray ty (0,0)))(y:A.length=o):Klf w b o t:=
 ⟨Klb (i:=0) h y rfl,Klb (i:=1) h y rfl,Klb (i:=2) h y rfl,Klb (i:=3) h y rfl,Klb (i:=4) h y rfl,Klb (i:=5) h y rfl,Klb (i:=6) h y rfl,Klb (i:=7) h y rfl,Klb (i:=8) h y rfl,Klb (i:=9) h y rfl,Km8 h⟩
theorem Kl5 (a b:V)(w:World):Calls prog 235 #[a.val,b.val] w fun e w'=>e=.returned (.int .i64 (Jxt a b))∧Below w.heap.size w w':=
 (Jqx a b w).mono fun e w' ⟨y,x,D,A⟩=>⟨y,by rw[A];exact Jj (Jc (Jc (Jc (Oa5 _ _) _) _) _)⟩
theorem Kpb {t:Tly}{v l m:V}(D:¬ v.k=0)(y:l=if t.held=0∨Jxt v t.least<0 then v else t.least)(A:m=if t.held=0∨0<Jxt v t.most then v else t.most):t.add v=⟨t.rows+1,t.held+1,t.sum+v.n,l,m⟩:=by
 unfold Tly.add
 rw[if_neg D,←y,←A]
theorem Klq {F:Nat→Prop}{w W W':World}(h:Ju F w W)(h1:W'.os=W.os:=by rfl)(h2:W'.tape=W.tape:=by rfl)(A:W'.output=W.output:=by rfl)(y:W'.heap=W.heap:=by rfl):Ju F w W':=
 ⟨h1.trans h.os,h2.trans h.tape,A.trans h.output,by rw[y];exact h.size,by rw[y];exact h.block⟩
theorem Knq {w:World}{b o r h:Nat}{s:Int}{l m:V}{A D:List Value}{ty:TypeId}(v:V)(E:w.heap[b]?=some (.cells (A++Kll ⟨r,h,s,l,m⟩++D).toArray ty (0,0)))(y:A.length=o) :
  (((w.setCell ⟨b,o+4,none⟩ (.int .i64 v.k)).setCell ⟨b,o+4+1,none⟩ (.int .i64 v.n)).setCell ⟨b,o+4+2,none⟩ (.string v.s)).heap[b]?=some (.cells (A++Kll ⟨r,h,s,v,m⟩++D).toArray ty (0,0)):=
 Kli (i:=6) (.string v.s) (Kli (i:=5) (.int .i64 v.n) (Kli (i:=4) (.int .i64 v.k) E y (by simp[Kll])) y (by simp[Kll])) y (by simp[Kll])
theorem Koj {w:World}{b o r h:Nat}{s:Int}{l m:V}{A D:List Value}{ty:TypeId}(v:V)(E:w.heap[b]?=some (.cells (A++Kll ⟨r,h,s,l,m⟩++D).toArray ty (0,0)))(y:A.length=o) :
  (((w.setCell ⟨b,o+7,none⟩ (.int .i64 v.k)).setCell ⟨b,o+7+1,none⟩ (.int .i64 v.n)).setCell ⟨b,o+7+2,none⟩ (.string v.s)).heap[b]?=some (.cells (A++Kll ⟨r,h,s,l,v⟩++D).toArray ty (0,0)):=
 Kli (i:=9) (.string v.s) (Kli (i:=8) (.int .i64 v.n) (Kli (i:=7) (.int .i64 v.k) E y (by simp[Kll])) y (by simp[Kll])) y (by simp[Kll])
theorem Kl6 {w W:World}{b:Nat}(h:Ju (·=b) w W)(o:Nat)(x y z:Value):Ju (·=b) w (((W.setCell ⟨b,o,none⟩ x).setCell ⟨b,o+1,none⟩ y).setCell ⟨b,o+2,none⟩ z):=((h.set rfl _ _).set rfl _ _).set rfl _ _
theorem Kmc {W:World}{b k:Nat}(h:k≠b)(o:Nat)(x y z:Value):(((W.setCell ⟨b,o,none⟩ x).setCell ⟨b,o+1,none⟩ y).setCell ⟨b,o+2,none⟩ z).heap[k]?=W.heap[k]?:=by
 rw[Oa4 _ _ _ _ h,Oa4 _ _ _ _ h,Oa4 _ _ _ _ h]
theorem Kp9 (b o:Nat)(t:Tly)(v:V)(bO bW:List Value)(ty:TypeId)(w:World)(ch:Jg v.n)(hs:Kpn t.sum)(cn:t.rows≤1000000)(cl:t.held≤1000000)(h:w.heap[b]?=some (.cells (bO++Kll t++bW).toArray ty (0,0)))(H:bO.length=o) :
  Calls prog 199 #[.pointer (some ⟨b,o,none⟩),v.val] w fun e w'=>e=.returned (.tuple #[])∧Ju (·=b) w w'∧w'.heap[b]?=some (.cells (bO++Kll (t.add v)++bW).toArray ty (0,0)):=by
 have cf:=Jd h
 go_enter func199,ntmps199
 go_upto_region 1 with fail
 have bZ:Below w.heap.size w (w.alloc (.cells #[.int .i64 v.k,.int .i64 v.n,.string v.s] 63)):=Jc (Oa5 _ _) _
 have bB:=heap_alloc_new w (.cells #[.int .i64 v.k,.int .i64 v.n,.string v.s] 63)
 have h0:=(bZ.block b cf).trans h
 have bU:Ju (·=b) w (w.alloc (.cells #[.int .i64 v.k,.int .i64 v.n,.string v.s] 63)):=.of_below bZ
 have bz:b≠w.heap.size:=by omega
 clear bZ
 generalize w.alloc (.cells #[.int .i64 v.k,.int .i64 v.n,.string v.s] 63)=bC at bB h0 bU ⊢
 generalize w.heap.size=D at bB bz ⊢
 have bL:=Klf.of h0 H
 have Z:bC.cell? ⟨D,0,none⟩=some (.int .i64 v.k):=by simp[World.cell?,bB]
 have R:bC.cell? ⟨D,1,none⟩=some (.int .i64 v.n):=by simp[World.cell?,bB]
 have ba:bC.cell? ⟨D,2,none⟩=some (.string v.s):=by simp[World.cell?,bB]
 have cr:=Jud (t.rows+1) (by omega)
 have cu:=Jud (t.held+1) (by omega)
 have c0:=bL.c0
 have c1:=bL.c1
 have ci:=bL.z o
 have cj:=bL.z (o+1)
 by_cases bH:v.k=0
 ·have q:(v.k==0)=true:=by simp[bH]
  go_wp2
  refine bodyPost_ret (v:=.tuple #[]) (by simp[results,results199,go_sem]) rfl ⟨rfl,bU.set rfl o _,?_⟩
  have e:Kll (t.add v)=(Kll t).set 0 (.int .i64 ((t.rows:Int)+1)):=by simp[Kll,Tly.add,bH]
  rw[e]
  exact Kli (i:=0) _ h0 H (by simp[Kll])
 have q:(v.k==0)=false:=by simp[bH]
 go_upto_region 4 with fail
 have h1:=Kli (i:=1) (.int .i64 ((t.held:Int)+1)) (Kli (i:=0) (.int .i64 ((t.rows:Int)+1)) h0 H (by simp[Kll])) H (by simp[Kll])
 have ca:=(bU.set (b:=b) rfl o (.int .i64 ((t.rows:Int)+1))).set (b:=b) rfl (o+1) (.int .i64 ((t.held:Int)+1))
 have bX:((bC.setCell ⟨b,o,none⟩ (.int .i64 ((t.rows:Int)+1))).setCell ⟨b,o+1,none⟩ (.int .i64 ((t.held:Int)+1))).heap[D]?=some (.cells #[.int .i64 v.k,.int .i64 v.n,.string v.s] 63):=by
  rw[Oa4 _ _ _ _ (Oc5 bz),Oa4 _ _ _ _ (Oc5 bz)];exact bB
 have bT:((bC.setCell ⟨b,o,none⟩ (.int .i64 ((t.rows:Int)+1))).setCell ⟨b,o+1,none⟩ (.int .i64 ((t.held:Int)+1))).heap[b]?=some (.cells (bO++Kll ⟨t.rows+1,t.held+1,t.sum,t.least,t.most⟩++bW).toArray ty (0,0)):=by
  refine h1.trans ?_
  simp[Kll]
 clear h1 bB h0 bU c0 c1 ci cj Z R ba bL
 generalize (bC.setCell ⟨b,o,none⟩ (.int .i64 ((t.rows:Int)+1))).setCell ⟨b,o+1,none⟩ (.int .i64 ((t.held:Int)+1))=bD at bT ca bX ⊢
 have bM:=Klf.of bT H
 have R:bD.cell? ⟨D,1,none⟩=some (.int .i64 v.n):=by simp[World.cell?,bX]
 have cc:=Kpu b (o+2) t.sum v.n bD.drew ch hs bM.c2 bM.c3 (bM.z _) (bM.z _)
 go_region_with (first|(go_at_call 234;refine cc.mono ?_;rintro e bE ⟨rfl,rfl⟩))
 have h2:((bD.setCell ⟨b,o+2+1,none⟩ (.int .u64 ((t.sum+v.n) % 18446744073709551616))).setCell ⟨b,o+2,none⟩ (.int .i64 ((t.sum+v.n) / 18446744073709551616))).heap[b]?=some (.cells (bO++Kll ⟨t.rows+1,t.held+1,t.sum+v.n,t.least,t.most⟩++bW).toArray ty (0,0)):=
  Kli (i:=2) (.int .i64 ((t.sum+v.n) / 18446744073709551616)) (Kli (i:=3) (.int .u64 ((t.sum+v.n) % 18446744073709551616)) bT H (by simp[Kll])) H (by simp[Kll])
 have cb:=(ca.set (b:=b) rfl (o+2+1) (.int .u64 ((t.sum+v.n) % 18446744073709551616))).set (b:=b) rfl (o+2) (.int .i64 ((t.sum+v.n) / 18446744073709551616))
 have bc:((bD.setCell ⟨b,o+2+1,none⟩ (.int .u64 ((t.sum+v.n) % 18446744073709551616))).setCell ⟨b,o+2,none⟩ (.int .i64 ((t.sum+v.n) / 18446744073709551616))).heap[D]?=some (.cells #[.int .i64 v.k,.int .i64 v.n,.string v.s] 63):=by
  rw[Oa4 _ _ _ _ (Oc5 bz),Oa4 _ _ _ _ (Oc5 bz)];exact bX
 have bx:Ju (·=b) w ((bD.setCell ⟨b,o+2+1,none⟩ (.int .u64 ((t.sum+v.n) % 18446744073709551616))).setCell ⟨b,o+2,none⟩ (.int .i64 ((t.sum+v.n) / 18446744073709551616))):=cb
 clear cc bM R bX ca bT cb
 generalize (bD.setCell ⟨b,o+2+1,none⟩ (.int .u64 ((t.sum+v.n) % 18446744073709551616))).setCell ⟨b,o+2,none⟩ (.int .i64 ((t.sum+v.n) / 18446744073709551616))=bE at h2 bc bx ⊢
 have bf:=Klf.of h2 H
 have Z:bE.cell? ⟨D,0,none⟩=some (.int .i64 v.k):=by simp[World.cell?,bc]
 have R:bE.cell? ⟨D,1,none⟩=some (.int .i64 v.n):=by simp[World.cell?,bc]
 have ba:bE.cell? ⟨D,2,none⟩=some (.string v.s):=by simp[World.cell?,bc]
 have c1:=bf.c1
 have c4:=bf.c4
 have c5:=bf.c5
 have c6:=bf.c6
 have c7:=bf.c7
 have c8:=bf.c8
 have c9:=bf.c9
 have z:=bf.z
 simp only at c1 c4 c5 c6 c7 c8 c9
 -- the least
 -- the least
 -- the least
 have U:=fun K=>Kl5 v t.least K
 rcases(show t.held=0∨(t.held≠0∧Jxt v t.least<0)∨(t.held≠0∧¬ Jxt v t.least<0) by omega)with hz|⟨hz,bb⟩|⟨hz,bb⟩
 focus
  have bJ:Hid (v=if t.held=0∨Jxt v t.least<0 then v else t.least):=by show _=_;rw[if_pos (.inl hz)]
  have bA:(((t.held+1:Nat):Int)==1)=true:=by simp[hz]
  go_upto_region 5 with fail
  go_region
  go_upto_region 7 with fail
  have E:=Knq v h2 H
  have X:=Kl6 (b:=b) bx (o+4) (.int .i64 v.k) (.int .i64 v.n) (.string v.s)
  have M:=(Kmc (W:=bE) (b:=b) (Oc5 bz) (o+4) (.int .i64 v.k) (.int .i64 v.n) (.string v.s)).trans bc
  clear h2 bc bx bf Z R ba c1 c4 c5 c6 c7 c8 c9 z U bA
  generalize ((bE.setCell ⟨b,o+4,none⟩ (.int .i64 v.k)).setCell ⟨b,o+4+1,none⟩ (.int .i64 v.n)).setCell ⟨b,o+4+2,none⟩ (.string v.s)=bh at E M X ⊢
  have bA:(((t.held+1:Nat):Int)==1)=true:=by simp[hz]
  have Z:bh.cell? ⟨D,0,none⟩=some (.int .i64 v.k):=by simp[World.cell?,M]
  have R:bh.cell? ⟨D,1,none⟩=some (.int .i64 v.n):=by simp[World.cell?,M]
  have ba:bh.cell? ⟨D,2,none⟩=some (.string v.s):=by simp[World.cell?,M]
  have c1:=(Klf.of E H).c1
  have c7:=(Klf.of E H).c7
  have c8:=(Klf.of E H).c8
  have c9:=(Klf.of E H).c9
  have z:=(Klf.of E H).z
  simp only at c1 c7 c8 c9
  go_region
  go_wp2
  go_end0
  have bK:Hid (v=if t.held=0∨0<Jxt v t.most then v else t.most):=by show _=_;rw[if_pos (.inl hz)]
  refine⟨rfl,Klq (Kl6 (b:=b) X (o+7) (.int .i64 v.k) (.int .i64 v.n) (.string v.s)),?_⟩
  rw[Kpb bH bJ.out bK.out]
  exact Koj v E H
 focus
  have bJ:Hid (v=if t.held=0∨Jxt v t.least<0 then v else t.least):=by show _=_;rw[if_pos (.inr bb)]
  have bA:(((t.held:Nat):Int)+1==1)=false:=by rw[beq_eq_false_iff_ne];omega
  have bn:decide (Jxt v t.least<0)=true:=by simp[bb]
  clear bb
  generalize Jxt v t.least=bY at U bn
  go_upto_region 5 with fail
  refine wp_region_held_drew (S:=fun K=>K.cell? ⟨b,o+1,none⟩=some (.int .i64 (t.held+1:Nat))∧K.cell? ⟨D,0,none⟩=some (.int .i64 v.k)∧K.cell? ⟨D,1,none⟩=some (.int .i64 v.n)∧K.cell? ⟨D,2,none⟩=some (.string v.s)∧K.cell? ⟨b,o+4,none⟩=some (.int .i64 t.least.k)∧K.cell? ⟨b,o+4+1,none⟩=some (.int .i64 t.least.n)∧K.cell? ⟨b,o+4+2,none⟩=some (.string t.least.s)) (by kernel_rfl) ⟨c1,Z,R,ba,c4,c5,c6⟩ (fun y=>?_)
  refine tk 0 ?_ rfl y ?_ (tk 1 ?_ rfl y ?_ (tk 2 ?_ rfl y ?_ (tk 3 ?_ rfl y ?_ (tk 4 ?_ rfl y ?_ (tk 5 ?_ rfl y ?_ ?_)))))
  iterate 6
   rotate_left 1
   ·intro w O;(try dsimp only at O);go_simp;try rfl
  simp only[Act.put,List.getElem_toArray,List.getElem_cons_zero,List.getElem_cons_succ,Oa1,List.set_cons_zero,List.set_cons_succ]
  refine tk 6 ?_ rfl y ?_ (tk 7 ?_ rfl y ?_ (tk 8 ?_ rfl y ?_ (tk 9 ?_ rfl y ?_ (tk 10 ?_ rfl y ?_ ?_))))
  iterate 5
   rotate_left 1
   ·intro w O;(try dsimp only at O);go_simp;try rfl
  simp only[Act.put,List.getElem_toArray,List.getElem_cons_zero,List.getElem_cons_succ,Oa1,List.set_cons_zero,List.set_cons_succ]
  refine wpAnyH_ready (rs:=[11]) (by kernel_rfl) (by simp) (AllReadyH.cons rfl (fun br bi=>?_) AllReadyH.nil)
  go_simp
  refine(U _).mono ?_
  rintro e bN ⟨rfl,A⟩
  go_simp
  refine bi.out _ _ ⟨Ja A y.1,Ja A y.2.1,Ja A y.2.2.1,Ja A y.2.2.2.1,Ja A y.2.2.2.2.1,Ja A y.2.2.2.2.2.1,Ja A y.2.2.2.2.2.2⟩ (fun y=>?_)
  clear bi br
  refine tk 12 ?_ rfl y ?_ (tk 13 ?_ rfl y ?_ ?_)
  iterate 2
   rotate_left 1
   ·intro w O;(try dsimp only at O);go_simp;try rfl
  simp only[Act.put,List.getElem_toArray,List.getElem_cons_zero,List.getElem_cons_succ,Oa1,List.set_cons_zero,List.set_cons_succ]
  refine wpAnyH_done (by kernel_rfl) ?_ _
  have E:=(A.block b (Jd h2)).trans h2
  have M:=(A.block D (Jd bc)).trans bc
  have X:=(Klq bx).trans (Ju.of_below (F:=(·=b)) A)
  have bS:=(Klf.of E H).z
  have bP:bN.cell? ⟨D,0,none⟩=some (.int .i64 v.k):=by simp[World.cell?,M]
  have bQ:bN.cell? ⟨D,1,none⟩=some (.int .i64 v.n):=by simp[World.cell?,M]
  have bR:bN.cell? ⟨D,2,none⟩=some (.string v.s):=by simp[World.cell?,M]
  have bj:=(Klf.of E H).c4
  have bk:=(Klf.of E H).c5
  have bl:=(Klf.of E H).c6
  simp only at bj bk bl
  clear A y h2 bc bx bf Z R ba c1 c4 c5 c6 c7 c8 c9 z U
  go_upto_region 7 with fail
  clear bS bP bQ bR bj bk bl bA bn
  replace X:=Kl6 (b:=b) X (o+4) (.int .i64 v.k) (.int .i64 v.n) (.string v.s)
  replace M:=(Kmc (W:=bN) (b:=b) (Oc5 bz) (o+4) (.int .i64 v.k) (.int .i64 v.n) (.string v.s)).trans M
  replace E:=Knq v E H
  generalize ((bN.setCell ⟨b,o+4,none⟩ (.int .i64 v.k)).setCell ⟨b,o+4+1,none⟩ (.int .i64 v.n)).setCell ⟨b,o+4+2,none⟩ (.string v.s)=bh at E M X ⊢
 rotate_left 1
 focus
  have bJ:Hid (t.least=if t.held=0∨Jxt v t.least<0 then v else t.least):=by show _=_;rw[if_neg (by omega)]
  have bA:(((t.held:Nat):Int)+1==1)=false:=by rw[beq_eq_false_iff_ne];omega
  have bn:decide (Jxt v t.least<0)=false:=by simp[bb]
  clear bb
  generalize Jxt v t.least=bY at U bn
  go_upto_region 5 with fail
  refine wp_region_held_drew (S:=fun K=>K.cell? ⟨b,o+1,none⟩=some (.int .i64 (t.held+1:Nat))∧K.cell? ⟨D,0,none⟩=some (.int .i64 v.k)∧K.cell? ⟨D,1,none⟩=some (.int .i64 v.n)∧K.cell? ⟨D,2,none⟩=some (.string v.s)∧K.cell? ⟨b,o+4,none⟩=some (.int .i64 t.least.k)∧K.cell? ⟨b,o+4+1,none⟩=some (.int .i64 t.least.n)∧K.cell? ⟨b,o+4+2,none⟩=some (.string t.least.s)) (by kernel_rfl) ⟨c1,Z,R,ba,c4,c5,c6⟩ (fun y=>?_)
  refine tk 0 ?_ rfl y ?_ (tk 1 ?_ rfl y ?_ (tk 2 ?_ rfl y ?_ (tk 3 ?_ rfl y ?_ (tk 4 ?_ rfl y ?_ (tk 5 ?_ rfl y ?_ ?_)))))
  iterate 6
   rotate_left 1
   ·intro w O;(try dsimp only at O);go_simp;try rfl
  simp only[Act.put,List.getElem_toArray,List.getElem_cons_zero,List.getElem_cons_succ,Oa1,List.set_cons_zero,List.set_cons_succ]
  refine tk 6 ?_ rfl y ?_ (tk 7 ?_ rfl y ?_ (tk 8 ?_ rfl y ?_ (tk 9 ?_ rfl y ?_ (tk 10 ?_ rfl y ?_ ?_))))
  iterate 5
   rotate_left 1
   ·intro w O;(try dsimp only at O);go_simp;try rfl
  simp only[Act.put,List.getElem_toArray,List.getElem_cons_zero,List.getElem_cons_succ,Oa1,List.set_cons_zero,List.set_cons_succ]
  refine wpAnyH_ready (rs:=[11]) (by kernel_rfl) (by simp) (AllReadyH.cons rfl (fun br bi=>?_) AllReadyH.nil)
  go_simp
  refine(U _).mono ?_
  rintro e bh ⟨rfl,A⟩
  go_simp
  refine bi.out _ _ ⟨Ja A y.1,Ja A y.2.1,Ja A y.2.2.1,Ja A y.2.2.2.1,Ja A y.2.2.2.2.1,Ja A y.2.2.2.2.2.1,Ja A y.2.2.2.2.2.2⟩ (fun y=>?_)
  clear bi br
  refine tk 12 ?_ rfl y ?_ (tk 13 ?_ rfl y ?_ ?_)
  iterate 2
   rotate_left 1
   ·intro w O;(try dsimp only at O);go_simp;try rfl
  simp only[Act.put,List.getElem_toArray,List.getElem_cons_zero,List.getElem_cons_succ,Oa1,List.set_cons_zero,List.set_cons_succ]
  refine wpAnyH_done (by kernel_rfl) ?_ _
  have E:=(A.block b (Jd h2)).trans h2
  have M:=(A.block D (Jd bc)).trans bc
  have X:=(Klq bx).trans (Ju.of_below (F:=(·=b)) A)
  have bS:=(Klf.of E H).z
  have bP:bh.cell? ⟨D,0,none⟩=some (.int .i64 v.k):=by simp[World.cell?,M]
  have bQ:bh.cell? ⟨D,1,none⟩=some (.int .i64 v.n):=by simp[World.cell?,M]
  have bR:bh.cell? ⟨D,2,none⟩=some (.string v.s):=by simp[World.cell?,M]
  have bj:=(Klf.of E H).c4
  have bk:=(Klf.of E H).c5
  have bl:=(Klf.of E H).c6
  simp only at bj bk bl
  clear A y h2 bc bx bf Z R ba c1 c4 c5 c6 c7 c8 c9 z U
  go_upto_region 7 with fail
  clear bS bP bQ bR bj bk bl bA bn
 rotate_left 1
 all_goals
  have Z:bh.cell? ⟨D,0,none⟩=some (.int .i64 v.k):=by simp[World.cell?,M]
  have R:bh.cell? ⟨D,1,none⟩=some (.int .i64 v.n):=by simp[World.cell?,M]
  have ba:bh.cell? ⟨D,2,none⟩=some (.string v.s):=by simp[World.cell?,M]
  have c1:=(Klf.of E H).c1
  have c7:=(Klf.of E H).c7
  have c8:=(Klf.of E H).c8
  have c9:=(Klf.of E H).c9
  simp only at c1 c7 c8 c9
  have U:=fun K=>Kl5 v t.most K
  have bA:(((t.held:Nat):Int)+1==1)=false:=by rw[beq_eq_false_iff_ne];omega
  have bV:=X
  have bG:=E
  have bI:=M
  clear X E M
  by_cases bb:0<Jxt v t.most
  ·have bK:Hid (v=if t.held=0∨0<Jxt v t.most then v else t.most):=by show _=_;rw[if_pos (.inr bb)]
   have bn:decide (0<Jxt v t.most)=true:=by simp[bb]
   clear bb
   generalize Jxt v t.most=bY at U bn
   refine wp_region_held_drew (S:=fun K=>K.cell? ⟨b,o+1,none⟩=some (.int .i64 (t.held+1:Nat))∧K.cell? ⟨D,0,none⟩=some (.int .i64 v.k)∧K.cell? ⟨D,1,none⟩=some (.int .i64 v.n)∧K.cell? ⟨D,2,none⟩=some (.string v.s)∧K.cell? ⟨b,o+7,none⟩=some (.int .i64 t.most.k)∧K.cell? ⟨b,o+7+1,none⟩=some (.int .i64 t.most.n)∧K.cell? ⟨b,o+7+2,none⟩=some (.string t.most.s)) (by kernel_rfl) ⟨c1,Z,R,ba,c7,c8,c9⟩ (fun y=>?_)
   refine tk 0 ?_ rfl y ?_ (tk 1 ?_ rfl y ?_ (tk 2 ?_ rfl y ?_ (tk 3 ?_ rfl y ?_ (tk 4 ?_ rfl y ?_ (tk 5 ?_ rfl y ?_ ?_)))))
   iterate 6
    rotate_left 1
    ·intro w O;(try dsimp only at O);go_simp;try rfl
   simp only[Act.put,List.getElem_toArray,List.getElem_cons_zero,List.getElem_cons_succ,Oa1,List.set_cons_zero,List.set_cons_succ]
   refine tk 6 ?_ rfl y ?_ (tk 7 ?_ rfl y ?_ (tk 8 ?_ rfl y ?_ (tk 9 ?_ rfl y ?_ (tk 10 ?_ rfl y ?_ ?_))))
   iterate 5
    rotate_left 1
    ·intro w O;(try dsimp only at O);go_simp;try rfl
   simp only[Act.put,List.getElem_toArray,List.getElem_cons_zero,List.getElem_cons_succ,Oa1,List.set_cons_zero,List.set_cons_succ]
   refine wpAnyH_ready (rs:=[11]) (by kernel_rfl) (by simp) (AllReadyH.cons rfl (fun br bi=>?_) AllReadyH.nil)
   go_simp
   refine(U _).mono ?_
   rintro e bu ⟨rfl,A⟩
   go_simp
   refine bi.out _ _ ⟨Ja A y.1,Ja A y.2.1,Ja A y.2.2.1,Ja A y.2.2.2.1,Ja A y.2.2.2.2.1,Ja A y.2.2.2.2.2.1,Ja A y.2.2.2.2.2.2⟩ (fun y=>?_)
   clear bi br
   refine tk 12 ?_ rfl y ?_ (tk 13 ?_ rfl y ?_ ?_)
   iterate 2
    rotate_left 1
    ·intro w O;(try dsimp only at O);go_simp;try rfl
   simp only[Act.put,List.getElem_toArray,List.getElem_cons_zero,List.getElem_cons_succ,Oa1,List.set_cons_zero,List.set_cons_succ]
   refine wpAnyH_done (by kernel_rfl) ?_ _
   have E:=(A.block b (Jd bG)).trans bG
   have M:=(A.block D (Jd bI)).trans bI
   have X:=(Klq (Klq bV)).trans (Ju.of_below (F:=(·=b)) A)
   have bS:=(Klf.of E H).z
   have bP:bu.cell? ⟨D,0,none⟩=some (.int .i64 v.k):=by simp[World.cell?,M]
   have bQ:bu.cell? ⟨D,1,none⟩=some (.int .i64 v.n):=by simp[World.cell?,M]
   have bR:bu.cell? ⟨D,2,none⟩=some (.string v.s):=by simp[World.cell?,M]
   have bj:=(Klf.of E H).c7
   have bk:=(Klf.of E H).c8
   have bl:=(Klf.of E H).c9
   simp only at bj bk bl
   clear A y bV bG bI Z R ba c1 c7 c8 c9 U
   go_wp2
   go_end0
   refine⟨rfl,Kl6 (b:=b) X (o+7) (.int .i64 v.k) (.int .i64 v.n) (.string v.s),?_⟩
   rw[Kpb bH bJ.out bK.out]
   exact Koj v E H
  have bK:Hid (t.most=if t.held=0∨0<Jxt v t.most then v else t.most):=by show _=_;rw[if_neg (by omega)]
  have bn:decide (0<Jxt v t.most)=false:=by simp[bb]
  clear bb
  generalize Jxt v t.most=bY at U bn
  refine wp_region_held_drew (S:=fun K=>K.cell? ⟨b,o+1,none⟩=some (.int .i64 (t.held+1:Nat))∧K.cell? ⟨D,0,none⟩=some (.int .i64 v.k)∧K.cell? ⟨D,1,none⟩=some (.int .i64 v.n)∧K.cell? ⟨D,2,none⟩=some (.string v.s)∧K.cell? ⟨b,o+7,none⟩=some (.int .i64 t.most.k)∧K.cell? ⟨b,o+7+1,none⟩=some (.int .i64 t.most.n)∧K.cell? ⟨b,o+7+2,none⟩=some (.string t.most.s)) (by kernel_rfl) ⟨c1,Z,R,ba,c7,c8,c9⟩ (fun y=>?_)
  refine tk 0 ?_ rfl y ?_ (tk 1 ?_ rfl y ?_ (tk 2 ?_ rfl y ?_ (tk 3 ?_ rfl y ?_ (tk 4 ?_ rfl y ?_ (tk 5 ?_ rfl y ?_ ?_)))))
  iterate 6
   rotate_left 1
   ·intro w O;(try dsimp only at O);go_simp;try rfl
  simp only[Act.put,List.getElem_toArray,List.getElem_cons_zero,List.getElem_cons_succ,Oa1,List.set_cons_zero,List.set_cons_succ]
  refine tk 6 ?_ rfl y ?_ (tk 7 ?_ rfl y ?_ (tk 8 ?_ rfl y ?_ (tk 9 ?_ rfl y ?_ (tk 10 ?_ rfl y ?_ ?_))))
  iterate 5
   rotate_left 1
   ·intro w O;(try dsimp only at O);go_simp;try rfl
  simp only[Act.put,List.getElem_toArray,List.getElem_cons_zero,List.getElem_cons_succ,Oa1,List.set_cons_zero,List.set_cons_succ]
  refine wpAnyH_ready (rs:=[11]) (by kernel_rfl) (by simp) (AllReadyH.cons rfl (fun br bi=>?_) AllReadyH.nil)
  go_simp
  refine(U _).mono ?_
  rintro e bu ⟨rfl,A⟩
  go_simp
  refine bi.out _ _ ⟨Ja A y.1,Ja A y.2.1,Ja A y.2.2.1,Ja A y.2.2.2.1,Ja A y.2.2.2.2.1,Ja A y.2.2.2.2.2.1,Ja A y.2.2.2.2.2.2⟩ (fun y=>?_)
  clear bi br
  refine tk 12 ?_ rfl y ?_ (tk 13 ?_ rfl y ?_ ?_)
  iterate 2
   rotate_left 1
   ·intro w O;(try dsimp only at O);go_simp;try rfl
  simp only[Act.put,List.getElem_toArray,List.getElem_cons_zero,List.getElem_cons_succ,Oa1,List.set_cons_zero,List.set_cons_succ]
  refine wpAnyH_done (by kernel_rfl) ?_ _
  have E:=(A.block b (Jd bG)).trans bG
  have M:=(A.block D (Jd bI)).trans bI
  have X:=(Klq (Klq bV)).trans (Ju.of_below (F:=(·=b)) A)
  have bS:=(Klf.of E H).z
  have bP:bu.cell? ⟨D,0,none⟩=some (.int .i64 v.k):=by simp[World.cell?,M]
  have bQ:bu.cell? ⟨D,1,none⟩=some (.int .i64 v.n):=by simp[World.cell?,M]
  have bR:bu.cell? ⟨D,2,none⟩=some (.string v.s):=by simp[World.cell?,M]
  have bj:=(Klf.of E H).c7
  have bk:=(Klf.of E H).c8
  have bl:=(Klf.of E H).c9
  simp only at bj bk bl
  clear A y bV bG bI Z R ba c1 c7 c8 c9 U
  go_wp2
  go_end0
  refine⟨rfl,X,?_⟩
  rw[Kpb bH bJ.out bK.out]
  exact E
def Kk8 (t:Tly)(fn:Nat):V×Bool:=if fn=1 then (Jbg (t.rows:Nat),true)else if fn=2 then (Jbg (t.held:Nat),true)else if fn=3 then (if t.held=0 then (Jf,true)else if -9223372036854775808≤t.sum∧t.sum≤9223372036854775807 then (Jbg t.sum,true)else (Jf,false))else if fn=4 then (t.least,true)else (t.most,true)
def Krm (y:Addr)(ok:Bool):Value:=if ok then .nilIface else .iface 435 (.pointer (some y))
def Kmq (y:Addr)(r:V×Bool)(w:World):Ending→World→Prop:=fun e w'=>e=.returned (.tuple #[r.1.val,Krm y r.2])∧Below w.heap.size w w'
theorem Kmn (n:Int)(w:World):Calls prog 289 #[.int .i64 n] w fun e w'=>e=.returned (Jbg n).val∧w'=Jak w (Jbg n):=by
 go_enter func289,ntmps289
 go_wp2
 exact bodyPost_ret (v:=(Jbg n).val) (by simp[results,results289,go_sem]) rfl ⟨rfl,rfl⟩
theorem Ko6 (b o:Nat)(s:Int)(w:World)(h0:w.cell? ⟨b,o,none⟩=some (.int .i64 (s / 18446744073709551616)))(h1:w.cell? ⟨b,o+1,none⟩=some (.int .u64 (s % 18446744073709551616))) :
  Calls prog 290 #[.pointer (some ⟨b,o,none⟩)] w fun e w'=>e=.returned (.bool (decide (-9223372036854775808≤s∧s≤9223372036854775807)))∧w'=w.drew:=by
 have e:Hid ((s / 18446744073709551616==wrap64 (s % 18446744073709551616) / 9223372036854775808)=decide (-9223372036854775808≤s∧s≤9223372036854775807)):=by
  show _=_
  rw[On7]
  simp only[beq_iff_eq,decide_eq_true_eq]
  unfold wrap64
  omega
 go_enter func290,ntmps290
 go_wp2
 go_region
 go_wp2
 go_ret
 rw[e.out]
 exact⟨rfl,rfl⟩
theorem Kmv (b o:Nat)(t:Tly)(w:World)(y:Addr)(h:Klf w b o t):Calls prog 272 #[.pointer (some ⟨b,o,none⟩)] w (Kmq y (Kk8 t 1) w):=by
 have c:=Kf (o:=.cells #[.int .i64 0,.int .i64 0,.string ⟨#[]⟩] 63) h.c0
 go_enter func272,ntmps272
 go_wp2_with (go_at_call 289;refine(Kmn _ _).mono ?_;rintro e A ⟨rfl,rfl⟩)
 exact bodyPost_ret (v:=.tuple #[(Jbg (t.rows:Nat)).val,.nilIface]) (by simp[results,results272,go_sem]) rfl ⟨rfl,Jc (Jc (Oa5 _ _) _) _⟩
theorem Koh (b o:Nat)(t:Tly)(w:World)(y:Addr)(h:Klf w b o t):Calls prog 273 #[.pointer (some ⟨b,o,none⟩)] w (Kmq y (Kk8 t 2) w):=by
 have c:=Kf (o:=.cells #[.int .i64 0,.int .i64 0,.string ⟨#[]⟩] 63) h.c1
 go_enter func273,ntmps273
 go_wp2_with (go_at_call 289;refine(Kmn _ _).mono ?_;rintro e A ⟨rfl,rfl⟩)
 exact bodyPost_ret (v:=.tuple #[(Jbg (t.held:Nat)).val,.nilIface]) (by simp[results,results273,go_sem]) rfl ⟨rfl,Jc (Jc (Oa5 _ _) _) _⟩
theorem Kn3 (b o:Nat)(t:Tly)(w:World)(y:Addr)(h:Klf w b o t):Calls prog 275 #[.pointer (some ⟨b,o,none⟩)] w (Kmq y (Kk8 t 4) w):=by
 have A:=Kf (o:=.cells #[.int .i64 0,.int .i64 0,.string ⟨#[]⟩] 63) h.c4
 have D:=Kf (o:=.cells #[.int .i64 0,.int .i64 0,.string ⟨#[]⟩] 63) h.c5
 have E:=Kf (o:=.cells #[.int .i64 0,.int .i64 0,.string ⟨#[]⟩] 63) h.c6
 go_enter func275,ntmps275
 go_wp2
 exact bodyPost_ret (v:=.tuple #[t.least.val,.nilIface]) (by simp[results,results275,go_sem]) rfl ⟨rfl,Jc (Oa5 _ _) _⟩
theorem Kng (b o:Nat)(t:Tly)(w:World)(y:Addr)(h:Klf w b o t):Calls prog 276 #[.pointer (some ⟨b,o,none⟩)] w (Kmq y (Kk8 t 5) w):=by
 have A:=Kf (o:=.cells #[.int .i64 0,.int .i64 0,.string ⟨#[]⟩] 63) h.c7
 have D:=Kf (o:=.cells #[.int .i64 0,.int .i64 0,.string ⟨#[]⟩] 63) h.c8
 have E:=Kf (o:=.cells #[.int .i64 0,.int .i64 0,.string ⟨#[]⟩] 63) h.c9
 go_enter func276,ntmps276
 go_wp2
 exact bodyPost_ret (v:=.tuple #[t.most.val,.nilIface]) (by simp[results,results276,go_sem]) rfl ⟨rfl,Jc (Oa5 _ _) _⟩
theorem Koo (b o:Nat)(t:Tly)(w:World)(D:Addr)(h:Klf w b o t)(K:w.cell? ⟨12,0,none⟩=some (.iface 435 (.pointer (some D)))):Calls prog 274 #[.pointer (some ⟨b,o,none⟩)] w (Kmq D (Kk8 t 3) w):=by
 have H:Below w.heap.size w (w.alloc (.cells #[.int .i64 0,.int .i64 0,.string ⟨#[]⟩] 63)):=Jc (Oa5 _ _) _
 have c1:=Kf (o:=.cells #[.int .i64 0,.int .i64 0,.string ⟨#[]⟩] 63) h.c1
 have c2:=Kf (o:=.cells #[.int .i64 0,.int .i64 0,.string ⟨#[]⟩] 63) h.c2
 have c3:=Kf (o:=.cells #[.int .i64 0,.int .i64 0,.string ⟨#[]⟩] 63) h.c3
 have y:=Ko6 b (o+2) t.sum _ c2 c3
 by_cases A:t.held=0
 ·have M:(((t.held:Nat):Int)==0)=true:=by simp[A]
  have e:Kk8 t 3=(Jf,true):=by simp[Kk8,A]
  rw[e]
  go_enter func274,ntmps274
  go_wp2
  exact bodyPost_ret (v:=.tuple #[Jf.val,.nilIface]) (by simp[results,results274,go_sem,Jf]) rfl ⟨rfl,H⟩
 have M:(((t.held:Nat):Int)==0)=false:=by rw[beq_eq_false_iff_ne];omega
 by_cases hf:-9223372036854775808≤t.sum∧t.sum≤9223372036854775807
 ·have e:Kk8 t 3=(Jbg t.sum,true):=by simp[Kk8,A,hf]
  have R:wrap64 (t.sum % 18446744073709551616)=t.sum:=by unfold wrap64;omega
  rw[e]
  rw[decide_eq_true hf]at y
  have O:Hid (-9223372036854775808≤t.sum∧t.sum≤9223372036854775807):=hf
  clear hf
  go_enter func274,ntmps274
  go_wp2_with (first|(go_at_call 290;refine y.mono ?_;rintro e E ⟨rfl,rfl⟩)|(go_at_call 289;refine(Kmn _ _).mono ?_;rintro e E ⟨rfl,rfl⟩))
  exact bodyPost_ret (v:=.tuple #[(Jbg t.sum).val,.nilIface]) (by simp[results,results274,go_sem]) rfl ⟨rfl,Jj (Jc (Jc (Oa5 _ _) _) _)⟩
 have e:Kk8 t 3=(Jf,false):=by
  unfold Kk8
  rw[if_neg (by omega),if_neg (by omega),if_pos rfl,if_neg A,if_neg hf]
 have g1:=Kf (o:=.cells #[.int .i64 0,.int .i64 0,.string ⟨#[]⟩] 63) K
 rw[e]
 rw[decide_eq_false hf]at y
 clear hf
 go_enter func274,ntmps274
 go_wp2_with (first|(go_at_call 290;refine y.mono ?_;rintro e E ⟨rfl,rfl⟩))
 go_region
 go_wp2
 exact bodyPost_ret (v:=.tuple #[Jf.val,.iface 435 (.pointer (some D))]) (by simp[results,results274,go_sem,Jf]) rfl ⟨rfl,Jj (Jj H)⟩
def tlF (fn:Nat):Nat:=if fn=1 then 272 else if fn=2 then 273 else if fn=3 then 274 else if fn=4 then 275 else 276
abbrev tlC (b o:Nat):Array Value:=#[.nilFunc,.func (.func 272) #[.pointer (some ⟨b,o,none⟩)] #[],.func (.func 273) #[.pointer (some ⟨b,o,none⟩)] #[],.func (.func 274) #[.pointer (some ⟨b,o,none⟩)] #[],.func (.func 275) #[.pointer (some ⟨b,o,none⟩)] #[],.func (.func 276) #[.pointer (some ⟨b,o,none⟩)] #[]]
theorem Kre (b o fn:Nat)(t:Tly)(w:World)(y:Addr)(h:Klf w b o t)(A:w.cell? ⟨12,0,none⟩=some (.iface 435 (.pointer (some y))))(h1:1≤fn)(D:fn≤5):Calls prog (tlF fn) #[.pointer (some ⟨b,o,none⟩)] w (Kmq y (Kk8 t fn) w):=by
 rcases(show fn=1∨fn=2∨fn=3∨fn=4∨fn=5 by omega)with rfl|rfl|rfl|rfl|rfl
 ·exact Kmv b o t w y h
 ·exact Koh b o t w y h
 ·exact Koo b o t w y h A
 ·exact Kn3 b o t w y h
 exact Kng b o t w y h
theorem Kpz (fn:Nat)(args:Array Value)(W:World):(callFunc (tlF fn) args).run prog W=.ok (.enter (tlF fn) args) W:=by
 unfold tlF
 repeat' split
 all_goals kernel_rfl
theorem Kro (b o fn:Nat)(h1:1≤fn)(y:fn≤5)(w:World):(Instr.index 392 (.agg (tlC b o)) (.int .i64 (fn:Nat))).run prog w=.ok (.func (.func (tlF fn)) #[.pointer (some ⟨b,o,none⟩)] #[]) w:=by
 rcases(show fn=1∨fn=2∨fn=3∨fn=4∨fn=5 by omega)with rfl|rfl|rfl|rfl|rfl<;>kernel_rfl
theorem Klf.below {w w':World}{b o:Nat}{t:Tly}(h:Klf w b o t)(y:Below w.heap.size w w'):Klf w' b o t:=
 ⟨Ja y h.c0,Ja y h.c1,Ja y h.c2,Ja y h.c3,Ja y h.c4,Ja y h.c5,Ja y h.c6,Ja y h.c7,Ja y h.c8,Ja y h.c9,fun i=>(Ol7 (y.block b (Jm h.c0))).trans (h.z i)⟩
theorem Kog (b o:Nat)(w:World):Calls prog 236 #[.pointer (some ⟨b,o,none⟩)] w fun e w'=>e=.returned (.agg (tlC b o))∧Below w.heap.size w w':=by
 have y:∀ (f:Nat) (a:Addr) (W:World),(store a (.func (.func f) #[.pointer (some ⟨b,o,none⟩)] #[])).run prog W=stored prog W a (.func (.func f) #[.pointer (some ⟨b,o,none⟩)] #[]) .plain:=fun f a W=>run_store _ _ _ _ _ rfl
 have A:∀ (a:Addr) (W:World),(store a .nilFunc).run prog W=stored prog W a .nilFunc .plain:=fun a W=>run_store _ _ _ _ _ rfl
 go_enter func236,ntmps236
 go_wp2
 exact bodyPost_ret (v:=.agg (tlC b o)) (by simp[results,results236,go_sem]) rfl ⟨rfl,(by repeat (first|exact Oa5 _ _|refine Jc ?_ _|refine Jj ?_))⟩
def vC (v:V):List Value:=[.int .i64 v.k,.int .i64 v.n,.string v.s]
def grC (m:List V)(y:List Tly):List Value:=m.flatMap vC++y.flatMap Kll
structure Kl1 (w:World) (gb:Nat) (m:List V) (ts:List Tly):Prop where
 cells:w.heap[gb]?=some (.cells (grC m ts).toArray 352 (0,0))
 lm:m.length=4
 lt:ts.length=4
theorem Ko7 (m:List V):(m.flatMap vC).length=3*m.length:=by
 induction m with
 |nil=>rfl
 |cons v m y=>rw[Og7,Oa8,y,List.length_cons];simp[vC];omega
theorem Kqs (y:List Tly):(y.flatMap Kll).length=10*y.length:=by
 induction y with
 |nil=>rfl
 |cons t y A=>rw[Og7,Oa8,A,List.length_cons];simp[Kll];omega
theorem Kmx {α:Type}(l:List α)(k:Nat)(x:α)(h:l[k]?=some x):l=l.take k++x::l.drop (k+1):=by
 obtain⟨y,e⟩:=Ob9.1 h
 rw[←e,←Oi1 y,Ok3]
theorem Kny {m:List V}{y:List Tly}{k:Nat}{t:Tly}(h:y[k]?=some t):grC m y=(m.flatMap vC++(y.take k).flatMap Kll)++Kll t++(y.drop (k+1)).flatMap Kll:=by
 unfold grC
 conv=>lhs;rw[Kmx y k t h]
 rw[Oe8,Og7]
 simp only[Od8]
theorem Kq9 {m:List V}{y:List Tly}{k:Nat}{t u:Tly}(h:y[k]?=some t):grC m (y.set k u)=(m.flatMap vC++(y.take k).flatMap Kll)++Kll u++(y.drop (k+1)).flatMap Kll:=by
 obtain⟨A,_⟩:=Ob9.1 h
 rw[Kny (k:=k) (t:=u) (by simp[A])]
 congr 2
 ·rw[List.take_set_of_le (Oa2 _)]
 rw[List.drop_set_of_lt (by omega)]
theorem Kpp {m:List V}{y:List Tly}{k:Nat}(A:m.length=4)(D:k≤y.length):(m.flatMap vC++(y.take k).flatMap Kll).length=12+k*10:=by
 rw[Oa8,Ko7,Kqs,Oc7,A]
 omega
theorem Krf {m:List V}{y:List Tly}{k:Nat}{v:V}(h:m[k]?=some v):grC m y=(m.take k).flatMap vC++vC v++((m.drop (k+1)).flatMap vC++y.flatMap Kll):=by
 unfold grC
 conv=>lhs;rw[Kmx m k v h]
 rw[Oe8,Og7]
 simp only[Od8]
theorem Kl1.tly {w:World}{y:Nat}{m:List V}{E:List Tly}{k:Nat}{t:Tly}(h:Kl1 w y m E)(D:E[k]?=some t):Klf w y (12+k*10) t:=by
 have A:=h.cells
 rw[Kny D]at A
 exact Klf.of A (Kpp h.lm (by have:=(Ob9.1 D).1;omega))
theorem Kl1.val {w:World}{y:Nat}{m:List V}{H:List Tly}{k:Nat}{v:V}(h:Kl1 w y m H)(E:m[k]?=some v):w.cell? ⟨y,k*3,none⟩=some (.int .i64 v.k)∧w.cell? ⟨y,k*3+1,none⟩=some (.int .i64 v.n)∧w.cell? ⟨y,k*3+2,none⟩=some (.string v.s):=by
 have A:=h.cells
 rw[Krf E]at A
 have D:((m.take k).flatMap vC).length=k*3:=by
  have:=(Ob9.1 E).1
  rw[Ko7,Oc7]
  omega
 exact⟨Klb (i:=0) A D rfl,Klb (i:=1) A D rfl,Klb (i:=2) A D rfl⟩
def Km5 (m:List V)(y:List Tly)(k fn:Nat):V×Bool:=if fn=0 then (m.getD k Jf,true)else Kk8 (y.getD k Klg) fn
theorem Kp1 (A k fn:Nat)(m:List V)(y:List Tly)(w:World)(E:Addr)(h:Kl1 w A m y)(bE:k<4)(hf:fn≤5)(bn:w.cell? ⟨12,0,none⟩=some (.iface 435 (.pointer (some E)))) :
  Calls prog 200 #[.pointer (some ⟨A,0,none⟩),.int .i64 (k:Nat),.int .i64 (fn:Nat)] w (Kmq E (Km5 m y k fn) w):=by
 have O:Below w.heap.size w (w.alloc (.cells #[.int .i64 0,.int .i64 0,.string ⟨#[]⟩] 63)):=Jc (Oa5 _ _) _
 have bi:m[k]?=some (m.getD k Jf):=by
  have:=h.lm
  rw[Oa3 (by omega),Oa0,Oa3 (by omega)];rfl
 have bj:y[k]?=some (y.getD k Klg):=by
  have:=h.lt
  rw[Oa3 (by omega),Oa0,Oa3 (by omega)];rfl
 by_cases h0:fn=0
 ·subst h0
  obtain⟨R,U,X⟩:=h.val bi
  have e:Km5 m y k 0=(m.getD k Jf,true):=rfl
  rw[e]
  generalize m.getD k Jf=v at R U X ⊢
  have R:=Kf (o:=.cells #[.int .i64 0,.int .i64 0,.string ⟨#[]⟩] 63) R
  have U:=Kf (o:=.cells #[.int .i64 0,.int .i64 0,.string ⟨#[]⟩] 63) U
  have X:=Kf (o:=.cells #[.int .i64 0,.int .i64 0,.string ⟨#[]⟩] 63) X
  have bu:(k:Int)<4:=by omega
  go_enter func200,ntmps200
  go_wp2
  exact bodyPost_ret (v:=.tuple #[v.val,.nilIface]) (by simp[results,results200,go_sem]) rfl ⟨rfl,Jc (Oa5 _ _) _⟩
 have ba:=(h.tly bj).below O
 have bh:=Ja O bn
 have e:Km5 m y k fn=Kk8 (y.getD k Klg) fn:=by unfold Km5;rw[if_neg h0]
 rw[e]
 have K:Hid (∀ D,Below (w.alloc (.cells #[.int .i64 0,.int .i64 0,.string ⟨#[]⟩] 63)).heap.size (w.alloc (.cells #[.int .i64 0,.int .i64 0,.string ⟨#[]⟩] 63)) D→Calls prog (tlF fn) #[.pointer (some ⟨A,12+k*10,none⟩)] D (Kmq E (Kk8 (y.getD k Klg) fn) D)):=fun D bb=>Kre A (12+k*10) fn _ D E (ba.below bb) (Ja bb bh) (by omega) hf
 generalize Kk8 (y.getD k Klg) fn=r at K ⊢
 have Z:=heap_alloc_new w (.cells #[.int .i64 0,.int .i64 0,.string ⟨#[]⟩] 63)
 have bl:=Kpz fn
 have bH:(((fn:Nat):Int)==0)=false:=by rw[beq_eq_false_iff_ne];omega
 have bu:(k:Int)<4:=by omega
 have bG:(fn:Int)<6:=by omega
 have br:=Kro A (12+k*10) fn (by omega) hf
 clear e ba bh bj bi
 generalize tlF fn=F at K bl br
 go_enter func200,ntmps200
 generalize bD:w.alloc (.cells #[.int .i64 0,.int .i64 0,.string ⟨#[]⟩] 63)=bB at *
 go_wp2_with (first|(go_at_call 236;refine(Kog A (12+k*10) _).mono ?_;rintro e bC ⟨rfl,bc⟩))
 refine(K.out _ bc).mono ?_
 rintro e M ⟨rfl,bk⟩
 have bf:=Jb bc bk
 have H:=(bf.block _ (Jd Z)).trans Z
 have bx:M.cell? ⟨w.heap.size,0,none⟩=some (.int .i64 0):=by simp[World.cell?,H]
 have bz:M.cell? ⟨w.heap.size,1,none⟩=some (.int .i64 0):=by simp[World.cell?,H]
 have bA:M.cell? ⟨w.heap.size,2,none⟩=some (.string ⟨#[]⟩):=by simp[World.cell?,H]
 have bI:=Km8 H
 go_wp2
 exact bodyPost_ret (v:=.tuple #[r.1.val,Krm E r.2]) (by simp[results,results200,go_sem,bx,bz,bA]) rfl ⟨rfl,(((Jb O bf).setCell (p:=⟨w.heap.size,0,none⟩) (Oa2 _) _).setCell (p:=⟨w.heap.size,1,none⟩) (Oa2 _) _).setCell (p:=⟨w.heap.size,2,none⟩) (Oa2 _) _⟩
end Go.Proofs.YtdlgbphkaicfaaaGreatDoor
namespace Go.Proofs.YtdlgbphkaicfaaaGreatDoor
open Go.RowKit Go.Shelf Go.Maps Tryz
theorem Kl8:Keyed prog 302:=Keyed.of_law (deep_law_laid (by kernel_rfl) (m:=4) (by omega) (of_decide_eq_true (by kernel_rfl)) (by kernel_rfl) (by kernel_rfl))
def Km9 (v:V):Prop:=Jg v.k∧Jg v.n∧v.s.size≤maxLen
def vL (v:V):List Lit:=[.int .i64 v.k,.int .i64 v.n,.string v.s.data.toList]
def gmV (m:List V):Value:=.agg (m.flatMap vC).toArray
def gmL (m:List V):Lit:=.string (keyBytes (m.flatMap vL))
theorem Koe (t:TypeId)(d:Nat)(n:Int)(y:prog.underlying t=some (.int .i64))(h:Jg n):prog.keyLits (d+1) t [.int .i64 n]=some [.int .i64 n]:=by
 unfold Program.keyLits
 rw[y]
 exact if_pos ⟨rfl,WalkArith.wf_i64 (by unfold Jg at h;omega)⟩
theorem Kql (t:TypeId)(d:Nat)(s:ByteArray)(y:prog.underlying t=some .string)(h:s.size≤maxLen):prog.keyLits (d+1) t [.string s]=some [.string s.data.toList]:=by
 unfold Program.keyLits
 rw[y]
 exact if_pos h
theorem Kml (d:Nat)(v:V)(h:Km9 v):prog.keyLits (d+1+1) 63 (vC v)=some (vL v):=by
 have h1:=Koe 3 d v.k (by kernel_rfl) h.1
 have h2:=Koe 2 d v.n (by kernel_rfl) h.2.1
 have y:=Kql 9 d v.s (by kernel_rfl) h.2.2
 have c0:prog.cellsOf 63=3:=by kernel_rfl
 have c1:prog.cellsOf 3=1:=by kernel_rfl
 have c2:prog.cellsOf 2=1:=by kernel_rfl
 have c3:prog.cellsOf 9=1:=by kernel_rfl
 unfold Program.keyLits
 rw[underlying63]
 simp only[vC,c0]
 rw[if_pos ⟨rfl,by simp⟩]
 simp[List.mapM_cons,c1,c2,c3,h1,h2,y,vL]
theorem Kpv (d:Nat)(a b c e:V)(E:Km9 a)(H:Km9 b)(K:Km9 c)(M:Km9 e):prog.keyLits (d+1+1+1) 302 ([a,b,c,e].flatMap vC)=some ([a,b,c,e].flatMap vL):=by
 have c0:prog.cellsOf 302=12:=by kernel_rfl
 have c1:prog.cellsOf 63=3:=by kernel_rfl
 have y:=Kml d a E
 have A:=Kml d b H
 have gc:=Kml d c K
 have D:=Kml d e M
 unfold Program.keyLits
 rw[underlying302]
 simp only[c0]
 rw[if_pos (by simp[vC])]
 simp only[vC]at y A gc D
 simp[List.range,List.range.loop,List.mapM_cons,c1,vC,y,A,gc,D]
theorem Kl3 (m:List V)(A:m.length=4)(h:∀ v∈m,Km9 v):keyOf prog 302 (gmV m)=some (gmL m):=by
 match m,A with
 |[a,b,c,e],_=>
  have y:=Kpv (prog.types.size-2) a b c e (h a (by simp)) (h b (by simp)) (h c (by simp)) (h e (by simp))
  have hs:2≤prog.types.size:=of_decide_eq_true (by kernel_rfl)
  rw[show prog.types.size-2+1+1+1=prog.types.size+1 by omega]at y
  have D:prog.keyType 302=true:=by kernel_rfl
  have c0:prog.cellsOf 302=12:=by kernel_rfl
  have hf:(gmV [a,b,c,e]).formed prog 302=true:=by simp[gmV,Value.formed,underlying302,c0,vC]
  unfold keyOf
  rw[underlying302]
  simp only[D,hf,Bool.and_self,if_true]
  show Option.map _ (prog.keyLits (prog.types.size+1) 302 ([a,b,c,e].flatMap vC))=_
  rw[y]
  rfl
def okM (m:List V):Prop:=m.length=4∧∀ v∈m,Km9 v
theorem Kqr {m u:List V}(y:okM m)(A:okM u)(h:gmL m=gmL u):m=u:=by
 have D:=Kl3 m y.1 y.2
 have U:=Kl3 u A.1 A.2
 rw[h]at D
 have e:=Kl8.inj D U
 obtain⟨l1,_⟩:=y
 obtain⟨l2,_⟩:=A
 match m,l1,u,l2 with
 |[a,b,c,d],_,[a',X,Z,ba],_=>
  simp[gmV,vC]at e
  obtain⟨E,H,K,b1,b2,b3,c1,c2,c3,M,O,R⟩:=e
  rw[V.ext' E H K,V.ext' b1 b2 b3,V.ext' c1 c2 c3,V.ext' M O R]
def Klh (w:World)(A:Nat)(ms:List (List V)):Prop:=∃ y:DataW Unit,w.ownsMap prog 302 (plainElem prog 3) A ms.length y∧(∀ m∈ms,okM m) ∧
 (∀ i m,ms[i]?=some m→Maps.has y (gmL m)=true∧y.atKey (gmL m) (.lit (.int .i64 0))=.lit (.int .i64 (i:Nat)))∧(∀ m,okM m→m∉ms→Maps.has y (gmL m)=false)
theorem Kqp:prog.underlying 3=some (.int .i64):=by kernel_rfl
theorem Kru (w:World):(zeroValue 3).run prog w=.ok (.int .i64 0) w:=by kernel_rfl
theorem Kqd:prog.underlying 294=some (.map 302 3):=by kernel_rfl
theorem Klh.made (w:World):Klh (w.alloc (.map #[] 0)) w.heap.size []:=
 ⟨.map [],World.ownsMap_made w _ _ _,by simp,by simp,fun m _ _=>rfl⟩
theorem Klh.block {w w':World}{y:Nat}{ms:List (List V)}(h:Klh w y ms)(E:w'.heap[y]?=w.heap[y]?):Klh w' y ms:=by
 obtain⟨A,⟨es,D,H,r⟩,h2⟩:=h
 exact⟨A,⟨es,D,E.trans H,r⟩,h2⟩
theorem Klh.look {w:World}{D i:Nat}{ms:List (List V)}{m:List V}(h:Klh w D ms)(hi:ms[i]?=some m):(Instr.lookup 294 (.map (some D)) (gmV m) true).run prog w=.ok (.tuple #[.int .i64 (i:Nat),.bool true]) w:=by
 obtain⟨K,h1,h2,E,_⟩:=h
 have y:=h2 m (Of6 hi)
 obtain⟨a,b⟩:=E i m hi
 obtain⟨v,ps,H,A⟩:=h1.look_ok Kl8 Kqd (Kru w) (plainElem_int Kqp (a:=0) (by decide)) (Kl3 m y.1 y.2)
 rw[b]at A
 obtain⟨c,rfl,e,_⟩:=plainElem_int_inv Kqp A
 simp only[Oj3,DataW.lit.injEq,Lit.int.injEq,true_and]at e
 rw[H,a,e.1]
theorem Klh.miss {w:World}{A:Nat}{ms:List (List V)}{m:List V}(h:Klh w A ms)(y:okM m)(hn:m∉ms):∃ c:Int,(Instr.lookup 294 (.map (some A)) (gmV m) true).run prog w=.ok (.tuple #[.int .i64 c,.bool false]) w:=by
 obtain⟨K,h1,_,_,D⟩:=h
 obtain⟨v,ps,E,H⟩:=h1.look_ok Kl8 Kqd (Kru w) (plainElem_int Kqp (a:=0) (by decide)) (Kl3 m y.1 y.2)
 obtain⟨c,rfl,_,_⟩:=plainElem_int_inv Kqp H
 exact⟨c,by rw[E,D m y hn]⟩
theorem Klh.put {w:World}{E:Nat}{ms:List (List V)}{m:List V}(h:Klh w E ms)(A:okM m)(hn:m∉ms)(ba:ms.length<1000000):∃ w',(Instr.mapUpdate 294 (.map (some E)) (gmV m) (.int .i64 (ms.length:Nat))).run prog w=.ok () w'∧Klh w' E (ms++[m])∧w.grownBy w' (some E):=by
 obtain⟨X,h1,h2,M,O⟩:=h
 have H:=Kl3 m A.1 A.2
 obtain⟨w',U,g1,g2⟩:=h1.update Kl8 Kqd (by unfold maxLen;omega) H (plainElem_int Kqp (a:=(ms.length:Nat)) (WalkArith.wf_i64 (by omega)))
 refine⟨w',U,⟨_,by rw[Oa8];exact g1,fun u y=>?_,fun i u y=>?_,fun u y K=>?_⟩,g2⟩
 ·rcases Od2.1 y with a|a
  ·exact h2 u a
  simp at a;rw[a];exact A
 ·by_cases hi:i<ms.length
  ·rw[Ob0 hi]at y
   have D:gmL u≠gmL m:=fun e=>hn (Kqr (h2 u (Of6 y)) A e▸Of6 y)
   rw[has_put_other D,atKey_put_other D]
   exact M i u y
  rw[Ob6 (by omega)]at y
  have Z:i-ms.length<1:=by have:=(Ob9.1 y).1;simpa using this
  obtain rfl:i=ms.length:=by omega
  simp at y
  subst y
  exact⟨has_put_same h1.isMap (Kl8.key H) _,atKey_put_same h1.isMap (Kl8.key H) _ _⟩
 have R:u∉ms:=fun a=>K (Od2.2 (.inl a))
 have D:gmL u≠gmL m:=fun e=>K (by rw[Kqr y A e];simp)
 rw[has_put_other D]
 exact O u y R
end Go.Proofs.YtdlgbphkaicfaaaGreatDoor
