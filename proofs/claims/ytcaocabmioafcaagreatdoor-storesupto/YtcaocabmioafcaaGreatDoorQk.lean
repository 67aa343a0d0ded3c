/- The document's Load on any disk. -/
import Derived.Test.YtcaocabmioafcaaGreatDoorQj
import Derived.Test.YtcaocabmioafcaaGreatDoorKm
set_option maxHeartbeats 16000000
set_option maxRecDepth 100000
namespace Go.Proofs.YtcaocabmioafcaaGreatDoor
open Go.RowKit Go.Shelf Tryz
attribute [local go_sem] Oc0
def Ktd (T:List (List UInt8)):List Value:=T.map fun t=>iv (t.length:Int)
theorem Kww (T A:List (List UInt8)):Ktd (T++A)=Ktd T++Ktd A:=Ob8
def Kui (q f k:Int)(P:List RP)(Rs:List RTb)(name:ByteArray)(ts:List Int)(rs:List (List V)):Qb1→LdQ
 |.inl _=>⟨Jbz 1 (-1) (-1),k,P,Rs⟩
 |.inr (.inl _)=>⟨Jbz 4 (-1) (-1),k,P,Rs⟩
 |.inr (.inr (.inl c))=>⟨Jbz 2 (c:Int) (-1),k,P,Rs⟩
 |.inr (.inr (.inr T))=>match (Kr0 q f (Jch T) k P).2.2 with
  |none=>⟨Jbz 0 (-1) (-1),(Kr0 q f (Jch T) k P).1.1,(Kr0 q f (Jch T) k P).1.2,Rs++[⟨name,ts,rs,(Kr0 q f (Jch T) k P).2.1⟩]⟩
  |some x=>⟨Jbz (if x then 5 else 6) (-1) (-1),(Kr0 q f (Jch T) k P).1.1,Kr5 (Kr0 q f (Jch T) k P).1.2 (Kr0 q f (Jch T) k P).2.1,Rs⟩
theorem Qbq (q f k:Int)(P:List RP)(Rs:List RTb)(name:ByteArray)(ts hs:List Int)(rs:List (List V))(g:Int):Kth q f k P Rs name ts hs rs g=Kui q f k P Rs name ts rs (Kti (Rs.map nmT) name ts hs rs g):=by
 unfold Kth Kui
 rfl
def Ksw (H:Nat→Prop)(w:World)(st:Nat)(q f:Int)(A:LdQ)(e:Ending)(w':World):Prop:=
 e=.returned A.fault∧Ju H w w'∧∃ I:Nat→Prop,RSt I w' st q f A.k A.P A.Rs∧(∀ i,H i→I i)∧∀ i,I i→H i∨w.heap.size≤i
theorem Ksw.same {H:Nat→Prop}{w w':World}{st:Nat}{q f k:Int}{P:List RP}{Rs:List RTb}{A:LdQ}{e:Ending}(h:RSt H w st q f k P Rs)(I:Below w.heap.size w w')(M:e=.returned A.fault)(J:A.k=k)(K:A.P=P)(L:A.Rs=Rs):Ksw H w st q f A e w':=
 ⟨M,.of_below I,H,by rw[J,K,L];exact h.below I,fun k h=>h,fun k h=>.inl h⟩
def Ku1 (l:List Nat)(r:(Int×List RP)×List Nat×Option Bool):(Int×List RP)×List Nat×Option Bool:=(r.1,l++r.2.1,r.2.2)
structure WrX (Y:World) (st xb:Nat) (sv0 tv tyv rwv:Value) (name:ByteArray) (q f k0:Int) (P0:List RP) (tot rest:Nat) (k:Int) (P:List RP) (sv pv:Value) (pl:List Nat) (W:World):Prop where
 r:Ktt Y st xb sv0 tv tyv rwv name q f k P sv pv pl W
 lay:Kr0 q f tot k0 P0=Ku1 pl (Kr0 q f rest k P)
 room:P.length+rest≤924000
 k0:0≤k
 k1:k+(rest:Int)≤200000000000000000
 few:pl.length+rest≤132000
 inp:∀ i∈pl,i<P.length
theorem Kz9 (q f:Int)(n:Nat)(k:Int)(P:List RP)(_A:0≤k)(_H:k≤1000000000000000000)(l:List Nat) :
  (q≤((Kr6 P:Nat):Int)→Ku1 l (Kr0 q f (n+1) k P)=((k,P),l,some true)) ∧
  (¬ q≤((Kr6 P:Nat):Int)→k+1=f→Ku1 l (Kr0 q f (n+1) k P)=((k+1,P),l,some false)) ∧
  (¬ q≤((Kr6 P:Nat):Int)→¬ k+1=f→Ku1 l (Kr0 q f (n+1) k P)=Ku1 (l++[frP P]) (Kr0 q f n (k+1) (Kr2 P))):=by
 have hw:wrap64 (k+1)=k+1:=by unfold wrap64;omega
 refine⟨fun h=>?_,fun h g=>?_,fun h g=>?_⟩
 ·simp only[Kr0,if_pos h,Ku1,Od7]
 ·simp only[Kr0,if_neg h,hw,if_pos g,Ku1,Od7]
 simp only[Kr0,if_neg h,hw,if_neg g,Ku1,Od8,List.singleton_append]
theorem Qbj (q f:Int)(k:Int)(P:List RP)(_A:0≤k)(_H:k≤1000000000000000000) :
  (q≤((Kr6 P:Nat):Int)→wrE q f k P=.tuple #[.int .i64 (-1),.int .i64 5]∧wrK q k P=k∧Kyb q f k P=P) ∧
  (¬ q≤((Kr6 P:Nat):Int)→k+1=f→wrE q f k P=.tuple #[.int .i64 (-1),.int .i64 6]∧wrK q k P=k+1∧Kyb q f k P=P) ∧
  (¬ q≤((Kr6 P:Nat):Int)→¬ k+1=f→wrE q f k P=.tuple #[.int .i64 ((frP P:Nat):Int),.int .i64 0]∧wrK q k P=k+1∧Kyb q f k P=Kr2 P):=by
 have hw:wrap64 (k+1)=k+1:=by unfold wrap64;omega
 unfold wrE wrK Kyb
 rw[hw]
 refine⟨fun h=>?_,fun h g=>?_,fun h g=>?_⟩
 ·rw[if_pos h,if_pos h,if_pos h];exact⟨rfl,rfl,rfl⟩
 ·rw[if_neg h,if_neg h,if_neg h,if_pos g,if_pos g];exact⟨rfl,rfl,rfl⟩
 rw[if_neg h,if_neg h,if_neg h,if_neg g,if_neg g];exact⟨rfl,rfl,rfl⟩
theorem Qcd (bW:Nat→Prop)(st:Nat)(Z Y bB:Int)(P:List RP)(Rs:List RTb)(name:ByteArray)(at_ ar ah:Option Addr)(ct cr ch:Nat)(ts hs:List Int)(xs:List (Option Addr×Nat))(rs:List (List V))(g:Int)(w:World)(h:RSt bW w st Z Y bB P Rs)(jf:Rs.length≤1000)(cC:P.length≤792000)(ji:0≤bB)(bU:bB≤100000000000000000)(gd:Kct w name at_ ar ah cr ts hs xs rs) :
  Calls prog 38 #[.pointer (some ⟨st,0,none⟩),Jvc name at_ ar ct cr ts rs,.slice ah hs.length ch,.int .i64 g] w (Ksw bW w st Z Y (Kui Z Y bB P Rs name ts rs (Kti (Rs.map nmT) name ts hs rs g))):=by
 unfold Jvc
 obtain⟨W,hW⟩:∃ W,W=(w.alloc (.cells #[.string name,.slice at_ ts.length ct,.slice ar rs.length cr] 30)).alloc Ka:=⟨_,rfl⟩
 have gj:Below w.heap.size w W:=by rw[hW];exact((Oa5 _ w).alloc (Oa2 _) _).alloc (by simp) _
 have jb:W.heap.size=w.heap.size+2:=by rw[hW];simp
 have dN:W.heap[w.heap.size]?=some (.cells #[.string name,.slice at_ ts.length ct,.slice ar rs.length cr] 30 (0,0)):=by rw[hW,Oa9 _ _ _ (by simp)];exact heap_alloc_new _ _
 have ja:W.heap[w.heap.size+1]?=some (.cells #[.int .i64 0,.int .i64 0,.int .i64 0,.int .i64 0,.int .i64 0] 68 (0,0)):=by
  rw[hW]
  have:=heap_alloc_new (w.alloc (.cells #[.string name,.slice at_ ts.length ct,.slice ar rs.length cr] 30)) Ka
  rwa [Oa7]at this
 have gV:Hid (Below w.heap.size w W∧W.heap.size=w.heap.size+2∧W.heap[w.heap.size]?=some (.cells #[.string name,.slice at_ ts.length ct,.slice ar rs.length cr] 30 (0,0))∧W.heap[w.heap.size+1]?=some (.cells #[.int .i64 0,.int .i64 0,.int .i64 0,.int .i64 0,.int .i64 0] 68 (0,0))):=⟨gj,jb,dN,ja⟩
 have kl:W.cell? ⟨w.heap.size,0,none⟩=some (.string name):=by simp[World.cell?,dN]
 have km:W.cell? ⟨w.heap.size,1,none⟩=some (.slice at_ ts.length ct):=by simp[World.cell?,dN]
 have kn:W.cell? ⟨w.heap.size,2,none⟩=some (.slice ar rs.length cr):=by simp[World.cell?,dN]
 have bI:Hid (RSt bW w st Z Y bB P Rs∧Rs.length≤1000∧P.length≤792000∧0≤bB∧bB≤100000000000000000):=⟨h,jf,cC,ji,bU⟩
 obtain⟨bz,ft⟩:∃ bz,bz=Rs.map nmT:=⟨_,rfl⟩
 rw[←ft]
 have fq:Hid (bz=Rs.map nmT∧bz.length=Rs.length):=⟨ft,by rw[ft,Oa6]⟩
 clear ft
 have dg:Hid (Kct w name at_ ar ah cr ts hs xs rs):=gd
 obtain⟨cJ,bK⟩:∃ cJ,Kti bz name ts hs rs g=cJ:=⟨_,rfl⟩
 rw[bK]
 have dJ:Hid (Kti bz name ts hs rs g=cJ):=bK
 obtain⟨bw,dB⟩:∃ bw:Bool,bw=true↔Jel name ts rs∧Je3 ts hs∧1≤g∧g≤64:=⟨@decide _ (Khs name ts hs rs g),@decide_eq_true_iff _ (Khs name ts hs rs g)⟩
 have gB:=Kym name at_ ar ah ct cr ch ts hs xs rs g W (gd.below gj) bw dB
 unfold Jvc at gB
 have fC:Hid (bw=true↔Jel name ts rs∧Je3 ts hs∧1≤g∧g≤64):=dB
 clear h jf cC ji bU gd dB bK gj jb dN ja
 have jA:Hid (W=(w.alloc (.cells #[.string name,.slice at_ ts.length ct,.slice ar rs.length cr] 30)).alloc Ka):=hW
 go_enter func38,ntmps38
 go_upto_region 1 with fail
 rw[←hW]
 clear hW jA
 go_upto_region 2 with(go_at_call 64;refine gB.mono ?_;rintro e w1 ⟨rfl,dR⟩)
 clear gB kl km kn
 have bi:Hid (Below w.heap.size w w1∧w.heap.size+2≤w1.heap.size∧w1.heap[w.heap.size]?=some (.cells #[.string name,.slice at_ ts.length ct,.slice ar rs.length cr] 30 (0,0))∧w1.heap[w.heap.size+1]?=some (.cells #[.int .i64 0,.int .i64 0,.int .i64 0,.int .i64 0,.int .i64 0] 68 (0,0))):=by
  obtain⟨k1,fy,ff,fg⟩:=gV.out
  exact⟨Jb k1 dR,by have:=dR.size;omega,(dR.block _ (by omega)).trans ff,(dR.block _ (by omega)).trans fg⟩
 clear dR gV
 cases dB:bw with
 |false=>
  subst dB
  have bK:cJ=.inl ():=by rw[←dJ.out];unfold Kti;rw[if_neg fun h=>by have:=fC.out.2 h;cases this]
  subst bK
  have bU:=bi.out.2.2.2
  go_upto_region 3 with fail
  have bT:=Kse 1 w1
  go_wp2_with fail
  refine bT.mono ?_
  rintro e X ⟨rfl,bA⟩
  have J:=(bA.block _ (Jd bU)).trans bU
  have dk:X.cell? ⟨w.heap.size+1,0,none⟩=some (.int .i64 0):=by simp[World.cell?,J]
  have dl:X.cell? ⟨w.heap.size+1,1,none⟩=some (.int .i64 0):=by simp[World.cell?,J]
  have dm:X.cell? ⟨w.heap.size+1,2,none⟩=some (.int .i64 0):=by simp[World.cell?,J]
  have dn:X.cell? ⟨w.heap.size+1,3,none⟩=some (.int .i64 0):=by simp[World.cell?,J]
  have dp:X.cell? ⟨w.heap.size+1,4,none⟩=some (.int .i64 0):=by simp[World.cell?,J]
  have dr:X.frozen? ⟨w.heap.size+1,0,none⟩=false:=by simp[World.frozen?,J]
  have ds:X.frozen? ⟨w.heap.size+1,1,none⟩=false:=by simp[World.frozen?,J]
  have dt:X.frozen? ⟨w.heap.size+1,2,none⟩=false:=by simp[World.frozen?,J]
  have du:X.frozen? ⟨w.heap.size+1,3,none⟩=false:=by simp[World.frozen?,J]
  have dv:X.frozen? ⟨w.heap.size+1,4,none⟩=false:=by simp[World.frozen?,J]
  have U:=Jk (Jk (Jk (Jk (Jk J 0 (.int .i64 1)) 1 (.int .i64 (-1))) 2 (.int .i64 (-1))) 3 (.int .i64 (-1))) 4 (.int .i64 (-1))
  simp only[Oa1,List.set_cons_zero,List.set_cons_succ]at U
  have bD:Hid _:=U
  have dG:Hid _:=bA
  clear U J bA bT
  go_wp2
  exact bodyPost_ret (v:=fault 1) (by simp[results,results38,go_sem,World.cell?,bD.out]) rfl (Ksw.same bI.out.1 (Um (Jb bi.out.1 dG.out) (by omega) _ _ _ _ _) rfl rfl rfl rfl)
 |true=>
  subst dB
  have bR:Hid (Jel name ts rs∧Je3 ts hs∧1≤g∧g≤64):=fC.out.1 rfl
  clear fC
  have c0:w1.cell? ⟨w.heap.size,0,none⟩=some (.string name):=by simp[World.cell?,bi.out.2.2.1]
  have dc:=Ktc st bz name w1 (by rw[fq.out.1];exact(bI.out.1.below bi.out.1).rtabs) (by rw[fq.out.2];exact bI.out.2.1)
  obtain⟨F,hF⟩:∃ F,Ksk bz name=F:=⟨_,rfl⟩
  rw[hF]at dc
  have fl:Hid (Ksk bz name=F):=hF
  obtain⟨ma,mb,gz,_⟩:=(show Ku4 w1 st bz by rw[fq.out.1];exact(bI.out.1.below bi.out.1).rtabs)
  clear hF
  by_cases bk:Ksg bz name<bz.length
  ·have cE:F≥0:=by rw[←fl.out];unfold Ksk;rw[if_pos bk];omega
   have bK:cJ=.inr (.inl ()):=by rw[←dJ.out];unfold Kti;rw[if_pos bR.out,if_pos (.inl bk)]
   subst bK
   have bU:=bi.out.2.2.2
   clear bk
   go_upto_region 5 with(go_at_call 41;refine dc.mono ?_;rintro e bh ⟨rfl,cx⟩;subst bh)
   clear dc gz c0
   have bT:=Kse 4 w1
   go_wp2_with fail
   refine bT.mono ?_
   rintro e X ⟨rfl,bA⟩
   have J:=(bA.block _ (Jd bU)).trans bU
   have dk:X.cell? ⟨w.heap.size+1,0,none⟩=some (.int .i64 0):=by simp[World.cell?,J]
   have dl:X.cell? ⟨w.heap.size+1,1,none⟩=some (.int .i64 0):=by simp[World.cell?,J]
   have dm:X.cell? ⟨w.heap.size+1,2,none⟩=some (.int .i64 0):=by simp[World.cell?,J]
   have dn:X.cell? ⟨w.heap.size+1,3,none⟩=some (.int .i64 0):=by simp[World.cell?,J]
   have dp:X.cell? ⟨w.heap.size+1,4,none⟩=some (.int .i64 0):=by simp[World.cell?,J]
   have dr:X.frozen? ⟨w.heap.size+1,0,none⟩=false:=by simp[World.frozen?,J]
   have ds:X.frozen? ⟨w.heap.size+1,1,none⟩=false:=by simp[World.frozen?,J]
   have dt:X.frozen? ⟨w.heap.size+1,2,none⟩=false:=by simp[World.frozen?,J]
   have du:X.frozen? ⟨w.heap.size+1,3,none⟩=false:=by simp[World.frozen?,J]
   have dv:X.frozen? ⟨w.heap.size+1,4,none⟩=false:=by simp[World.frozen?,J]
   have U:=Jk (Jk (Jk (Jk (Jk J 0 (.int .i64 4)) 1 (.int .i64 (-1))) 2 (.int .i64 (-1))) 3 (.int .i64 (-1))) 4 (.int .i64 (-1))
   simp only[Oa1,List.set_cons_zero,List.set_cons_succ]at U
   have bD:Hid _:=U
   have dG:Hid _:=bA
   clear U J bA bT
   go_wp2
   exact bodyPost_ret (v:=fault 4) (by simp[results,results38,go_sem,World.cell?,bD.out]) rfl (Ksw.same bI.out.1 (Um (Jb bi.out.1 dG.out) (by omega) _ _ _ _ _) rfl rfl rfl rfl)
  by_cases gx:6≤bz.length
  ·have cE:¬ (F≥0):=by rw[←fl.out];unfold Ksk;rw[if_neg bk];omega
   have fe:((bz.length:Nat):Int)≥6:=by omega
   have bK:cJ=.inr (.inl ()):=by rw[←dJ.out];unfold Kti;rw[if_pos bR.out,if_pos (.inr gx)]
   subst bK
   have bU:=bi.out.2.2.2
   clear bk gx
   go_upto_region 5 with(go_at_call 41;refine dc.mono ?_;rintro e bh ⟨rfl,cx⟩;subst bh)
   clear dc gz c0
   have bT:=Kse 4 w1
   go_wp2_with fail
   refine bT.mono ?_
   rintro e X ⟨rfl,bA⟩
   have J:=(bA.block _ (Jd bU)).trans bU
   have dk:X.cell? ⟨w.heap.size+1,0,none⟩=some (.int .i64 0):=by simp[World.cell?,J]
   have dl:X.cell? ⟨w.heap.size+1,1,none⟩=some (.int .i64 0):=by simp[World.cell?,J]
   have dm:X.cell? ⟨w.heap.size+1,2,none⟩=some (.int .i64 0):=by simp[World.cell?,J]
   have dn:X.cell? ⟨w.heap.size+1,3,none⟩=some (.int .i64 0):=by simp[World.cell?,J]
   have dp:X.cell? ⟨w.heap.size+1,4,none⟩=some (.int .i64 0):=by simp[World.cell?,J]
   have dr:X.frozen? ⟨w.heap.size+1,0,none⟩=false:=by simp[World.frozen?,J]
   have ds:X.frozen? ⟨w.heap.size+1,1,none⟩=false:=by simp[World.frozen?,J]
   have dt:X.frozen? ⟨w.heap.size+1,2,none⟩=false:=by simp[World.frozen?,J]
   have du:X.frozen? ⟨w.heap.size+1,3,none⟩=false:=by simp[World.frozen?,J]
   have dv:X.frozen? ⟨w.heap.size+1,4,none⟩=false:=by simp[World.frozen?,J]
   have U:=Jk (Jk (Jk (Jk (Jk J 0 (.int .i64 4)) 1 (.int .i64 (-1))) 2 (.int .i64 (-1))) 3 (.int .i64 (-1))) 4 (.int .i64 (-1))
   simp only[Oa1,List.set_cons_zero,List.set_cons_succ]at U
   have bD:Hid _:=U
   have dG:Hid _:=bA
   clear U J bA bT
   go_wp2
   exact bodyPost_ret (v:=fault 4) (by simp[results,results38,go_sem,World.cell?,bD.out]) rfl (Ksw.same bI.out.1 (Um (Jb bi.out.1 dG.out) (by omega) _ _ _ _ _) rfl rfl rfl rfl)
  have cE:¬ (F≥0):=by rw[←fl.out];unfold Ksk;rw[if_neg bk];omega
  have fe:¬ (((bz.length:Nat):Int)≥6):=by omega
  obtain⟨G,jH⟩:∃ G:Nat,g=(G:Int):=⟨g.toNat,by have:=bR.out.2.2;omega⟩
  subst jH
  have fs:1≤G:=by have:=bR.out.2.2;omega
  have kG:G≤64:=by have:=bR.out.2.2;omega
  have kQ:rs.length≤200:=bR.out.1.2.2.1
  have jo:ts.length≤6:=bR.out.1.2.1.1.2
  have gO:Hid ((∀ c,Jfg rs ts hs (cks rs.length G (ckN rs.length G))=.inr c→cJ=.inr (.inr (.inl c)))∧(∀ T,Jfg rs ts hs (cks rs.length G (ckN rs.length G))=.inl T→cJ=.inr (.inr (.inr T)))):=by
   have bK:=dJ.out
   unfold Kti at bK
   rw[if_pos bR.out,if_neg (by omega),Int.toNat_natCast]at bK
   exact⟨fun c gl=>by rw[gl]at bK;exact bK.symm,fun T jK=>by rw[jK]at bK;exact bK.symm⟩
  have jx:Hid (bz.length<6∧¬ Ksg bz name<bz.length):=⟨by omega,bk⟩
  have fE:Hid (hs.length=ts.length∧∀ j (kK:j<hs.length),way (ts.getD j 0) hs[j]=true):=bR.out.2.1
  clear bk gx dJ
  go_upto_region 8 with(go_at_call 41;refine dc.mono ?_;rintro e bh ⟨rfl,cx⟩;subst bh)
  clear dc gz c0 fl cE fe
  go_loopw [10,11] (fun sv cL wr=>∃ (j O:Nat) (T:List (List UInt8)),cL=.int .i64 (O:Int)∧O≤300∧Hid (O=j*G∧j≤ckN rs.length G∧Jfg rs ts hs (cks rs.length G j)=.inl T∧Jo wr w1.heap.size 3 sv (Ktd T)∧Below w1.heap.size w1 wr)) (fun _ cL _=>rs.length-(intOf cL).toNat)
  case atStart=>exact⟨0,0,[],rfl,by omega,by omega,Ob7 _,rfl,Jo.nil _ _ _,Oa5 _ _⟩
  case round=>
   obtain⟨j,O,T,rfl,kH,bx⟩:=hrel
   have bL:wr.heap[w.heap.size]?=some (.cells #[.string name,.slice at_ ts.length ct,.slice ar rs.length cr] 30 (0,0)):=(bx.out.2.2.2.2.block _ (by have:=bi.out.2.1;omega)).trans bi.out.2.2.1
   have c0:wr.cell? ⟨w.heap.size,0,none⟩=some (.string name):=by simp[World.cell?,bL]
   have c1:wr.cell? ⟨w.heap.size,1,none⟩=some (.slice at_ ts.length ct):=by simp[World.cell?,bL]
   have c2:wr.cell? ⟨w.heap.size,2,none⟩=some (.slice ar rs.length cr):=by simp[World.cell?,bL]
   have gG:Hid (wr.heap[w.heap.size]?=some (.cells #[.string name,.slice at_ ts.length ct,.slice ar rs.length cr] 30 (0,0))):=bL
   clear bL
   by_cases jk:O<rs.length
   ·have fn:Hid (j<ckN rs.length G∧O<rs.length):=⟨Qb9 fs (by have:=bx.out.1;omega),jk⟩
    have dj:Hid ((Uk rs (Jaa rs.length G j)).length=min G (rs.length-O)∧(∀ p,p<min G (rs.length-O)→(Uk rs (Jaa rs.length G j))[p]?=rs[O+p]?)∧(∀ r∈Uk rs (Jaa rs.length G j),r∈rs)):=by
     have cQ:=bx.out.1
     refine⟨by simp[Uk,Jaa];omega,fun p jV=>?_,fun r gw=>Oh7 (Om9 gw)⟩
     simp only[Uk,Jaa]
     rw[Oh3 (by omega),Oh9,cQ]
    obtain⟨ba,da⟩:∃ ba,Uk rs (Jaa rs.length G j)=ba:=⟨_,rfl⟩
    rw[da]at dj
    have fO:Hid (Uk rs (Jaa rs.length G j)=ba):=da
    obtain⟨q,bZ⟩:∃ q,q=min G (rs.length-O):=⟨_,rfl⟩
    rw[←bZ]at dj
    have kN:q≤G:=by omega
    have kO:O+q≤rs.length:=by omega
    have gR:Hid (q=min G (rs.length-O)):=bZ
    clear da bZ
    go_upto_region 11 with fail
    clear c0 c1 c2
    go_loopw [10,12] (fun sv' fU ci=>∃ (m:Nat) (l:List (List UInt8)),fU=.int .i64 (m:Int)∧m≤ts.length∧Hid (Jeo ba ts hs m=.inl l∧Jo ci w1.heap.size 3 sv' (Ktd (T++l))∧Below w1.heap.size w1 ci)) (fun _ fU _=>ts.length-(intOf fU).toNat)
    case atStart=>exact⟨0,[],rfl,Ob7 _,rfl,by rw[Od7];exact bx.out.2.2.2.1,bx.out.2.2.2.2⟩
    case round=>
     clear gG
     obtain⟨m,l,rfl,kL,bN⟩:=hrel
     have bL:wr.heap[w.heap.size]?=some (.cells #[.string name,.slice at_ ts.length ct,.slice ar rs.length cr] 30 (0,0)):=(bN.out.2.2.block _ (by have:=bi.out.2.1;omega)).trans bi.out.2.2.1
     have c1:wr.cell? ⟨w.heap.size,1,none⟩=some (.slice at_ ts.length ct):=by simp[World.cell?,bL]
     clear bL
     by_cases jS:m<ts.length
     ·have cy:Hid (m<ts.length):=jS
      have fD:Hid ((Jaj ba m).length=q):=by show (ba.map _).length=q;rw[Oa6];exact dj.out.1
      obtain⟨C,ge⟩:∃ C,Jaj ba m=C:=⟨_,rfl⟩
      rw[ge]at fD
      have gI:Hid (Jaj ba m=C):=ge
      clear ge
      go_upto_region 15 with fail
      clear c1
      rename_i mc _
      obtain⟨cB,jM⟩:∃ cB,cB=wr:=⟨_,rfl⟩
      subst jM
      go_loopw [13,14] (fun ku gC ci=>∃ p:Nat,gC=.int .i64 ((O:Int)+(p:Int))∧p≤q∧Hid (Yt ci cB.heap.size ku (C.take p)∧Below cB.heap.size cB ci)) (fun _ gC _=>O+q-(intOf gC).toNat)
      case atStart=>exact⟨0,by simp,Ob7 _,by rw[List.take_zero];exact Yt.nil _ _,Oa5 _ _⟩
      case round=>
       obtain⟨p,rfl,jV,cI⟩:=hrel
       have bL:wr.heap[w.heap.size]?=some (.cells #[.string name,.slice at_ ts.length ct,.slice ar rs.length cr] 30 (0,0)):=((Jb bN.out.2.2 cI.out.2).block _ (by have:=bi.out.2.1;omega)).trans bi.out.2.2.1
       have c1:wr.cell? ⟨w.heap.size,1,none⟩=some (.slice at_ ts.length ct):=by simp[World.cell?,bL]
       have c2:wr.cell? ⟨w.heap.size,2,none⟩=some (.slice ar rs.length cr):=by simp[World.cell?,bL]
       clear bL
       have fj:Hid (Below w.heap.size w wr):=Jb bi.out.1 (Jb bN.out.2.2 cI.out.2)
       by_cases jT:p<q
       ·have gr:O+p<rs.length:=by omega
        have gu:m<(rs[O+p]).length:=by have:=(bR.out.1.2.2.2 _ gr).1;have:=cy.out;omega
        obtain⟨b3,o3,bE,bM,rfl,_,kv,kb⟩:=(dg.out.rows.below fj.out).at gr
        obtain⟨b2,o2,rfl,_,kr,ks,kt⟩:=kb.at gu
        have gU:Hid (C.take (p+1)=C.take p++[(rs[O+p])[m]]):=by
         show _=_
         have cQ:ba[p]?=some rs[O+p]:=by rw[dj.out.2.1 p (by have:=gR.out;omega),Oa3 gr]
         have dx:C[p]?=some ((rs[O+p])[m]):=by
          rw[←gI.out]
          simp only[Jaj,Ob1,cQ,Option.map_some]
          simp[gu]
         rw[Oi7,dx]
         rfl
        generalize (rs[O+p])[m]=v at kr ks kt gU
        generalize (rs[O+p]).length=ko at kv gu
        have cE:(0:Int)≤(O:Int)+(p:Int):=by omega
        have fe:(O:Int)+(p:Int)<(rs.length:Int):=by omega
        have kR:(O:Int)+(p:Int)<(O:Int)+(G:Int):=by omega
        have kS:(0:Int)≤(m:Int):=by omega
        have kU:(m:Int)<(ko:Int):=by omega
        have kV:((O:Int)+(p:Int)).toNat=O+p:=by omega
        have fG:Hid (p<q):=jT
        clear c1
        go_wp2_with (at_builtin;go_must (refine Jcj (by rfl) _ _ (by rfl) cB.heap.size _ _ (by rfl) (cI.out.1.alloc _) _ _ v (by rfl) (by refine⟨?_,?_,?_⟩<;>simp) (by have:=fD.out;have:=fG.out;simp;omega) (by have:=cI.out.2.size;simp;omega) ?_);intro sv' w4 cM cf dD)
        go_roundw
        case rel=>exact⟨p+1,by go_num,fG.out,by rw[gU.out];exact cM,Jy (Jc cI.out.2 _) cf fun k hk=>(Je cI.out.1 hk).1⟩
        case measure=>have:=fG.out;simp[intOf];omega
       have jW:p=q:=by omega
       subst jW
       have dZ:p=G∨(p<G∧O+p=rs.length):=by have:=gR.out;omega
       have gi:=cI.out.1
       rw[Oc8 (by have:=fD.out;omega)]at gi
       obtain⟨fQ,c5,cK,jp⟩:=gi.vals
       subst cK
       have fN:Hid (Jv wr fQ C∧Below cB.heap.size cB wr):=⟨jp,cI.out.2⟩
       clear gi jp cI
       have gt:m<hs.length:=by have:=fE.out.1;have:=cy.out;omega
       obtain⟨b1,o1,rfl,_,cF⟩:=(show Kc wr at_ ts from dg.out.types.below fj.out).at cy.out
       obtain⟨b2,o2,rfl,_,dE⟩:=(show Kc wr ah hs from dg.out.hows.below fj.out).at gt
       have fk:Hid (Jev ts[m] hs[m] C=Uo ba ts hs m):=by
        show _=Jev (ts.getD m 0) (hs.getD m 0) (Jaj ba m)
        rw[gI.out,Oa0,Oa3 cy.out,Oa0,Oa3 gt]
        rfl
       have gH:Hid ((Uo ba ts hs m).2=0∨(Uo ba ts hs m).2=2):=Jqm bR.out.1 dj.out.2.2 (by have:=dj.out.1;omega) m cy.out fE.out.1 fE.out.2
       generalize ts[m]=ty at cF fk
       generalize hs[m]=gv at dE fk
       obtain⟨⟨fh,cd⟩,go⟩:∃ co,Uo ba ts hs m=co:=⟨_,rfl⟩
       rw[go]at fk gH
       have gJ:Hid (Uo ba ts hs m=(fh,cd)):=go
       clear go
       have gP:Hid (∀ bc,Below wr.heap.size wr bc→Calls prog 65 #[.int .i64 ty,.int .i64 gv,.slice fQ C.length c5] bc fun e w'=>e=.returned (.tuple #[.string (Qw fh),fault cd])∧Below bc.heap.size bc w'):=fun bc dP=>by
        have:=Kz1 ty gv fQ c5 C bc (fN.out.1.below dP)
        rw[fk.out]at this
        exact this
       have kg:(0:Int)≤(m:Int):=by omega
       have kh:(m:Int)<(ts.length:Int):=by have:=cy.out;omega
       have ki:(m:Int)<(hs.length:Int):=by omega
       have kM:m<1000:=by have:=cy.out;omega
       clear gt
       refine dZ.elim (fun dZ=>?wa) (fun dZ=>?wb)
       case' wa=>
        have fi:¬ ((O:Int)+(p:Int)<(O:Int)+(G:Int)):=by omega
        clear dZ
        go_upto_region 18 with fail
       case' wb=>
        have fi:(O:Int)+(p:Int)<(O:Int)+(G:Int):=by omega
        have md:¬ ((O:Int)+(p:Int)<(rs.length:Int)):=by omega
        clear dZ
        go_upto_region 18 with fail
       all_goals
        go_cut [15,16] from 84 to 97 (fun bv jG ci=>bv=.string (Qw fh)∧∃ N,jG=.pointer (some ⟨N,0,none⟩)∧ci.heap[N]?=some (.cells #[.int .i64 cd,.int .i64 (-1),.int .i64 (-1),.int .i64 (-1),.int .i64 (-1)] 68 (0,0))∧wr.heap.size≤N∧Below wr.heap.size wr ci)
        case first=>
         refine wp_region_held_drew (S:=fun bc=>(bc.cell? ⟨w.heap.size,1,none⟩=some (.slice (some ⟨b1,o1,none⟩) ts.length ct)∧bc.cell? ⟨b1,o1+m,none⟩=some (.int .i64 ty)∧bc.cell? ⟨b2,o2+m,none⟩=some (.int .i64 gv))∧Below wr.heap.size wr bc) (by kernel_rfl) ⟨⟨Jh c1,Jh cF,Jh dE⟩,Jj (Oa5 _ _)⟩ (fun A=>?_)
         refine Kn 0 rfl A ?_
         refine Kn 1 rfl A ?_
         refine Kn 2 rfl A ?_
         refine Kn 3 rfl A ?_
         refine Kn 4 rfl A ?_
         refine Kn 5 rfl A ?_
         refine Kn 6 rfl A ?_
         refine Kn 7 rfl A ?_
         refine Kn 8 rfl A ?_
         refine Kn 9 rfl A ?_
         refine tkn ?_
         refine wpAnyH_ready (rs:=[10,14]) (by kernel_rfl) (by simp) (AllReadyH.cons rfl (fun bn bb=>?_) (AllReadyH.cons rfl (fun bn bb=>?_) AllReadyH.nil))
         ·go_simp
          refine(gP.out _ A.2).mono ?_
          rintro e cP ⟨rfl,cc⟩
          go_simp
          refine bb.out _ _ ⟨⟨Ja cc A.1.1,Ja cc A.1.2.1,Ja cc A.1.2.2⟩,Jb A.2 cc⟩ (fun A=>?_)
          clear bb bn cc
          refine Kn 11 rfl A ?_
          refine Kn 12 rfl A ?_
          refine Kn 13 rfl A ?_
          refine tkn ?_
          refine tkr 14 rfl fun bn bb=>?_
          go_simp
          have dU:Below cP.heap.size cP (cP.alloc Ka):=(Oa5 _ cP).alloc (Oa2 _) Ka
          have bu:=heap_alloc_new cP Ka
          have di:Hid (wr.heap.size≤cP.heap.size):=A.2.size
          refine bb.out _ _ ⟨⟨Ja dU A.1.1,Ja dU A.1.2.1,Ja dU A.1.2.2⟩,Jb A.2 dU⟩ (fun A=>?_)
          clear bb bn
          generalize cP.alloc Ka=bO at bu A ⊢
          generalize cP.heap.size=N at bu di ⊢
          clear dU
          refine Kn 15 rfl A ?_
          refine tkn ?_
          have bX:∀ o:Nat,bO.frozen? ⟨N,o,none⟩=false:=fun o=>by simp[World.frozen?,bu]
          have k0:bO.cell? ⟨N,0,none⟩=some (.int .i64 0):=by simp[World.cell?,bu]
          have k1:bO.cell? ⟨N,1,none⟩=some (.int .i64 0):=by simp[World.cell?,bu]
          have fy:bO.cell? ⟨N,2,none⟩=some (.int .i64 0):=by simp[World.cell?,bu]
          have ff:bO.cell? ⟨N,3,none⟩=some (.int .i64 0):=by simp[World.cell?,bu]
          have fg:bO.cell? ⟨N,4,none⟩=some (.int .i64 0):=by simp[World.cell?,bu]
          have fV:=bX 0
          have fW:=bX 1
          have fX:=bX 2
          have fY:=bX 3
          have fZ:=bX 4
          have U:=Jk (Jk (Jk (Jk (Jk bu 0 (.int .i64 cd)) 1 (.int .i64 (-1))) 2 (.int .i64 (-1))) 3 (.int .i64 (-1))) 4 (.int .i64 (-1))
          simp only[Oa1,List.set_cons_zero,List.set_cons_succ]at U
          have bD:Hid _:=U
          have bV:Hid (Below wr.heap.size wr (((((bO.setCell ⟨N,0,none⟩ (.int .i64 cd)).setCell ⟨N,1,none⟩ (.int .i64 (-1))).setCell ⟨N,2,none⟩ (.int .i64 (-1))).setCell ⟨N,3,none⟩ (.int .i64 (-1))).setCell ⟨N,4,none⟩ (.int .i64 (-1)))):=Um A.2 di.out _ _ _ _ _
          clear bu bX U
          refine tkr 16 rfl fun bn bb=>?_
          go_simp
          refine bb.out _ _ ⟨⟨Ja bV.out c1,Ja bV.out cF,Ja bV.out dE⟩,bV.out⟩ (fun _=>?_)
          clear bb bn k0 k1 fy ff fg fV fW fX fY fZ A
          refine wpAnyH_done (by kernel_rfl) ?_ _
          go_wp2_with fail
          go_meet
          case rel=>exact⟨rfl,N,rfl,bD.out,di.out,bV.out⟩
         go_simp
         have dA:Below wr.heap.size wr (wr.alloc Ka).drew:=Jj ((Oa5 _ wr).alloc (Oa2 _) Ka)
         have fx:(wr.alloc Ka).drew.heap[wr.heap.size]?=some Ka:=heap_alloc_new wr Ka
         refine bb.out _ _ ⟨⟨Ja dA c1,Ja dA cF,Ja dA dE⟩,dA⟩ (fun A=>?_)
         clear bb bn
         generalize (wr.alloc Ka).drew=kz at fx A dA ⊢
         have di:Hid (wr.heap.size≤wr.heap.size):=Oa2 _
         clear dA
         refine tkr 10 rfl fun bn bb=>?_
         go_simp
         refine(gP.out _ A.2).mono ?_
         rintro e bO ⟨rfl,cc⟩
         go_simp
         have bu:=(cc.block _ (Jd fx)).trans fx
         refine bb.out _ _ ⟨⟨Ja cc A.1.1,Ja cc A.1.2.1,Ja cc A.1.2.2⟩,Jb A.2 cc⟩ (fun A=>?_)
         clear bb bn cc fx
         refine Kn 11 rfl A ?_
         refine Kn 12 rfl A ?_
         refine Kn 13 rfl A ?_
         refine Kn 15 rfl A ?_
         refine tkn ?_
         have bX:∀ o:Nat,bO.frozen? ⟨wr.heap.size,o,none⟩=false:=fun o=>by simp[World.frozen?,bu]
         have k0:bO.cell? ⟨wr.heap.size,0,none⟩=some (.int .i64 0):=by simp[World.cell?,bu]
         have k1:bO.cell? ⟨wr.heap.size,1,none⟩=some (.int .i64 0):=by simp[World.cell?,bu]
         have fy:bO.cell? ⟨wr.heap.size,2,none⟩=some (.int .i64 0):=by simp[World.cell?,bu]
         have ff:bO.cell? ⟨wr.heap.size,3,none⟩=some (.int .i64 0):=by simp[World.cell?,bu]
         have fg:bO.cell? ⟨wr.heap.size,4,none⟩=some (.int .i64 0):=by simp[World.cell?,bu]
         have fV:=bX 0
         have fW:=bX 1
         have fX:=bX 2
         have fY:=bX 3
         have fZ:=bX 4
         have U:=Jk (Jk (Jk (Jk (Jk bu 0 (.int .i64 cd)) 1 (.int .i64 (-1))) 2 (.int .i64 (-1))) 3 (.int .i64 (-1))) 4 (.int .i64 (-1))
         simp only[Oa1,List.set_cons_zero,List.set_cons_succ]at U
         have bD:Hid _:=U
         have bV:Hid (Below wr.heap.size wr (((((bO.setCell ⟨wr.heap.size,0,none⟩ (.int .i64 cd)).setCell ⟨wr.heap.size,1,none⟩ (.int .i64 (-1))).setCell ⟨wr.heap.size,2,none⟩ (.int .i64 (-1))).setCell ⟨wr.heap.size,3,none⟩ (.int .i64 (-1))).setCell ⟨wr.heap.size,4,none⟩ (.int .i64 (-1)))):=Um A.2 di.out _ _ _ _ _
         clear bu bX U
         refine tkr 16 rfl fun bn bb=>?_
         go_simp
         refine bb.out _ _ ⟨⟨Ja bV.out c1,Ja bV.out cF,Ja bV.out dE⟩,bV.out⟩ (fun _=>?_)
         clear bb bn k0 k1 fy ff fg fV fW fX fY fZ A
         refine wpAnyH_done (by kernel_rfl) ?_ _
         go_wp2_with fail
         go_meet
         case rel=>exact⟨rfl,wr.heap.size,rfl,bD.out,di.out,bV.out⟩
        case rest=>
         obtain⟨rfl,N,rfl,bk,jP,jc⟩:=hcut
         have cT:Hid (Below cB.heap.size cB wc∧w.heap.size+2≤N):=⟨Jb fN.out.2 jc,by have K:=fj.out.size;have bl:=(Jb bN.out.2.2 fN.out.2).size;have fr:=bi.out.2.1;omega⟩
         clear jc jP c1 cF dE kg kh ki fi
         have jz:Hid ((Ktd (T++l)).length≤2000):=by
          have K:=(Jte rs ts hs _ T bx.out.2.2.1).1
          rw[Jbp]at K
          have bl:=Jjc ba ts hs m l bN.out.1
          have fr:=Kg4 rs.length G fs
          have gZ:=bx.out.2.1
          have cK:j*ts.length≤200*6:=Ol5 (by omega) jo
          show (Ktd (T++l)).length≤2000
          unfold Ktd
          rw[Oa6,Oa8]
          omega
         rcases gH.out with gn|gn
         ·obtain rfl:cd=0:=gn
          have gW:wc.cell? ⟨N,0,none⟩=some (.int .i64 0):=by simp[World.cell?,bk]
          clear bk
          have fJ:Hid (Jo wc w1.heap.size 3 _ (Ktd (T++l))∧w1.heap.size≤wc.heap.size):=⟨Jaw bN.out.2.1 cT.out.1,by have K:=bN.out.2.2.size;have bl:=cT.out.1.size;omega⟩
          go_wp2_with (at_builtin;go_must (refine Ks (by rfl) _ _ 27 3 _ 8 Zw (by rfl) (by decide) (by kernel_rfl) (by rfl) w1.heap.size _ (Ktd (T++l)) (by rfl) (Jo.alloc fJ.out.1 _) ⟨wc.heap.size,0,none⟩ 1 [.int .i64 ((Qw fh).size:Int)] (by rfl) (by exact Ua wc _ _) (by intro u cR;simp at cR;subst cR;rfl) (by have:=jz.out;simp only[List.length_cons,List.length_nil];omega) (by have:=fJ.out.2;simp;omega) ?_);intro sv' w4 cM cf dD)
          go_roundw
          case rel=>
           refine⟨m+1,l++[fh],by go_num,cy.out,?_,?_,?_⟩
           ·simp only[Jeo,bN.out.1]
            rw[gJ.out,if_pos rfl]
           ·rw[←Od8,Kww]
            have jt:=cM
            rw[Jb2]at jt
            exact jt
           exact Jy (Jc (Jb bN.out.2.2 cT.out.1) _) cf fun k hk=>(Je fJ.out.1 hk).1
          case measure=>have:=cy.out;simp[intOf];omega
         obtain rfl:cd=2:=gn
         have jJ:cJ=.inr (.inr (.inl m)):=gO.out.1 m (Kwz fn.out.1 bx.out.2.2.1 (by rw[fO.out];exact bN.out.1) cy.out (by rw[fO.out,gJ.out];show (2:Int)≠0;decide))
         subst jJ
         have bU:wc.heap[w.heap.size+1]?=some (.cells #[.int .i64 0,.int .i64 0,.int .i64 0,.int .i64 0,.int .i64 0] 68 (0,0)):=((Jb bN.out.2.2 cT.out.1).block _ (by have:=bi.out.2.1;omega)).trans bi.out.2.2.2
         have gW:wc.cell? ⟨N,0,none⟩=some (.int .i64 2):=by simp[World.cell?,bk]
         have cl:wc.cell? ⟨N,3,none⟩=some (.int .i64 (-1)):=by simp[World.cell?,bk]
         have kx:wc.frozen? ⟨N,3,none⟩=false:=by simp[World.frozen?,bk]
         go_upto_region 21 with fail
         have de:(wc.setCell ⟨N,3,none⟩ (.int .i64 (m:Int))).heap[N]?=some (.cells #[.int .i64 2,.int .i64 (-1),.int .i64 (-1),.int .i64 (m:Int),.int .i64 (-1)] 68 (0,0)):=by
          rw[heap_setCell_same wc N 3 _ _ _ bk]
          rfl
         have bY:(wc.setCell ⟨N,3,none⟩ (.int .i64 (m:Int))).heap[w.heap.size+1]?=some (.cells #[.int .i64 0,.int .i64 0,.int .i64 0,.int .i64 0,.int .i64 0] 68 (0,0)):=by
          rw[heap_setCell_other _ _ _ _ (by have:=cT.out.2;show w.heap.size+1≠N;omega)]
          exact bU
         have dX:Below w.heap.size w (wc.setCell ⟨N,3,none⟩ (.int .i64 (m:Int))):=(Jb bi.out.1 (Jb bN.out.2.2 cT.out.1)).setCell (p:=⟨N,3,none⟩) (by have:=cT.out.2;show w.heap.size≤N;omega) _
         generalize wc.setCell ⟨N,3,none⟩ (.int .i64 (m:Int))=bJ at de bY dX ⊢
         clear gW cl kx bU bk
         have dk:bJ.cell? ⟨w.heap.size+1,0,none⟩=some (.int .i64 0):=by simp[World.cell?,bY]
         have dl:bJ.cell? ⟨w.heap.size+1,1,none⟩=some (.int .i64 0):=by simp[World.cell?,bY]
         have dm:bJ.cell? ⟨w.heap.size+1,2,none⟩=some (.int .i64 0):=by simp[World.cell?,bY]
         have dn:bJ.cell? ⟨w.heap.size+1,3,none⟩=some (.int .i64 0):=by simp[World.cell?,bY]
         have dp:bJ.cell? ⟨w.heap.size+1,4,none⟩=some (.int .i64 0):=by simp[World.cell?,bY]
         have dr:bJ.frozen? ⟨w.heap.size+1,0,none⟩=false:=by simp[World.frozen?,bY]
         have ds:bJ.frozen? ⟨w.heap.size+1,1,none⟩=false:=by simp[World.frozen?,bY]
         have dt:bJ.frozen? ⟨w.heap.size+1,2,none⟩=false:=by simp[World.frozen?,bY]
         have du:bJ.frozen? ⟨w.heap.size+1,3,none⟩=false:=by simp[World.frozen?,bY]
         have dv:bJ.frozen? ⟨w.heap.size+1,4,none⟩=false:=by simp[World.frozen?,bY]
         have b0:bJ.cell? ⟨N,0,none⟩=some (.int .i64 2):=by simp[World.cell?,de]
         have b1:bJ.cell? ⟨N,1,none⟩=some (.int .i64 (-1)):=by simp[World.cell?,de]
         have b2:bJ.cell? ⟨N,2,none⟩=some (.int .i64 (-1)):=by simp[World.cell?,de]
         have b3:bJ.cell? ⟨N,3,none⟩=some (.int .i64 (m:Int)):=by simp[World.cell?,de]
         have kC:bJ.cell? ⟨N,4,none⟩=some (.int .i64 (-1)):=by simp[World.cell?,de]
         have U:=Jk (Jk (Jk (Jk (Jk bY 0 (.int .i64 2)) 1 (.int .i64 (-1))) 2 (.int .i64 (-1))) 3 (.int .i64 (m:Int))) 4 (.int .i64 (-1))
         simp only[Oa1,List.set_cons_zero,List.set_cons_succ]at U
         have bD:Hid _:=U
         have bV:Hid (Below w.heap.size w bJ):=dX
         clear U bY de dX
         go_wp2
         exact bodyPost_ret (v:=Jbz 2 (m:Int) (-1)) (by simp[results,results38,go_sem,World.cell?,bD.out]) rfl (Ksw.same bI.out.1 (Um bV.out (by omega) _ _ _ _ _) rfl rfl rfl rfl)
     have jU:m=ts.length:=by omega
     subst jU
     have jv:Hid (Jfg rs ts hs (cks rs.length G (j+1))=.inl (T++l)):=by
      show _=_
      rw[Jbj,Juv,bx.out.2.2.1]
      simp only[Jiu]
      rw[fO.out,bN.out.1]
     have fi:¬ ((ts.length:Int)<(ts.length:Int)):=by omega
     go_wp2
     go_roundw
     case rel=>exact⟨j+1,O+G,T++l,by go_num,by have:=fn.out.2;omega,by rw[bx.out.1,Of5],fn.out.1,jv.out,bN.out.2.1,bN.out.2.2⟩
     case measure=>have:=fn.out.2;simp[intOf];omega
   have jh:j=ckN rs.length G:=by
    have K:=bx.out.2.1
    rcases Oc1 j (ckN rs.length G)with bl|bl
    ·have fr:=Jqs fs bl
     have gZ:=bx.out.1
     omega
    ·omega
   have gQ:Hid (Jfg rs ts hs (cks rs.length G (ckN rs.length G))=.inl T):=by
    show _=_
    rw[←jh]
    exact bx.out.2.2.1
   have jI:=gO.out.2 T gQ.out
   subst jI
   have dL:Hid (T.length≤1200∧(∀ t∈T,t.length≤6100)∧Jch T≤132000):=by
    obtain⟨kj,kk,kX,kY⟩:=Jtr (g:=(G:Int)) bR.out (by rw[Int.toNat_natCast];exact gQ.out)
    have fr:=Kg4 rs.length G fs
    rw[Int.toNat_natCast]at kj
    have cK:ckN rs.length G*ts.length≤200*6:=Ol5 (by omega) jo
    exact⟨by omega,fun t jZ=>(kk t jZ).1,by omega⟩
   have dh:Hid (Below w.heap.size w wr∧w1.heap.size≤wr.heap.size):=⟨Jb bi.out.1 bx.out.2.2.2.2,bx.out.2.2.2.2.size⟩
   have gY:0<ts.length:=bR.out.1.2.1.1.1
   obtain⟨kq,kp,jN,_,_⟩:=(show Kc wr at_ ts from dg.out.types.below dh.out.1).at gY
   subst jN
   have je:=Qau name kq kp ct ts ar cr xs rs wr (dg.out.types.below dh.out.1) ⟨gY,by omega⟩ (dg.out.rows.below dh.out.1) (by omega) (fun r gw=>by
    obtain⟨i,hi,rfl⟩:=Od5 gw
    have:=(bR.out.1.2.2.2 i hi).1
    omega)
   have fi:¬ ((O:Int)<(rs.length:Int)):=by omega
   clear jh jk
   go_upto_region 24 with(go_at_call 66;refine je.mono ?_;rintro e cY ⟨bG,bQ,bE,bM,kw,rfl,hi,js,jm,dS,fa⟩)
   clear je c0 c1 c2 fi
   obtain⟨bj,fu⟩:∃ bj,bj=cY.alloc (.cells #[.string name,.slice bG ts.length bQ,.slice bE rs.length bM,.slice none 0 0] 113):=⟨_,rfl⟩
   rw[←fu]
   obtain⟨ju,ca,tv,fT,dO,dz⟩:=bI.out.1.ex
   have dT:Below cY.heap.size cY bj:=by rw[fu];exact(Oa5 _ _).alloc (Oa2 _) _
   have fb:=Jb dh.out.1 (Jb dS dT)
   have gy:=bI.out.1.lt st (dz st (.inl rfl))
   have fv:bj.heap[cY.heap.size]?=some (.cells #[.string name,.slice bG ts.length bQ,.slice bE rs.length bM,.slice none 0 0] 113 (0,0)):=by rw[fu];exact heap_alloc_new _ _
   have fd:cY.heap.size<bj.heap.size:=Jd fv
   have kc:=dS.size
   have kd:=dh.out.1.size
   have ke:=dh.out.2
   have kf:=bi.out.2.1
   obtain⟨M,jr⟩:∃ M,M=cY.heap.size:=⟨_,rfl⟩
   rw[←jr]at fv fd ⊢
   obtain⟨cL,dX⟩:∃ cL,cL=wr.heap.size:=⟨_,rfl⟩
   have cj:Hid (Qb8 bW ju w bj st Z Y bB P Rs ca tv fT cL M):=⟨dO,dz,bI.out.1.lt,fb,by omega,by omega,fd⟩
   have jy:Hid (∀ cO:World,bj.heap.size≤cO.heap.size→(∀ i,cL≤i→i<M→cO.heap[i]?=bj.heap[i]?)→Kc cO bG ts∧TyI cO bG∧Zd cO bE kw rs):=fun cO kJ jL=>by
    have gs:∀ i,cL≤i→i<M→cO.heap[i]?=cY.heap[i]?:=fun i K bl=>(jL i K bl).trans (dT.block i (by omega))
    refine⟨hi.of_block (by omega) fun b o e _=>gs b (by have:=fa b o e;omega) (by have:=fa b o e;omega),fun b o e=>?_,jm cO (by omega) fun i K bl=>gs i (by omega) (by omega)⟩
    obtain⟨jF,gl⟩:=js b o e
    exact⟨jF,(gs b (by have:=fa b o e;omega) (by have:=fa b o e;omega)).trans gl⟩
   have cV:Hid (w.heap.size+2≤M∧M<bj.heap.size∧Below w.heap.size w bj∧bj.heap[w.heap.size+1]?=some (.cells #[.int .i64 0,.int .i64 0,.int .i64 0,.int .i64 0,.int .i64 0] 68 (0,0))∧st<w.heap.size∧∀ g,ca.ownBlock=some g→g<w.heap.size):=⟨by omega,fd,fb,((Jb bx.out.2.2.2.2 (Jb dS dT)).block _ (by omega)).trans bi.out.2.2.2,gy,fun g br=>bI.out.1.lt g (dz g (.inr (.inl br)))⟩
   have fp:Hid (Jo bj w1.heap.size 3 _ (Ktd T)∧w.heap.size+2≤w1.heap.size∧∀ g,Value.ownBlock _=some g→g<M):=⟨Jaw bx.out.2.2.2.1 (Jb dS dT),by omega,fun g br=>by have:=(Je bx.out.2.2.2.1 br).2;omega⟩
   have gS:Hid (WrX bj st M ca tv (.slice bG ts.length bQ) (.slice bE rs.length bM) name Z Y bB P (Jch T) (Jch T) bB P ca (.slice none 0 0) [] bj):=by
    refine⟨⟨(fb.block st gy).trans dO.store,dO.pages.of_block fun g br=>fb.block g (bI.out.1.lt g (dz g (.inr (.inl br)))),⟨dO.st_.2.1,fun e=>?_⟩,fun g br=>.inl br,fv,Jo.nil _ _ _,by simp[Value.ownBlock],Ju.refl _ _,by omega,fd,by omega⟩,by simp[Ku1],by have K:=bI.out.2.2.1;have bl:=dL.out.2.2;omega,bI.out.2.2.2.1,by have K:=bI.out.2.2.2.2;have bl:=dL.out.2.2;omega,by have bl:=dL.out.2.2;simp;omega,by simp⟩
    have:=bI.out.1.lt M (dz M (.inr (.inl e)))
    omega
   obtain⟨cz,gg⟩:∃ cz,cz=Kui Z Y bB P Rs name ts rs (.inr (.inr (.inr T))):=⟨_,rfl⟩
   have fo:Hid ((∀ cW cX l x,Kr0 Z Y (Jch T) bB P=((cW,cX),l,some x)→cz=⟨Jbz (if x then 5 else 6) (-1) (-1),cW,Kr5 cX l,Rs⟩)∧(∀ cW cX l,Kr0 Z Y (Jch T) bB P=((cW,cX),l,none)→cz=⟨Jbz 0 (-1) (-1),cW,cX,Rs++[⟨name,ts,rs,l⟩]⟩)):=by
    rw[gg]
    unfold Kui
    exact⟨fun cW cX l x e=>by simp only[e],fun cW cX l e=>by simp only[e]⟩
   have fH:Hid (Kui Z Y bB P Rs name ts rs (.inr (.inr (.inr T)))=cz):=gg.symm
   clear gg
   obtain⟨jC,jE,jY,_⟩:=fp.out.1.cells
   subst jY
   have jj:(Ktd T).length=T.length:=Oa6 _
   rw[jj]
   clear dO dz dT fb gy fv fd kc kd ke kf jr dX fu hi js jm dS fa jj gG
   have kI:T.length≤1200:=dL.out.1
   go_upto_region 25 with fail
   go_loopw [18] (fun gD ci=>∃ (n:Nat) (k:Int) (I:List RP) (sv bP:Value) (pl:List Nat),gD=.int .i64 (n:Int)∧n≤T.length∧Hid (WrX bj st M ca tv (.slice bG ts.length bQ) (.slice bE rs.length bM) name Z Y bB P (Jch T) (Jch T-Jch (T.take n)) k I sv bP pl ci)) (fun gD _=>T.length-(intOf gD).toNat)
   case atStart=>exact⟨0,bB,P,ca,.slice none 0 0,[],rfl,Ob7 _,by rw[List.take_zero];exact gS.out⟩
   case round=>
    clear gS
    obtain⟨n,k,I,sv,bP,pl,rfl,hk,H⟩:=hrel
    have fI:Hid (Jo wr w1.heap.size 3 (.slice jC T.length jE) (Ktd T)):=by
     have K:=fp.out.1
     rw[show (Ktd T).length=T.length from Oa6 _]at K
     refine Jl K fun g br=>H.out.r.keep.block g (Je K br).2 fun e=>?_
     have bl:=(Je K br).1
     have fr:=fp.out.2.1
     have gZ:=cV.out.2.2.2.2.1
     rcases e with e|e|e
     ·omega
     ·have:=cV.out.2.2.2.2.2 g e;omega
     have:=fp.out.2.2 g (by rw[show (Ktd T).length=T.length from Oa6 _];exact br);omega
    by_cases dW:n<T.length
    ·obtain⟨kA,kE,ga,jd⟩:=fI.out.cells
     injection ga with ga h6l h6'
     subst ga
     obtain⟨kD,kW,jO,_,cF⟩:=jd.at (show n<(Ktd T).length by unfold Ktd;rw[Oa6];exact dW)
     subst jO
     have dC:(Ktd T)[n]'(by unfold Ktd;rw[Oa6];exact dW)=.int .i64 (T[n].length:Int):=by simp[Ktd,iv]
     rw[dC]at cF
     have dK:Hid (Jch (T.take (n+1))=Jch (T.take n)+(T[n].length+55) / 56∧Jch (T.take (n+1))≤Jch T∧n<T.length):=⟨Kwy T n dW,Kvk T _,dW⟩
     have jX:T[n].length≤6100:=dL.out.2.1 _ (Ob3 dW)
     generalize T[n].length=s at cF dK jX
     have cE:(0:Int)≤(n:Int):=by omega
     have fe:(n:Int)<(T.length:Int):=by omega
     clear dC jd h6' h6l
     go_upto_region 28 with fail
     clear cF cE fe
     obtain⟨cA,gh⟩:∃ cA,cA=Jch T-Jch (T.take n):=⟨_,rfl⟩
     rw[←gh]at H
     have gN:Hid (cA=Jch T-Jch (T.take n)∧(s+55) / 56≤cA):=⟨gh,by have K:=dK.out;omega⟩
     clear gh
     go_loopw [19] (fun gE ci=>∃ (i:Nat) (k:Int) (I:List RP) (sv bP:Value) (pl:List Nat),gE=.int .i64 ((s:Int)-56*(i:Int))∧i≤(s+55) / 56∧Hid (WrX bj st M ca tv (.slice bG ts.length bQ) (.slice bE rs.length bM) name Z Y bB P (Jch T) (cA-i) k I sv bP pl ci)) (fun gE _=>(intOf gE).toNat)
     case atStart=>exact⟨0,k,I,sv,bP,pl,by simp,Ob7 _,H.out⟩
     case round=>
      clear H fI
      obtain⟨i,k,I,sv,bP,pl,rfl,hi,H⟩:=hrel
      by_cases gq:i<(s+55) / 56
      ·have cE:(s:Int)-56*(i:Int)>0:=by omega
       obtain⟨cS,jn⟩:∃ cS,cA-i=cS+1:=⟨cA-i-1,by have:=gN.out.2;omega⟩
       rw[jn]at H
       have df:0≤k∧k≤1000000000000000000:=⟨H.out.k0,by have:=H.out.k1;omega⟩
       have cD:=Qb0 st Z Y k I sv tv wr H.out.r.store H.out.r.own H.out.r.ne.1 (by have:=H.out.room;omega) df.1 df.2
       have fF:Hid (i<(s+55) / 56∧cA-(i+1)=cS):=⟨gq,by omega⟩
       obtain⟨cQ,dx,cl⟩:=Qbj Z Y k I df.1 df.2
       obtain⟨fz,fA,fB⟩:=Kz9 Z Y cS k I df.1 df.2 pl
       clear gq jn df
       by_cases bZ:Z≤((Kr6 I:Nat):Int)
       ·obtain⟨g1,g2,cn⟩:=cQ bZ
        rw[g1,g2,cn]at cD
        have dI:Hid (cz=⟨Jbz 5 (-1) (-1),k,Kr5 I pl,Rs⟩):=by
         have:=fo.out.1 k I pl true (H.out.lay.trans (fz bZ))
         show cz=_
         simpa using this
        clear cQ dx cl fz fA fB bZ g1 g2 cn
        have dH:Hid (∀ ba,WrP wr st Z Y sv tv (k) I ba→∃ sv',Ktt bj st M ca tv (.slice bG ts.length bQ) (.slice bE rs.length bM) name Z Y (k) I sv' bP pl ba):=fun ba da=>H.out.r.wrote da
        have cU:Hid (I.length≤990000∧pl.length≤1000000∧∀ i∈pl,i<I.length):=⟨by have:=H.out.room;omega,by have:=H.out.few;omega,H.out.inp⟩
        clear H
        go_upto_region 32 with(go_at_call 67;refine cD.mono ?_;rintro e bh ⟨rfl,cx⟩)
        clear cD
        obtain⟨sv',bf⟩:=dH.out bh cx
        have fK:Hid (Ktt bj st M ca tv (.slice bG ts.length bQ) (.slice bE rs.length bM) name Z Y (k) I sv' bP pl bh):=bf
        clear cx dH
        obtain⟨cb,cp,cv⟩:=Jcz bf.pages
        rw[Oa6]at cv
        subst cv
        have cl:bh.cell? ⟨M,3,none⟩=some (.slice cb pl.length cp):=by simp[World.cell?,bf.tab]
        have dV:=Kyx st Z Y (k) I sv' tv pl cb cp bh bf.store bf.own bf.ne.1 cU.out.1 (by obtain⟨jB,jD,cZ,gm⟩:=bf.pages.cells;injection cZ with cZ _ _;rw[cZ];exact gm) cU.out.2.1 cU.out.2.2 (fun b o e dQ=>bf.apart b (by rw[e];rfl) dQ)
        have cG:Hid (bh.heap[w.heap.size+1]?=some (.cells #[.int .i64 0,.int .i64 0,.int .i64 0,.int .i64 0,.int .i64 0] 68 (0,0))∧sv'.ownBlock≠some (w.heap.size+1)):=by
         have K:=cV.out
         refine⟨?_,fun e=>?_⟩
         ·rw[bf.keep.block _ (by omega) fun e=>?_]
          ·exact K.2.2.2.1
          rcases e with e|e|e
          ·omega
          ·have:=K.2.2.2.2.2 _ e;omega
          omega
         rcases bf.old _ e with a|a
         ·have:=K.2.2.2.2.2 _ a;omega
         omega
        clear bf
        go_upto_region 33 with(go_at_call 43;refine dV.mono ?_;rintro e cN ⟨rfl,dY,J⟩)
        clear dV cl
        have db:=(J.block _ (Jd cG.out.1) cG.out.2).trans cG.out.1
        have fM:Hid (∀ bS,Ju (fun i=>i=w.heap.size+1) cN bS→Ju bW w bS∧∃ ck:Nat→Prop,RSt ck bS st Z Y (k) (Kr5 I pl) Rs∧(∀ i,bW i→ck i)∧∀ i,ck i→bW i∨w.heap.size≤i):=fun bS cK=>fK.out.undone cj.out dY J cK
        clear dY J cG
        have bT:=Kse 5 cN
        go_wp2_with fail
        refine bT.mono ?_
        rintro e R ⟨rfl,cu⟩
        have L:=(cu.block _ (Jd db)).trans db
        have dk:R.cell? ⟨w.heap.size+1,0,none⟩=some (.int .i64 0):=by simp[World.cell?,L]
        have dl:R.cell? ⟨w.heap.size+1,1,none⟩=some (.int .i64 0):=by simp[World.cell?,L]
        have dm:R.cell? ⟨w.heap.size+1,2,none⟩=some (.int .i64 0):=by simp[World.cell?,L]
        have dn:R.cell? ⟨w.heap.size+1,3,none⟩=some (.int .i64 0):=by simp[World.cell?,L]
        have dp:R.cell? ⟨w.heap.size+1,4,none⟩=some (.int .i64 0):=by simp[World.cell?,L]
        have dr:R.frozen? ⟨w.heap.size+1,0,none⟩=false:=by simp[World.frozen?,L]
        have ds:R.frozen? ⟨w.heap.size+1,1,none⟩=false:=by simp[World.frozen?,L]
        have dt:R.frozen? ⟨w.heap.size+1,2,none⟩=false:=by simp[World.frozen?,L]
        have du:R.frozen? ⟨w.heap.size+1,3,none⟩=false:=by simp[World.frozen?,L]
        have dv:R.frozen? ⟨w.heap.size+1,4,none⟩=false:=by simp[World.frozen?,L]
        have U:=Jk (Jk (Jk (Jk (Jk L 0 (.int .i64 5)) 1 (.int .i64 (-1))) 2 (.int .i64 (-1))) 3 (.int .i64 (-1))) 4 (.int .i64 (-1))
        simp only[Oa1,List.set_cons_zero,List.set_cons_succ]at U
        have bD:Hid _:=U
        have bC:Hid (Below cN.heap.size cN R):=cu
        clear U L db cu bT
        go_wp2
        refine bodyPost_ret (v:=fault 5) (by simp[results,results38,go_sem,World.cell?,bD.out]) rfl ?_
        unfold Ksw
        rw[fH.out,dI.out]
        refine⟨rfl,fM.out _ ⟨bC.out.os,bC.out.tape,bC.out.output,by rw[Jg2];exact bC.out.size,fun i hi cC=>?_⟩⟩
        exact(Zh _ _ _ _ _ _ _ i cC).trans (bC.out.block i hi)
       by_cases bk:k+1=Y
       ·obtain⟨g1,g2,cn⟩:=dx bZ bk
        rw[g1,g2,cn]at cD
        have dI:Hid (cz=⟨Jbz 6 (-1) (-1),k+1,Kr5 I pl,Rs⟩):=by
         have:=fo.out.1 (k+1) I pl false (H.out.lay.trans (fA bZ bk))
         show cz=_
         simpa using this
        clear cQ dx cl fz fA fB bZ bk g1 g2 cn
        have dH:Hid (∀ ba,WrP wr st Z Y sv tv (k+1) I ba→∃ sv',Ktt bj st M ca tv (.slice bG ts.length bQ) (.slice bE rs.length bM) name Z Y (k+1) I sv' bP pl ba):=fun ba da=>H.out.r.wrote da
        have cU:Hid (I.length≤990000∧pl.length≤1000000∧∀ i∈pl,i<I.length):=⟨by have:=H.out.room;omega,by have:=H.out.few;omega,H.out.inp⟩
        clear H
        go_upto_region 32 with(go_at_call 67;refine cD.mono ?_;rintro e bh ⟨rfl,cx⟩)
        clear cD
        obtain⟨sv',bf⟩:=dH.out bh cx
        have fK:Hid (Ktt bj st M ca tv (.slice bG ts.length bQ) (.slice bE rs.length bM) name Z Y (k+1) I sv' bP pl bh):=bf
        clear cx dH
        obtain⟨cb,cp,cv⟩:=Jcz bf.pages
        rw[Oa6]at cv
        subst cv
        have cl:bh.cell? ⟨M,3,none⟩=some (.slice cb pl.length cp):=by simp[World.cell?,bf.tab]
        have dV:=Kyx st Z Y (k+1) I sv' tv pl cb cp bh bf.store bf.own bf.ne.1 cU.out.1 (by obtain⟨jB,jD,cZ,gm⟩:=bf.pages.cells;injection cZ with cZ _ _;rw[cZ];exact gm) cU.out.2.1 cU.out.2.2 (fun b o e dQ=>bf.apart b (by rw[e];rfl) dQ)
        have cG:Hid (bh.heap[w.heap.size+1]?=some (.cells #[.int .i64 0,.int .i64 0,.int .i64 0,.int .i64 0,.int .i64 0] 68 (0,0))∧sv'.ownBlock≠some (w.heap.size+1)):=by
         have K:=cV.out
         refine⟨?_,fun e=>?_⟩
         ·rw[bf.keep.block _ (by omega) fun e=>?_]
          ·exact K.2.2.2.1
          rcases e with e|e|e
          ·omega
          ·have:=K.2.2.2.2.2 _ e;omega
          omega
         rcases bf.old _ e with a|a
         ·have:=K.2.2.2.2.2 _ a;omega
         omega
        clear bf
        go_upto_region 33 with(go_at_call 43;refine dV.mono ?_;rintro e cN ⟨rfl,dY,J⟩)
        clear dV cl
        have db:=(J.block _ (Jd cG.out.1) cG.out.2).trans cG.out.1
        have fM:Hid (∀ bS,Ju (fun i=>i=w.heap.size+1) cN bS→Ju bW w bS∧∃ ck:Nat→Prop,RSt ck bS st Z Y (k+1) (Kr5 I pl) Rs∧(∀ i,bW i→ck i)∧∀ i,ck i→bW i∨w.heap.size≤i):=fun bS cK=>fK.out.undone cj.out dY J cK
        clear dY J cG
        have bT:=Kse 6 cN
        go_wp2_with fail
        refine bT.mono ?_
        rintro e R ⟨rfl,cu⟩
        have L:=(cu.block _ (Jd db)).trans db
        have dk:R.cell? ⟨w.heap.size+1,0,none⟩=some (.int .i64 0):=by simp[World.cell?,L]
        have dl:R.cell? ⟨w.heap.size+1,1,none⟩=some (.int .i64 0):=by simp[World.cell?,L]
        have dm:R.cell? ⟨w.heap.size+1,2,none⟩=some (.int .i64 0):=by simp[World.cell?,L]
        have dn:R.cell? ⟨w.heap.size+1,3,none⟩=some (.int .i64 0):=by simp[World.cell?,L]
        have dp:R.cell? ⟨w.heap.size+1,4,none⟩=some (.int .i64 0):=by simp[World.cell?,L]
        have dr:R.frozen? ⟨w.heap.size+1,0,none⟩=false:=by simp[World.frozen?,L]
        have ds:R.frozen? ⟨w.heap.size+1,1,none⟩=false:=by simp[World.frozen?,L]
        have dt:R.frozen? ⟨w.heap.size+1,2,none⟩=false:=by simp[World.frozen?,L]
        have du:R.frozen? ⟨w.heap.size+1,3,none⟩=false:=by simp[World.frozen?,L]
        have dv:R.frozen? ⟨w.heap.size+1,4,none⟩=false:=by simp[World.frozen?,L]
        have U:=Jk (Jk (Jk (Jk (Jk L 0 (.int .i64 6)) 1 (.int .i64 (-1))) 2 (.int .i64 (-1))) 3 (.int .i64 (-1))) 4 (.int .i64 (-1))
        simp only[Oa1,List.set_cons_zero,List.set_cons_succ]at U
        have bD:Hid _:=U
        have bC:Hid (Below cN.heap.size cN R):=cu
        clear U L db cu bT
        go_wp2
        refine bodyPost_ret (v:=fault 6) (by simp[results,results38,go_sem,World.cell?,bD.out]) rfl ?_
        unfold Ksw
        rw[fH.out,dI.out]
        refine⟨rfl,fM.out _ ⟨bC.out.os,bC.out.tape,bC.out.output,by rw[Jg2];exact bC.out.size,fun i hi cC=>?_⟩⟩
        exact(Zh _ _ _ _ _ _ _ i cC).trans (bC.out.block i hi)
       obtain⟨g1,g2,cn⟩:=cl bZ bk
       rw[g1,g2,cn]at cD
       have gM:Hid (Kr0 Z Y (Jch T) bB P=Ku1 (pl++[frP I]) (Kr0 Z Y cS (k+1) (Kr2 I))):=H.out.lay.trans (fB bZ bk)
       clear cQ dx cl fz fA fB bZ bk g1 g2 cn
       obtain⟨dy,gp⟩:∃ dy,dy=frP I:=⟨_,rfl⟩
       rw[←gp]at cD gM
       have fm:Hid ((Kr2 I).length≤I.length+1∧I.length≤(Kr2 I).length∧dy<(Kr2 I).length):=by
        have K:=Kvc I
        have bl:=Kuy I
        rw[←gp]at K bl
        split at K<;>exact⟨by omega,by omega,by omega⟩
       clear gp
       go_upto_region 34 with(go_at_call 67;refine cD.mono ?_;rintro e bh ⟨rfl,cx⟩)
       clear cD
       obtain⟨sv',bf⟩:=H.out.r.wrote cx
       have bH:Hid (Ktt bj st M ca tv (.slice bG ts.length bQ) (.slice bE rs.length bM) name Z Y (k+1) (Kr2 I) sv' bP pl bh∧pl.length+(cS+1)≤132000∧(Kr2 I).length+cS≤924000∧0≤k+1∧k+1+(cS:Int)≤200000000000000000∧∀ i∈pl++[dy],i<(Kr2 I).length):=⟨bf,H.out.few,by have K:=H.out.room;have bl:=fm.out.1;omega,by have:=H.out.k0;omega,by have:=H.out.k1;omega,fun i hi=>by
        rcases Od2.1 hi with K|K
        ·have:=H.out.inp i K;have:=fm.out.2.1;omega
        rw[Oc6]at K;rw[K];exact fm.out.2.2⟩
       clear cx bf H fm
       have cl:bh.cell? ⟨M,3,none⟩=some bP:=by simp[World.cell?,bH.out.1.tab]
       have gL:Hid (∀ (o:Obj) (ba:World),(bh.alloc o).grownBy ba bP.ownBlock→ba.cell? ⟨M,3,none⟩=some bP∧ba.frozen? ⟨M,3,none⟩=false):=fun o ba br=>by
        have jR:=Jd bH.out.1.tab
        have jq:ba.heap[M]?=bh.heap[M]?:=(br.block M (by rw[Oa7];omega) fun e=>by have K:=Je bH.out.1.pages e.symm;have bl:=bH.out.1.lt;omega).trans (Oa9 _ _ _ jR)
        exact⟨by simp[World.cell?,jq,bH.out.1.tab],by simp[World.frozen?,jq,bH.out.1.tab]⟩
       obtain⟨cb,cp,cv⟩:=Jcz bH.out.1.pages
       rw[Oa6]at cv
       subst cv
       go_wp2_with (at_builtin;go_must (refine Ks (by rfl) _ _ 27 3 _ 8 Zw (by rfl) (by decide) (by kernel_rfl) (by rfl) bj.heap.size _ (pl.map nv) (by rfl) (Jo.alloc bH.out.1.pages _) ⟨bh.heap.size,0,none⟩ 1 [nv dy] (by rfl) (by exact Ua bh _ _) (by intro u cR;simp at cR;subst cR;rfl) (by have:=bH.out.2.1;simp only[List.length_cons,List.length_nil,Oa6];omega) (by have:=bH.out.1.keep.size;simp;omega) ?_);intro kZ w4 cM cf dD;have me:=(gL.out _ w4 cf).1;have mf:=(gL.out _ w4 cf).2;obtain⟨kB,kF,jl⟩:=Jcz cM;rw[Oa8,List.length_singleton,Oa6]at jl;subst jl)
       go_roundw
       case rel=>exact⟨i+1,k+1,Kr2 I,sv',_,pl++[dy],by go_num,fF.out.1,by rw[fF.out.2];exact⟨bH.out.1.paged cM cf dD,gM.out,bH.out.2.2.1,bH.out.2.2.2.1,bH.out.2.2.2.2.1,by have:=bH.out.2.1;simp;omega,bH.out.2.2.2.2.2⟩⟩
       case measure=>have:=fF.out.1;simp[intOf];omega
      have jQ:i=(s+55) / 56:=by omega
      have jw:Hid (Jch T-Jch (T.take (n+1))=cA-i):=by have K:=dK.out.1;have bl:=gN.out.1;show Jch T-Jch (T.take (n+1))=cA-i;omega
      have cE:¬ ((s:Int)-56*(i:Int)>0):=by omega
      clear jQ gq
      go_wp2
      go_roundw
      case rel=>exact⟨n+1,k,I,sv,bP,pl,by go_num,dK.out.2.2,by rw[jw.out];exact H.out⟩
      case measure=>have:=dK.out.2.2;simp[intOf];omega
    obtain rfl:n=T.length:=by omega
    rw[Of2,Oe1]at H
    have dI:Hid (cz=⟨Jbz 0 (-1) (-1),k,I,Rs++[⟨name,ts,rs,pl⟩]⟩):=fo.out.2 k I pl (by rw[H.out.lay];simp[Ku1,Kr0])
    have cE:¬ ((T.length:Int)<(T.length:Int)):=by omega
    clear fI fo
    go_upto_region 35 with fail
    clear cE
    obtain⟨cb,cp,cv⟩:=Jcz H.out.r.pages
    rw[Oa6]at cv
    subst cv
    have gA:∀ g,tv.ownBlock=some g→g<w.heap.size:=fun g br=>cj.out.lt g (cj.out.n g (.inr (.inr (.inl br))))
    have fL:Hid (wr.ownsRow 0 113 4 tv Rs.length (fT.flatMap id)):=by
     refine Jl cj.out.x.own fun g br=>?_
     have K:=gA g br
     have bl:=cV.out
     rw[H.out.r.keep.block g (by omega) fun e=>?_]
     ·exact bl.2.2.1.block g K
     rcases e with e|e|e
     ·exact cj.out.x.st_.2.2 (e▸br)
     ·exact(cj.out.x.sv_ g e).2 br
     omega
    have gT:Hid (tv.ownBlock≠some M∧tv.ownBlock≠some st):=⟨fun e=>by have K:=gA M e;have bl:=cV.out.1;omega,cj.out.x.st_.2.2⟩
    clear gA
    obtain⟨dq,dw,ka⟩:=Jcz fL.out
    subst ka
    have dM:wr.cell? ⟨st,4,none⟩=some (.slice dq Rs.length dw):=by simp[World.cell?,H.out.r.store]
    have gX:wr.cell? ⟨M,0,none⟩=some (.string name):=by simp[World.cell?,H.out.r.tab]
    have g1:wr.cell? ⟨M,1,none⟩=some (.slice bG ts.length bQ):=by simp[World.cell?,H.out.r.tab]
    have g2:wr.cell? ⟨M,2,none⟩=some (.slice bE rs.length bM):=by simp[World.cell?,H.out.r.tab]
    have cn:wr.cell? ⟨M,3,none⟩=some (.slice cb pl.length cp):=by simp[World.cell?,H.out.r.tab]
    refine Kr7 10 (S:=fun bc=>bc.cell? ⟨st,4,none⟩=some (.slice dq Rs.length dw)∧bc.cell? ⟨M,0,none⟩=some (.string name)∧bc.cell? ⟨M,1,none⟩=some (.slice bG ts.length bQ)∧bc.cell? ⟨M,2,none⟩=some (.slice bE rs.length bM)∧bc.cell? ⟨M,3,none⟩=some (.slice cb pl.length cp)) (by kernel_rfl) ⟨Jh dM,Jh gX,Jh g1,Jh g2,Jh cn⟩ (fun A=>?_)
    refine tkm 0 rfl A ?_
    refine tkm 1 rfl A ?_
    refine tkm 2 rfl A ?_
    refine tkm 3 rfl A ?_
    refine tkn ?_
    refine tkm 4 rfl A ?_
    refine tkm 5 rfl A ?_
    refine tkn ?_
    clear dM gX g1 g2 cn
    obtain⟨bc,dP⟩:∃ bc,bc=wr.drew:=⟨_,rfl⟩
    rw[←dP]at A ⊢
    have HZ:Hid (bc=wr.drew):=dP
    clear dP
    have cH:Hid (Ktt bj st M ca (.slice dq Rs.length dw) (.slice bG ts.length bQ) (.slice bE rs.length bM) name Z Y k I sv (.slice cb pl.length cp) pl bc∧bc.ownsRow 0 113 4 (.slice dq Rs.length dw) Rs.length (fT.flatMap id)):=by
     rw[HZ.out]
     exact⟨⟨H.out.r.store,H.out.r.own.of_block fun _ _=>rfl,H.out.r.ne,H.out.r.old,H.out.r.tab,H.out.r.pages,H.out.r.apart,H.out.r.keep.drewN 1,H.out.r.lt⟩,fL.out⟩
    clear H fL HZ
    refine Krx 6 rfl (fun bn bb=>?_)
    go_simp
    have bA:Below bc.heap.size bc (bc.alloc (.cells #[.string name,.slice bG ts.length bQ,.slice bE rs.length bM,.slice cb pl.length cp] 113)):=Jc (Oa5 _ _) _
    refine bb.out _ _ ⟨Ja bA A.1,Ja bA A.2.1,Ja bA A.2.2.1,Ja bA A.2.2.2.1,Ja bA A.2.2.2.2⟩ (fun A=>?_)
    clear bb bn bA A
    refine Krx 7 rfl (fun bn bb=>?_)
    refine Kvr rfl (.tmp 149) (.tmp 151) rfl cH.out.2 [.string name,.slice bG ts.length bQ,.slice bE rs.length bM,.slice cb pl.length cp] rfl (fun u cR=>by simp at cR;rcases cR with rfl|rfl|rfl|rfl<;>rfl) (by have K:=jx.out.1;have bl:=fq.out.2;omega) rfl rfl (fun fR fS w4 cM cf dD=>?_)
    have bL:∀ b,b<bc.heap.size→(Value.slice dq Rs.length dw).ownBlock≠some b→w4.heap[b]?=bc.heap[b]?:=fun b dQ cC=>(cf.block b (by rw[Oa7];omega) fun e=>cC e.symm).trans (Oa9 _ _ _ dQ)
    have fc:=(bL M (Jd cH.out.1.tab) gT.out.1).trans cH.out.1.tab
    have dC:=(bL st (Jd cH.out.1.store) gT.out.2).trans cH.out.1.store
    have dM:w4.cell? ⟨st,4,none⟩=some (.slice dq Rs.length dw):=by simp[World.cell?,dC]
    have ky:w4.frozen? ⟨st,4,none⟩=false:=by simp[World.frozen?,dC]
    refine bb.out _ _ ⟨dM,by simp[World.cell?,fc],by simp[World.cell?,fc],by simp[World.cell?,fc],by simp[World.cell?,fc]⟩ (fun A=>?_)
    clear bb bn bL fc dC
    simp only[Act.put,List.getElem_toArray,List.getElem_cons_zero,List.getElem_cons_succ,Oa1,List.set_cons_zero,List.set_cons_succ]
    refine Krx 8 rfl (fun bn bb=>?_)
    go_simp
    refine bb.out _ _ A (fun A=>?_)
    clear bb bn
    refine tkm 9 rfl A ?_
    refine tkn ?_
    refine Ksc rfl (fun bn bb=>?_)
    go_simp
    refine bb.out _ _ ?_
    clear bb bn dM ky A
    have gK:Hid (∀ bS,Ju (fun i=>i=w.heap.size+1) (w4.setCell ⟨st,4,none⟩ (.slice fR (Rs.length+1) fS)) bS→Ju bW w bS∧∃ ck:Nat→Prop,RSt ck bS st Z Y k I (Rs++[⟨name,ts,rs,pl⟩])∧(∀ i,bW i→ck i)∧∀ i,ck i→bW i∨w.heap.size≤i):=fun bS cK=>cH.out.1.done cj.out jy.out cM cf dD cK
    have fw:(w4.setCell ⟨st,4,none⟩ (.slice fR (Rs.length+1) fS)).heap[w.heap.size+1]?=some (.cells #[.int .i64 0,.int .i64 0,.int .i64 0,.int .i64 0,.int .i64 0] 68 (0,0)):=by
     have K:=cV.out
     have bl:=cH.out.1.keep.size
     rw[heap_setCell_other _ _ _ _ (by show w.heap.size+1≠st;omega),cf.block _ (by rw[Oa7];omega) fun e=>?_,Oa9 _ _ _ (by omega),cH.out.1.keep.block _ (by omega) fun e=>?_]
     ·exact K.2.2.2.1
     ·rcases e with e|e|e
      ·omega
      ·have:=K.2.2.2.2.2 _ e;omega
      omega
     have:=cj.out.lt _ (cj.out.n _ (.inr (.inr (.inl e.symm))));omega
    generalize w4.setCell ⟨st,4,none⟩ (.slice fR (Rs.length+1) fS)=fP at gK fw ⊢
    clear cM cf dD cH
    go_upto_region 36 with fail
    have jg:=Kta fP
    go_wp2_with fail
    refine jg.mono ?_
    rintro e R ⟨rfl,cu⟩
    have L:=(cu.block _ (Jd fw)).trans fw
    have dk:R.cell? ⟨w.heap.size+1,0,none⟩=some (.int .i64 0):=by simp[World.cell?,L]
    have dl:R.cell? ⟨w.heap.size+1,1,none⟩=some (.int .i64 0):=by simp[World.cell?,L]
    have dm:R.cell? ⟨w.heap.size+1,2,none⟩=some (.int .i64 0):=by simp[World.cell?,L]
    have dn:R.cell? ⟨w.heap.size+1,3,none⟩=some (.int .i64 0):=by simp[World.cell?,L]
    have dp:R.cell? ⟨w.heap.size+1,4,none⟩=some (.int .i64 0):=by simp[World.cell?,L]
    have dr:R.frozen? ⟨w.heap.size+1,0,none⟩=false:=by simp[World.frozen?,L]
    have ds:R.frozen? ⟨w.heap.size+1,1,none⟩=false:=by simp[World.frozen?,L]
    have dt:R.frozen? ⟨w.heap.size+1,2,none⟩=false:=by simp[World.frozen?,L]
    have du:R.frozen? ⟨w.heap.size+1,3,none⟩=false:=by simp[World.frozen?,L]
    have dv:R.frozen? ⟨w.heap.size+1,4,none⟩=false:=by simp[World.frozen?,L]
    have U:=Jk (Jk (Jk (Jk (Jk L 0 (.int .i64 0)) 1 (.int .i64 (-1))) 2 (.int .i64 (-1))) 3 (.int .i64 (-1))) 4 (.int .i64 (-1))
    simp only[Oa1,List.set_cons_zero,List.set_cons_succ]at U
    have bD:Hid _:=U
    have bC:Hid (Below fP.heap.size fP R):=cu
    clear U L fw cu jg
    go_wp2
    refine bodyPost_ret (v:=fault 0) (by simp[results,results38,go_sem,World.cell?,bD.out]) rfl ?_
    unfold Ksw
    rw[fH.out,dI.out]
    refine⟨rfl,gK.out _ ⟨bC.out.os,bC.out.tape,bC.out.output,by rw[Jg2];exact bC.out.size,fun i hi cC=>?_⟩⟩
    exact(Zh _ _ _ _ _ _ _ i cC).trans (bC.out.block i hi)
end Go.Proofs.YtcaocabmioafcaaGreatDoor
