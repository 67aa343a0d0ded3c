/- The document's Spoil in memory. -/
import Derived.Test.YtcaocabmioafcaaGreatDoorQd
set_option maxHeartbeats 4000000
set_option maxRecDepth 100000
namespace Go.Proofs.YtcaocabmioafcaaGreatDoor
open Go.RowKit Go.Shelf Tryz
attribute [local go_sem] Oc0
theorem Qbx (x y:Nat)(I:x<256)(J:y<256):bits .xor .i64 (x:Int) (y:Int)=((x ^^^ y:Nat):Int):=by
 have L:x ^^^ y<256:=Oo8 (n:=8) I J
 have K:(BitVec.ofInt 64 (x:Int) ^^^ BitVec.ofInt 64 (y:Int)).toNat=x ^^^ y:=by
  rw[BitVec.toNat_xor,Ok6,Ok6]
  have A:((x:Int) % ((2 ^ 64:Nat):Int)).toNat=x:=by omega
  have H:((y:Int) % ((2 ^ 64:Nat):Int)).toNat=y:=by omega
  rw[A,H]
 show IntKind.i64.wrap ((BitVec.ofInt 64 (x:Int) ^^^ BitVec.ofInt 64 (y:Int)).toNat:Int)=_
 rw[K]
 simp[IntKind.wrap,IntKind.bits,IntKind.signed]
 omega
def Ks0 (P:List RP)(page at_ A:Int):Option (List RP):=
 if 0≤page∧page<P.length∧0≤at_∧at_<64∧1≤A∧A≤255 then
  match P[page.toNat]? with
  |some (true,l)=>some (P.set page.toNat (true,l.set at_.toNat (l.getD at_.toNat 0 ^^^ A.toNat)))
  |_=>none
 else none
theorem Kzt (st:Nat)(sv:Value)(P:List RP)(page at_ A:Int)(w:World)(_Z:w.cell? ⟨st,3,none⟩=some sv)(h:Krz w sv P)(_ba:P.length≤1000000)(M:Ks0 P page at_ A=none) :
  Calls prog 23 #[.pointer (some ⟨st,0,none⟩),.int .i64 page,.int .i64 at_,.int .i64 A] w fun e w'=>e=.returned (.bool false)∧w'=w:=by
 obtain⟨a,c,rfl⟩:=h.slice
 have K:Hid (Ks0 P page at_ A=none∧Krz w (.slice a P.length c) P):=⟨M,h⟩
 clear M h
 by_cases k1:page<0
 ·go_enter func23,ntmps23
  go_wp2
  go_ret
  exact⟨rfl,rfl⟩
 by_cases _bf:page≥(P.length:Int)
 ·go_enter func23,ntmps23
  go_wp2
  go_ret
  exact⟨rfl,rfl⟩
 by_cases bh:at_<0
 ·go_enter func23,ntmps23
  go_wp2
  go_ret
  exact⟨rfl,rfl⟩
 by_cases bi:at_≥64
 ·go_enter func23,ntmps23
  go_wp2
  go_ret
  exact⟨rfl,rfl⟩
 by_cases bj:A<1
 ·go_enter func23,ntmps23
  go_wp2
  go_ret
  exact⟨rfl,rfl⟩
 by_cases bk:A>255
 ·go_enter func23,ntmps23
  go_wp2
  go_ret
  exact⟨rfl,rfl⟩
 obtain⟨p,rfl⟩:∃ p:Nat,page=(p:Int):=⟨page.toNat,by omega⟩
 have R:p<P.length:=by omega
 obtain⟨x,J⟩:∃ x,P[p]?=some x:=⟨_,Oa3 R⟩
 have N:x.1=false:=by
  have H:=K.out.1
  unfold Ks0 at H
  rw[if_pos (by omega),Int.toNat_natCast,J]at H
  rcases x with⟨_|_,l⟩
  ·rfl
  cases H
 obtain⟨g,cap,Y,I,O,U,L⟩:=K.out.2.at J
 injection I with I hl9 hcc
 subst I hcc
 clear hl9
 have X:=L 0 _ (Ktg _)
 rw[Nat.add_zero,N]at X
 have bb:(0:Int)≤(p:Int):=by omega
 have bc:(p:Int)<(P.length:Int):=by omega
 clear L O U J N
 go_enter func23,ntmps23
 go_wp2
 go_ret
 exact⟨rfl,rfl⟩
theorem Kyq (st:Nat)(q f k:Int)(sv tv:Value)(P X:List RP)(page at_ M:Int)(w:World)(ba:w.heap[st]?=some (.cells #[.int .i64 q,.int .i64 f,.int .i64 k,sv,tv] 83 (0,0)))(h:Krz w sv P)(bh:sv.ownBlock≠some st)(_bf:P.length≤1000000)(I:Ks0 P page at_ M=some X) :
  Calls prog 23 #[.pointer (some ⟨st,0,none⟩),.int .i64 page,.int .i64 at_,.int .i64 M] w fun e w'=>e=.returned (.bool true)∧Krz w' sv X∧Ju (fun x=>sv.ownBlock=some x) w w':=by
 have bj:w.cell? ⟨st,3,none⟩=some sv:=by simp[World.cell?,ba]
 clear ba
 unfold Ks0 at I
 split at I
 ·rename_i hk
  obtain⟨p,rfl⟩:∃ p:Nat,page=(p:Int):=⟨page.toNat,by omega⟩
  obtain⟨i,rfl⟩:∃ i:Nat,at_=(i:Int):=⟨at_.toNat,by omega⟩
  obtain⟨n,rfl⟩:∃ n:Nat,M=(n:Int):=⟨M.toNat,by omega⟩
  rw[Int.toNat_natCast,Int.toNat_natCast,Int.toNat_natCast]at I
  split at I
  ·rename_i l O
   cases I
   obtain⟨g,cap,bA,bl,bb,bn,R⟩:=h.at O
   subst bl
   have J:=h.ok _ (Of6 O)
   have N:i<l.length:=by have:=J.1;simp only at this;omega
   have bu:=R 0 _ (Ktg _)
   rw[Nat.add_zero]at bu
   have U:=R (i+1) _ (Qbd (Oa3 N))
   rw[show p*65+(i+1)=p*65+1+i by omega]at U
   have bN:w.frozen? ⟨g,p*65+1+i,none⟩=false:=by simp[World.frozen?,bb]
   have bc:l[i]≤255:=J.2 _ (Ob3 N)
   have br:=Qbx l[i] n (by omega) (by omega)
   have K:Hid (Krz (w.setCell ⟨g,p*65+1+i,none⟩ (.int .i64 ((l[i] ^^^ n:Nat):Int))).drew (.slice (some ⟨g,0,none⟩) P.length cap) (P.set p (true,l.set i (l.getD i 0 ^^^ n)))∧Ju (fun x=>(Value.slice (some ⟨g,0,none⟩) P.length cap).ownBlock=some x) w (w.setCell ⟨g,p*65+1+i,none⟩ (.int .i64 ((l[i] ^^^ n:Nat):Int))).drew):=by
    have bk:l.getD i 0=l[i]:=by simp[N]
    rw[bk]
    have bB:l[i] ^^^ n≤255:=by have:=Oo8 (n:=8) (show l[i]<2 ^ 8 by omega) (show n<2 ^ 8 by omega);omega
    refine⟨Krz.of_block (w:=w.setCell ⟨g,p*65+1+i,none⟩ (.int .i64 ((l[i] ^^^ n:Nat):Int))) ?_ fun _ _=>rfl,((Ju.refl (fun x=>(Value.slice (some ⟨g,0,none⟩) P.length cap).ownBlock=some x) w).set (b:=g) rfl _ _).drewN 1⟩
    have:=h.cell (c:=i+1) O (x':=(true,l.set i (l[i] ^^^ n))) ⟨by simpa using J.1,fun m _bf=>by
     rcases List.mem_or_eq_of_mem_set _bf with Z|Z
     ·exact J.2 m Z
     omega⟩ (by omega) (.int .i64 ((l[i] ^^^ n:Nat):Int)) (by simp[pgC])
    rw[show p*65+(i+1)=p*65+1+i by omega]at this
    exact this
   have bi:g≠st:=fun e=>bh (by rw[e];rfl)
   have bx:Hid (g≠st):=bi
   have bC:(0:Int)≤(p:Int):=by omega
   have bD:(p:Int)<(P.length:Int):=by omega
   have bE:(0:Int)≤(i:Int):=by omega
   have bG:(i:Int)<64:=by omega
   have bH:¬ ((p:Int)<0):=by omega
   have bI:¬ ((p:Int)≥(P.length:Int)):=by omega
   have bJ:¬ ((i:Int)<0):=by omega
   have bK:¬ ((i:Int)≥64):=by omega
   have bL:¬ ((n:Int)<1):=by omega
   have bM:¬ ((n:Int)>255):=by omega
   generalize l[i]=v at U br K bc
   clear hk O R bb bn J N h bh bi bc
   go_enter func23,ntmps23
   go_upto_region 5 with fail
   refine Kr7 21 (S:=fun Y=>Y.cell? ⟨st,3,none⟩=some (.slice (some ⟨g,0,none⟩) P.length cap)∧Y.cell? ⟨g,p*65+1+i,none⟩=some (.int .i64 (v:Int))) (by kernel_rfl) ⟨Jh bj,Jh U⟩ (fun A=>?_)
   refine tkm 0 rfl A ?_
   refine tkm 1 rfl A ?_
   refine tkm 2 rfl A ?_
   refine tkm 3 rfl A ?_
   refine tkm 4 rfl A ?_
   refine tkm 5 rfl A ?_
   refine tkm 6 rfl A ?_
   refine tkm 7 rfl A ?_
   refine tkm 8 rfl A ?_
   refine tkm 9 rfl A ?_
   refine tkm 10 rfl A ?_
   refine tkm 11 rfl A ?_
   refine tkm 12 rfl A ?_
   refine tkm 13 rfl A ?_
   refine tkm 14 rfl A ?_
   refine tkm 15 rfl A ?_
   refine tkm 16 rfl A ?_
   refine tkm 17 rfl A ?_
   refine tkn ?_
   refine Krx 18 rfl (fun L H=>?_)
   go_simp
   refine H.out _ _ A (fun A=>?_)
   clear H L
   refine Krx 19 rfl (fun L H=>?_)
   go_simp
   refine H.out _ _ A (fun A=>?_)
   clear H L
   refine tkm 20 rfl A ?_
   refine tkn ?_
   refine Ksc rfl (fun L H=>?_)
   go_simp
   refine H.out _ _ ?_
   generalize (w.setCell ⟨g,p*65+1+i,none⟩ (.int .i64 ((v ^^^ n:Nat):Int))).drew=bz at K ⊢
   go_wp2
   go_ret
   exact⟨rfl,K.out.1,K.out.2⟩
  cases I
 cases I
end Go.Proofs.YtcaocabmioafcaaGreatDoor
