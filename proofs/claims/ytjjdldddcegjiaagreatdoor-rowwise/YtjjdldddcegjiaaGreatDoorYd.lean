/- The law's own expressions: earlier parts, parts. -/
import Derived.Test.YtjjdldddcegjiaaGreatDoorYc
set_option maxHeartbeats 2000000
set_option maxRecDepth 100000
namespace Go.Proofs.YtjjdldddcegjiaaGreatDoor
open Go.RowKit Go.Shelf Tryz
attribute [local go_sem] Oc0
def Jfj (c:Int)(n:Nat):Nat:=((if c<0 then -(c+1)else c) % (n:Int)).toNat
theorem Jlr (c:Int)(n:Nat)(h:0<n):Jfj c n<n:=by
 unfold Jfj
 generalize (if c<0 then -(c+1)else c)=x
 have y:=Om1 x (show (n:Int)≠0 by omega)
 have z:=On6 x (show (0:Int)<n by omega)
 omega
theorem Kbw (c:Int)(n:Nat)(w:World)(D:Jg c)(hn:0<n)(M:n≤4611686018427387904) :
  Calls prog 29 #[.int .i64 c,.int .i64 n] w fun e w'=>e=.returned (.int .i64 (Jfj c n:Nat))∧w'=w:=by
 obtain⟨r,y⟩:∃ r:Nat,r=Jfj c n:=⟨_,rfl⟩
 rw[←y]
 unfold Jg at D
 have z:¬ ((n:Int)=0):=by omega
 unfold Jfj at y
 by_cases h0:c<0
 ·rw[if_pos h0]at y
  have C:0≤-(c+1)∧-(c+1)≤9223372036854775807:=by omega
  have H:wrap64 (c+1)=c+1:=by unfold wrap64;omega
  have K:wrap64 (-(c+1))=-(c+1):=by unfold wrap64;omega
  have A:(-(c+1)).tmod (n:Int)=(r:Int):=by
   rw[Om2 C.1,y]
   have:=Om1 (-(c+1)) z
   omega
  have E:(r:Int)≤9223372036854775807:=by
   have:=On6 (-(c+1)) (show (0:Int)<n by omega)
   have:=Om1 (-(c+1)) z
   omega
  clear y C
  go_enter func29,ntmps29
  go_wp2
  exact bodyPost_ret (v:=.int .i64 (r:Int)) (by simp[results,results29,go_sem]) rfl ⟨rfl,rfl⟩
 rw[if_neg h0]at y
 have A:c.tmod (n:Int)=(r:Int):=by
  rw[Om2 (by omega),y]
  have:=Om1 c z
  omega
 have E:(r:Int)≤9223372036854775807:=by
  have:=On6 c (show (0:Int)<n by omega)
  have:=Om1 c z
  omega
 clear y
 go_enter func29,ntmps29
 go_wp2
 go_ret
 refine⟨?_,rfl⟩
 rw[←A]
 have e:c % (n:Int)=c.tmod (n:Int):=by rw[Om2 (by omega)]
 first|rfl|(rw[←e];rfl)
def Jfs (c:Int)(n k:Nat):Nat:=if k≤Jfj c n then Jfj c n-k else Jfj c n+n-k
theorem Ka2 (c:Int)(n k:Nat)(hn:0<n)(y:k<n):Jfs c n k<n:=by
 have:=Jlr c n hn
 unfold Jfs
 split<;>omega
theorem Ju2 (c:Int)(n i:Nat)(hi:i<n):∃ k,k<n∧Jfs c n k=i:=by
 have:=Jlr c n (by omega)
 unfold Jfs
 by_cases h:i≤Jfj c n
 ·exact⟨Jfj c n-i,by omega,by rw[if_pos (by omega)];omega⟩
 exact⟨Jfj c n+n-i,by omega,by rw[if_neg (by omega)];omega⟩
def Kio (T:List Int)(t:Int)(w:World):Ending→World→Prop:=fun e w'=>w'=w∧((∃ r:Nat,e=.returned (.int .i64 (r:Int))∧r<T.length∧(t=0∨T.getD r 0=t))∨(e=.returned (.int .i64 (-1))∧∀ i,i<T.length→¬ (t=0∨T.getD i 0=t)))
theorem Ji0 (c:Int)(a:Option Addr)(cap:Nat)(T:List Int)(t:Int)(w:World)(bz:Jg c)(bf:Kc w a T)(bA:T.length≤1000) :
  Calls prog 40 #[.int .i64 c,.slice a T.length cap,.int .i64 t] w (Kio T t w):=by
 obtain⟨n,hn⟩:∃ n,n=T.length:=⟨_,rfl⟩
 have z:Hid (n=T.length):=hn
 have bL:n≤1000:=by omega
 have br:Hid (Kc w a T):=bf
 rw[←hn]
 clear hn bf bA
 go_enter func40,ntmps40
 go_wp2
 go_loopw [8] (fun i wr=>∃ k:Nat,k≤n∧i=.int .i64 (k:Int)∧wr=w∧Hid (∀ y,y<k→¬ (t=0∨T.getD (Jfs c n y) 0=t))) (fun i _=>n-(intOf i).toNat)
 case atStart=>exact⟨0,Ob7 _,rfl,rfl,fun k bi=>absurd bi (Oe0 _)⟩
 case round=>
  obtain⟨k,bi,rfl,R,U⟩:=hrel
  by_cases bl:k<n
  ·have D:=Ka2 c n k (by omega) bl
   have E:=Kbw c n wr bz (by omega) (by omega)
   have bB:=Jlr c n (by omega)
   obtain⟨p,M⟩:∃ p,p=Jfj c n:=⟨_,rfl⟩
   obtain⟨q,H⟩:∃ q,q=Jfs c n k:=⟨_,rfl⟩
   rw[←M]at E bB
   have bC:(k≤p∧q=p-k)∨(¬ k≤p∧q=p+n-k):=by
    rw[H,M]
    unfold Jfs
    split
    ·left;omega
    right;omega
   rw[←H]at D
   have A:Hid (q=Jfs c n k∧k<n∧q<n):=⟨H,bl,D⟩
   obtain⟨b,o,bx,bG,C⟩:=Kc.at br.out (i:=q) (by rw[←z.out];exact D)
   have bh:T[q]'(by rw[←z.out];exact D)=T.getD q 0:=by rw[Oa0,Oa3 (by rw[←z.out];exact D)];rfl
   rw[bh]at C
   obtain⟨u,O⟩:∃ u,u=T.getD q 0:=⟨_,rfl⟩
   rw[←O]at C
   have X:Hid (u=T.getD q 0):=O
   rw[←R]at C
   have K:Hid (wr=w):=R
   subst bx
   have bH:wr.cell? ⟨b,o+q,none⟩=some (.int .i64 u):=C
   clear O bh H M C R
   have bO:(0:Int)≤(q:Int):=by omega
   have bP:(q:Int)<(n:Int):=by omega
   rcases bC with⟨bj,bn⟩|⟨bj,bn⟩
   focus
    have bN:(p:Int)-(k:Int)=(q:Int):=by omega
   rotate_left 1
   focus
    have bK:(p:Int)-(k:Int)<0:=by omega
    have bE:(p:Int)-(k:Int)+(n:Int)=(q:Int):=by omega
   all_goals
    have bM:q≤1000:=by omega
    clear bn bj
    cases ht:(t==0)
    ·cases hut:(u==t)
     ·go_wp2_with (go_at_call 29;refine E.mono ?_;rintro bc Z ⟨rfl,rfl⟩)
      go_roundw
      case rel=>
       refine⟨k+1,A.out.2.1,by have:=A.out.2.1;go_num,K.out,fun y bI=>?_⟩
       by_cases e:y=k
       ·subst e
        rw[←A.out.1,←X.out]
        intro h
        rcases h with h|h
        ·simp[h]at ht
        simp[h]at hut
       exact U.out y (by omega)
      case measure=>have:=A.out.2.1;simp[intOf];omega
     go_wp2_with (go_at_call 29;refine E.mono ?_;rintro bc Z ⟨rfl,rfl⟩)
     refine bodyPost_ret (v:=.int .i64 (q:Int)) (by simp[results,results40,go_sem]) rfl ⟨K.out,.inl ⟨q,rfl,by rw[←z.out];exact A.out.2.2,.inr (by rw[←X.out];simpa using hut)⟩⟩
    go_wp2_with (go_at_call 29;refine E.mono ?_;rintro bc Z ⟨rfl,rfl⟩)
    refine bodyPost_ret (v:=.int .i64 (q:Int)) (by simp[results,results40,go_sem]) rfl ⟨K.out,.inl ⟨q,rfl,by rw[←z.out];exact A.out.2.2,.inl (by simpa using ht)⟩⟩
  have bJ:k=n:=by omega
  go_wp2
  refine bodyPost_ret (v:=.int .i64 (-1)) (by simp[results,results40,go_sem]) rfl ⟨rfl,.inr ⟨rfl,fun i hi=>?_⟩⟩
  rw[←z.out]at hi
  obtain⟨y,bD,bu⟩:=Ju2 c n i hi
  rw[←bu]
  exact U.out y (by omega)
end Go.Proofs.YtjjdldddcegjiaaGreatDoor
