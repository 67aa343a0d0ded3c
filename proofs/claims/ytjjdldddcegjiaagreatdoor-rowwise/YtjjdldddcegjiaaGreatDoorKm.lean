/- The law Segmented's own small functions. -/
import Derived.Test.YtjjdldddcegjiaaGreatDoorKl
import Derived.Test.YtjjdldddcegjiaaGreatDoorKk
import Derived.Test.YtjjdldddcegjiaaGreatDoorKq
import Derived.Deep.RegionHeld3
set_option maxHeartbeats 1000000
set_option maxRecDepth 100000
namespace Go.Proofs.YtjjdldddcegjiaaGreatDoor
open Go.RowKit Tryz
theorem Jfw (c:Int)(n:Nat)(w:World)(z:Jg c)(hn:0<n)(D:n≤4611686018427387904) :
  Calls prog 29 #[.int .i64 c,.int .i64 n] w fun e w'=>(∃ r:Nat,e=.returned (.int .i64 r)∧r<n)∧w'=w:=by
 unfold Jg at z
 have y:¬ ((n:Int)=0):=by omega
 by_cases h0:c<0
 ·go_enter func29,ntmps29
  go_wp2
  go_ret
  have C:=Om1 (-(c+1)) y
  have A:=On6 (-(c+1)) (show (0:Int)<n by omega)
  have e:-((c+1).tmod n)=(((-(c+1)) % (n:Int)).toNat:Int):=by
   rw[←Int.neg_tmod,Om2 (by omega)]
   omega
  refine⟨⟨((-(c+1)) % (n:Int)).toNat,?_,by omega⟩,rfl⟩
  rw[←e]
  rfl
 go_enter func29,ntmps29
 go_wp2
 go_ret
 have C:=Om1 c y
 have A:=On6 c (show (0:Int)<n by omega)
 have e:c % (n:Int)=((c % (n:Int)).toNat:Int):=by omega
 refine⟨⟨(c % (n:Int)).toNat,?_,by omega⟩,rfl⟩
 rw[←e]
 rfl
theorem Jfu (w:World):Calls prog 17 #[] w fun e w'=>e=.returned (Jb6 0)∧Below w.heap.size w w':=by
 go_enter func17,ntmps17
 go_wp2
 exact bodyPost_ret (v:=Jb6 0) (by simp[results,results17,go_sem]) rfl ⟨rfl,(Oa5 _ _).alloc (Oa2 _) _⟩
theorem Kb1 (n:Int):bits .and .i64 n 1=n % 2:=by
 have y:(BitVec.ofInt 64 1).toNat=2 ^ 1-1:=by decide
 have z:(BitVec.ofInt 64 n &&& BitVec.ofInt 64 1).toNat=(n % ((2 ^ 64:Nat):Int)).toNat % 2 ^ 1:=by
  rw[BitVec.toNat_and,Ok6,y,Nat.and_two_pow_sub_one_eq_mod]
 show IntKind.i64.wrap ((BitVec.ofInt 64 n &&& BitVec.ofInt 64 1).toNat:Nat)=n % 2
 rw[z,Od4]
 omega
theorem Jx5 (n:Int):okB 2 2 (n % 2) ⟨#[]⟩=true:=by
 have:n % 2=0∨n % 2=1:=by omega
 rcases this with e|e<;>simp[okB,okK,e]
theorem Jyh (n:Int):Jg (n % 2):=by unfold Jg;omega
theorem Jk8 (v:V)(t:Int)(w:World)(A:t=1∨t=2∨t=3)(z:Jg v.k)(hn:Jg v.n) :
  Calls prog 21 #[v.val,.int .i64 t] w fun e w'=>(∃ u:V,e=.returned u.val∧okB t u.k u.n u.s=true∧Jg u.n)∧Below w.heap.size w w':=by
 have C:okB t 0 0 (Qw [])=true:=by simp[okB,Qw]
 have y:Jg 0:=by unfold Jg;omega
 have K:Below w.heap.size w ((w.alloc (.cells #[.int .i64 v.k,.int .i64 v.n,.string v.s] 49)).alloc (.cells #[.int .i64 0,.int .i64 0,.string ⟨#[]⟩] 49)):=((Oa5 _ _).alloc (Oa2 _) _).alloc (by simp) _
 obtain⟨k,n,s⟩:=v
 simp only at z hn K
 by_cases h0:k=0
 ·subst h0
  go_enter func21,ntmps21
  go_wp2_with fail
  refine bodyPost_ret (v:=.agg #[.int .i64 0,.int .i64 0,.string ⟨#[]⟩]) (by simp[results,results21,go_sem]) rfl ⟨⟨⟨0,0,⟨#[]⟩⟩,rfl,C,y⟩,((Oa5 _ _).alloc (Oa2 _) _).alloc (by simp) _⟩
 have M:(k==0)=false:=by simpa using h0
 have R:=Kb1 n
 go_enter func21,ntmps21
 go_wp2_with fail
 refine(Jfw k 7 _ z (by decide) (by decide)).mono ?_
 rintro e w1 ⟨⟨r,rfl,U⟩,rfl⟩
 by_cases H:r=6
 ·subst H
  go_wp2_with fail
  refine bodyPost_ret (v:=.agg #[.int .i64 0,.int .i64 0,.string ⟨#[]⟩]) (by simp[results,results21,go_sem]) rfl ⟨⟨⟨0,0,⟨#[]⟩⟩,rfl,C,y⟩,((Oa5 _ _).alloc (Oa2 _) _).alloc (by simp) _⟩
 have O:((r:Int)==6)=false:=by rw[beq_eq_false_iff_ne];omega
 by_cases D:s.size≤40
 ·have E:¬ ((40:Int)<(s.size:Int)):=by omega
  rcases A with rfl|rfl|rfl
  ·go_wp2_with fail
   refine bodyPost_ret (v:=.agg #[.int .i64 1,.int .i64 n,.string ⟨#[]⟩]) (by simp[results,results21,go_sem]) rfl ⟨⟨⟨1,n,⟨#[]⟩⟩,rfl,by simp[okB,okK],hn⟩,((Oa5 _ _).alloc (Oa2 _) _).alloc (by simp) _⟩
  ·go_wp2_with fail
   refine bodyPost_ret (v:=.agg #[.int .i64 2,.int .i64 (n % 2),.string ⟨#[]⟩]) (by simp[results,results21,go_sem]) rfl ⟨⟨⟨2,n % 2,⟨#[]⟩⟩,rfl,Jx5 n,Jyh n⟩,((Oa5 _ _).alloc (Oa2 _) _).alloc (by simp) _⟩
  go_wp2_with fail
  refine bodyPost_ret (v:=.agg #[.int .i64 3,.int .i64 0,.string s]) (by simp[results,results21,go_sem]) rfl ⟨⟨⟨3,0,s⟩,rfl,by simp[okB,okK,D],y⟩,((Oa5 _ _).alloc (Oa2 _) _).alloc (by simp) _⟩
 have E:((40:Int)<(s.size:Int)):=by omega
 have X:¬ ((s.size:Int)<40):=by omega
 rcases A with rfl|rfl|rfl
 ·go_wp2_with fail
  refine bodyPost_ret (v:=.agg #[.int .i64 1,.int .i64 n,.string ⟨#[]⟩]) (by simp[results,results21,go_sem]) rfl ⟨⟨⟨1,n,⟨#[]⟩⟩,rfl,by simp[okB,okK],hn⟩,((Oa5 _ _).alloc (Oa2 _) _).alloc (by simp) _⟩
 ·go_wp2_with fail
  refine bodyPost_ret (v:=.agg #[.int .i64 2,.int .i64 (n % 2),.string ⟨#[]⟩]) (by simp[results,results21,go_sem]) rfl ⟨⟨⟨2,n % 2,⟨#[]⟩⟩,rfl,Jx5 n,Jyh n⟩,((Oa5 _ _).alloc (Oa2 _) _).alloc (by simp) _⟩
 go_wp2_with fail
 refine bodyPost_ret (v:=.agg #[.int .i64 3,.int .i64 0,.string (s.extract 0 40)]) (by simp[results,results21,go_sem]) rfl ⟨⟨⟨3,0,s.extract 0 40⟩,rfl,by simp[okB,okK];omega,y⟩,((Oa5 _ _).alloc (Oa2 _) _).alloc (by simp) _⟩
end Go.Proofs.YtjjdldddcegjiaaGreatDoor
