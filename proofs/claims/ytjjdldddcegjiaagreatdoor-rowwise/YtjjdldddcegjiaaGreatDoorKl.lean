/- What is written is read: each piece of a segment, and the whole. Nothing is run. -/
import Derived.Test.YtjjdldddcegjiaaGreatDoorKk
namespace Go.Proofs.YtjjdldddcegjiaaGreatDoor
open Go.RowKit
theorem Jhi (x rest:List UInt8):Jat x.length (x++rest)=some (x,rest):=by
 unfold Jat
 rw[if_pos (by simp)]
 simp
def Jg (n:Int):Prop:=-9223372036854775808≤n∧n≤9223372036854775807
theorem Ka1 (u:Nat):∀ k,Jeh ((List.range k).map fun i=>UInt8.ofNat (u / 256 ^ i % 256))=u % 256 ^ k:=by
 intro k
 induction k with
 |zero=>simp[Jeh,Nat.mod_one]
 |succ k y=>
  rw[Oj7,Ob8,Oe4,Oi4,Jlf,y]
  have z:u / 256 ^ k % 256<256:=Ol0 _ (by decide)
  have e:(UInt8.ofNat (u / 256 ^ k % 256)).toNat=u / 256 ^ k % 256:=by
   simp
  rw[e,Oa6,Op1,Nat.mod_pow_succ,Nat.mul_comm]
theorem Jza (u:Nat)(h:u<18446744073709551616):Jeh (le8 u)=u:=by
 unfold le8
 rw[Ka1]
 have y:256 ^ 8=18446744073709551616:=by decide
 exact Nat.mod_eq_of_lt (by omega)
theorem Jsf (n:Int)(h:Jg n):wrap64 ((u64 n:Nat):Int)=n:=by
 unfold Jg at h
 unfold wrap64 u64
 omega
theorem Jh5 (n:Int)(rest:List UInt8)(h:Jg n):Jc7 (le8 (u64 n)++rest)=some (n,rest):=by
 have e:=Jhi (le8 (u64 n)) rest
 rw[Jc4]at e
 unfold Jc7
 rw[e]
 simp only
 rw[Jza _ (Jp3 n),Jsf n h]
theorem Jgf (n:Nat)(h:n<256):(low (n:Int)).toNat=n:=by
 unfold low
 have e:((n:Int) % 256).toNat=n:=by omega
 rw[e]
 simp
 omega
theorem Je8 (n:Nat)(rest:List UInt8)(h:n<256):Ur (low (n:Int)::rest)=some (n,rest):=by
 simp[Ur,Jgf n h]
def okT (t:Int)(v:V):Prop:=v.k=t∧okK v.k v.n v.s=true∧Jg v.n
theorem Jit (s:ByteArray)(h:s.toList.isEmpty=true):s=Qw []:=by
 rw[List.isEmpty_iff]at h
 rw[←Zf s,h]
theorem Jj3 (t:Int)(v:V)(rest:List UInt8)(h:okT t v):Qz t (enc v.k v.n v.s++rest)=some (v,rest):=by
 obtain⟨A,y,C⟩:=h
 obtain⟨k,n,s⟩:=v
 simp only at A y C
 subst A
 unfold okK at y
 simp only[decide_eq_true_eq]at y
 rcases y with⟨rfl,hs⟩|⟨rfl,hn,hs⟩|⟨rfl,rfl,hs⟩
 ·have:=Jit s hs
  subst this
  have e:enc 1 n (Qw [])=le8 (u64 n):=rfl
  unfold Qz
  rw[if_pos rfl]
  simp only[e,Jh5 n rest C]
  rfl
 ·have:=Jit s hs
  subst this
  have e:enc 2 n (Qw [])=[low n]:=rfl
  unfold Qz
  rw[if_neg (by decide),if_pos rfl]
  simp only[e]
  rcases hn with rfl|rfl
  ·rfl
  rfl
 have e:enc 3 0 s=low (s.size:Nat)::s.toList:=rfl
 have D:s.toList.length=s.size:=by rw[Og4,Array.length_toList];rfl
 unfold Qz
 rw[if_neg (by decide),if_neg (by decide)]
 simp only[e]
 have z:=Jhi s.toList rest
 rw[D]at z
 unfold Jne
 rw[List.cons_append,Je8 _ _ (by omega)]
 simp only[z,Option.map_some,Zf]
theorem Jmy (t:Int):∀ (vs:List V) (rest:List UInt8),(∀ v∈vs,okT t v)→Yl t vs.length (Yv vs++rest)=some (vs,rest):=by
 intro vs
 have H:∀ (n:Nat) (vs:List V) (rest:List UInt8),vs.length=n→(∀ v∈vs,okT t v)→Yl t n (Yv vs++rest)=some (vs,rest):=by
  intro n
  induction n with
  |zero=>intro vs rest hn _;rw[Od3]at hn;subst hn;rfl
  |succ n E=>
   intro vs rest hn z
   obtain⟨y,v,rfl⟩:∃ y v,vs=y++[v]:=⟨vs.dropLast,vs.getLast (by intro e;simp[e]at hn),(List.dropLast_concat_getLast _).symm⟩
   have D:y.length=n:=by simpa using hn
   have A:=E y (enc v.k v.n v.s++rest) D fun u C=>z u (by simp[C])
   have e:Yv (y++[v])++rest=Yv y++(enc v.k v.n v.s++rest):=by rw[Jjz,Od8]
   rw[e,Yl,A]
   simp only
   rw[Jj3 t v rest (z v (by simp))]
   rfl
 intro rest z
 exact H vs.length vs rest rfl z
theorem Jwf (L:List Bool)(j:Nat)(C:j<L.length):Jn6 (Kk L) j=L.getD j false:=by
 have z:j / 8<(L.length+7) / 8:=by omega
 have e:((Kk L).getD (j / 8) 0).toNat=Jag L (j / 8):=by
  have A:=Ji4 L (j / 8)
  simp[Kk,z]
  omega
 unfold Jn6
 rw[e,Yx]
 have y:8*(j / 8)+j % 8=j:=by omega
 rw[y]
 have:j % 8<8:=Ol0 _ (by decide)
 simp[this]
theorem Kbi (x:List UInt8)(i n:Nat):∀ b,(∀ k,k<b→Jn6 x (i+k)=n.testBit k)→Zc x i b=n % 2 ^ b:=by
 intro b
 induction b with
 |zero=>intro _;simp[Zc,Nat.mod_one]
 |succ b y=>
  intro h
  rw[Zc,y fun k z=>h k (by omega),h b (by omega),Nat.mod_pow_succ,On1]
  have A:n / 2 ^ b % 2<2:=Ol0 _ (by decide)
  generalize n / 2 ^ b % 2=m at *
  have:m=0∨m=1:=by omega
  rcases this with rfl|rfl<;>simp
theorem Jct (y:Nat)(ns:List Nat)(rest:List UInt8)(h:∀ n∈ns,n<2 ^ y):Yj y ns.length (Kk (Ue y ns)++rest)=some (ns,rest):=by
 have e:=Jhi (Kk (Ue y ns)) rest
 rw[Qb,Jal]at e
 unfold Yj
 rw[e]
 simp only[Oc9,Oj3,and_true]
 apply Oh4
 ·simp
 intro i K C
 have hi:i<ns.length:=C
 rw[Od9,Oo7]
 have D:Zc (Kk (Ue y ns)) (y*i) y=ns[i] % 2 ^ y:=by
  apply Kbi
  intro k E
  have A:=Jms y ns i k hi E
  have H:y*i+k<(Ue y ns).length:=by
   rcases Oc1 (y*i+k) (Ue y ns).length with z|z
   ·exact z
   rw[Ob4 z]at A;simp at A
  rw[Jwf _ _ H,Oa0,A]
  rfl
 rw[D,Nat.mod_eq_of_lt (h _ (Ob3 hi))]
theorem Jwd (xs:List V)(h:∀ v∈xs,v.k=0→v=Jf):Ys (xs.map Qt) (Jz xs)=xs:=by
 induction xs with
 |nil=>rfl
 |cons v xs E=>
  have C:=E fun u D=>h u (Og1 _ D)
  by_cases y:v.k=0
  ·have z:Qt v=0:=by simp[Qt,y]
   have A:Jz (v::xs)=Jz xs:=by simp[Jz,y]
   rw[Oe4,z,A,Ys,if_neg (by decide),C,h v (by simp) y]
  have z:Qt v=1:=by simp[Qt,y]
  have A:Jz (v::xs)=v::Jz xs:=by simp[Jz,y]
  rw[Oe4,z,A,Ys,if_pos rfl]
  simp only[List.headD_cons,List.tail_cons,C]
theorem Jyx (xs:List V):Qs (xs.map Qt)=(Jz xs).length:=by
 induction xs with
 |nil=>rfl
 |cons v xs C=>
  by_cases y:v.k=0
  ·have z:Qt v=0:=by simp[Qt,y]
   have A:Jz (v::xs)=Jz xs:=by simp[Jz,y]
   rw[Oe4,z,A,Qs,if_neg (by decide),C]
   omega
  have z:Qt v=1:=by simp[Qt,y]
  have A:Jz (v::xs)=v::Jz xs:=by simp[Jz,y]
  rw[Oe4,z,A,Qs,if_pos rfl,C,List.length_cons]
  omega
theorem Jut {t:Int}{xs:List V}(h:Jdq t xs)(C:1≤t):∀ v∈xs,v.k=0→v=Jf:=by
 intro v A z
 obtain⟨j,y,rfl⟩:=Od5 A
 have:=h.2 j y
 unfold okB at this
 simp only[decide_eq_true_eq]at this
 generalize xs[j]=v at *
 rcases this with⟨_,hn,hs⟩|⟨e,_⟩
 ·exact V.ext' z hn (Jit _ hs)
 omega
theorem Jvg {t:Int}{xs:List V}(h:Jdq t xs)(D:∀ v∈xs,Jg v.n):∀ v∈Jz xs,okT t v:=by
 intro v y
 unfold Jz at y
 rw[Om0]at y
 obtain⟨y,z⟩:=y
 have E:=D v y
 obtain⟨j,A,rfl⟩:=Od5 y
 have:=h.2 j A
 unfold okB at this
 simp only[decide_eq_true_eq]at this
 rcases this with⟨e,_,_⟩|⟨e,C⟩
 ·rw[e]at z;simp at z
 exact⟨e,C,E⟩
def Kkn (y:Int):Prop:=∀ (t:Int) (vs:List V),way t y=true→vs.length≤64→¬ (y=1∧16<(Ym [] vs).length)→(∀ v∈vs,okT t v)→Jce t y vs.length (Jdt t y vs++[])=some (vs,[])
theorem Kj4:Kkn 0:=fun t vs _ _ _ h=>Jmy t vs [] h
theorem Kja {t y:Int}{xs:List V}{bs:List UInt8}(h:Jev t y xs=(bs,0)):way t y=true∧Jdq t xs∧¬ (y=1∧16<(Ym [] (Jz xs)).length)∧((t.toNat:Nat):Int)=t∧((y.toNat:Nat):Int)=y∧Jf2 bs=some ((t.toNat,y.toNat,xs.length),Kk (xs.map fun v=>v.k != 0)++Jdt t y (Jz xs)):=by
 unfold Jev at h
 by_cases z:(way t y&&Jfr t xs)=true
 ·rw[if_pos z]at h
  by_cases D:y=1∧16<(Ym [] (Jz xs)).length
  ·rw[if_pos D]at h;simp at h
  rw[if_neg D]at h
  simp only[Oj3,and_true]at h
  rw[Og5]at z
  obtain⟨K,E⟩:=z
  rw[Jfd]at E
  have H:=K
  unfold way at H
  simp only[decide_eq_true_eq]at H
  obtain⟨bf,bh,X,Z,bc⟩:=H
  have M:=E.1
  have C:((t.toNat:Nat):Int)=t:=by omega
  have A:((y.toNat:Nat):Int)=y:=by omega
  refine⟨K,E,D,C,A,?_⟩
  rw[←h]
  have e:Jav t y xs=low t::low y::low (xs.length:Nat)::(Kk (xs.map fun v=>v.k != 0)++Jdt t y (Jz xs)):=rfl
  rw[e]
  have O:(low t).toNat=t.toNat:=by rw[←C,Jgf _ (by omega)];omega
  have R:(low y).toNat=y.toNat:=by rw[←A,Jgf _ (by omega)];omega
  have U:(low (xs.length:Nat)).toNat=xs.length:=Jgf _ (by omega)
  simp only[Jf2]
  rw[O,R,U,C,A,if_pos ⟨K,M⟩]
 rw[if_neg z]at h;simp at h
theorem Ki9 (t y:Int)(E:Kkn y)(xs:List V)(bs:List UInt8)(h:Jev t y xs=(bs,0))(X:∀ v∈xs,Jg v.n):Jbf bs=some (t.toNat,y.toNat,xs):=by
 obtain⟨D,z,M,K,H,O⟩:=Kja h
 have C:=D
 unfold way at C
 simp only[decide_eq_true_eq]at C
 have bc:=z.1
 have R:=Jvg z X
 have U:=Jut z (by omega)
 have bf:=Zy xs
 have A:=E t (Jz xs) D (by omega) M R
 rw[Od7]at A
 have hf:=Jct 1 (xs.map Qt) (Jdt t y (Jz xs)) (by
  intro n hn
  obtain⟨v,_,rfl⟩:=Of0.1 hn
  unfold Qt
  split<;>decide)
 rw[Jrg,Oa6]at hf
 have Z:Ug t y xs.length (Kk (xs.map fun v=>v.k != 0)++Jdt t y (Jz xs))=some (xs,[]):=by
  unfold Ug
  rw[hf]
  simp only
  rw[Jyx,A,Option.map_some,Jwd xs U]
 unfold Jbf
 rw[O]
 simp only
 rw[K,H,Z]
 simp only
 rw[if_pos h]
end Go.Proofs.YtjjdldddcegjiaaGreatDoor
