/- The law's own group, plainly, and in memory. -/
import Derived.Test.YtdlgbphkaicfaaaGreatDoorZh
import Derived.Test.YtdlgbphkaicfaaaGreatDoorHc
import Derived.Test.YtdlgbphkaicfaaaGreatDoorIv
import Derived.Test.YtdlgbphkaicfaaaGreatDoorKq
set_option maxHeartbeats 4000000
set_option maxRecDepth 100000
namespace Go.Proofs.YtdlgbphkaicfaaaGreatDoor
open Go.RowKit Go.Shelf
theorem Kno:∀ x y:List UInt8,(0<Lib.compareBytes y x)=(Lib.compareBytes x y<0)
 |[],[]=>rfl
 |_::_,[]=>rfl
 |[],_::_=>rfl
 |a::x,b::y=>by
  simp only[Lib.compareBytes]
  have A:=Kno x y
  by_cases h:a<b
  ·have h2:¬ b<a:=UInt8.lt_asymm h
   simp[h,h2]
  by_cases h2:b<a
  ·simp[h,h2]
  have:a=b:=UInt8.le_antisymm (UInt8.not_lt.1 h2) (UInt8.not_lt.1 h)
  simp[this,A]
theorem Kpy (a b:V):(0<Jxt b a)=(Jxt a b<0):=by
 unfold Jxt
 by_cases h:a.n<b.n
 ·have h2:¬ b.n<a.n:=by omega
  simp[h,h2]
 by_cases h2:b.n<a.n
 ·simp[h,h2]
 simp only[h,h2,if_false]
 exact Kno _ _
theorem Krh {t:Int}{a b:V}(A:okV t a)(D:okV t b)(E:a.k≠0)(kb:b.k≠0):Job a b=decide (0<Jxt b a):=by
 have h:=Kdy A D E kb
 unfold Jkc at h
 have h1:Yi (decide (Jxt a b<0))=Yi (Job a b):=congrArg Prod.fst h
 have h2:∀ x y:Bool,Yi x=Yi y→x=y:=fun x y e=>by
  have:=congrArg V.n e
  cases x<;>cases y<;>first|rfl|(exact absurd this (by decide))
 rw[←h2 _ _ h1]
 exact decide_eq_decide.2 (by rw[Kpy])
def Klp (b c:Nat)(m:V)(l:List (List V)):Tly:=l.foldl (fun t x=>if (x.getD b Jf).beq m=true then t.add (x.getD c Jf)else t) Klg
theorem Kqa (b c:Nat)(m:V)(l:List (List V))(x:List V):Klp b c m (l++[x])=if (x.getD b Jf).beq m=true then (Klp b c m l).add (x.getD c Jf)else Klp b c m l:=by
 unfold Klp
 rw[Ol1]
 rfl
def dnL (rs:List (List V))(b:Nat)(m:V)(y:List Bool)(i j:Nat):List Bool:=(List.range y.length).map fun x=>y.getD x false||(decide (i≤x)&&decide (x<j)&&((rs.getD x []).getD b Jf).beq m)
theorem Klw (rs:List (List V))(b:Nat)(m:V)(y:List Bool)(i j:Nat):(dnL rs b m y i j).length=y.length:=by simp[dnL]
theorem Kna {rs:List (List V)}{b:Nat}{m:V}{y:List Bool}{i j x:Nat}(A:x<y.length):(dnL rs b m y i j)[x]?=some (y.getD x false||(decide (i≤x)&&decide (x<j)&&((rs.getD x []).getD b Jf).beq m)):=by
 unfold dnL
 rw[Ob1,Oh6 A]
 rfl
theorem Kp0 (rs:List (List V))(b:Nat)(m:V)(y:List Bool)(i:Nat):dnL rs b m y i i=y:=by
 apply Oi8
 intro x
 by_cases A:x<y.length
 ·rw[Kna A,Oa3 A]
  have:(decide (i≤x)&&decide (x<i))=false:=by simp
  rw[this,Bool.false_and,Bool.or_false,Oa0,Oa3 A]
  rfl
 rw[Ob4 (by rw[Klw];omega),Ob4 (by omega)]
theorem Kqu {rs:List (List V)}{b:Nat}{m:V}{y:List Bool}{i j:Nat}(h:((rs.getD j []).getD b Jf).beq m=false):dnL rs b m y i (j+1)=dnL rs b m y i j:=by
 apply Oi8
 intro x
 by_cases A:x<y.length
 ·rw[Kna A,Kna A]
  by_cases e:x=j
  ·subst e
   rw[h,Bool.and_false,Bool.and_false]
  have:decide (x<j+1)=decide (x<j):=decide_eq_decide.2 (by omega)
  rw[this]
 rw[Ob4 (by rw[Klw];omega),Ob4 (by rw[Klw];omega)]
theorem Krg {rs:List (List V)}{b:Nat}{m:V}{y:List Bool}{i j:Nat}(D:i≤j)(h:((rs.getD j []).getD b Jf).beq m=true):dnL rs b m y i (j+1)=(dnL rs b m y i j).set j true:=by
 apply Oi8
 intro x
 rw[Op2]
 by_cases A:x<y.length
 ·rw[Kna A,Kna A]
  by_cases e:x=j
  ·subst e
   rw[h,if_pos rfl,if_pos (by rw[Klw];exact A)]
   simp[D]
  have:decide (x<j+1)=decide (x<j):=decide_eq_decide.2 (by omega)
  rw[this,if_neg (Oc5 e)]
 rw[Ob4 (by rw[Klw];omega),Ob4 (by rw[Klw];omega)]
 split
 ·rw[if_neg (by rw[Klw];omega)]
 rfl
structure Kmr (ty:Int) (j:Nat) (t:Tly) (H L:Int):Prop where
 sum:H*4294967296+L=t.sum
 h1:-((j:Int)*2147483648)≤H
 h2:H≤(j:Int)*2147483648
 l1:0≤L
 l2:L≤(j:Int)*4294967296
 rows:t.rows≤j
 held:t.held≤j
 ok:okV ty t.most
 none:t.held=0↔t.most.k=0
 zero:t.held=0→t.sum=0
theorem Kmr.skip {ty:Int}{j:Nat}{t:Tly}{y L:Int}(h:Kmr ty j t y L):Kmr ty (j+1) t y L:=⟨h.sum,by have:=h.h1;omega,by have:=h.h2;omega,h.l1,by have:=h.l2;omega,by have:=h.rows;omega,by have:=h.held;omega,h.ok,h.none,h.zero⟩
theorem Kmr.null {ty:Int}{j:Nat}{t:Tly}{y L:Int}(h:Kmr ty j t y L){v:V}(A:v.k=0):Kmr ty (j+1) (t.add v) y L∧(t.add v).rows=t.rows+1∧(t.add v).held=t.held∧(t.add v).most=t.most:=by
 have e:t.add v=⟨t.rows+1,t.held,t.sum,t.least,t.most⟩:=by unfold Tly.add;rw[if_pos A]
 rw[e]
 exact⟨⟨h.sum,by have:=h.h1;omega,by have:=h.h2;omega,h.l1,by have:=h.l2;omega,by have:=h.rows;show t.rows+1≤j+1;omega,by have:=h.held;show t.held≤j+1;omega,h.ok,h.none,h.zero⟩,rfl,rfl,rfl⟩
theorem Kmr.more {ty:Int}{j:Nat}{t:Tly}{y L:Int}(h:Kmr ty j t y L){v:V}(A:v.k≠0)(D:okV ty v)(hn:Jg v.n):Kmr ty (j+1) (t.add v) (y+v.n / 4294967296) (L+v.n % 4294967296)∧(t.add v).rows=t.rows+1∧(t.add v).held=t.held+1∧(t.add v).most=if t.held=0∨Job t.most v=true then v else t.most:=by
 have H:(if t.held=0∨0<Jxt v t.most then v else t.most)=if t.held=0∨Job t.most v=true then v else t.most:=by
  by_cases h0:t.held=0
  ·rw[if_pos (.inl h0),if_pos (.inl h0)]
  rw[Krh h.ok D (fun e=>h0 (h.none.2 e)) A]
  simp only[decide_eq_true_eq]
 have e:t.add v=⟨t.rows+1,t.held+1,t.sum+v.n,if t.held=0∨Jxt v t.least<0 then v else t.least,if t.held=0∨Job t.most v=true then v else t.most⟩:=by unfold Tly.add;rw[if_neg A,H]
 rw[e]
 unfold Jg at hn
 have hs:=h.sum
 have K:=h.h1
 have M:=h.h2
 have O:=h.l1
 have R:=h.l2
 refine⟨⟨?_,by omega,by omega,by omega,by omega,by have:=h.rows;show t.rows+1≤j+1;omega,by have:=h.held;show t.held+1≤j+1;omega,?_,?_,fun e=>absurd e (Nat.succ_ne_zero _)⟩,rfl,rfl,rfl⟩
 ·show (y+v.n / 4294967296)*4294967296+(L+v.n % 4294967296)=t.sum+v.n
  omega
 ·show okV ty (if _ then _ else _)
  split
  ·exact D
  exact h.ok
 show t.held+1=0↔(if _ then _ else _:V).k=0
 split
 ·exact⟨fun e=>by omega,fun e=>absurd e A⟩
 rename_i E
 exact⟨fun e=>by omega,fun e=>absurd (h.none.2 e) (fun e=>E (.inl e))⟩
theorem Knl (n:Int):bits .and .i64 n 4294967295=n % 4294967296:=by
 have y:(BitVec.ofInt 64 4294967295).toNat=2 ^ 32-1:=by decide
 have A:(BitVec.ofInt 64 n &&& BitVec.ofInt 64 4294967295).toNat=(n % ((2 ^ 64:Nat):Int)).toNat % 2 ^ 32:=by
  rw[BitVec.toNat_and,Ok6,y,Nat.and_two_pow_sub_one_eq_mod]
 show IntKind.i64.wrap ((BitVec.ofInt 64 n &&& BitVec.ofInt 64 4294967295).toNat:Nat)=n % 4294967296
 rw[A,Od4]
 omega
theorem Kmr.end {ty:Int}{j:Nat}{t:Tly}{A L:Int}(h:Kmr ty j t A L):((A+L / 4294967296 < -2147483648∨2147483648≤A+L / 4294967296)↔(Kk8 t 3).2=false)∧((Kk8 t 3).2=true→(Kk8 t 3).1=if t.held=0 then Jf else Jbg ((A+L / 4294967296)*4294967296+L % 4294967296))∧((Kk8 t 3).2=true→Jg ((A+L / 4294967296)*4294967296+L % 4294967296)):=by
 have hs:=h.sum
 have e:(A+L / 4294967296)*4294967296+L % 4294967296=t.sum:=by omega
 have E:Kk8 t 3=if t.held=0 then (Jf,true)else if -9223372036854775808≤t.sum∧t.sum≤9223372036854775807 then (Jbg t.sum,true)else (Jf,false):=rfl
 rw[E,e]
 by_cases h0:t.held=0
 ·have H:=h.zero h0
  rw[if_pos h0,if_pos h0]
  refine⟨⟨fun y=>?_,fun y=>by cases y⟩,fun _=>rfl,fun _=>?_⟩
  ·omega
  unfold Jg;omega
 rw[if_neg h0,if_neg h0]
 by_cases D:-9223372036854775808≤t.sum∧t.sum≤9223372036854775807
 ·rw[if_pos D]
  exact⟨⟨fun y=>by omega,fun y=>by cases y⟩,fun _=>rfl,fun _=>D⟩
 rw[if_neg D]
 exact⟨⟨fun _=>rfl,fun _=>by omega⟩,fun y=>(by cases y),fun y=>(by cases y)⟩
abbrev Zu:ByteArray:=⟨#[116]⟩
section
variable {tab:ByteArray→Cs⊕Nat} {p e:List Pt} {cs:Cs} {rs:List (List V)}
end
def Kk7 (b c fn:Nat):List Krv:=[⟨b,0,false,0⟩,⟨0,0,false,1⟩,⟨c,0,false,fn⟩,⟨c,0,false,5⟩]
def Kla (b c fn:Nat):List PN:=[⟨0,0,Zu,[],[],0,0⟩,⟨4,0,⟨#[]⟩,[],Kk7 b c fn,0,0⟩]
theorem Kqc {y:List Int}{b c fn:Nat}(E:b<y.length)(A:c<y.length)(hf:fn=2∨fn=3∧y.getD c 0=1):∀ k∈Kk7 b c fn,Kn7 y k:=fun k D=>by
 simp only[Kk7,Of1,Oi0,or_false]at D
 rcases D with rfl|rfl|rfl|rfl
 ·exact⟨E,by show 0≤5;omega,fun h=>by cases h⟩
 ·exact⟨by show 0<_;omega,by show 1≤5;omega,fun h=>by cases h⟩
 ·exact⟨A,by show fn≤5;omega,fun h=>by
   have H:fn=3:=h
   rcases hf with h2|h2
   ·omega
   exact h2.2⟩
 exact⟨A,by show 5≤5;omega,fun h=>by cases h⟩
theorem Ko1 {tys:ByteArray→List Int}{A:List Int}{b c fn:Nat}(h:tys Zu=A)(D:b<A.length)(E:c<A.length)(hf:fn=2∨fn=3∧A.getD c 0=1):Jdk tys [A,(Kk7 b c fn).map (tyK A)] (Kla b c fn) where
 len:=rfl
 ok:=fun j n y=>by
  match j,y with
  |0,y=>cases y;exact⟨A,rfl,by show 0≤2∨0=4;omega,fun _=>h.symm,fun h=>absurd h (by show ¬ 0=1;omega),fun h=>absurd h (by show ¬ 0=2;omega),fun h=>absurd h (by show ¬ 0=4;omega)⟩
  |1,y=>
   cases y
   exact⟨_,rfl,by show 4≤2∨4=4;omega,fun h=>absurd h (by show ¬ 4=0;omega),fun h=>absurd h (by show ¬ 4=1;omega),fun h=>absurd h (by show ¬ 4=2;omega),fun _=>⟨A,⟨b,0,false,0⟩,rfl,rfl,rfl,by show 4≤4;omega,Kqc D E hf,rfl,rfl⟩⟩
 ahead:=fun j n y i hi=>by
  match j,y with
  |0,y=>cases y;simp[Jg7]at hi
  |1,y=>cases y;simp[Jg7]at hi;subst hi;exact⟨by omega,rfl⟩
 all:=fun i hi=>by
  have:i=0:=by simp[Kla]at hi;omega
  subst this
  rfl
 one:=by simp[Kla]
 few:=by simp[Kla]
def mk1 (v:V):List V:=[v,Jf,Jf,Jf]
theorem Kqy (u v:V):eqM (mk1 u) (mk1 v)=u.beq v:=by
 rw[On7,Kl0,V.beq_iff]
 unfold mk1
 simp
def mks (F:Nat→List V)(i:Nat):List (List V):=Klt [] F (List.range i)
theorem Kon (F:Nat→List V)(i:Nat):mks F (i+1)=Klm (mks F i) (F i):=by
 unfold mks
 rw[Oj7,Klv]
 rfl
theorem Koa {F:Nat→List V}:∀ (l:List Nat) {ms:List (List V)} {y:Nat},y<ms.length→(Klt ms F l)[y]?=ms[y]?
 |[],_,_,_=>rfl
 |r::l,ms,y,A=>by
  have h1:y<(Klm ms (F r)).length:=by
   unfold Klm
   split
   ·exact A
   rw[Oa8];omega
  have h2:=Koa (F:=F) l h1
  refine h2.trans ?_
  unfold Klm
  split
  ·rfl
  rw[Ob0 A]
theorem Kq8 {F:Nat→List V}{i N y:Nat}(hi:i≤N)(A:y<(mks F i).length):(mks F N)[y]?=(mks F i)[y]?:=by
 obtain⟨k,rfl⟩:=Nat.exists_eq_add_of_le hi
 unfold mks at A ⊢
 rw[List.range_add,Klv]
 exact Koa _ A
theorem Kor {F:Nat→List V}{mk:List V}{val y:Nat→V}:∀ {l:List Nat} {t u:Tly},t.rows=u.rows→(tlL t F mk val l).rows=(tlL u F mk y l).rows
 |[],_,_,h=>h
 |r::l,t,u,h=>by
  show (tlL (if eqM (F r) mk=true then t.add (val r)else t) F mk val l).rows=(tlL (if eqM (F r) mk=true then u.add (y r)else u) F mk y l).rows
  refine Kor ?_
  have A:∀ (t:Tly) v,(t.add v).rows=t.rows+1:=fun t v=>by unfold Tly.add;split<;>rfl
  split
  ·rw[A,A,h]
  exact h
def Kn0 (b c:Nat)(m:V)(t:Tly)(x:List V):Tly:=if (x.getD b Jf).beq m=true then t.add (x.getD c Jf)else t
theorem Krs (b c:Nat)(m:V)(l:List (List V)):Klp b c m l=l.foldl (Kn0 b c m) Klg:=rfl
theorem Kqt {F:Nat→List V}{val:Nat→V}{row:Nat→List V}{b c:Nat}{u:V}:∀ {l:List Nat} {t:Tly},(∀ r∈l,F r=mk1 ((row r).getD b Jf)∧val r=(row r).getD c Jf)→tlL t F (mk1 u) val l=(l.map row).foldl (Kn0 b c u) t
 |[],_,_=>rfl
 |r::l,t,h=>by
  show tlL (if eqM (F r) (mk1 u)=true then t.add (val r)else t) F (mk1 u) val l=(l.map row).foldl (Kn0 b c u) (Kn0 b c u t (row r))
  rw[Kqt fun x y=>h x (by simp[y]),(h r (by simp)).1,(h r (by simp)).2,Kqy]
  rfl
theorem Knp {b c:Nat}{m:V}:∀ {l:List (List V)} {t:Tly},(∀ x∈l,x.getD b Jf≠m)→l.foldl (Kn0 b c m) t=t
 |[],_,_=>rfl
 |x::l,t,h=>by
  show l.foldl (Kn0 b c m) (Kn0 b c m t x)=t
  have:Kn0 b c m t x=t:=by unfold Kn0;rw[(V.beq_false _ _).2 (h x (by simp))];rfl
  rw[this]
  exact Knp fun A y=>h A (by simp[y])
theorem Ko8 (rs:List (List V)):(List.range rs.length).map (fun r=>rs.getD r [])=rs:=by
 apply Oh4
 ·simp
 intro i h1 h2
 rw[Od9,Oo7,Oa0,Oa3 h2]
 rfl
structure Klr (rs:List (List V)) (cs:Cs) (b c:Nat):Prop where
 len:nR cs=rs.length
 row:∀ i,i<rs.length→Ji cs i=rs.getD i []
 b:b<cs.length
 c:c<cs.length
section
variable {rs:List (List V)} {cs:Cs} {b c fn:Nat}
theorem Klr.mark (h:Klr rs cs b c)(hf:fn≠0){r:Nat}(y:r<rs.length):mkL (Kk7 b c fn) cs r=mk1 ((rs.getD r []).getD b Jf):=by
 rw[←h.row r y,Jdj _ _ _ h.b]
 show [_,_,if fn=0 then _ else Jf,_]=_
 rw[if_neg hf]
 rfl
theorem Klr.val (h:Klr rs cs b c){f:Nat}(hf:f≠1){r:Nat}(y:r<rs.length):kyV cs ⟨c,0,false,f⟩ r=(rs.getD r []).getD c Jf:=by
 rw[←h.row r y,Jdj _ _ _ h.c]
 unfold kyV
 rw[if_neg hf]
theorem Klr.told (h:Klr rs cs b c)(hf:fn=2∨fn=3){i:Nat}{u:V}(hn:∀ x,x<i→x<rs.length→(rs.getD x []).getD b Jf≠u) :
  tdV (Kk7 b c fn) (Klk (Kk7 b c fn) cs) (mk1 u) 0=(u,true)∧tdV (Kk7 b c fn) (Klk (Kk7 b c fn) cs) (mk1 u) 1=(Jbg ((Klp b c u (rs.drop i)).rows:Nat),true)∧tdV (Kk7 b c fn) (Klk (Kk7 b c fn) cs) (mk1 u) 2=Kk8 (Klp b c u (rs.drop i)) fn∧tdV (Kk7 b c fn) (Klk (Kk7 b c fn) cs) (mk1 u) 3=((Klp b c u (rs.drop i)).most,true):=by
 have D:Klp b c u (rs.drop i)=Klp b c u rs:=by
  conv=>rhs;rw[Krs,←Ok3 i rs,Ol1]
  rw[Knp (l:=rs.take i)]
  ·rfl
  intro x H
  obtain⟨k,E,rfl⟩:=Od5 H
  rw[Oc7]at E
  have:=hn k (by omega) (by omega)
  rw[Oa0 (l:=rs),Oa3 (by omega:k<rs.length)]at this
  rw[List.getElem_take]
  exact this
 have y:∀ f,f≠1→tlL Klg (mkL (Kk7 b c fn) cs) (mk1 u) (kyV cs ⟨c,0,false,f⟩) (List.range (nR cs))=Klp b c u (rs.drop i):=fun f h1=>by
  rw[h.len,D,Kqt (row:=fun r=>rs.getD r []) (b:=b) (c:=c) fun r A=>⟨h.mark (by omega) (Oj4.1 A),h.val h1 (Oj4.1 A)⟩,Ko8]
  rfl
 have hR:(tlL Klg (mkL (Kk7 b c fn) cs) (mk1 u) (kyV cs ⟨0,0,false,1⟩) (List.range (nR cs))).rows=(Klp b c u (rs.drop i)).rows:=by
  rw[←y 5 (by omega)]
  exact Kor rfl
 refine⟨rfl,?_,?_,?_⟩
 ·show (Jbg (((tlL Klg (mkL (Kk7 b c fn) cs) (mk1 u) (kyV cs ⟨0,0,false,1⟩) (List.range (nR cs))).rows:Nat):Int),true)=_
  rw[hR]
 ·show (if fn=0 then _ else Kk8 (tlL Klg (mkL (Kk7 b c fn) cs) (mk1 u) (kyV cs ⟨c,0,false,fn⟩) (List.range (nR cs))) fn)=_
  rw[if_neg (by omega),y fn (by omega)]
 show ((tlL Klg (mkL (Kk7 b c fn) cs) (mk1 u) (kyV cs ⟨c,0,false,5⟩) (List.range (nR cs))).most,true)=_
 rw[y 5 (by omega)]
structure Klu (rs:List (List V)) (b c fn:Nat) (cs:Cs) (i n:Nat) (ds:List Bool):Prop where
 le:i≤rs.length
 num:n=(mks (mkL (Kk7 b c fn) cs) i).length
 don:ds=(List.range rs.length).map fun x=>Knh (mks (mkL (Kk7 b c fn) cs) i) (mkL (Kk7 b c fn) cs x)
 fine:∀ y m,y<n→(Kk9 (Kk7 b c fn) cs)[y]?=some m→(tdV (Kk7 b c fn) (Klk (Kk7 b c fn) cs) m 2).2=true
theorem Klu.start (rs:List (List V))(b c fn:Nat)(cs:Cs):Klu rs b c fn cs 0 0 (List.replicate rs.length false):=by
 refine⟨Ob7 _,rfl,?_,fun y m h=>absurd h (Oe0 _)⟩
 have e:(List.range rs.length).map (fun x=>Knh (mks (mkL (Kk7 b c fn) cs) 0) (mkL (Kk7 b c fn) cs x))=(List.range rs.length).map fun _=>false:=Oj9 fun x _=>rfl
 rw[e,List.map_const',Op1]
theorem Klu.len {i n:Nat}{y:List Bool}(h:Klu rs b c fn cs i n y):y.length=rs.length:=by rw[h.don];simp
theorem Klu.at {i n:Nat}{y:List Bool}(h:Klu rs b c fn cs i n y){x:Nat}(A:x<rs.length):y.getD x false=Knh (mks (mkL (Kk7 b c fn) cs) i) (mkL (Kk7 b c fn) cs x):=by
 rw[h.don,Oa0,Ob1,Oh6 A]
 rfl
theorem Klu.old {i n:Nat}{y:List Bool}(h:Klu rs b c fn cs i n y)(hi:i<rs.length)(A:y.getD i false=true):Klu rs b c fn cs (i+1) n y:=by
 have e:mks (mkL (Kk7 b c fn) cs) (i+1)=mks (mkL (Kk7 b c fn) cs) i:=by
  rw[Kon]
  unfold Klm
  rw[if_pos (by rw[←h.at hi];exact A)]
 exact⟨hi,by rw[e];exact h.num,by rw[e];exact h.don,h.fine⟩
theorem Klu.new {i n:Nat}{D:List Bool}(h:Klu rs b c fn cs i n D)(A:Klr rs cs b c)(hf:fn=2∨fn=3)(hi:i<rs.length)(X:D.getD i false=false){u:V}(bb:u=(rs.getD i []).getD b Jf) :
  (Kk9 (Kk7 b c fn) cs)[n]?=some (mk1 u)∧(∀ x,x<i→x<rs.length→(rs.getD x []).getD b Jf≠u)∧((Kk8 (Klp b c u (rs.drop i)) fn).2=true→Klu rs b c fn cs (i+1) (n+1) (dnL rs b u D i rs.length)):=by
 have O:mkL (Kk7 b c fn) cs i=mk1 u:=by rw[A.mark (by omega) hi,bb]
 have R:Knh (mks (mkL (Kk7 b c fn) cs) i) (mk1 u)=false:=by rw[←O,←h.at hi];exact X
 have e:mks (mkL (Kk7 b c fn) cs) (i+1)=mks (mkL (Kk7 b c fn) cs) i++[mk1 u]:=by
  rw[Kon,O]
  unfold Klm
  rw[if_neg (by rw[R];simp)]
 have M:(Kk9 (Kk7 b c fn) cs)[n]?=some (mk1 u):=by
  show (mks (mkL (Kk7 b c fn) cs) (nR cs))[n]?=_
  rw[A.len,Kq8 (i:=i+1) hi (by rw[e,h.num];simp),e,h.num]
  simp
 have H:∀ x,x<i→x<rs.length→(rs.getD x []).getD b Jf≠u:=fun x K y ex=>by
  have h1:mkL (Kk7 b c fn) cs x∈mks (mkL (Kk7 b c fn) cs) i:=Kmw (Oj4.2 K)
  rw[A.mark (by omega) y,ex,←Kmi,R]at h1
  cases h1
 refine⟨M,H,fun ba=>⟨hi,by rw[e,h.num];simp,?_,fun U m bh E=>?_⟩⟩
 ·unfold dnL
  rw[h.len]
  refine Oj9 fun x K=>?_
  have y:=Oj4.1 K
  have Z:Knh (mks (mkL (Kk7 b c fn) cs) i++[mk1 u]) (mkL (Kk7 b c fn) cs x)=(Knh (mks (mkL (Kk7 b c fn) cs) i) (mkL (Kk7 b c fn) cs x)||eqM (mkL (Kk7 b c fn) cs x) (mk1 u)):=by
   unfold Knh
   rw[List.any_append]
   simp
  rw[h.at y,e,Z,A.mark (by omega) y,Kqy]
  by_cases bc:x<i
  ·have:=(V.beq_false _ _).2 (H x bc y)
   rw[this,Bool.and_false]
  have h1:decide (i≤x)=true:=decide_eq_true (by omega)
  have h2:decide (x<rs.length)=true:=decide_eq_true y
  rw[h1,h2,Bool.and_self,Bool.true_and]
 by_cases bf:U=n
 ·subst bf
  rw[M]at E
  cases E
  rw[(A.told hf H).2.2.1]
  exact ba
 exact h.fine U m (by omega) E
variable {tab:ByteArray→Cs⊕Nat}
theorem Km7 (h:tab Zu=.inl cs):Jbs ⟨4,0,⟨#[]⟩,[],Kk7 b c fn,0,0⟩ (stN tab (Kla b c fn) 1)=cs∧Jac tab (Kla b c fn)=Kln (Kk7 b c fn) cs:=by
 refine⟨?_,?_⟩
 ·simp[stN,Kla,Jb3,Jkq,Jbs,h]
 simp[Jac,stN,Kla,Jb3,Jkq,Jbs,h]
theorem Km4 {ns:List PN}(bj:ns=Kla b c fn)(h:tab Zu=.inl cs){Y W:World}{l:Value}{e nd row col pg:Int}(hR:Jnv tab ns Y l e nd row col pg W) :
  (e=0∧nd=-1∧row=-1∧col=-1∧pg=-1∧(∀ (y:Nat) m,(Kk9 (Kk7 b c fn) cs)[y]?=some m→(tdV (Kk7 b c fn) (Klk (Kk7 b c fn) cs) m 2).2=true)∧∃ g bs,l=.slice (some ⟨g,0,none⟩) (Kk9 (Kk7 b c fn) cs).length (Kk9 (Kk7 b c fn) cs).length∧Jcu W Y.heap.size g bs (Qf (Kk9 (Kk7 b c fn) cs).length (Kln (Kk7 b c fn) cs))) ∨
  (l=.slice none 0 0∧e=10∧nd=1∧col=2∧pg=-1∧∃ (x:Nat) (m:List V),row=(x:Int)∧(Kk9 (Kk7 b c fn) cs)[x]?=some m∧(tdV (Kk7 b c fn) (Klk (Kk7 b c fn) cs) m 2).2=false∧∀ y E,y<x→(Kk9 (Kk7 b c fn) cs)[y]?=some E→(tdV (Kk7 b c fn) (Klk (Kk7 b c fn) cs) E 2).2=true):=by
 subst bj
 obtain⟨ba,bx⟩:=Km7 (b:=b) (c:=c) (fn:=fn) h
 rcases hR with⟨bk,bl,bn,br,bu,O,g,bs,U,R⟩|⟨rfl,j,n,rfl,O,hn,H⟩
 ·have M:=(O 1 _ (by simp[Kla]) rfl).2.2 rfl
  rw[ba]at M
  rw[bx,Kmo (by show 1≤4;omega)]at U R
  refine .inl ⟨bk,bl,bn,br,bu,fun y m D=>?_,g,bs,U,R⟩
  exact M y m 2 D (by show 2<4;omega) (.inl (Ob9.1 D).1)
 match j,hn with
 |0,hn=>
  cases hn
  rcases H with⟨_,_,q,X,_⟩|⟨h0,_⟩|⟨bb,_⟩
  ·rw[h]at X;cases X
  ·exact absurd rfl h0
  cases bb
 |1,hn=>
  cases hn
  rcases H with⟨h0,_⟩|⟨_,_,_,r,_,_,bi,_⟩|⟨_,rfl,rfl,x,k,m,rfl,rfl,Z,bc,A,K⟩
  ·cases h0
  ·exact absurd rfl bi
  rw[ba]at Z A K
  have bz:k<4:=bc
  have bf:k=2:=by
   rcases(show k=0∨k=1∨k=2∨k=3 by omega)with rfl|rfl|rfl|rfl
   ·exact absurd A (by show ¬ true=false;simp)
   ·exact absurd A (by show ¬ true=false;simp)
   ·rfl
   exact absurd A (by show ¬ true=false;simp)
  subst bf
  exact .inr ⟨rfl,rfl,rfl,rfl,rfl,x,m,rfl,Z,A,fun y E D bh=>K y E 2 bh (by show 2<4;omega) (.inl D)⟩
theorem Klu.row {i n:Nat}{y:List Bool}(h:Klu rs b c fn cs i n y)(A:Klr rs cs b c)(hf:fn=2∨fn=3)(hi:i<rs.length)(E:y.getD i false=false){u:V}(H:u=(rs.getD i []).getD b Jf) :
  n<(Kk9 (Kk7 b c fn) cs).length∧(Qf (Kk9 (Kk7 b c fn) cs).length (Kln (Kk7 b c fn) cs))[n]?=some [u,Jbg ((Klp b c u (rs.drop i)).rows:Nat),(Kk8 (Klp b c u (rs.drop i)) fn).1,(Klp b c u (rs.drop i)).most]:=by
 obtain⟨h1,h2,_⟩:=h.new A hf hi E H
 have D:=(Ob9.1 h1).1
 refine⟨D,?_⟩
 obtain⟨K,M,O,R⟩:=A.told hf h2
 rw[Jge _ _ _ D,Kmy h1]
 show some [(tdV (Kk7 b c fn) (Klk (Kk7 b c fn) cs) (mk1 u) 0).1,(tdV (Kk7 b c fn) (Klk (Kk7 b c fn) cs) (mk1 u) 1).1,(tdV (Kk7 b c fn) (Klk (Kk7 b c fn) cs) (mk1 u) 2).1,(tdV (Kk7 b c fn) (Klk (Kk7 b c fn) cs) (mk1 u) 3).1]=_
 rw[K,M,O,R]
theorem Klu.bad {i n:Nat}{A:List Bool}(h:Klu rs b c fn cs i n A)(D:Klr rs cs b c)(hf:fn=2∨fn=3)(hi:i<rs.length)(K:A.getD i false=false){u:V}(U:u=(rs.getD i []).getD b Jf)(O:(Kk8 (Klp b c u (rs.drop i)) fn).2=false){ns:List PN}(M:ns=Kla b c fn)(R:tab Zu=.inl cs){Y W:World}{l:Value}{e nd row col pg:Int}(hR:Jnv tab ns Y l e nd row col pg W):l=.slice none 0 0∧e=10∧nd=1∧row=(n:Int)∧col=2∧pg=-1:=by
 obtain⟨h1,h2,_⟩:=h.new D hf hi K U
 have y:(tdV (Kk7 b c fn) (Klk (Kk7 b c fn) cs) (mk1 u) 2).2=false:=by rw[(D.told hf h2).2.2.1];exact O
 rcases Km4 M R hR with⟨_,_,_,_,_,H,_⟩|⟨bb,bc,bf,bh,bi,x,m,rfl,X,E,Z⟩
 ·rw[H n _ h1]at y
  cases y
 have ba:x=n:=by
  rcases Nat.lt_trichotomy x n with q|q|q
  ·rw[h.fine x m q X]at E
   cases E
  ·exact q
  ·rw[Z n _ q h1]at y
   cases y
 subst ba
 exact⟨bb,bc,bf,rfl,bh,bi⟩
theorem Klu.end {n:Nat}{D:List Bool}(h:Klu rs b c fn cs rs.length n D)(E:Klr rs cs b c){ns:List PN}(H:ns=Kla b c fn)(K:tab Zu=.inl cs){Y W:World}{l:Value}{e nd row col pg:Int}(hR:Jnv tab ns Y l e nd row col pg W):e=0∧nd=-1∧row=-1∧col=-1∧pg=-1∧n=(Kk9 (Kk7 b c fn) cs).length∧∃ g bs,l=.slice (some ⟨g,0,none⟩) (Kk9 (Kk7 b c fn) cs).length (Kk9 (Kk7 b c fn) cs).length∧Jcu W Y.heap.size g bs (Qf (Kk9 (Kk7 b c fn) cs).length (Kln (Kk7 b c fn) cs)):=by
 have hn:n=(Kk9 (Kk7 b c fn) cs).length:=by
  rw[h.num]
  unfold Kk9 mks
  rw[E.len]
 rcases Km4 H K hR with⟨M,O,R,U,X,_,Z⟩|⟨_,_,_,_,_,x,m,rfl,y,A,_⟩
 ·exact⟨M,O,R,U,X,hn,Z⟩
 rw[h.fine x m (by rw[hn];exact(Ob9.1 y).1) y]at A
 cases A
end
section
variable {E:DS} {T:TS} {name:ByteArray} {ts:List Int} {rs:List (List V)} {cs:Cs}
theorem Kd3.byRows (h:Kd3 E T name ts rs cs){b c:Nat}(y:b<ts.length)(A:c<ts.length):Klr rs cs b c:=⟨h.len,h.row,by rw[h.good.len];exact y,by rw[h.good.len];exact A⟩
theorem Kd3.vals (h:Kd3 E T name ts rs cs):∀ r∈rs,r.length=ts.length∧∀ c,c<ts.length→okV (ts.getD c 0) (r.getD c Jf)∧Jg (r.getD c Jf).n:=fun r D=>by
 obtain⟨i,hi,rfl⟩:=Od5 D
 have e:rs[i]=Ji cs i:=by rw[h.row i hi,Oa0,Oa3 hi];rfl
 have A:i<nR cs:=by rw[h.len];exact hi
 rw[e]
 refine⟨(h.good.ty i A).1,fun c y=>?_⟩
 rw[Jdj _ _ _ (by rw[h.good.len];exact y)]
 exact Kmh h.good A y
end
def Jjg (tab:ByteArray→Cs⊕Nat)(ns:List PN)(Y:World)(l:Value)(c nd row col pg:Int)(g:Nat)(bs:List Nat)(W:World):Prop:=
 (c=0∧nd=-1∧row=-1∧col=-1∧pg=-1∧Jd7 tab ns ns.length∧l=.slice (some ⟨g,0,none⟩) (nR (Jac tab ns)) (nR (Jac tab ns))∧Jcu W Y.heap.size g bs (Qf (nR (Jac tab ns)) (Jac tab ns))) ∨
 (l=.slice none 0 0∧Jv3 tab ns c nd row col pg∧g=0∧bs=[])
theorem Jjg.run {tab:ByteArray→Cs⊕Nat}{ns:List PN}{Y:World}{l:Value}{c nd row col pg:Int}{g:Nat}{bs:List Nat}{W:World}(h:Jjg tab ns Y l c nd row col pg g bs W):Jnv tab ns Y l c nd row col pg W:=by
 rcases h with⟨h1,h2,y,A,D,E,H,K⟩|⟨h1,h2,_⟩
 ·exact .inl ⟨h1,h2,y,A,D,E,g,bs,H,K⟩
 exact .inr ⟨h1,h2⟩
theorem Jnv.g {tab:ByteArray→Cs⊕Nat}{ns:List PN}{Y:World}{l:Value}{c nd row col pg:Int}{W:World}(h:Jnv tab ns Y l c nd row col pg W):∃ g bs,Jjg tab ns Y l c nd row col pg g bs W:=by
 rcases h with⟨h1,h2,y,A,D,E,g,bs,H,K⟩|⟨h1,h2⟩
 ·exact⟨g,bs,.inl ⟨h1,h2,y,A,D,E,H,K⟩⟩
 exact⟨0,[],.inr ⟨h1,h2,rfl,rfl⟩⟩
theorem Jjg.keep {tab:ByteArray→Cs⊕Nat}{ns:List PN}{Y:World}{l:Value}{c nd row col pg:Int}{g:Nat}{bs:List Nat}{W W':World}(h:Jjg tab ns Y l c nd row col pg g bs W)(O:W'.heap[g]?=W.heap[g]?)(M:∀ b∈bs,W'.heap[b]?=W.heap[b]?):Jjg tab ns Y l c nd row col pg g bs W':=by
 rcases h with⟨h1,h2,y,A,D,E,H,K⟩|h
 ·exact .inl ⟨h1,h2,y,A,D,E,H,K.of_blocks O M⟩
 exact .inr h
theorem Jjg.lt {tab:ByteArray→Cs⊕Nat}{ns:List PN}{Y:World}{l:Value}{c nd row col pg:Int}{g:Nat}{bs:List Nat}{W:World}(h:Jjg tab ns Y l c nd row col pg g bs W)(h0:0<W.heap.size):g<W.heap.size∧∀ b∈bs,b<W.heap.size:=by
 rcases h with⟨_,_,_,_,_,_,_,y⟩|⟨_,_,rfl,rfl⟩
 ·refine⟨y.outer.lt,fun b A=>?_⟩
  obtain⟨i,hi,rfl⟩:=Od5 A
  have D:i<(Qf (nR (Jac tab ns)) (Jac tab ns)).length:=by rw[←y.len];exact hi
  exact(y.rows i _ _ (Oa3 hi) (Oa3 D)).lt
 exact⟨h0,fun b A=>by cases A⟩
theorem Jjg.from {tab:ByteArray→Cs⊕Nat}{ns:List PN}{Y:World}{l:Value}{c nd row col pg:Int}{g:Nat}{bs:List Nat}{W:World}(h:Jjg tab ns Y l c nd row col pg g bs W){fa:Nat}(h0:0<fa)(h1:fa<Y.heap.size):fa≠g∧fa∉bs:=by
 rcases h with⟨_,_,_,_,_,_,_,A⟩|⟨_,_,rfl,rfl⟩
 ·exact⟨by have:=A.from_.1;omega,fun y=>by have:=(A.from_.2 fa y).1;omega⟩
 exact⟨by omega,fun y=>by cases y⟩
theorem Jcv {w w':World}{g:Nat}{o:Obj}(h:w.heap[g]?=some o)(y:Below w.heap.size w w'):w'.heap[g]?=some o:=(y.block g (Jd h)).trans h
theorem Kf5 {l:Array Bool}{i:Nat}(h:l.getD i true=false):dn (l.setIfInBounds i true) i:=by
 unfold dn
 rw[Oj5]at *
 by_cases y:i<l.size
 ·rw[Oo4 y];rfl
 rw[Og9 (by omega)]at h;cases h
end Go.Proofs.YtdlgbphkaicfaaaGreatDoor
namespace Go.Proofs.YtdlgbphkaicfaaaGreatDoor
open Go.RowKit Go.Shelf Tryz
abbrev Kpd (kb:Nat):List Nd:=[⟨0,0,0,Zu,(none,0,0),(none,0,0),0⟩,⟨4,0,0,⟨#[]⟩,(none,0,0),(some ⟨kb,0,none⟩,4,4),0⟩]
theorem Knv {w:World}{kb:Nat}{b c fn:Nat}(h:w.heap[kb]?=some (.cells ((Kk7 b c fn).flatMap kyC).toArray 38 (0,0))):Klj w kb 0 (Kk7 b c fn):=fun j k y=>by
 match j,y with
 |0,y=>cases y;refine⟨?_,?_,?_,?_⟩<;>simp[World.cell?,h,Kk7,kyC]
 |1,y=>cases y;refine⟨?_,?_,?_,?_⟩<;>simp[World.cell?,h,Kk7,kyC]
 |2,y=>cases y;refine⟨?_,?_,?_,?_⟩<;>simp[World.cell?,h,Kk7,kyC]
 |3,y=>cases y;refine⟨?_,?_,?_,?_⟩<;>simp[World.cell?,h,Kk7,kyC]
theorem Kq3 (R:Nat→Prop)(st:Nat)(A:DS)(T:TS)(cs:Cs)(M:List Int)(rs:List (List V))(w:World)(h:Sto R w st A [T])(D:Kd3 A T Zu M rs cs)(bK:rs.length≤60)(U X Z bi q wr pg bc ex bh:Addr)(bl:Jax w U X Z bi q wr pg bc ex bh)(b c fn:Nat)(bn:b<M.length)(bx:c<M.length)(hf:fn=2∨fn=3∧M.getD c 0=1)
  (O kb:Nat) (bC:w.heap[O]?=some (.cells ((Kpd kb).flatMap ndC).toArray 47 (0,0))) (bz:w.heap[kb]?=some (.cells ((Kk7 b c fn).flatMap kyC).toArray 38 (0,0)))
  (z:Nat) (K H bf:Int) (bE:1≤z) (bG:z≤1000) (br:2≤K) (bu:K≤1000) (bA:0≤H) (bB:H≤4096) :
  Calls prog 9 #[.pointer (some ⟨st,0,none⟩),.agg #[.slice (some ⟨O,0,none⟩) 2 2],.agg #[.int .i64 z,.int .i64 K,.int .i64 H,.int .i64 bf]] w fun bj w'=>Below w.heap.size w w'∧∃ Y l ba nd row col bb,Below w.heap.size w Y∧bj=.returned (.tuple #[l,Ko ba nd row col bb])∧Jnv (Ye A [T]) (Kla b c fn) Y l ba nd row col bb w':=by
 obtain⟨bH,bI⟩:=Km7 (tab:=Ye A [T]) (b:=b) (c:=c) (fn:=fn) D.tab
 have bJ:=D.len
 have bD:nR (Jac (Ye A [T]) (Kla b c fn))≤10000:=by
  rw[bI,Kmo (by show 1≤4;omega)]
  have:=Kns (gk:=Kk7 b c fn) (cs:=cs)
  omega
 refine Jr5 R st A [T] w h D.ok D.all U X Z bi q wr pg bc ex bh bl (Kla b c fn) _ (Ko1 D.tys bn bx hf) (fun n hn h0=>?_) (fun _=>bD) (fun n hn h0=>?_) (fun j n y bk _=>?_) O 0 2 (Kpd kb) rfl (Jfm bC) (fun j n nd y E=>?_) z K H bf bE bG br bu bA bB
 ·simp only[Kla,Of1,Oi0,or_false]at hn
  rcases hn with rfl|rfl
  ·exact D.find
  cases h0
 ·simp only[Kla,Of1,Oi0,or_false]at hn
  rcases hn with rfl|rfl
  ·exact absurd rfl h0
  exact Kpf
 ·match j,y with
  |0,y=>cases y;cases bk
  |1,y=>cases y;rw[bH];omega
 match j,y,E with
 |0,y,E=>cases y;cases E;exact⟨rfl,rfl,rfl,fun h=>absurd h (by decide),fun h=>absurd h (by decide)⟩
 |1,y,E=>cases y;cases E;exact⟨rfl,rfl,rfl,fun h=>absurd h (by show ¬ (4=1∨4=2);omega),fun _=>⟨kb,0,4,rfl,Knv bz⟩⟩
structure QX where
 x63:Value
 x64:Value
 x65:Value
 x66:Value
 x67:Value
 x68:Value
 x69:Value
 x70:Value
 x71:Value
 x72:Value
 x73:Value
 x74:Value
 x16:Value
 x17:Value
 g:Nat
 bs:List Nat
 fa:Nat
 Y:World
 ll:Value
 c:Int
 nd:Int
 row:Int
 col:Int
 pg:Int
def Kl4 (a:Act)(r:QX):Act:=(((((((((((((a.put (some 63) r.x63).put (some 64) r.x64).put (some 65) r.x65).put (some 66) r.x66).put (some 67) r.x67).put (some 68) r.x68).put (some 69) r.x69).put (some 70) r.x70).put (some 71) r.x71).put (some 72) r.x72).put (some 73) r.x73).put (some 74) r.x74).put (some 16) r.x16).put (some 17) r.x17
structure QE where
 st:Nat
 kb:Nat
 b:Nat
 c:Nat
 fn:Nat
 oz:Int
 ob:Int
 ol:Int
 os:Int
 tab:ByteArray→Cs⊕Nat
def BN (v:QE)(w:World)(g:Nat):Prop:=w.heap[g]?=some (.cells ((Kpd v.kb).flatMap ndC).toArray 47 (0,0))
def QF (v:QE)(D:World)(l:Array Bool)(r:QX)(w:World):Nat→Prop
 |0=>r.x64=.pointer (some ⟨v.st,0,none⟩)
 |1=>r.x65=Nd.val ⟨0,0,0,Zu,(none,0,0),(none,0,0),0⟩
 |2=>r.x66=.slice (some ⟨v.kb,0,none⟩) 4 4
 |3=>r.x67=Nd.val ⟨4,0,0,⟨#[]⟩,(none,0,0),(some ⟨v.kb,0,none⟩,4,4),0⟩
 |4=>∃ g,r.x68=.slice (some ⟨g,0,none⟩) 2 2∧(¬ dn l 8→BN v w g)
 |5=>∃ g,r.x69=.agg #[.slice (some ⟨g,0,none⟩) 2 2]∧(¬ dn l 8→BN v w g)
 |6=>r.x70=.agg #[.int .i64 v.oz,.int .i64 v.ob,.int .i64 v.ol,.int .i64 v.os]
 |7=>∃ (z:Nat) (A y:Int),r.x71=.agg #[.int .i64 z,.int .i64 A,.int .i64 y,.int .i64 v.os]∧1≤z∧z≤1000∧2≤A∧A≤1000∧0≤y∧y≤4096
 |8=>r.x72=.tuple #[r.ll,Ko r.c r.nd r.row r.col r.pg]∧Jjg v.tab (Kla v.b v.c v.fn) r.Y r.ll r.c r.nd r.row r.col r.pg r.g r.bs w
 |9=>dn l 8∧r.x63=.tuple #[r.ll,Ko r.c r.nd r.row r.col r.pg]
 |10=>dn l 8∧r.x73=r.ll
 |11=>dn l 8∧r.x74=Ko r.c r.nd r.row r.col r.pg
 |12=>r.x17=.pointer (some ⟨r.fa,0,none⟩)∧D.heap.size≤r.fa∧r.fa<w.heap.size∧(¬ dn l 14→w.heap[r.fa]?=some (.cells #[.int .i64 0,.int .i64 0,.int .i64 0,.int .i64 0,.int .i64 0] 42 (0,0)))∧(dn l 8→r.fa≠r.g∧r.fa∉r.bs)
 |13=>dn l 8∧r.x16=r.ll
 |14=>dn l 8∧dn l 12∧w.heap[r.fa]?=some (.cells #[.int .i64 r.c,.int .i64 r.nd,.int .i64 r.row,.int .i64 r.col,.int .i64 r.pg] 42 (0,0))
 |_=>True
structure QI (v:QE) (w0:World) (l:Array Bool) (r:QX) (w:World):Prop where
 low:Below w0.heap.size w0 w
 pos:0<w0.heap.size
 facts:∀ k,dn l k→QF v w0 l r w k
theorem QF.grow {v:QE}{D:World}{l:Array Bool}{r:QX}{w w':World}(h0:0<w.heap.size)(y:Below w.heap.size w w'):∀ k,QF v D l r w k→QF v D l r w' k
 |0,h=>h
 |1,h=>h
 |2,h=>h
 |3,h=>h
 |4,⟨g,h1,h2⟩=>⟨g,h1,fun hn=>Jcv (h2 hn) y⟩
 |5,⟨g,h1,h2⟩=>⟨g,h1,fun hn=>Jcv (h2 hn) y⟩
 |6,h=>h
 |7,h=>h
 |8,⟨h1,h2⟩=>⟨h1,h2.keep (y.block _ (h2.lt h0).1) fun b M=>y.block b ((h2.lt h0).2 b M)⟩
 |9,h=>h
 |10,h=>h
 |11,h=>h
 |12,⟨h1,h2,A,H,K⟩=>⟨h1,h2,Oc2 A y.size,fun hn=>Jcv (H hn) y,K⟩
 |13,h=>h
 |14,⟨h1,E,A⟩=>⟨h1,E,Jcv A y⟩
 |_+15,h=>h
theorem QI.grow {v:QE}{A:World}{l:Array Bool}{r:QX}{w w':World}(h:QI v A l r w)(y:Below w.heap.size w w'):QI v A l r w':=
 ⟨Jb h.low y,h.pos,fun k D=>QF.grow (by have:=h.low.size;have:=h.pos;omega) y k (h.facts k D)⟩
theorem QF.mark {v:QE}{H:World}{l D:Array Bool}{r:QX}{w:World}(y:dn D 8↔dn l 8)(K:dn D 12↔dn l 12)(M:dn D 14↔dn l 14):∀ k,QF v H l r w k→QF v H D r w k
 |0,h=>h
 |1,h=>h
 |2,h=>h
 |3,h=>h
 |4,⟨g,h1,h2⟩=>⟨g,h1,fun hn=>h2 fun A=>hn (y.2 A)⟩
 |5,⟨g,h1,h2⟩=>⟨g,h1,fun hn=>h2 fun A=>hn (y.2 A)⟩
 |6,h=>h
 |7,h=>h
 |8,h=>h
 |9,⟨h1,h2⟩=>⟨y.2 h1,h2⟩
 |10,⟨h1,h2⟩=>⟨y.2 h1,h2⟩
 |11,⟨h1,h2⟩=>⟨y.2 h1,h2⟩
 |12,⟨h1,h2,E,O,R⟩=>⟨h1,h2,E,fun hn=>O fun A=>hn (M.2 A),fun A=>R (y.1 A)⟩
 |13,⟨h1,h2⟩=>⟨y.2 h1,h2⟩
 |14,⟨h1,h2,E⟩=>⟨y.2 h1,K.2 h2,E⟩
 |_+15,h=>h
theorem Ko5 {l:Array Bool}{i j:Nat}(h:j≠i):dn (l.setIfInBounds i true) j↔dn l j:=⟨fun y=>Ki y h,fun y=>Kq y⟩
theorem QI.op {v:QE}{y:World}{l:Array Bool}{r:QX}{w:World}(h:QI v y l r w)(i:Nat)(A:QX)(hi:8≠i∧12≠i∧14≠i)(hs:∀ k,k≠i→QF v y l r w k→QF v y l A w k)(hf:QF v y (l.setIfInBounds i true) A w i):QI v y (l.setIfInBounds i true) A w:=by
 refine⟨h.low,h.pos,fun k D=>?_⟩
 by_cases e:k=i
 ·subst e
  exact hf
 exact QF.mark (Ko5 hi.1) (Ko5 hi.2.1) (Ko5 hi.2.2) k (hs k e (h.facts k (Ki D e)))
theorem QI.op12 {v:QE}{D:World}{l:Array Bool}{r:QX}{w:World}(h:QI v D l r w)(hn:l.getD 12 true=false)(u:Value)(fa:Nat)(hf:QF v D (l.setIfInBounds 12 true) {r with x17:=u,fa:=fa} w 12):QI v D (l.setIfInBounds 12 true) {r with x17:=u,fa:=fa} w:=by
 refine⟨h.low,h.pos,fun k H=>?_⟩
 by_cases e:k=12
 ·subst e
  exact hf
 have y:=h.facts k (Ki H e)
 have K:¬ dn l 12:=Yb hn
 have keep:∀ {j},dn l j→dn (l.setIfInBounds 12 true) j:=fun E=>Kq E
 match k,e,y with
 |0,_,y=>exact y
 |1,_,y=>exact y
 |2,_,y=>exact y
 |3,_,y=>exact y
 |4,_,⟨g,h1,h2⟩=>exact⟨g,h1,fun hn=>h2 fun A=>hn (keep A)⟩
 |5,_,⟨g,h1,h2⟩=>exact⟨g,h1,fun hn=>h2 fun A=>hn (keep A)⟩
 |6,_,y=>exact y
 |7,_,y=>exact y
 |8,_,y=>exact y
 |9,_,⟨h1,h2⟩=>exact⟨keep h1,h2⟩
 |10,_,⟨h1,h2⟩=>exact⟨keep h1,h2⟩
 |11,_,⟨h1,h2⟩=>exact⟨keep h1,h2⟩
 |12,e,_=>exact absurd rfl e
 |13,_,⟨h1,h2⟩=>exact⟨keep h1,h2⟩
 |14,_,y=>exact absurd y.2.1 K
 |k+15,_,_=>exact trivial
theorem QI.op8 {v:QE}{H:World}{l:Array Bool}{r:QX}{w:World}(h:QI v H l r w)(hn:l.getD 8 true=false)(u:Value)(Y:World)(g:Nat)(bs:List Nat)(ll:Value)(c nd row col pg:Int)(K:dn l 12→r.fa≠g∧r.fa∉bs)(hf:QF v H (l.setIfInBounds 8 true) {r with x72:=u,Y:=Y,g:=g,bs:=bs,ll:=ll,c:=c,nd:=nd,row:=row,col:=col,pg:=pg} w 8):QI v H (l.setIfInBounds 8 true) {r with x72:=u,Y:=Y,g:=g,bs:=bs,ll:=ll,c:=c,nd:=nd,row:=row,col:=col,pg:=pg} w:=by
 refine⟨h.low,h.pos,fun k O=>?_⟩
 by_cases e:k=8
 ·subst e
  exact hf
 have E:=Ki O e
 have y:=h.facts k E
 have D:¬ dn l 8:=Yb hn
 have keep:∀ {j},dn l j→dn (l.setIfInBounds 8 true) j:=fun M=>Kq M
 match k,e,E,y with
 |0,_,_,y=>exact y
 |1,_,_,y=>exact y
 |2,_,_,y=>exact y
 |3,_,_,y=>exact y
 |4,_,_,⟨g,h1,h2⟩=>exact⟨g,h1,fun hn=>h2 fun A=>hn (keep A)⟩
 |5,_,_,⟨g,h1,h2⟩=>exact⟨g,h1,fun hn=>h2 fun A=>hn (keep A)⟩
 |6,_,_,y=>exact y
 |7,_,_,y=>exact y
 |8,e,_,_=>exact absurd rfl e
 |9,_,_,y=>exact absurd y.1 D
 |10,_,_,y=>exact absurd y.1 D
 |11,_,_,y=>exact absurd y.1 D
 |12,_,E,y=>exact⟨y.1,y.2.1,y.2.2.1,fun hn=>y.2.2.2.1 fun A=>hn (keep A),fun _=>K E⟩
 |13,_,_,y=>exact absurd y.1 D
 |14,_,_,y=>exact absurd y.1 D
 |k+15,_,_,_=>exact trivial
theorem QI.op14 {v:QE}{A:World}{l:Array Bool}{r:QX}{w w':World}(h:QI v A l r w)(hn:l.getD 14 true=false)(D:dn l 8)(K:dn l 12)(bb:Below A.heap.size A w')(bj:w'.heap.size=w.heap.size)(bf:w'.heap[r.fa]?=some (.cells #[.int .i64 r.c,.int .i64 r.nd,.int .i64 r.row,.int .i64 r.col,.int .i64 r.pg] 42 (0,0)))(M:∀ k,k≠r.fa→w'.heap[k]?=w.heap[k]?):QI v A (l.setIfInBounds 14 true) r w':=by
 have keep:∀ {j},dn l j→dn (l.setIfInBounds 14 true) j:=fun bh=>Kq bh
 have O:∀ {q:Prop},¬ dn (l.setIfInBounds 14 true) 8→q:=fun E=>absurd (keep D) E
 obtain⟨_,bk,bl,_,R⟩:=h.facts 12 K
 obtain⟨U,X⟩:=R D
 refine⟨bb,h.pos,fun k bi=>?_⟩
 by_cases e:k=14
 ·subst e
  exact⟨keep D,keep K,bf⟩
 have E:=Ki bi e
 have y:=h.facts k E
 match k,e,y with
 |0,_,y=>exact y
 |1,_,y=>exact y
 |2,_,y=>exact y
 |3,_,y=>exact y
 |4,_,⟨g,h1,_⟩=>exact⟨g,h1,O⟩
 |5,_,⟨g,h1,_⟩=>exact⟨g,h1,O⟩
 |6,_,y=>exact y
 |7,_,y=>exact y
 |8,_,⟨h1,h2⟩=>exact⟨h1,h2.keep (M _ (Oc5 U)) fun b bc=>M b fun e=>X (e▸bc)⟩
 |9,_,⟨h1,h2⟩=>exact⟨keep h1,h2⟩
 |10,_,⟨h1,h2⟩=>exact⟨keep h1,h2⟩
 |11,_,⟨h1,h2⟩=>exact⟨keep h1,h2⟩
 |12,_,⟨h1,h2,Z,_,ba⟩=>exact⟨h1,h2,by rw[bj];exact Z,fun H=>absurd (Kf5 hn) H,fun H=>ba (Ki H (by omega))⟩
 |13,_,⟨h1,h2⟩=>exact⟨keep h1,h2⟩
 |14,e,_=>exact absurd rfl e
 |k+15,_,_=>exact trivial
theorem QI.f8 {v:QE}{A:World}{l:Array Bool}{r:QX}{w:World}(h:QI v A l r w)(y:dn l 8):r.x72=.tuple #[r.ll,Ko r.c r.nd r.row r.col r.pg]∧Jjg v.tab (Kla v.b v.c v.fn) r.Y r.ll r.c r.nd r.row r.col r.pg r.g r.bs w:=h.facts 8 y
theorem QI.f9 {v:QE}{A:World}{l:Array Bool}{r:QX}{w:World}(h:QI v A l r w)(y:dn l 9):dn l 8∧r.x63=.tuple #[r.ll,Ko r.c r.nd r.row r.col r.pg]:=h.facts 9 y
theorem QI.f10 {v:QE}{A:World}{l:Array Bool}{r:QX}{w:World}(h:QI v A l r w)(y:dn l 10):dn l 8∧r.x73=r.ll:=h.facts 10 y
theorem QI.f11 {v:QE}{A:World}{l:Array Bool}{r:QX}{w:World}(h:QI v A l r w)(y:dn l 11):dn l 8∧r.x74=Ko r.c r.nd r.row r.col r.pg:=h.facts 11 y
theorem QI.f12 {v:QE}{y:World}{l:Array Bool}{r:QX}{w:World}(h:QI v y l r w)(A:dn l 12):r.x17=.pointer (some ⟨r.fa,0,none⟩)∧y.heap.size≤r.fa∧r.fa<w.heap.size∧(¬ dn l 14→w.heap[r.fa]?=some (.cells #[.int .i64 0,.int .i64 0,.int .i64 0,.int .i64 0,.int .i64 0] 42 (0,0)))∧(dn l 8→r.fa≠r.g∧r.fa∉r.bs):=h.facts 12 A
theorem QI.f13 {v:QE}{A:World}{l:Array Bool}{r:QX}{w:World}(h:QI v A l r w)(y:dn l 13):dn l 8∧r.x16=r.ll:=h.facts 13 y
theorem QI.f14 {v:QE}{A:World}{l:Array Bool}{r:QX}{w:World}(h:QI v A l r w)(y:dn l 14):dn l 8∧dn l 12∧w.heap[r.fa]?=some (.cells #[.int .i64 r.c,.int .i64 r.nd,.int .i64 r.row,.int .i64 r.col,.int .i64 r.pg] 42 (0,0)):=h.facts 14 y
def Krn (y:Nat)(rs:List (List V))(b:Nat)(m:V)(A:List Bool)(i fn:Nat)(t:Tly)(w:World):Ending→World→Prop:=fun e w'=>
 Ju (·=y) w w'∧w'.heap[y]?=some (.cells ((dnL rs b m A i rs.length).map Value.bool).toArray 4 (0,0)) ∧
 (((Kk8 t fn).2=true∧∃ g,e=.returned (.tuple #[.slice (some ⟨g,0,none⟩) 4 4,.int .i64 0])∧w.heap.size≤g∧Jv w' (some ⟨g,0,none⟩) [m,Jbg (t.rows:Nat),(Kk8 t fn).1,t.most]) ∨
  ((Kk8 t fn).2=false∧e=.returned (.tuple #[.slice none 0 0,.int .i64 10])))
theorem Kme {y:World}{K M:Nat}{hs:List (Option Addr×Nat)}{rs:List (List V)}(h:Zd y (some ⟨K,M,none⟩) hs rs){j:Nat}(R:j<rs.length)(h0:0<(rs.getD j []).length):∃ A D H,y.cell? ⟨K,M+j,none⟩=some (.slice (some ⟨A,D,none⟩) (rs.getD j []).length H) ∧
  ∀ c,c<(rs.getD j []).length→y.cell? ⟨A,D+c*3,none⟩=some (.int .i64 ((rs.getD j []).getD c Jf).k)∧y.cell? ⟨A,D+c*3+1,none⟩=some (.int .i64 ((rs.getD j []).getD c Jf).n)∧y.cell? ⟨A,D+c*3+2,none⟩=some (.string ((rs.getD j []).getD c Jf).s):=by
 have e:rs.getD j []=rs[j]:=by rw[Oa0,Oa3 R];rfl
 rw[e]at h0 ⊢
 obtain⟨b1,bf,A,H,E,_,bb,U⟩:=h.at R
 cases E
 obtain⟨b2,bc,rfl,_⟩:=U.at h0
 refine⟨b2,bc,H,bb,fun c O=>?_⟩
 obtain⟨b3,bh,E,_,X,Z,ba⟩:=U.at O
 cases E
 rw[Kn2 O]at X Z ba
 exact⟨X,Z,ba⟩
theorem Km6 {y B:Nat}{w W:World}(h:Ju (·=y) w W)(D:w.heap.size≤B)(i:Nat)(v:Value):Ju (·=y) w (W.setCell ⟨B,i,none⟩ v):=((Kmm (G:=fun k=>k=y∨k=B) h fun _=>.inl).set (.inr rfl) i v).mono fun _ A hF=>hF.elim id fun e=>absurd A (by omega)
def Krk (W:World)(B:Nat)(v:V):World:=((W.setCell ⟨B,0,none⟩ (.int .i64 v.k)).setCell ⟨B,1,none⟩ (.int .i64 v.n)).setCell ⟨B,2,none⟩ (.string v.s)
theorem Kl7 {A B:Nat}{w W:World}(h:Ju (·=A) w W)(y:w.heap.size≤B)(v:V):Ju (·=A) w (Krk W B v):=Km6 (Km6 (Km6 h y _ _) y _ _) y _ _
theorem Kly (W:World){B k:Nat}(h:k≠B)(v:V):(Krk W B v).heap[k]?=W.heap[k]?:=by
 unfold Krk
 rw[Oa4 _ _ _ _ h,Oa4 _ _ _ _ h,Oa4 _ _ _ _ h]
theorem Kms {W:World}{B:Nat}{a b c:Value}(h:W.heap[B]?=some (.cells #[a,b,c] 63 (0,0)))(v:V):(Krk W B v).heap[B]?=some (.cells #[.int .i64 v.k,.int .i64 v.n,.string v.s] 63 (0,0)):=by
 have:=Jk (Jk (Jk h 0 (.int .i64 v.k)) 1 (.int .i64 v.n)) 2 (.string v.s)
 simp only[Oa1,List.set_cons_zero,List.set_cons_succ]at this
 exact this
theorem Kou (a:Option Addr)(cap:Nat)(hs:List (Option Addr×Nat))(rs:List (List V))(i D b c fn:Nat)(M:List Bool)(ty:Int)(w:World)
  (hR:∀ y,Ju (·=D) w y→Zd y a hs rs) (hn:rs.length≤60) (hi:i<rs.length) (cD:w.heap[D]?=some (.cells (M.map Value.bool).toArray 4 (0,0))) (ds:M.length=rs.length) (cV:∀ r∈rs,b<r.length∧c<r.length) (bE:∀ r∈rs,okV ty (r.getD c Jf)∧Jg (r.getD c Jf).n) (du:fn=2∨fn=3) :
  Calls prog 12 #[.slice a rs.length cap,.int .i64 (i:Nat),.slice (some ⟨D,0,none⟩) rs.length rs.length,.int .i64 (b:Nat),.int .i64 (c:Nat),.int .i64 (fn:Nat)] w (Krn D rs b ((rs.getD i []).getD b Jf) M i fn (Klp b c ((rs.getD i []).getD b Jf) (rs.drop i)) w):=by
 have dt:=Jd cD
 have bZ:Hid (∀ y,Ju (·=D) w y→Zd y a hs rs):=hR
 have cB:Hid (∀ r∈rs,b<r.length∧c<r.length):=cV
 have dj:Hid (∀ r∈rs,okV ty (r.getD c Jf)∧Jg (r.getD c Jf).n):=bE
 obtain⟨m,cH⟩:∃ m,m=(rs.getD i []).getD b Jf:=⟨_,rfl⟩
 rw[←cH]
 have cP:Hid (m=(rs.getD i []).getD b Jf):=cH
 have cb:Below w.heap.size w (w.alloc (.cells #[.int .i64 0,.int .i64 0,.string ⟨#[]⟩] 63)):=Jc (Oa5 _ _) _
 have cx:=heap_alloc_new w (.cells #[.int .i64 0,.int .i64 0,.string ⟨#[]⟩] 63)
 have cE:=(cb.block D dt).trans cD
 clear hR cV bE cH cD
 go_enter func12,ntmps12
 go_upto_region 6 with fail
 generalize w.alloc (.cells #[.int .i64 0,.int .i64 0,.string ⟨#[]⟩] 63)=dT at cb cx cE ⊢
 obtain⟨B,bb⟩:∃ B,B=w.heap.size:=⟨_,rfl⟩
 rw[←bb]at cx ⊢
 have bJ:Hid (B=w.heap.size∧D≠B):=⟨bb,by omega⟩
 obtain⟨dp,dq,_,_,rfl,_⟩:=(bZ.out w (Ju.refl _ _)).at hi
 clear bb
 go_loopw [14,15,16,17,19] (fun dO dN dM vL cM wr=>∃ (j:Nat) (t:Tly) (bf L:Int),i≤j∧j≤rs.length∧dO=.int .i64 (t.rows:Nat)∧dN=.int .i64 (t.held:Nat)∧dM=.int .i64 bf∧vL=.int .i64 L∧cM=.int .i64 (j:Nat)∧Hid (t=Klp b c m ((rs.take j).drop i)∧Kmr ty j t bf L∧Ju (·=D) w wr)∧wr.heap[B]?=some (.cells #[.int .i64 t.most.k,.int .i64 t.most.n,.string t.most.s] 63 (0,0))∧wr.heap[D]?=some (.cells ((dnL rs b m M i j).map Value.bool).toArray 4 (0,0))) (fun _ _ _ _ cM _=>rs.length-(intOf cM).toNat)
 case atStart=>
  refine⟨i,Klg,0,0,Oa2 _,Nat.le_of_lt hi,rfl,rfl,rfl,rfl,rfl,⟨?_,?_,Ju.of_below cb⟩,cx,?_⟩
  ·rw[List.drop_eq_nil_of_le (by rw[Oc7];omega)]
   rfl
  ·exact⟨rfl,by omega,by omega,by omega,by omega,Ob7 _,Ob7 _,Jet _,⟨fun _=>rfl,fun _=>rfl⟩,fun _=>rfl⟩
  rw[Kp0]
  exact cE
 case round=>
  obtain⟨j,t,bf,L,dx,fd,rfl,rfl,rfl,rfl,rfl,hI,bb,bj⟩:=hrel
  clear cx cE cb
  by_cases X:j<rs.length
  ·have bC:=bZ.out wr hI.out.2.2
   have cI:rs.getD j []∈rs:=by rw[Oa0,Oa3 X];exact Ob3 X
   have bU:rs.getD i []∈rs:=by rw[Oa0,Oa3 hi];exact Ob3 hi
   have cl:=cB.out _ cI
   have bV:=cB.out _ bU
   obtain⟨fm,fk,dX,dy,cG⟩:=Kme bC X (by omega)
   obtain⟨bY,bX,cS,ch,bS⟩:=Kme bC hi (by omega)
   obtain⟨cy,cz,cA⟩:=bS b bV.1
   obtain⟨dP,dQ,dR⟩:=cG b cl.1
   obtain⟨bG,bH,bI⟩:=cG c cl.2
   have bN:Hid (okV ty ((rs.getD j []).getD c Jf)∧Jg ((rs.getD j []).getD c Jf).n):=dj.out _ cI
   rw[←cP.out]at cy cz cA
   have db:Klp b c m ((rs.take (j+1)).drop i)=if ((rs.getD j []).getD b Jf).beq m=true then (Klp b c m ((rs.take j).drop i)).add ((rs.getD j []).getD c Jf)else Klp b c m ((rs.take j).drop i):=by
    rw[Oi7,Oa3 X,Option.toList_some,List.drop_append_of_le_length (by rw[Oc7];omega),Kqa]
    have e:rs.getD j []=rs[j]:=by rw[Oa0,Oa3 X];rfl
    rw[e]
   have bL:Hid _:=db
   clear db
   have cN:Hid (((rs.getD j []).getD b Jf).beq m=false→dnL rs b m M i (j+1)=dnL rs b m M i j):=fun h=>Kqu h
   have cO:Hid (((rs.getD j []).getD b Jf).beq m=true→dnL rs b m M i (j+1)=(dnL rs b m M i j).set j true):=fun h=>Krg dx h
   obtain⟨dK,bT⟩:∃ n,n=(rs.getD j []).length:=⟨_,rfl⟩
   obtain⟨cK,cZ⟩:∃ n,n=(rs.getD i []).length:=⟨_,rfl⟩
   rw[←bT]at dy cl
   rw[←cZ]at ch bV
   obtain⟨u,dc⟩:∃ u,u=(rs.getD j []).getD b Jf:=⟨_,rfl⟩
   obtain⟨v,bE⟩:∃ v,v=(rs.getD j []).getD c Jf:=⟨_,rfl⟩
   rw[←dc]at dP dQ dR bL cN cO
   rw[←bE]at bG bH bI bL bN
   have dh:Hid (0<(rs.getD j []).length):=by show _<_;rw[←bT];omega
   have df:Hid (c<(rs.getD j []).length):=by show _<_;rw[←bT];exact cl.2
   have dk:Hid (v=(rs.getD j []).getD c Jf):=bE
   have dg:Hid (dK=(rs.getD j []).length):=bT
   clear dc bE bT cZ cG bS bC cI bU
   by_cases bD:u=m
   ·have dD:=Jql u m bD
    have bB:Hid (u.beq m=true):=(V.beq_iff u m).2 bD
    have dz:j<(dnL rs b m M i j).length:=by rw[Klw,ds];exact X
    have dZ:wr.cell? ⟨D,j,none⟩=some (.bool (dnL rs b m M i j)[j]):=by
     simp only[World.cell?,bj]
     simp[dz]
    have fb:wr.frozen? ⟨D,j,none⟩=false:=by simp[World.frozen?,bj]
    clear bD bG bH bI
    go_wp2
    go_quiet (fail)
    go_upto_region 10 with fail
    have ci:Ju (·=D) w ((wr.drewN nq).setCell ⟨D,j,none⟩ (.bool true)):=(hI.out.2.2.drewN _).set rfl j _
    have bR:((wr.drewN nq).setCell ⟨D,j,none⟩ (.bool true)).heap[D]?=some (.cells ((dnL rs b m M i (j+1)).map Value.bool).toArray 4 (0,0)):=by
     rw[Jk (w:=wr.drewN nq) bj j (.bool true),cO.out bB.out,Op0]
     simp
    have bQ:((wr.drewN nq).setCell ⟨D,j,none⟩ (.bool true)).heap[B]?=some (.cells #[.int .i64 t.most.k,.int .i64 t.most.n,.string t.most.s] 63 (0,0)):=(Oa4 _ _ _ _ (Oc5 bJ.out.2)).trans bb
    generalize (wr.drewN nq).setCell ⟨D,j,none⟩ (.bool true)=Z at ci bR bQ ⊢
    have bC:=bZ.out Z ci
    obtain⟨fo,fl,dY,cX,cY⟩:=Kme bC X dh.out
    obtain⟨bG,bH,bI⟩:=cY c df.out
    rw[←dk.out]at bG bH bI
    rw[←dg.out]at cX
    clear cY bC
    have dE:=hI.out.2.1.rows
    have dv:=hI.out.2.1.held
    have dG:=hI.out.2.1.h1
    have dH:=hI.out.2.1.h2
    have dI:=hI.out.2.1.l1
    have dJ:=hI.out.2.1.l2
    have bW:=heap_alloc_new Z (.cells #[.int .i64 v.k,.int .i64 v.n,.string v.s] 63)
    have cf:Below Z.heap.size Z (Z.alloc (.cells #[.int .i64 v.k,.int .i64 v.n,.string v.s] 63)):=Jc (Oa5 _ _) _
    go_upto_region 12 with fail
    have O:Hid (Ju (·=D) w (Z.alloc (.cells #[.int .i64 v.k,.int .i64 v.n,.string v.s] 63))∧(Z.alloc (.cells #[.int .i64 v.k,.int .i64 v.n,.string v.s] 63)).heap[D]?=some (.cells ((dnL rs b m M i (j+1)).map Value.bool).toArray 4 (0,0))∧(Z.alloc (.cells #[.int .i64 v.k,.int .i64 v.n,.string v.s] 63)).heap[B]?=some (.cells #[.int .i64 t.most.k,.int .i64 t.most.n,.string t.most.s] 63 (0,0))):=⟨ci.trans (.of_below cf),(cf.block _ (Jd bR)).trans bR,(cf.block _ (Jd bQ)).trans bQ⟩
    obtain⟨bx,de⟩:∃ bx,bx=Z.heap.size:=⟨_,rfl⟩
    rw[←de]at bW ⊢
    have dS:Hid (bx≠B∧bx≠D):=⟨by have:=Jd bQ;omega,by have:=Jd bR;omega⟩
    clear de cf ci bR bQ cX bG bH bI
    generalize Z.alloc (.cells #[.int .i64 v.k,.int .i64 v.n,.string v.s] 63)=y at bW O ⊢
    have c0:y.cell? ⟨bx,0,none⟩=some (.int .i64 v.k):=by simp[World.cell?,bW]
    have c1:y.cell? ⟨bx,1,none⟩=some (.int .i64 v.n):=by simp[World.cell?,bW]
    have c2:y.cell? ⟨bx,2,none⟩=some (.string v.s):=by simp[World.cell?,bW]
    by_cases dd:v.k=0
    ·go_wp2
     go_roundw
     case rel=>
      obtain⟨l1,l2,br,bu⟩:=hI.out.2.1.null dd
      refine⟨j+1,t.add v,bf,L,by omega,X,by rw[l2];go_num,by rw[br],rfl,rfl,by go_num,⟨?_,l1,O.out.1⟩,?_,O.out.2.1⟩
      ·rw[bL.out,bB.out,if_pos rfl,←hI.out.1]
      rw[bu];exact O.out.2.2
     case measure=>simp[intOf];omega
    have dr:=Knl v.n
    have fg:-9223372036854775808≤v.n:=bN.out.2.1
    have fh:v.n≤9223372036854775807:=bN.out.2.2
    have cC:Hid _:=hI.out.2.1.more dd bN.out.1 bN.out.2
    have bM:Hid (Klp b c m ((rs.take (j+1)).drop i)=t.add v):=by
     show _=_
     rw[bL.out,bB.out,if_pos rfl,←hI.out.1]
    have K:=O.out.2.2
    have b0:y.cell? ⟨B,0,none⟩=some (.int .i64 t.most.k):=by simp[World.cell?,K]
    have b1:y.cell? ⟨B,1,none⟩=some (.int .i64 t.most.n):=by simp[World.cell?,K]
    have b2:y.cell? ⟨B,2,none⟩=some (.string t.most.s):=by simp[World.cell?,K]
    have bP:y.frozen? ⟨B,0,none⟩=false:=by simp[World.frozen?,K]
    have g1:y.frozen? ⟨B,1,none⟩=false:=by simp[World.frozen?,K]
    have g2:y.frozen? ⟨B,2,none⟩=false:=by simp[World.frozen?,K]
    have cQ:Hid (t.held=0↔t.most.k=0):=hI.out.2.1.none
    clear K
    by_cases cj:t.most.k=0
    ·go_wp2
     go_roundw
     case rel=>
      obtain⟨l1,l2,br,bu⟩:=cC.out
      refine⟨j+1,t.add v,_,_,by omega,X,by rw[l2];go_num,by rw[br];go_num,rfl,rfl,by go_num,⟨bM.out.symm,l1,Kl7 O.out.1 (Oo0 bJ.out.1.symm) v⟩,?_,(Kly y bJ.out.2 v).trans O.out.2.1⟩
      rw[bu,if_pos (.inl (cQ.out.2 cj))]
      exact Kms O.out.2.2 v
     case measure=>simp[intOf];omega
    have fe:(t.most.k==0)=false:=by simpa using cj
    have ff:(t.most.k != 0)=true:=by simpa using cj
    go_upto_region 17 with(go_at_call 25;refine(Jvi t.most v y).mono ?_;rintro fc ba ⟨rfl,bn⟩)
    have bk:Hid (Ju (·=D) w ba∧ba.heap[D]?=some (.cells ((dnL rs b m M i (j+1)).map Value.bool).toArray 4 (0,0))∧ba.heap[B]?=some (.cells #[.int .i64 t.most.k,.int .i64 t.most.n,.string t.most.s] 63 (0,0))):=⟨O.out.1.trans (.of_below bn),(bn.block _ (Jd O.out.2.1)).trans O.out.2.1,(bn.block _ (Jd O.out.2.2)).trans O.out.2.2⟩
    have K:=bk.out.2.2
    have dU:=Ja bn c0
    have dV:=Ja bn c1
    have dW:=Ja bn c2
    clear b0 b1 b2 bP g1 g2 c0 c1 c2 bn
    have b0:ba.cell? ⟨B,0,none⟩=some (.int .i64 t.most.k):=by simp[World.cell?,K]
    have b1:ba.cell? ⟨B,1,none⟩=some (.int .i64 t.most.n):=by simp[World.cell?,K]
    have b2:ba.cell? ⟨B,2,none⟩=some (.string t.most.s):=by simp[World.cell?,K]
    have bP:ba.frozen? ⟨B,0,none⟩=false:=by simp[World.frozen?,K]
    have g1:ba.frozen? ⟨B,1,none⟩=false:=by simp[World.frozen?,K]
    have g2:ba.frozen? ⟨B,2,none⟩=false:=by simp[World.frozen?,K]
    clear K
    cases hbl:Job t.most v
    ·go_wp2
     go_roundw
     case rel=>
      obtain⟨l1,l2,br,bu⟩:=cC.out
      refine⟨j+1,t.add v,_,_,by omega,X,by rw[l2];go_num,by rw[br];go_num,rfl,rfl,by go_num,⟨bM.out.symm,l1,bk.out.1⟩,?_,bk.out.2.1⟩
      rw[bu,hbl,if_neg (fun h=>h.elim (fun e=>cj (cQ.out.1 e)) (by simp))]
      exact bk.out.2.2
     case measure=>simp[intOf];omega
    go_wp2
    go_roundw
    case rel=>
     obtain⟨l1,l2,br,bu⟩:=cC.out
     refine⟨j+1,t.add v,_,_,by omega,X,by rw[l2];go_num,by rw[br];go_num,rfl,rfl,by go_num,⟨bM.out.symm,l1,Kl7 bk.out.1 (Oo0 bJ.out.1.symm) v⟩,?_,(Kly ba bJ.out.2 v).trans bk.out.2.1⟩
     rw[bu,hbl,if_pos (.inr rfl)]
     exact Kms bk.out.2.2 v
    case measure=>simp[intOf];omega
   have dD:=Jqe u m bD
   have bB:Hid (u.beq m=false):=(V.beq_false u m).2 bD
   clear bD bG bH bI
   go_wp2
   go_quiet (fail)
   go_wp2
   go_roundw
   case rel=>
    refine⟨j+1,t,bf,L,by omega,X,rfl,rfl,rfl,rfl,by go_num,⟨?_,hI.out.2.1.skip,hI.out.2.2.drewN _⟩,?_,?_⟩
    ·rw[bL.out,bB.out]
     exact hI.out.1
    ·exact bb
    rw[cN.out bB.out]
    exact bj
   case measure=>simp[intOf];omega
  obtain rfl:j=rs.length:=by omega
  have dE:=hI.out.2.1.rows
  have dv:=hI.out.2.1.held
  have dG:=hI.out.2.1.h1
  have dH:=hI.out.2.1.h2
  have dI:=hI.out.2.1.l1
  have dJ:=hI.out.2.1.l2
  have ca:Hid (t=Klp b c m (rs.drop i)):=by
   have:=hI.out.1
   rw[Of2]at this
   exact this
  have bz:Hid _:=hI.out.2.1.end
  have H:=heap_alloc_new wr (.cells #[.int .i64 1,.int .i64 (t.held:Nat),.string ⟨#[]⟩] 63)
  have cc:Below wr.heap.size wr (wr.alloc (.cells #[.int .i64 1,.int .i64 (t.held:Nat),.string ⟨#[]⟩] 63)):=Jc (Oa5 _ _) _
  have bO:Hid (Ju (·=D) w (wr.alloc (.cells #[.int .i64 1,.int .i64 (t.held:Nat),.string ⟨#[]⟩] 63))∧(wr.alloc (.cells #[.int .i64 1,.int .i64 (t.held:Nat),.string ⟨#[]⟩] 63)).heap[D]?=some (.cells ((dnL rs b m M i rs.length).map Value.bool).toArray 4 (0,0))∧(wr.alloc (.cells #[.int .i64 1,.int .i64 (t.held:Nat),.string ⟨#[]⟩] 63)).heap[B]?=some (.cells #[.int .i64 t.most.k,.int .i64 t.most.n,.string t.most.s] 63 (0,0))):=⟨hI.out.2.2.trans (.of_below cc),(cc.block _ (Jd bj)).trans bj,(cc.block _ (Jd bb)).trans bb⟩
  have fj:¬ ((rs.length:Int)<(rs.length:Int)):=by omega
  go_upto_region 20 with fail
  obtain⟨A,da⟩:∃ A,A=wr.heap.size:=⟨_,rfl⟩
  rw[←da]at H ⊢
  have bA:Hid (A≠B∧A≠D∧w.heap.size≤A):=⟨by have:=Jd bb;omega,by have:=Jd bj;omega,by have:=hI.out.2.2.size;omega⟩
  clear da cc bb bj
  generalize wr.alloc (.cells #[.int .i64 1,.int .i64 (t.held:Nat),.string ⟨#[]⟩] 63)=y at H bO ⊢
  go_upto_if 91 with fail
  go_cut [15,22] from 88 to 111 (fun _ dL cv=>dL=.pointer (some ⟨A,0,none⟩)∧Hid ((Kk8 t fn).2=true∧cv.heap[A]?=some (.cells #[.int .i64 (Kk8 t fn).1.k,.int .i64 (Kk8 t fn).1.n,.string (Kk8 t fn).1.s] 63 (0,0))∧Ju (·=D) w cv∧cv.heap[D]?=some (.cells ((dnL rs b m M i rs.length).map Value.bool).toArray 4 (0,0))∧cv.heap[B]?=some (.cells #[.int .i64 t.most.k,.int .i64 t.most.n,.string t.most.s] 63 (0,0))))
  case first=>
   rcases du with rfl|rfl
   ·go_wp2_with fail
    go_meet
    case rel=>exact⟨rfl,rfl,H,bO.out⟩
   have dr:=Knl L
   have cn:y.cell? ⟨A,0,none⟩=some (.int .i64 1):=by simp[World.cell?,H]
   have cr:y.cell? ⟨A,1,none⟩=some (.int .i64 (t.held:Nat)):=by simp[World.cell?,H]
   have cu:y.cell? ⟨A,2,none⟩=some (.string ⟨#[]⟩):=by simp[World.cell?,H]
   have bP:y.frozen? ⟨A,0,none⟩=false:=by simp[World.frozen?,H]
   have g1:y.frozen? ⟨A,1,none⟩=false:=by simp[World.frozen?,H]
   have g2:y.frozen? ⟨A,2,none⟩=false:=by simp[World.frozen?,H]
   go_upto_region 24 with fail
   generalize cU:wrap64 (wrap64 ((bf+L / 4294967296)*4294967296)+L % 4294967296)=U
   have R:Hid ((((y.setCell ⟨A,0,none⟩ (.int .i64 1)).setCell ⟨A,1,none⟩ (.int .i64 U)).setCell ⟨A,2,none⟩ (.string ⟨#[]⟩)).heap[A]?=some (.cells #[.int .i64 1,.int .i64 U,.string ⟨#[]⟩] 63 (0,0))∧Ju (·=D) w (((y.setCell ⟨A,0,none⟩ (.int .i64 1)).setCell ⟨A,1,none⟩ (.int .i64 U)).setCell ⟨A,2,none⟩ (.string ⟨#[]⟩))∧(((y.setCell ⟨A,0,none⟩ (.int .i64 1)).setCell ⟨A,1,none⟩ (.int .i64 U)).setCell ⟨A,2,none⟩ (.string ⟨#[]⟩)).heap[D]?=some (.cells ((dnL rs b m M i rs.length).map Value.bool).toArray 4 (0,0))∧(((y.setCell ⟨A,0,none⟩ (.int .i64 1)).setCell ⟨A,1,none⟩ (.int .i64 U)).setCell ⟨A,2,none⟩ (.string ⟨#[]⟩)).heap[B]?=some (.cells #[.int .i64 t.most.k,.int .i64 t.most.n,.string t.most.s] 63 (0,0))):=⟨Kms H ⟨1,U,⟨#[]⟩⟩,Kl7 bO.out.1 bA.out.2.2 ⟨1,U,⟨#[]⟩⟩,(Kly y (Oc5 bA.out.2.1) ⟨1,U,⟨#[]⟩⟩).trans bO.out.2.1,(Kly y (Oc5 bA.out.1) ⟨1,U,⟨#[]⟩⟩).trans bO.out.2.2⟩
   clear H cn cr cu bP g1 g2
   generalize ((y.setCell ⟨A,0,none⟩ (.int .i64 1)).setCell ⟨A,1,none⟩ (.int .i64 U)).setCell ⟨A,2,none⟩ (.string ⟨#[]⟩)=bi at R ⊢
   have H:=R.out.1
   have cn:bi.cell? ⟨A,0,none⟩=some (.int .i64 1):=by simp[World.cell?,H]
   have cr:bi.cell? ⟨A,1,none⟩=some (.int .i64 U):=by simp[World.cell?,H]
   have cu:bi.cell? ⟨A,2,none⟩=some (.string ⟨#[]⟩):=by simp[World.cell?,H]
   have bP:bi.frozen? ⟨A,0,none⟩=false:=by simp[World.frozen?,H]
   have g1:bi.frozen? ⟨A,1,none⟩=false:=by simp[World.frozen?,H]
   have g2:bi.frozen? ⟨A,2,none⟩=false:=by simp[World.frozen?,H]
   by_cases dB:bf+L / 4294967296 < -2147483648
   ·go_wp2_with fail
    go_ret2
    exact⟨R.out.2.1,R.out.2.2.1,.inr ⟨by rw[←ca.out];exact bz.out.1.1 (.inl dB),rfl⟩⟩
   by_cases dC:2147483648≤bf+L / 4294967296
   ·go_wp2_with fail
    go_ret2
    exact⟨R.out.2.1,R.out.2.2.1,.inr ⟨by rw[←ca.out];exact bz.out.1.1 (.inr dC),rfl⟩⟩
   have bK:Hid ((Kk8 t 3).2=true):=by
    show _=_
    cases e:(Kk8 t 3).2
    ·exact absurd (bz.out.1.2 e) (by omega)
    rfl
   have di:Hid (U=(bf+L / 4294967296)*4294967296+L % 4294967296):=by
    show _=_
    have:=bz.out.2.2 bK.out
    unfold Jg at this
    rw[←cU]
    unfold wrap64
    omega
   clear cU
   by_cases cF:t.held=0
   ·have dw:((t.held:Int)==0)=true:=by simp[cF]
    go_wp2_with fail
    go_meet
    case rel=>
     have e:=bz.out.2.1 bK.out
     rw[if_pos cF]at e
     refine⟨rfl,bK.out,?_,Kl7 R.out.2.1 bA.out.2.2 Jf,(Kly bi (Oc5 bA.out.2.1) Jf).trans R.out.2.2.1,(Kly bi (Oc5 bA.out.1) Jf).trans R.out.2.2.2⟩
     rw[e]
     exact Kms R.out.1 Jf
   have dw:¬ ((t.held:Int)=0):=by omega
   go_wp2_with fail
   go_meet
   case rel=>
    have e:=bz.out.2.1 bK.out
    rw[if_neg cF,←di.out]at e
    refine⟨rfl,bK.out,?_,R.out.2⟩
    rw[e]
    exact R.out.1
  case rest=>
   obtain⟨rfl,bh⟩:=hcut
   have bU:rs.getD i []∈rs:=by rw[Oa0,Oa3 hi];exact Ob3 hi
   have bV:=(cB.out _ bU).1
   obtain⟨bY,bX,cS,ch,bS⟩:=Kme (bZ.out wc bh.out.2.2.1) hi (by omega)
   obtain⟨cy,cz,cA⟩:=bS b bV
   rw[←cP.out]at cy cz cA
   generalize (rs.getD i []).length=cK at ch bV
   have H:=bh.out.2.1
   have K:=bh.out.2.2.2.2
   obtain⟨tv,cJ⟩:∃ tv,tv=(Kk8 t fn).1:=⟨_,rfl⟩
   rw[←cJ]at H
   have cn:wc.cell? ⟨A,0,none⟩=some (.int .i64 tv.k):=by simp[World.cell?,H]
   have cr:wc.cell? ⟨A,1,none⟩=some (.int .i64 tv.n):=by simp[World.cell?,H]
   have cu:wc.cell? ⟨A,2,none⟩=some (.string tv.s):=by simp[World.cell?,H]
   have b0:wc.cell? ⟨B,0,none⟩=some (.int .i64 t.most.k):=by simp[World.cell?,K]
   have b1:wc.cell? ⟨B,1,none⟩=some (.int .i64 t.most.n):=by simp[World.cell?,K]
   have b2:wc.cell? ⟨B,2,none⟩=some (.string t.most.s):=by simp[World.cell?,K]
   have bM:Hid (tv=(Kk8 t fn).1):=cJ
   clear H K bU bS cJ
   have j1:(0:Int)≤(i:Int):=by omega
   have j2:(i:Int)<(rs.length:Int):=by omega
   have fi:(0:Int)≤(b:Int):=by omega
   have j4:(b:Int)<(cK:Int):=by omega
   go_wp2
   refine wp_region_held_drew (S:=fun y=>y.cell? ⟨dp,dq+i,none⟩=some (.slice (some ⟨bY,bX,none⟩) cK cS)∧y.cell? ⟨bY,bX+b*3,none⟩=some (.int .i64 m.k)∧y.cell? ⟨bY,bX+b*3+1,none⟩=some (.int .i64 m.n)∧y.cell? ⟨bY,bX+b*3+2,none⟩=some (.string m.s)∧y.cell? ⟨A,0,none⟩=some (.int .i64 tv.k)∧y.cell? ⟨A,1,none⟩=some (.int .i64 tv.n)∧y.cell? ⟨A,2,none⟩=some (.string tv.s)∧y.cell? ⟨B,0,none⟩=some (.int .i64 t.most.k)∧y.cell? ⟨B,1,none⟩=some (.int .i64 t.most.n)∧y.cell? ⟨B,2,none⟩=some (.string t.most.s)) (by kernel_rfl) ⟨Jh ch,Jh cy,Jh cz,Jh cA,Jh cn,Jh cr,Jh cu,Jh b0,Jh b1,Jh b2⟩ (fun E=>?_)
   refine tk 0 ?_ rfl E ?_ (tk 1 ?_ rfl E ?_ (tk 2 ?_ rfl E ?_ (tk 3 ?_ rfl E ?_ ?_)))
   iterate 4
    rotate_left 1
    ·intro w bl;(try dsimp only at bl);go_simp;try rfl
   simp only[Act.put,List.getElem_toArray,List.getElem_cons_zero,List.getElem_cons_succ,Oa1,List.set_cons_zero,List.set_cons_succ]
   refine tk 4 ?_ rfl E ?_ (tk 5 ?_ rfl E ?_ (tk 6 ?_ rfl E ?_ ?_))
   iterate 3
    rotate_left 1
    ·intro w bl;(try dsimp only at bl);go_simp;try rfl
   simp only[Act.put,List.getElem_toArray,List.getElem_cons_zero,List.getElem_cons_succ,Oa1,List.set_cons_zero,List.set_cons_succ]
   refine tk 7 ?_ rfl E ?_ (tk 8 ?_ rfl E ?_ (tk 9 ?_ rfl E ?_ (tk 10 ?_ rfl E ?_ ?_)))
   iterate 4
    rotate_left 1
    ·intro w bl;(try dsimp only at bl);go_simp;try rfl
   simp only[Act.put,List.getElem_toArray,List.getElem_cons_zero,List.getElem_cons_succ,Oa1,List.set_cons_zero,List.set_cons_succ]
   refine wpAnyH_ready (rs:=[11]) (by kernel_rfl) (by simp) (AllReadyH.cons rfl (fun dm cT=>?_) AllReadyH.nil)
   go_simp
   have bc:Below wc.drew.heap.size wc.drew ((wc.alloc (.cells #[.int .i64 m.k,.int .i64 m.n,.string m.s,.int .i64 1,.int .i64 (t.rows:Nat),.string ⟨#[]⟩,.int .i64 tv.k,.int .i64 tv.n,.string tv.s,.int .i64 t.most.k,.int .i64 t.most.n,.string t.most.s] 63)).drew):=by
    have:=Jc (Oa5 _ wc) (.cells #[.int .i64 m.k,.int .i64 m.n,.string m.s,.int .i64 1,.int .i64 (t.rows:Nat),.string ⟨#[]⟩,.int .i64 tv.k,.int .i64 tv.n,.string tv.s,.int .i64 t.most.k,.int .i64 t.most.n,.string t.most.s] 63)
    exact⟨this.os,this.tape,this.output,this.size,this.block⟩
   refine cT.out _ _ ⟨Ja bc E.1,Ja bc E.2.1,Ja bc E.2.2.1,Ja bc E.2.2.2.1,Ja bc E.2.2.2.2.1,Ja bc E.2.2.2.2.2.1,Ja bc E.2.2.2.2.2.2.1,Ja bc E.2.2.2.2.2.2.2.1,Ja bc E.2.2.2.2.2.2.2.2.1,Ja bc E.2.2.2.2.2.2.2.2.2⟩ (fun E=>?_)
   clear cT dm
   refine tk 12 ?_ rfl E ?_ (tk 13 ?_ rfl E ?_ ?_)
   iterate 2
    rotate_left 1
    ·intro w bl;(try dsimp only at bl);go_simp;try rfl
   simp only[Act.put,List.getElem_toArray,List.getElem_cons_zero,List.getElem_cons_succ,Oa1,List.set_cons_zero,List.set_cons_succ]
   refine wpAnyH_done (by kernel_rfl) ?_ _
   go_wp2
   go_ret2
   have cW:Below wc.heap.size wc ((wc.alloc (.cells #[.int .i64 m.k,.int .i64 m.n,.string m.s,.int .i64 1,.int .i64 (t.rows:Nat),.string ⟨#[]⟩,.int .i64 tv.k,.int .i64 tv.n,.string tv.s,.int .i64 t.most.k,.int .i64 t.most.n,.string t.most.s] 63)).drew):=Jj (Jc (Oa5 _ _) _)
   have dA:Kv ((wc.alloc (.cells #[.int .i64 m.k,.int .i64 m.n,.string m.s,.int .i64 1,.int .i64 (t.rows:Nat),.string ⟨#[]⟩,.int .i64 tv.k,.int .i64 tv.n,.string tv.s,.int .i64 t.most.k,.int .i64 t.most.n,.string t.most.s] 63)).drew) wc.heap.size [m,Jbg (t.rows:Nat),tv,t.most] []:=⟨_,heap_alloc_new wc (.cells #[.int .i64 m.k,.int .i64 m.n,.string m.s,.int .i64 1,.int .i64 (t.rows:Nat),.string ⟨#[]⟩,.int .i64 tv.k,.int .i64 tv.n,.string tv.s,.int .i64 t.most.k,.int .i64 t.most.n,.string t.most.s] 63),rfl⟩
   refine⟨bh.out.2.2.1.trans (.of_below cW),(cW.block _ (Jd bh.out.2.2.2.1)).trans bh.out.2.2.2.1,.inl ⟨by rw[←ca.out];exact bh.out.1,wc.heap.size,rfl,bh.out.2.2.1.size,?_⟩⟩
   rw[←ca.out,←bM.out]
   exact dA.vals
theorem Jqh (w:World)(a b c d e:Int):(Op.equal 42 (Ko a b c d e) (Ko a b c d e)).run prog w=.ok true w:=by
 rw[Op.equal,Op.maxDepth,run_equalIn_struct w 9999 42 _ _ Kef Kh3]
 have h:=Jyf
 generalize (prog.fieldsOf 42).toList=y at h
 rcases y with _|⟨bc,_|⟨bf,_|⟨bh,_|⟨bi,_|⟨bj,_|⟨bk,y⟩⟩⟩⟩⟩⟩
 ·simp at h
 ·simp at h
 ·simp at h
 ·simp at h
 ·simp at h
 ·simp at h
  obtain⟨⟨h1,h2,A⟩,⟨D,E,H⟩,⟨K,M,O⟩,⟨R,U,X⟩,Z,ba,bb⟩:=h
  simp[Op.eqFields,h1,h2,A,D,E,H,K,M,O,R,U,X,Z,ba,bb,part,sizeOf,go_sem]
 simp at h
theorem Jmf (a b c d e:Int)(w:World):(binOp .eql 42 (Ko a b c d e) (Ko a b c d e)).run prog w=.ok (.bool true) w:=by
 simp[binOp,Jqh]
end Go.Proofs.YtdlgbphkaicfaaaGreatDoor
