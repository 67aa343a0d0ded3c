/- A Join, plainly: which rows fit. -/
import Derived.Test.YtpchafocmlhmbaaGreatDoorJn
set_option maxHeartbeats 1000000
set_option maxRecDepth 100000
namespace Go.Proofs.YtpchafocmlhmbaaGreatDoor
section
open Go.RowKit Go.Shelf Go.Maps
def Kv5 (cols:List (List V))(ns:List Nat)(r:Nat):Bool:=ns.any fun c=>decide (((cols.getD c []).getD r Jf).k=0)
def jnF (ks:List Krv)(lc rc:List (List V))(nr r:Nat):List Nat:=if Kv5 lc (ks.map fun k=>k.c) r=true then []else (List.range nr).filter (Kss ks lc rc r)
theorem Kx3 (l:List Nat)(cols:List (List V))(r:Nat):∀ (x:Int×Bool),(l.foldl (fun x c=>hxA x ((cols.getD c []).getD r Jf)) x).2=(x.2||Kv5 cols l r):=by
 induction l with
 |nil=>intro x;simp[Kv5]
 |cons c l y=>
  intro x;rw[List.foldl_cons,y];unfold hxA Kv5;rw[List.any_cons];by_cases h:((cols.getD c []).getD r Jf).k=0
  ·rw[if_pos h];simp only[h,decide_true,Bool.true_or,Bool.or_true]
  rw[if_neg h];simp only[h,decide_false,Bool.false_or]
theorem Kwd (cols:List (List V))(ns:List Nat)(sd:Int)(r:Nat):(hxR cols ns sd r).2=Kv5 cols ns r:=by
 unfold hxR;rw[Kx3];simp
theorem Kx6 {ks:List Krv}{lc rc:List (List V)}{r o:Nat}(h:Kss ks lc rc r o=true):∀ k∈ks,(lc.getD k.c []).getD r Jf=(rc.getD k.o.toNat []).getD o Jf:=fun k y=>by
 unfold Kss at h;exact(V.beq_iff _ _).1 (List.all_eq_true.1 h k y)
theorem Kuz (lc rc:List (List V))(r o:Nat):∀ (ks:List Krv) (x:Int×Bool),(∀ k∈ks,(lc.getD k.c []).getD r Jf=(rc.getD k.o.toNat []).getD o Jf)→(ks.map fun k=>k.c).foldl (fun x c=>hxA x ((lc.getD c []).getD r Jf)) x=(ks.map fun k=>k.o.toNat).foldl (fun x c=>hxA x ((rc.getD c []).getD o Jf)) x
 |[],x,_=>rfl
 |k::ks,x,h=>by
  rw[Oe4,Oe4,List.foldl_cons,List.foldl_cons,h k (Of4 ..)];exact Kuz lc rc r o ks _ fun D y=>h D (Og1 _ y)
theorem Kx4 {ks:List Krv}{lc rc:List (List V)}{r o:Nat}(sd:Int)(h:Kss ks lc rc r o=true):hxR lc (ks.map fun k=>k.c) sd r=hxR rc (ks.map fun k=>k.o.toNat) sd o:=Kuz lc rc r o ks _ (Kx6 h)
theorem Kv2 (rc:List (List V))(ns:List Nat)(sd:Int)(nr:Nat)(h:Int):Ksb ((List.range nr).map (hxE rc ns sd)) h=(List.range nr).filter fun o=>!(hxR rc ns sd o).2&&decide ((hxR rc ns sd o).1=h):=by
 unfold Ksb;rw[List.filter_map,Oi6];show List.map (fun o=>o) _=_;rw[List.map_id'];rfl
theorem Kup (j:JnE)(bs:List Nat)(sd:Int)(nr r:Nat)(hf:Kti j.s bs ((List.range nr).map (hxE j.rc (j.ks.map fun k=>k.o.toNat) sd))) :
  Krw j bs ((List.range nr).map (hxE j.rc (j.ks.map fun k=>k.o.toNat) sd)) r (hxR j.lc (j.ks.map fun k=>k.c) sd r)=jnF j.ks j.lc j.rc nr r:=by
 unfold Krw jnF;rw[Kv2,List.filter_filter,Kwd];by_cases hn:Kv5 j.lc (j.ks.map fun k=>k.c) r=true
 ·rw[if_pos (.inl hn),if_pos hn]
 rw[if_neg hn];have O:∀ o∈List.range nr,Kss j.ks j.lc j.rc r o=true→(hxR j.rc (j.ks.map fun k=>k.o.toNat) sd o).2=false∧(hxR j.rc (j.ks.map fun k=>k.o.toNat) sd o).1=(hxR j.lc (j.ks.map fun k=>k.c) sd r).1:=fun o _ h=>by
  rw[←Kx4 sd h];refine⟨?_,rfl⟩;rw[Kwd];simpa using hn
 by_cases K:Ksv j.s bs (hxR j.lc (j.ks.map fun k=>k.c) sd r).1.toNat=false
 ·rw[if_pos (.inr K)];symm
  rw[List.filter_eq_nil_iff];intro o y H;obtain⟨D,E⟩:=O o y H;have:Ksv j.s bs (hxE j.rc (j.ks.map fun (k:Krv)=>k.o.toNat) sd o).2.1.toNat=true:=hf _ (Of0.2 ⟨o,y,rfl⟩) D;simp only[hxE]at this;rw[E,K]at this;cases this
 rw[if_neg (fun e=>e.elim hn K)];refine List.filter_congr fun o y=>?_;cases H:Kss j.ks j.lc j.rc r o
 ·rfl
 obtain⟨D,E⟩:=O o y H;rw[D,E];simp
def jnL (k:Nat)(ks:List Krv)(lc rc:List (List V))(nl nr:Nat):List Int:=(List.range nl).flatMap fun r=>tkL k r (jnF ks lc rc nr r)
def jnR (k:Nat)(ks:List Krv)(lc rc:List (List V))(nl nr:Nat):List Int:=(List.range nl).flatMap fun r=>tkR k (jnF ks lc rc nr r)
theorem Kxj {ks:List Krv}{lc rc:List (List V)}{nr r o:Nat}(h:o∈jnF ks lc rc nr r):o<nr:=by
 unfold jnF at h;split at h
 ·cases h
 exact Oj4.1 (Om0.1 h).1
theorem Kx8 {k row:Nat}{f:List Nat}{x:Int}(h:x∈tkL k row f):x=(row:Int):=by
 unfold tkL at h;split at h
 ·obtain⟨_,_,h⟩:=Of0.1 h;exact h.symm
 ·split at h
  ·exact Oc6.1 h
  obtain⟨_,_,h⟩:=Of0.1 h;exact h.symm
 ·split at h
  ·cases h
  exact Oc6.1 h
 split at h
 ·exact Oc6.1 h
 cases h
theorem Kx7 {k:Nat}{f:List Nat}{x:Int}(h:x∈tkR k f):x=-1∨∃ o∈f,x=(o:Int):=by
 unfold tkR at h;split at h
 ·obtain⟨o,y,h⟩:=Of0.1 h;exact .inr ⟨o,y,h.symm⟩
 ·split at h
  ·exact .inl (Oc6.1 h)
  obtain⟨o,y,h⟩:=Of0.1 h;exact .inr ⟨o,y,h.symm⟩
 cases h
theorem Kvy {k:Nat}{ks:List Krv}{lc rc:List (List V)}{nl nr:Nat}:∀ m∈jnL k ks lc rc nl nr,m=-1∨(0≤m∧m<(nl:Int)):=fun m y=>by
 obtain⟨r,hr,y⟩:=Op5.1 y;have:=Kx8 y;have:=Oj4.1 hr;right;omega
theorem Kxi {k:Nat}{ks:List Krv}{lc rc:List (List V)}{nl nr:Nat}:∀ m∈jnR k ks lc rc nl nr,m=-1∨(0≤m∧m<(nr:Int)):=fun m y=>by
 obtain⟨r,hr,y⟩:=Op5.1 y;rcases Kx7 y with h|⟨o,D,h⟩
 ·exact .inl h
 have:=Kxj D;right;omega
theorem Kv3 (k row:Nat)(y:k<2)(f:List Nat):(tkL k row f).length=(tkR k f).length:=by
 match k,y with
 |0,_=>simp[tkL,tkR]
 |1,_=>by_cases h:f=[]<;>simp[tkL,tkR,h]
theorem Kty {α β γ:Type}(f:α→List β)(g:α→List γ):∀ (l:List α),(∀ x∈l,(f x).length=(g x).length)→(l.flatMap f).length=(l.flatMap g).length
 |[],_=>rfl
 |x::l,h=>by
  rw[Og7,Og7,Oa8,Oa8,h x (Of4 ..),Kty f g l fun D y=>h D (Og1 _ y)]
theorem Kvn {k:Nat}(y:k<2){ks:List Krv}{lc rc:List (List V)}{nl nr:Nat}:(jnL k ks lc rc nl nr).length=(jnR k ks lc rc nl nr).length:=Kty _ _ _ fun _ _=>Kv3 _ _ y _
def Kr4 (k:Nat)(ks:List Krv)(lc rc:List (List V))(nl nr:Nat):List (List V):=if k<2 then lc.map (Yq (jnL k ks lc rc nl nr))++rc.map (Yq (jnR k ks lc rc nl nr))else lc.map (Yq (jnL k ks lc rc nl nr))
end
section
open Go.RowKit Go.Shelf Go.Maps Tryz
attribute [local go_sem] Oc0
def Ksx (hs:List (Option Addr×Nat))(n:Nat):List (Option Addr×Nat):=(List.range n).map (Yo hs)
theorem Ksk (hs:List (Option Addr×Nat))(n:Nat):(Ksx hs n).length=n:=by simp[Ksx]
theorem Ksr {hs:List (Option Addr×Nat)}{n j:Nat}(y:j<n):Yo (Ksx hs n) j=Yo hs j:=by
 show ((List.range n).map (Yo hs)).getD j (none,0)=_;rw[Oa0,Ob1,Oh6 y];rfl
theorem Qd.norm {w:World}{g:Nat}{hs:List (Option Addr×Nat)}{cs:List (List V)}(h:Qd w g hs cs):Qd w g (Ksx hs cs.length) cs:=⟨h.row.congr fun j y=>by rw[Ksr y],fun j y=>by rw[Ksr y];exact h.vals j y,fun j y=>by rw[Ksr y];exact h.cap j y⟩
def Kt3 (hs:List (Option Addr×Nat))(cs:List (List V)):List Value:=(List.range cs.length).map fun j=>.slice (Yo hs j).1 (cs.getD j []).length (Yo hs j).2
theorem Kr8 (hs:List (Option Addr×Nat))(cs:List (List V)):(Kt3 hs cs).length=cs.length:=by simp[Kt3]
theorem Kwb {hs:List (Option Addr×Nat)}{cs:List (List V)}{j:Nat}{u:Value}(h:(Kt3 hs cs)[j]?=some u):j<cs.length∧u=.slice (Yo hs j).1 (cs.getD j []).length (Yo hs j).2:=by
 have y:j<cs.length:=by rw[←Kr8 hs cs];exact(Ob9.1 h).1
 unfold Kt3 at h;rw[Ob1,Oh6 y]at h;exact⟨y,(Oj6 h).symm⟩
theorem Ksz {a b:List (Option Addr×Nat)}{j:Nat}(h:j<a.length):Yo (a++b) j=Yo a j:=by
 show (a++b).getD j _=a.getD j _;rw[Oa0,Oa0,Ob0 h]
theorem Kuj {a b:List (Option Addr×Nat)}{j:Nat}(h:a.length≤j):Yo (a++b) j=Yo b (j-a.length):=by
 show (a++b).getD j _=b.getD _ _;rw[Oa0,Oa0,Ob6 h]
theorem Kto {a b:List (List V)}{j:Nat}(h:j<a.length):(a++b).getD j []=a.getD j []:=by
 rw[Oa0,Oa0,Ob0 h]
theorem Ktd {a b:List (List V)}{j:Nat}(h:a.length≤j):(a++b).getD j []=b.getD (j-a.length) []:=by
 rw[Oa0,Oa0,Ob6 h]
theorem Ku3 (g1 c1 g2 c2:Nat)(E H:List (Option Addr×Nat))(y D:List (List V))(w:World)(X:Qd w g1 E y)(Y:Qd w g2 H D)(bG:1≤y.length)(bE:y.length≤1000)(m2:D.length≤1000) :
  Calls prog 146 #[.slice (some ⟨g1,0,none⟩) y.length c1,.slice (some ⟨g2,0,none⟩) D.length c2] w fun e w'=>Below w.heap.size w w'∧∃ g cap,e=.returned (.slice (some ⟨g,0,none⟩) (y++D).length cap)∧w.heap.size≤g∧Qd w' g (Ksx E y.length++Ksx H D.length) (y++D):=by
 have R:Below w.heap.size w (w.alloc (.cells #[.slice (some ⟨g1,0,none⟩) y.length c1,.slice (some ⟨g2,0,none⟩) D.length c2] 72)):=Jc (Oa5 _ _) _;have bf:=heap_alloc_new w (.cells #[.slice (some ⟨g1,0,none⟩) y.length c1,.slice (some ⟨g2,0,none⟩) D.length c2] 72);have bK:=Oa7 w (.cells #[.slice (some ⟨g1,0,none⟩) y.length c1,.slice (some ⟨g2,0,none⟩) D.length c2] 72);have bB:=by
  refine Kvi w.heap.size c1 c2 2 g1 0 g2 0 (Kt3 E y) (Kt3 H D) (w.alloc (.cells #[.slice (some ⟨g1,0,none⟩) y.length c1,.slice (some ⟨g2,0,none⟩) D.length c2] 72)) ?_ ?_ (fun j u O=>?_) (fun j u O=>?_) (fun u O=>?_) (by rw[Kr8];exact bG) (by rw[Kr8];exact bE) (by rw[Kr8];exact m2)
  ·rw[Kr8];simp only[World.cell?,bf];rfl
  ·rw[Kr8];simp only[World.cell?,bf];rfl
  ·obtain⟨K,rfl⟩:=Kwb O;rw[Od0];exact(X.below R).row.cell K
  ·obtain⟨K,rfl⟩:=Kwb O;rw[Od0];exact(Y.below R).row.cell K
  rcases Od2.1 O with O|O<;>(obtain⟨i,_,rfl⟩:=Of0.1 O;rfl)
 have U:Hid (Qd w g1 E y∧Qd w g2 H D∧Below w.heap.size w (w.alloc (.cells #[.slice (some ⟨g1,0,none⟩) y.length c1,.slice (some ⟨g2,0,none⟩) D.length c2] 72))):=⟨X,Y,R⟩;clear X Y R bf;go_enter func146,ntmps146
 go_wp2_with (go_at_call 195;refine bB.mono ?_;rintro e w' ⟨bA,sv,rfl,bD⟩)
 go_ret
 have bc:=Jb U.out.2.2 bA;refine⟨bc,?_⟩;have bi:=U.out.1.below bc;have bj:=U.out.2.1.below bc;rcases bD with⟨bL,⟨bh,br⟩|⟨g,cap,bz,bh,br,bH,bI,bM,bN,bx⟩⟩
 ·rw[Oa8,Kr8,Kr8]at br;omega
 have bC:(Kt3 E y++Kt3 H D).length=(y++D).length:=by rw[Oa8,Oa8,Kr8,Kr8]
 rw[bC]at bh bI bx;refine⟨g,cap,by rw[bh];rfl,by omega,?_⟩;have Z:∀ j,j<y.length→Yo (Ksx E y.length++Ksx H D.length) j=Yo E j:=fun j K=>by rw[Ksz (by rw[Ksk];exact K),Ksr K]
 have ba:∀ j,y.length≤j→j<y.length+D.length→Yo (Ksx E y.length++Ksx H D.length) j=Yo H (j-y.length):=fun j K bJ=>by rw[Kuj (by rw[Ksk];exact K),Ksk,Ksr (by omega)]
 refine⟨⟨bz,bH,by omega,fun i hi=>?_⟩,fun i hi=>?_,fun i hi=>?_⟩
 ·have bn:(Kt3 E y++Kt3 H D)[i]?=some (.slice (Yo (Ksx E y.length++Ksx H D.length) i).1 ((y++D).getD i []).length (Yo (Ksx E y.length++Ksx H D.length) i).2):=by
   rw[Oa8]at hi;by_cases h:i<y.length
   ·rw[Ob0 (by rw[Kr8];exact h),Z i h,Kto h];unfold Kt3;rw[Ob1,Oh6 h];rfl
   ·rw[Ob6 (by rw[Kr8];omega),Kr8,ba i (by omega) hi,Ktd (by omega)];unfold Kt3;rw[Ob1,Oh6 (by omega)];rfl
  rw[←bx,Nat.mul_one,Oh3 hi,Oe6]at bn;exact bn
 ·rw[Oa8]at hi;by_cases h:i<y.length
  ·rw[Z i h,Kto h];exact bi.vals i h
  rw[ba i (by omega) hi,Ktd (by omega)];exact bj.vals _ (by omega)
 rw[Oa8]at hi;by_cases h:i<y.length
 ·rw[Z i h,Kto h];exact bi.cap i h
 rw[ba i (by omega) hi,Ktd (by omega)];exact bj.cap _ (by omega)
end
end Go.Proofs.YtpchafocmlhmbaaGreatDoor
