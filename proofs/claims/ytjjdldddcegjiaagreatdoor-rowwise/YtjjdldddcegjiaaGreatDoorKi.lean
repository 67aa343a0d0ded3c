/- The reader's lists of values: so many one Kiw the other, and numbers that lie so far above the least. -/
import Derived.Test.YtjjdldddcegjiaaGreatDoorKh
import Derived.Test.YtjjdldddcegjiaaGreatDoorIv
set_option maxHeartbeats 1000000
set_option maxRecDepth 100000
namespace Go.Proofs.YtjjdldddcegjiaaGreatDoor
open Go.RowKit Tryz
def Jf:V:=⟨0,0,⟨#[]⟩⟩
theorem Jt9 (n:Nat):(madeCells #[.int .i64 0,.int .i64 0,.string ⟨#[]⟩] (n*3)).toList=(List.replicate n Jf).flatMap V.cells:=by
 have C:∀ n,(List.range (n*3)).map (fun j=>(#[Value.int .i64 0,.int .i64 0,.string ⟨#[]⟩]:Array Value)[j % 3]!)=(List.replicate n Jf).flatMap V.cells:=by
  intro n
  induction n with
  |zero=>rfl
  |succ n A=>
   have e:(n+1)*3=n*3+1+1+1:=by omega
   rw[e,Oj7,Oj7,Oj7,List.replicate_succ',Oe8,Ob8,Ob8,Ob8,A]
   have h0:(n*3) % 3=0:=by omega
   have y:(n*3+1) % 3=1:=by omega
   have z:(n*3+1+1) % 3=2:=by omega
   simp[h0,y,z,V.cells,Jf]
 have:=C n
 unfold madeCells
 rw[Array.toList_map,Array.toList_range]
 exact this
theorem Jl9 (n:Nat)(hn:n≤1000)(W:World):∃ y,(Instr.makeSlice 58 (.int .i64 (n:Int)) (.int .i64 (n:Int))).run prog W=.ok (.slice (some ⟨W.heap.size,0,none⟩) n n) (W.alloc (.cells y 49))∧Kv (W.alloc (.cells y 49)) W.heap.size (List.replicate n Jf) []:=by
 obtain⟨i,hi,D,C,A⟩:=info_parts Jow
 have z:=run_make (P:=prog) W 58 49 i _ (by kernel_rfl) hi D .i64 .i64 (n:Int) (n:Int) (by omega) (Int.le_refl _) (by rw[A];omega) (by omega)
 rw[Int.toNat_natCast,C]at z
 exact⟨_,z,_,(Oh1 W _).1,by rw[Od7];exact Jt9 n⟩
def Yl (t:Int):Nat→List UInt8→Option (List V×List UInt8)
 |0,bs=>some ([],bs)
 |m+1,bs=>match Yl t m bs with
  |none=>none
  |some (vs,r)=>(Qz t r).map fun x=>(vs++[x.1],x.2)
theorem Jeb (t:Int):∀ (m:Nat) (bs rest:List UInt8) (vs:List V),Yl t m bs=some (vs,rest)→vs.length=m:=by
 intro m
 induction m with
 |zero=>intro bs rest vs h;simp[Yl]at h;simp[h.1.symm]
 |succ m y=>
  intro bs rest vs h
  unfold Yl at h
  cases hm:Yl t m bs with
  |none=>rw[hm]at h;simp at h
  |some x=>
   obtain⟨z,r⟩:=x
   rw[hm]at h
   obtain⟨x,_,e⟩:=Oe9.1 h
   simp only[Oj3]at e
   rw[←e.1,Oa8,y bs r z hm]
   rfl
theorem Jry (t:Int)(bs:List UInt8)(k:Nat)(h:Yl t k bs=none):∀ m,k≤m→Yl t m bs=none:=by
 intro m z
 induction m with
 |zero=>
      have:k=0:=by omega
      subst this;exact h
 |succ m y=>
  by_cases e:k=m+1
  ·subst e;exact h
  unfold Yl;rw[y (by omega)]
theorem Jjw (t:Int)(bs r:List UInt8)(k:Nat)(vs:List V)(h:Yl t k bs=some (vs,r)):Yl t (k+1) bs=(Qz t r).map fun x=>(vs++[x.1],x.2):=by
 rw[Yl,h]
def Jc9 (w w':World)(vs:List V)(v:Value):Prop:=∃ b,v=.slice (some ⟨b,0,none⟩) vs.length vs.length∧w.heap.size≤b∧Kv w' b vs []
theorem Jna (y:List V)(k m:Nat)(v:V)(A:y.length=k)(C:k<m):(y++List.replicate (m-k) Jf).set k v=(y++[v])++List.replicate (m-(k+1)) Jf:=by
 obtain⟨d,z⟩:∃ d,m-k=d+1:=⟨m-k-1,by omega⟩
 have e:m-(k+1)=d:=by omega
 rw[z,e,List.replicate_succ,Ok4 _ _ (by omega),A,Oe1]
 simp
theorem Kv.put {w:World}{g:Nat}{y:List V}(h:Kv w g y [])(v:V)(k:Nat)(D:k<y.length):∃ u:V,
  (w.cell? ⟨g,k*3,none⟩=some (.int .i64 u.k)∧w.frozen? ⟨g,k*3,none⟩=false)∧(w.cell? ⟨g,k*3+1,none⟩=some (.int .i64 u.n)∧w.frozen? ⟨g,k*3+1,none⟩=false)∧(w.cell? ⟨g,k*3+2,none⟩=some (.string u.s)∧w.frozen? ⟨g,k*3+2,none⟩=false) ∧
  Kv (((w.setCell ⟨g,k*3,none⟩ (.int .i64 v.k)).setCell ⟨g,k*3+1,none⟩ (.int .i64 v.n)).setCell ⟨g,k*3+2,none⟩ (.string v.s)) g (y.set k v) []:=by
 obtain⟨⟨h0,z,A⟩,C⟩:=h.at3 v k D
 exact⟨_,h0,z,A,C⟩
theorem Jom (g:Nat)(t:Int)(bs:List UInt8)(z:Addr)(m:Nat)(w:World)(h:RAt w g t bs z)(br:t=1∨t=2∨t=3)(bE:m≤255) :
  Calls prog 293 #[.pointer (some ⟨g,0,none⟩),.int .i64 m] w (Qg w g t z (Yl t m bs) fun vs v w'=>Jc9 w w' vs v):=by
 obtain⟨bu,bj,bl⟩:=Jl9 m (by omega) w
 have bC:=h.lt
 have bB:=h.far
 go_enter func293,ntmps293
 go_wp2_with fail
 clear bj
 go_loopw [11] (fun i wr=>∃ (k:Nat) (y:List V) (r:List UInt8),k≤m∧i=.int .i64 k∧Yl t k bs=some (y,r)∧Kv wr w.heap.size (y++List.replicate (m-k) Jf) []∧RAt wr g t r z∧Jt w wr g) (fun i _=>m-(intOf i).toNat)
 case atStart=>exact⟨0,[],bs,by omega,rfl,rfl,by simpa using bl,h.alloc _,(Jt.refl w g).alloc _⟩
 case round=>
  obtain⟨k,y,r,bD,rfl,O,C,R,K⟩:=hrel
  have E:Hid (Yl t k bs=some (y,r)):=O
  have D:Hid (y.length=k):=Jeb t k bs r y O
  clear O
  by_cases X:k<m
  ·have Z:=Jn7 g t r z wr R br
   go_wp2_with fail
   refine Z.mono ?_
   rintro e w1 ⟨H,⟨A,rfl⟩|⟨x,rest,v,A,rfl,rfl,bh⟩⟩
   ·go_wp2_with fail
    refine⟨rfl,Qg.up (K.trans H) (Jry t bs (k+1) ?_ m (by omega))⟩
    rw[Jjw t bs r k y E.out,A];rfl
   clear Z
   have bn:Kv w1 w.heap.size (y++List.replicate (m-k) Jf) []:=C.of_block (H.block _ C.lt (by omega))
   have U:(y++List.replicate (m-k) Jf).length=m:=by rw[Oa8,D.out,Od6];omega
   obtain⟨bG,⟨c0,bx⟩,⟨c1,bz⟩,⟨c2,bA⟩,M⟩:=bn.put x k (by rw[U];exact X)
   rw[Jna y k m x D.out X]at M
   have bf:Hid _:=M
   have bc:Hid (Yl t (k+1) bs=some (y++[x],rest)):=by
    show _=_
    rw[Jjw t bs r k y E.out,A];rfl
   clear M U A
   go_wp2
   go_roundw
   case rel=>
    refine⟨k+1,y++[x],rest,by omega,by go_num,bc.out,bf.out,?_,?_⟩
    ·exact((bh.setOther (by omega) (by omega) _ _).setOther (by omega) (by omega) _ _).setOther (by omega) (by omega) _ _
    exact(((K.trans H).setNew (Oa2 _) _ _).setNew (Oa2 _) _ _).setNew (Oa2 _) _ _
   case measure=>simp[intOf];omega
  have bi:k=m:=by omega
  subst bi
  go_wp2
  go_ret
  rw[Oe1,List.replicate_zero,Od7]at C
  refine Qg.ok K E.out ⟨w.heap.size,?_,Oa2 _,C⟩ R
  rw[D.out]
  rfl
end Go.Proofs.YtjjdldddcegjiaaGreatDoor
namespace Go.Proofs.YtjjdldddcegjiaaGreatDoor
open Go.RowKit Tryz
def Jbq (t y:Int)(d:Nat):V:=⟨t,wrap64 (IntKind.u64.wrap (IntKind.u64.wrap y+(d:Int))),⟨#[]⟩⟩
def Jof (w w':World)(vs:List V)(v:Value):Prop:=∃ a cap,v=.slice a vs.length cap∧Jv w' a vs∧∀ b o,a=some ⟨b,o,none⟩→w.heap.size≤b
theorem Jc9.toR {w w':World}{vs:List V}{v:Value}(h:Jc9 w w' vs v):Jof w w' vs v:=by
 obtain⟨b,rfl,A,y⟩:=h
 refine⟨_,_,rfl,y.vals,fun z o e=>?_⟩
 simp at e
 omega
theorem Jof.mono {w w1 w':World}{vs:List V}{v:Value}(h:Jof w1 w' vs v)(hs:w.heap.size≤w1.heap.size):Jof w w' vs v:=by
 obtain⟨a,cap,rfl,z,y⟩:=h
 exact⟨_,_,rfl,z,fun b o e=>Ob2 hs (y b o e)⟩
def Ux (t:Int)(m:Nat)(bs:List UInt8):Option (List V×List UInt8):=
 if t=2 then (Yj 1 m bs).map fun x=>(x.1.map (Jbq t 0),x.2)
 else if m=0 then some ([],bs)
 else match Jc7 bs with
  |none=>none
  |some (z,r)=>match Ur r with
   |none=>none
   |some (y,A)=>if y≤64 then (Yj y m A).map fun x=>(x.1.map (Jbq t z),x.2)else none
theorem Kt {y count:Nat}{bs rest:List UInt8}{ns:List Nat}(h:Yj y count bs=some (ns,rest)):ns.length=count:=by
 unfold Yj at h
 split at h
 ·simp at h
 simp at h;rw[←h.1];simp
end Go.Proofs.YtjjdldddcegjiaaGreatDoor
namespace Go.Proofs.YtjjdldddcegjiaaGreatDoor
open Go.RowKit Tryz
def Jdd (t:Int)(m:Nat)(bs:List UInt8):Option (List V×List UInt8):=
 match Ur bs with
 |none=>none
 |some (n,r)=>match Yl t n r with
  |none=>none
  |some (ws,z)=>match Yj 4 m z with
   |none=>none
   |some (y,A)=>if ∀ k∈y,k<ws.length then some (y.map fun k=>ws.getD k Jf,A)else none
theorem Jgi {y count:Nat}{bs rest:List UInt8}{ns:List Nat}(h:Yj y count bs=some (ns,rest)):∀ n∈ns,n<2 ^ y:=by
 unfold Yj at h
 split at h
 ·simp at h
 simp at h
 intro n hn
 rw[←h.1]at hn
 obtain⟨i,_,rfl⟩:=Of0.1 hn
 exact Jok _ _ _
theorem Jb7 {w w':World}{g:Nat}{b:Nat}{xs:List Value}(h:Uh w (some ⟨b,0,none⟩) xs)(y:Jt w w' g)(hn:b≠g):Uh w' (some ⟨b,0,none⟩) xs:=
 h.of_block y.size fun z o e A=>by
  simp at e
  exact y.block z A (by rw[←e.1];exact hn)
theorem Jt.more {w w1:World}{G:Nat}(h:Jt w w1 G)(i:Nat)(v:Value):Jt w (w1.setCell ⟨G,i,none⟩ v) G:=h.trans (Jt.set _ _ _ _)
def Ys:List Nat→List V→List V
 |[],_=>[]
 |h::hs,vs=>if h=1 then (vs.headD Jf)::Ys hs vs.tail else Jf::Ys hs vs
def Qs:List Nat→Nat
 |[]=>0
 |h::hs=>(if h=1 then 1 else 0)+Qs hs
theorem Jeq (l:List Nat)(h:Nat):Qs (l++[h])=Qs l+(if h=1 then 1 else 0):=by
 induction l with
 |nil=>simp[Qs]
 |cons x l y=>simp only[List.cons_append,Qs,y];omega
theorem Ja9 (l:List Nat)(k:Nat):Qs (l.take k)≤Qs l:=by
 induction l generalizing k with
 |nil=>simp[Qs]
 |cons x l y=>
  cases k with
  |zero=>simp[Qs]
  |succ k=>simp only[List.take_succ_cons,Qs];have:=y k;omega
theorem Jez (hs:List Nat):∀ vs,(Ys hs vs).length=hs.length:=by
 induction hs with
 |nil=>intro vs;rfl
 |cons h hs y=>intro vs;simp only[Ys];split<;>simp[y]
theorem Jxq (l:List Nat)(h:Nat):∀ vs:List V,Ys (l++[h]) vs=Ys l vs++[if h=1 then vs.getD (Qs l) Jf else Jf]:=by
 induction l with
 |nil=>intro vs;simp only[List.nil_append,Ys,Qs];cases vs<;>split<;>simp
 |cons x l z=>
  intro vs
  simp only[List.cons_append,Ys,Qs,z]
  by_cases y:x=1
  ·simp only[y,if_true]
   cases vs with
   |nil=>simp
   |cons v vs=>simp[Nat.add_comm 1]
  simp[y]
theorem Jgo (b:Nat)(hs:List Nat)(a:Option Addr)(cap br:Nat)(vs:List V)(w:World)(hn:hs.length≤64)(bu:∀ h∈hs,h<2)(bP:Qs hs≤vs.length)(bQ:vs.length≤64)(bn:Uh w (some ⟨b,0,none⟩) (hs.map uv))(bC:Jv w a vs) :
  Calls prog 262 #[.slice (some ⟨b,0,none⟩) hs.length br,.slice a vs.length cap] w fun e w'=>(∃ v,e=.returned v∧Jc9 w w' (Ys hs vs) v)∧Below w.heap.size w w':=by
 obtain⟨bE,bz,bB⟩:=Jl9 hs.length (by omega) w
 go_enter func262,ntmps262
 go_wp2_with fail
 clear bz
 go_loopw [6,14] (fun bD i wr=>∃ k:Nat,k≤hs.length∧i=.int .i64 k∧bD=.int .i64 (Qs (hs.take k):Nat)∧Kv wr w.heap.size (Ys (hs.take k) vs++List.replicate (hs.length-k) Jf) []∧Below w.heap.size w wr) (fun _ i _=>hs.length-(intOf i).toNat)
 case atStart=>exact⟨0,by omega,rfl,rfl,by simpa [Ys] using bB,(Oa5 _ _).alloc (Oa2 _) _⟩
 case round=>
  obtain⟨k,bL,rfl,rfl,C,z⟩:=hrel
  by_cases A:k<hs.length
  ·obtain⟨b1,bR,bc,bJ,bi⟩:=(bn.below z).at (i:=k) (by simpa using A)
   simp only[Oc9,Oh2]at bc
   obtain⟨rfl,rfl,_⟩:=bc
   rw[Od9,Od0]at bi
   unfold uv at bi
   have D:hs.take (k+1)=hs.take k++[hs[k]]:=Oc4 A
   have bf:=Ja9 hs (k+1)
   have bO:=bu _ (Ob3 A)
   have R:=Jeq (hs.take k) hs[k]
   have M:=Jxq (hs.take k) hs[k] vs
   rw[←D]at R M
   have E:=Jez (hs.take k) vs
   have X:(hs.take k).length=k:=by simp;omega
   rw[X]at E
   have O:(Ys (hs.take k) vs++List.replicate (hs.length-k) Jf).length=hs.length:=by rw[Oa8,E,Od6];omega
   have y:Hid _:=R
   have Z:Hid _:=M
   clear R M D
   generalize hs[k]=q at *
   by_cases U:q=1
   ·subst U
    have bh:Qs (hs.take k)<vs.length:=by have:=y.out;simp at this;omega
    have bj:Hid (vs.getD (Qs (hs.take k)) Jf=vs[Qs (hs.take k)]):=by show _=_;simp[bh]
    have K:Hid (Qs (hs.take (k+1))=Qs (hs.take k)+1):=by show _=_;rw[y.out];rfl
    obtain⟨b2,bS,rfl,bK,bU,bV,bW⟩:=(bC.below z).at bh
    obtain⟨bT,⟨c0,bG⟩,⟨c1,bH⟩,⟨c2,bI⟩,H⟩:=C.put vs[Qs (hs.take k)] k (by rw[O];exact A)
    rw[Jna _ k hs.length _ E A]at H
    have D:Ys (hs.take k) vs++[vs[Qs (hs.take k)]]=Ys (hs.take (k+1)) vs:=by
     rw[Z.out,if_pos rfl,bj.out]
    rw[D]at H
    have bl:Hid _:=H
    have bM:(0:Int)≤(Qs (hs.take k):Nat)∧((Qs (hs.take k):Nat):Int)<(vs.length:Int):=by omega
    clear H D O E X bf y
    generalize Qs (hs.take k)=p at *
    go_wp2
    go_roundw
    case rel=>
     refine⟨k+1,by omega,by go_num,?_,bl.out,((z.setCell (p:=⟨w.heap.size,k*3,none⟩) (Oa2 _) _).setCell (p:=⟨w.heap.size,k*3+1,none⟩) (Oa2 _) _).setCell (p:=⟨w.heap.size,k*3+2,none⟩) (Oa2 _) _⟩
     rw[K.out];go_num
    case measure=>simp[intOf];omega
   have bN:((q:Int)==1)=false:=by rw[beq_eq_false_iff_ne];omega
   have K:Hid (Qs (hs.take (k+1))=Qs (hs.take k)):=by show _=_;rw[y.out,if_neg U];rfl
   have bA:Kv wr w.heap.size (Ys (hs.take (k+1)) vs++List.replicate (hs.length-(k+1)) Jf) []:=by
    have e:hs.length-k=hs.length-(k+1)+1:=by omega
    rw[Z.out,if_neg U,Od8]
    rw[e,List.replicate_succ]at C
    exact C
   clear O E X bf y
   go_wp2
   go_roundw
   case rel=>
    refine⟨k+1,by omega,by go_num,?_,bA,z⟩
    rw[K.out]
   case measure=>simp[intOf];omega
  have bx:k=hs.length:=by omega
  subst bx
  go_wp2
  go_ret
  rw[Oe1,List.replicate_zero,Od7,Of2]at C
  refine⟨⟨_,rfl,w.heap.size,?_,Oa2 _,C⟩,z⟩
  rw[Jez]
  rfl
end Go.Proofs.YtjjdldddcegjiaaGreatDoor
