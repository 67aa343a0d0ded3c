/- The reader's lists of values: so many one Kiw the other, and numbers that lie so far above the least. -/
import Derived.Test.YtdlgbphkaicfaaaGreatDoorKh
import Derived.Test.YtdlgbphkaicfaaaGreatDoorIv
set_option maxHeartbeats 1000000
set_option maxRecDepth 100000
namespace Go.Proofs.YtdlgbphkaicfaaaGreatDoor
open Go.RowKit Tryz
def Jf:V:=⟨0,0,⟨#[]⟩⟩
theorem Jt9 (n:Nat):(madeCells #[.int .i64 0,.int .i64 0,.string ⟨#[]⟩] (n*3)).toList=(List.replicate n Jf).flatMap V.cells:=by
 have A:∀ n,(List.range (n*3)).map (fun j=>(#[Value.int .i64 0,.int .i64 0,.string ⟨#[]⟩]:Array Value)[j % 3]!)=(List.replicate n Jf).flatMap V.cells:=by
  intro n
  induction n with
  |zero=>rfl
  |succ n y=>
   have e:(n+1)*3=n*3+1+1+1:=by omega
   rw[e,Oj7,Oj7,Oj7,List.replicate_succ',Oe8,Ob8,Ob8,Ob8,y]
   have h0:(n*3) % 3=0:=by omega
   have h1:(n*3+1) % 3=1:=by omega
   have h2:(n*3+1+1) % 3=2:=by omega
   simp[h0,h1,h2,V.cells,Jf]
 have:=A n
 unfold madeCells
 rw[Array.toList_map,Array.toList_range]
 exact this
theorem Jl9 (n:Nat)(hn:n≤1000)(W:World):∃ C,(Instr.makeSlice 54 (.int .i64 (n:Int)) (.int .i64 (n:Int))).run prog W=.ok (.slice (some ⟨W.heap.size,0,none⟩) n n) (W.alloc (.cells C 63))∧Kv (W.alloc (.cells C 63)) W.heap.size (List.replicate n Jf) []:=by
 obtain⟨i,hi,E,D,A⟩:=info_parts Jow
 have y:=run_make (P:=prog) W 54 63 i _ (by kernel_rfl) hi E .i64 .i64 (n:Int) (n:Int) (by omega) (Int.le_refl _) (by rw[A];omega) (by omega)
 rw[Int.toNat_natCast,D]at y
 exact⟨_,y,_,(Oh1 W _).1,by rw[Od7];exact Jt9 n⟩
def Yl (t:Int):Nat→List UInt8→Option (List V×List UInt8)
 |0,bs=>some ([],bs)
 |m+1,bs=>match Yl t m bs with
  |none=>none
  |some (vs,r)=>(Qz t r).map fun x=>(vs++[x.1],x.2)
theorem Jeb (t:Int):∀ (m:Nat) (bs rest:List UInt8) (vs:List V),Yl t m bs=some (vs,rest)→vs.length=m:=by
 intro m
 induction m with
 |zero=>intro bs rest vs h;simp[Yl]at h;simp[h.1.symm]
 |succ m y=>
  intro bs rest vs h
  unfold Yl at h
  cases hm:Yl t m bs with
  |none=>rw[hm]at h;simp at h
  |some x=>
   obtain⟨A,r⟩:=x
   rw[hm]at h
   obtain⟨x,_,e⟩:=Oe9.1 h
   simp only[Oj3]at e
   rw[←e.1,Oa8,y bs r A hm]
   rfl
theorem Jry (t:Int)(bs:List UInt8)(k:Nat)(h:Yl t k bs=none):∀ m,k≤m→Yl t m bs=none:=by
 intro m A
 induction m with
 |zero=>
      have:k=0:=by omega
      subst this;exact h
 |succ m y=>
  by_cases e:k=m+1
  ·subst e;exact h
  unfold Yl;rw[y (by omega)]
theorem Jjw (t:Int)(bs r:List UInt8)(k:Nat)(vs:List V)(h:Yl t k bs=some (vs,r)):Yl t (k+1) bs=(Qz t r).map fun x=>(vs++[x.1],x.2):=by
 rw[Yl,h]
def Jc9 (w w':World)(vs:List V)(v:Value):Prop:=∃ b,v=.slice (some ⟨b,0,none⟩) vs.length vs.length∧w.heap.size≤b∧Kv w' b vs []
theorem Jna (y:List V)(k m:Nat)(v:V)(D:y.length=k)(E:k<m):(y++List.replicate (m-k) Jf).set k v=(y++[v])++List.replicate (m-(k+1)) Jf:=by
 obtain⟨d,A⟩:∃ d,m-k=d+1:=⟨m-k-1,by omega⟩
 have e:m-(k+1)=d:=by omega
 rw[A,e,List.replicate_succ,Ok4 _ _ (by omega),D,Oe1]
 simp
theorem Kv.put {w:World}{g:Nat}{y:List V}(h:Kv w g y [])(v:V)(k:Nat)(D:k<y.length):∃ u:V,
  (w.cell? ⟨g,k*3,none⟩=some (.int .i64 u.k)∧w.frozen? ⟨g,k*3,none⟩=false)∧(w.cell? ⟨g,k*3+1,none⟩=some (.int .i64 u.n)∧w.frozen? ⟨g,k*3+1,none⟩=false)∧(w.cell? ⟨g,k*3+2,none⟩=some (.string u.s)∧w.frozen? ⟨g,k*3+2,none⟩=false) ∧
  Kv (((w.setCell ⟨g,k*3,none⟩ (.int .i64 v.k)).setCell ⟨g,k*3+1,none⟩ (.int .i64 v.n)).setCell ⟨g,k*3+2,none⟩ (.string v.s)) g (y.set k v) []:=by
 obtain⟨⟨h0,h1,h2⟩,A⟩:=h.at3 v k D
 exact⟨_,h0,h1,h2,A⟩
theorem Jom (g:Nat)(t:Int)(bs:List UInt8)(A:Addr)(m:Nat)(w:World)(h:RAt w g t bs A)(bn:t=1∨t=2∨t=3)(bC:m≤255) :
  Calls prog 282 #[.pointer (some ⟨g,0,none⟩),.int .i64 m] w (Qg w g t A (Yl t m bs) fun vs v w'=>Jc9 w w' vs v):=by
 obtain⟨C,bj,bk⟩:=Jl9 m (by omega) w
 have bA:=h.lt
 have bz:=h.far
 go_enter func282,ntmps282
 go_wp2_with fail
 clear bj
 go_loopw [11] (fun i wr=>∃ (k:Nat) (y:List V) (r:List UInt8),k≤m∧i=.int .i64 k∧Yl t k bs=some (y,r)∧Kv wr w.heap.size (y++List.replicate (m-k) Jf) []∧RAt wr g t r A∧Jt w wr g) (fun i _=>m-(intOf i).toNat)
 case atStart=>exact⟨0,[],bs,by omega,rfl,rfl,by simpa using bk,h.alloc _,(Jt.refl w g).alloc _⟩
 case round=>
  obtain⟨k,y,r,bB,rfl,U,E,X,O⟩:=hrel
  have K:Hid (Yl t k bs=some (y,r)):=U
  have H:Hid (y.length=k):=Jeb t k bs r y U
  clear U
  by_cases ba:k<m
  ·have bb:=Jn7 g t r A wr X bn
   go_wp2_with fail
   refine bb.mono ?_
   rintro e w1 ⟨M,⟨D,rfl⟩|⟨x,rest,v,D,rfl,rfl,bh⟩⟩
   ·go_wp2_with fail
    refine⟨rfl,Qg.up (O.trans M) (Jry t bs (k+1) ?_ m (by omega))⟩
    rw[Jjw t bs r k y K.out,D];rfl
   clear bb
   have bl:Kv w1 w.heap.size (y++List.replicate (m-k) Jf) []:=E.of_block (M.block _ E.lt (by omega))
   have Z:(y++List.replicate (m-k) Jf).length=m:=by rw[Oa8,H.out,Od6];omega
   obtain⟨bD,⟨c0,br⟩,⟨c1,bu⟩,⟨c2,bx⟩,R⟩:=bl.put x k (by rw[Z];exact ba)
   rw[Jna y k m x H.out ba]at R
   have bf:Hid _:=R
   have bc:Hid (Yl t (k+1) bs=some (y++[x],rest)):=by
    show _=_
    rw[Jjw t bs r k y K.out,D];rfl
   clear R Z D
   go_wp2
   go_roundw
   case rel=>
    refine⟨k+1,y++[x],rest,by omega,by go_num,bc.out,bf.out,?_,?_⟩
    ·exact((bh.setOther (by omega) (by omega) _ _).setOther (by omega) (by omega) _ _).setOther (by omega) (by omega) _ _
    exact(((O.trans M).setNew (Oa2 _) _ _).setNew (Oa2 _) _ _).setNew (Oa2 _) _ _
   case measure=>simp[intOf];omega
  have bi:k=m:=by omega
  subst bi
  go_wp2
  go_ret
  rw[Oe1,List.replicate_zero,Od7]at E
  refine Qg.ok O K.out ⟨w.heap.size,?_,Oa2 _,E⟩ X
  rw[H.out]
  rfl
end Go.Proofs.YtdlgbphkaicfaaaGreatDoor
namespace Go.Proofs.YtdlgbphkaicfaaaGreatDoor
open Go.RowKit Tryz
def Jbq (t least:Int)(d:Nat):V:=⟨t,wrap64 (IntKind.u64.wrap (IntKind.u64.wrap least+(d:Int))),⟨#[]⟩⟩
def Jof (w w':World)(vs:List V)(v:Value):Prop:=∃ a cap,v=.slice a vs.length cap∧Jv w' a vs∧∀ b o,a=some ⟨b,o,none⟩→w.heap.size≤b
theorem Jc9.toR {w w':World}{vs:List V}{v:Value}(h:Jc9 w w' vs v):Jof w w' vs v:=by
 obtain⟨b,rfl,D,y⟩:=h
 refine⟨_,_,rfl,y.vals,fun A o e=>?_⟩
 simp at e
 omega
def Ux (t:Int)(m:Nat)(bs:List UInt8):Option (List V×List UInt8):=
 if t=2 then (Yj 1 m bs).map fun x=>(x.1.map (Jbq t 0),x.2)
 else if m=0 then some ([],bs)
 else match Jc7 bs with
  |none=>none
  |some (least,r)=>match Ur r with
   |none=>none
   |some (y,A)=>if y≤64 then (Yj y m A).map fun x=>(x.1.map (Jbq t least),x.2)else none
theorem Kt {y count:Nat}{bs rest:List UInt8}{ns:List Nat}(h:Yj y count bs=some (ns,rest)):ns.length=count:=by
 unfold Yj at h
 split at h
 ·simp at h
 simp at h;rw[←h.1];simp
end Go.Proofs.YtdlgbphkaicfaaaGreatDoor
namespace Go.Proofs.YtdlgbphkaicfaaaGreatDoor
open Go.RowKit Tryz
def Jdd (t:Int)(m:Nat)(bs:List UInt8):Option (List V×List UInt8):=
 match Ur bs with
 |none=>none
 |some (n,r)=>match Yl t n r with
  |none=>none
  |some (ws,y)=>match Yj 4 m y with
   |none=>none
   |some (ks,A)=>if ∀ k∈ks,k<ws.length then some (ks.map fun k=>ws.getD k Jf,A)else none
theorem Jgi {y count:Nat}{bs rest:List UInt8}{ns:List Nat}(h:Yj y count bs=some (ns,rest)):∀ n∈ns,n<2 ^ y:=by
 unfold Yj at h
 split at h
 ·simp at h
 simp at h
 intro n hn
 rw[←h.1]at hn
 obtain⟨i,_,rfl⟩:=Of0.1 hn
 exact Jok _ _ _
theorem Jb7 {w w':World}{g:Nat}{b:Nat}{xs:List Value}(h:Uh w (some ⟨b,0,none⟩) xs)(y:Jt w w' g)(hn:b≠g):Uh w' (some ⟨b,0,none⟩) xs:=
 h.of_block y.size fun A o e D=>by
  simp at e
  exact y.block A D (by rw[←e.1];exact hn)
def Ys:List Nat→List V→List V
 |[],_=>[]
 |h::hs,vs=>if h=1 then (vs.headD Jf)::Ys hs vs.tail else Jf::Ys hs vs
def Qs:List Nat→Nat
 |[]=>0
 |h::hs=>(if h=1 then 1 else 0)+Qs hs
theorem Jeq (l:List Nat)(h:Nat):Qs (l++[h])=Qs l+(if h=1 then 1 else 0):=by
 induction l with
 |nil=>simp[Qs]
 |cons x l y=>simp only[List.cons_append,Qs,y];omega
theorem Ja9 (l:List Nat)(k:Nat):Qs (l.take k)≤Qs l:=by
 induction l generalizing k with
 |nil=>simp[Qs]
 |cons x l y=>
  cases k with
  |zero=>simp[Qs]
  |succ k=>simp only[List.take_succ_cons,Qs];have:=y k;omega
theorem Jez (hs:List Nat):∀ vs,(Ys hs vs).length=hs.length:=by
 induction hs with
 |nil=>intro vs;rfl
 |cons h hs y=>intro vs;simp only[Ys];split<;>simp[y]
theorem Jxq (l:List Nat)(h:Nat):∀ vs:List V,Ys (l++[h]) vs=Ys l vs++[if h=1 then vs.getD (Qs l) Jf else Jf]:=by
 induction l with
 |nil=>intro vs;simp only[List.nil_append,Ys,Qs];cases vs<;>split<;>simp
 |cons x l A=>
  intro vs
  simp only[List.cons_append,Ys,Qs,A]
  by_cases y:x=1
  ·simp only[y,if_true]
   cases vs with
   |nil=>simp
   |cons v vs=>simp[Nat.add_comm 1]
  simp[y]
theorem Jgo (b:Nat)(hs:List Nat)(a:Option Addr)(cap bn:Nat)(vs:List V)(w:World)(hn:hs.length≤64)(br:∀ h∈hs,h<2)(bN:Qs hs≤vs.length)(bO:vs.length≤64)(bl:Uh w (some ⟨b,0,none⟩) (hs.map uv))(bB:Jv w a vs) :
  Calls prog 251 #[.slice (some ⟨b,0,none⟩) hs.length bn,.slice a vs.length cap] w fun e w'=>(∃ v,e=.returned v∧Jc9 w w' (Ys hs vs) v)∧Below w.heap.size w w':=by
 obtain⟨C,bx,bA⟩:=Jl9 hs.length (by omega) w
 go_enter func251,ntmps251
 go_wp2_with fail
 clear bx
 go_loopw [6,14] (fun bC i wr=>∃ k:Nat,k≤hs.length∧i=.int .i64 k∧bC=.int .i64 (Qs (hs.take k):Nat)∧Kv wr w.heap.size (Ys (hs.take k) vs++List.replicate (hs.length-k) Jf) []∧Below w.heap.size w wr) (fun _ i _=>hs.length-(intOf i).toNat)
 case atStart=>exact⟨0,by omega,rfl,rfl,by simpa [Ys] using bA,(Oa5 _ _).alloc (Oa2 _) _⟩
 case round=>
  obtain⟨k,bJ,rfl,rfl,E,A⟩:=hrel
  by_cases D:k<hs.length
  ·obtain⟨b1,bP,bc,bH,bi⟩:=(bl.below A).at (i:=k) (by simpa using D)
   simp only[Oc9,Oh2]at bc
   obtain⟨rfl,rfl,_⟩:=bc
   rw[Od9,Od0]at bi
   unfold uv at bi
   have H:hs.take (k+1)=hs.take k++[hs[k]]:=Oc4 D
   have bf:=Ja9 hs (k+1)
   have bM:=br _ (Ob3 D)
   have X:=Jeq (hs.take k) hs[k]
   have R:=Jxq (hs.take k) hs[k] vs
   rw[←H]at X R
   have K:=Jez (hs.take k) vs
   have ba:(hs.take k).length=k:=by simp;omega
   rw[ba]at K
   have U:(Ys (hs.take k) vs++List.replicate (hs.length-k) Jf).length=hs.length:=by rw[Oa8,K,Od6];omega
   have y:Hid _:=X
   have bb:Hid _:=R
   clear X R H
   generalize hs[k]=q at *
   by_cases Z:q=1
   ·subst Z
    have bh:Qs (hs.take k)<vs.length:=by have:=y.out;simp at this;omega
    have bj:Hid (vs.getD (Qs (hs.take k)) Jf=vs[Qs (hs.take k)]):=by show _=_;simp[bh]
    have O:Hid (Qs (hs.take (k+1))=Qs (hs.take k)+1):=by show _=_;rw[y.out];rfl
    obtain⟨b2,bQ,rfl,bI,bS,bT,bU⟩:=(bB.below A).at bh
    obtain⟨bR,⟨c0,bD⟩,⟨c1,bE⟩,⟨c2,bG⟩,M⟩:=E.put vs[Qs (hs.take k)] k (by rw[U];exact D)
    rw[Jna _ k hs.length _ K D]at M
    have H:Ys (hs.take k) vs++[vs[Qs (hs.take k)]]=Ys (hs.take (k+1)) vs:=by
     rw[bb.out,if_pos rfl,bj.out]
    rw[H]at M
    have bk:Hid _:=M
    have bK:(0:Int)≤(Qs (hs.take k):Nat)∧((Qs (hs.take k):Nat):Int)<(vs.length:Int):=by omega
    clear M H U K ba bf y
    generalize Qs (hs.take k)=p at *
    go_wp2
    go_roundw
    case rel=>
     refine⟨k+1,by omega,by go_num,?_,bk.out,((A.setCell (p:=⟨w.heap.size,k*3,none⟩) (Oa2 _) _).setCell (p:=⟨w.heap.size,k*3+1,none⟩) (Oa2 _) _).setCell (p:=⟨w.heap.size,k*3+2,none⟩) (Oa2 _) _⟩
     rw[O.out];go_num
    case measure=>simp[intOf];omega
   have bL:((q:Int)==1)=false:=by rw[beq_eq_false_iff_ne];omega
   have O:Hid (Qs (hs.take (k+1))=Qs (hs.take k)):=by show _=_;rw[y.out,if_neg Z];rfl
   have bz:Kv wr w.heap.size (Ys (hs.take (k+1)) vs++List.replicate (hs.length-(k+1)) Jf) []:=by
    have e:hs.length-k=hs.length-(k+1)+1:=by omega
    rw[bb.out,if_neg Z,Od8]
    rw[e,List.replicate_succ]at E
    exact E
   clear U K ba bf y
   go_wp2
   go_roundw
   case rel=>
    refine⟨k+1,by omega,by go_num,?_,bz,A⟩
    rw[O.out]
   case measure=>simp[intOf];omega
  have bu:k=hs.length:=by omega
  subst bu
  go_wp2
  go_ret
  rw[Oe1,List.replicate_zero,Od7,Of2]at E
  refine⟨⟨_,rfl,w.heap.size,?_,Oa2 _,E⟩,A⟩
  rw[Jez]
  rfl
end Go.Proofs.YtdlgbphkaicfaaaGreatDoor
