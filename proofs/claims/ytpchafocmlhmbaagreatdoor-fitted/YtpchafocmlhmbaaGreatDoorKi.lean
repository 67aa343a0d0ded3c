/- The reader's lists of values: so many one Kiw the other, and numbers that lie so far above the least. -/
import Derived.Test.YtpchafocmlhmbaaGreatDoorKh
import Derived.Test.YtpchafocmlhmbaaGreatDoorIl
set_option maxHeartbeats 1000000
set_option maxRecDepth 100000
namespace Go.Proofs.YtpchafocmlhmbaaGreatDoor
section
open Go.RowKit Tryz
def Jf:V:=⟨0,0,⟨#[]⟩⟩
theorem Jt9 (n:Nat):(madeCells #[.int .i64 0,.int .i64 0,.string ⟨#[]⟩] (n*3)).toList=(List.replicate n Jf).flatMap V.cells:=by
 have H:∀ n,(List.range (n*3)).map (fun j=>(#[Value.int .i64 0,.int .i64 0,.string ⟨#[]⟩]:Array Value)[j % 3]!)=(List.replicate n Jf).flatMap V.cells:=by
  intro n;induction n with
  |zero=>rfl
  |succ n E=>
   have e:(n+1)*3=n*3+1+1+1:=(by omega);rw[e,Oj7,Oj7,Oj7,List.replicate_succ',Oe8,Ob8,Ob8,Ob8,E];have h0:(n*3) % 3=0:=(by omega);have y:(n*3+1) % 3=1:=(by omega);have D:(n*3+1+1) % 3=2:=(by omega);simp[h0,y,D,V.cells,Jf]
 have:=H n;unfold madeCells;rw[Array.toList_map,Array.toList_range];exact this
theorem Jl9 (n:Nat)(hn:n≤1000)(W:World):∃ C,(Instr.makeSlice 40 (.int .i64 (n:Int)) (.int .i64 (n:Int))).run prog W=.ok (.slice (some ⟨W.heap.size,0,none⟩) n n) (W.alloc (.cells C 39))∧Kv (W.alloc (.cells C 39)) W.heap.size (List.replicate n Jf) []:=by
 obtain⟨i,hi,E,D,y⟩:=info_parts Jow;have hr:=run_make (P:=prog) W 40 39 i _ (by kernel_rfl) hi E .i64 .i64 (n:Int) (n:Int) (by omega) (Int.le_refl _) (by rw[y];omega) (by omega);rw[Int.toNat_natCast,D]at hr;exact⟨_,hr,_,(Oh1 W _).1,by rw[Od7];exact Jt9 n⟩
def Yl (t:Int):Nat→List UInt8→Option (List V×List UInt8)
 |0,bs=>some ([],bs)
 |m+1,bs=>match Yl t m bs with
  |none=>none
  |some (vs,r)=>(Qz t r).map fun x=>(vs++[x.1],x.2)
theorem Jeb (t:Int):∀ (m:Nat) (bs rest:List UInt8) (vs:List V),Yl t m bs=some (vs,rest)→vs.length=m:=by
 intro m;induction m with
 |zero=>intro bs rest vs h;simp[Yl]at h;simp[h.1.symm]
 |succ m y=>
  intro bs rest vs h;unfold Yl at h;cases hm:Yl t m bs with
  |none=>rw[hm]at h;simp at h
  |some x=>
   obtain⟨D,r⟩:=x;rw[hm]at h;obtain⟨x,_,e⟩:=Oe9.1 h;simp only[Oj3]at e;rw[←e.1,Oa8,y bs r D hm];rfl
theorem Jry (t:Int)(bs:List UInt8)(k:Nat)(h:Yl t k bs=none):∀ m,k≤m→Yl t m bs=none:=by
 intro m D;induction m with
 |zero=>
      have:k=0:=(by omega);subst this;exact h
 |succ m y=>
  by_cases e:k=m+1
  ·subst e;exact h
  unfold Yl;rw[y (by omega)]
theorem Jjw (t:Int)(bs r:List UInt8)(k:Nat)(vs:List V)(h:Yl t k bs=some (vs,r)):Yl t (k+1) bs=(Qz t r).map fun x=>(vs++[x.1],x.2):=by
 rw[Yl,h]
def Jc9 (w w':World)(vs:List V)(v:Value):Prop:=∃ b,v=.slice (some ⟨b,0,none⟩) vs.length vs.length∧w.heap.size≤b∧Kv w' b vs []
theorem Jna (y:List V)(k m:Nat)(v:V)(E:y.length=k)(H:k<m):(y++List.replicate (m-k) Jf).set k v=(y++[v])++List.replicate (m-(k+1)) Jf:=by
 obtain⟨d,D⟩:∃ d,m-k=d+1:=⟨m-k-1,by omega⟩;have e:m-(k+1)=d:=by omega
 rw[D,e,List.replicate_succ,Ok4 _ _ (by omega),E,Oe1];simp
theorem Kv.put {w:World}{g:Nat}{y:List V}(h:Kv w g y [])(v:V)(k:Nat)(K:k<y.length):∃ u:V,
  (w.cell? ⟨g,k*3,none⟩=some (.int .i64 u.k)∧w.frozen? ⟨g,k*3,none⟩=false)∧(w.cell? ⟨g,k*3+1,none⟩=some (.int .i64 u.n)∧w.frozen? ⟨g,k*3+1,none⟩=false)∧(w.cell? ⟨g,k*3+2,none⟩=some (.string u.s)∧w.frozen? ⟨g,k*3+2,none⟩=false) ∧
  Kv (((w.setCell ⟨g,k*3,none⟩ (.int .i64 v.k)).setCell ⟨g,k*3+1,none⟩ (.int .i64 v.n)).setCell ⟨g,k*3+2,none⟩ (.string v.s)) g (y.set k v) []:=by
 obtain⟨⟨h0,D,E⟩,H⟩:=h.at3 v k K;exact⟨_,h0,D,E,H⟩
theorem Jom (g:Nat)(t:Int)(bs:List UInt8)(D:Addr)(m:Nat)(w:World)(h:RAt w g t bs D)(bz:t=1∨t=2∨t=3)(bH:m≤255) :
  Calls prog 281 #[.pointer (some ⟨g,0,none⟩),.int .i64 m] w (Qg w g t D (Yl t m bs) fun vs v w'=>Jc9 w w' vs v):=by
 obtain⟨C,bn,br⟩:=Jl9 m (by omega) w;have bE:=h.lt;have bD:=h.far;go_enter func281,ntmps281
 go_wp2_with fail
 clear bn;go_loopw [11] (fun i wr=>∃ (k:Nat) (y:List V) (r:List UInt8),k≤m∧i=.int .i64 k∧Yl t k bs=some (y,r)∧Kv wr w.heap.size (y++List.replicate (m-k) Jf) []∧RAt wr g t r D∧Jt w wr g) (fun i _=>m-(intOf i).toNat)
 case atStart=>exact⟨0,[],bs,by omega,rfl,rfl,by simpa using br,h.alloc _,(Jt.refl w g).alloc _⟩
 case round=>
  obtain⟨k,y,r,bG,rfl,X,E,Y,R⟩:=hrel;have K:Hid (Yl t k bs=some (y,r)):=X;have H:Hid (y.length=k):=Jeb t k bs r y X;clear X;by_cases ba:k<m
  ·have bc:=Jn7 g t r D wr Y bz;go_wp2_with fail
   refine bc.mono ?_;rintro e w1 ⟨O,⟨hr,rfl⟩|⟨x,rest,v,hr,rfl,rfl,bi⟩⟩
   ·go_wp2_with fail
    refine⟨rfl,Qg.up (R.trans O) (Jry t bs (k+1) ?_ m (by omega))⟩;rw[Jjw t bs r k y K.out,hr];rfl
   clear bc;have bx:Kv w1 w.heap.size (y++List.replicate (m-k) Jf) []:=E.of_block (O.block _ E.lt (by omega));have Z:(y++List.replicate (m-k) Jf).length=m:=by rw[Oa8,H.out,Od6];omega
   obtain⟨bI,⟨c0,bA⟩,⟨c1,bB⟩,⟨c2,bC⟩,U⟩:=bx.put x k (by rw[Z];exact ba);rw[Jna y k m x H.out ba]at U;have bh:Hid _:=U;have bf:Hid (Yl t (k+1) bs=some (y++[x],rest)):=by
    show _=_;rw[Jjw t bs r k y K.out,hr];rfl
   clear U Z hr;go_wp2;go_roundw
   case rel=>
    refine⟨k+1,y++[x],rest,by omega,by go_num,bf.out,bh.out,?_,?_⟩
    ·exact((bi.setOther (by omega) (by omega) _ _).setOther (by omega) (by omega) _ _).setOther (by omega) (by omega) _ _
    exact(((R.trans O).setNew (Oa2 _) _ _).setNew (Oa2 _) _ _).setNew (Oa2 _) _ _
   case measure=>simp[intOf];omega
  have bj:k=m:=by omega
  subst bj;go_wp2;go_ret
  rw[Oe1,List.replicate_zero,Od7]at E;refine Qg.ok R K.out ⟨w.heap.size,?_,Oa2 _,E⟩ Y;rw[H.out];rfl
end
section
open Go.RowKit Tryz
def Jbq (t least:Int)(d:Nat):V:=⟨t,wrap64 (IntKind.u64.wrap (IntKind.u64.wrap least+(d:Int))),⟨#[]⟩⟩
def Jof (w w':World)(vs:List V)(v:Value):Prop:=∃ a cap,v=.slice a vs.length cap∧Jv w' a vs∧∀ b o,a=some ⟨b,o,none⟩→w.heap.size≤b
theorem Jc9.toR {w w':World}{vs:List V}{v:Value}(h:Jc9 w w' vs v):Jof w w' vs v:=by
 obtain⟨b,rfl,D,hr⟩:=h;refine⟨_,_,rfl,hr.vals,fun y o e=>?_⟩;simp at e;omega
def Ux (t:Int)(m:Nat)(bs:List UInt8):Option (List V×List UInt8):=
 if t=2 then (Yj 1 m bs).map fun x=>(x.1.map (Jbq t 0),x.2)
 else if m=0 then some ([],bs)
 else match Jc7 bs with
  |none=>none
  |some (least,r)=>match Ur r with
   |none=>none
   |some (y,D)=>if y≤64 then (Yj y m D).map fun x=>(x.1.map (Jbq t least),x.2)else none
theorem Kt {y count:Nat}{bs rest:List UInt8}{ns:List Nat}(h:Yj y count bs=some (ns,rest)):ns.length=count:=by
 unfold Yj at h;split at h
 ·simp at h
 simp at h;rw[←h.1];simp
end
section
open Go.RowKit Tryz
def Jdd (t:Int)(m:Nat)(bs:List UInt8):Option (List V×List UInt8):=
 match Ur bs with
 |none=>none
 |some (n,r)=>match Yl t n r with
  |none=>none
  |some (ws,y)=>match Yj 4 m y with
   |none=>none
   |some (ks,D)=>if ∀ k∈ks,k<ws.length then some (ks.map fun k=>ws.getD k Jf,D)else none
theorem Jgi {y count:Nat}{bs rest:List UInt8}{ns:List Nat}(h:Yj y count bs=some (ns,rest)):∀ n∈ns,n<2 ^ y:=by
 unfold Yj at h;split at h
 ·simp at h
 simp at h;intro n hn;rw[←h.1]at hn;obtain⟨i,_,rfl⟩:=Of0.1 hn;exact Jok _ _ _
theorem Jb7 {w w':World}{g:Nat}{b:Nat}{xs:List Value}(h:Uh w (some ⟨b,0,none⟩) xs)(y:Jt w w' g)(hn:b≠g):Uh w' (some ⟨b,0,none⟩) xs:=
 h.of_block y.size fun D o e E=>by
  simp at e;exact y.block D E (by rw[←e.1];exact hn)
def Ys:List Nat→List V→List V
 |[],_=>[]
 |h::hs,vs=>if h=1 then (vs.headD Jf)::Ys hs vs.tail else Jf::Ys hs vs
def Qs:List Nat→Nat
 |[]=>0
 |h::hs=>(if h=1 then 1 else 0)+Qs hs
theorem Jeq (l:List Nat)(h:Nat):Qs (l++[h])=Qs l+(if h=1 then 1 else 0):=by
 induction l with
 |nil=>simp[Qs]
 |cons x l y=>simp only[List.cons_append,Qs,y];omega
theorem Ja9 (l:List Nat)(k:Nat):Qs (l.take k)≤Qs l:=by
 induction l generalizing k with
 |nil=>simp[Qs]
 |cons x l y=>
  cases k with
  |zero=>simp[Qs]
  |succ k=>simp only[List.take_succ_cons,Qs];have:=y k;omega
theorem Jez (hs:List Nat):∀ vs,(Ys hs vs).length=hs.length:=by
 induction hs with
 |nil=>intro vs;rfl
 |cons h hs y=>intro vs;simp only[Ys];split<;>simp[y]
theorem Jxq (l:List Nat)(h:Nat):∀ vs:List V,Ys (l++[h]) vs=Ys l vs++[if h=1 then vs.getD (Qs l) Jf else Jf]:=by
 induction l with
 |nil=>intro vs;simp only[List.nil_append,Ys,Qs];cases vs<;>split<;>simp
 |cons x l D=>
  intro vs;simp only[List.cons_append,Ys,Qs,D];by_cases y:x=1
  ·simp only[y,if_true];cases vs with
   |nil=>simp
   |cons v vs=>simp[Nat.add_comm 1]
  simp[y]
theorem Jgo (b:Nat)(hs:List Nat)(a:Option Addr)(cap bA:Nat)(vs:List V)(w:World)(hn:hs.length≤64)(bB:∀ h∈hs,h<2)(bS:Qs hs≤vs.length)(bT:vs.length≤64)(bz:Uh w (some ⟨b,0,none⟩) (hs.map uv))(bH:Jv w a vs) :
  Calls prog 250 #[.slice (some ⟨b,0,none⟩) hs.length bA,.slice a vs.length cap] w fun e w'=>(∃ v,e=.returned v∧Jc9 w w' (Ys hs vs) v)∧Below w.heap.size w w':=by
 obtain⟨C,bD,bG⟩:=Jl9 hs.length (by omega) w;go_enter func250,ntmps250
 go_wp2_with fail
 clear bD;go_loopw [6,14] (fun bI i wr=>∃ k:Nat,k≤hs.length∧i=.int .i64 k∧bI=.int .i64 (Qs (hs.take k):Nat)∧Kv wr w.heap.size (Ys (hs.take k) vs++List.replicate (hs.length-k) Jf) []∧Below w.heap.size w wr) (fun _ i _=>hs.length-(intOf i).toNat)
 case atStart=>exact⟨0,by omega,rfl,rfl,by simpa [Ys] using bG,(Oa5 _ _).alloc (Oa2 _) _⟩
 case round=>
  obtain⟨k,bO,rfl,rfl,H,D⟩:=hrel;by_cases E:k<hs.length
  ·obtain⟨b1,bU,bh,bM,bn⟩:=(bz.below D).at (i:=k) (by simpa using E);simp only[Oc9,Oh2]at bh;obtain⟨rfl,rfl,_⟩:=bh;rw[Od9,Od0]at bn;unfold uv at bn;have K:hs.take (k+1)=hs.take k++[hs[k]]:=Oc4 E;have bi:=Ja9 hs (k+1);have bR:=bB _ (Ob3 E);have Z:=Jeq (hs.take k) hs[k];have X:=Jxq (hs.take k) hs[k] vs;rw[←K]at Z X;have O:=Jez (hs.take k) vs;have bc:(hs.take k).length=k:=by simp;omega
   rw[bc]at O;have Y:(Ys (hs.take k) vs++List.replicate (hs.length-k) Jf).length=hs.length:=by rw[Oa8,O,Od6];omega
   have y:Hid _:=Z;have bf:Hid _:=X;clear Z X K;generalize hs[k]=q at *;by_cases ba:q=1
   ·subst ba;have bj:Qs (hs.take k)<vs.length:=by have:=y.out;simp at this;omega
    have br:Hid (vs.getD (Qs (hs.take k)) Jf=vs[Qs (hs.take k)]):=by show _=_;simp[bj]
    have U:Hid (Qs (hs.take (k+1))=Qs (hs.take k)+1):=by show _=_;rw[y.out];rfl
    obtain⟨b2,bV,rfl,bN,bX,bY,bZ⟩:=(bH.below D).at bj;obtain⟨bW,⟨c0,bJ⟩,⟨c1,bK⟩,⟨c2,bL⟩,R⟩:=H.put vs[Qs (hs.take k)] k (by rw[Y];exact E);rw[Jna _ k hs.length _ O E]at R;have K:Ys (hs.take k) vs++[vs[Qs (hs.take k)]]=Ys (hs.take (k+1)) vs:=by
     rw[bf.out,if_pos rfl,br.out]
    rw[K]at R;have bx:Hid _:=R;have bP:(0:Int)≤(Qs (hs.take k):Nat)∧((Qs (hs.take k):Nat):Int)<(vs.length:Int):=(by omega);clear R K Y O bc bi y;generalize Qs (hs.take k)=p at *;go_wp2;go_roundw
    case rel=>
     refine⟨k+1,by omega,by go_num,?_,bx.out,((D.setCell (p:=⟨w.heap.size,k*3,none⟩) (Oa2 _) _).setCell (p:=⟨w.heap.size,k*3+1,none⟩) (Oa2 _) _).setCell (p:=⟨w.heap.size,k*3+2,none⟩) (Oa2 _) _⟩;rw[U.out];go_num
    case measure=>simp[intOf];omega
   have bQ:((q:Int)==1)=false:=by rw[beq_eq_false_iff_ne];omega
   have U:Hid (Qs (hs.take (k+1))=Qs (hs.take k)):=by show _=_;rw[y.out,if_neg ba];rfl
   have bE:Kv wr w.heap.size (Ys (hs.take (k+1)) vs++List.replicate (hs.length-(k+1)) Jf) []:=by
    have e:hs.length-k=hs.length-(k+1)+1:=(by omega);rw[bf.out,if_neg ba,Od8];rw[e,List.replicate_succ]at H;exact H
   clear Y O bc bi y;go_wp2;go_roundw
   case rel=>
    refine⟨k+1,by omega,by go_num,?_,bE,D⟩;rw[U.out]
   case measure=>simp[intOf];omega
  have bC:k=hs.length:=by omega
  subst bC;go_wp2;go_ret
  rw[Oe1,List.replicate_zero,Od7,Of2]at H;refine⟨⟨_,rfl,w.heap.size,?_,Oa2 _,H⟩,D⟩;rw[Jez];rfl
end
end Go.Proofs.YtpchafocmlhmbaaGreatDoor
