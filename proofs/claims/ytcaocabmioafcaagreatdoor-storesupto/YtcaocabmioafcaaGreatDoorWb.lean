/- The law's small functions: numbers compared; copies of rows of records. -/
import Derived.Test.YtcaocabmioafcaaGreatDoorQz
set_option maxHeartbeats 1000000
set_option maxRecDepth 100000
namespace Go.Proofs.YtcaocabmioafcaaGreatDoor
open Go.RowKit Go.Shelf Tryz
attribute [local go_sem] Oc0
theorem Kwc (a b:Option Addr)(bA bB:Nat)(l r:List Int)(w:World)(U:Kc w a l)(Y:Kc w b r)(br:l.length≤1000000000000000) :
  Calls prog 55 #[.slice a l.length bA,.slice b r.length bB] w fun e w'=>e=.returned (.bool (decide (l=r)))∧Below w.heap.size w w':=by
 by_cases L:l.length=r.length
 rotate_left
 ·have k1:¬ ((l.length:Int)=(r.length:Int)):=by omega
  rw[decide_eq_false fun e=>L (by rw[e])]
  clear U Y br L
  go_enter func55,ntmps55
  go_wp2
  go_ret
  exact⟨rfl,Oa5 _ _⟩
 have bh:Hid (l.length=r.length):=L
 obtain⟨n,X⟩:∃ n,n=l.length:=⟨_,rfl⟩
 rw[←L,←X]
 have M:Hid (n=l.length):=X
 have bf:Hid (∀ I,Below w.heap.size w I→Kc I a l∧Kc I b r):=fun I bk=>⟨U.below bk,Y.below bk⟩
 have bE:n≤1000000000000000:=by omega
 obtain⟨H,K⟩:∃ H,H=decide (l=r):=⟨_,rfl⟩
 rw[←K]
 have bi:Hid (H=decide (l=r)):=K
 clear U Y L X br K
 go_enter func55,ntmps55
 go_upto_region 4 with fail
 go_loopw [5] (fun i wr=>∃ j:Nat,j≤n∧i=.int .i64 (j:Int)∧Below w.heap.size w wr∧l.take j=r.take j) (fun i _=>n-(intOf i).toNat)
 case atStart=>exact⟨0,Ob7 _,rfl,Oa5 _ _,rfl⟩
 case round=>
  obtain⟨j,bD,rfl,N,bu⟩:=hrel
  have J:Hid (Below w.heap.size w wr∧l.take j=r.take j):=⟨N,bu⟩
  clear bu
  by_cases bC:j<n
  ·have bl:j<l.length:=by have:=M.out;omega
   have bn:j<r.length:=by have:=M.out;have:=bh.out;omega
   obtain⟨b1,o1,rfl,_,ba⟩:=(bf.out wr N).1.at bl
   obtain⟨b2,o2,rfl,_,bb⟩:=(bf.out wr N).2.at bn
   have bc:Hid (∀ (x y:Int),l[j]?=some x→r[j]?=some y→(H=true→x=y)∧(x=y→l.take (j+1)=r.take (j+1))):=fun x y Z bz=>⟨fun h=>by
    have:l=r:=by have:=bi.out;rw[h]at this;exact of_decide_eq_true this.symm
    rw[this,bz]at Z
    cases Z
    rfl,fun h=>by
    rw[Oi7,Oi7,J.out.2,Z,bz,h]⟩
   have O:=bc.out l[j] r[j] (Oa3 bl) (Oa3 bn)
   generalize l[j]=x at ba O
   generalize r[j]=y at bb O
   have bj:Hid ((H=true→x=y)∧(x=y→l.take (j+1)=r.take (j+1))):=O
   have bG:(0:Int)≤(j:Int):=by omega
   have bH:(j:Int)<(n:Int):=by omega
   have R:Hid (j<n):=bC
   clear O bc N
   go_upto_region 6 with fail
   refine wp_region_held_drew (S:=fun I=>I.cell? ⟨b1,o1+j,none⟩=some (.int .i64 x)∧I.cell? ⟨b2,o2+j,none⟩=some (.int .i64 y)) (by kernel_rfl) ⟨Jh ba,Jh bb⟩ (fun A=>?_)
   refine Kn 0 rfl A ?_
   refine Kn 1 rfl A ?_
   refine Kn 2 rfl A ?_
   refine Kn 3 rfl A ?_
   refine Kn 4 rfl A ?_
   refine Kn 5 rfl A ?_
   refine Kn 6 rfl A ?_
   refine Kn 7 rfl A ?_
   refine Kn 8 rfl A ?_
   refine tkn ?_
   refine wpAnyH_done (by kernel_rfl) ?_ _
   clear ba bb
   by_cases bx:x=y
   ·subst bx
    go_wp2
    go_roundw
    case rel=>exact⟨j+1,R.out,by have:=R.out;go_num,Kt6 J.out.1,bj.out.2 rfl⟩
    case measure=>have:=R.out;simp[intOf];omega
   obtain rfl:H=false:=by
    cases K:H with
    |false=>rfl
    |true=>exact absurd (bj.out.1 K) bx
   go_wp2
   go_ret
   exact⟨rfl,Kt6 J.out.1⟩
  obtain rfl:H=true:=by
   rw[bi.out]
   refine decide_eq_true ?_
   have h:=J.out.2
   rwa [Oc8 (by have:=M.out;omega),Oc8 (by have:=M.out;have:=bh.out;omega)]at h
  have bI:¬ ((j:Int)<(n:Int)):=by omega
  go_wp2
  go_ret
  exact⟨rfl,J.out.1⟩
theorem Kyv (w:World)(T e:TypeId)(z:Nat)(Y:prog.underlying T=some (.slice e))(H:(prog.info? e).map (fun i=>i.size)=some z)(g I L b o n cap:Nat)(cs:List Value)(N:cs.length=n*z)(X:∀ j u,cs[j]?=some u→w.cell? ((⟨b,o,none⟩:Addr).add j)=some u)(M:∀ u∈cs,u.oneCell'=true)(A:Array Value)(R:w.heap[g]?=some (.cells A e (0,0)))(O:n≤I)(Z:cs.length≤A.size) :
  (Builtin.copy_ #[T,T] 3 #[.slice (some ⟨g,0,none⟩) I L,.slice (some ⟨b,o,none⟩) n cap]).run prog w=.ok (goInt n) (w.setRow g (cs++A.toList.drop cs.length).toArray):=by
 have U:Nat.min n I=n:=Oj1 O
 have J:=run_loadCells_list (P:=prog) w ⟨b,o,none⟩ cs X
 have K:=run_storeCells_at prog g 0 e cs 0 A w R (by omega) M
 simp only[Od0,List.take_zero,List.nil_append]at K
 rw[N]at J
 cases hq:prog.info? e with
 |none=>rw[hq]at H;cases H
 |some i=>
  rw[hq]at H
  have hi:i.size=z:=by simpa using H
  simp[Builtin.copy_,run_underlying Y,Builtin.lenOf,Builtin.firstCells,sizeOf,typeInfo,hq,hi,U,J,K]
attribute [local go_sem] Oc0
theorem Qab (q f:Int)(w:World) :
  Calls prog 11 #[.agg #[.int .i64 q,.int .i64 f]] w fun e w'=>Below w.heap.size w w'∧∃ st,e=.returned (.pointer (some ⟨st,0,none⟩))∧w.heap.size≤st∧w'.heap[st]?=some (.cells #[.int .i64 q,.int .i64 f,.int .i64 0,.slice none 0 0,.slice none 0 0] 83 (0,0)):=by
 go_enter func11,ntmps11
 go_wp2
 go_ret
 have A:=heap_alloc_new (w.alloc (.cells #[.int .i64 q,.int .i64 f] 23)) (.cells #[.int .i64 q,.int .i64 f,.int .i64 0,.slice none 0 0,.slice none 0 0] 83)
 rw[Oa7]at A
 exact⟨((Oa5 _ w).alloc (Oa2 _) _).alloc (by simp) _,w.heap.size+1,by simp,by omega,A⟩
def Kur:List Value:=.bool true::List.replicate 64 (.int .i64 0)
def pgs (n:Nat):List Value:=(List.replicate n Kur).flatten
theorem Qb6:(prog.info? 117).map (fun i=>(i.zero,i.size,i.bytes))=some (some (.agg (.bool false::List.replicate 64 (.int .i64 0)).toArray),65,520):=by kernel_rfl
end Go.Proofs.YtcaocabmioafcaaGreatDoor
