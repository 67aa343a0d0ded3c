/- A table's segments: for each group of rows, for each column. -/
import Derived.Test.YtjjdldddcegjiaaGreatDoorIv
import Derived.Test.YtjjdldddcegjiaaGreatDoorTf
import Derived.RangeFuncBox
import Derived.Maps.OwnIn
import Derived.Maps.AppendAt
set_option maxHeartbeats 1000000
set_option maxRecDepth 100000
namespace Go.Proofs.YtjjdldddcegjiaaGreatDoor
open Go.RowKit Go.Shelf Tryz
attribute [local go_sem] Oc0
theorem Kiz {W y:World}(h:Below W.heap.size W y):KeepsOthers W y:=⟨h.size,fun k _ z _=>(h.block k (Oe2.1 z).1).trans z⟩
theorem Kke (a:Option Addr)(len cap g:Nat)(y:1≤g)(w:World) :
  Calls prog 74 #[.slice a len cap,.int .i64 (g:Int)] w fun e w'=>e=.returned (.func (.func 99) #[] #[.pointer (some ⟨w.heap.size,0,none⟩),.pointer (some ⟨w.heap.size+1,0,none⟩)])∧w'=(w.alloc (.cells #[.slice a len cap] 23)).alloc (.cells #[.int .i64 (g:Int)] 3):=by
 have z:∀ (fn:Fn) (first cap:Array Value) (w:World),(Instr.makeFunc fn first cap).run prog w=.ok (.func fn first cap) w:=fun _ _ _ _=>rfl
 go_enter func74,ntmps74
 go_wp2
 go_ret
 exact⟨rfl,rfl⟩
theorem Kj8 (n:Nat)(l y z:Nat)(a:Option Addr)(cap:Nat)(J:World→Prop)(W:World)(C:W.cell? ⟨y,0,none⟩=some (.slice a 0 cap))(h0:J W) :
  CallsIn Fence.wide n prog 99 #[.func (.yield l) #[] #[],.pointer (some ⟨y,0,none⟩),.pointer (some ⟨z,0,none⟩)] W fun e A=>(∃ v,e=.returned v)∧J A:=by
 refine callsIn_of_wp func99 rfl trivial ?_ rfl
 simp only[ntmps99,Om3,List.length_cons,List.length_nil,Nat.reduceAdd,Nat.reduceSub,Ok9,Array.replicate_zero,Om4,Ol2,List.nil_append,List.cons_append]
 gi_wp2
 gi_loopw [4] (fun i wr=>i=.int .i64 0∧J wr∧wr.cell? ⟨y,0,none⟩=some (.slice a 0 cap)) (fun _ _=>0)
 case atStart=>exact⟨rfl,h0,C⟩
 case round=>
  obtain⟨rfl,D,E⟩:=hrel
  gi_wp2
  go_end0
  exact⟨⟨_,rfl⟩,D⟩
def ckV (a:Option Addr)(x:Nat×Nat):Value:=match a with
 |some p=>.slice (some ⟨p.block,p.off+x.1,none⟩) x.2 x.2
 |none=>.slice none 0 0
theorem Kjw (n:Nat)(hn:1≤n)(z y:Nat)(a:Option Addr)(len cap g:Nat)(Z:1≤g)(bc:g≤64)(bj:len≤1000)(U:len≤cap)(bl:len=0∨∃ b o,a=some ⟨b,o,none⟩)(w:World)(bi:z<w.heap.size)(bh:y<w.heap.size)
  (K:w.cell? ⟨z,0,none⟩=some (.slice a len cap)) (E:w.cell? ⟨y,0,none⟩=some (.int .i64 (g:Int))) :
  SeqStopsK Fence.wide n prog 99 #[.pointer (some ⟨z,0,none⟩),.pointer (some ⟨y,0,none⟩)] (fun x:Ck len=>#[ckV a x.1]) (KpC z y) (fun br=>br.map Subtype.val=cks len g (ckN len g)) (fun bn=>∃ k,k≤ckN len g∧bn.map Subtype.val=cks len g k) (ckN len g) w:=fun l J D W hW M _ R h0=>by
 have C:=(hW.cell (p:=⟨z,0,none⟩) bi).trans K
 have H:=(hW.cell (p:=⟨y,0,none⟩) bh).trans E
 have O:∀ s W,J s W→J s W.drew:=fun s A h=>M s A A.drew none h ⟨rfl,rfl,rfl,Oa2 _,fun _ _ _=>rfl⟩ (fun r e=>by cases e)
 rcases bl with h|⟨b,o,rfl⟩
 ·subst h
  refine(Kj8 n l z y a cap (J []) W C h0).mono fun e A ⟨X,bf⟩=>⟨X,.inl ⟨[],?_,bf⟩⟩
  have:ckN 0 g=0:=by unfold ckN;exact Op6 (by omega)
  rw[this];rfl
 exact Kkd n hn l z y b o len cap g Z bc bj U J D R O W C H h0
def Uo (rows:List (List V))(y hs:List Int)(c:Nat):List UInt8×Int:=Jev (y.getD c 0) (hs.getD c 0) (Jaj rows c)
def Jeo (rows:List (List V))(y hs:List Int):Nat→List (List UInt8)⊕Nat
 |0=>.inl []
 |k+1=>match Jeo rows y hs k with
  |.inr c=>.inr c
  |.inl l=>if (Uo rows y hs k).2=0 then .inl (l++[(Uo rows y hs k).1])else .inr k
theorem Jjc (rows:List (List V))(y hs:List Int):∀ (k:Nat) (l:List (List UInt8)),Jeo rows y hs k=.inl l→l.length=k
 |0,l,h=>by simp[Jeo]at h;subst h;rfl
 |k+1,l,h=>by
  simp only[Jeo]at h
  split at h
  ·simp at h
  rename_i A z
  split at h
  ·simp at h
   subst h
   simp[Jjc rows y hs k A z]
  simp at h
theorem Kkc (rows:List (List V))(y hs:List Int)(c:Nat):∀ (k m:Nat),Jeo rows y hs k=.inr c→k≤m→Jeo rows y hs m=.inr c:=by
 intro k m h A
 induction m with
 |zero=>
      have:k=0:=by omega
      subst this;exact h
 |succ m z=>
  by_cases e:k=m+1
  ·subst e;exact h
  simp only[Jeo,z (by omega)]
def Uk (rs:List (List V))(x:Nat×Nat):List (List V):=(rs.drop x.1).take x.2
def Jiu (rs:List (List V))(y hs:List Int)(z:List (List UInt8)⊕Nat)(x:Nat×Nat):List (List UInt8)⊕Nat:=
 match z with
 |.inr c=>.inr c
 |.inl T=>match Jeo (Uk rs x) y hs y.length with
  |.inl l=>.inl (T++l)
  |.inr c=>.inr c
def Jfg (rs:List (List V))(y hs:List Int)(xs:List (Nat×Nat)):List (List UInt8)⊕Nat:=xs.foldl (Jiu rs y hs) (.inl [])
theorem Juv (rs:List (List V))(y hs:List Int)(xs:List (Nat×Nat))(x:Nat×Nat):Jfg rs y hs (xs++[x])=Jiu rs y hs (Jfg rs y hs xs) x:=by simp[Jfg]
theorem Kkl (rs:List (List V))(z hs:List Int)(xs y:List (Nat×Nat))(c:Nat)(h:Jfg rs z hs xs=.inr c):Jfg rs z hs (xs++y)=.inr c:=by
 have C:∀ y:List (Nat×Nat),y.foldl (Jiu rs z hs) (.inr c)=.inr c:=by
  intro y
  induction y with
  |nil=>rfl
  |cons D y A=>exact A
 unfold Jfg at h ⊢
 rw[Ol1,h,C]
theorem Jvd (len g k m:Nat)(h:k≤m):∃ y,cks len g m=cks len g k++y:=by
 obtain⟨d,rfl⟩:=Nat.exists_eq_add_of_le h
 exact⟨(List.range d).map (fun i=>Jaa len g (k+i)),by simp[cks,List.range_add]⟩
theorem Zd.piece {w:World}{a:Option Addr}{hs:List (Option Addr×Nat)}{rs:List (List V)}(h:Zd w a hs rs)(x:Ck rs.length):∃ D M,ckV a x.1=.slice D (Uk rs x.1).length x.1.2∧Zd w D M (Uk rs x.1):=by
 obtain⟨⟨o,m⟩,O,R,U⟩:=x
 simp only at O R U
 have K:(Uk rs (o,m)).length=m:=by unfold Uk;simp;omega
 rcases h.cells with C|⟨b,ob,rfl,H,C⟩
 ·have:=congrArg List.length C
  simp[h.len]at this
  have:=Od3.2 this
  omega
 refine⟨some ⟨b,ob+o,none⟩,(hs.drop o).take m,by simp[ckV,K],⟨by simp[Uk,h.len],.inr ⟨b,ob+o,rfl,H,fun i v z=>?_⟩,fun i X r E A=>?_⟩⟩
 ·have hi:i<m:=by
   rcases Oc1 i m with y|y
   ·exact y
   ·rw[Ob4 (by simp[Uk];omega)]at z;simp at z
  rw[On5]
  refine C (o+i) v ?_
  rw[Ok5]at z ⊢
  simp only[Uk,Oh3 hi,Oh9]at z
  exact z
 have hi:i<m:=by
  rcases Oc1 i m with y|y
  ·exact y
  ·rw[Ob4 (by simp[Uk];omega)]at A;simp at A
 simp only[Uk,Oh3 hi,Oh9]at E A
 exact h.rows (o+i) X r E A
end Go.Proofs.YtjjdldddcegjiaaGreatDoor
