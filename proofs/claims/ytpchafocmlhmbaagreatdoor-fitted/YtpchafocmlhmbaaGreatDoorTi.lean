/- A table's segments: for each group of rows, for each column. -/
import Derived.Test.YtpchafocmlhmbaaGreatDoorTf
import Derived.Maps.OwnIn
set_option maxHeartbeats 1000000
set_option maxRecDepth 100000
namespace Go.Proofs.YtpchafocmlhmbaaGreatDoor
open Go.RowKit Go.Shelf Tryz
attribute [local go_sem] Oc0
theorem Kiz {W y:World}(h:Below W.heap.size W y):KeepsOthers W y:=⟨h.size,fun k _ D _=>(h.block k (Oe2.1 D).1).trans D⟩
theorem Kke (a:Option Addr)(len cap g:Nat)(y:1≤g)(w:World) :
  Calls prog 62 #[.slice a len cap,.int .i64 (g:Int)] w fun e w'=>e=.returned (.func (.func 87) #[] #[.pointer (some ⟨w.heap.size,0,none⟩),.pointer (some ⟨w.heap.size+1,0,none⟩)])∧w'=(w.alloc (.cells #[.slice a len cap] 23)).alloc (.cells #[.int .i64 (g:Int)] 3):=by
 have D:∀ (fn:Fn) (first cap:Array Value) (w:World),(Instr.makeFunc fn first cap).run prog w=.ok (.func fn first cap) w:=fun _ _ _ _=>rfl;go_enter func62,ntmps62
 go_wp2;go_ret
 exact⟨rfl,rfl⟩
theorem Kj8 (n:Nat)(l y D:Nat)(a:Option Addr)(cap:Nat)(J:World→Prop)(W:World)(H:W.cell? ⟨y,0,none⟩=some (.slice a 0 cap))(h0:J W) :
  CallsIn Fence.wide n prog 87 #[.func (.yield l) #[] #[],.pointer (some ⟨y,0,none⟩),.pointer (some ⟨D,0,none⟩)] W fun e E=>(∃ v,e=.returned v)∧J E:=by
 refine callsIn_of_wp func87 rfl trivial ?_ rfl;simp only[ntmps87,Om3,List.length_cons,List.length_nil,Nat.reduceAdd,Nat.reduceSub,Ok9,Array.replicate_zero,Om4,Ol2,List.nil_append,List.cons_append];gi_wp2
 gi_loopw [4] (fun i wr=>i=.int .i64 0∧J wr∧wr.cell? ⟨y,0,none⟩=some (.slice a 0 cap)) (fun _ _=>0)
 case atStart=>exact⟨rfl,h0,H⟩
 case round=>
  obtain⟨rfl,K,O⟩:=hrel;gi_wp2
  go_end0
  exact⟨⟨_,rfl⟩,K⟩
def ckV (a:Option Addr)(x:Nat×Nat):Value:=match a with
 |some p=>.slice (some ⟨p.block,p.off+x.1,none⟩) x.2 x.2
 |none=>.slice none 0 0
theorem Kjw (n:Nat)(hn:1≤n)(D y:Nat)(a:Option Addr)(len cap g:Nat)(bh:1≤g)(bi:g≤64)(bx:len≤1000)(bc:len≤cap)(bz:len=0∨∃ b o,a=some ⟨b,o,none⟩)(w:World)(br:D<w.heap.size)(bn:y<w.heap.size)
  (X:w.cell? ⟨D,0,none⟩=some (.slice a len cap)) (R:w.cell? ⟨y,0,none⟩=some (.int .i64 (g:Int))) :
  SeqStopsK Fence.wide n prog 87 #[.pointer (some ⟨D,0,none⟩),.pointer (some ⟨y,0,none⟩)] (fun x:Ck len=>#[ckV a x.1]) (KpC D y) (fun bB=>bB.map Subtype.val=cks len g (ckN len g)) (fun bA=>∃ k,k≤ckN len g∧bA.map Subtype.val=cks len g k) (ckN len g) w:=fun l J O W K Y _ ba h0=>by
 have H:=(K.cell (p:=⟨D,0,none⟩) br).trans X;have U:=(K.cell (p:=⟨y,0,none⟩) bn).trans R;have Z:∀ s W,J s W→J s W.drew:=fun s E h=>Y s E E.drew none h ⟨rfl,rfl,rfl,Oa2 _,fun _ _ _=>rfl⟩ (fun r e=>by cases e);rcases bz with h|⟨b,o,rfl⟩
 ·subst h;refine(Kj8 n l D y a cap (J []) W H h0).mono fun e E ⟨bf,bj⟩=>⟨bf,.inl ⟨[],?_,bj⟩⟩;have:ckN 0 g=0:=by unfold ckN;exact Nat.div_eq_of_lt (by omega)
  rw[this];rfl
 exact Kkd n hn l D y b o len cap g bh bi bx bc J O ba Z W H U h0
def Uo (rows:List (List V))(ts hs:List Int)(c:Nat):List UInt8×Int:=Jev (ts.getD c 0) (hs.getD c 0) (Jaj rows c)
def Jeo (rows:List (List V))(ts hs:List Int):Nat→List (List UInt8)⊕Nat
 |0=>.inl []
 |k+1=>match Jeo rows ts hs k with
  |.inr c=>.inr c
  |.inl l=>if (Uo rows ts hs k).2=0 then .inl (l++[(Uo rows ts hs k).1])else .inr k
theorem Jjc (rows:List (List V))(ts hs:List Int):∀ (k:Nat) (l:List (List UInt8)),Jeo rows ts hs k=.inl l→l.length=k
 |0,l,h=>by simp[Jeo]at h;subst h;rfl
 |k+1,l,h=>by
  simp only[Jeo]at h;split at h
  ·simp at h
  rename_i D y
  split at h
  ·simp at h;subst h;simp[Jjc rows ts hs k D y]
  simp at h
theorem Kkc (rows:List (List V))(ts hs:List Int)(c:Nat):∀ (k m:Nat),Jeo rows ts hs k=.inr c→k≤m→Jeo rows ts hs m=.inr c:=by
 intro k m h D;induction m with
 |zero=>
      have:k=0:=(by omega);subst this;exact h
 |succ m y=>
  by_cases e:k=m+1
  ·subst e;exact h
  simp only[Jeo,y (by omega)]
def Uk (rs:List (List V))(x:Nat×Nat):List (List V):=(rs.drop x.1).take x.2
def Jiu (rs:List (List V))(ts hs:List Int)(y:List (List UInt8)⊕Nat)(x:Nat×Nat):List (List UInt8)⊕Nat:=
 match y with
 |.inr c=>.inr c
 |.inl T=>match Jeo (Uk rs x) ts hs ts.length with
  |.inl l=>.inl (T++l)
  |.inr c=>.inr c
def Jfg (rs:List (List V))(ts hs:List Int)(xs:List (Nat×Nat)):List (List UInt8)⊕Nat:=xs.foldl (Jiu rs ts hs) (.inl [])
theorem Juv (rs:List (List V))(ts hs:List Int)(xs:List (Nat×Nat))(x:Nat×Nat):Jfg rs ts hs (xs++[x])=Jiu rs ts hs (Jfg rs ts hs xs) x:=by simp[Jfg]
theorem Kkl (rs:List (List V))(ts hs:List Int)(xs y:List (Nat×Nat))(c:Nat)(h:Jfg rs ts hs xs=.inr c):Jfg rs ts hs (xs++y)=.inr c:=by
 have E:∀ y:List (Nat×Nat),y.foldl (Jiu rs ts hs) (.inr c)=.inr c:=by
  intro y;induction y with
  |nil=>rfl
  |cons H y D=>exact D
 unfold Jfg at h ⊢;rw[Ol1,h,E]
theorem Jvd (len g k m:Nat)(h:k≤m):∃ y,cks len g m=cks len g k++y:=by
 obtain⟨d,rfl⟩:=Nat.exists_eq_add_of_le h;exact⟨(List.range d).map (fun i=>Jaa len g (k+i)),by simp[cks,List.range_add]⟩
theorem Zd.piece {w:World}{a:Option Addr}{hs:List (Option Addr×Nat)}{rs:List (List V)}(h:Zd w a hs rs)(x:Ck rs.length):∃ H R,ckV a x.1=.slice H (Uk rs x.1).length x.1.2∧Zd w H R (Uk rs x.1):=by
 obtain⟨⟨o,m⟩,U,X,Y⟩:=x;simp only at U X Y;have hl:(Uk rs (o,m)).length=m:=by unfold Uk;simp;omega
 rcases h.cells with E|⟨b,ob,rfl,O,E⟩
 ·have:=congrArg List.length E;simp[h.len]at this;have:=Od3.2 this;omega
 refine⟨some ⟨b,ob+o,none⟩,(hs.drop o).take m,by simp[ckV,hl],⟨by simp[Uk,h.len],.inr ⟨b,ob+o,rfl,O,fun i v D=>?_⟩,fun i Z r K hr=>?_⟩⟩
 ·have hi:i<m:=by
   rcases Oc1 i m with y|y
   ·exact y
   ·rw[Ob4 (by simp[Uk];omega)]at D;simp at D
  rw[On5];refine E (o+i) v ?_;rw[Ok5]at D ⊢;simp only[Uk,Oh3 hi,Oh9]at D;exact D
 have hi:i<m:=by
  rcases Oc1 i m with y|y
  ·exact y
  ·rw[Ob4 (by simp[Uk];omega)]at hr;simp at hr
 simp only[Uk,Oh3 hi,Oh9]at K hr;exact h.rows (o+i) Z r K hr
end Go.Proofs.YtpchafocmlhmbaaGreatDoor
