/- A set of tables in memory; where the table of a name stands. -/
import Derived.Test.YtcaocabmioafcaaGreatDoorKe
import Derived.Test.YtcaocabmioafcaaGreatDoorDg
set_option maxHeartbeats 400000
set_option maxRecDepth 100000
namespace Go.Proofs.YtcaocabmioafcaaGreatDoor
open Go.RowKit Tryz
structure TS where
 name:ByteArray
 types:List Int
 rows:Nat
 group:Nat
 segs:List (List Nat)
def Kh8 (h:Option Addr×Nat)(l:List Nat):Value:=.slice h.1 l.length h.2
structure Jaf (w:World) (F:Nat→Prop) (a:Option Addr) (hs:List (Option Addr×Nat)) (ls:List (List Nat)):Prop where
 len:hs.length=ls.length
 cells:Uh w a (List.zipWith Kh8 hs ls)
 segs:∀ (i:Nat) h l,hs[i]?=some h→ls[i]?=some l→Uh w h.1 (l.map nv)
 aF:∀ b o,a=some ⟨b,o,none⟩→F b
 hF:∀ (i:Nat) h,hs[i]?=some h→∀ b o,h.1=some ⟨b,o,none⟩→F b
theorem Jaf.stands {w w':World}{F:Nat→Prop}{a:Option Addr}{hs:List (Option Addr×Nat)}{K:List (List Nat)}(h:Jaf w F a hs K)(I:w.heap.size≤w'.heap.size)(hk:∀ k,F k→k<w.heap.size→w'.heap[k]?=w.heap[k]?):Jaf w' F a hs K:=
 ⟨h.len,h.cells.of_block I fun b o A H=>hk b (h.aF b o A) H,fun i x l J H=>(h.segs i x l J H).of_block I fun b o A L=>hk b (h.hF i x J b o A) L,h.aF,h.hF⟩
theorem Jaf.mono {w:World}{F G:Nat→Prop}{a:Option Addr}{hs:List (Option Addr×Nat)}{I:List (List Nat)}(h:Jaf w F a hs I)(H:∀ k,F k→G k):Jaf w G a hs I:=
 ⟨h.len,h.cells,h.segs,fun b o A=>H b (h.aF b o A),fun i x J b o A=>H b (h.hF i x J b o A)⟩
theorem Jaf.at {w:World}{F:Nat→Prop}{a:Option Addr}{hs:List (Option Addr×Nat)}{A:List (List Nat)}(h:Jaf w F a hs A){i:Nat}(hi:i<A.length) :
  ∃ b o H M,a=some ⟨b,o,none⟩∧F b∧b<w.heap.size∧w.cell? ⟨b,o+i,none⟩=some (.slice H A[i].length M)∧Uh w H (A[i].map nv)∧∀ b o,H=some ⟨b,o,none⟩→F b:=by
 have J:i<hs.length:=by rw[h.len];exact hi
 obtain⟨b,o,I,K,L⟩:=h.cells.at (i:=i) (by simp;omega)
 exact⟨b,o,hs[i].1,hs[i].2,I,h.aF b o I,K,by rw[L];simp[Kh8],h.segs i hs[i] A[i] (by simp[J]) (by simp[hi]),h.hF i hs[i] (by simp[J])⟩
structure Khb (w:World) (F:Nat→Prop) (tb:Nat) (T:TS) (ta:Option Addr) (tc:Nat) (sa:Option Addr) (sc:Nat) (hs:List (Option Addr×Nat)):Prop where
 cells:w.heap[tb]?=some (.cells #[.string T.name,.slice ta T.types.length tc,.int .i64 (T.rows:Int),.int .i64 (T.group:Int),.slice sa T.segs.length sc] 157 (0,0))
 types:Kc w ta T.types
 tF:∀ b o,ta=some ⟨b,o,none⟩→F b
 segs:Jaf w F sa hs T.segs
 cap:T.segs.length≤sc
 bF:F tb
def Jmg (w:World)(F:Nat→Prop)(J:Nat)(T:TS):Prop:=∃ I K A H hs,Khb w F J T I K A H hs
theorem Jmg.stands {w w':World}{F:Nat→Prop}{A:Nat}{T:TS}(h:Jmg w F A T)(H:w.heap.size≤w'.heap.size)(hk:∀ k,F k→k<w.heap.size→w'.heap[k]?=w.heap[k]?):Jmg w' F A T:=by
 obtain⟨M,N,K,L,hs,h⟩:=h
 exact⟨M,N,K,L,hs,by rw[hk A h.bF (Jd h.cells)];exact h.cells,h.types.of_block H fun b o I J=>hk b (h.tF b o I) J,h.tF,h.segs.stands H hk,h.cap,h.bF⟩
theorem Jmg.mono {w:World}{F G:Nat→Prop}{H:Nat}{T:TS}(h:Jmg w F H T)(A:∀ k,F k→G k):Jmg w G H T:=by
 obtain⟨L,M,J,K,hs,h⟩:=h
 exact⟨L,M,J,K,hs,h.cells,h.types,fun b o I=>A b (h.tF b o I),h.segs.mono A,h.cap,A H h.bF⟩
theorem Khb.field {w:World}{F:Nat→Prop}{A:Nat}{T:TS}{J:Option Addr}{K:Nat}{H:Option Addr}{I:Nat}{hs:List (Option Addr×Nat)}(h:Khb w F A T J K H I hs) :
  w.cell? ⟨A,0,.none⟩=some (.string T.name)∧w.cell? ⟨A,1,.none⟩=some (.slice J T.types.length K)∧w.cell? ⟨A,2,.none⟩=some (.int .i64 (T.rows:Int))∧w.cell? ⟨A,3,.none⟩=some (.int .i64 (T.group:Int))∧w.cell? ⟨A,4,.none⟩=some (.slice H T.segs.length I):=by
 simp[World.cell?,h.cells]
def Jcp (b:Nat):Value:=.pointer (some ⟨b,0,none⟩)
structure Jfl (w:World) (F:Nat→Prop) (s d:Nat) (Ts:List TS) (sv:Value) (bs:List Nat):Prop where
 cells:w.heap[s]?=some (.cells #[.pointer (some ⟨d,0,none⟩),sv] 143 (0,0))
 own:Jo w 0 158 sv (bs.map Jcp)
 sF:¬ F s
 gF:∀ g,sv.ownBlock=some g→¬ F g∧g≠s
 len:bs.length=Ts.length
 tab:∀ (i:Nat) b T,bs[i]?=some b→Ts[i]?=some T→Jmg w F b T
 few:Ts.length≤6
def Jnr (s:Nat)(sv:Value):Nat→Prop:=fun k=>k=s∨sv.ownBlock=some k
theorem Jfl.stands {w w':World}{F:Nat→Prop}{s d:Nat}{A:List TS}{sv:Value}{bs:List Nat}(h:Jfl w F s d A sv bs)(L:w.heap.size≤w'.heap.size)(hk:∀ k,F k∨Jnr s sv k→k<w.heap.size→w'.heap[k]?=w.heap[k]?):Jfl w' F s d A sv bs:=
 ⟨by rw[hk s (.inr (.inl rfl)) (Jd h.cells)];exact h.cells,Yd h.own fun g H=>hk g (.inr (.inr H)) (Qk h.own H),h.sF,h.gF,h.len,fun i b T J I=>(h.tab i b T J I).stands L fun k K=>hk k (.inl K),h.few⟩
theorem Jfl.below {w w':World}{F:Nat→Prop}{s d:Nat}{A:List TS}{sv:Value}{bs:List Nat}(h:Jfl w F s d A sv bs)(H:Below w.heap.size w w'):Jfl w' F s d A sv bs:=h.stands H.size fun k _ hk=>H.block k hk
theorem Jfl.field {w:World}{F:Nat→Prop}{s d:Nat}{A:List TS}{sv:Value}{bs:List Nat}(h:Jfl w F s d A sv bs):w.cell? ⟨s,0,none⟩=some (.pointer (some ⟨d,0,none⟩))∧w.cell? ⟨s,1,none⟩=some sv:=by
 simp[World.cell?,h.cells]
theorem Jfl.at {w:World}{F:Nat→Prop}{s d:Nat}{A:List TS}{sv:Value}{bs:List Nat}(h:Jfl w F s d A sv bs){i:Nat}(hi:i<A.length) :
  ∃ b o,sv=.slice (some ⟨b,o,none⟩) A.length (match sv with|.slice _ _ c=>c|_=>0)∧w.cell? ⟨b,o+i,none⟩=some (.pointer (some ⟨bs[i]'(by rw[h.len];exact hi),0,none⟩))∧Jmg w F (bs[i]'(by rw[h.len];exact hi)) A[i]:=by
 have H:i<bs.length:=by rw[h.len];exact hi
 obtain⟨a,cap,L,J⟩:=h.own.cells
 obtain⟨b,o,I,_,K⟩:=J.at (i:=i) (by simpa using H)
 subst L I
 exact⟨b,o,by simp[h.len],by rw[K];simp[Jcp],h.tab i _ _ (by simp[H]) (by simp[hi])⟩
def Ub:List TS→ByteArray→Nat
 |[],_=>0
 |T::A,n=>if T.name=n then 0 else Ub A n+1
def Jhc (A:List TS)(n:ByteArray):Int:=if Ub A n<A.length then (Ub A n:Int)else -1
theorem Kdk (A:List TS)(n:ByteArray):Ub A n≤A.length:=by
 induction A with
 |nil=>simp[Ub]
 |cons T A H=>simp only[Ub];split<;>simp<;>omega
theorem Kc4 (A:List TS)(n:ByteArray):∀ (k:Nat) (hk:k<A.length),(∀ j (J:j<k),(A[j]'(by omega)).name≠n)→A[k].name=n→Ub A n=k:=by
 induction A with
 |nil=>intro k hk;simp at hk
 |cons T A K=>
  intro k hk I H
  cases k with
  |zero=>simp at H;simp[Ub,H]
  |succ k=>
   have h0:=I 0 (by omega)
   simp at h0
   simp only[Ub,if_neg h0]
   rw[K k (by simpa using hk) (fun j J=>by have:=I (j+1) (by omega);simpa using this) (by simpa using H)]
theorem Jvr (A:List TS)(n:ByteArray)(h:∀ j (H:j<A.length),A[j].name≠n):Ub A n=A.length:=by
 induction A with
 |nil=>rfl
 |cons T A I=>
  have h0:=h 0 (by simp)
  simp at h0
  simp only[Ub,if_neg h0,List.length_cons]
  rw[I fun j H=>by have:=h (j+1) (by simp;omega);simpa using this]
theorem Jn4 (U:Nat)(n:ByteArray)(w:World)(F:Nat→Prop)(s d:Nat)(A:List TS)(sv:Value)(bs:List Nat)(h:Jfl w F s d A sv bs)(Z:w.cell? ⟨U,0,none⟩=some (.string n)) :
  Calls prog 102 #[sv,.func (.func 103) #[] #[.pointer (some ⟨U,0,none⟩)]] w fun e w'=>e=.returned (.int .i64 (Jhc A n))∧Below w.heap.size w w':=by
 obtain⟨a,cap,R,bc⟩:=h.own.cells
 rw[Oa6,h.len]at R
 subst R
 have bf:=h.few
 go_enter func102,ntmps102
 go_wp2
 go_loopw [8] (fun i wr=>∃ k:Nat,k≤A.length∧i=.int .i64 k∧Below w.heap.size w wr∧Hid (∀ j (H:j<A.length),j<k→A[j].name≠n)) (fun i _=>A.length-(intOf i).toNat)
 case atStart=>exact⟨0,Ob7 _,rfl,Oa5 _ _,fun j _ H=>absurd H (Oe0 _)⟩
 case round=>
  obtain⟨k,hk,rfl,J,L⟩:=hrel
  by_cases N:k<A.length
  ·obtain⟨b,o,O,c1,bb⟩:=(h.below J).at N
   simp at O
   subst O
   obtain⟨bn,br,bj,bk,hs,X⟩:=bb
   obtain⟨bl,_,_,_,_⟩:=X.field
   have bi:=Ja J Z
   by_cases I:A[k].name=n
   ·have K:Hid (A[k].name=n):=I
    have ba:(A[k].name.toList==n.toList)=true:=by rw[I];simp
    clear I
    go_wp2
    go_quiet (fail)
    go_wp2
    go_ret
    have M:=Kc4 A n k N (fun j H=>L.out j (by omega) H) K.out
    exact⟨Yp (by unfold Jhc;rw[M,if_pos N]),Jp J _⟩
   have K:Hid (¬ A[k].name=n):=I
   have ba:(A[k].name.toList==n.toList)=false:=by
    rw[beq_eq_false_iff_ne]
    exact fun Y=>I (by rw[←Zf A[k].name,Y,Zf])
   clear I
   go_wp2
   go_quiet (fail)
   go_wp2
   go_roundw
   case rel=>
    refine⟨k+1,by omega,by go_num,Jp J _,fun j H bh=>?_⟩
    by_cases e:j=k
    ·subst e;exact K.out
    exact L.out j H (by omega)
   case measure=>simp[intOf];omega
  go_wp2
  go_ret
  have M:=Jvr A n (fun j H=>L.out j H (by omega))
  exact⟨Yp (by unfold Jhc;rw[M,if_neg (Oe3 _)]),J⟩
theorem Jo8 (n:ByteArray)(w:World)(F:Nat→Prop)(s d:Nat)(A:List TS)(sv:Value)(bs:List Nat)(h:Jfl w F s d A sv bs) :
  Calls prog 73 #[.pointer (some ⟨s,0,none⟩),.string n] w fun e w'=>e=.returned (.int .i64 (Jhc A n))∧Below w.heap.size w w':=by
 obtain⟨_,c1⟩:=h.field
 have K:Below w.heap.size w (w.alloc (.cells #[.string n] 9)):=(Oa5 _ _).alloc (Oa2 _) _
 have L:=Jn4 w.heap.size n _ F s d A sv bs (h.below K) (by simp)
 have M:∀ (H:Fn) (first cap:Array Value) (w:World),(Instr.makeFunc H first cap).run prog w=.ok (.func H first cap) w:=fun _ _ _ _=>rfl
 obtain⟨a,cap,I,_⟩:=h.own.cells
 rw[Oa6]at I
 subst I
 have N:=Jd h.cells
 clear h
 go_enter func73,ntmps73
 go_wp2_with (go_at_call 102;refine L.mono ?_;rintro e w1 ⟨rfl,J⟩)
 go_ret
 exact⟨rfl,Qx J⟩
end Go.Proofs.YtcaocabmioafcaaGreatDoor
