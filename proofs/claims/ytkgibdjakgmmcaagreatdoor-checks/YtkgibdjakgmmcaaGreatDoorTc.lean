/- A set of tables in memory; where the table of a name stands. -/
import Derived.Test.YtkgibdjakgmmcaaGreatDoorRh
import Derived.Test.YtkgibdjakgmmcaaGreatDoorDg
set_option maxHeartbeats 400000
set_option maxRecDepth 100000
namespace Go.Proofs.YtkgibdjakgmmcaaGreatDoor
open Go.RowKit
structure TS where
 name:ByteArray
 types:List Int
 rows:Nat
 group:Nat
 segs:List (List Nat)
def segV (h:Option Addr×Nat)(l:List Nat):Value:=.slice h.1 l.length h.2
structure SegsAt (w:World) (F:Nat→Prop) (a:Option Addr) (hs:List (Option Addr×Nat)) (ls:List (List Nat)):Prop where
 len:hs.length=ls.length
 cells:Cells w a (List.zipWith segV hs ls)
 segs:∀ (i:Nat) h l,hs[i]?=some h→ls[i]?=some l→Cells w h.1 (l.map nv)
 aF:∀ b o,a=some ⟨b,o,none⟩→F b
 hF:∀ (i:Nat) h,hs[i]?=some h→∀ b o,h.1=some ⟨b,o,none⟩→F b
theorem SegsAt.stands {w w':World}{F:Nat→Prop}{a:Option Addr}{hs:List (Option Addr×Nat)}{ls:List (List Nat)}(h:SegsAt w F a hs ls)(hs':w.heap.size≤w'.heap.size)(hk:∀ k,F k→k<w.heap.size→w'.heap[k]?=w.heap[k]?):SegsAt w' F a hs ls:=
 ⟨h.len,h.cells.of_block hs' fun b o hb hl=>hk b (h.aF b o hb) hl,fun i x l hx hl=>(h.segs i x l hx hl).of_block hs' fun b o hb hlt=>hk b (h.hF i x hx b o hb) hlt,h.aF,h.hF⟩
theorem SegsAt.mono {w:World}{F G:Nat→Prop}{a:Option Addr}{hs:List (Option Addr×Nat)}{ls:List (List Nat)}(h:SegsAt w F a hs ls)(hFG:∀ k,F k→G k):SegsAt w G a hs ls:=
 ⟨h.len,h.cells,h.segs,fun b o hb=>hFG b (h.aF b o hb),fun i x hx b o hb=>hFG b (h.hF i x hx b o hb)⟩
theorem SegsAt.at {w:World}{F:Nat→Prop}{a:Option Addr}{hs:List (Option Addr×Nat)}{ls:List (List Nat)}(h:SegsAt w F a hs ls){i:Nat}(hi:i<ls.length) :
  ∃ b o ra rc,a=some ⟨b,o,none⟩∧F b∧b<w.heap.size∧w.cell? ⟨b,o+i,none⟩=some (.slice ra ls[i].length rc)∧Cells w ra (ls[i].map nv)∧∀ b o,ra=some ⟨b,o,none⟩→F b:=by
 have hi2:i<hs.length:=by rw[h.len];exact hi
 obtain⟨b,o,ha,hb,hc⟩:=h.cells.at (i:=i) (by simp;omega)
 exact⟨b,o,hs[i].1,hs[i].2,ha,h.aF b o ha,hb,by rw[hc];simp[segV],h.segs i hs[i] ls[i] (by simp[hi2]) (by simp[hi]),h.hF i hs[i] (by simp[hi2])⟩
structure TabX (w:World) (F:Nat→Prop) (tb:Nat) (T:TS) (ta:Option Addr) (tc:Nat) (sa:Option Addr) (sc:Nat) (hs:List (Option Addr×Nat)):Prop where
 cells:w.heap[tb]?=some (.cells #[.string T.name,.slice ta T.types.length tc,.int .i64 (T.rows:Int),.int .i64 (T.group:Int),.slice sa T.segs.length sc] 108 (0,0))
 types:Ints w ta T.types
 tF:∀ b o,ta=some ⟨b,o,none⟩→F b
 segs:SegsAt w F sa hs T.segs
 cap:T.segs.length≤sc
 bF:F tb
def TabAt (w:World)(F:Nat→Prop)(tb:Nat)(T:TS):Prop:=∃ ta tc sa sc hs,TabX w F tb T ta tc sa sc hs
theorem TabAt.stands {w w':World}{F:Nat→Prop}{tb:Nat}{T:TS}(h:TabAt w F tb T)(hs':w.heap.size≤w'.heap.size)(hk:∀ k,F k→k<w.heap.size→w'.heap[k]?=w.heap[k]?):TabAt w' F tb T:=by
 obtain⟨ta,tc,sa,sc,hs,h⟩:=h
 exact⟨ta,tc,sa,sc,hs,by rw[hk tb h.bF (lt_of_heap h.cells)];exact h.cells,h.types.of_block hs' fun b o hb hl=>hk b (h.tF b o hb) hl,h.tF,h.segs.stands hs' hk,h.cap,h.bF⟩
theorem TabAt.mono {w:World}{F G:Nat→Prop}{tb:Nat}{T:TS}(h:TabAt w F tb T)(hFG:∀ k,F k→G k):TabAt w G tb T:=by
 obtain⟨ta,tc,sa,sc,hs,h⟩:=h
 exact⟨ta,tc,sa,sc,hs,h.cells,h.types,fun b o hb=>hFG b (h.tF b o hb),h.segs.mono hFG,h.cap,hFG tb h.bF⟩
theorem TabX.field {w:World}{F:Nat→Prop}{tb:Nat}{T:TS}{ta:Option Addr}{tc:Nat}{sa:Option Addr}{sc:Nat}{hs:List (Option Addr×Nat)}(h:TabX w F tb T ta tc sa sc hs) :
  w.cell? ⟨tb,0,.none⟩=some (.string T.name)∧w.cell? ⟨tb,1,.none⟩=some (.slice ta T.types.length tc)∧w.cell? ⟨tb,2,.none⟩=some (.int .i64 (T.rows:Int))∧w.cell? ⟨tb,3,.none⟩=some (.int .i64 (T.group:Int))∧w.cell? ⟨tb,4,.none⟩=some (.slice sa T.segs.length sc):=by
 simp[World.cell?,h.cells]
def tabV (b:Nat):Value:=.pointer (some ⟨b,0,none⟩)
structure SetX (w:World) (F:Nat→Prop) (s d:Nat) (Ts:List TS) (sv:Value) (bs:List Nat):Prop where
 cells:w.heap[s]?=some (.cells #[.pointer (some ⟨d,0,none⟩),sv] 112 (0,0))
 own:OwnC w 0 109 sv (bs.map tabV)
 sF:¬ F s
 gF:∀ g,sv.ownBlock=some g→¬ F g∧g≠s
 len:bs.length=Ts.length
 tab:∀ (i:Nat) b T,bs[i]?=some b→Ts[i]?=some T→TabAt w F b T
 few:Ts.length≤6
def setF (s:Nat)(sv:Value):Nat→Prop:=fun k=>k=s∨sv.ownBlock=some k
theorem SetX.stands {w w':World}{F:Nat→Prop}{s d:Nat}{Ts:List TS}{sv:Value}{bs:List Nat}(h:SetX w F s d Ts sv bs)(hs':w.heap.size≤w'.heap.size)(hk:∀ k,F k∨setF s sv k→k<w.heap.size→w'.heap[k]?=w.heap[k]?):SetX w' F s d Ts sv bs:=
 ⟨by rw[hk s (.inr (.inl rfl)) (lt_of_heap h.cells)];exact h.cells,own_of_block h.own fun g hg=>hk g (.inr (.inr hg)) (own_block_ge h.own hg),h.sF,h.gF,h.len,fun i b T hb hT=>(h.tab i b T hb hT).stands hs' fun k hf=>hk k (.inl hf),h.few⟩
theorem SetX.below {w w':World}{F:Nat→Prop}{s d:Nat}{Ts:List TS}{sv:Value}{bs:List Nat}(h:SetX w F s d Ts sv bs)(hb:Below w.heap.size w w'):SetX w' F s d Ts sv bs:=h.stands hb.size fun k _ hk=>hb.block k hk
theorem SetX.field {w:World}{F:Nat→Prop}{s d:Nat}{Ts:List TS}{sv:Value}{bs:List Nat}(h:SetX w F s d Ts sv bs):w.cell? ⟨s,0,none⟩=some (.pointer (some ⟨d,0,none⟩))∧w.cell? ⟨s,1,none⟩=some sv:=by
 simp[World.cell?,h.cells]
theorem SetX.at {w:World}{F:Nat→Prop}{s d:Nat}{Ts:List TS}{sv:Value}{bs:List Nat}(h:SetX w F s d Ts sv bs){i:Nat}(hi:i<Ts.length) :
  ∃ b o,sv=.slice (some ⟨b,o,none⟩) Ts.length (match sv with|.slice _ _ c=>c|_=>0)∧w.cell? ⟨b,o+i,none⟩=some (.pointer (some ⟨bs[i]'(by rw[h.len];exact hi),0,none⟩))∧TabAt w F (bs[i]'(by rw[h.len];exact hi)) Ts[i]:=by
 have hi2:i<bs.length:=by rw[h.len];exact hi
 obtain⟨a,cap,hsv,hc⟩:=h.own.cells
 obtain⟨b,o,ha,_,hcell⟩:=hc.at (i:=i) (by simpa using hi2)
 subst hsv ha
 exact⟨b,o,by simp[h.len],by rw[hcell];simp[tabV],h.tab i _ _ (by simp[hi2]) (by simp[hi])⟩
def findI:List TS→ByteArray→Nat
 |[],_=>0
 |T::Ts,n=>if T.name=n then 0 else findI Ts n+1
def findV (Ts:List TS)(n:ByteArray):Int:=if findI Ts n<Ts.length then (findI Ts n:Int)else -1
theorem findI_eq (Ts:List TS)(n:ByteArray):∀ (k:Nat) (hk:k<Ts.length),(∀ j (hj:j<k),(Ts[j]'(by omega)).name≠n)→Ts[k].name=n→findI Ts n=k:=by
 induction Ts with
 |nil=>intro k hk;simp at hk
 |cons T Ts ih=>
  intro k hk hall he
  cases k with
  |zero=>simp at he;simp[findI,he]
  |succ k=>
   have h0:=hall 0 (by omega)
   simp at h0
   simp only[findI,if_neg h0]
   rw[ih k (by simpa using hk) (fun j hj=>by have:=hall (j+1) (by omega);simpa using this) (by simpa using he)]
theorem findI_none (Ts:List TS)(n:ByteArray)(h:∀ j (hj:j<Ts.length),Ts[j].name≠n):findI Ts n=Ts.length:=by
 induction Ts with
 |nil=>rfl
 |cons T Ts ih=>
  have h0:=h 0 (by simp)
  simp at h0
  simp only[findI,if_neg h0,List.length_cons]
  rw[ih fun j hj=>by have:=h (j+1) (by simp;omega);simpa using this]
theorem indexFunc_any (nb:Nat)(n:ByteArray)(w:World)(F:Nat→Prop)(s d:Nat)(Ts:List TS)(sv:Value)(bs:List Nat)(h:SetX w F s d Ts sv bs)(hn:w.cell? ⟨nb,0,none⟩=some (.string n)) :
  Calls Tryz.prog 62 #[sv,.func (.func 63) #[] #[.pointer (some ⟨nb,0,none⟩)]] w fun e w'=>e=.returned (.int .i64 (findV Ts n))∧Below w.heap.size w w':=by
 obtain⟨a,cap,hsv,hc⟩:=h.own.cells
 rw[List.length_map,h.len]at hsv
 subst hsv
 have hfew:=h.few
 go_enter Tryz.func62,Tryz.ntmps62
 go_wp2
 go_loopw [8] (fun i wr=>∃ k:Nat,k≤Ts.length∧i=.int .i64 k∧Below w.heap.size w wr∧Hid (∀ j (hj:j<Ts.length),j<k→Ts[j].name≠n)) (fun i _=>Ts.length-(intOf i).toNat)
 case atStart=>exact⟨0,Nat.zero_le _,rfl,Below.refl _ _,fun j _ hj=>absurd hj (Nat.not_lt_zero _)⟩
 case round=>
  obtain⟨k,hk,rfl,hbw,hall⟩:=hrel
  by_cases hlt:k<Ts.length
  ·obtain⟨b,o,hse,c1,ht⟩:=(h.below hbw).at hlt
   simp at hse
   subst hse
   obtain⟨ta,tc,sa,sc,hs,hT⟩:=ht
   obtain⟨t0,_,_,_,_⟩:=hT.field
   have hn2:=cell_below hbw hn
   by_cases he:Ts[k].name=n
   ·have HE:Hid (Ts[k].name=n):=he
    have hq:(Ts[k].name.toList==n.toList)=true:=by rw[he];simp
    clear he
    go_wp2
    go_quiet (fail)
    go_wp2
    go_ret
    have hf:=findI_eq Ts n k hlt (fun j hj=>hall.out j (by omega) hj) HE.out
    exact⟨ret_int (by unfold findV;rw[hf,if_pos hlt]),below_drewN hbw _⟩
   have HE:Hid (¬ Ts[k].name=n):=he
   have hq:(Ts[k].name.toList==n.toList)=false:=by
    rw[beq_eq_false_iff_ne]
    exact fun hh=>he (by rw[←str_toList Ts[k].name,hh,str_toList])
   clear he
   go_wp2
   go_quiet (fail)
   go_wp2
   go_roundw
   case rel=>
    refine⟨k+1,by omega,by go_num,below_drewN hbw _,fun j hj hjk=>?_⟩
    by_cases e:j=k
    ·subst e;exact HE.out
    exact hall.out j hj (by omega)
   case measure=>simp[intOf];omega
  go_wp2
  go_ret
  have hf:=findI_none Ts n (fun j hj=>hall.out j hj (by omega))
  exact⟨ret_int (by unfold findV;rw[hf,if_neg (Nat.lt_irrefl _)]),hbw⟩
theorem tFind_any (n:ByteArray)(w:World)(F:Nat→Prop)(s d:Nat)(Ts:List TS)(sv:Value)(bs:List Nat)(h:SetX w F s d Ts sv bs) :
  Calls Tryz.prog 35 #[.pointer (some ⟨s,0,none⟩),.string n] w fun e w'=>e=.returned (.int .i64 (findV Ts n))∧Below w.heap.size w w':=by
 obtain⟨_,c1⟩:=h.field
 have hb0:Below w.heap.size w (w.alloc (.cells #[.string n] 9)):=(Below.refl _ _).alloc (Nat.le_refl _) _
 have hf:=indexFunc_any w.heap.size n _ F s d Ts sv bs (h.below hb0) (by simp)
 have hmf:∀ (fn:Fn) (first cap:Array Value) (w:World),(Instr.makeFunc fn first cap).run Tryz.prog w=.ok (.func fn first cap) w:=fun _ _ _ _=>rfl
 obtain⟨a,cap,hsv,_⟩:=h.own.cells
 rw[List.length_map]at hsv
 subst hsv
 have hsl:=lt_of_heap h.cells
 clear h
 go_enter Tryz.func35,Tryz.ntmps35
 go_wp2_with (go_at_call 62;refine hf.mono ?_;rintro e w1 ⟨rfl,hb⟩)
 go_ret
 exact⟨rfl,below_behind hb⟩
end Go.Proofs.YtkgibdjakgmmcaaGreatDoor
