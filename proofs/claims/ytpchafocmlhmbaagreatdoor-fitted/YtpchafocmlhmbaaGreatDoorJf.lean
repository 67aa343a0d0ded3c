/- A Join: the rows of the right side by their hashes. -/
import Derived.Test.YtpchafocmlhmbaaGreatDoorJe
namespace Go.Proofs.YtpchafocmlhmbaaGreatDoor
open Go.RowKit Go.Shelf Go.Maps Tryz
def Kwa (v:Value):Option (DataW Value×List MemPlace):=some (.held v,[])
theorem Kyn:prog.underlying 244=some (.int .u64):=by kernel_rfl
theorem Kyg:prog.underlying 273=some (.map 244 22):=by kernel_rfl
theorem Kym (w:World):(zeroValue 22).run prog w=.ok (.slice none 0 0) w:=by kernel_rfl
theorem Kvw:Keyed prog 244:=int_keyed Kyn
theorem Kuo {h:Int}(y:Kr3 h):keyOf prog 244 (.int .u64 h)=some (.int .u64 h):=keyOf_int_mk Kyn (WalkArith.wf_u64 ⟨y.1,by have:=y.2;omega⟩)
structure Ksp (w:World) (mb base n:Nat) (M:Nat→Prop) (bv:Int→Value) (bk:Int→List Nat):Prop where
 map:∃ D:DataW Value,w.ownsMap prog 244 Kwa mb n D∧∀ h,Kr3 h→D.atKey (.int .u64 h) (.held (.slice none 0 0))=.held (bv h)
 own:∀ h,Kr3 h→Jo w base 3 (bv h) ((bk h).map fun (x:Nat)=>Value.int .i64 (x:Nat))
 inM:M mb∧∀ h g,Kr3 h→(bv h).ownBlock=some g→M g
 apart:∀ h h',Kr3 h→Kr3 h'→h≠h'→(bv h).ownBlock=none∨(bv h).ownBlock≠(bv h').ownBlock
 low:mb<base
theorem Ktf {w w':World}{mb n:Nat}{y:DataW Value}(h:w.ownsMap prog 244 Kwa mb n y)(E:w'.heap[mb]?=w.heap[mb]?):w'.ownsMap prog 244 Kwa mb n y:=by
 obtain⟨es,D,H,r⟩:=h;exact⟨es,D,E.trans H,r⟩
theorem Ksp.blocks {w w':World}{mb y n:Nat}{M:Nat→Prop}{bv:Int→Value}{bk:Int→List Nat}(h:Ksp w mb y n M bv bk)(D:∀ k,M k→w'.heap[k]?=w.heap[k]?):Ksp w' mb y n M bv bk:=by
 obtain⟨H,K,O⟩:=h.map;exact⟨⟨H,Ktf K (D mb h.inM.1),O⟩,fun x E=>Jl (h.own x E) fun g R=>D g (h.inM.2 x g E R),h.inM,h.apart,h.low⟩
theorem Ksp.made (w:World)(M:Nat→Prop)(y:M w.heap.size):Ksp (w.alloc (.map #[] 0)) w.heap.size (w.heap.size+1) 0 M (fun _=>.slice none 0 0) (fun _=>[]):=
 ⟨⟨.map [],World.ownsMap_made w _ _ _,fun _ _=>rfl⟩,fun _ _=>Jo.nil _ _ _,⟨y,fun _ _ _ h=>by simp[Value.ownBlock]at h⟩,fun _ _ _ _ _=>.inl rfl,On2 _⟩
theorem Ksp.look {w:World}{mb H n:Nat}{M:Nat→Prop}{bv:Int→Value}{bk:Int→List Nat}(h:Ksp w mb H n M bv bk){x:Int}(E:Kr3 x):(Instr.lookup 273 (.map (some mb)) (.int .u64 x) false).run prog w=.ok (bv x) w:=by
 obtain⟨U,K,O⟩:=h.map;have e:=O x E;obtain⟨es,X,R,F,_,rfl⟩:=K;rcases Maps.fit_look false Kvw Kyg (Kym w) R F (Kuo E)with⟨hrun,_,hat⟩|⟨e0,y,_,_,hrun,hRv,hat,_⟩
 ·have D:bv x=.slice none 0 0:=by
   rw[hat]at e;exact(DataW.held.inj e).symm
  rw[D];exact hrun
 have D:bv x=e0.val:=by
  rw[hat]at e;rw[←Oj6 hRv]at e;exact(DataW.held.inj e).symm
 rw[D];exact hrun
theorem Ksp.bits {w w':World}{mb H n bb:Nat}{M:Nat→Prop}{bv:Int→Value}{bk:Int→List Nat}{C:Array Value}{f:Nat×Nat}(h:Ksp w mb H n M bv bk)(R:Ju (·=bb) w w')(y:w.heap[bb]?=some (.cells C 244 f))(Z:bb≠mb):Ksp w' mb H n M bv bk:=by
 obtain⟨U,K,X⟩:=h.map;have Y:mb<w.heap.size:=by obtain⟨es,ba,y,_⟩:=K;exact(Oe2.1 y).1
 refine⟨⟨U,Ktf K (R.block mb Y fun e=>Z e.symm),X⟩,fun x E=>Jl (h.own x E) fun g O=>R.block g (Je (h.own x E) O).2 fun e=>?_,h.inM,h.apart,h.low⟩;obtain⟨bc,D⟩:=Ja4 (h.own x E) O;have e:g=bb:=e;rw[e,y]at D;simp only[Oc9,Obj.cells.injEq]at D;exact absurd D.2.1 (by decide)
theorem Ksp.put {w w1:World}{mb Y n:Nat}{M:Nat→Prop}{bv:Int→Value}{bk:Int→List Nat}(h:Ksp w mb Y n M bv bk){x:Int}(X:Kr3 x)(hn:n<1000000)(bc:w.grownBy w1 (bv x).ownBlock){v':Value}{r:Nat}(bi:Jo w1 Y 3 v' (((bk x)++[r]).map fun (x:Nat)=>Value.int .i64 (x:Nat)))(U:v'.ownBlock=(bv x).ownBlock∨∃ g,v'.ownBlock=some g∧w.heap.size≤g) :
  ∃ K,(Instr.mapUpdate 273 (.map (some mb)) (.int .u64 x) v').run prog w1=.ok () K∧w1.grownBy K (some mb)∧Ksp K mb Y (n+1) (fun k=>M k∨v'.ownBlock=some k) (fun y=>if y=x then v' else bv y) (fun y=>if y=x then bk x++[r]else bk y):=by
 obtain⟨bE,ba,bA⟩:=h.map;have bB:mb<w.heap.size:=by obtain⟨es,bG,Z,_⟩:=ba;exact(Oe2.1 Z).1
 have bC:some mb≠(bv x).ownBlock:=fun e=>by have:=(Je (h.own x X) e.symm).1;have:=h.low;omega
 have bz:=Ktf ba (bc.block mb bB bC);obtain⟨K,hr,g1,g2⟩:=bz.update Kvw Kyg (by unfold maxLen;omega) (Kuo X) (show Kwa v'=some (.held v',[]) from rfl);have far:∀ y,Kr3 y→y≠x→∀ g,(bv y).ownBlock=some g→K.heap[g]?=w.heap[g]?:=fun y E R g D=>by
  have hl:=Je (h.own y E) D;rw[g2.block g (Oc2 hl.2 bc.size) (fun e=>by cases e;have:=h.low;omega)];refine bc.block g hl.2 fun e=>?_;rcases h.apart y x E X R with H|H
  ·rw[H]at D;cases D
  exact H (D.trans e)
 have bj:∀ g,v'.ownBlock=some g→Y≤g∧g<w1.heap.size:=fun g e=>Je bi e;refine⟨K,hr,g2,⟨_,g1,fun y E=>?_⟩,fun y E=>?_,⟨.inl h.inM.1,fun y g E D=>?_⟩,fun y bf E bn R=>?_,h.low⟩
 ·by_cases e:y=x
  ·subst e;simp only[if_true];exact atKey_put_same (by obtain⟨_,_,_,_,_,rfl⟩:=ba;exact⟨_,rfl⟩) (Kvw.key (Kuo X)) _ _
  simp only[e,if_false];rw[atKey_put_other (by intro O;injection O with _ O;exact e O)];exact bA y E
 ·by_cases e:y=x
  ·subst e;simp only[if_true];exact Jl bi fun g D=>g2.block g (bj g D).2 fun e=>by cases e;have:=(bj mb D).1;have:=h.low;omega
  simp only[e,if_false];exact Jl (h.own y E) (far y E e)
 ·by_cases e:y=x
  ·subst e;simp only[if_true]at D;exact .inr D
  simp only[e,if_false]at D;exact .inl (h.inM.2 y g E D)
 have bx:∀ z,Kr3 z→z≠x→v'.ownBlock=none∨v'.ownBlock≠(bv z).ownBlock:=fun z br bD=>by
  rcases U with U|⟨g,U,hl⟩
  ·rw[U];exact h.apart x z X br (Oc5 bD)
  ·right;rw[U];intro e;have:=(Je (h.own z br) e.symm).2;omega
 by_cases e:y=x
 ·subst e;simp only[if_true,Oc5 R,if_false];exact bx bf bn (Oc5 R)
 by_cases bh:bf=x
 ·subst bh;simp only[if_true,e,if_false];rcases bx y E e with H|H
  ·by_cases Z:(bv y).ownBlock=none
   ·exact .inl Z
   exact .inr fun O=>Z (O.trans H)
  exact .inr (Oc5 H)
 simp only[e,bh,if_false];exact h.apart y bf E bn R
end Go.Proofs.YtpchafocmlhmbaaGreatDoor
