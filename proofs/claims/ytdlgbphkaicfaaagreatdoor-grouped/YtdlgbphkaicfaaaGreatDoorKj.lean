/- The reader's lists of values, more: runs. -/
import Derived.Test.YtdlgbphkaicfaaaGreatDoorKi
import Derived.Test.YtdlgbphkaicfaaaGreatDoorIv
set_option maxHeartbeats 4000000
set_option maxRecDepth 100000
namespace Go.Proofs.YtdlgbphkaicfaaaGreatDoor
open Go.RowKit
def Jdr (t:Int):Nat→Nat→List UInt8→Option (List V×List UInt8)
 |_,0,bs=>some ([],bs)
 |0,_+1,_=>none
 |f+1,m+1,bs=>match Ur bs with
  |none=>none
  |some (n,r)=>if 1≤n∧n≤m+1 then match Qz t r with
    |none=>none
    |some (v,y)=>(Jdr t f (m+1-n) y).map fun x=>(List.replicate n v++x.1,x.2)
   else none
def Jbh (t:Int)(m:Nat)(bs:List UInt8):Option (List V×List UInt8):=Jdr t m m bs
theorem Jcn (t:Int)(f:Nat)(bs:List UInt8):Jdr t f 0 bs=some ([],bs):=by cases f<;>rfl
theorem Jxj (t:Int):∀ (N m f g:Nat) (bs:List UInt8),m≤N→m≤f→m≤g→Jdr t f m bs=Jdr t g m bs:=by
 intro N
 induction N with
 |zero=>
  intro m f g bs y _ _
  have:m=0:=by omega
  subst this
  rw[Jcn,Jcn]
 |succ N A=>
  intro m f g bs y hf E
  cases m with
  |zero=>rw[Jcn,Jcn]
  |succ m=>
   obtain⟨f,rfl⟩:∃ d,f=d+1:=⟨f-1,by omega⟩
   obtain⟨g,rfl⟩:∃ d,g=d+1:=⟨g-1,by omega⟩
   rw[Jdr,Jdr]
   cases Ur bs with
   |none=>rfl
   |some x=>
    obtain⟨n,r⟩:=x
    simp only
    by_cases hn:1≤n∧n≤m+1
    ·rw[if_pos hn,if_pos hn]
     cases Qz t r with
     |none=>rfl
     |some D=>simp only;rw[A (m+1-n) f g D.2 (by omega) (by omega) (by omega)]
    rw[if_neg hn,if_neg hn]
theorem Jb9 (t:Int)(bs:List UInt8):Jbh t 0 bs=some ([],bs):=rfl
theorem Jay (t:Int)(m:Nat)(bs:List UInt8):Jbh t (m+1) bs=match Ur bs with
  |none=>none
  |some (n,r)=>if _h:1≤n∧n≤m+1 then match Qz t r with
    |none=>none
    |some (v,y)=>(Jbh t (m+1-n) y).map fun x=>(List.replicate n v++x.1,x.2)
   else none:=by
 unfold Jbh
 rw[Jdr]
 cases Ur bs with
 |none=>rfl
 |some x=>
  obtain⟨n,r⟩:=x
  simp only
  by_cases hn:1≤n∧n≤m+1
  ·rw[if_pos hn,dif_pos hn]
   cases Qz t r with
   |none=>rfl
   |some A=>simp only;rw[Jxj t m (m+1-n) m (m+1-n) A.2 (by omega) (by omega) (Oa2 _)]
  rw[if_neg hn,dif_neg hn]
end Go.Proofs.YtdlgbphkaicfaaaGreatDoor
namespace Go.Proofs.YtdlgbphkaicfaaaGreatDoor
open Go.RowKit
theorem Jgk (g:Nat)(w:World) :
  Calls Tryz.prog 252 #[.pointer (some ⟨g,0,none⟩)] w fun e w'=>e=.returned (.agg #[.func (.func 282) #[.pointer (some ⟨g,0,none⟩)] #[],.func (.func 283) #[.pointer (some ⟨g,0,none⟩)] #[],.func (.func 284) #[.pointer (some ⟨g,0,none⟩)] #[],.func (.func 285) #[.pointer (some ⟨g,0,none⟩)] #[]])∧Below w.heap.size w w':=by
 have hone:∀ (W:World) (a:Addr) f x c,(store a (.func f x c)).run Tryz.prog W=match W.cell? a with
   | some _ => if W.frozen? a then .halt (.unsupported (.unsafePointer "a write to bytes that a string shares")) W else .ok () (W.setCell a (.func f x c))
   |none=>match W.farStore Tryz.prog a (.func f x c) (Mode.plain==.atomic)with
    |.ok (w',_)=>.ok () w'
    |.error h=>.halt h W:=fun W a f x c=>run_store Tryz.prog W a (.func f x c) .plain rfl
 go_enter Tryz.func252,Tryz.ntmps252
 go_wp2
 exact bodyPost_ret (v:=.agg #[.func (.func 282) #[.pointer (some ⟨g,0,none⟩)] #[],.func (.func 283) #[.pointer (some ⟨g,0,none⟩)] #[],.func (.func 284) #[.pointer (some ⟨g,0,none⟩)] #[],.func (.func 285) #[.pointer (some ⟨g,0,none⟩)] #[]]) (by simp[results,Tryz.results252,go_sem]) rfl ⟨rfl,(Oa5 _ _).alloc (Oa2 _) _⟩
theorem Js4:(Tryz.prog.info? 408).map (fun i=>i.size)=some 1:=by kernel_rfl
theorem Jao (y A D E:Value)(w:World) :
  (Instr.index 409 (.agg #[y,A,D,E]) (.int .i64 0)).run Tryz.prog w=.ok y w ∧
  (Instr.index 409 (.agg #[y,A,D,E]) (.int .i64 1)).run Tryz.prog w=.ok A w ∧
  (Instr.index 409 (.agg #[y,A,D,E]) (.int .i64 2)).run Tryz.prog w=.ok D w ∧
  (Instr.index 409 (.agg #[y,A,D,E]) (.int .i64 3)).run Tryz.prog w=.ok E w:=by
 obtain⟨i,hi,hs⟩:=Oe9.1 Js4
 refine⟨?_,?_,?_,?_⟩<;>simp[Instr.index,run_underlying Tryz.underlying409,run_underlying Tryz.underlying408,asIntOf,part,isAgg,sizeOf,typeInfo,hi,hs]
def Jf2:List UInt8→Option ((Nat×Nat×Nat)×List UInt8)
 |b0::b1::b2::r=>if way (b0.toNat:Int) (b1.toNat:Int)=true∧b2.toNat≤64 then some ((b0.toNat,b1.toNat,b2.toNat),r)else none
 |_=>none
theorem Kbu (g:Nat)(bl:Int)(bs:List UInt8)(A:Addr)(w:World)(h:RAt w g bl bs A) :
  Calls Tryz.prog 213 #[.pointer (some ⟨g,0,none⟩)] w fun e w'=>Jt w w' g∧((Jf2 bs=none∧e=Jpu A)∨∃ t D n rest,Jf2 bs=some ((t,D,n),rest)∧e=.returned (.tuple #[.int .i64 (D:Nat),.int .i64 (n:Nat)])∧RAt w' g (t:Nat) rest A):=by
 have bi:=Ja2 g bl bs A w h
 go_enter Tryz.func213,Tryz.ntmps213
 go_wp2_with fail
 refine bi.mono ?_
 rintro e w1 ⟨X,⟨E,rfl⟩|⟨bC,br,v,E,rfl,rfl,M⟩⟩
 ·go_wp2_with fail
  refine⟨rfl,X,.inl ⟨?_,rfl⟩⟩
  cases bs with
  |nil=>rfl
  |cons b r=>simp[Ur]at E
 cases bs with
 |nil=>simp[Ur]at E
 |cons b0 y=>
  simp[Ur]at E
  obtain⟨rfl,rfl⟩:=E
  clear bi
  have c0:=M.typ
  have c1:=M.thaw 0
  have bf:=M.setTyp (t':=(b0.toNat:Int))
  have Z:=X.trans (Jt.set w1 g 0 (.int .i64 (b0.toNat:Int)))
  have bu:=b0.toNat_lt
  have bj:=Ja2 g _ y A _ bf
  go_wp2_with fail
  refine bj.mono ?_
  rintro e bH ⟨bb,⟨H,rfl⟩|⟨bD,br,v,H,rfl,rfl,bh⟩⟩
  ·go_wp2_with fail
   refine⟨rfl,Z.trans bb,.inl ⟨?_,rfl⟩⟩
   cases y with
   |nil=>rfl
   |cons b r=>simp[Ur]at H
  cases y with
  |nil=>simp[Ur]at H
  |cons b1 y=>
   simp[Ur]at H
   obtain⟨rfl,rfl⟩:=H
   clear bj
   have ba:=Z.trans bb
   clear X Z M bf c0 c1 bb
   have bx:=b1.toNat_lt
   have bk:=Ja2 g _ y A _ bh
   go_wp2_with fail
   refine bk.mono ?_
   rintro e bI ⟨bc,⟨K,rfl⟩|⟨bE,bG,v,K,rfl,rfl,O⟩⟩
   ·go_wp2_with fail
    refine⟨rfl,ba.trans bc,.inl ⟨?_,rfl⟩⟩
    cases y with
    |nil=>rfl
    |cons b r=>simp[Ur]at K
   cases y with
   |nil=>simp[Ur]at K
   |cons b2 y=>
    simp[Ur]at K
    obtain⟨rfl,rfl⟩:=K
    clear bk
    have U:=ba.trans bc
    clear ba bc bh
    have c0:=O.typ
    have R:Hid (Jf2 (b0::b1::b2::y)=if way (b0.toNat:Int) (b1.toNat:Int)=true∧b2.toNat≤64 then some ((b0.toNat,b1.toNat,b2.toNat),y)else none):=rfl
    have bz:=b2.toNat_lt
    generalize b0.toNat=t at *
    generalize b1.toNat=D at *
    generalize b2.toNat=n at *
    go_wp2_with fail
    refine(Ja3 _ _ _).mono ?_
    rintro e w' ⟨rfl,bB⟩
    subst w'
    cases hway:way (t:Int) (D:Int)with
    |false=>
     go_wp2_with fail
     refine(Jap A _ O.form).mono ?_
     rintro e w' ⟨rfl,rfl⟩
     go_wp2_with fail
     refine⟨rfl,U,.inl ⟨?_,rfl⟩⟩
     rw[R.out,hway];simp
    |true=>
     by_cases hn:n≤64
     ·have bA:((n:Int)≤64):=by omega
      go_wp2_with fail
      refine(Jep _).mono ?_
      rintro e w' ⟨rfl,rfl⟩
      go_wp2_with fail
      go_ret2
      refine⟨U,.inr ⟨t,D,n,y,?_,rfl,O⟩⟩
      rw[R.out,hway,if_pos ⟨rfl,hn⟩]
     go_wp2_with fail
     rw[show decide ((n:Int)≤64)=false from decide_eq_false (by omega)]
     refine(Jap A _ O.form).mono ?_
     rintro e w' ⟨rfl,rfl⟩
     go_wp2_with fail
     refine⟨rfl,U,.inl ⟨?_,rfl⟩⟩
     rw[R.out,if_neg (fun bn=>hn bn.2)]
def Jce (t y:Int)(m:Nat)(bs:List UInt8):Option (List V×List UInt8):=
 if y=0 then Yl t m bs else if y=1 then Jdd t m bs else if y=2 then Jbh t m bs else Ux t m bs
def Ug (t y:Int)(n:Nat)(bs:List UInt8):Option (List V×List UInt8):=
 match Yj 1 n bs with
 |none=>none
 |some (hs,r)=>(Jce t y (Qs hs) r).map fun x=>(Ys hs x.1,x.2)
theorem Jno (t:Int):∀ (N m:Nat) (bs rest:List UInt8) (vs:List V),m≤N→Jbh t m bs=some (vs,rest)→vs.length=m:=by
 intro N
 induction N with
 |zero=>
  intro m bs rest vs y h
  have:m=0:=by omega
  subst this
  rw[Jb9]at h
  simp at h
  simp[h.1.symm]
 |succ N D=>
  intro m bs rest vs y h
  cases m with
  |zero=>rw[Jb9]at h;simp at h;simp[h.1.symm]
  |succ m=>
   rw[Jay]at h
   cases hb:Ur bs with
   |none=>rw[hb]at h;simp at h
   |some x=>
    obtain⟨n,r⟩:=x
    rw[hb]at h
    simp only at h
    split at h
    ·rename_i hn
     cases hv:Qz t r with
     |none=>rw[hv]at h;simp at h
     |some H=>
      obtain⟨v,E⟩:=H
      rw[hv]at h
      obtain⟨z,A,e⟩:=Oe9.1 h
      simp only[Oj3]at e
      have:=D (m+1-n) E z.2 z.1 (by omega) A
      rw[←e.1,Oa8,Od6,this]
      omega
    simp at h
theorem Jb1 {t A:Int}{m:Nat}{bs rest:List UInt8}{vs:List V}(h:Jce t A m bs=some (vs,rest)):vs.length=m:=by
 unfold Jce at h
 split at h
 ·exact Jeb t m bs rest vs h
 split at h
 ·unfold Jdd at h
  split at h
  ·simp at h
  split at h
  ·simp at h
  split at h
  ·simp at h
  rename_i ks D hf
  split at h
  ·simp at h
   rw[←h.1,Oa6]
   exact Kt hf
  simp at h
 split at h
 ·exact Jno t m m bs rest vs (Oa2 _) h
 unfold Ux at h
 split at h
 ·obtain⟨z,y,e⟩:=Oe9.1 h
  simp only[Oj3]at e
  rw[←e.1,Oa6]
  exact Kt y
 split at h
 ·rename_i h0
  simp at h
  rw[h.1,h0]
  rfl
 split at h
 ·simp at h
 split at h
 ·simp at h
 split at h
 ·obtain⟨z,y,e⟩:=Oe9.1 h
  simp only[Oj3]at e
  rw[←e.1,Oa6]
  exact Kt y
 simp at h
theorem Jky (l:List Nat):Qs l≤l.length:=by
 induction l with
 |nil=>simp[Qs]
 |cons x l y=>simp only[Qs,List.length_cons];split<;>omega
end Go.Proofs.YtdlgbphkaicfaaaGreatDoor
namespace Go.Proofs.YtdlgbphkaicfaaaGreatDoor
open Go.RowKit
theorem Jp9 (q:Nat)(h:q<2):(if q=1 then 1 else 0)=q:=by split<;>omega
theorem Jqf (g:Nat)(t:Int)(n:Nat)(bs:List UInt8)(D:Addr)(w:World)(h:RAt w g t bs D)(bQ:t=1∨t=2∨t=3)(hn:n≤64) :
  Calls Tryz.prog 214 #[.pointer (some ⟨g,0,none⟩),.int .i64 0,.int .i64 n] w (Qg w g t D (Ug t 0 n bs) fun vs v w'=>Jc9 w w' vs v):=by
 have cb:=h.lt
 have ca:=h.far
 have hf:=Jas g t bs D 1 n w h (by omega) hn
 go_enter Tryz.func214,Tryz.ntmps214
 go_wp2_with fail
 refine hf.mono ?_
 rintro e w1 ⟨bk,⟨y,rfl⟩|⟨hs,K,v,y,rfl,⟨b,rfl,bY,bh⟩,bB⟩⟩
 ·go_wp2_with fail
  exact⟨rfl,Qg.up bk (by simp[Ug,y])⟩
 have bj:=Kt y
 have bi:=Jgi y
 have bL:=Jky hs
 have ba:Hid (Ug t 0 n bs=(Jce t 0 (Qs hs) K).map fun x=>(Ys hs x.1,x.2)):=by show _=_;simp only[Ug,y]
 have bW:Hid (hs.length=n):=bj
 have Z:Hid (hs.length≤64):=by show _≤_;omega
 clear hf y bj
 go_wp2_with fail
 go_loopw [8,16] (fun bV i wr=>∃ k:Nat,k≤hs.length∧i=.int .i64 k∧bV=.int .i64 (Qs (hs.take k):Nat)∧wr=w1) (fun _ i _=>hs.length-(intOf i).toNat)
 case atStart=>exact⟨0,by omega,rfl,rfl,rfl⟩
 case round=>
  obtain⟨k,cc,rfl,rfl,rfl⟩:=hrel
  by_cases X:k<hs.length
  ·have U:=Z.out
   obtain⟨b1,ch,bb,bZ,bu⟩:=bh.at (i:=k) (by simpa using X)
   simp only[Oc9,Oh2]at bb
   obtain⟨rfl,rfl,_⟩:=bb
   rw[Od9,Od0]at bu
   unfold uv at bu
   have H:=Jeq (hs.take k) hs[k]
   rw[←Oc4 X]at H
   have bl:=bi _ (Ob3 X)
   have bM:=Ja9 hs k
   generalize hs[k]=q at *
   have bN:q<2:=bl
   have bn:=Jp9 q bN
   have cf:Qs (hs.take k)≤64:=Ob2 bM (Ob2 bL U)
   clear bl
   rw[bn]at H
   have bz:Hid _:=H
   clear H bn
   generalize Qs (hs.take k)=p at *
   go_wp2
   go_roundw
   case rel=>
    refine⟨k+1,by omega,by go_num,?_,trivial⟩
    rw[bz.out]
    go_num
   case measure=>simp[intOf];omega
  have bK:k=hs.length:=by omega
  subst bK
  rw[Of2]
  have U:=Z.out
  go_wp2_with fail
  refine(Jgk g wr).mono ?_
  rintro e br ⟨rfl,O⟩
  have bC:=bB.below O
  have bH:=bh.below O
  have R:=bk.trans (Jt.of_below O g)
  have bJ:=(Jao (.func (.func 282) #[.pointer (some ⟨g,0,none⟩)] #[]) (.func (.func 283) #[.pointer (some ⟨g,0,none⟩)] #[]) (.func (.func 284) #[.pointer (some ⟨g,0,none⟩)] #[]) (.func (.func 285) #[.pointer (some ⟨g,0,none⟩)] #[]) br).1
  have bf:=Jom g t K D (Qs hs) br bC bQ (by omega)
  have M:Hid (Jce t 0 (Qs hs) K=Yl t (Qs hs) K):=rfl
  go_wp2_with fail
  refine bf.mono ?_
  rintro e w4 ⟨E,⟨A,rfl⟩|⟨vs,rest,v,A,rfl,bR,bD⟩⟩
  ·go_wp2_with fail
   exact⟨rfl,Qg.up (R.trans E) (by rw[ba.out,M.out,A];rfl)⟩
  have bU:=Jb1 (M.out.trans A)
  obtain⟨a,cap,rfl,bT,bX⟩:=bR.toR
  have bI:=Jb7 bH E (by omega)
  clear bf bJ
  have bE:=Jgo b hs a cap hs.length vs w4 U bi (by omega) (by omega) bI bT
  have bx:Hid (Ug t 0 n bs=some (Ys hs vs,rest)):=by show _=_;rw[ba.out,M.out,A];rfl
  clear A bU
  go_wp2_with fail
  refine bE.mono ?_
  rintro e ci ⟨⟨v,rfl,bS⟩,bc⟩
  have bP:=(R.trans E).size
  go_wp2_with fail
  go_ret
  obtain⟨bA,rfl,bG,bO⟩:=bS
  exact Qg.ok ((R.trans E).trans (Jt.of_below bc g)) bx.out ⟨bA,rfl,Ob2 bP bG,bO⟩ (bD.below bc)
end Go.Proofs.YtdlgbphkaicfaaaGreatDoor
