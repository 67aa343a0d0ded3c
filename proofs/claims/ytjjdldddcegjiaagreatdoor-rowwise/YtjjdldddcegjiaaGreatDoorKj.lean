/- The reader's lists of values, more: runs. -/
import Derived.Test.YtjjdldddcegjiaaGreatDoorKi
import Derived.Test.YtjjdldddcegjiaaGreatDoorIv
set_option maxHeartbeats 4000000
set_option maxRecDepth 100000
namespace Go.Proofs.YtjjdldddcegjiaaGreatDoor
open Go.RowKit
def Jdr (t:Int):Nat→Nat→List UInt8→Option (List V×List UInt8)
 |_,0,bs=>some ([],bs)
 |0,_+1,_=>none
 |f+1,m+1,bs=>match Ur bs with
  |none=>none
  |some (n,r)=>if 1≤n∧n≤m+1 then match Qz t r with
    |none=>none
    |some (v,y)=>(Jdr t f (m+1-n) y).map fun x=>(List.replicate n v++x.1,x.2)
   else none
def Jbh (t:Int)(m:Nat)(bs:List UInt8):Option (List V×List UInt8):=Jdr t m m bs
theorem Jcn (t:Int)(f:Nat)(bs:List UInt8):Jdr t f 0 bs=some ([],bs):=by cases f<;>rfl
theorem Jxj (t:Int):∀ (N m f g:Nat) (bs:List UInt8),m≤N→m≤f→m≤g→Jdr t f m bs=Jdr t g m bs:=by
 intro N
 induction N with
 |zero=>
  intro m f g bs y _ _
  have:m=0:=by omega
  subst this
  rw[Jcn,Jcn]
 |succ N z=>
  intro m f g bs y hf C
  cases m with
  |zero=>rw[Jcn,Jcn]
  |succ m=>
   obtain⟨f,rfl⟩:∃ d,f=d+1:=⟨f-1,by omega⟩
   obtain⟨g,rfl⟩:∃ d,g=d+1:=⟨g-1,by omega⟩
   rw[Jdr,Jdr]
   cases Ur bs with
   |none=>rfl
   |some x=>
    obtain⟨n,r⟩:=x
    simp only
    by_cases hn:1≤n∧n≤m+1
    ·rw[if_pos hn,if_pos hn]
     cases Qz t r with
     |none=>rfl
     |some A=>simp only;rw[z (m+1-n) f g A.2 (by omega) (by omega) (by omega)]
    rw[if_neg hn,if_neg hn]
theorem Jb9 (t:Int)(bs:List UInt8):Jbh t 0 bs=some ([],bs):=rfl
theorem Jay (t:Int)(m:Nat)(bs:List UInt8):Jbh t (m+1) bs=match Ur bs with
  |none=>none
  |some (n,r)=>if _h:1≤n∧n≤m+1 then match Qz t r with
    |none=>none
    |some (v,y)=>(Jbh t (m+1-n) y).map fun x=>(List.replicate n v++x.1,x.2)
   else none:=by
 unfold Jbh
 rw[Jdr]
 cases Ur bs with
 |none=>rfl
 |some x=>
  obtain⟨n,r⟩:=x
  simp only
  by_cases hn:1≤n∧n≤m+1
  ·rw[if_pos hn,dif_pos hn]
   cases Qz t r with
   |none=>rfl
   |some z=>simp only;rw[Jxj t m (m+1-n) m (m+1-n) z.2 (by omega) (by omega) (Oa2 _)]
  rw[if_neg hn,dif_neg hn]
end Go.Proofs.YtjjdldddcegjiaaGreatDoor
namespace Go.Proofs.YtjjdldddcegjiaaGreatDoor
open Go.RowKit
theorem Jgk (g:Nat)(w:World) :
  Calls Tryz.prog 263 #[.pointer (some ⟨g,0,none⟩)] w fun e w'=>e=.returned (.agg #[.func (.func 293) #[.pointer (some ⟨g,0,none⟩)] #[],.func (.func 294) #[.pointer (some ⟨g,0,none⟩)] #[],.func (.func 295) #[.pointer (some ⟨g,0,none⟩)] #[],.func (.func 296) #[.pointer (some ⟨g,0,none⟩)] #[]])∧Below w.heap.size w w':=by
 have hone:∀ (W:World) (a:Addr) f x c,(store a (.func f x c)).run Tryz.prog W=match W.cell? a with
   | some _ => if W.frozen? a then .halt (.unsupported (.unsafePointer "a write to bytes that a string shares")) W else .ok () (W.setCell a (.func f x c))
   |none=>match W.farStore Tryz.prog a (.func f x c) (Mode.plain==.atomic)with
    |.ok (w',_)=>.ok () w'
    |.error h=>.halt h W:=fun W a f x c=>run_store Tryz.prog W a (.func f x c) .plain rfl
 go_enter Tryz.func263,Tryz.ntmps263
 go_wp2
 exact bodyPost_ret (v:=.agg #[.func (.func 293) #[.pointer (some ⟨g,0,none⟩)] #[],.func (.func 294) #[.pointer (some ⟨g,0,none⟩)] #[],.func (.func 295) #[.pointer (some ⟨g,0,none⟩)] #[],.func (.func 296) #[.pointer (some ⟨g,0,none⟩)] #[]]) (by simp[results,Tryz.results263,go_sem]) rfl ⟨rfl,(Oa5 _ _).alloc (Oa2 _) _⟩
theorem Js4:(Tryz.prog.info? 417).map (fun i=>i.size)=some 1:=by kernel_rfl
theorem Jao (y z A C:Value)(w:World) :
  (Instr.index 418 (.agg #[y,z,A,C]) (.int .i64 0)).run Tryz.prog w=.ok y w ∧
  (Instr.index 418 (.agg #[y,z,A,C]) (.int .i64 1)).run Tryz.prog w=.ok z w ∧
  (Instr.index 418 (.agg #[y,z,A,C]) (.int .i64 2)).run Tryz.prog w=.ok A w ∧
  (Instr.index 418 (.agg #[y,z,A,C]) (.int .i64 3)).run Tryz.prog w=.ok C w:=by
 obtain⟨i,hi,hs⟩:=Oe9.1 Js4
 refine⟨?_,?_,?_,?_⟩<;>simp[Instr.index,run_underlying Tryz.underlying418,run_underlying Tryz.underlying417,asIntOf,part,isAgg,sizeOf,typeInfo,hi,hs]
def Jf2:List UInt8→Option ((Nat×Nat×Nat)×List UInt8)
 |b0::b1::b2::r=>if way (b0.toNat:Int) (b1.toNat:Int)=true∧b2.toNat≤64 then some ((b0.toNat,b1.toNat,b2.toNat),r)else none
 |_=>none
theorem Kbu (g:Nat)(bn:Int)(bs:List UInt8)(z:Addr)(w:World)(h:RAt w g bn bs z) :
  Calls Tryz.prog 224 #[.pointer (some ⟨g,0,none⟩)] w fun e w'=>Jt w w' g∧((Jf2 bs=none∧e=Jpu z)∨∃ t A n rest,Jf2 bs=some ((t,A,n),rest)∧e=.returned (.tuple #[.int .i64 (A:Nat),.int .i64 (n:Nat)])∧RAt w' g (t:Nat) rest z):=by
 have bi:=Ja2 g bn bs z w h
 go_enter Tryz.func224,Tryz.ntmps224
 go_wp2_with fail
 refine bi.mono ?_
 rintro e w1 ⟨R,⟨C,rfl⟩|⟨bD,bu,v,C,rfl,rfl,H⟩⟩
 ·go_wp2_with fail
  refine⟨rfl,R,.inl ⟨?_,rfl⟩⟩
  cases bs with
  |nil=>rfl
  |cons b r=>simp[Ur]at C
 cases bs with
 |nil=>simp[Ur]at C
 |cons b0 y=>
  simp[Ur]at C
  obtain⟨rfl,rfl⟩:=C
  clear bi
  have c0:=H.typ
  have c1:=H.thaw 0
  have bf:=H.setTyp (t':=(b0.toNat:Int))
  have U:=R.trans (Jt.set w1 g 0 (.int .i64 (b0.toNat:Int)))
  have bx:=b0.toNat_lt
  have bj:=Ja2 g _ y z _ bf
  go_wp2_with fail
  refine bj.mono ?_
  rintro e bI ⟨Z,⟨D,rfl⟩|⟨bE,bu,v,D,rfl,rfl,bh⟩⟩
  ·go_wp2_with fail
   refine⟨rfl,U.trans Z,.inl ⟨?_,rfl⟩⟩
   cases y with
   |nil=>rfl
   |cons b r=>simp[Ur]at D
  cases y with
  |nil=>simp[Ur]at D
  |cons b1 y=>
   simp[Ur]at D
   obtain⟨rfl,rfl⟩:=D
   clear bj
   have X:=U.trans Z
   clear R U H bf c0 c1 Z
   have bz:=b1.toNat_lt
   have bl:=Ja2 g _ y z _ bh
   go_wp2_with fail
   refine bl.mono ?_
   rintro e bJ ⟨bc,⟨E,rfl⟩|⟨bG,bH,v,E,rfl,rfl,K⟩⟩
   ·go_wp2_with fail
    refine⟨rfl,X.trans bc,.inl ⟨?_,rfl⟩⟩
    cases y with
    |nil=>rfl
    |cons b r=>simp[Ur]at E
   cases y with
   |nil=>simp[Ur]at E
   |cons b2 y=>
    simp[Ur]at E
    obtain⟨rfl,rfl⟩:=E
    clear bl
    have O:=X.trans bc
    clear X bc bh
    have c0:=K.typ
    have M:Hid (Jf2 (b0::b1::b2::y)=if way (b0.toNat:Int) (b1.toNat:Int)=true∧b2.toNat≤64 then some ((b0.toNat,b1.toNat,b2.toNat),y)else none):=rfl
    have bA:=b2.toNat_lt
    generalize b0.toNat=t at *
    generalize b1.toNat=A at *
    generalize b2.toNat=n at *
    go_wp2_with fail
    refine(Ja3 _ _ _).mono ?_
    rintro e w' ⟨rfl,bC⟩
    subst w'
    cases hway:way (t:Int) (A:Int)with
    |false=>
     go_wp2_with fail
     refine(Jap z _ K.form).mono ?_
     rintro e w' ⟨rfl,rfl⟩
     go_wp2_with fail
     refine⟨rfl,O,.inl ⟨?_,rfl⟩⟩
     rw[M.out,hway];simp
    |true=>
     by_cases hn:n≤64
     ·have bB:((n:Int)≤64):=by omega
      go_wp2_with fail
      refine(Jep _).mono ?_
      rintro e w' ⟨rfl,rfl⟩
      go_wp2_with fail
      go_ret2
      refine⟨O,.inr ⟨t,A,n,y,?_,rfl,K⟩⟩
      rw[M.out,hway,if_pos ⟨rfl,hn⟩]
     go_wp2_with fail
     rw[show decide ((n:Int)≤64)=false from decide_eq_false (by omega)]
     refine(Jap z _ K.form).mono ?_
     rintro e w' ⟨rfl,rfl⟩
     go_wp2_with fail
     refine⟨rfl,O,.inl ⟨?_,rfl⟩⟩
     rw[M.out,if_neg (fun br=>hn br.2)]
def Jce (t y:Int)(m:Nat)(bs:List UInt8):Option (List V×List UInt8):=
 if y=0 then Yl t m bs else if y=1 then Jdd t m bs else if y=2 then Jbh t m bs else Ux t m bs
def Ug (t y:Int)(n:Nat)(bs:List UInt8):Option (List V×List UInt8):=
 match Yj 1 n bs with
 |none=>none
 |some (hs,r)=>(Jce t y (Qs hs) r).map fun x=>(Ys hs x.1,x.2)
theorem Jno (t:Int):∀ (N m:Nat) (bs rest:List UInt8) (vs:List V),m≤N→Jbh t m bs=some (vs,rest)→vs.length=m:=by
 intro N
 induction N with
 |zero=>
  intro m bs rest vs z h
  have:m=0:=by omega
  subst this
  rw[Jb9]at h
  simp at h
  simp[h.1.symm]
 |succ N C=>
  intro m bs rest vs z h
  cases m with
  |zero=>rw[Jb9]at h;simp at h;simp[h.1.symm]
  |succ m=>
   rw[Jay]at h
   cases hb:Ur bs with
   |none=>rw[hb]at h;simp at h
   |some x=>
    obtain⟨n,r⟩:=x
    rw[hb]at h
    simp only at h
    split at h
    ·rename_i hn
     cases hv:Qz t r with
     |none=>rw[hv]at h;simp at h
     |some E=>
      obtain⟨v,D⟩:=E
      rw[hv]at h
      obtain⟨y,A,e⟩:=Oe9.1 h
      simp only[Oj3]at e
      have:=C (m+1-n) D y.2 y.1 (by omega) A
      rw[←e.1,Oa8,Od6,this]
      omega
    simp at h
theorem Jb1 {t z:Int}{m:Nat}{bs rest:List UInt8}{vs:List V}(h:Jce t z m bs=some (vs,rest)):vs.length=m:=by
 unfold Jce at h
 split at h
 ·exact Jeb t m bs rest vs h
 split at h
 ·unfold Jdd at h
  split at h
  ·simp at h
  split at h
  ·simp at h
  split at h
  ·simp at h
  rename_i C D hf
  split at h
  ·simp at h
   rw[←h.1,Oa6]
   exact Kt hf
  simp at h
 split at h
 ·exact Jno t m m bs rest vs (Oa2 _) h
 unfold Ux at h
 split at h
 ·obtain⟨A,y,e⟩:=Oe9.1 h
  simp only[Oj3]at e
  rw[←e.1,Oa6]
  exact Kt y
 split at h
 ·rename_i h0
  simp at h
  rw[h.1,h0]
  rfl
 split at h
 ·simp at h
 split at h
 ·simp at h
 split at h
 ·obtain⟨A,y,e⟩:=Oe9.1 h
  simp only[Oj3]at e
  rw[←e.1,Oa6]
  exact Kt y
 simp at h
theorem Jky (l:List Nat):Qs l≤l.length:=by
 induction l with
 |nil=>simp[Qs]
 |cons x l y=>simp only[Qs,List.length_cons];split<;>omega
end Go.Proofs.YtjjdldddcegjiaaGreatDoor
namespace Go.Proofs.YtjjdldddcegjiaaGreatDoor
open Go.RowKit
theorem Jp9 (q:Nat)(h:q<2):(if q=1 then 1 else 0)=q:=by split<;>omega
theorem Jqf (g:Nat)(t:Int)(n:Nat)(bs:List UInt8)(A:Addr)(w:World)(h:RAt w g t bs A)(bQ:t=1∨t=2∨t=3)(hn:n≤64) :
  Calls Tryz.prog 225 #[.pointer (some ⟨g,0,none⟩),.int .i64 0,.int .i64 n] w (Qg w g t A (Ug t 0 n bs) fun vs v w'=>Jc9 w w' vs v):=by
 have cb:=h.lt
 have ca:=h.far
 have hf:=Jas g t bs A 1 n w h (by omega) hn
 go_enter Tryz.func225,Tryz.ntmps225
 go_wp2_with fail
 refine hf.mono ?_
 rintro e w1 ⟨bl,⟨y,rfl⟩|⟨hs,E,v,y,rfl,⟨b,rfl,bY,bh⟩,bB⟩⟩
 ·go_wp2_with fail
  exact⟨rfl,Qg.up bl (by simp[Ug,y])⟩
 have bj:=Kt y
 have bi:=Jgi y
 have bL:=Jky hs
 have X:Hid (Ug t 0 n bs=(Jce t 0 (Qs hs) E).map fun x=>(Ys hs x.1,x.2)):=by show _=_;simp only[Ug,y]
 have bW:Hid (hs.length=n):=bj
 have U:Hid (hs.length≤64):=by show _≤_;omega
 clear hf y bj
 go_wp2_with fail
 go_loopw [8,16] (fun bV i wr=>∃ k:Nat,k≤hs.length∧i=.int .i64 k∧bV=.int .i64 (Qs (hs.take k):Nat)∧wr=w1) (fun _ i _=>hs.length-(intOf i).toNat)
 case atStart=>exact⟨0,by omega,rfl,rfl,rfl⟩
 case round=>
  obtain⟨k,cc,rfl,rfl,rfl⟩:=hrel
  by_cases R:k<hs.length
  ·have O:=U.out
   obtain⟨b1,ch,Z,bZ,bx⟩:=bh.at (i:=k) (by simpa using R)
   simp only[Oc9,Oh2]at Z
   obtain⟨rfl,rfl,_⟩:=Z
   rw[Od9,Od0]at bx
   unfold uv at bx
   have D:=Jeq (hs.take k) hs[k]
   rw[←Oc4 R]at D
   have bn:=bi _ (Ob3 R)
   have bM:=Ja9 hs k
   generalize hs[k]=q at *
   have bN:q<2:=bn
   have br:=Jp9 q bN
   have cf:Qs (hs.take k)≤64:=Ob2 bM (Ob2 bL O)
   clear bn
   rw[br]at D
   have bA:Hid _:=D
   clear D br
   generalize Qs (hs.take k)=p at *
   go_wp2
   go_roundw
   case rel=>
    refine⟨k+1,by omega,by go_num,?_,trivial⟩
    rw[bA.out]
    go_num
   case measure=>simp[intOf];omega
  have bK:k=hs.length:=by omega
  subst bK
  rw[Of2]
  have O:=U.out
  go_wp2_with fail
  refine(Jgk g wr).mono ?_
  rintro e bu ⟨rfl,K⟩
  have bC:=bB.below K
  have bH:=bh.below K
  have M:=bl.trans (Jt.of_below K g)
  have bJ:=(Jao (.func (.func 293) #[.pointer (some ⟨g,0,none⟩)] #[]) (.func (.func 294) #[.pointer (some ⟨g,0,none⟩)] #[]) (.func (.func 295) #[.pointer (some ⟨g,0,none⟩)] #[]) (.func (.func 296) #[.pointer (some ⟨g,0,none⟩)] #[]) bu).1
  have bf:=Jom g t E A (Qs hs) bu bC bQ (by omega)
  have H:Hid (Jce t 0 (Qs hs) E=Yl t (Qs hs) E):=rfl
  go_wp2_with fail
  refine bf.mono ?_
  rintro e w4 ⟨C,⟨z,rfl⟩|⟨vs,rest,v,z,rfl,bR,bD⟩⟩
  ·go_wp2_with fail
   exact⟨rfl,Qg.up (M.trans C) (by rw[X.out,H.out,z];rfl)⟩
  have bU:=Jb1 (H.out.trans z)
  obtain⟨a,cap,rfl,bT,bX⟩:=bR.toR
  have bI:=Jb7 bH C (by omega)
  clear bf bJ
  have bE:=Jgo b hs a cap hs.length vs w4 O bi (by omega) (by omega) bI bT
  have bz:Hid (Ug t 0 n bs=some (Ys hs vs,rest)):=by show _=_;rw[X.out,H.out,z];rfl
  clear z bU
  go_wp2_with fail
  refine bE.mono ?_
  rintro e ci ⟨⟨v,rfl,bS⟩,bc⟩
  have bP:=(M.trans C).size
  go_wp2_with fail
  go_ret
  obtain⟨bb,rfl,bG,bO⟩:=bS
  exact Qg.ok ((M.trans C).trans (Jt.of_below bc g)) bz.out ⟨bb,rfl,Ob2 bP bG,bO⟩ (bD.below bc)
end Go.Proofs.YtjjdldddcegjiaaGreatDoor
