/- The reader's lists of values, more: runs. -/
import Derived.Test.YtpchafocmlhmbaaGreatDoorKi
set_option maxHeartbeats 4000000
set_option maxRecDepth 100000
namespace Go.Proofs.YtpchafocmlhmbaaGreatDoor
section
open Go.RowKit
def Jdr (t:Int):Nat→Nat→List UInt8→Option (List V×List UInt8)
 |_,0,bs=>some ([],bs)
 |0,_+1,_=>none
 |f+1,m+1,bs=>match Ur bs with
  |none=>none
  |some (n,r)=>if 1≤n∧n≤m+1 then match Qz t r with
    |none=>none
    |some (v,y)=>(Jdr t f (m+1-n) y).map fun x=>(List.replicate n v++x.1,x.2)
   else none
def Jbh (t:Int)(m:Nat)(bs:List UInt8):Option (List V×List UInt8):=Jdr t m m bs
theorem Jcn (t:Int)(f:Nat)(bs:List UInt8):Jdr t f 0 bs=some ([],bs):=by cases f<;>rfl
theorem Jxj (t:Int):∀ (N m f g:Nat) (bs:List UInt8),m≤N→m≤f→m≤g→Jdr t f m bs=Jdr t g m bs:=by
 intro N;induction N with
 |zero=>
  intro m f g bs y _ _;have:m=0:=by omega
  subst this;rw[Jcn,Jcn]
 |succ N D=>
  intro m f g bs y hf H;cases m with
  |zero=>rw[Jcn,Jcn]
  |succ m=>
   obtain⟨f,rfl⟩:∃ d,f=d+1:=⟨f-1,by omega⟩;obtain⟨g,rfl⟩:∃ d,g=d+1:=⟨g-1,by omega⟩;rw[Jdr,Jdr];cases Ur bs with
   |none=>rfl
   |some x=>
    obtain⟨n,r⟩:=x;simp only;by_cases hn:1≤n∧n≤m+1
    ·rw[if_pos hn,if_pos hn];cases Qz t r with
     |none=>rfl
     |some E=>simp only;rw[D (m+1-n) f g E.2 (by omega) (by omega) (by omega)]
    rw[if_neg hn,if_neg hn]
theorem Jb9 (t:Int)(bs:List UInt8):Jbh t 0 bs=some ([],bs):=rfl
theorem Jay (t:Int)(m:Nat)(bs:List UInt8):Jbh t (m+1) bs=match Ur bs with
  |none=>none
  |some (n,r)=>if _h:1≤n∧n≤m+1 then match Qz t r with
    |none=>none
    |some (v,y)=>(Jbh t (m+1-n) y).map fun x=>(List.replicate n v++x.1,x.2)
   else none:=by
 unfold Jbh;rw[Jdr];cases Ur bs with
 |none=>rfl
 |some x=>
  obtain⟨n,r⟩:=x;simp only;by_cases hn:1≤n∧n≤m+1
  ·rw[if_pos hn,dif_pos hn];cases Qz t r with
   |none=>rfl
   |some D=>simp only;rw[Jxj t m (m+1-n) m (m+1-n) D.2 (by omega) (by omega) (Oa2 _)]
  rw[if_neg hn,dif_neg hn]
end
section
open Go.RowKit
theorem Jgk (g:Nat)(w:World) :
  Calls Tryz.prog 251 #[.pointer (some ⟨g,0,none⟩)] w fun e w'=>e=.returned (.agg #[.func (.func 281) #[.pointer (some ⟨g,0,none⟩)] #[],.func (.func 282) #[.pointer (some ⟨g,0,none⟩)] #[],.func (.func 283) #[.pointer (some ⟨g,0,none⟩)] #[],.func (.func 284) #[.pointer (some ⟨g,0,none⟩)] #[]])∧Below w.heap.size w w':=by
 have hone:∀ (W:World) (a:Addr) f x c,(store a (.func f x c)).run Tryz.prog W=match W.cell? a with
   | some _ => if W.frozen? a then .halt (.unsupported (.unsafePointer "a write to bytes that a string shares")) W else .ok () (W.setCell a (.func f x c))
   |none=>match W.farStore Tryz.prog a (.func f x c) (Mode.plain==.atomic)with
    |.ok (w',_)=>.ok () w'
    |.error h=>.halt h W:=fun W a f x c=>run_store Tryz.prog W a (.func f x c) .plain rfl
 go_enter Tryz.func251,Tryz.ntmps251
 go_wp2;exact bodyPost_ret (v:=.agg #[.func (.func 281) #[.pointer (some ⟨g,0,none⟩)] #[],.func (.func 282) #[.pointer (some ⟨g,0,none⟩)] #[],.func (.func 283) #[.pointer (some ⟨g,0,none⟩)] #[],.func (.func 284) #[.pointer (some ⟨g,0,none⟩)] #[]]) (by simp[results,Tryz.results251,go_sem]) rfl ⟨rfl,(Oa5 _ _).alloc (Oa2 _) _⟩
theorem Js4:(Tryz.prog.info? 406).map (fun i=>i.size)=some 1:=by kernel_rfl
theorem Jao (y D E H:Value)(w:World) :
  (Instr.index 407 (.agg #[y,D,E,H]) (.int .i64 0)).run Tryz.prog w=.ok y w ∧
  (Instr.index 407 (.agg #[y,D,E,H]) (.int .i64 1)).run Tryz.prog w=.ok D w ∧
  (Instr.index 407 (.agg #[y,D,E,H]) (.int .i64 2)).run Tryz.prog w=.ok E w ∧
  (Instr.index 407 (.agg #[y,D,E,H]) (.int .i64 3)).run Tryz.prog w=.ok H w:=by
 obtain⟨i,hi,hs⟩:=Oe9.1 Js4;refine⟨?_,?_,?_,?_⟩<;>simp[Instr.index,run_underlying Tryz.underlying407,run_underlying Tryz.underlying406,asIntOf,part,isAgg,sizeOf,typeInfo,hi,hs]
def Jf2:List UInt8→Option ((Nat×Nat×Nat)×List UInt8)
 |b0::b1::b2::r=>if way (b0.toNat:Int) (b1.toNat:Int)=true∧b2.toNat≤64 then some ((b0.toNat,b1.toNat,b2.toNat),r)else none
 |_=>none
theorem Kbu (g:Nat)(bz:Int)(bs:List UInt8)(D:Addr)(w:World)(h:RAt w g bz bs D) :
  Calls Tryz.prog 212 #[.pointer (some ⟨g,0,none⟩)] w fun e w'=>Jt w w' g∧((Jf2 bs=none∧e=Jpu D)∨∃ t E n rest,Jf2 bs=some ((t,E,n),rest)∧e=.returned (.tuple #[.int .i64 (E:Nat),.int .i64 (n:Nat)])∧RAt w' g (t:Nat) rest D):=by
 have bn:=Ja2 g bz bs D w h;go_enter Tryz.func212,Tryz.ntmps212
 go_wp2_with fail
 refine bn.mono ?_;rintro e w1 ⟨Z,⟨H,rfl⟩|⟨bI,bB,v,H,rfl,rfl,R⟩⟩
 ·go_wp2_with fail
  refine⟨rfl,Z,.inl ⟨?_,rfl⟩⟩;cases bs with
  |nil=>rfl
  |cons b r=>simp[Ur]at H
 cases bs with
 |nil=>simp[Ur]at H
 |cons b0 y=>
  simp[Ur]at H;obtain⟨rfl,rfl⟩:=H;clear bn;have c0:=R.typ;have c1:=R.thaw 0;have bi:=R.setTyp (t':=(b0.toNat:Int));have ba:=Z.trans (Jt.set w1 g 0 (.int .i64 (b0.toNat:Int)));have bC:=b0.toNat_lt;have br:=Ja2 g _ y D _ bi;go_wp2_with fail
  refine br.mono ?_;rintro e bM ⟨bf,⟨K,rfl⟩|⟨bJ,bB,v,K,rfl,rfl,bj⟩⟩
  ·go_wp2_with fail
   refine⟨rfl,ba.trans bf,.inl ⟨?_,rfl⟩⟩;cases y with
   |nil=>rfl
   |cons b r=>simp[Ur]at K
  cases y with
  |nil=>simp[Ur]at K
  |cons b1 y=>
   simp[Ur]at K;obtain⟨rfl,rfl⟩:=K;clear br;have bc:=ba.trans bf;clear Z ba R bi c0 c1 bf;have bD:=b1.toNat_lt;have bx:=Ja2 g _ y D _ bj;go_wp2_with fail
   refine bx.mono ?_;rintro e bN ⟨bh,⟨O,rfl⟩|⟨bK,bL,v,O,rfl,rfl,U⟩⟩
   ·go_wp2_with fail
    refine⟨rfl,bc.trans bh,.inl ⟨?_,rfl⟩⟩;cases y with
    |nil=>rfl
    |cons b r=>simp[Ur]at O
   cases y with
   |nil=>simp[Ur]at O
   |cons b2 y=>
    simp[Ur]at O;obtain⟨rfl,rfl⟩:=O;clear bx;have Y:=bc.trans bh;clear bc bh bj;have c0:=U.typ;have X:Hid (Jf2 (b0::b1::b2::y)=if way (b0.toNat:Int) (b1.toNat:Int)=true∧b2.toNat≤64 then some ((b0.toNat,b1.toNat,b2.toNat),y)else none):=rfl;have bE:=b2.toNat_lt;generalize b0.toNat=t at *;generalize b1.toNat=E at *;generalize b2.toNat=n at *;go_wp2_with fail
    refine(Ja3 _ _ _).mono ?_;rintro e w' ⟨rfl,bH⟩;subst w';cases hway:way (t:Int) (E:Int)with
    |false=>
     go_wp2_with fail
     refine(Jap D _ U.form).mono ?_;rintro e w' ⟨rfl,rfl⟩;go_wp2_with fail
     refine⟨rfl,Y,.inl ⟨?_,rfl⟩⟩;rw[X.out,hway];simp
    |true=>
     by_cases hn:n≤64
     ·have bG:((n:Int)≤64):=(by omega);go_wp2_with fail
      refine(Jep _).mono ?_;rintro e w' ⟨rfl,rfl⟩;go_wp2_with fail
      go_ret2
      refine⟨Y,.inr ⟨t,E,n,y,?_,rfl,U⟩⟩;rw[X.out,hway,if_pos ⟨rfl,hn⟩]
     go_wp2_with fail
     rw[show decide ((n:Int)≤64)=false from decide_eq_false (by omega)];refine(Jap D _ U.form).mono ?_;rintro e w' ⟨rfl,rfl⟩;go_wp2_with fail
     refine⟨rfl,Y,.inl ⟨?_,rfl⟩⟩;rw[X.out,if_neg (fun bA=>hn bA.2)]
def Jce (t y:Int)(m:Nat)(bs:List UInt8):Option (List V×List UInt8):=
 if y=0 then Yl t m bs else if y=1 then Jdd t m bs else if y=2 then Jbh t m bs else Ux t m bs
def Ug (t y:Int)(n:Nat)(bs:List UInt8):Option (List V×List UInt8):=
 match Yj 1 n bs with
 |none=>none
 |some (hs,r)=>(Jce t y (Qs hs) r).map fun x=>(Ys hs x.1,x.2)
theorem Jno (t:Int):∀ (N m:Nat) (bs rest:List UInt8) (vs:List V),m≤N→Jbh t m bs=some (vs,rest)→vs.length=m:=by
 intro N;induction N with
 |zero=>
  intro m bs rest vs y h;have:m=0:=by omega
  subst this;rw[Jb9]at h;simp at h;simp[h.1.symm]
 |succ N E=>
  intro m bs rest vs y h;cases m with
  |zero=>rw[Jb9]at h;simp at h;simp[h.1.symm]
  |succ m=>
   rw[Jay]at h;cases hb:Ur bs with
   |none=>rw[hb]at h;simp at h
   |some x=>
    obtain⟨n,r⟩:=x;rw[hb]at h;simp only at h;split at h
    ·rename_i hn
     cases hv:Qz t r with
     |none=>rw[hv]at h;simp at h
     |some K=>
      obtain⟨v,H⟩:=K;rw[hv]at h;obtain⟨z,D,e⟩:=Oe9.1 h;simp only[Oj3]at e;have:=E (m+1-n) H z.2 z.1 (by omega) D;rw[←e.1,Oa8,Od6,this];omega
    simp at h
theorem Jb1 {t D:Int}{m:Nat}{bs rest:List UInt8}{vs:List V}(h:Jce t D m bs=some (vs,rest)):vs.length=m:=by
 unfold Jce at h;split at h
 ·exact Jeb t m bs rest vs h
 split at h
 ·unfold Jdd at h;split at h
  ·simp at h
  split at h
  ·simp at h
  split at h
  ·simp at h
  rename_i ks E hf
  split at h
  ·simp at h;rw[←h.1,Oa6];exact Kt hf
  simp at h
 split at h
 ·exact Jno t m m bs rest vs (Oa2 _) h
 unfold Ux at h;split at h
 ·obtain⟨z,y,e⟩:=Oe9.1 h;simp only[Oj3]at e;rw[←e.1,Oa6];exact Kt y
 split at h
 ·rename_i h0
  simp at h;rw[h.1,h0];rfl
 split at h
 ·simp at h
 split at h
 ·simp at h
 split at h
 ·obtain⟨z,y,e⟩:=Oe9.1 h;simp only[Oj3]at e;rw[←e.1,Oa6];exact Kt y
 simp at h
theorem Jky (l:List Nat):Qs l≤l.length:=by
 induction l with
 |nil=>simp[Qs]
 |cons x l y=>simp only[Qs,List.length_cons];split<;>omega
end
section
open Go.RowKit
theorem Jp9 (q:Nat)(h:q<2):(if q=1 then 1 else 0)=q:=by split<;>omega
theorem Jqf (g:Nat)(t:Int)(n:Nat)(bs:List UInt8)(E:Addr)(w:World)(h:RAt w g t bs E)(bU:t=1∨t=2∨t=3)(hn:n≤64) :
  Calls Tryz.prog 213 #[.pointer (some ⟨g,0,none⟩),.int .i64 0,.int .i64 n] w (Qg w g t E (Ug t 0 n bs) fun vs v w'=>Jc9 w w' vs v):=by
 have ci:=h.lt;have ch:=h.far;have hf:=Jas g t bs E 1 n w h (by omega) hn;go_enter Tryz.func213,Tryz.ntmps213
 go_wp2_with fail
 refine hf.mono ?_;rintro e w1 ⟨bx,⟨y,rfl⟩|⟨hs,O,v,y,rfl,⟨b,rfl,cc,bj⟩,bG⟩⟩
 ·go_wp2_with fail
  exact⟨rfl,Qg.up bx (by simp[Ug,y])⟩
 have br:=Kt y;have bn:=Jgi y;have bP:=Jky hs;have bc:Hid (Ug t 0 n bs=(Jce t 0 (Qs hs) O).map fun x=>(Ys hs x.1,x.2)):=by show _=_;simp only[Ug,y]
 have ca:Hid (hs.length=n):=br;have ba:Hid (hs.length≤64):=by show _≤_;omega
 clear hf y br;go_wp2_with fail
 go_loopw [8,16] (fun bZ i wr=>∃ k:Nat,k≤hs.length∧i=.int .i64 k∧bZ=.int .i64 (Qs (hs.take k):Nat)∧wr=w1) (fun _ i _=>hs.length-(intOf i).toNat)
 case atStart=>exact⟨0,by omega,rfl,rfl,rfl⟩
 case round=>
  obtain⟨k,cj,rfl,rfl,rfl⟩:=hrel;by_cases Z:k<hs.length
  ·have Y:=ba.out;obtain⟨b1,cu,bf,cf,bC⟩:=bj.at (i:=k) (by simpa using Z);simp only[Oc9,Oh2]at bf;obtain⟨rfl,rfl,_⟩:=bf;rw[Od9,Od0]at bC;unfold uv at bC;have K:=Jeq (hs.take k) hs[k];rw[←Oc4 Z]at K;have bz:=bn _ (Ob3 Z);have bQ:=Ja9 hs k;generalize hs[k]=q at *;have bR:q<2:=bz;have bA:=Jp9 q bR;have cn:Qs (hs.take k)≤64:=Ob2 bQ (Ob2 bP Y);clear bz;rw[bA]at K;have bE:Hid _:=K;clear K bA;generalize Qs (hs.take k)=p at *;go_wp2;go_roundw
   case rel=>
    refine⟨k+1,by omega,by go_num,?_,trivial⟩;rw[bE.out];go_num
   case measure=>simp[intOf];omega
  have bO:k=hs.length:=by omega
  subst bO;rw[Of2];have Y:=ba.out;go_wp2_with fail
  refine(Jgk g wr).mono ?_;rintro e bB ⟨rfl,U⟩;have bH:=bG.below U;have bL:=bj.below U;have X:=bx.trans (Jt.of_below U g);have bN:=(Jao (.func (.func 281) #[.pointer (some ⟨g,0,none⟩)] #[]) (.func (.func 282) #[.pointer (some ⟨g,0,none⟩)] #[]) (.func (.func 283) #[.pointer (some ⟨g,0,none⟩)] #[]) (.func (.func 284) #[.pointer (some ⟨g,0,none⟩)] #[]) bB).1;have bi:=Jom g t O E (Qs hs) bB bH bU (by omega);have R:Hid (Jce t 0 (Qs hs) O=Yl t (Qs hs) O):=rfl;go_wp2_with fail
  refine bi.mono ?_;rintro e w4 ⟨H,⟨D,rfl⟩|⟨vs,rest,v,D,rfl,bV,bI⟩⟩
  ·go_wp2_with fail
   exact⟨rfl,Qg.up (X.trans H) (by rw[bc.out,R.out,D];rfl)⟩
  have bY:=Jb1 (R.out.trans D);obtain⟨a,cap,rfl,bX,cb⟩:=bV.toR;have bM:=Jb7 bL H (by omega);clear bi bN;have bJ:=Jgo b hs a cap hs.length vs w4 Y bn (by omega) (by omega) bM bX;have bD:Hid (Ug t 0 n bs=some (Ys hs vs,rest)):=by show _=_;rw[bc.out,R.out,D];rfl
  clear D bY;go_wp2_with fail
  refine bJ.mono ?_;rintro e cv ⟨⟨v,rfl,bW⟩,bh⟩;have bT:=(X.trans H).size;go_wp2_with fail
  go_ret
  obtain⟨bb,rfl,bK,bS⟩:=bW;exact Qg.ok ((X.trans H).trans (Jt.of_below bh g)) bD.out ⟨bb,rfl,Ob2 bT bK,bS⟩ (bI.below bh)
end
end Go.Proofs.YtpchafocmlhmbaaGreatDoor
