/- Rows in memory; what a table is, and in which ways it can be written: the program's own checks. -/
import Derived.Test.YtkdojacdolidfaaGreatDoorKa
import Derived.RangeFuncNested
import Derived.RangeFuncBound
import Derived.Shelf.RegionOpen
import Derived.OwnWalkIn
import Derived.LoopNIn
import Derived.LoopIn
import Derived.Deep.AppendLies
import Derived.Deep.DrawnRows
import Derived.Deep.RegionHeld3
import Derived.Lib.BufferWrite
import Derived.Lib.LazyBuf
import Derived.Deep.DeepCutAuto
set_option maxHeartbeats 2000000
set_option maxRecDepth 100000
namespace Go.Proofs.YtkdojacdolidfaaGreatDoor
section
open Go.RowKit Tryz
def iv (n:Int):Value:=.int .i64 n
abbrev Kc (w:World)(a:Option Addr)(ns:List Int):Prop:=Uh w a (ns.map iv)
theorem Kc.at {w a ns}(h:Kc w a ns){i}(hi:i<ns.length):∃ b o,a=some ⟨b,o,none⟩/\b<w.heap.size/\w.cell? ⟨b,o+i,none⟩=some (.int .i64 ns[i]):=by
 obtain⟨b,o,y,hb,H⟩:=Uh.at h (i:=i) (by simpa using hi);exact⟨b,o,y,hb,by rw[H];simp[iv]⟩
def Je1 (h:Option Addr×Nat)(r:List V):Value:=.slice h.1 r.length h.2
structure Zd (w:World) (a:Option Addr) (hs:List (Option Addr×Nat)) (rs:List (List V)):Prop where
 len:hs.length=rs.length
 cells:Uh w a (List.zipWith Je1 hs rs)
 rows:∀ (i:Nat) h r,hs[i]?=some h->rs[i]?=some r->Jv w h.1 r
theorem Zd.below {w w' a hs rs}(h:Zd w a hs rs)(hb:Below w.heap.size w w'):Zd w' a hs rs:=
 ⟨h.len,h.cells.below hb,fun i x r y hr=>(h.rows i x r y hr).below hb⟩
theorem Zd.at {w a hs rs}(h:Zd w a hs rs){i}(hi:i<rs.length):
  ∃ b o y rc,a=some ⟨b,o,none⟩/\b<w.heap.size/\w.cell? ⟨b,o+i,none⟩=some (.slice y rs[i].length rc)/\Jv w y rs[i]:=by
 have K:i<hs.length:=by rw[h.len];exact hi
 obtain⟨b,o,H,hb,I⟩:=h.cells.at (i:=i) zt;exact⟨b,o,hs[i].1,hs[i].2,H,hb,by rw[I];simp[Je1],h.rows i hs[i] rs[i] (by simp[K]) (by simp[hi])⟩
def Jnd (t:Int):Bool:=decide (1<=t/\t<=3)
theorem zaF {p:Prop}(h:p:=by
 go_enter func60,ntmps60
 go_wp2;go_ret
 refine⟨Qr ?_,rfl⟩;cases b
 ·rfl
 have:=(I.out.1 rfl).1;omega):p:=h
theorem Kjg a cap ts w(Y:ts.length<=maxLen)(bf:Kc w a ts)b(hb:b=true↔(1<=ts.length/\ts.length<=6)/\∀ j (y:j<ts.length),Jnd ts[j]=true):
  Calls prog 60 #[.slice a ts.length cap] w fun e w'=>e=.returned (.bool b)/\w'=w:=by
 unfold maxLen at Y;have I:=zh hb;clear hb;by_cases bk:ts.length<1
 ·exact zaF
 by_cases hl:6<ts.length
 ·exact zaF
 go_enter func60,ntmps60
 go_wp2;go_loop [15] (fun i=>∃ k:Nat,k<=ts.length/\i=.int .i64 k/\Hid (∀ j (y:j<ts.length),j<k->Jnd ts[j]=true)) (fun i=>ts.length-(intOf i).toNat)
 case atStart=>exact⟨0,Ob7 _,rfl,fun j _ y=>absurd y (Oe0 _)⟩
 case round=>
  obtain⟨k,bj,rfl,O⟩:=hrel;by_cases U:k<ts.length
  ·obtain⟨b1,br,rfl,bh,x1⟩:=bf.at U;have K:=Jlh ts[k] w;cases ho:Jnd ts[k]
   ·have M:=zh ho;have H:decide (1<=ts[k]/\ts[k]<=3)=false:=ho;rw[H]at K;clear ho H;go_wp2_with (go_at_call 88;refine K.mono ?_;rintro e w' ⟨rfl,Z⟩;subst w')
    go_ret
    refine⟨Qr ?_,rfl⟩;cases b
    ·rfl
    have:=(I.out.1 rfl).2 k U;rw[M.out]at this;exact absurd this zd
   have M:=zh ho;have H:decide (1<=ts[k]/\ts[k]<=3)=true:=ho;rw[H]at K;clear ho H;go_wp2_with (go_at_call 88;refine K.mono ?_;rintro e w' ⟨rfl,Z⟩;subst w')
   go_round
   case rel=>
    refine⟨k+1,zo,zn,fun j y bi=>?_⟩;by_cases e:j=k
    ·subst e;exact M.out
    exact O.out j y zo
   case measure=>simp[intOf];omega
  go_wp2;go_ret
  exact⟨Qr (I.out.2 ⟨zo,fun j y=>O.out j y zo⟩).symm,rfl⟩
theorem Kjr a a2 cap bf hs ts w(bi:hs.length<=maxLen)(bk:Kc w a hs)(hy:Kc w a2 ts)b(hb:b=true↔hs.length=ts.length/\∀ j (y:j<hs.length),way (ts.getD j 0) hs[j]=true):
  Calls prog 46 #[.slice a hs.length cap,.slice a2 ts.length bf] w fun e w'=>e=.returned (.bool b)/\w'=w:=by
 unfold maxLen at bi;have I:=zh hb;clear hb;by_cases hl:hs.length=ts.length
 ·have O:=zh hl;have bh:((hs.length:Int) != (ts.length:Int))=false:=by simp[hl]
  clear hl;go_enter func46,ntmps46
  go_wp2;go_loop [14] (fun i=>∃ k:Nat,k<=hs.length/\i=.int .i64 k/\Hid (∀ j (y:j<hs.length),j<k->way (ts.getD j 0) hs[j]=true)) (fun i=>hs.length-(intOf i).toNat)
  case atStart=>exact⟨0,Ob7 _,rfl,fun j _ y=>absurd y (Oe0 _)⟩
  case round=>
   obtain⟨k,bA,rfl,U⟩:=hrel;by_cases Y:k<hs.length
   ·have Z:k<ts.length:=by have:=O.out;omega
    obtain⟨b1,bB,rfl,br,x1⟩:=bk.at Y;obtain⟨b2,bC,rfl,bx,bD⟩:=hy.at Z;have H:=Ja3 ts[k] hs[k] w;have M:Hid (ts.getD k 0=ts[k]):=by show _=_;simp[Z]
    cases ho:way ts[k] hs[k]
    ·have K:=zh ho;rw[ho]at H;clear ho;go_wp2_with (go_at_call 62;refine H.mono ?_;rintro e w' ⟨rfl,bj⟩;subst w')
     go_ret
     refine⟨Qr ?_,rfl⟩;cases b
     ·rfl
     have:=(I.out.1 rfl).2 k Y;rw[M.out,K.out]at this;exact absurd this zd
    have K:=zh ho;rw[ho]at H;clear ho;go_wp2_with (go_at_call 62;refine H.mono ?_;rintro e w' ⟨rfl,bj⟩;subst w')
    go_round
    case rel=>
     refine⟨k+1,zo,zn,fun j y bz=>?_⟩;by_cases e:j=k
     ·subst e;rw[M.out];exact K.out
     exact U.out j y zo
    case measure=>simp[intOf];omega
   go_wp2;go_ret
   exact⟨Qr (I.out.2 ⟨O.out,fun j y=>U.out j y zo⟩).symm,rfl⟩
 have bh:((hs.length:Int) != (ts.length:Int))=true:=by simp;omega
 go_enter func46,ntmps46
 go_wp2;go_ret
 refine⟨Qr ?_,rfl⟩;cases b
 ·rfl
 exact absurd (I.out.1 rfl).1 hl
theorem Kkh a a2 cap bi vs ts w(bk:vs.length<=maxLen)(br:Jv w a vs)(hy:Kc w a2 ts)b(hb:b=true↔vs.length=ts.length/\∀ j (y:j<vs.length),okB (ts.getD j 0) vs[j].k vs[j].n vs[j].s=true):
  Calls prog 61 #[.slice a vs.length cap,.slice a2 ts.length bi] w fun e w'=>e=.returned (.bool b)/\Below w.heap.size w w':=by
 unfold maxLen at bk;have K:=zh hb;clear hb;by_cases hl:vs.length=ts.length
 ·have Y:=zh hl;have bj:((vs.length:Int) != (ts.length:Int))=false:=by simp[hl]
  clear hl;go_enter func61,ntmps61
  go_wp2;go_loopw [14] (fun i wr=>∃ k:Nat,k<=vs.length/\i=.int .i64 k/\Below w.heap.size w wr/\Hid (∀ j (y:j<vs.length),j<k->okB (ts.getD j 0) vs[j].k vs[j].n vs[j].s=true)) (fun i _=>vs.length-(intOf i).toNat)
  case atStart=>exact⟨0,Ob7 _,rfl,Oa5 _ _,fun j _ y=>absurd y (Oe0 _)⟩
  case round=>
   obtain⟨k,bB,rfl,I,Z⟩:=hrel;by_cases bf:k<vs.length
   ·have bh:k<ts.length:=by have:=Y.out;omega
    obtain⟨b1,bC,rfl,bx,x1,x2,bE⟩:=(br.below I).at bf;obtain⟨b2,bD,rfl,bz,bG⟩:=Kc.at (hy.below I) bh;have U:Hid (ts.getD k 0=ts[k]):=by show _=_;simp[bh]
    have H:=fun (W:World)=>Jmd vs[k].k vs[k].n vs[k].s ts[k] W;cases ho:okB ts[k] vs[k].k vs[k].n vs[k].s
    ·have O:=zh ho;rw[ho]at H;have M:=zh H;clear H;clear ho;go_wp2_with fail
     go_region_with (first|(go_at_call 89;refine(M.out _).mono ?_;rintro e w' ⟨rfl,hb⟩))
     all_goals
      go_wp2;go_ret
      refine⟨Qr ?_,Jb I (Qx (Jw hb))⟩;cases b
      ·rfl
      have:=(K.out.1 rfl).2 k bf;rw[U.out,O.out]at this;exact absurd this zd
    have O:=zh ho;rw[ho]at H;have M:=zh H;clear H ho;go_wp2_with fail
    go_region_with (first|(go_at_call 89;refine(M.out _).mono ?_;rintro e w' ⟨rfl,hb⟩))
    all_goals
     go_wp2;go_roundw
     case rel=>
      refine⟨k+1,zo,zn,Jb I (Qx (Jw hb)),fun j y bA=>?_⟩;by_cases e:j=k
      ·subst e;rw[U.out];exact O.out
      exact Z.out j y zo
     case measure=>simp[intOf];omega
   go_wp2;go_ret
   exact⟨Qr (K.out.2 ⟨Y.out,fun j y=>Z.out j y zo⟩).symm,I⟩
 have bj:((vs.length:Int) != (ts.length:Int))=true:=by simp;omega
 go_enter func61,ntmps61
 go_wp2;go_ret
 refine⟨Qr ?_,Oa5 _ _⟩;cases b
 ·rfl
 exact absurd (K.out.1 rfl).1 hl
end
section
open Go.RowKit Go.Shelf Tryz
attribute [local go_sem] Oc0
abbrev Ck (len:Nat):Type:={x:Nat×Nat // x.1+x.2<=len/\1<=x.2/\x.2<=64}
def Jaa (len g i:Nat):Nat×Nat:=(i*g,min g (len-i*g))
def cks (len g k:Nat):List (Nat×Nat):=(List.range k).map (Jaa len g)
def ckN (len g:Nat):Nat:=(len+g-1) / g
theorem Jbj len g k:cks len g (k+1)=cks len g k++[Jaa len g k]:=by simp[cks,List.range_succ]
theorem Jbp len g k:(cks len g k).length=k:=by simp[cks]
theorem Jqs {len g k}(H:1<=g)(h:k<ckN len g):k*g<len:=by
 unfold ckN at h;have y:k+1<=(len+g-1) / g:=h;rw[Nat.le_div_iff_mul_le zo]at y;rw[Of5]at y;omega
theorem Khi {len g k}(y:1<=g)(h:k*g<len):k<ckN len g:=by
 unfold ckN;have:k+1<=(len+g-1) / g:=by
  rw[Nat.le_div_iff_mul_le zo,Of5];omega
 exact this
def KpC (H y:Nat)(W I:World):Prop:=I.heap[H]?=W.heap[H]?/\I.heap[y]?=W.heap[y]?
theorem Kkd n(bU:1<=n)l M I b off len cap g(bi:1<=g)(bO:g<=64)(hlen:len<=1000)(bN:len<=cap)(J bf:List (Ck len)->World->Prop)(bJ:∀ H (x:Ck len) W,J H W->H.length<ckN len g->YieldAt Fence.wide (n-1) prog l #[.slice (some ⟨b,off+x.1.1,none⟩) x.1.2 x.1.2] W fun e K=>
   (e=.returned (.bool true)/\J (H++[x]) K/\KpC M I W K)\/(e=.returned (.bool false)/\bf (H++[x]) K))(bH:∀ s W,J s W->J s W.drew)W(bE:W.cell? ⟨M,0,none⟩=some (.slice (some ⟨b,off,none⟩) len cap))(bD:W.cell? ⟨I,0,none⟩=some (.int .i64 (g:Int)))(h0:J [] W):
  CallsIn Fence.wide n prog 90 #[.func (.yield l) #[] #[],.pointer (some ⟨M,0,none⟩),.pointer (some ⟨I,0,none⟩)] W fun e K=>(∃ v,e=.returned v) /\
   ((∃ y,y.map Subtype.val=cks len g (ckN len g)/\J y K)\/(∃ H,(∃ k,k<=ckN len g/\H.map Subtype.val=cks len g k)/\bf H K)):=by
 refine callsIn_of_wp func90 rfl trivial ?_ rfl;simp only[ntmps90,Om3,List.length_cons,List.length_nil,Nat.reduceAdd,Nat.reduceSub,Ok9,Array.replicate_zero,Om4,Ol2,List.nil_append,List.cons_append];gi_wp2
 gi_loopw [4] (fun i wr=>∃ (k:Nat) (y:List (Ck len)),k<=ckN len g/\i=.int .i64 ((k*g:Nat):Int)/\Hid (y.map Subtype.val=cks len g k)/\J y wr/\KpC M I W wr)
  (fun i _=>len+64-(intOf i).toNat)
 case atStart=>exact⟨0,[],Ob7 _,zS,rfl,h0,rfl,rfl⟩
 case round=>
  obtain⟨k,y,bP,rfl,O,bh,bj,bk⟩:=hrel;have c1:wr.cell? ⟨M,0,none⟩=some (.slice (some ⟨b,off,none⟩) len cap):=by rw[Oc3 (w:=W) bj];exact bE
  have c2:wr.cell? ⟨I,0,none⟩=some (.int .i64 (g:Int)):=by rw[Oc3 (w:=W) bk];exact bD
  by_cases bz:k*g<len
  ·have bx:=Khi bi bz;have U:Hid (cks len g (k+1)=cks len g k++[(k*g,min g (len-k*g))]):=Jbj len g k;have bB:Hid ((k+1)*g=k*g+g):=Of5 k g;have bM:y.length=k:=by have:=congrArg List.length O.out;rw[Oa6,Jbp]at this;exact this
   generalize k*g=i at *;obtain⟨m,Y,Z⟩:∃ m:Nat,(i+m<=len/\1<=m/\m<=64)/\Hid (m=min g (len-i)):=⟨min g (len-i),zo,rfl⟩;rw[<-Z.out]at U;have bT:(if len-i<g then ((len-i:Nat):Int)else (g:Int))=(m:Int):=by have:=Z.out;split<;>omega
   obtain⟨fn,tmps,assign,body,hy,hR⟩:=bJ y ⟨(i,m),Y⟩ wr.drew (bH _ _ bh) zo;dsimp only at hy;clear bM;have bL:=Y;obtain⟨bQ,bR,bS⟩:=Y;gi_wp2
   gi_region
   gi_wp2
   refine hR.mono ?_;rintro e bC (⟨rfl,bG,bK,br⟩|⟨rfl,bI⟩)
   ·have c3:bC.cell? ⟨I,0,none⟩=some (.int .i64 (g:Int)):=by rw[Oc3 (w:=wr.drew) br];exact c2
    gi_wp2
    go_roundw
    case rel=>exact⟨k+1,y++[⟨(i,m),bL⟩],bx,by rw[bB.out];go_num,by show _=_;rw[Ob8,O.out,U.out];rfl,bG,bK.trans bj,br.trans bk⟩
    case measure=>simp[intOf];omega
   gi_wp2
   refine bodyPost_ret (results_none rfl _ _ _) rfl ?_;exact⟨⟨_,rfl⟩,.inr ⟨_,⟨k+1,bx,by rw[Ob8,O.out,U.out];rfl⟩,bI⟩⟩
  have bA:Hid (k=ckN len g):=by
   rcases Oc1 k (ckN len g)with h'|h'
   ·exact absurd (Jqs bi h') bz
   ·show k=_;omega
  gi_wp2
  go_end0
  exact⟨⟨_,rfl⟩,.inl ⟨y,by rw[O.out,bA.out],bh⟩⟩
end
section
open Go.RowKit Tryz
def WAt (w:World)(B g:Nat)(t:Int)(bs:List UInt8):Prop:=
 B<=g/\∃ sv,w.heap[g]?=some (.cells #[.int .i64 t,sv] 201 (0,0))/\Jo w B 5 sv (bs.map bv)/\sv.ownBlock≠some g
def Ya (w:World)(g k:Nat):Prop:=k<w.heap.size/\k≠g/\∀ sv,w.cell? ⟨g,1,none⟩=some sv->sv.ownBlock≠some k
structure Ky (w w':World) (g:Nat):Prop where
 os:w'.os=w.os
 tape:w'.tape=w.tape
 output:w'.output=w.output
 size:w.heap.size<=w'.heap.size
 block:∀ k,Ya w g k->w'.heap[k]?=w.heap[k]?/\Ya w' g k
theorem Ky.refl w g:Ky w w g:=⟨rfl,rfl,rfl,Oa2 _,fun _ h=>⟨rfl,h⟩⟩
theorem Ky.trans {a b c g}(h:Ky a b g)(k:Ky b c g):Ky a c g:=
 ⟨k.os.trans h.os,k.tape.trans h.tape,k.output.trans h.output,Ob2 h.size k.size,fun i hi=>⟨((k.block i (h.block i hi).2).1).trans (h.block i hi).1,(k.block i (h.block i hi).2).2⟩⟩
theorem Ky.of_below {w w' g}(hb:Below w.heap.size w w')(H:g<w.heap.size):Ky w w' g:=
 ⟨hb.os,hb.tape,hb.output,hb.size,fun k y=>⟨hb.block k y.1,by have:=hb.size;have:=y.1;omega,y.2.1,fun sv hs=>y.2.2 sv (by rw[<-hs];exact(Oc3 (w:=w) (hb.block g H)).symm)⟩⟩
theorem WAt.lt {w B g t bs}(h:WAt w B g t bs):g<w.heap.size:=by
 obtain⟨_,sv,H,_⟩:=h;exact zat
theorem WAt.below {w w' B g t bs}(h:WAt w B g t bs)(hb:Below w.heap.size w w'):WAt w' B g t bs:=by
 have hl:=h.lt;obtain⟨y,sv,H,ho,I⟩:=h;exact⟨y,sv,by rw[hb.block g hl];exact H,ho.below hb,I⟩
theorem WAt.cells {w B g t bs}(h:WAt w B g t bs):
  ∃ sv,w.cell? ⟨g,0,none⟩=some (.int .i64 t)/\w.cell? ⟨g,1,none⟩=some sv/\w.frozen? ⟨g,1,none⟩=false/\Jo w B 5 sv (bs.map bv)/\sv.ownBlock≠some g:=by
 obtain⟨_,sv,y,ho,H⟩:=h;exact⟨sv,by simp[World.cell?,y],by simp[World.cell?,y],by simp[World.frozen?,y],ho,H⟩
theorem WAt.apart {w B g t bs}(h:WAt w B g t bs){k}(I:k<B)(hl:k<w.heap.size):Ya w g k:=by
 obtain⟨sv,_,y,_,ho,_⟩:=h.cells;have H:=h.1;refine⟨hl,zo,fun sv' hs e=>?_⟩;rw[y]at hs;cases hs
 have:=(Je ho e).1;omega
theorem WAt.step {w K w1 B g t bs bs' sv sv'}(h:WAt w B g t bs)(O:w.cell? ⟨g,1,none⟩=some sv)(hb:Below w.heap.size w K)(H:K.grownBy w1 sv.ownBlock)(bB:Jo w1 B 5 sv' (bs'.map bv))(bj:sv'.ownBlock=sv.ownBlock\/sv'.ownBlock=some K.heap.size):
  WAt (w1.setCell ⟨g,1,none⟩ sv') B g t bs'/\Ky w (w1.setCell ⟨g,1,none⟩ sv') g:=by
 have hl:=h.lt;obtain⟨br,I,U,ho,Z⟩:=h;have bk:I=sv:=by simpa [World.cell?,U] using O
 subst bk;have bE:=hb.size;have bz:K.heap[g]?=some (.cells #[.int .i64 t,I] 201 (0,0)):=by rw[hb.block g hl];exact U
 have bx:w1.heap[g]?=some (.cells #[.int .i64 t,I] 201 (0,0)):=by rw[H.block g zo (Oc5 Z)];exact bz
 have bf:sv'.ownBlock≠some g:=by
  rcases bj with e|e
  ·rw[e];exact Z
  rw[e];intro M;simp at M;omega
 have bi:(w1.setCell ⟨g,1,none⟩ sv').heap[g]?=some (.cells #[.int .i64 t,sv'] 201 (0,0)):=by
  simp[World.setCell,Array.getElem?_modify,bx]
 have bh:∀ k,k≠g->(w1.setCell ⟨g,1,none⟩ sv').heap[k]?=w1.heap[k]?:=fun k y=>Oa4 _ _ _ _ y;have bD:(w1.setCell ⟨g,1,none⟩ sv').heap.size=w1.heap.size:=by simp[World.setCell]
 have bC:=H.size;refine⟨⟨br,sv',bi,?_,bf⟩,⟨H.os.trans hb.os,H.tape.trans hb.tape,H.output.trans hb.output,zo,?_⟩⟩
 ·exact Jl bB fun k y=>bh k fun e=>bf (by rw[y,e])
 intro k y;have Y:=y.2.2 I O;have bA:=y.1;refine⟨?_,zo,y.2.1,fun s hs=>?_⟩
 ·rw[bh k y.2.1,H.block k zo (Oc5 Y),hb.block k bA]
 have:s=sv':=by
  have e:(w1.setCell ⟨g,1,none⟩ sv').cell? ⟨g,1,none⟩=some sv':=by simp[World.cell?,bi]
  rw[e]at hs;exact(Oj6 hs).symm
 subst this;rcases bj with e|e
 ·rw[e];exact Y
 rw[e];intro M;simp at M;omega
theorem Zk {w w' g a vs}(h:Jv w a vs)(y:Ky w w' g)(H:∀ b o,a=some ⟨b,o,none⟩->Ya w g b):Jv w' a vs:=
 h.of_block y.size fun b o hb _=>(y.block b (H b o hb)).1
theorem Jde {w w':World}{g:Nat}{a:Option Addr}(H:Ky w w' g)(y:∀ b o,a=some ⟨b,o,none⟩->Ya w g b):∀ b o,a=some ⟨b,o,none⟩->Ya w' g b:=
 fun b o hb=>(H.block b (y b o hb)).2
theorem Jc2 {w w' B g t bs}(h:WAt w B g t bs)(hb:Below w.heap.size w w'){k}(I:w.heap.size<=k)(H:k<w'.heap.size):Ya w' g k:=by
 have hl:=h.lt;obtain⟨sv,_,y,_,ho,_⟩:=h.cells;refine⟨H,zo,fun s hs e=>?_⟩;have:w'.cell? ⟨g,1,none⟩=some sv:=by rw[Oc3 (w:=w) (hb.block g hl)];exact y
 rw[this]at hs;cases hs
 have:=(Je ho e).2;omega
theorem Ua (w:World)(v:Value)(e:TypeId):∀ (j:Nat) (u:Value),[v][j]?=some u->(w.alloc (.cells #[v] e)).cell? ((⟨w.heap.size,0,none⟩:Addr).add j)=some u:=by
 intro j u y;cases j with
 |zero=>simp at y;subst y;simp[Addr.add]
 |succ j=>simp at y
theorem Jnf (w:World)(o:Obj)(b i:Nat)(h:b<w.heap.size):(w.alloc o).cell? ⟨b,i,none⟩=w.cell? ⟨b,i,none⟩:=
 Oc3 (Oa9 w o b h)
theorem Jh9 (w:World)(o:Obj)(b i:Nat)(h:b<w.heap.size):(w.alloc o).frozen? ⟨b,i,none⟩=w.frozen? ⟨b,i,none⟩:=
 Ol7 (Oa9 w o b h)
theorem Kgh n:Value.int .u8 (n % 256)=bv (low n):=by
 unfold bv low;congr 1
 simp;omega
theorem Zq B g t n bs w(h:WAt w B g t bs)(hl:bs.length<=100000):
  Calls prog 122 #[.pointer (some ⟨g,0,none⟩),.int .i64 n] w fun e w'=>e=.returned (.tuple #[])/\WAt w' B g t (bs++[low n])/\Ky w w' g:=by
 have Y:=h.lt;have U:=h.1;obtain⟨sv,c0,c1,c2,ho,I⟩:=h.cells;have hlen:(bs.map bv).length<=100000:=by simpa using hl
 go_enter func122,ntmps122
 go_wp2_with (at_builtin;go_must (refine Ks zR _ _ 199 5 _ 1 Jfa zR zd zK zR B sv _ zR (ho.alloc _) ⟨w.heap.size,0,none⟩ 1 [.int .u8 (n % 256)] zR (by exact Ua _ _ _) (by intro u K;simp at K;subst K;rfl) (by simp only[List.length_cons,List.length_nil];omega) zt ?_);intro sv' w1 y H M;obtain⟨a2,O,rfl,_⟩:=y.cells;have Z:=H.cell_far ⟨g,1,none⟩ zt (Oc5 I);have bf:=H.frozen_far ⟨g,1,none⟩ zt (Oc5 I))
 go_end0
 rw[Kgh]at y;have:=h.step (bs':=bs++[low n]) c1 ((Oa5 _ _).alloc (Oa2 _) _) H (by simpa using y) M;simp only[Oa8,Oa6,List.length_cons,List.length_nil]at this;exact⟨rfl,this⟩
theorem Jka B g t n bs w(h:WAt w B g t bs)(hl:bs.length<=100000):
  Calls prog 172 #[.pointer (some ⟨g,0,none⟩),.int .i64 n] w fun e w'=>e=.returned (.tuple #[])/\WAt w' B g t (bs++le8 (u64 n))/\Ky w w' g:=by
 have U:IntKind.u64.wrap n=(u64 n:Int):=by rw[Oh5];unfold u64;omega
 have bL:=Jp3 n;generalize u64 n=y at *;go_enter func172,ntmps172
 go_wp2;go_loopw [5] (fun i wr=>∃ k:Nat,k<=8/\i=.int .i64 k/\WAt wr B g t (bs++(List.range k).map fun i=>UInt8.ofNat (y / 256 ^ i % 256))/\Ky w wr g) (fun i _=>8-(intOf i).toNat)
 case atStart=>exact⟨0,zo,rfl,by simpa using h,Ky.refl _ _⟩
 case round=>
  obtain⟨k,bI,rfl,I,Z⟩:=hrel;by_cases bJ:k<8
  ·have Y:=I.lt;have bH:=I.1;obtain⟨sv,c0,c1,c2,ho,bf⟩:=I.cells;generalize K:bs++((List.range k).map fun i=>UInt8.ofNat (y / 256 ^ i % 256))=H at *;have hlen:(H.map bv).length<=100010:=by rw[<-K];simp;omega
   have bi:Hid _:=K;clear K;obtain⟨c,bz⟩:∃ c:Nat,c=8*k:=⟨_,rfl⟩;have bM:IntKind.i64.wrap (8*(k:Int))=(c:Int):=by rw[Od4];omega
   obtain⟨q,hq⟩:∃ q:Nat,q=y / 256 ^ k % 256:=⟨_,rfl⟩;have bN:IntKind.u8.wrap ((y:Int) / 2 ^ min c 64)=(q:Int):=by
    have e:min c 64=8*k:=zo;have bk:((2:Int) ^ (8*k))=((256 ^ k:Nat):Int):=by
     rw[Int.natCast_pow,Int.pow_mul];rfl
    rw[e,hq,bk,IntKind.wrap_u8];omega
   have bj:Hid (Value.int .u8 (q:Int)=bv (UInt8.ofNat (y / 256 ^ k % 256))):=by
    show Value.int .u8 (q:Int)=_;rw[hq];unfold bv;congr 1;simp
   clear bz hq;obtain⟨bG,bA,bC,bD,bE⟩:=info_parts Jfa;go_wp2_with fail
   go_region_law
    ((refine step_append_lies _ zR _ _ _ zR B 5 bG _ 1 1 zK bA bC bD bE rfl zo sv (H.map bv).length (H.map bv) zR ((World.ownsRow.drew (ho.alloc _)))
       ⟨wr.heap.size,0,none⟩ 1 1 [.int .u8 (q:Int)] zR zR (by exact Ua wr _ 5) (by intro u U;simp at U;subst U;rfl)
       zo (by unfold maxLen;omega) zo zt (wr.heap.size+1) zS ?_;intro br cap w1 bh M bx bK;have bO:w1.cell? ⟨g,1,none⟩=some sv:=(by rw[M.cell_far _ zt (Oc5 bf)];exact(Jnf wr _ g 1 Y).trans c1);have bP:w1.frozen? ⟨g,1,none⟩=false:=(by rw[M.frozen_far _ zt (Oc5 bf)];exact(Jh9 wr _ g 1 Y).trans c2)))
   all_goals
    go_wp2;go_roundw
    case rel=>
     rw[bj.out]at bh;have O:=I.step (bs':=H++[UInt8.ofNat (y / 256 ^ k % 256)]) (sv':=.slice (some ⟨br,0,none⟩) ((List.map bv H).length+1) cap) c1 (((Oa5 _ _).alloc (Oa2 _) _).drew) M (by simpa [Jo] using bh)
      (by
        rcases bx with e|e
        ·exact .inl e.symm
        right;simp[Value.ownBlock,e])
     simp only[Oa6]at O;refine⟨k+1,zo,zn,?_,Z.trans O.2⟩;rw[Oj7,Ob8,<-Od8,bi.out];exact O.1
    case measure=>simp[intOf];omega
  have bB:k=8:=zo;subst bB;go_wp2;go_end0
  exact⟨rfl,I,Z⟩
theorem Jo.form {w B e sv xs}(h:Jo w B e sv xs):∃ a ln c,sv=.slice a ln c:=by
 obtain⟨a,c,hv,_⟩:=h.cells;exact⟨a,_,c,hv⟩
theorem Jsr s:Lib.strCells s=s.toList.map bv:=by
 rw[Og4];rfl
theorem Jlc w B ty sv bs(H:Jo w B 5 sv (bs.map bv))(bh:bs≠[])s(hlen:bs.length+s.size<=1000000)(Z:B<=w.heap.size):
  ∃ sv' w',(Builtin.append_ #[199,9] ty #[sv,.string s]).run prog w=.ok sv' w'/\Jo w' B 5 sv' ((bs++s.toList).map bv)/\w.grownBy w' sv.ownBlock/\(sv'.ownBlock=sv.ownBlock\/sv'.ownBlock=some w.heap.size):=by
 obtain⟨i,hi,M,I,K⟩:=info_parts Jfa;have hl:(bs.map bv).length=bs.length:=zS;obtain⟨bj,w',hr,U,Y,_⟩:=Lib.run_append_own_string (P:=prog) w B 199 9 ty 5 i zK zK hi M I K sv _ _ H s (by unfold maxLen;omega) zo Z;refine⟨bj,w',hr,?_,Y,?_⟩
 ·unfold Jo;rw[Ob8,<-Jsr,Oa8,Lib.strCells_length];exact U
 rcases H.2 with⟨_,h0⟩|⟨g,cap,O,rfl,bk,bf,bz,br,bx,bA⟩
 ·rw[hl]at h0;exact absurd (Od3.1 h0) bh
 by_cases bi:(bs.map bv).length+s.size<=cap
 ·have y:=Lib.run_append_room_string (P:=prog) w 199 9 ty 5 i zK zK hi I g (bs.map bv).length cap O bf s bi zo;rw[hr]at y;injection y with e1 _;subst e1;exact .inl rfl
 have y:=Lib.run_append_grow_string (P:=prog) w 199 9 ty 5 i _ zK zK hi M ⟨g,0,none⟩ (bs.map bv).length cap (bs.map bv) (by rw[I,Nat.mul_one]) (World.ownsRow.cells H (g:=g) rfl) s zo zo (by rw[K];exact growslice_fits zo zo);rw[hr]at y;injection y with e1 _;subst e1;exact .inr rfl
theorem Jks {H o a w y Q E}(U:o.guard=none)sl x(ho:o.op=.call {callee:=.builtin .append,args:=#[sl,x],argTypes:=#[199,9]})B sv bs(hs:a.eval sl=sv)(Z:Jo w B 5 sv (bs.map bv))(Y:bs≠[])s(bh:a.eval x=.string s)(hlen:bs.length+s.size<=1000000)(O:B<=w.heap.size)(h:∀ sv' w',Jo w' B 5 sv' ((bs++s.toList).map bv)->w.grownBy w' sv.ownBlock->(sv'.ownBlock=sv.ownBlock\/sv'.ownBlock=some w.heap.size)->y (a.put o.dst sv') w'):
  if Region.wanted o (yielded H a.tmps)=true then Oper.wp prog o a w y Q else E:=by
 have bf:Region.wanted o (yielded H a.tmps)=true:=by simp[Region.wanted,U]
 rw[if_pos bf];obtain⟨bi,w',hr,I,K,M⟩:=Jlc w B o.type sv bs Z Y s hlen O;unfold Oper.wp execOp;simp only[ho,resolve,invoke,builtin,Sem.run_bind,Sem.run_pure,Result.andThen_ok,List.map_toArray,Oe4,Oi4,hs,bh,hr];exact h bi w' I K M
theorem Khe (y n b A:Nat)(M:y<256)(Z:n<18446744073709551616):
  bits BinOp.or IntKind.u8 (y:Int) (bits BinOp.and IntKind.u64 ((n:Int) / 2 ^ b) 1 % 256*2 ^ (A % 8) % 256)=((y ||| ((if n.testBit b then 1 else 0) <<< (A % 8)):Nat):Int):=by
 have H:((n:Int) / 2 ^ b)=((n / 2 ^ b:Nat):Int):=zS;have U:n / 2 ^ b<18446744073709551616:=Nat.lt_of_le_of_lt (Oo6 _ _) Z;have I:bits BinOp.and IntKind.u64 ((n / 2 ^ b:Nat):Int) 1=((n / 2 ^ b % 2:Nat):Int):=by
  have:=u64_and_nat (n / 2 ^ b) 1 U zd;rw[Nat.and_one_is_mod]at this;exact this
 have K:n.testBit b=decide (n / 2 ^ b % 2=1):=On1;rw[H,I,K];have Y:n / 2 ^ b % 2<2:=Ol0 _ zd;have O:A % 8<8:=Ol0 _ zd;generalize n / 2 ^ b % 2=m at *;generalize A % 8=c at *;have key:∀ (m:Fin 2) (c:Fin 8),((m.val:Int) % (256:Int)*(2:Int) ^ c.val % (256:Int))=(((if decide (m.val=1)=true then 1 else 0) <<< c.val:Nat):Int)/\((if decide (m.val=1)=true then 1 else 0) <<< c.val:Nat)<256:=zd;have k:=key ⟨m,Y⟩ ⟨c,O⟩;simp only at k;rw[k.1];exact u8_or_nat y _ M k.2
theorem Jd4 (B g:Nat)(t:Int)bs(y:Nat)a(cap:Nat)ns w(h:WAt w B g t bs)(hl:bs.length<=50000)(cG:y<=64)(cB:ns.length<=64)(cE:∀ n∈ns,n<18446744073709551616)(cH:Uh w a (ns.map uv))(cK:∀ b o,a=some ⟨b,o,none⟩->Ya w g b):
  Calls prog 123 #[.pointer (some ⟨g,0,none⟩),.int .i64 y,.slice a ns.length cap] w fun e w'=>e=.returned (.tuple #[])/\WAt w' B g t (bs++Kk (Ue y ns))/\Ky w w' g:=by
 have cO:y*ns.length<=64*64:=Ol5 cG cB;obtain⟨W,O⟩:∃ W:Nat,W=y*ns.length:=⟨_,rfl⟩;have cj:(y:Int)*(ns.length:Int)=(W:Int):=by rw[O];simp
 obtain⟨nb,bP⟩:∃ nb:Nat,nb=(W+7) / 8:=⟨_,rfl⟩;have cC:((W:Int)+7) / 8=(nb:Int):=zo;have bI:=Jal y ns;generalize bH:Ue y ns=L at *;have cA:∀ W,(Instr.makeSlice 199 (.int .i64 (nb:Int)) (.int .i64 (nb:Int))).run prog W=.ok (.slice (some ⟨W.heap.size,0,none⟩) nb nb) (W.alloc (.cells (madeCells #[.int .u8 0] nb) 5)):=
  fun W=>run_make_row' 199 5 (.int .u8 0) 1 zK Jfa rfl .i64 .i64 nb zo zo W
 have M:Hid (L.length=W):=by show _=_;rw[bI,O]
 have bV:=zh bH;have bA:=zh O;have bf:=zh bP;have cJ:W<=4096:=zo;have cN:nb<=600:=zo;clear bH bI O bP;go_enter func123,ntmps123
 go_wp2_with (go_at_call 165;refine(Jif _ _ zo zo).mono ?_;rintro e w' ⟨rfl,cP⟩;subst w')
 clear cA cj cC;go_loopw [7,19] (fun at_ i wr=>∃ k:Nat,k<=ns.length/\i=.int .i64 k/\at_=.int .i64 ((y*k:Nat):Int)/\wr.rowIs w.heap.size 5 nb (fun j=>.int .u8 (Jag (L.take (y*k)) j:Nat))/\Below w.heap.size w wr) (fun _ i _=>ns.length-(intOf i).toNat)
 case atStart=>
  refine⟨0,zo,rfl,rfl,(Ol3 _ _ _ _).congr fun j _=>?_,(Oa5 _ _).alloc (Oa2 _) _⟩;simp[Jvq]
 case round=>
  obtain⟨k,cL,rfl,rfl,H,I⟩:=hrel;by_cases U:k<ns.length
  ·obtain⟨b1,cS,rfl,cn,x1⟩:=(cH.below I).at (i:=k) (by simpa using U);rw[Od9]at x1;unfold uv at x1;have bU:Hid (∀ b,b<y->L[y*k+b]?=some (ns[k].testBit b)):=by
    intro b hb;rw[<-bV.out];exact Jms y ns k b U hb
   have bR:ns[k]<18446744073709551616:=cE _ (Ob3 U);have bW:=zh bR;clear bR;generalize ns[k]=n at *;have cM:y*k+y<=W:=by
    rw[bA.out,<-Nat.mul_succ];exact Nat.mul_le_mul_left _ U
   generalize bE:y*k=Z at *;have bx:=zh bE;clear bE;go_wp2;go_loopw [7,24] (fun at_ i bT=>∃ b:Nat,b<=y/\i=.int .i64 b/\at_=.int .i64 ((Z+b:Nat):Int)/\bT.rowIs w.heap.size 5 nb (fun j=>.int .u8 (Jag (L.take (Z+b)) j:Nat))/\Below w.heap.size w bT) (fun _ i _=>y-(intOf i).toNat)
   case atStart=>exact⟨0,zo,rfl,rfl,H,I⟩
   case round=>
    clear H I x1 cn;obtain⟨b,hb,rfl,rfl,H,I⟩:=hrel;by_cases cz:b<y
    ·have bK:=bU.out b cz;generalize bD:Z+b=A at *;have cf:A<W:=zo;have br:=zh bD;clear bD;have hq:A / 8<nb:=by rw[bf.out];omega
     have c1:=H.cell hq;have c2:=H.frozen (A / 8);have bL:=Ji4 (L.take A) (A / 8);have bS:∀ j,Jag (L.take (A+1)) j=if j=A / 8 then Jag (L.take A) j ||| ((if n.testBit b then 1 else 0) <<< (A % 8))else Jag (L.take A) j:=by
      intro j;have bG:A<L.length:=by rw[M.out];exact cf
      have cu:L[A]=n.testBit b:=by rw[Oa3 bG]at bK;exact Oj6 bK
      rw[Jss L A j bG,cu]
     have bX:Hid _:=bS;clear bS;generalize bJ:Jag (L.take A) (A / 8)=bZ at c1 bL;have bY:=zh bJ;clear bJ;go_wp2;go_region
     go_wp2;go_roundw
     case rel=>
      refine⟨b+1,zo,zn,?_,(H.set (A / 8) _).congr fun j K=>?_,(I.setCell (p:=⟨w.heap.size,A / 8,none⟩) (Oa2 _) _).drew⟩
      ·have:=br.out;rw[<-this];go_num
      rw[<-On5,br.out,bX.out j];by_cases e:j=A / 8
      ·rw[if_pos e,if_pos e,Khe bZ n b A bL bW.out,e,bY.out]
      rw[if_neg e,if_neg e]
     case measure=>simp[intOf];omega
    have cv:b=y:=zo;subst cv;go_wp2;go_roundw
    case rel=>
     refine⟨k+1,zo,zn,?_,?_,I⟩
     ·have:=bx.out;rw[Nat.mul_succ,this]
     rw[Nat.mul_succ,bx.out];exact H
    case measure=>simp[intOf];omega
  have cy:k=ns.length:=zo;subst cy;have bM:L.take (y*ns.length)=L:=Oc8 (by rw[M.out,bA.out];exact Oa2 _);rw[bM]at H;clear bM;have Y:=h.below I;have bN:=Y.lt;have cI:=Y.1;obtain⟨sv,c0,c1,c2,ho,bQ⟩:=Y.cells;have hlen:(bs.map bv).length<=50000:=by simpa using hl
  have bj:((Kk L).map bv).length=nb:=by rw[Oa6,Qb,M.out,<-bf.out]
  have bz:=zh bj;have cD:∀ j u,((Kk L).map bv)[j]?=some u->wr.cell? ((⟨w.heap.size,0,none⟩:Addr).add j)=some u:=by
   intro j u K;have bO:j<nb:=by
    rw[<-bj];rcases Oc1 j ((Kk L).map bv).length with bh|bh
    ·exact bh
    rw[Ob4 bh]at K;simp at K
   rw[Addr.add_mid,Od0,H.cell bO];have cx:j<(L.length+7) / 8:=by rw[M.out,<-bf.out];exact bO
   simp[Kk,cx,bv]at K;rw[<-K];have:=Ji4 L j;congr 2
   omega
  clear bj;have cb:∀ u∈(Kk L).map bv,u.oneCell'=true:=by
   intro u cF;obtain⟨x,_,rfl⟩:=Of0.1 cF;rfl
  generalize ci:(Kk L).map bv=bB at *;go_wp2_with (at_builtin;go_must (refine Ks zR _ _ 199 5 _ 1 Jfa zR zd zK zR B sv _ zR ho ⟨w.heap.size,0,none⟩ nb bB (by rw[bz.out];rfl) cD cb (by rw[bz.out];omega) zo ?_);intro sv' w1 bC bi cc;obtain⟨a2,ca,rfl,_⟩:=bC.cells;have cQ:=bi.cell_far ⟨g,1,none⟩ bN (Oc5 bQ);have cR:=bi.frozen_far ⟨g,1,none⟩ bN (Oc5 bQ))
  go_end0
  have bk:=Y.step (bs':=bs++Kk L) (sv':=.slice a2 (List.map bv bs++bB).length ca) c1 (Oa5 _ _) bi (by rw[Ob8,ci];exact bC) cc;simp only[Oa8,Oa6]at bk;exact⟨rfl,bk.1,(Ky.of_below I h.lt).trans bk.2⟩
def enc (k n:Int)(s:ByteArray):List UInt8:=
 if k=1 then le8 (u64 n)else if k=2 then [low n]else if k=3 then low s.size::s.toList else []
def good (k:Int)(s:ByteArray):Prop:=k=1\/k=2\/(k=3/\s.size<=40)
theorem Kc5 k n s(h:good k s):(enc k n s).length<=41:=by
 rcases h with h|h|⟨h,hs⟩
 ·unfold enc;rw[if_pos h,Jc4];omega
 ·unfold enc;rw[if_neg zo,if_pos h];simp
 unfold enc;rw[if_neg zo,if_neg zo,if_pos h,Og4,List.length_cons,Array.length_toList];exact Nat.succ_le_succ hs
theorem zaS {p:Prop}(h:p:=by
 go_end0
 exact⟨rfl,I,(Ky.of_below ((Oa5 _ _).alloc (Oa2 _) _) y).trans H⟩):p:=h
theorem Jwu B g t n s bs w(h:WAt w B g t bs)(hl:bs.length<=50000):
  Calls prog 166 #[.pointer (some ⟨g,0,none⟩),.agg #[.int .i64 1,.int .i64 n,.string s]] w fun e w'=>e=.returned (.tuple #[])/\WAt w' B g t (bs++le8 (u64 n))/\Ky w w' g:=by
 have y:=h.lt;go_enter func166,ntmps166
 go_wp2_with (go_at_call 172;refine(Jka B g t _ bs _ (h.below ((Oa5 _ _).alloc (Oa2 _) _)) zo).mono ?_;rintro e w' ⟨rfl,I,H⟩)
 exact zaS
theorem Jrq B g t n s bs w(h:WAt w B g t bs)(hl:bs.length<=50000):
  Calls prog 166 #[.pointer (some ⟨g,0,none⟩),.agg #[.int .i64 2,.int .i64 n,.string s]] w fun e w'=>e=.returned (.tuple #[])/\WAt w' B g t (bs++[low n])/\Ky w w' g:=by
 have y:=h.lt;go_enter func166,ntmps166
 go_wp2_with (go_at_call 122;refine(Zq B g t _ bs _ (h.below ((Oa5 _ _).alloc (Oa2 _) _)) zo).mono ?_;rintro e w' ⟨rfl,I,H⟩)
 exact zaS
theorem Jsb B g t n s bs w(h:WAt w B g t bs)(hl:bs.length<=50000)(hs:s.size<=40):
  Calls prog 166 #[.pointer (some ⟨g,0,none⟩),.agg #[.int .i64 3,.int .i64 n,.string s]] w fun e w'=>e=.returned (.tuple #[])/\WAt w' B g t (bs++low s.size::s.toList)/\Ky w w' g:=by
 have bi:=h.lt;have y:=h.below ((Oa5 _ _).alloc (Oa2 _) (.cells #[.int .i64 3,.int .i64 n,.string s] 33));have bf:Ya (w.alloc (.cells #[.int .i64 3,.int .i64 n,.string s] 33)) g w.heap.size:=Jc2 h ((Oa5 _ _).alloc (Oa2 _) _) (Oa2 _) zS;go_enter func166,ntmps166
 go_wp2_with (go_at_call 122;refine(Zq B g t _ bs _ y zo).mono ?_;rintro e w' ⟨rfl,H,M⟩)
 have K:=H.lt;have bj:=H.1;obtain⟨sv,c0,c1,c2,ho,O⟩:=H.cells;obtain⟨bh,bk⟩:=M.block _ bf;have c3:w'.cell? ⟨w.heap.size,2,none⟩=some (.string s):=by rw[Oc3 (w:=w.alloc _) bh];simp
 have br:w.heap.size≠g:=zo;go_region_law
  ((
   refine Jks zR _ _ zR B sv (bs++[low s.size]) zR (by exact ho) zS s zR zt zt ?_;intro sv' w1 I y Z;obtain⟨a2,ln,Y,rfl⟩:=I.form;have bx:w1.cell? ⟨g,1,none⟩=some sv:=(by rw[y.cell_far _ (by simpa using K) (Oc5 O)];exact c1);have bz:w1.frozen? ⟨g,1,none⟩=false:=(by rw[y.frozen_far _ (by simpa using K) (Oc5 O)];exact c2)))
 all_goals
  go_wp2;go_end0
  have U:=H.step (bs':=bs++low s.size::s.toList) (sv':=.slice a2 ln Y) c1 ((Oa5 _ _).drew) y (by simpa using I) Z;exact⟨rfl,U.1,((Ky.of_below ((Oa5 _ _).alloc (Oa2 _) _) bi).trans M).trans U.2⟩
theorem Jl0 (B g:Nat)(t:Int)(v:V)(bs:List UInt8)w(h:WAt w B g t bs)(hl:bs.length<=50000)(hv:good v.k v.s):
  Calls prog 166 #[.pointer (some ⟨g,0,none⟩),v.val] w fun e w'=>e=.returned (.tuple #[])/\WAt w' B g t (bs++enc v.k v.n v.s)/\Ky w w' g:=by
 obtain⟨k,n,s⟩:=v;rcases hv with y|y|⟨y,hs⟩
 ·simp only at y;subst y;exact Jwu B g t n s bs w h hl
 ·simp only at y;subst y;exact Jrq B g t n s bs w h hl
 simp only at y hs;subst y;exact Jsb B g t n s bs w h hl hs
def Yv (vs:List V):List UInt8:=vs.flatMap fun v=>enc v.k v.n v.s
theorem Jgg vs(h:∀ v∈vs,good v.k v.s):(Yv vs).length<=41*vs.length:=by
 induction vs with
 |nil=>simp[Yv]
 |cons v vs H=>
  have I:=Kc5 v.k v.n v.s (h v (Of4));have K:=H fun u y=>h u (Og1 _ y);unfold Yv at *;rw[Og7,Oa8,List.length_cons];omega
theorem Jjz vs v:Yv (vs++[v])=Yv vs++enc v.k v.n v.s:=by simp[Yv]
theorem Jk4 B g t a cap xs bs w(h:WAt w B g t bs)(hl:bs.length<=10000)(bD:xs.length<=64)(O:∀ v∈xs,good v.k v.s)(bz:Jv w a xs)(bi:∀ b o,a=some ⟨b,o,none⟩->Ya w g b):
  Calls prog 124 #[.pointer (some ⟨g,0,none⟩),.slice a xs.length cap] w fun e w'=>e=.returned (.tuple #[])/\WAt w' B g t (bs++Yv xs)/\Ky w w' g:=by
 go_enter func124,ntmps124
 go_wp2;go_loopw [8] (fun i wr=>∃ k:Nat,k<=xs.length/\i=.int .i64 k/\WAt wr B g t (bs++Yv (xs.take k))/\Ky w wr g) (fun i _=>xs.length-(intOf i).toNat)
 case atStart=>exact⟨0,zo,rfl,by simpa [Yv] using h,Ky.refl _ _⟩
 case round=>
  obtain⟨k,bC,rfl,y,H⟩:=hrel;by_cases I:k<xs.length
  ·have bA:=Zk bz H bi;obtain⟨b1,bE,rfl,bB,x1,x2,bG⟩:=bA.at I;have K:=Jjz (xs.take k) xs[k];rw[<-Oc4 I]at K;have bk:=Jgg (xs.take k) fun v hv=>O v (Om9 hv);have br:(xs.take k).length<=k:=List.length_take_le _ _;have U:=O _ (Ob3 I);have bf:Hid _:=K;have Z:=zh U;have hlen:(bs++Yv (xs.take k)).length<=50000:=by rw[Oa8];omega
   clear K U bk br;generalize M:bs++Yv (xs.take k)=bh at *;have Y:Hid _:=M;clear M;go_wp2_with (go_at_call 166;refine(Jl0 B g t xs[k] bh _ (y.below ((Oa5 _ _).alloc (Oa2 _) _)) hlen Z.out).mono ?_;rintro e w' ⟨rfl,bx,bj⟩)
   go_roundw
   case rel=>
    refine⟨k+1,zo,zn,?_,(H.trans (Ky.of_below ((Oa5 _ _).alloc (Oa2 _) _) y.lt)).trans bj⟩;rw[bf.out,<-Od8,Y.out];exact bx
   case measure=>simp[intOf];omega
  go_wp2;go_end0
  have e:xs.take k=xs:=Oc8 zo;rw[e]at y;exact⟨rfl,y,H⟩
end
section
open Go.RowKit
def Qt (v:V):Nat:=if v.k=0 then 0 else 1
theorem Jv6 ns(h:∀ n∈ns,n<=1):Ue 1 ns=ns.map fun n=>n==1:=by
 induction ns with
 |nil=>rfl
 |cons n ns H=>
  have e:Ue 1 (n::ns)=[n.testBit 0]++Ue 1 ns:=by simp[Ue,List.range_succ]
  rw[e,H fun m y=>h m (Og1 _ y)];have I:=h n Of4;have:n.testBit 0=(n==1):=by
   rw[Nat.testBit_zero];have:n=0\/n=1:=zo;rcases this with rfl|rfl<;>rfl
  rw[this];rfl
theorem Jrg (xs:List V):Ue 1 (xs.map Qt)=xs.map fun v=>v.k != 0:=by
 rw[Jv6 _ (by intro n y;obtain⟨v,_,rfl⟩:=Of0.1 y;unfold Qt;split<;>omega),Oi6];apply Oj9;intro v _;simp only[Function.comp,Qt];by_cases h:v.k=0<;>simp[h]
def Kz (t y:Int)(xs:List V):List UInt8:=[low t,low y,low xs.length]++Kk (xs.map fun v=>v.k != 0)
theorem Jg0 B g t bA a cap xs w(h:WAt w B g t [])(U:xs.length<=64)(bR:Jv w a xs)(bG:xs≠[]->∀ b o,a=some ⟨b,o,none⟩->Ya w g b):
  Calls Tryz.prog 94 #[.pointer (some ⟨g,0,none⟩),.int .i64 bA,.slice a xs.length cap] w fun e w'=>e=.returned (.tuple #[])/\WAt w' B g t (Kz t bA xs)/\Ky w w' g:=by
 have bO:∀ W,(Instr.makeSlice 244 (.int .i64 (xs.length:Int)) (.int .i64 (xs.length:Int))).run Tryz.prog W=.ok (.slice (some ⟨W.heap.size,0,none⟩) xs.length xs.length) (W.alloc (.cells (madeCells #[.int .u64 0] xs.length) 245)):=
  fun W=>run_make_row' 244 245 (.int .u64 0) 8 zK Jiq rfl .i64 .i64 xs.length zo zo W
 obtain⟨bY,c0,_,_,_,_⟩:=h.cells;go_enter Tryz.func94,Tryz.ntmps94
 go_wp2_with fail
 refine(Zq B g t _ _ _ h zS).mono ?_;rintro e w1 ⟨rfl,bB,bk⟩;go_wp2_with fail
 refine(Zq B g t _ _ _ bB zS).mono ?_;rintro e bZ ⟨rfl,bC,br⟩;go_wp2_with fail
 refine(Zq B g t _ _ _ bC zS).mono ?_;rintro e H ⟨rfl,Y,bx⟩;go_wp2_with fail
 clear bO;have bj:=(bk.trans br).trans bx;have bS:Jv H a xs:=by
  by_cases bz:xs=[]
  ·exact .inl bz
  exact Zk bR bj (bG bz)
 clear bk br bx bB bC c0;go_loopw [27] (fun i wr=>∃ k:Nat,k<=xs.length/\i=.int .i64 k/\wr.rowIs H.heap.size 245 xs.length (fun j=>uv (if j<k then (xs.map Qt)[j]?.getD 0 else 0))/\Below H.heap.size H wr) (fun i _=>xs.length-(intOf i).toNat)
 case atStart=>exact⟨0,zo,rfl,Ol3 _ _ _ _,(Oa5 _ _).alloc (Oa2 _) _⟩
 case round=>
  obtain⟨k,bW,rfl,y,I⟩:=hrel;by_cases O:k<xs.length
  ·obtain⟨b1,bX,rfl,bV,x1,x2,cb⟩:=(bS.below I).at O;have c1:=y.cell O;have c2:=y.frozen k;have c3:=y.lt;have bi:(xs.map Qt)[k]?.getD 0=Qt xs[k]:=(by simp[O]);have Z:Hid _:=bi;clear bi;by_cases h0:xs[k].k=0
   ·have bE:(xs[k].k != 0)=false:=(by simp[h0]);have K:=zh h0;clear h0;go_wp2;go_roundw
    case rel=>
     refine⟨k+1,zo,zn,(y.alloc _).congr fun j bK=>?_,Jc I _⟩;by_cases e:j=k
     ·subst e;simp only[Oe3,if_false,On2,if_true];rw[Z.out];simp[Qt,K.out]
     have M:(j<k+1)=(j<k):=by rw[eq_iff_iff];omega
     simp only[M]
    case measure=>simp[intOf];omega
   have bE:(xs[k].k != 0)=true:=(by simp[h0]);have K:=zh h0;clear h0;go_wp2;go_roundw
   case rel=>
    refine⟨k+1,zo,zn,((y.set k _).alloc _).congr fun j bK=>?_,Jc (I.setCell (p:=⟨H.heap.size,k,none⟩) (Oa2 _) _) _⟩;by_cases e:j=k
    ·subst e;simp only[if_true,On2];rw[Z.out];simp[Qt,K.out,uv]
    have M:(j<k+1)=(j<k):=by rw[eq_iff_iff];omega
    simp only[e,M,if_false]
   case measure=>simp[intOf];omega
  have bM:k=xs.length:=zo;subst bM;have bP:Jo wr H.heap.size 245 (.slice (some ⟨H.heap.size,0,none⟩) xs.length xs.length) ((xs.map Qt).map uv):=
   Jhx y (Oa2 _) (by unfold maxLen;omega) _ zS (by
    intro i hi;have bJ:i<xs.length:=by simpa using hi
    simp[bJ])
  obtain⟨bT,bU,bf,bH⟩:=bP.cells;simp only[Oa6]at bf;injection bf with e5 e6 e7;subst e5;subst e7;have bI:(xs.map Qt).length=xs.length:=zS;have bQ:=Y.below I;have bN:=y.lt;go_wp2_with fail
  rw[<-bI];refine(Jd4 B g t _ 1 _ _ (xs.map Qt) _ bQ zS zo (by simpa using U) (by
   intro n U;obtain⟨v,_,rfl⟩:=Of0.1 U;unfold Qt;split<;>omega) bH (by
   intro b o bh;simp at bh;obtain⟨rfl,rfl⟩:=bh;exact Jc2 Y I (Oa2 _) bN)).mono ?_
  rintro e ca ⟨rfl,bD,bL⟩;go_wp2_with fail
  go_end0
  refine⟨rfl,?_,(bj.trans (Ky.of_below I Y.lt)).trans bL⟩;rw[Jrg]at bD;exact bD
def Jdx (v:V)(c:Nat):List V->List UInt8
 |[]=>low c::enc v.k v.n v.s
 |u::l=>if u.beq v then Jdx v (c+1) l else (low c::enc v.k v.n v.s)++Jdx u 1 l
def Yc:List V->List UInt8
 |[]=>[]
 |v::l=>Jdx v 1 l
theorem Jw2 l:∀ (v:V) (c:Nat),Jdx v c l=(low ((c+Qe v l:Nat):Int)::enc v.k v.n v.s)++Yc (l.drop (Qe v l)):=by
 induction l with
 |nil=>intro v c;simp[Jdx,Qe,Yc]
 |cons u l y=>
  intro v c;by_cases e:u.beq v=true
  ·simp only[Jdx,Qe,e,if_true,List.drop_succ_cons];rw[y v (c+1)];have:c+1+Qe v l=c+(Qe v l+1):=zo;rw[this]
  simp only[Jdx,Qe,e,if_false,Bool.false_eq_true];simp[Yc]
theorem Je9 v l:Yc (v::l)=(low ((Qe v (v::l):Nat):Int)::enc v.k v.n v.s)++Yc ((v::l).drop (Qe v (v::l))):=by
 have e:Qe v (v::l)=Qe v l+1:=by simp[Qe,(V.beq_iff v v).2 rfl]
 rw[e,List.drop_succ_cons];show Jdx v 1 l=_;rw[Jw2];have:1+Qe v l=Qe v l+1:=zo;rw[this]
theorem Jhn v l:1<=Qe v (v::l):=by simp[Qe,(V.beq_iff v v).2 rfl]
theorem Jng:∀ (n:Nat)(xs:List V),xs.length<=n->(∀ v∈xs,good v.k v.s)->(Yc xs).length<=42*xs.length:=by
 intro n;induction n with
 |zero=>intro xs h _;have:xs=[]:=Od3.1 zo;subst this;simp[Yc]
 |succ n K=>
  intro xs h y;cases xs with
  |nil=>simp[Yc]
  |cons v l=>
   rw[Je9];have M:=Kc5 v.k v.n v.s (y v Of4);have O:=Jhn v l;have H:=K ((v::l).drop (Qe v (v::l))) (by rw[Of7];simp at h |-;omega) (fun u I=>y u (Oh7 I));rw[Oa8,List.length_cons];rw[Of7]at H;have U:=Jjn v (v::l);omega
theorem Jlj l:∀ (d:List V) (v:V),v∈Ym d l->v∈d\/v∈l:=by
 induction l with
 |nil=>intro d v h;exact .inl h
 |cons u l y=>
  intro d v h;simp only[Ym]at h;rcases y _ v h with h|h
  ·split at h
   ·exact .inl h
   rcases Od2.1 h with h|h
   ·exact .inl h
   right;simp at h;subst h;exact Of4
  exact .inr (Og1 _ h)
def Jds (xs:List V):List UInt8:=(low (Ym [] xs).length::Yv (Ym [] xs))++Kk (Ue 4 (xs.map (place (Ym [] xs))))
def Jei:List V->List UInt8
 |[]=>[]
 |v::l=>
  le8 (u64 (Jn v.n (v::l)))++[low (bitLen (Yz (dif v.n (Jn v.n (v::l))) (Uv l (Jn v.n (v::l)))):Nat)]
   ++ Kk (Ue (bitLen (Yz (dif v.n (Jn v.n (v::l))) (Uv l (Jn v.n (v::l))))) (Uv (v::l) (Jn v.n (v::l))))
def Zz (t:Int)(xs:List V):List UInt8:=if t=2 then Kk (Ue 1 (Uv xs 0))else Jei xs
theorem Jkx xs q:∀ n∈Uv xs q,n<18446744073709551616:=by
 intro n y;obtain⟨v,_,rfl⟩:=Of0.1 y;exact Jp3 _
theorem Jf7 n(h:n<18446744073709551616):bitLen n<=64:=by
 unfold bitLen;split
 ·omega
 rename_i h0
 have:=(Nat.log2_lt h0).2 (show n<2 ^ 64 from h);omega
theorem Jgs g w:
  Calls Tryz.prog 95 #[.pointer (some ⟨g,0,none⟩)] w fun e w'=>e=.returned (.agg #[.func (.func 124) #[.pointer (some ⟨g,0,none⟩)] #[],.func (.func 125) #[.pointer (some ⟨g,0,none⟩)] #[],.func (.func 126) #[.pointer (some ⟨g,0,none⟩)] #[],.func (.func 127) #[.pointer (some ⟨g,0,none⟩)] #[]])/\Below w.heap.size w w':=by
 have hone:∀ (W:World) (a:Addr) f x c,(store a (.func f x c)).run Tryz.prog W=match W.cell? a with
   | some _ => if W.frozen? a then .halt (.unsupported (.unsafePointer "a write to bytes that a string shares")) W else .ok () (W.setCell a (.func f x c))
   |none=>match W.farStore Tryz.prog a (.func f x c) (Mode.plain==.atomic)with
    |.ok (w',_)=>.ok () w'
    |.error h=>.halt h W:=fun W a f x c=>run_store Tryz.prog W a (.func f x c) .plain rfl
 go_enter Tryz.func95,Tryz.ntmps95
 go_wp2;exact bodyPost_ret (v:=.agg #[.func (.func 124) #[.pointer (some ⟨g,0,none⟩)] #[],.func (.func 125) #[.pointer (some ⟨g,0,none⟩)] #[],.func (.func 126) #[.pointer (some ⟨g,0,none⟩)] #[],.func (.func 127) #[.pointer (some ⟨g,0,none⟩)] #[]]) (by simp[results,Tryz.results95,go_sem]) rfl ⟨rfl,(Oa5 _ _).alloc (Oa2 _) _⟩
theorem Ja5 (vs:List V):(vs.flatMap V.cells).length=vs.length*3:=by
 induction vs with
 |nil=>rfl
 |cons v vs y=>rw[Og7,Oa8,y];simp[V.cells];omega
theorem Kem {w:World}{b o:Nat}{xs:List V}(h:∀ i v,xs[i]?=some v->VAt w b (o+i*3) v):∀ j u,(xs.flatMap V.cells)[j]?=some u->w.cell? ((⟨b,o,none⟩:Addr).add j)=some u:=by
 intro j u Y;have key:∀ (H:List V) (j:Nat) (u:Value),(H.flatMap V.cells)[j]?=some u->∃ i v,H[i]?=some v/\((j=i*3/\u=.int .i64 v.k)\/(j=i*3+1/\u=.int .i64 v.n)\/(j=i*3+2/\u=.string v.s)):=by
  intro H;induction H with
  |nil=>intro j u h;simp at h
  |cons v H Z=>
   intro j u h;match j,h with
   |0,h=>exact⟨0,v,rfl,by simp[V.cells]at h;simp[h]⟩
   |1,h=>exact⟨0,v,rfl,by simp[V.cells]at h;simp[h]⟩
   |2,h=>exact⟨0,v,rfl,by simp[V.cells]at h;simp[h]⟩
   |j+3,h=>
    obtain⟨i,bf,hi,I⟩:=Z j u (by simpa [V.cells] using h);refine⟨i+1,bf,by simpa using hi,?_⟩;rcases I with⟨e,y⟩|⟨e,y⟩|⟨e,y⟩
    ·exact .inl ⟨zo,y⟩
    ·exact .inr (.inl ⟨zo,y⟩)
    exact .inr (.inr ⟨zo,y⟩)
 obtain⟨i,v,hi,I⟩:=key xs j u Y;obtain⟨K,M,O⟩:=h i v hi;have U:(⟨b,o,none⟩:Addr).add j=⟨b,o+j,none⟩:=by unfold Addr.add;split<;>simp_all
 rw[U];rcases I with⟨e,y⟩|⟨e,y⟩|⟨e,y⟩
 ·rw[e,y];exact K
 ·rw[e,y,<-On5];exact M
 rw[e,y,<-On5];exact O
theorem Kap (vs:List V):∀ u∈vs.flatMap V.cells,u.oneCell'=true:=by
 intro u y;obtain⟨v,_,hv⟩:=Op5.1 y;simp[V.cells]at hv;rcases hv with rfl|rfl|rfl<;>rfl
def Kv (w:World)(g:Nat)(vs:List V)(y:List Value):Prop:=∃ C:Array Value,w.heap[g]?=some (.cells C 33 (0,0))/\C.toList=vs.flatMap V.cells++y
theorem Kv.of_block {w w' g vs y}(h:Kv w g vs y)(e:w'.heap[g]?=w.heap[g]?):Kv w' g vs y:=by
 obtain⟨C,H,hC⟩:=h;exact⟨C,by rw[e];exact H,hC⟩
theorem Kv.lt {w g vs I}(h:Kv w g vs I):g<w.heap.size:=by
 obtain⟨C,H,_⟩:=h;exact zat
theorem Kv.cell {w g vs H}(h:Kv w g vs H){j x}(I:H[j]?=some x):w.cell? ⟨g,vs.length*3+j,none⟩=some x/\w.frozen? ⟨g,vs.length*3+j,none⟩=false:=by
 obtain⟨C,y,hC⟩:=h;have:C[vs.length*3+j]?=some x:=by
  rw[<-Oe6,hC,Ob6 (by rw[Ja5];omega),Ja5];have e:vs.length*3+j-vs.length*3=j:=zo;rw[e];exact I
 exact⟨by simp[World.cell?,y,this],by simp[World.frozen?,y]⟩
theorem Kv.vals {w g vs bi}(h:Kv w g vs bi):Jv w (some ⟨g,0,none⟩) vs:=by
 have O:=h.lt;obtain⟨C,M,hC⟩:=h;have U:w.ownsRow 0 33 3 (.slice (some ⟨g,0,none⟩) vs.length C.size) vs.length (vs.flatMap V.cells)->True:=fun _=>trivial;clear U;refine .inr ⟨g,0,rfl,O,fun i v hi=>?_⟩;have key:∀ (y:List V) (i:Nat) (v:V),y[i]?=some v->(y.flatMap V.cells)[i*3]?=some (.int .i64 v.k)/\(y.flatMap V.cells)[i*3+1]?=some (.int .i64 v.n)/\(y.flatMap V.cells)[i*3+2]?=some (.string v.s):=by
  intro y;induction y with
  |nil=>intro i v h;simp at h
  |cons u y Y=>
   intro i v h;cases i with
   |zero=>simp at h;subst h;simp[V.cells]
   |succ i=>
    have:=Y i v (by simpa using h);have I:(i+1)*3=i*3+3:=zo;simp only[Og7,V.cells,I];simpa using this
 obtain⟨Z,bf,bh⟩:=key vs i v hi;have bj:i<vs.length:=by
  rcases Oc1 i vs.length with H|H
  ·exact H
  rw[Ob4 H]at hi;simp at hi
 have g1:C[i*3]?=some (.int .i64 v.k):=by rw[<-Oe6,hC,Ob0 (by rw[Ja5];omega)];exact Z
 have g2:C[i*3+1]?=some (.int .i64 v.n):=by rw[<-Oe6,hC,Ob0 (by rw[Ja5];omega)];exact bf
 have K:C[i*3+2]?=some (.string v.s):=by rw[<-Oe6,hC,Ob0 (by rw[Ja5];omega)];exact bh
 unfold VAt;simp only[World.cell?,M,Od0];simp[g1,g2,K]
theorem Jtz (C:Array Value)(y H:List Value)x I(n:Nat)(h:C.toList=y++x::H)(K:y.length=n):(C.setIfInBounds n I).toList=(y++[I])++H:=by
 rw[Ok0,h,Ok4 _ _ zo,K,Oe1];simp
theorem Kv.set3 {w g vs U x1 x2 y}(h:Kv w g vs (U::x1::x2::y))v n(O:n=vs.length):
  Kv (((w.setCell ⟨g,n*3,none⟩ (.int .i64 v.k)).setCell ⟨g,n*3+1,none⟩ (.int .i64 v.n)).setCell ⟨g,n*3+2,none⟩ (.string v.s)) g (vs++[v]) y:=by
 subst O;obtain⟨C,M,hC⟩:=h;have hl:=Ja5 vs;have H:=Jtz C _ _ _ (.int .i64 v.k) _ hC hl;have I:=Jtz _ _ _ _ (.int .i64 v.n) (vs.length*3+1) H (by simp[hl]);have K:=Jtz _ _ _ _ (.string v.s) (vs.length*3+2) I (by simp[hl]);refine⟨_,?_,K.trans ?_⟩
 ·simp[World.setCell,Array.getElem?_modify,M]
 simp[V.cells]
theorem Ut {w w1 I:World}{r:Option Nat}(h:w.grownBy w1 r)(k:w1.grownBy I r):w.grownBy I r:=
 ⟨k.os.trans h.os,k.tape.trans h.tape,k.output.trans h.output,Ob2 h.size k.size,fun j y H=>(k.block j (Oc2 y h.size) H).trans (h.block j y H)⟩
theorem Qq {w w' r}(h:Below w.heap.size w w'):w.grownBy w' r:=⟨h.os,h.tape,h.output,h.size,fun j y _=>h.block j y⟩
theorem Ka4 {w w':World}{g:Nat}(h:w.grownBy w' (some g))(o:Nat)(v:Value):w.grownBy (w'.setCell ⟨g,o,none⟩ v) (some g):=
 ⟨h.os,h.tape,h.output,by simpa [World.setCell] using h.size,fun j H y=>(Oa4 _ _ _ _ (fun e=>y (by rw[e]))).trans (h.block j H y)⟩
theorem Kv.at3 {w g y}(h:Kv w g y [])v k(I:k<y.length):
  ((w.cell? ⟨g,k*3,none⟩=some (.int .i64 y[k].k)/\w.frozen? ⟨g,k*3,none⟩=false)/\(w.cell? ⟨g,k*3+1,none⟩=some (.int .i64 y[k].n)/\w.frozen? ⟨g,k*3+1,none⟩=false)/\(w.cell? ⟨g,k*3+2,none⟩=some (.string y[k].s)/\w.frozen? ⟨g,k*3+2,none⟩=false)) /\
  Kv (((w.setCell ⟨g,k*3,none⟩ (.int .i64 v.k)).setCell ⟨g,k*3+1,none⟩ (.int .i64 v.n)).setCell ⟨g,k*3+2,none⟩ (.string v.s)) g (y.set k v) []:=by
 obtain⟨C,O,hC⟩:=h;rw[Od7]at hC;have Z:y=y.take k++y[k]::y.drop (k+1):=by rw[<-Oi1 I,Ok3]
 have hlen:(y.take k).length=k:=by rw[Oc7];omega
 have H:Kv w g (y.take k) (y[k].cells++(y.drop (k+1)).flatMap V.cells):=by
  refine⟨C,O,?_⟩;rw[hC];conv=>lhs;rw[Z]
  rw[Oe8,Og7]
 have c0:=H.cell (j:=0) rfl;have c1:=H.cell (j:=1) rfl;have c2:=H.cell (j:=2) rfl;rw[hlen]at c0 c1 c2;rw[Nat.add_zero]at c0;refine⟨⟨c0,c1,c2⟩,?_⟩;obtain⟨K,U,M⟩:=H.set3 v k hlen.symm;refine⟨K,U,?_⟩;rw[M,Od7];have Y:y.set k v=y.take k++v::y.drop (k+1):=by
  rw[On0,if_pos I]
 rw[Y];simp[V.cells]
end
def Jlv (s:Nat)(b:UInt8):Nat:=((s ^^^ b.toNat)*1099511628211) % 18446744073709551616
def Khr (l:List UInt8):Nat:=l.foldl Jlv 14695981039346656037
def le7 (u:Nat):List UInt8:=(List.range 7).map fun i=>UInt8.ofNat (u / 256 ^ i % 256)
def Jm7 (l:List UInt8):List UInt8:=le7 (Khr l)
def body (y:List UInt8):List UInt8:=y++List.replicate (56-y.length) 0++[UInt8.ofNat y.length]
def Jdm (y:List UInt8):List UInt8:=body y++Jm7 (body y)
def Jd2 (p:List UInt8):Option (List UInt8):=
 if 56<(p.getD 56 0).toNat\/p.drop 57≠Jm7 (p.take 57)then none else some (p.take (p.getD 56 0).toNat)
theorem Jcc {y}(h:y.length<=56):(body y).length=57:=by
 simp[body];omega
theorem Jhq u:(le7 u).length=7:=by simp[le7]
theorem Kjo l:(Jm7 l).length=7:=Jhq _
theorem Jwh {y}(h:y.length<=56):(Jdm y).take 57=body y:=by
 rw[Jdm,List.take_append_of_le_length (by rw[Jcc h];exact Oa2 _),Oc8 (by rw[Jcc h];exact Oa2 _)]
theorem Jwp {y}(h:y.length<=56):(Jdm y).drop 57=Jm7 (body y):=by
 rw[Jdm,List.drop_append,Jcc h];simp[List.drop_of_length_le,Jcc h]
theorem zaM {p:Prop}(h:p:=by
 have:56-(y++List.replicate (56-y.length) (0:UInt8)).length=0:=by simp;omega
 rw[this];rfl):p:=h
theorem Kbq {y}(h:y.length<=56):((Jdm y).getD 56 0).toNat=y.length:=by
 have e:(Jdm y).getD 56 0=UInt8.ofNat y.length:=by
  rw[Jdm,Oa0,Ob0 (by rw[Jcc h];omega),body,Ob6 zt];exact zaM
 rw[e];simp;omega
theorem Jxe {y}(h:y.length<=56):Jd2 (Jdm y)=some y:=by
 unfold Jd2;rw[Kbq h,Jwh h,Jwp h,if_neg zt];congr 1
 rw[Jdm,body,Od8,Od8,List.take_left]
section
open Go.RowKit Tryz
def Jdp (w:World)(b:Nat)(p:List UInt8):Prop:=p.length=64/\w.rowIs b 328 64 (fun j=>bv (p.getD j 0))
theorem Jdp.of_block {w w' b p}(h:Jdp w b p)(e:w'.heap[b]?=w.heap[b]?):Jdp w' b p:=⟨h.1,h.2.of_block e⟩
theorem Jdp.below {w w' b p}(h:Jdp w b p)(hb:Below w.heap.size w w'):Jdp w' b p:=h.of_block (hb.block _ h.2.lt)
theorem Kgb (x y:Nat)(K:x<18446744073709551616)(hy:y<18446744073709551616):bits .xor .u64 (x:Int) (y:Int)=((x ^^^ y:Nat):Int):=by
 have M:x ^^^ y<18446744073709551616:=Nat.xor_lt_two_pow (n:=64) K hy;have key:(BitVec.ofInt 64 (x:Int) ^^^ BitVec.ofInt 64 (y:Int)).toNat=x ^^^ y:=by
  rw[BitVec.toNat_xor,Ok6,Ok6];have H:((x:Int) % ((2 ^ 64:Nat):Int)).toNat=x:=zo;have I:((y:Int) % ((2 ^ 64:Nat):Int)).toNat=y:=zo;rw[H,I]
 show IntKind.u64.wrap ((BitVec.ofInt 64 (x:Int) ^^^ BitVec.ofInt 64 (y:Int)).toNat:Nat)=_;rw[key,Oh5];omega
theorem Jze (p:List UInt8)(k:Nat)(y:k<p.length)(s:Nat):(p.take (k+1)).foldl Jlv s=Jlv ((p.take k).foldl Jlv s) (p.getD k 0):=by
 rw[Oc4 y,Ol1,List.foldl_cons,List.foldl_nil];congr 1
 simp[y]
theorem Jsn b p w(h:Jdp w b p):
  Calls prog 173 #[.pointer (some ⟨b,0,none⟩)] w fun e w'=>e=.returned (.string (Qw (Jm7 (p.take 57))))/\Below w.heap.size w w':=by
 go_enter func173,ntmps173
 go_wp2;go_loopw [3,12] (fun s i wr=>∃ k z:Nat,k<=57/\i=.int .i64 k/\s=.int .u64 z/\z<18446744073709551616/\Hid (z=(p.take k).foldl Jlv 14695981039346656037)/\(∃ m,wr=w.drewN m)) (fun _ i _=>57-(intOf i).toNat)
 case atStart=>exact⟨0,14695981039346656037,zo,rfl,rfl,zd,rfl,0,rfl⟩
 case round=>
  rename_i s i
  obtain⟨k,z,bj,rfl,rfl,bf,M,m,rfl⟩:=hrel;by_cases Z:k<57
  ·obtain⟨n,bx,K⟩:∃ n:Nat,n<256/\Hid (n=(p.getD k 0).toNat):=⟨_,(p.getD k 0).toNat_lt,rfl⟩;have bi:w.cell? ⟨b,k,none⟩=some (.int .u8 (n:Nat)):=by rw[h.2.cell (i:=k) zo,K.out];rfl
   have bz:=Kgb z n bf zo;have bA:z ^^^ n<18446744073709551616:=Nat.xor_lt_two_pow (n:=64) bf zo;have bh:Hid (Jlv z (p.getD k 0)=((z ^^^ n)*1099511628211) % 18446744073709551616):=by show Jlv _ _=_;rw[K.out];rfl
   generalize z ^^^ n=x at *;go_wp2;go_roundw
   case rel=>
    refine⟨k+1,(x*1099511628211) % 18446744073709551616,zo,zn,?_,zo,?_,m,rfl⟩
    ·have e:((x*1099511628211 % 18446744073709551616:Nat):Int)=(x:Int)*1099511628211 % 18446744073709551616:=zo;rw[Oh5,e]
    exact(bh.out.symm.trans (by rw[M.out])).trans (Jze p k (by rw[h.1];omega) _).symm
   case measure=>simp[intOf];omega
  obtain rfl:k=57:=zo;go_wp2;go_loopw [22] (fun i wr=>∃ k:Nat,k<=7/\i=.int .i64 k/\wr.rowIs w.heap.size 377 7 (fun j=>bv (if j<k then (le7 z).getD j 0 else 0))/\Below w.heap.size w wr) (fun i _=>7-(intOf i).toNat)
  case atStart=>
   refine⟨0,zo,rfl,World.rowIs_alloc _ _ _ _ ?_,(Jp (Oa5 _ w) m).alloc (Oa2 _) _⟩;intro i hi;match i,hi with
   |0,_=>rfl
   |1,_=>rfl
   |2,_=>rfl
   |3,_=>rfl
   |4,_=>rfl
   |5,_=>rfl
   |6,_=>rfl
  case round=>
   rename_i i
   obtain⟨k,bj,rfl,H,O⟩:=hrel;by_cases Z:k<7
   ·have bi:=H.cell (i:=k) zo;have br:=H.frozen k;go_wp2;go_roundw
    case rel=>
     refine⟨k+1,zo,zn,(H.set k _).congr fun j y=>?_,O.setCell (p:=⟨w.heap.size,k,none⟩) (Oa2 _) _⟩;by_cases Y:j=k
     ·subst Y;have hp:(2:Int) ^ (8*j)=((256 ^ j:Nat):Int):=by
       have:(256:Nat) ^ j=2 ^ (8*j):=by rw[Nat.pow_mul]
       rw[this];simp
      simp[le7,Z,bv,hp]
     have:(j<k+1)=(j<k):=by rw[eq_iff_iff];omega
     simp[Y,this]
    case measure=>simp[intOf];omega
   obtain rfl:k=7:=zo;have bk:(convert 199 9 (.slice (some ⟨w.heap.size,0,none⟩) 7 7)).run prog wr=.ok (.string (Qw (le7 z))) wr:=by
    have:=Jc6 wr ⟨w.heap.size,0,none⟩ 7 (le7 z) (fun j u y=>?_)
    ·rwa [Jhq]at this
    have U:j<7:=by
     rcases Oc1 j 7 with I|I
     ·exact I
     ·rw[Ob4 (by simp[Jhq];exact I)]at y;simp at y
    have:=H.cell (i:=j) U;rw[Addr.add_mid];simp only[Od0];rw[this];simp[U,Jhq]at y |-;exact y
   go_wp2;go_ret
   refine⟨?_,O⟩;show Ending.returned (Value.string (Qw (le7 z)))=_;rw[show Jm7 (p.take 57)=le7 z by unfold Jm7 Khr;rw[<-M.out]]
theorem Kgi w:(Go.sizeOf 5).run prog w=.ok 1 w:=zK
theorem Kju l:(Qw l).data.toList=l:=by simp[Qw]
theorem Kkt (w:World)(C:Array Value)(hC:C=Array.replicate 64 (.int .u8 0)):(w.alloc (.cells C 328)).rowIs w.heap.size 328 64 (fun _=>bv 0):=by
 subst hC;refine World.rowIs_alloc _ _ _ _ fun i hi=>?_;simp at hi;rw[Array.getElem?_replicate,if_pos hi];rfl
theorem Kkm y(hp:y.length<=56)j(I:j<64):
  (if j=56 then Value.int .u8 ((y.length:Nat):Int)else if 0<=j/\j<0+(y.map fun x=>Value.int .u8 (x.toNat:Int)).length then (y.map fun x=>Value.int .u8 (x.toNat:Int))[j-0]?.getD default else bv 0)=bv ((body y++List.replicate 7 0).getD j 0):=by
 by_cases H:j=56
 ·subst H;have e:(body y++List.replicate 7 0).getD 56 0=UInt8.ofNat y.length:=by
   rw[Oa0,Ob0 (by rw[Jcc hp];omega),body,Ob6 zt];exact zaM
  rw[if_pos rfl,e];simp[bv];omega
 rw[if_neg H];by_cases hl:j<y.length
 ·rw[if_pos zt];have e:(body y++List.replicate 7 0).getD j 0=y[j]:=by
   rw[Oa0,Ob0 (by rw[Jcc hp];omega),body,Od8,Ob0 hl];simp[hl]
  rw[e];simp[hl,bv]
 rw[if_neg zt];have e:(body y++List.replicate 7 0).getD j 0=0:=by
  rw[Oa0];rcases Oc1 j 57 with h|h
  ·rw[Ob0 (by rw[Jcc hp];omega),body,Ob0 zt,Ob6 zo,Of3];split<;>rfl
  rw[Ob6 (by rw[Jcc hp];omega),Of3];split<;>rfl
 rw[e]
theorem Kki bd sb(hb:bd.length=57)(hs:sb.length=7)j(y:j<64):
  (if 57<=j/\j<57+(sb.map fun x=>Value.int .u8 (x.toNat:Int)).length then (sb.map fun x=>Value.int .u8 (x.toNat:Int))[j-57]?.getD default else bv ((bd++List.replicate 7 0).getD j 0))=bv ((bd++sb).getD j 0):=by
 by_cases h:57<=j
 ·rw[if_pos (by simp[hs];omega),Oa0,Ob6 zo,hb];simp[show j-57<sb.length by omega,bv]
 rw[if_neg zt,Oa0,Oa0,Ob0 zo,Ob0 zo]
theorem Kkp y(hp:y.length<=56)w:
  Calls prog 129 #[.string (Qw y)] w fun e w'=>e=.returned (.pointer (some ⟨w.heap.size,0,none⟩))/\Jdp w' w.heap.size (Jdm y)/\Below w.heap.size w w':=by
 have bK:=Jb2 y;go_enter func129,ntmps129
 go_upto_region 2 with fail
 generalize U:World.alloc w (Obj.cells _ 328)=I;have K:I.rowIs w.heap.size 328 64 (fun _=>bv 0):=by rw[<-U];exact Kkt w _ rfl
 have bh:Below w.heap.size w I:=by rw[<-U];exact(Oa5 _ w).alloc (Oa2 _) _
 clear U;have bE:=run_copy_string (P:=prog) I 199 9 3 5 w.heap.size 0 64 64 (Qw y) underlying199 Kgi zo
  (fun j H=>by rw[Od0,K.cell zo];rfl) (fun j H=>by rw[Od0];exact K.frozen j)
 have M:=rowIs_setCells ((Qw y).data.toList.map fun x=>Value.int .u8 (x.toNat:Int)) 0 _ _ K;have bi:=below_setCells (Oa2 w.heap.size) ((Qw y).data.toList.map fun x=>Value.int .u8 (x.toNat:Int)) 0 _ bh;generalize I.setCells w.heap.size 0 ((Qw y).data.toList.map fun x=>Value.int .u8 (x.toNat:Int))=bA at *;have bB:=M.cell (i:=56) zo;have bC:=M.frozen 56;go_upto_region 4 with fail
 have bx:=M.set 56 (.int .u8 ((y.length:Nat):Int));have bj:=bi.setCell (p:=⟨w.heap.size,56,none⟩) (Oa2 _) (.int .u8 ((y.length:Nat):Int));generalize bA.setCell ⟨w.heap.size,56,none⟩ (.int .u8 ((y.length:Nat):Int))=bf at *;have br:Jdp bf w.heap.size (body y++List.replicate 7 0):=by
  refine⟨by simp[Jcc hp],bx.congr fun j H=>?_⟩;rw[Kju];exact Kkm y hp j H
 clear bE M bi bB bC bx K bh;have bH:(body y++List.replicate 7 0).take 57=body y:=by
  rw[List.take_append_of_le_length (by rw[Jcc hp];exact Oa2 _),Oc8 (by rw[Jcc hp];exact Oa2 _)]
 have bz:=Jsn w.heap.size _ bf.drew (br.of_block rfl);rw[bH]at bz;have O:=Kjo (body y);have Z:Hid (Jdm y=body y++Jm7 (body y)):=rfl;generalize Jm7 (body y)=sb at *;go_region_with (first|(go_at_call 173;refine bz.mono ?_;rintro e bI ⟨rfl,bk⟩;have Y:=(br.below (Jw bk)).2;have bJ:=run_copy_string (P:=prog) bI 199 9 3 5 w.heap.size 57 7 7 (Qw sb) underlying199 Kgi (by rw[Jb2,O];omega) (fun j H=>by rw[Jb2,O]at H;rw[Y.cell zo];rfl) (fun j H=>Y.frozen _)))
 have bG:=rowIs_setCells ((Qw sb).data.toList.map fun x=>Value.int .u8 (x.toNat:Int)) 57 _ _ Y;have bD:=below_setCells (Oa2 w.heap.size) ((Qw sb).data.toList.map fun x=>Value.int .u8 (x.toNat:Int)) 57 _ (bj.trans ((Jw bk).mono bj.size));go_wp2;go_ret
 refine⟨rfl,⟨by rw[Z.out];simp[Jcc hp,O],bG.congr fun j H=>?_⟩,bD⟩;rw[Kju,Z.out];exact Kki (body y) sb (Jcc hp) O j H
theorem Jjh b p W(h:Jdp W b p)lo n c(K:lo+n<=64):
  (convert 199 9 (.slice (some ⟨b,lo,none⟩) n c)).run prog W=.ok (.string (Qw ((p.drop lo).take n))) W:=by
 have hl:((p.drop lo).take n).length=n:=by rw[Oc7,Of7,h.1];omega
 have:=Jc6 W ⟨b,lo,none⟩ c ((p.drop lo).take n) (fun j u y=>?_)
 ·rwa [hl]at this
 have I:j<n:=by
  rcases Oc1 j n with H|H
  ·exact H
  ·rw[Ob4 zt]at y;simp at y
 rw[Addr.add_mid,h.2.cell (i:=lo+j) zo];rw[Ob1,Oh3 I,Oh9]at y;rw[Oa0];cases hq:p[lo+j]? with
 |none=>rw[hq]at y;simp at y
 |some x=>rw[hq]at y;simpa using y
theorem Jtg:prog.elem 328=5:=zK
theorem Jp0:prog.underlying 328=some (.array (prog.arrayLen 328) (prog.elem 328)):=zK
theorem Jmr:prog.arrayLen 328=64:=zK
theorem Jt5 (b n:Nat)W(y:n<=64):(Instr.sliceAt 328 (.pointer (some ⟨b,0,none⟩)) none (some (.int .i64 (n:Int))) none).run prog W=.ok (.slice (some ⟨b,0,none⟩) n 64) W:=by
 have h:=run_sliceAt_array_h (P:=prog) W 328 ⟨b,0,none⟩ Jp0 .i64 (n:Int) zo (by rw[Jmr];omega);rw[Jtg,Kgi,Jmr]at h;rw[h];simp[Result.andThen,slicedAt,Addr.add]
theorem Ke1 b p w(h:Jdp w b p):
  Calls prog 160 #[.pointer (some ⟨b,0,none⟩)] w fun e w'=>e=.returned (.tuple #[.string (Qw ((Jd2 p).getD [])),.bool (Jd2 p).isSome])/\Below w.heap.size w w':=by
 obtain⟨n,bA,bh⟩:∃ n:Nat,n<256/\Hid (n=(p.getD 56 0).toNat):=⟨_,(p.getD 56 0).toNat_lt,rfl⟩;have bx:w.cell? ⟨b,56,none⟩=some (.int .u8 (n:Nat)):=by rw[h.2.cell (i:=56) zo,bh.out];rfl
 have H:Hid (Jd2 p=if 56<n\/p.drop 57≠Jm7 (p.take 57)then none else some (p.take n)):=by show Jd2 p=_;unfold Jd2;rw[bh.out]
 generalize Jd2 p=op at *;have br:=Jsn b p w.drew (h.of_block rfl);have Y:(p.drop 57).take 7=p.drop 57:=Oc8 (by rw[Of7,h.1];omega);have bj:=Jjh b p w.drew (h.of_block rfl) 57 7 7 zo;rw[Y]at bj;by_cases bi:56<n
 ·have:op=none:=by rw[H.out,if_pos (.inl bi)]
  subst this;have bk:decide ((56:Int)<(n:Int))=true:=by simp;omega
  go_enter func160,ntmps160
  go_wp2_with fail
  go_quiet (fail)
  go_wp2;go_ret2
  exact⟨rfl,Jp (Oa5 _ _) _⟩
 have bf:Hid (∀ W,Jdp W b p->(convert 199 9 (.slice (some ⟨b,57,none⟩) 7 7)).run prog W=.ok (.string (Qw (p.drop 57))) W):=fun W I=>by
  have:=Jjh b p W I 57 7 7 zo;rwa [Y]at this
 have Z:Hid (∀ W,Jdp W b p->(convert 199 9 (.slice (some ⟨b,0,none⟩) n 64)).run prog W=.ok (.string (Qw (p.take n))) W):=fun W I=>by
  have:=Jjh b p W I 0 n 64 zo;rwa [List.drop_zero]at this
 have U:Hid (∀ W,Jdp W b p->Calls prog 173 #[.pointer (some ⟨b,0,none⟩)] W fun e w'=>e=.returned (.string (Qw (Jm7 (p.take 57))))/\Below W.heap.size W w'):=fun W I=>Jsn b p W I;have bk:decide ((56:Int)<(n:Int))=false:=by simp;omega
 clear br bj Y;by_cases y:p.drop 57=Jm7 (p.take 57)
 ·have:op=some (p.take n):=by rw[H.out,if_neg (by intro hh;rcases hh with hh|hh;exact bi hh;exact hh y)]
  subst this;rw[<-y]at U;clear H y;generalize p.drop 57=sb at *;generalize p.take n=pn at *;go_enter func160,ntmps160
  go_wp2_with fail
  go_region_held3 (fun X=>Jdp X b p/\(convert 199 9 (.slice (some ⟨b,57,none⟩) 7 7)).run prog X=.ok (.string (Qw sb)) X)
   (first|(go_split_ands;refine⟨?_,bf.out _ ?_⟩<;>(first|exact h|exact h.of_block rfl|exact O|(have hq:Jdp _ b p:=by assumption;exact hq.of_block rfl)|assumption)))
   (first|(go_at_call 173;refine(U.out _ (by first|assumption|(go_split_ands;assumption))).mono ?_;rintro e M ⟨rfl,K⟩;have O:Jdp M b p:=Jdp.below (w:=w.drew) (h.of_block rfl) K))
  have bz:=Z.out M O;have bC:=Jt5 b n M zo;go_wp2;go_ret2
  exact⟨rfl,Jw K⟩
 have:op=none:=by rw[H.out,if_pos (.inr y)]
 subst this;have bB:((Qw (p.drop 57)).toList==(Qw (Jm7 (p.take 57))).toList)=false:=by
  rw[beq_eq_false_iff_ne];exact fun hh=>y (Kfv (by rw[<-Zf (Qw (p.drop 57)),hh,Zf]))
 clear H y Z;generalize p.drop 57=sb at *;generalize Jm7 (p.take 57)=sc at *;go_enter func160,ntmps160
 go_wp2_with fail
 go_region_held3 (fun X=>Jdp X b p/\(convert 199 9 (.slice (some ⟨b,57,none⟩) 7 7)).run prog X=.ok (.string (Qw sb)) X)
  (first|(go_split_ands;refine⟨?_,bf.out _ ?_⟩<;>(first|exact h|exact h.of_block rfl|exact O|(have hq:Jdp _ b p:=by assumption;exact hq.of_block rfl)|assumption)))
  (first|(go_at_call 173;refine(U.out _ (by first|assumption|(go_split_ands;assumption))).mono ?_;rintro e M ⟨rfl,K⟩;have O:Jdp M b p:=Jdp.below (w:=w.drew) (h.of_block rfl) K))
 go_wp2;go_ret2
 exact⟨rfl,Jw K⟩
theorem Jye:(prog.info? 312).map (·.size)=some 2:=zK
theorem Kfg:liesAt prog prog.depth 312 (2 / prog.cellsOf 312) 0 312 1=true:=zK
theorem Kd2:prog.cellsOf 5=1:=zK
theorem Jrs b w(h0:w.cell? ⟨b,0,none⟩=some (.pointer (some ⟨b,0,none⟩))):
  Calls prog 213 #[.pointer (some ⟨b,0,none⟩)] w fun e w'=>e=.returned (.tuple #[])/\w'=w:=by
 obtain⟨j,y,_⟩:=Oe9.1 Jye;go_enter func213,ntmps213
 go_wp2;rw[Lib.run_neq_ptr_same w _ underlying310 y];go_wp2;go_end0
 exact⟨rfl,rfl⟩
theorem Jqn b w(h0:w.cell? ⟨b,0,none⟩=some (.pointer none))(H:w.shape? b=some (312,2))(K:w.frozen? ⟨b,0,none⟩=false):
  Calls prog 213 #[.pointer (some ⟨b,0,none⟩)] w fun e w'=>e=.returned (.tuple #[])/\w'=w.setCell ⟨b,0,none⟩ (.pointer (some ⟨b,0,none⟩)):=by
 obtain⟨j,y,I⟩:=Oe9.1 Jye;go_enter func213,ntmps213
 go_wp2;rw[Lib.run_to_unsafe w ⟨b,0,none⟩ underlying310 underlying183 y (by rw[I];decide) H (Nat.zero_lt_succ 1)];simp only[Result.andThen];rw[Oper.upon_value];go_wp2;rw[run_callFunc_extern func249 zK zK zK (e:=Extern.AbiNoEscape.same) zK];rw[Lib.run_noEscape];simp only[Result.andThen];rw[Oper.upon_value];go_wp2;rw[Lib.run_from_unsafe w ⟨b,0,none⟩ underlying183 underlying310 y H Kfg];simp only[Result.andThen];rw[Oper.upon_value];go_wp2;go_end0
 exact⟨rfl,rfl⟩
def Jkw (w:World)(B b:Nat)(l:List UInt8):Prop:=Lib.IsBuilder 312 5 B b (l.map bv) w
theorem Kic {w B b l}(h:Jkw w B b l):∃ p,Lib.BuilderAt 312 5 B b p (l.map bv) w:=by
 rcases h with h|h
 ·exact⟨_,h⟩
 exact⟨_,h⟩
theorem Juu B b l w(h:Jkw w B b l):
  Calls prog 213 #[.pointer (some ⟨b,0,none⟩)] w fun e w'=>e=.returned (.tuple #[])/\Lib.BuilderAt 312 5 B b (.pointer (some ⟨b,0,none⟩)) (l.map bv) w'/\Below B w w':=by
 rcases h with h|h
 ·refine(Jqn b w h.cell0 h.shape h.frozen0).mono ?_;rintro e w' ⟨rfl,rfl⟩;exact⟨rfl,h.used _,(Oa5 B w).setCell (p:=⟨b,0,none⟩) h.1 _⟩
 refine(Jrs b w h.cell0).mono ?_;rintro e w' ⟨rfl,rfl⟩;exact⟨rfl,h,Oa5 B _⟩
theorem Juz l:Lib.strCells (Qw l)=l.map bv:=by
 unfold Lib.strCells Qw;rfl
theorem Jv2 B b l t w(h:Jkw w B b l)(hlen:l.length+t.length<=100000000)(bH:B<=w.heap.size):
  Calls prog 161 #[.pointer (some ⟨b,0,none⟩),.string (Qw t)] w fun e w'=>e=.returned (.tuple #[.int .i64 (Qw t).size,.nilIface])/\Jkw w' B b (l++t)/\Below B w w':=by
 obtain⟨bB,hi,bx,bz,bA⟩:=info_parts Jfa;have br:=Jb2 t;go_enter func161,ntmps161
 go_wp2_with (go_at_call 213;refine(Juu B b l _ h).mono ?_)
 rintro e w1 ⟨rfl,bi,H⟩;obtain⟨y,v,K,M,Z⟩:=bi;have c1:w1.cell? ⟨b,1,none⟩=some v:=by rw[Lib.cell_of_heap K];rfl
 have bk:=Lib.BuilderAt.lt (T:=312) (e:=5) (B:=B) (p:=.pointer (some ⟨b,0,none⟩)) (bs:=l.map bv) ⟨y,v,K,M,Z⟩;go_wp2_with (at_builtin;refine Lib.wpList_append_own_string _ rfl _ _ 199 9 rfl B 5 bB underlying199 underlying9 hi bx bz bA _ _ _ rfl M (Qw t) rfl ?c3 ?c4 ?c5 ?_)
 case c3=>unfold maxLen;simp;omega
 case c4=>simp;omega
 case c5=>have:=H.size;omega
 intro bC O bf Y _;have I:O.heap[b]?=some (.cells #[.pointer (some ⟨b,0,none⟩),v] 312 (0,0)):=by
  rw[Y.block b bk (fun e=>Z e.symm)];exact K
 have bG:O.frozen? ⟨b,1,none⟩=false:=Lib.frozen_of_heap I 1;have bE:O.cell? ⟨b,1,none⟩=some v:=by rw[Lib.cell_of_heap I];rfl
 obtain⟨U,bh,cap,rfl⟩:∃ U bh cap,bC=.slice U bh cap:=by
  rcases bf.2 with⟨hv,_⟩|⟨g,cap,bD,hv,_⟩
  ·exact⟨_,_,_,hv⟩
  exact⟨_,_,_,hv⟩
 go_wp2;go_ret2
 refine⟨rfl,.inr ?_,?_⟩
 ·rw[Ob8,<-Juz t];exact Lib.BuilderAt.put (T:=312) (e:=5) y I (by simpa [Lib.strCells_length,br] using bf) zd
 exact(H.grown Y (by have:=H.size;omega) (fun k bj=>(M.lt k bj).1)).setCell (p:=⟨b,1,none⟩) y _
theorem Jsp B b l w(h:Jkw w B b l)(h0:l≠[]):
  Calls prog 162 #[.pointer (some ⟨b,0,none⟩)] w fun e w'=>e=.returned (.string (Qw l))/\Below B w w':=by
 obtain⟨p,bh,v,K,H,bx⟩:=Kic h;have Y:l.length≠0:=by simpa using h0
 rw[Oa6]at H;obtain⟨g,cap,y,rfl,I,O,br,M,bk,bz⟩:∃ g cap y,v=.slice (some ⟨g,0,none⟩) l.length cap/\B<=g/\w.heap[g]?=some (.cells y 5 (0,0))/\l.length<=cap/\cap<=maxLen/\y.size=cap*1/\y.toList.take (l.length*1)=l.map bv:=by
  rcases H.2 with⟨_,bf⟩|⟨g,cap,y,hv,r⟩
  ·exact absurd bf Y
  exact⟨g,cap,y,hv,r⟩
 have c1:w.drew.cell? ⟨b,1,none⟩=some (.slice (some ⟨g,0,none⟩) l.length cap):=by
  have:w.drew.heap[b]?=some (.cells #[p,.slice (some ⟨g,0,none⟩) l.length cap] 312 (0,0)):=K;rw[Lib.cell_of_heap this];rfl
 have bi:(Builtin.unsafeSliceData_ #[199] 209 #[.slice (some ⟨g,0,none⟩) l.length cap]).run prog w.drew=.ok (.pointer (some ⟨g,0,none⟩)) w.drew:=
  Lib.run_unsafeSliceData_row _ _ _ _ _ _ zo
 have bj:(Builtin.unsafeString_ #[209,3] 9 #[.pointer (some ⟨g,0,none⟩),.int .i64 l.length]).run prog w.drew=.ok (.string ⟨l.toArray⟩) (w.drew.freeze ⟨g,0,none⟩ l.length):=by
  refine Lib.run_unsafeString_row w.drew 209 3 9 5 underlying209 Kd2 g y.size (by have U:w.drew.heap[g]?=some (.cells y 5 (0,0)):=O;simp[World.shape?,U]) l h0 zo (by unfold maxLen at M;omega) ?_;intro j x Z;exact H.cells (g:=g) rfl j (.int .u8 x.toNat) (by simp[Z,bv])
 go_enter func162,ntmps162
 go_wp2;go_region
 all_goals (go_wp2;go_ret;exact⟨rfl,Lib.below_freeze (Below.drew (Oa5 B w)) (p:=⟨g,0,none⟩) I _⟩)
theorem Jkw.new (w:World)(B:Nat)(y:B<=w.heap.size):Jkw (w.alloc (.cells #[.pointer none,.slice none 0 0] 312)) B w.heap.size []:=
 .inl ⟨y,.slice none 0 0,heap_alloc_new _ _,⟨rfl,.inl ⟨rfl,rfl⟩⟩,by simp[Value.ownBlock]⟩
theorem Jkw.below {w w' B b l}(h:Jkw w B b l)(hb:Below w.heap.size w w'):Jkw w' B b l:=by
 have key:∀ p,Lib.BuilderAt 312 5 B b p (l.map bv) w->Lib.BuilderAt 312 5 B b p (l.map bv) w':=by
  rintro p ⟨y,v,H,K,I⟩;exact⟨y,v,by rw[hb.block b (Lib.BuilderAt.lt (T:=312) (e:=5) (B:=B) (p:=p) (bs:=l.map bv) ⟨y,v,H,K,I⟩)];exact H,Jaw K hb,I⟩
 exact h.imp (key _) (key _)
def Jel (name:ByteArray)(ts:List Int)(rs:List (List V)):Prop:=
 (1<=name.size/\name.size<=20)/\((1<=ts.length/\ts.length<=6)/\∀ j (y:j<ts.length),Jnd ts[j]=true)/\rs.length<=200/\∀ i (hi:i<rs.length),rs[i].length=ts.length/\∀ j (y:j<rs[i].length),okB (ts.getD j 0) rs[i][j].k rs[i][j].n rs[i][j].s=true
theorem zab {p:Prop}(h:p:=by
 go_enter func45,ntmps45
 go_wp2_with (go_at_call 60;refine hat.mono ?_;rintro e w' ⟨rfl,hw'⟩;subst w')
 go_ret
 exact⟨Qr H0.out.symm,hB0⟩):p:=h
open Classical in
theorem Kjj name at_ ar ct cr ts hs rs w(hnn:name.size<=maxLen)(hn:ts.length<=maxLen)(hr:rs.length<=maxLen)(hrr:∀ r∈rs,r.length<=maxLen)(hx:Kc w at_ ts)(hy:Zd w ar hs rs):
  Calls prog 45 #[.agg #[.string name,.slice at_ ts.length ct,.slice ar rs.length cr]] w fun e w'=>e=.returned (.bool (decide (Jel name ts rs)))/\Below w.heap.size w w':=by
 have hx0:=hx.below (w':=w.alloc (.cells #[.string name,.slice at_ ts.length ct,.slice ar rs.length cr] 25)) ((Oa5 _ _).alloc (Oa2 _) _);obtain⟨bt,hbt⟩:∃ bt:Bool,bt=true↔(1<=ts.length/\ts.length<=6)/\∀ j (hj:j<ts.length),Jnd ts[j]=true:=⟨decide _,decide_eq_true_iff⟩;have hat:=Kjg at_ ct ts _ hn hx0 bt hbt;have HT:=zh hbt;clear hbt;unfold maxLen at hnn hn hr;obtain⟨b,HB⟩:∃ b:Bool,Hid (b=decide (Jel name ts rs)):=⟨_,rfl⟩;rw[<-HB.out];have HBI:Hid (b=true↔Jel name ts rs):=by show _↔_;rw[HB.out];exact decide_eq_true_iff
 clear HB hx0;have hB0:Below w.heap.size w (w.alloc (.cells #[.string name,.slice at_ ts.length ct,.slice ar rs.length cr] 25)):=(Oa5 _ _).alloc (Oa2 _) _;have no:¬ Jel name ts rs->Hid (b=false):=fun h=>by
  show b=false;cases hb:b with
  |false=>rfl
  |true=>exact absurd (HBI.out.1 hb) h
 have NO:=zh no;clear no;by_cases h1:name.size<1
 ·have H0:Hid (b=false):=NO.out fun h=>by have:=h.1;omega
  exact zab
 by_cases h2:20<name.size
 ·have H0:Hid (b=false):=NO.out fun h=>by have:=h.1;omega
  exact zab
 cases hbt:bt with
 |false=>
  subst hbt;have H0:Hid (b=false):=NO.out fun h=>by have:=HT.out.2 h.2.1;simp at this
  exact zab
 |true=>
  subst hbt;by_cases h3:200<rs.length
  ·have H0:Hid (b=false):=NO.out fun h=>by have:=h.2.2.1;omega
   exact zab
  have HRR:=zh hrr;clear hrr;go_enter func45,ntmps45
  go_wp2_with (go_at_call 60;refine hat.mono ?_;rintro e w' ⟨rfl,hw'⟩;subst w')
  go_loopw [30] (fun i wr=>∃ k:Nat,k<=rs.length/\i=.int .i64 k/\Below (w.alloc (.cells #[.string name,.slice at_ ts.length ct,.slice ar rs.length cr] 25)).heap.size (w.alloc (.cells #[.string name,.slice at_ ts.length ct,.slice ar rs.length cr] 25)) wr/\Hid (∀ i (hi:i<rs.length),i<k->rs[i].length=ts.length/\∀ j (hj:j<rs[i].length),okB (ts.getD j 0) rs[i][j].k rs[i][j].n rs[i][j].s=true)) (fun i _=>rs.length-(intOf i).toNat)
  case atStart=>exact⟨0,Ob7 _,rfl,Oa5 _ _,fun j _ hj=>absurd hj (Oe0 _)⟩
  case round=>
   obtain⟨k,hk,rfl,hbw,hall⟩:=hrel;have hbw0:=Qx hbw;have c1:wr.cell? ⟨w.heap.size,1,none⟩=some (.slice at_ ts.length ct):=by rw[(Kx hbw).1 w.heap.size 1 zS];simp
   by_cases hlt:k<rs.length
   ·obtain⟨b1,o1,ra,rc,rfl,hb1,x1,hv⟩:=(hy.below hbw0).at hlt;obtain⟨br,hbr⟩:∃ br:Bool,br=true↔rs[k].length=ts.length/\∀ j (hj:j<rs[k].length),okB (ts.getD j 0) rs[k][j].k rs[k][j].n rs[k][j].s=true:=⟨decide _,decide_eq_true_iff⟩;have hir:=Kkh ra at_ rc ct rs[k] ts wr (HRR.out _ (Ob3 hlt)) hv (hx.below hbw0) br hbr;have HR:=zh hbr;clear hbr hat;cases hb:br with
    |false=>
     subst hb;have H0:Hid (b=false):=NO.out fun h=>by have:=HR.out.2 (h.2.2.2 k hlt);simp at this
     go_wp2_with (go_at_call 61;refine hir.mono ?_;rintro e w' ⟨rfl,hb⟩)
     go_ret
     exact⟨Qr H0.out.symm,Jb hbw0 hb⟩
    |true=>
     subst hb;go_wp2_with (go_at_call 61;refine hir.mono ?_;rintro e w' ⟨rfl,hb⟩)
     go_roundw
     case rel=>
      refine⟨k+1,zo,zn,Jb hbw hb,fun i hi hik=>?_⟩;by_cases e:i=k
      ·subst e;exact HR.out.1 zS
      exact hall.out i hi zo
     case measure=>simp[intOf];omega
   go_wp2;go_ret
   exact⟨Qr (HBI.out.2 ⟨⟨zo,zo⟩,HT.out.1 zS,zo,fun i hi=>hall.out i hi zo⟩).symm,hbw0⟩
end
open Go.RowKit
def Jpf (Q:Exit->Act->World->Prop):Exit->Act->World->Prop
 |.normal,a,w=>Q .normal a w
 |_,_,_=>False
theorem Jpf.imp {Q}:∀ (e:Exit) (a:Act) (w:World),Jpf Q e a w->Q e a w:=fun e a w h=>by
 cases e<;>first|exact h|exact(h:False).elim
theorem Jpf.shut {Q}:¬ LetsOut (Jpf Q):=fun ⟨_,_,h⟩=>h
def Ki4 (y:Array Oper):Bool:=y.all fun o=>match o.op with|.defer _=>false|_=>true
theorem Kj3 {y}(h:Ki4 y=true){i:Nat}{o}(ho:y[i]?=some o):∀ c,o.op≠.defer c:=by
 intro c H;obtain⟨hi,rfl⟩:=Oe2.1 ho;have:=Array.all_eq_true.1 h i hi;rw[H]at this;simp at this
theorem Kj9 {P:Program}{l n:Nat}{o:Oper}{a:Act}{next:Act->World->Prop}{Q:Exit->Act->World->Prop}{r:Result Next}(h:o.upon P a next Q r):o.uponIn (Fence.wide.inRound l) n P a next Q r:=by
 cases r with
 |ok nx w=>
  cases nx<;>simp only[Oper.upon]at h
  case value v=>exact h
  case skip=>exact h
  case defer d=>exact h
  case enter f args=>exact⟨fun y=>absurd y (by simp[Fence.inRound,Fence.wide]),CallsIn.inRound l (callsIn_wide.2 h)⟩
  case row row args=>
   refine⟨fun y=>absurd y (by simp[Fence.inRound,Fence.wide]),fun c cs _=>?_⟩;obtain⟨v,w',hr,hs⟩:=h c cs;exact⟨v,w',hr,stepsIn_wide.2 hs⟩
 |halt x w=>
  cases x<;>simp only[Oper.upon]at h
  case panic v=>exact h
theorem Kj1 {P l n y Q}(O:Ki4 y=true)(M:¬ LetsOut Q){i I a w}(h:wpOp P y Q i I a w):wpOpIn (Fence.wide.inRound l) n P y Q i I a w:=by
 unfold wpOp at h;unfold wpOpIn;cases ho:y[i]? with
 |none=>rw[ho]at h;exact h
 |some o=>
  rw[ho]at h;simp only at h |-;split
  ·rename_i H
   rw[if_pos H]at h;have K:=h.resolve_right fun hh=>M hh.2;refine⟨fun _ _=>trivial,?_⟩;rw[Oper.semAt_plain (Fence.wide.inRound l) _ _ (Kj3 O ho)];exact Kj9 K
  rename_i H
  rw[if_neg H]at h;exact⟨fun _ _=>trivial,h⟩
theorem Ki2 {P l n M y Q}(I:Ki4 y=true)(H:¬ LetsOut Q):∀ (fuel:Nat) (K:Array Bool) (a:Act) (w:World),wpAny P M y Q fuel K a w->wpAnyIn (Fence.wide.inRound l) n P M y Q fuel K a w
 |0,_,_,_,h=>h
 |fuel+1,_,_,_,h=>⟨h.1,fun i hi=>Kj1 I H (wpOp_mono (fun O w' U=>Ki2 I H fuel _ O w' U) (h.2 i hi))⟩
theorem Kix {P l n id y Q S a w}(I:P.follows .mixedOrders=true)(K:Ki4 y=true)(H:S w.drew)(h:S w.drew->wpAnyH P .any y (Jpf Q) S y.size (Array.replicate y.size false) a w.drew):(Code.region id y true).wpIn (Fence.wide.inRound l) n P Q a w:=
 Code.wpIn_mono Jpf.imp (wpIn_region_any I (Ki2 K Jpf.shut _ _ _ _ (wpAny_of_held _ _ _ _ (h H))))
