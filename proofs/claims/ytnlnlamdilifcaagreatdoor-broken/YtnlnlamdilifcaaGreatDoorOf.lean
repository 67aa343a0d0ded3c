/- Rows in memory; what a table is, and in which ways it can be written: the program's own checks. -/
import Derived.Test.YtnlnlamdilifcaaGreatDoorEr
import Derived.RangeFuncNested
import Derived.RangeFuncBound
import Derived.Shelf.RegionOpen
import Derived.OwnWalkIn
import Derived.LoopNIn
import Derived.LoopIn
import Derived.Deep.RegionHeld3
import Derived.Lib.BufferWrite
import Derived.Lib.LazyBuf
import Derived.Deep.DeepCutAuto
set_option maxHeartbeats 2000000
set_option maxRecDepth 100000
namespace Go.Proofs.YtnlnlamdilifcaaGreatDoor
section
open Go.RowKit Tryz
def iv (n:Int):Value:=Iq n
abbrev Kc (w:World)(a:Option Addr)(ns:List Int):Prop:=Uh w a (ns.map iv)
theorem Kc.at {w a ns}(h:Kc w a ns){i}(hi:i<ns.length):∃ b o,a=some (Ar b o)/\b<w.heap.size/\w.cell? (Ar b (o+i))=some (Iq ns[i]):=by
 obtain⟨b,o,y,hb,H⟩:=Uh.at h (i:=i) (by simpa using hi);exact⟨b,o,y,hb,by rw[H];simp[iv]⟩
def Je1 (h:Option Addr×Nat)(r:List V):Value:=.slice h.1 r.length h.2
structure Zd (w:World) (a:Option Addr) (hs:List (Option Addr×Nat)) (rs:List (List V)):Prop where
 len:hs.length=rs.length
 cells:Uh w a (List.zipWith Je1 hs rs)
 rows:∀ (i:Nat) h r,hs[i]?=some h->rs[i]?=some r->Jv w h.1 r
theorem Zd.below {w w' a hs rs}(h:Zd w a hs rs)(hb:Bq w w'):Zd w' a hs rs:=
 ⟨h.len,h.cells.below hb,fun i x r y hr=>(h.rows i x r y hr).below hb⟩
theorem Zd.at {w a hs rs}(h:Zd w a hs rs){i}(hi:i<rs.length):
  ∃ b o y rc,a=some (Ar b o)/\b<w.heap.size/\w.cell? (Ar b (o+i))=some (.slice y rs[i].length rc)/\Jv w y rs[i]:=by
 have K:i<hs.length:=by rw[h.len];exact hi
 obtain⟨b,o,H,hb,I⟩:=h.cells.at (i:=i) zt;exact⟨b,o,hs[i].1,hs[i].2,H,hb,by rw[I];simp[Je1],h.rows i hs[i] rs[i] (by simp[K]) (by simp[hi])⟩
def Jnd (t:Int):Bool:=decide (1<=t/\t<=3)
theorem zaM {p:Prop}(h:p:=by
 go_enter func56,ntmps56
 go_wp2;go_ret
 refine⟨Qr ?_,rfl⟩;cases b
 ·rfl
 have:=(I.out.1 rfl).1;omega):p:=h
theorem Kjg a cap ts w(Y:ts.length<=maxLen)(bf:Kc w a ts)b(hb:b=true↔(1<=ts.length/\ts.length<=6)/\∀ j (y:j<ts.length),Jnd ts[j]=true):
  Cq 56 #[.slice a ts.length cap] w fun e w'=>e=.returned (.bool b)/\w'=w:=by
 unfold maxLen at Y;have I:=zh hb;clear hb;by_cases bk:ts.length<1
 ·exact zaM
 by_cases hl:6<ts.length
 ·exact zaM
 go_enter func56,ntmps56
 go_wp2;go_loop [15] (fun i=>∃ k:Nat,k<=ts.length/\i=Iq k/\Hid (∀ j (y:j<ts.length),j<k->Jnd ts[j]=true)) (fun i=>ts.length-(intOf i).toNat)
 case atStart=>exact⟨0,Ob7 _,rfl,fun j _ y=>absurd y (Oe0 _)⟩
 case round=>
  obtain⟨k,bj,rfl,O⟩:=hrel;by_cases U:k<ts.length
  ·obtain⟨b1,br,rfl,bh,x1⟩:=bf.at U;have K:=Jlh ts[k] w;cases ho:Jnd ts[k]
   ·have M:=zh ho;have H:decide (1<=ts[k]/\ts[k]<=3)=false:=ho;rw[H]at K;clear ho H;go_wp2_with (go_at_call 80;refine K.mono ?_;rintro e w' ⟨rfl,Z⟩;subst w')
    go_ret
    refine⟨Qr ?_,rfl⟩;cases b
    ·rfl
    have:=(I.out.1 rfl).2 k U;rw[M.out]at this;exact absurd this zd
   have M:=zh ho;have H:decide (1<=ts[k]/\ts[k]<=3)=true:=ho;rw[H]at K;clear ho H;go_wp2_with (go_at_call 80;refine K.mono ?_;rintro e w' ⟨rfl,Z⟩;subst w')
   go_round
   case rel=>
    refine⟨k+1,zo,zn,fun j y bi=>?_⟩;by_cases e:j=k
    ·subst e;exact M.out
    exact O.out j y zo
   case measure=>simp[intOf];omega
  go_wp2;go_ret
  exact⟨Qr (I.out.2 ⟨zo,fun j y=>O.out j y zo⟩).symm,rfl⟩
theorem Kjr a a2 cap bf hs ts w(bi:hs.length<=maxLen)(bk:Kc w a hs)(hy:Kc w a2 ts)b(hb:b=true↔hs.length=ts.length/\∀ j (y:j<hs.length),way (ts.getD j 0) hs[j]=true):
  Cq 40 #[.slice a hs.length cap,.slice a2 ts.length bf] w fun e w'=>e=.returned (.bool b)/\w'=w:=by
 unfold maxLen at bi;have I:=zh hb;clear hb;by_cases hl:hs.length=ts.length
 ·have O:=zh hl;have bh:((hs.length:Int) != (ts.length:Int))=false:=by simp[hl]
  clear hl;go_enter func40,ntmps40
  go_wp2;go_loop [14] (fun i=>∃ k:Nat,k<=hs.length/\i=Iq k/\Hid (∀ j (y:j<hs.length),j<k->way (ts.getD j 0) hs[j]=true)) (fun i=>hs.length-(intOf i).toNat)
  case atStart=>exact⟨0,Ob7 _,rfl,fun j _ y=>absurd y (Oe0 _)⟩
  case round=>
   obtain⟨k,bA,rfl,U⟩:=hrel;by_cases Y:k<hs.length
   ·have Z:k<ts.length:=by have:=O.out;omega
    obtain⟨b1,bB,rfl,br,x1⟩:=bk.at Y;obtain⟨b2,bC,rfl,bx,bD⟩:=hy.at Z;have H:=Ja3 ts[k] hs[k] w;have M:Hid (ts.getD k 0=ts[k]):=by show _=_;simp[Z]
    cases ho:way ts[k] hs[k]
    ·have K:=zh ho;rw[ho]at H;clear ho;go_wp2_with (go_at_call 58;refine H.mono ?_;rintro e w' ⟨rfl,bj⟩;subst w')
     go_ret
     refine⟨Qr ?_,rfl⟩;cases b
     ·rfl
     have:=(I.out.1 rfl).2 k Y;rw[M.out,K.out]at this;exact absurd this zd
    have K:=zh ho;rw[ho]at H;clear ho;go_wp2_with (go_at_call 58;refine H.mono ?_;rintro e w' ⟨rfl,bj⟩;subst w')
    go_round
    case rel=>
     refine⟨k+1,zo,zn,fun j y bz=>?_⟩;by_cases e:j=k
     ·subst e;rw[M.out];exact K.out
     exact U.out j y zo
    case measure=>simp[intOf];omega
   go_wp2;go_ret
   exact⟨Qr (I.out.2 ⟨O.out,fun j y=>U.out j y zo⟩).symm,rfl⟩
 have bh:((hs.length:Int) != (ts.length:Int))=true:=by simp;omega
 go_enter func40,ntmps40
 go_wp2;go_ret
 refine⟨Qr ?_,rfl⟩;cases b
 ·rfl
 exact absurd (I.out.1 rfl).1 hl
theorem Kkh a a2 cap bi vs ts w(bk:vs.length<=maxLen)(br:Jv w a vs)(hy:Kc w a2 ts)b(hb:b=true↔vs.length=ts.length/\∀ j (y:j<vs.length),okB (ts.getD j 0) vs[j].k vs[j].n vs[j].s=true):
  Cq 57 #[.slice a vs.length cap,.slice a2 ts.length bi] w fun e w'=>e=.returned (.bool b)/\Bq w w':=by
 unfold maxLen at bk;have K:=zh hb;clear hb;by_cases hl:vs.length=ts.length
 ·have Y:=zh hl;have bj:((vs.length:Int) != (ts.length:Int))=false:=by simp[hl]
  clear hl;go_enter func57,ntmps57
  go_wp2;go_loopw [14] (fun i wr=>∃ k:Nat,k<=vs.length/\i=Iq k/\Bq w wr/\Hid (∀ j (y:j<vs.length),j<k->okB (ts.getD j 0) vs[j].k vs[j].n vs[j].s=true)) (fun i _=>vs.length-(intOf i).toNat)
  case atStart=>exact⟨0,Ob7 _,rfl,Oa5 _ _,fun j _ y=>absurd y (Oe0 _)⟩
  case round=>
   obtain⟨k,bB,rfl,I,Z⟩:=hrel;by_cases bf:k<vs.length
   ·have bh:k<ts.length:=by have:=Y.out;omega
    obtain⟨b1,bC,rfl,bx,x1,x2,bE⟩:=(br.below I).at bf;obtain⟨b2,bD,rfl,bz,bG⟩:=Kc.at (hy.below I) bh;have U:Hid (ts.getD k 0=ts[k]):=by show _=_;simp[bh]
    have H:=fun (W:World)=>Jmd vs[k].k vs[k].n vs[k].s ts[k] W;cases ho:okB ts[k] vs[k].k vs[k].n vs[k].s
    ·have O:=zh ho;rw[ho]at H;have M:=zh H;clear H;clear ho;go_wp2_with fail
     go_region_with (first|(go_at_call 81;refine(M.out _).mono ?_;rintro e w' ⟨rfl,hb⟩))
     all_goals
      go_wp2;go_ret
      refine⟨Qr ?_,Jb I (Qx (Jw hb))⟩;cases b
      ·rfl
      have:=(K.out.1 rfl).2 k bf;rw[U.out,O.out]at this;exact absurd this zd
    have O:=zh ho;rw[ho]at H;have M:=zh H;clear H ho;go_wp2_with fail
    go_region_with (first|(go_at_call 81;refine(M.out _).mono ?_;rintro e w' ⟨rfl,hb⟩))
    all_goals
     go_wp2;go_roundw
     case rel=>
      refine⟨k+1,zo,zn,Jb I (Qx (Jw hb)),fun j y bA=>?_⟩;by_cases e:j=k
      ·subst e;rw[U.out];exact O.out
      exact Z.out j y zo
     case measure=>simp[intOf];omega
   go_wp2;go_ret
   exact⟨Qr (K.out.2 ⟨Y.out,fun j y=>Z.out j y zo⟩).symm,I⟩
 have bj:((vs.length:Int) != (ts.length:Int))=true:=by simp;omega
 go_enter func57,ntmps57
 go_wp2;go_ret
 refine⟨Qr ?_,Oa5 _ _⟩;cases b
 ·rfl
 exact absurd (K.out.1 rfl).1 hl
end
section
open Go.RowKit Go.Shelf Tryz
attribute [local go_sem] Oc0
abbrev Ck (len:Nat):Type:={x:Nat×Nat // x.1+x.2<=len/\1<=x.2/\x.2<=64}
def Jaa (len g i:Nat):Nat×Nat:=(i*g,min g (len-i*g))
def cks (len g k:Nat):List (Nat×Nat):=(List.range k).map (Jaa len g)
def ckN (len g:Nat):Nat:=(len+g-1) / g
theorem Jbj len g k:cks len g (k+1)=cks len g k++[Jaa len g k]:=by simp[cks,List.range_succ]
theorem Jbp len g k:(cks len g k).length=k:=by simp[cks]
theorem Jqs {len g k}(H:1<=g)(h:k<ckN len g):k*g<len:=by
 unfold ckN at h;have y:k+1<=(len+g-1) / g:=h;rw[Nat.le_div_iff_mul_le zo]at y;rw[Of5]at y;omega
theorem Khi {len g k}(y:1<=g)(h:k*g<len):k<ckN len g:=by
 unfold ckN;have:k+1<=(len+g-1) / g:=by
  rw[Nat.le_div_iff_mul_le zo,Of5];omega
 exact this
def KpC (H y:Nat)(W I:World):Prop:=I.heap[H]?=W.heap[H]?/\I.heap[y]?=W.heap[y]?
theorem Kkd n(bU:1<=n)l M I b off len cap g(bi:1<=g)(bO:g<=64)(hlen:len<=1000)(bN:len<=cap)(J bf:List (Ck len)->World->Prop)(bJ:∀ H (x:Ck len) W,J H W->H.length<ckN len g->YieldAt Fence.wide (n-1) prog l #[Sr b (off+x.1.1) x.1.2 x.1.2] W fun e K=>
   (e=.returned (.bool true)/\J (H++[x]) K/\KpC M I W K)\/(e=.returned (.bool false)/\bf (H++[x]) K))(bH:∀ s W,J s W->J s W.drew)W(bE:W.cell? (Aq M)=some (Sr b off len cap))(bD:W.cell? (Aq I)=some (Iq (g:Int)))(h0:J [] W):
  CallsIn Fence.wide n prog 82 #[.func (.yield l) #[] #[],Pq M,Pq I] W fun e K=>(∃ v,e=.returned v) /\
   ((∃ y,y.map Subtype.val=cks len g (ckN len g)/\J y K)\/(∃ H,(∃ k,k<=ckN len g/\H.map Subtype.val=cks len g k)/\bf H K)):=by
 refine callsIn_of_wp func82 rfl trivial ?_ rfl;simp only[ntmps82,Om3,List.length_cons,List.length_nil,Nat.reduceAdd,Nat.reduceSub,Ok9,Array.replicate_zero,Om4,Ol2,List.nil_append,List.cons_append];gi_wp2
 gi_loopw [4] (fun i wr=>∃ (k:Nat) (y:List (Ck len)),k<=ckN len g/\i=Iq ((k*g:Nat):Int)/\Hid (y.map Subtype.val=cks len g k)/\J y wr/\KpC M I W wr)
  (fun i _=>len+64-(intOf i).toNat)
 case atStart=>exact⟨0,[],Ob7 _,zS,rfl,h0,rfl,rfl⟩
 case round=>
  obtain⟨k,y,bP,rfl,O,bh,bj,bk⟩:=hrel;have c1:wr.cell? (Aq M)=some (Sr b off len cap):=by rw[Oc3 (w:=W) bj];exact bE
  have c2:wr.cell? (Aq I)=some (Iq (g:Int)):=by rw[Oc3 (w:=W) bk];exact bD
  by_cases bz:k*g<len
  ·have bx:=Khi bi bz;have U:Hid (cks len g (k+1)=cks len g k++[(k*g,min g (len-k*g))]):=Jbj len g k;have bB:Hid ((k+1)*g=k*g+g):=Of5 k g;have bM:y.length=k:=by have:=congrArg List.length O.out;rw[Oa6,Jbp]at this;exact this
   generalize k*g=i at *;obtain⟨m,Y,Z⟩:∃ m:Nat,(i+m<=len/\1<=m/\m<=64)/\Hid (m=min g (len-i)):=⟨min g (len-i),zo,rfl⟩;rw[<-Z.out]at U;have bT:(if len-i<g then ((len-i:Nat):Int)else (g:Int))=(m:Int):=by have:=Z.out;split<;>omega
   obtain⟨fn,tmps,assign,body,hy,hR⟩:=bJ y ⟨(i,m),Y⟩ wr.drew (bH _ _ bh) zo;dsimp only at hy;clear bM;have bL:=Y;obtain⟨bQ,bR,bS⟩:=Y;gi_wp2
   gi_region
   gi_wp2
   refine hR.mono ?_;rintro e bC (⟨rfl,bG,bK,br⟩|⟨rfl,bI⟩)
   ·have c3:bC.cell? (Aq I)=some (Iq (g:Int)):=by rw[Oc3 (w:=wr.drew) br];exact c2
    gi_wp2
    go_roundw
    case rel=>exact⟨k+1,y++[⟨(i,m),bL⟩],bx,by rw[bB.out];go_num,by show _=_;rw[Ob8,O.out,U.out];rfl,bG,bK.trans bj,br.trans bk⟩
    case measure=>simp[intOf];omega
   gi_wp2
   refine bodyPost_ret (results_none rfl _ _ _) rfl ?_;exact⟨⟨_,rfl⟩,.inr ⟨_,⟨k+1,bx,by rw[Ob8,O.out,U.out];rfl⟩,bI⟩⟩
  have bA:Hid (k=ckN len g):=by
   rcases Oc1 k (ckN len g)with h'|h'
   ·exact absurd (Jqs bi h') bz
   ·show k=_;omega
  gi_wp2
  go_end0
  exact⟨⟨_,rfl⟩,.inl ⟨y,by rw[O.out,bA.out],bh⟩⟩
end
section
open Go.RowKit
theorem Ja5 (vs:List V):(vs.flatMap V.cells).length=vs.length*3:=by
 induction vs with
 |nil=>rfl
 |cons v vs y=>rw[Og7,Oa8,y];simp[V.cells];omega
theorem Kem {w:World}{b o:Nat}{xs:List V}(h:∀ i v,xs[i]?=some v->VAt w b (o+i*3) v):∀ j u,(xs.flatMap V.cells)[j]?=some u->w.cell? ((⟨b,o,none⟩:Addr).add j)=some u:=by
 intro j u Y;have key:∀ (H:List V) (j:Nat) (u:Value),(H.flatMap V.cells)[j]?=some u->∃ i v,H[i]?=some v/\((j=i*3/\u=Iq v.k)\/(j=i*3+1/\u=Iq v.n)\/(j=i*3+2/\u=.string v.s)):=by
  intro H;induction H with
  |nil=>intro j u h;simp at h
  |cons v H Z=>
   intro j u h;match j,h with
   |0,h=>exact⟨0,v,rfl,by simp[V.cells]at h;simp[h]⟩
   |1,h=>exact⟨0,v,rfl,by simp[V.cells]at h;simp[h]⟩
   |2,h=>exact⟨0,v,rfl,by simp[V.cells]at h;simp[h]⟩
   |j+3,h=>
    obtain⟨i,bf,hi,I⟩:=Z j u (by simpa [V.cells] using h);refine⟨i+1,bf,by simpa using hi,?_⟩;rcases I with⟨e,y⟩|⟨e,y⟩|⟨e,y⟩
    ·exact .inl ⟨zo,y⟩
    ·exact .inr (.inl ⟨zo,y⟩)
    exact .inr (.inr ⟨zo,y⟩)
 obtain⟨i,v,hi,I⟩:=key xs j u Y;obtain⟨K,M,O⟩:=h i v hi;have U:(⟨b,o,none⟩:Addr).add j=⟨b,o+j,none⟩:=by unfold Addr.add;split<;>simp_all
 rw[U];rcases I with⟨e,y⟩|⟨e,y⟩|⟨e,y⟩
 ·rw[e,y];exact K
 ·rw[e,y,<-On5];exact M
 rw[e,y,<-On5];exact O
theorem Kap (vs:List V):∀ u∈vs.flatMap V.cells,u.oneCell'=true:=by
 intro u y;obtain⟨v,_,hv⟩:=Op5.1 y;simp[V.cells]at hv;rcases hv with rfl|rfl|rfl<;>rfl
def Kv (w:World)(g:Nat)(vs:List V)(y:List Value):Prop:=∃ C:Array Value,w.heap[g]?=some (.cells C 65 (0,0))/\C.toList=vs.flatMap V.cells++y
theorem Kv.of_block {w w' g vs y}(h:Kv w g vs y)(e:w'.heap[g]?=w.heap[g]?):Kv w' g vs y:=by
 obtain⟨C,H,hC⟩:=h;exact⟨C,by rw[e];exact H,hC⟩
theorem Kv.lt {w g vs I}(h:Kv w g vs I):g<w.heap.size:=by
 obtain⟨C,H,_⟩:=h;exact zaA
theorem Kv.cell {w g vs H}(h:Kv w g vs H){j x}(I:H[j]?=some x):w.cell? (Ar g (vs.length*3+j))=some x/\w.frozen? ⟨g,vs.length*3+j,none⟩=false:=by
 obtain⟨C,y,hC⟩:=h;have:C[vs.length*3+j]?=some x:=by
  rw[<-Oe6,hC,Ob6 (by rw[Ja5];omega),Ja5];have e:vs.length*3+j-vs.length*3=j:=zo;rw[e];exact I
 exact⟨by simp[World.cell?,y,this],by simp[World.frozen?,y]⟩
theorem Kv.vals {w g vs bi}(h:Kv w g vs bi):Jv w (some (Aq g)) vs:=by
 have O:=h.lt;obtain⟨C,M,hC⟩:=h;have U:w.ownsRow 0 65 3 (Sq g vs.length C.size) vs.length (vs.flatMap V.cells)->True:=fun _=>trivial;clear U;refine .inr ⟨g,0,rfl,O,fun i v hi=>?_⟩;have key:∀ (y:List V) (i:Nat) (v:V),y[i]?=some v->(y.flatMap V.cells)[i*3]?=some (Iq v.k)/\(y.flatMap V.cells)[i*3+1]?=some (Iq v.n)/\(y.flatMap V.cells)[i*3+2]?=some (.string v.s):=by
  intro y;induction y with
  |nil=>intro i v h;simp at h
  |cons u y Y=>
   intro i v h;cases i with
   |zero=>simp at h;subst h;simp[V.cells]
   |succ i=>
    have:=Y i v (by simpa using h);have I:(i+1)*3=i*3+3:=zo;simp only[Og7,V.cells,I];simpa using this
 obtain⟨Z,bf,bh⟩:=key vs i v hi;have bj:i<vs.length:=by
  rcases Oc1 i vs.length with H|H
  ·exact H
  rw[Ob4 H]at hi;simp at hi
 have g1:C[i*3]?=some (Iq v.k):=by rw[<-Oe6,hC,Ob0 (by rw[Ja5];omega)];exact Z
 have g2:C[i*3+1]?=some (Iq v.n):=by rw[<-Oe6,hC,Ob0 (by rw[Ja5];omega)];exact bf
 have K:C[i*3+2]?=some (.string v.s):=by rw[<-Oe6,hC,Ob0 (by rw[Ja5];omega)];exact bh
 unfold VAt;simp only[World.cell?,M,Od0];simp[g1,g2,K]
theorem Jtz (C:Array Value)(y H:List Value)x I(n:Nat)(h:C.toList=y++x::H)(K:y.length=n):(C.setIfInBounds n I).toList=(y++[I])++H:=by
 rw[Ok0,h,Ok4 _ _ zo,K,Oe1];simp
theorem Kv.set3 {w g vs U x1 x2 y}(h:Kv w g vs (U::x1::x2::y))v n(O:n=vs.length):
  Kv (((w.setCell (Ar g (n*3)) (Iq v.k)).setCell (Ar g (n*3+1)) (Iq v.n)).setCell (Ar g (n*3+2)) (.string v.s)) g (vs++[v]) y:=by
 subst O;obtain⟨C,M,hC⟩:=h;have hl:=Ja5 vs;have H:=Jtz C _ _ _ (Iq v.k) _ hC hl;have I:=Jtz _ _ _ _ (Iq v.n) (vs.length*3+1) H (by simp[hl]);have K:=Jtz _ _ _ _ (.string v.s) (vs.length*3+2) I (by simp[hl]);refine⟨_,?_,K.trans ?_⟩
 ·simp[World.setCell,Array.getElem?_modify,M]
 simp[V.cells]
theorem Ut {w w1 I:World}{r:Option Nat}(h:w.grownBy w1 r)(k:w1.grownBy I r):w.grownBy I r:=
 ⟨k.os.trans h.os,k.tape.trans h.tape,k.output.trans h.output,Ob2 h.size k.size,fun j y H=>(k.block j (Oc2 y h.size) H).trans (h.block j y H)⟩
theorem Qq {w w' r}(h:Bq w w'):w.grownBy w' r:=⟨h.os,h.tape,h.output,h.size,fun j y _=>h.block j y⟩
theorem Ka4 {w w':World}{g:Nat}(h:w.grownBy w' (some g))(o:Nat)(v:Value):w.grownBy (w'.setCell (Ar g o) v) (some g):=
 ⟨h.os,h.tape,h.output,by simpa [World.setCell] using h.size,fun j H y=>(Oa4 _ _ _ _ (fun e=>y (by rw[e]))).trans (h.block j H y)⟩
theorem Kv.at3 {w g y}(h:Kv w g y [])v k(I:k<y.length):
  ((w.cell? (Ar g (k*3))=some (Iq y[k].k)/\w.frozen? ⟨g,k*3,none⟩=false)/\(w.cell? (Ar g (k*3+1))=some (Iq y[k].n)/\w.frozen? ⟨g,k*3+1,none⟩=false)/\(w.cell? (Ar g (k*3+2))=some (.string y[k].s)/\w.frozen? ⟨g,k*3+2,none⟩=false)) /\
  Kv (((w.setCell (Ar g (k*3)) (Iq v.k)).setCell (Ar g (k*3+1)) (Iq v.n)).setCell (Ar g (k*3+2)) (.string v.s)) g (y.set k v) []:=by
 obtain⟨C,O,hC⟩:=h;rw[Od7]at hC;have Z:y=y.take k++y[k]::y.drop (k+1):=by rw[<-Oi1 I,Ok3]
 have hlen:(y.take k).length=k:=by rw[Oc7];omega
 have H:Kv w g (y.take k) (y[k].cells++(y.drop (k+1)).flatMap V.cells):=by
  refine⟨C,O,?_⟩;rw[hC];conv=>lhs;rw[Z]
  rw[Oe8,Og7]
 have c0:=H.cell (j:=0) rfl;have c1:=H.cell (j:=1) rfl;have c2:=H.cell (j:=2) rfl;rw[hlen]at c0 c1 c2;rw[Nat.add_zero]at c0;refine⟨⟨c0,c1,c2⟩,?_⟩;obtain⟨K,U,M⟩:=H.set3 v k hlen.symm;refine⟨K,U,?_⟩;rw[M,Od7];have Y:y.set k v=y.take k++v::y.drop (k+1):=by
  rw[On0,if_pos I]
 rw[Y];simp[V.cells]
end
def Jlv (s:Nat)(b:UInt8):Nat:=((s ^^^ b.toNat)*1099511628211) % 18446744073709551616
def Khr (l:List UInt8):Nat:=l.foldl Jlv 14695981039346656037
def le7 (u:Nat):List UInt8:=(List.range 7).map fun i=>UInt8.ofNat (u / 256 ^ i % 256)
def Jm7 (l:List UInt8):List UInt8:=le7 (Khr l)
def body (y:List UInt8):List UInt8:=y++List.replicate (56-y.length) 0++[UInt8.ofNat y.length]
def Jdm (y:List UInt8):List UInt8:=body y++Jm7 (body y)
def Jd2 (p:List UInt8):Option (List UInt8):=
 if 56<(p.getD 56 0).toNat\/p.drop 57≠Jm7 (p.take 57)then none else some (p.take (p.getD 56 0).toNat)
theorem Jcc {y}(h:y.length<=56):(body y).length=57:=by
 simp[body];omega
theorem Jhq u:(le7 u).length=7:=by simp[le7]
theorem Kjo l:(Jm7 l).length=7:=Jhq _
theorem Jwh {y}(h:y.length<=56):(Jdm y).take 57=body y:=by
 rw[Jdm,List.take_append_of_le_length (by rw[Jcc h];exact Oa2 _),Oc8 (by rw[Jcc h];exact Oa2 _)]
theorem Jwp {y}(h:y.length<=56):(Jdm y).drop 57=Jm7 (body y):=by
 rw[Jdm,List.drop_append,Jcc h];simp[List.drop_of_length_le,Jcc h]
theorem zaR {p:Prop}(h:p:=by
 have:56-(y++List.replicate (56-y.length) (0:UInt8)).length=0:=by simp;omega
 rw[this];rfl):p:=h
theorem Kbq {y}(h:y.length<=56):((Jdm y).getD 56 0).toNat=y.length:=by
 have e:(Jdm y).getD 56 0=UInt8.ofNat y.length:=by
  rw[Jdm,Oa0,Ob0 (by rw[Jcc h];omega),body,Ob6 zt];exact zaR
 rw[e];simp;omega
theorem Jxe {y}(h:y.length<=56):Jd2 (Jdm y)=some y:=by
 unfold Jd2;rw[Kbq h,Jwh h,Jwp h,if_neg zt];congr 1
 rw[Jdm,body,Od8,Od8,List.take_left]
section
open Go.RowKit Tryz
def Jdp (w:World)(b:Nat)(p:List UInt8):Prop:=p.length=64/\w.rowIs b 268 64 (fun j=>bv (p.getD j 0))
theorem Jdp.of_block {w w' b p}(h:Jdp w b p)(e:w'.heap[b]?=w.heap[b]?):Jdp w' b p:=⟨h.1,h.2.of_block e⟩
theorem Jdp.below {w w' b p}(h:Jdp w b p)(hb:Bq w w'):Jdp w' b p:=h.of_block (hb.block _ h.2.lt)
theorem Kgb (x y:Nat)(K:x<18446744073709551616)(hy:y<18446744073709551616):bits .xor .u64 (x:Int) (y:Int)=((x ^^^ y:Nat):Int):=by
 have M:x ^^^ y<18446744073709551616:=Oo8 (n:=64) K hy;have key:(BitVec.ofInt 64 (x:Int) ^^^ BitVec.ofInt 64 (y:Int)).toNat=x ^^^ y:=by
  rw[BitVec.toNat_xor,Ok6,Ok6];have H:((x:Int) % ((2 ^ 64:Nat):Int)).toNat=x:=zo;have I:((y:Int) % ((2 ^ 64:Nat):Int)).toNat=y:=zo;rw[H,I]
 show IntKind.u64.wrap ((BitVec.ofInt 64 (x:Int) ^^^ BitVec.ofInt 64 (y:Int)).toNat:Nat)=_;rw[key,Oh5];omega
theorem Jze (p:List UInt8)(k:Nat)(y:k<p.length)(s:Nat):(p.take (k+1)).foldl Jlv s=Jlv ((p.take k).foldl Jlv s) (p.getD k 0):=by
 rw[Oc4 y,Ol1,List.foldl_cons,List.foldl_nil];congr 1
 simp[y]
theorem Jsn b p w(h:Jdp w b p):
  Cq 144 #[Pq b] w fun e w'=>e=.returned (.string (Qw (Jm7 (p.take 57))))/\Bq w w':=by
 go_enter func144,ntmps144
 go_wp2;go_loopw [3,12] (fun s i wr=>∃ k z:Nat,k<=57/\i=Iq k/\s=.int .u64 z/\z<18446744073709551616/\Hid (z=(p.take k).foldl Jlv 14695981039346656037)/\(∃ m,wr=w.drewN m)) (fun _ i _=>57-(intOf i).toNat)
 case atStart=>exact⟨0,14695981039346656037,zo,rfl,rfl,zd,rfl,0,rfl⟩
 case round=>
  rename_i s i
  obtain⟨k,z,bj,rfl,rfl,bf,M,m,rfl⟩:=hrel;by_cases Z:k<57
  ·obtain⟨n,bx,K⟩:∃ n:Nat,n<256/\Hid (n=(p.getD k 0).toNat):=⟨_,(p.getD k 0).toNat_lt,rfl⟩;have bi:w.cell? (Ar b k)=some (.int .u8 (n:Nat)):=by rw[h.2.cell (i:=k) zo,K.out];rfl
   have bz:=Kgb z n bf zo;have bA:z ^^^ n<18446744073709551616:=Oo8 (n:=64) bf zo;have bh:Hid (Jlv z (p.getD k 0)=((z ^^^ n)*1099511628211) % 18446744073709551616):=by show Jlv _ _=_;rw[K.out];rfl
   generalize z ^^^ n=x at *;go_wp2;go_roundw
   case rel=>
    refine⟨k+1,(x*1099511628211) % 18446744073709551616,zo,zn,?_,zo,?_,m,rfl⟩
    ·have e:((x*1099511628211 % 18446744073709551616:Nat):Int)=(x:Int)*1099511628211 % 18446744073709551616:=zo;rw[Oh5,e]
    exact(bh.out.symm.trans (by rw[M.out])).trans (Jze p k (by rw[h.1];omega) _).symm
   case measure=>simp[intOf];omega
  obtain rfl:k=57:=zo;go_wp2;go_loopw [22] (fun i wr=>∃ k:Nat,k<=7/\i=Iq k/\wr.rowIs w.heap.size 337 7 (fun j=>bv (if j<k then (le7 z).getD j 0 else 0))/\Bq w wr) (fun i _=>7-(intOf i).toNat)
  case atStart=>
   refine⟨0,zo,rfl,World.rowIs_alloc _ _ _ _ ?_,(Jp (Oa5 _ w) m).alloc (Oa2 _) _⟩;intro i hi;match i,hi with
   |0,_=>rfl
   |1,_=>rfl
   |2,_=>rfl
   |3,_=>rfl
   |4,_=>rfl
   |5,_=>rfl
   |6,_=>rfl
  case round=>
   rename_i i
   obtain⟨k,bj,rfl,H,O⟩:=hrel;by_cases Z:k<7
   ·have bi:=H.cell (i:=k) zo;have br:=H.frozen k;go_wp2;go_roundw
    case rel=>
     refine⟨k+1,zo,zn,(H.set k _).congr fun j y=>?_,O.setCell (p:=Ar w.heap.size k) (Oa2 _) _⟩;by_cases Y:j=k
     ·subst Y;have hp:(2:Int) ^ (8*j)=((256 ^ j:Nat):Int):=by
       have:(256:Nat) ^ j=2 ^ (8*j):=by rw[Nat.pow_mul]
       rw[this];simp
      simp[le7,Z,bv,hp]
     have:(j<k+1)=(j<k):=by rw[eq_iff_iff];omega
     simp[Y,this]
    case measure=>simp[intOf];omega
   obtain rfl:k=7:=zo;have bk:(convert 199 9 (Sq w.heap.size 7 7)).run prog wr=.ok (.string (Qw (le7 z))) wr:=by
    have:=Jc6 wr ⟨w.heap.size,0,none⟩ 7 (le7 z) (fun j u y=>?_)
    ·rwa [Jhq]at this
    have U:j<7:=by
     rcases Oc1 j 7 with I|I
     ·exact I
     ·rw[Ob4 (by simp[Jhq];exact I)]at y;simp at y
    have:=H.cell (i:=j) U;rw[Addr.add_mid];simp only[Od0];rw[this];simp[U,Jhq]at y |-;exact y
   go_wp2;go_ret
   refine⟨?_,O⟩;show Ending.returned (Value.string (Qw (le7 z)))=_;rw[show Jm7 (p.take 57)=le7 z by unfold Jm7 Khr;rw[<-M.out]]
theorem Kgi w:(Go.sizeOf 5).run prog w=.ok 1 w:=zK
theorem Kju l:(Qw l).data.toList=l:=by simp[Qw]
theorem Kkt (w:World)(C:Array Value)(hC:C=Array.replicate 64 (.int .u8 0)):(w.alloc (.cells C 268)).rowIs w.heap.size 268 64 (fun _=>bv 0):=by
 subst hC;refine World.rowIs_alloc _ _ _ _ fun i hi=>?_;simp at hi;rw[Array.getElem?_replicate,if_pos hi];rfl
theorem Kkm y(hp:y.length<=56)j(I:j<64):
  (if j=56 then Value.int .u8 ((y.length:Nat):Int)else if 0<=j/\j<0+(y.map fun x=>Value.int .u8 (x.toNat:Int)).length then (y.map fun x=>Value.int .u8 (x.toNat:Int))[j-0]?.getD default else bv 0)=bv ((body y++List.replicate 7 0).getD j 0):=by
 by_cases H:j=56
 ·subst H;have e:(body y++List.replicate 7 0).getD 56 0=UInt8.ofNat y.length:=by
   rw[Oa0,Ob0 (by rw[Jcc hp];omega),body,Ob6 zt];exact zaR
  rw[if_pos rfl,e];simp[bv];omega
 rw[if_neg H];by_cases hl:j<y.length
 ·rw[if_pos zt];have e:(body y++List.replicate 7 0).getD j 0=y[j]:=by
   rw[Oa0,Ob0 (by rw[Jcc hp];omega),body,Od8,Ob0 hl];simp[hl]
  rw[e];simp[hl,bv]
 rw[if_neg zt];have e:(body y++List.replicate 7 0).getD j 0=0:=by
  rw[Oa0];rcases Oc1 j 57 with h|h
  ·rw[Ob0 (by rw[Jcc hp];omega),body,Ob0 zt,Ob6 zo,Of3];split<;>rfl
  rw[Ob6 (by rw[Jcc hp];omega),Of3];split<;>rfl
 rw[e]
theorem Kki bd sb(hb:bd.length=57)(hs:sb.length=7)j(y:j<64):
  (if 57<=j/\j<57+(sb.map fun x=>Value.int .u8 (x.toNat:Int)).length then (sb.map fun x=>Value.int .u8 (x.toNat:Int))[j-57]?.getD default else bv ((bd++List.replicate 7 0).getD j 0))=bv ((bd++sb).getD j 0):=by
 by_cases h:57<=j
 ·rw[if_pos (by simp[hs];omega),Oa0,Ob6 zo,hb];simp[show j-57<sb.length by omega,bv]
 rw[if_neg zt,Oa0,Oa0,Ob0 zo,Ob0 zo]
theorem Kkp y(hp:y.length<=56)w:
  Cq 113 #[.string (Qw y)] w fun e w'=>e=.returned (Pq w.heap.size)/\Jdp w' w.heap.size (Jdm y)/\Bq w w':=by
 have bK:=Jb2 y;go_enter func113,ntmps113
 go_upto_region 2 with fail
 generalize U:World.alloc w (Obj.cells _ 268)=I;have K:I.rowIs w.heap.size 268 64 (fun _=>bv 0):=by rw[<-U];exact Kkt w _ rfl
 have bh:Bq w I:=by rw[<-U];exact(Oa5 _ w).alloc (Oa2 _) _
 clear U;have bE:=run_copy_string (P:=prog) I 199 9 3 5 w.heap.size 0 64 64 (Qw y) underlying199 Kgi zo
  (fun j H=>by rw[Od0,K.cell zo];rfl) (fun j H=>by rw[Od0];exact K.frozen j)
 have M:=rowIs_setCells ((Qw y).data.toList.map fun x=>Value.int .u8 (x.toNat:Int)) 0 _ _ K;have bi:=below_setCells (Oa2 w.heap.size) ((Qw y).data.toList.map fun x=>Value.int .u8 (x.toNat:Int)) 0 _ bh;generalize I.setCells w.heap.size 0 ((Qw y).data.toList.map fun x=>Value.int .u8 (x.toNat:Int))=bA at *;have bB:=M.cell (i:=56) zo;have bC:=M.frozen 56;go_upto_region 4 with fail
 have bx:=M.set 56 (.int .u8 ((y.length:Nat):Int));have bj:=bi.setCell (p:=Ar w.heap.size 56) (Oa2 _) (.int .u8 ((y.length:Nat):Int));generalize bA.setCell (Ar w.heap.size 56) (.int .u8 ((y.length:Nat):Int))=bf at *;have br:Jdp bf w.heap.size (body y++List.replicate 7 0):=by
  refine⟨by simp[Jcc hp],bx.congr fun j H=>?_⟩;rw[Kju];exact Kkm y hp j H
 clear bE M bi bB bC bx K bh;have bH:(body y++List.replicate 7 0).take 57=body y:=by
  rw[List.take_append_of_le_length (by rw[Jcc hp];exact Oa2 _),Oc8 (by rw[Jcc hp];exact Oa2 _)]
 have bz:=Jsn w.heap.size _ bf.drew (br.of_block rfl);rw[bH]at bz;have O:=Kjo (body y);have Z:Hid (Jdm y=body y++Jm7 (body y)):=rfl;generalize Jm7 (body y)=sb at *;go_region_with (first|(go_at_call 144;refine bz.mono ?_;rintro e bI ⟨rfl,bk⟩;have Y:=(br.below (Jw bk)).2;have bJ:=run_copy_string (P:=prog) bI 199 9 3 5 w.heap.size 57 7 7 (Qw sb) underlying199 Kgi (by rw[Jb2,O];omega) (fun j H=>by rw[Jb2,O]at H;rw[Y.cell zo];rfl) (fun j H=>Y.frozen _)))
 have bG:=rowIs_setCells ((Qw sb).data.toList.map fun x=>Value.int .u8 (x.toNat:Int)) 57 _ _ Y;have bD:=below_setCells (Oa2 w.heap.size) ((Qw sb).data.toList.map fun x=>Value.int .u8 (x.toNat:Int)) 57 _ (bj.trans ((Jw bk).mono bj.size));go_wp2;go_ret
 refine⟨rfl,⟨by rw[Z.out];simp[Jcc hp,O],bG.congr fun j H=>?_⟩,bD⟩;rw[Kju,Z.out];exact Kki (body y) sb (Jcc hp) O j H
theorem Jjh b p W(h:Jdp W b p)lo n c(K:lo+n<=64):
  (convert 199 9 (Sr b lo n c)).run prog W=.ok (.string (Qw ((p.drop lo).take n))) W:=by
 have hl:((p.drop lo).take n).length=n:=by rw[Oc7,Of7,h.1];omega
 have:=Jc6 W ⟨b,lo,none⟩ c ((p.drop lo).take n) (fun j u y=>?_)
 ·rwa [hl]at this
 have I:j<n:=by
  rcases Oc1 j n with H|H
  ·exact H
  ·rw[Ob4 zt]at y;simp at y
 rw[Addr.add_mid,h.2.cell (i:=lo+j) zo];rw[Ob1,Oh3 I,Oh9]at y;rw[Oa0];cases hq:p[lo+j]? with
 |none=>rw[hq]at y;simp at y
 |some x=>rw[hq]at y;simpa using y
theorem Jtg:prog.elem 268=5:=zK
theorem Jp0:prog.underlying 268=some (.array (prog.arrayLen 268) (prog.elem 268)):=zK
theorem Jmr:prog.arrayLen 268=64:=zK
theorem Jt5 (b n:Nat)W(y:n<=64):(Instr.sliceAt 268 (Pq b) none (some (Iq (n:Int))) none).run prog W=.ok (Sq b n 64) W:=by
 have h:=run_sliceAt_array_h (P:=prog) W 268 ⟨b,0,none⟩ Jp0 .i64 (n:Int) zo (by rw[Jmr];omega);rw[Jtg,Kgi,Jmr]at h;rw[h];simp[Result.andThen,slicedAt,Addr.add]
theorem Ke1 b p w(h:Jdp w b p):
  Cq 131 #[Pq b] w fun e w'=>e=.returned (.tuple #[.string (Qw ((Jd2 p).getD [])),.bool (Jd2 p).isSome])/\Bq w w':=by
 obtain⟨n,bz,bf⟩:∃ n:Nat,n<256/\Hid (n=(p.getD 56 0).toNat):=⟨_,(p.getD 56 0).toNat_lt,rfl⟩;have br:w.cell? (Ar b 56)=some (.int .u8 (n:Nat)):=by rw[h.2.cell (i:=56) zo,bf.out];rfl
 have H:Hid (Jd2 p=if 56<n\/p.drop 57≠Jm7 (p.take 57)then none else some (p.take n)):=by show Jd2 p=_;unfold Jd2;rw[bf.out]
 generalize Jd2 p=op at *;have bk:=Jsn b p w.drew (h.of_block rfl);have U:(p.drop 57).take 7=p.drop 57:=Oc8 (by rw[Of7,h.1];omega);have bi:=Jjh b p w.drew (h.of_block rfl) 57 7 7 zo;rw[U]at bi;by_cases bh:56<n
 ·have:op=none:=by rw[H.out,if_pos (.inl bh)]
  subst this;have bj:decide ((56:Int)<(n:Int))=true:=by simp;omega
  go_enter func131,ntmps131
  go_wp2_with fail
  go_quiet (fail)
  go_wp2;go_ret2
  exact⟨rfl,Jp (Oa5 _ _) _⟩
 have Z:Hid (∀ W,Jdp W b p->(convert 199 9 (Sr b 57 7 7)).run prog W=.ok (.string (Qw (p.drop 57))) W):=fun W hW=>by
  have:=Jjh b p W hW 57 7 7 zo;rwa [U]at this
 have Y:Hid (∀ W,Jdp W b p->(convert 199 9 (Sq b n 64)).run prog W=.ok (.string (Qw (p.take n))) W):=fun W hW=>by
  have:=Jjh b p W hW 0 n 64 zo;rwa [List.drop_zero]at this
 have O:Hid (∀ W,Jdp W b p->Cq 144 #[Pq b] W fun e w'=>e=.returned (.string (Qw (Jm7 (p.take 57))))/\Bq W w'):=fun W hW=>Jsn b p W hW;have bj:decide ((56:Int)<(n:Int))=false:=by simp;omega
 clear bk bi U;by_cases y:p.drop 57=Jm7 (p.take 57)
 ·have:op=some (p.take n):=by rw[H.out,if_neg (by intro hh;rcases hh with hh|hh;exact bh hh;exact hh y)]
  subst this;rw[<-y]at O;clear H y;generalize p.drop 57=sb at *;generalize p.take n=pn at *;go_enter func131,ntmps131
  go_wp2_with fail
  go_region_held3 (fun X=>Jdp X b p/\(convert 199 9 (Sr b 57 7 7)).run prog X=.ok (.string (Qw sb)) X)
   (first|(go_split_ands;refine⟨?_,Z.out _ ?_⟩<;>(first|exact h|exact h.of_block rfl|exact M|(have hq:Jdp _ b p:=by assumption;exact hq.of_block rfl)|assumption)))
   (first|(go_at_call 144;refine(O.out _ (by first|assumption|(go_split_ands;assumption))).mono ?_;rintro e K ⟨rfl,I⟩;have M:Jdp K b p:=Jdp.below (w:=w.drew) (h.of_block rfl) I))
  have bx:=Y.out K M;have bB:=Jt5 b n K zo;go_wp2;go_ret2
  exact⟨rfl,Jw I⟩
 have:op=none:=by rw[H.out,if_pos (.inr y)]
 subst this;have bA:((Qw (p.drop 57)).toList==(Qw (Jm7 (p.take 57))).toList)=false:=by
  rw[beq_eq_false_iff_ne];exact fun hh=>y (Kfv (by rw[<-Zf (Qw (p.drop 57)),hh,Zf]))
 clear H y Y;generalize p.drop 57=sb at *;generalize Jm7 (p.take 57)=sc at *;go_enter func131,ntmps131
 go_wp2_with fail
 go_region_held3 (fun X=>Jdp X b p/\(convert 199 9 (Sr b 57 7 7)).run prog X=.ok (.string (Qw sb)) X)
  (first|(go_split_ands;refine⟨?_,Z.out _ ?_⟩<;>(first|exact h|exact h.of_block rfl|exact M|(have hq:Jdp _ b p:=by assumption;exact hq.of_block rfl)|assumption)))
  (first|(go_at_call 144;refine(O.out _ (by first|assumption|(go_split_ands;assumption))).mono ?_;rintro e K ⟨rfl,I⟩;have M:Jdp K b p:=Jdp.below (w:=w.drew) (h.of_block rfl) I))
 go_wp2;go_ret2
 exact⟨rfl,Jw I⟩
theorem Jye:(prog.info? 252).map (·.size)=some 2:=zK
theorem Kfg:liesAt prog prog.depth 252 (2 / prog.cellsOf 252) 0 252 1=true:=zK
theorem Kd2:prog.cellsOf 5=1:=zK
theorem Jrs b w(h0:w.cell? (Aq b)=some (Pq b)):
  Cq 174 #[Pq b] w fun e w'=>e=.returned (.tuple #[])/\w'=w:=by
 obtain⟨j,y,_⟩:=Oe9.1 Jye;go_enter func174,ntmps174
 go_wp2;rw[Lib.run_neq_ptr_same w _ underlying250 y];go_wp2;go_end0
 exact⟨rfl,rfl⟩
theorem Jqn b w(h0:w.cell? (Aq b)=some (.pointer none))(H:w.shape? b=some (252,2))(K:w.frozen? ⟨b,0,none⟩=false):
  Cq 174 #[Pq b] w fun e w'=>e=.returned (.tuple #[])/\w'=w.setCell (Aq b) (Pq b):=by
 obtain⟨j,y,I⟩:=Oe9.1 Jye;go_enter func174,ntmps174
 go_wp2;rw[Lib.run_to_unsafe w ⟨b,0,none⟩ underlying250 underlying184 y (by rw[I];decide) H (Nat.zero_lt_succ 1)];simp only[Result.andThen];rw[Oper.upon_value];go_wp2;rw[run_callFunc_extern func217 zK zK zK (e:=Extern.AbiNoEscape.same) zK];rw[Lib.run_noEscape];simp only[Result.andThen];rw[Oper.upon_value];go_wp2;rw[Lib.run_from_unsafe w ⟨b,0,none⟩ underlying184 underlying250 y H Kfg];simp only[Result.andThen];rw[Oper.upon_value];go_wp2;go_end0
 exact⟨rfl,rfl⟩
def Jkw (w:World)(B b:Nat)(l:List UInt8):Prop:=Lib.IsBuilder 252 5 B b (l.map bv) w
theorem Kic {w B b l}(h:Jkw w B b l):∃ p,Lib.BuilderAt 252 5 B b p (l.map bv) w:=by
 rcases h with h|h
 ·exact⟨_,h⟩
 exact⟨_,h⟩
theorem Juu B b l w(h:Jkw w B b l):
  Cq 174 #[Pq b] w fun e w'=>e=.returned (.tuple #[])/\Lib.BuilderAt 252 5 B b (Pq b) (l.map bv) w'/\Below B w w':=by
 rcases h with h|h
 ·refine(Jqn b w h.cell0 h.shape h.frozen0).mono ?_;rintro e w' ⟨rfl,rfl⟩;exact⟨rfl,h.used _,(Oa5 B w).setCell (p:=Aq b) h.1 _⟩
 refine(Jrs b w h.cell0).mono ?_;rintro e w' ⟨rfl,rfl⟩;exact⟨rfl,h,Oa5 B _⟩
theorem Juz l:Lib.strCells (Qw l)=l.map bv:=by
 unfold Lib.strCells Qw;rfl
theorem Jv2 B b l t w(h:Jkw w B b l)(hlen:l.length+t.length<=100000000)(bH:B<=w.heap.size):
  Cq 132 #[Pq b,.string (Qw t)] w fun e w'=>e=.returned (.tuple #[Iq (Qw t).size,.nilIface])/\Jkw w' B b (l++t)/\Below B w w':=by
 obtain⟨bB,hi,bx,bz,bA⟩:=info_parts Jfa;have br:=Jb2 t;go_enter func132,ntmps132
 go_wp2_with (go_at_call 174;refine(Juu B b l _ h).mono ?_)
 rintro e w1 ⟨rfl,bi,H⟩;obtain⟨y,v,K,M,Z⟩:=bi;have c1:w1.cell? (Ar b 1)=some v:=by rw[Lib.cell_of_heap K];rfl
 have bk:=Lib.BuilderAt.lt (T:=252) (e:=5) (B:=B) (p:=Pq b) (bs:=l.map bv) ⟨y,v,K,M,Z⟩;go_wp2_with (at_builtin;refine Lib.wpList_append_own_string _ rfl _ _ 199 9 rfl B 5 bB underlying199 underlying9 hi bx bz bA _ _ _ rfl M (Qw t) rfl ?c3 ?c4 ?c5 ?_)
 case c3=>unfold maxLen;simp;omega
 case c4=>simp;omega
 case c5=>have:=H.size;omega
 intro bC O bf Y _;have I:O.heap[b]?=some (.cells #[Pq b,v] 252 (0,0)):=by
  rw[Y.block b bk (fun e=>Z e.symm)];exact K
 have bG:O.frozen? ⟨b,1,none⟩=false:=Lib.frozen_of_heap I 1;have bE:O.cell? (Ar b 1)=some v:=by rw[Lib.cell_of_heap I];rfl
 obtain⟨U,bh,cap,rfl⟩:∃ U bh cap,bC=.slice U bh cap:=by
  rcases bf.2 with⟨hv,_⟩|⟨g,cap,bD,hv,_⟩
  ·exact⟨_,_,_,hv⟩
  exact⟨_,_,_,hv⟩
 go_wp2;go_ret2
 refine⟨rfl,.inr ?_,?_⟩
 ·rw[Ob8,<-Juz t];exact Lib.BuilderAt.put (T:=252) (e:=5) y I (by simpa [Lib.strCells_length,br] using bf) zd
 exact(H.grown Y (by have:=H.size;omega) (fun k bj=>(M.lt k bj).1)).setCell (p:=Ar b 1) y _
theorem Jsp B b l w(h:Jkw w B b l)(h0:l≠[]):
  Cq 133 #[Pq b] w fun e w'=>e=.returned (.string (Qw l))/\Below B w w':=by
 obtain⟨p,bh,v,K,H,bx⟩:=Kic h;have Y:l.length≠0:=by simpa using h0
 rw[Oa6]at H;obtain⟨g,cap,y,rfl,I,O,br,M,bk,bz⟩:∃ g cap y,v=Sq g l.length cap/\B<=g/\w.heap[g]?=some (.cells y 5 (0,0))/\l.length<=cap/\cap<=maxLen/\y.size=cap*1/\y.toList.take (l.length*1)=l.map bv:=by
  rcases H.2 with⟨_,bf⟩|⟨g,cap,y,hv,r⟩
  ·exact absurd bf Y
  exact⟨g,cap,y,hv,r⟩
 have c1:w.drew.cell? (Ar b 1)=some (Sq g l.length cap):=by
  have:w.drew.heap[b]?=some (.cells #[p,Sq g l.length cap] 252 (0,0)):=K;rw[Lib.cell_of_heap this];rfl
 have bi:(Builtin.unsafeSliceData_ #[199] 209 #[Sq g l.length cap]).run prog w.drew=.ok (Pq g) w.drew:=
  Lib.run_unsafeSliceData_row _ _ _ _ _ _ zo
 have bj:(Builtin.unsafeString_ #[209,3] 9 #[Pq g,Iq l.length]).run prog w.drew=.ok (.string ⟨l.toArray⟩) (w.drew.freeze ⟨g,0,none⟩ l.length):=by
  refine Lib.run_unsafeString_row w.drew 209 3 9 5 underlying209 Kd2 g y.size (by have U:w.drew.heap[g]?=some (.cells y 5 (0,0)):=O;simp[World.shape?,U]) l h0 zo (by unfold maxLen at M;omega) ?_;intro j x Z;exact H.cells (g:=g) rfl j (.int .u8 x.toNat) (by simp[Z,bv])
 go_enter func133,ntmps133
 go_wp2;go_region
 all_goals (go_wp2;go_ret;exact⟨rfl,Lib.below_freeze (Below.drew (Oa5 B w)) (p:=Aq g) I _⟩)
theorem Kxr B b w(h:Jkw w B b [])(bA:B<=w.heap.size):
  Cq 133 #[Pq b] w fun e w'=>e=.returned (.string (Qw []))/\Below B w w':=by
 obtain⟨p,bi,v,I,U,bz⟩:=Kic h;have bk:∀ q W,(Builtin.unsafeString_ #[209,3] 9 #[.pointer q,iZ]).run prog W=.ok (.string .empty) W:=fun q W=>Lib.run_unsafeString_none W _ _ _ q;have M:∀ c q V,v=.slice c 0 q->∀ H,(Builtin.unsafeSliceData_ #[199] 209 #[.slice c 0 q]).run prog w.drew=.ok (.pointer V) H->Bq w H->Cq 133 #[Pq b] w fun e w'=>e=.returned (.string (Qw []))/\Below B w w':=fun c q V hv H bj y=>by
  subst hv;have c1:w.drew.cell? (Ar b 1)=some (.slice c 0 q):=by
   have:w.drew.heap[b]?=some (.cells #[p,.slice c 0 q] 252 (0,0)):=I;rw[Lib.cell_of_heap this];rfl
  have c2:H.cell? (Ar b 1)=some (.slice c 0 q):=by
   have:H.heap[b]?=some (.cells #[p,.slice c 0 q] 252 (0,0)):=(y.block b (Oe2.1 I).1).trans I;rw[Lib.cell_of_heap this];rfl
  have Y:Hid (Below B w H):=⟨y.os,y.tape,y.output,y.size,fun k bx=>y.block k zo⟩;clear y U I;go_enter func133,ntmps133
  go_wp2;go_region
  all_goals (go_wp2;go_ret;exact⟨rfl,Y.out⟩)
 have K:Bq w w.drew:=⟨rfl,rfl,rfl,Oa2 _,fun _ _=>rfl⟩;rcases U.2 with⟨hv,_⟩|⟨g,cap,Z,hv,br,bf,_⟩
 ·exact M none 0 none hv w.drew (Lib.run_unsafeSliceData_nil _ _ _ _ _) K
 by_cases O:cap=0
 ·subst O;refine M _ 0 _ hv _ (Lib.run_unsafeSliceData_zero _ _ _ 5 underlying209 _ _ _ (by have bh:w.drew.heap[g]?=some (.cells Z 5 (0,0)):=bf;simp[World.shape?,bh];rfl)) (K.alloc (Oa2 _) _)
 exact M _ cap _ hv w.drew (Lib.run_unsafeSliceData_row _ _ _ _ _ _ O) K
theorem Jkw.new (w:World)(B:Nat)(y:B<=w.heap.size):Jkw (w.alloc (.cells #[.pointer none,Sz] 252)) B w.heap.size []:=
 .inl ⟨y,Sz,heap_alloc_new _ _,⟨rfl,.inl ⟨rfl,rfl⟩⟩,by simp[Value.ownBlock]⟩
theorem Jkw.below {w w' B b l}(h:Jkw w B b l)(hb:Bq w w'):Jkw w' B b l:=by
 have key:∀ p,Lib.BuilderAt 252 5 B b p (l.map bv) w->Lib.BuilderAt 252 5 B b p (l.map bv) w':=by
  rintro p ⟨y,v,H,K,I⟩;exact⟨y,v,by rw[hb.block b (Lib.BuilderAt.lt (T:=252) (e:=5) (B:=B) (p:=p) (bs:=l.map bv) ⟨y,v,H,K,I⟩)];exact H,Jaw K hb,I⟩
 exact h.imp (key _) (key _)
def Jel (name:ByteArray)(ts:List Int)(rs:List (List V)):Prop:=
 (1<=name.size/\name.size<=20)/\((1<=ts.length/\ts.length<=6)/\∀ j (y:j<ts.length),Jnd ts[j]=true)/\rs.length<=200/\∀ i (hi:i<rs.length),rs[i].length=ts.length/\∀ j (y:j<rs[i].length),okB (ts.getD j 0) rs[i][j].k rs[i][j].n rs[i][j].s=true
theorem zaf {p:Prop}(h:p:=by
 go_enter func39,ntmps39
 go_wp2_with (go_at_call 56;refine hat.mono ?_;rintro e w' ⟨rfl,hw'⟩;subst w')
 go_ret
 exact⟨Qr H0.out.symm,hB0⟩):p:=h
open Classical in
theorem Kjj name at_ ar ct cr ts hs rs w(hnn:name.size<=maxLen)(hn:ts.length<=maxLen)(hr:rs.length<=maxLen)(hrr:∀ r∈rs,r.length<=maxLen)(hx:Kc w at_ ts)(hy:Zd w ar hs rs):
  Cq 39 #[.agg #[.string name,.slice at_ ts.length ct,.slice ar rs.length cr]] w fun e w'=>e=.returned (.bool (decide (Jel name ts rs)))/\Bq w w':=by
 have hx0:=hx.below (w':=w.alloc (.cells #[.string name,.slice at_ ts.length ct,.slice ar rs.length cr] 25)) ((Oa5 _ _).alloc (Oa2 _) _);obtain⟨bt,hbt⟩:∃ bt:Bool,bt=true↔(1<=ts.length/\ts.length<=6)/\∀ j (hj:j<ts.length),Jnd ts[j]=true:=⟨decide _,decide_eq_true_iff⟩;have hat:=Kjg at_ ct ts _ hn hx0 bt hbt;have HT:=zh hbt;clear hbt;unfold maxLen at hnn hn hr;obtain⟨b,HB⟩:∃ b:Bool,Hid (b=decide (Jel name ts rs)):=⟨_,rfl⟩;rw[<-HB.out];have HBI:Hid (b=true↔Jel name ts rs):=by show _↔_;rw[HB.out];exact decide_eq_true_iff
 clear HB hx0;have hB0:Bq w (w.alloc (.cells #[.string name,.slice at_ ts.length ct,.slice ar rs.length cr] 25)):=(Oa5 _ _).alloc (Oa2 _) _;have no:¬ Jel name ts rs->Hid (b=false):=fun h=>by
  show b=false;cases hb:b with
  |false=>rfl
  |true=>exact absurd (HBI.out.1 hb) h
 have NO:=zh no;clear no;by_cases h1:name.size<1
 ·have H0:Hid (b=false):=NO.out fun h=>by have:=h.1;omega
  exact zaf
 by_cases h2:20<name.size
 ·have H0:Hid (b=false):=NO.out fun h=>by have:=h.1;omega
  exact zaf
 cases hbt:bt with
 |false=>
  subst hbt;have H0:Hid (b=false):=NO.out fun h=>by have:=HT.out.2 h.2.1;simp at this
  exact zaf
 |true=>
  subst hbt;by_cases h3:200<rs.length
  ·have H0:Hid (b=false):=NO.out fun h=>by have:=h.2.2.1;omega
   exact zaf
  have HRR:=zh hrr;clear hrr;go_enter func39,ntmps39
  go_wp2_with (go_at_call 56;refine hat.mono ?_;rintro e w' ⟨rfl,hw'⟩;subst w')
  go_loopw [30] (fun i wr=>∃ k:Nat,k<=rs.length/\i=Iq k/\Below (w.alloc (.cells #[.string name,.slice at_ ts.length ct,.slice ar rs.length cr] 25)).heap.size (w.alloc (.cells #[.string name,.slice at_ ts.length ct,.slice ar rs.length cr] 25)) wr/\Hid (∀ i (hi:i<rs.length),i<k->rs[i].length=ts.length/\∀ j (hj:j<rs[i].length),okB (ts.getD j 0) rs[i][j].k rs[i][j].n rs[i][j].s=true)) (fun i _=>rs.length-(intOf i).toNat)
  case atStart=>exact⟨0,Ob7 _,rfl,Oa5 _ _,fun j _ hj=>absurd hj (Oe0 _)⟩
  case round=>
   obtain⟨k,hk,rfl,hbw,hall⟩:=hrel;have hbw0:=Qx hbw;have c1:wr.cell? (Ar w.heap.size 1)=some (.slice at_ ts.length ct):=by rw[(Kx hbw).1 w.heap.size 1 zS];simp
   by_cases hlt:k<rs.length
   ·obtain⟨b1,o1,ra,rc,rfl,hb1,x1,hv⟩:=(hy.below hbw0).at hlt;obtain⟨br,hbr⟩:∃ br:Bool,br=true↔rs[k].length=ts.length/\∀ j (hj:j<rs[k].length),okB (ts.getD j 0) rs[k][j].k rs[k][j].n rs[k][j].s=true:=⟨decide _,decide_eq_true_iff⟩;have hir:=Kkh ra at_ rc ct rs[k] ts wr (HRR.out _ (Ob3 hlt)) hv (hx.below hbw0) br hbr;have HR:=zh hbr;clear hbr hat;cases hb:br with
    |false=>
     subst hb;have H0:Hid (b=false):=NO.out fun h=>by have:=HR.out.2 (h.2.2.2 k hlt);simp at this
     go_wp2_with (go_at_call 57;refine hir.mono ?_;rintro e w' ⟨rfl,hb⟩)
     go_ret
     exact⟨Qr H0.out.symm,Jb hbw0 hb⟩
    |true=>
     subst hb;go_wp2_with (go_at_call 57;refine hir.mono ?_;rintro e w' ⟨rfl,hb⟩)
     go_roundw
     case rel=>
      refine⟨k+1,zo,zn,Jb hbw hb,fun i hi hik=>?_⟩;by_cases e:i=k
      ·subst e;exact HR.out.1 zS
      exact hall.out i hi zo
     case measure=>simp[intOf];omega
   go_wp2;go_ret
   exact⟨Qr (HBI.out.2 ⟨⟨zo,zo⟩,HT.out.1 zS,zo,fun i hi=>hall.out i hi zo⟩).symm,hbw0⟩
end
section
open Go.RowKit
def Jpf (Q:Exit->Act->World->Prop):Exit->Act->World->Prop
 |.normal,a,w=>Q .normal a w
 |_,_,_=>False
theorem Jpf.imp {Q}:∀ (e:Exit) (a:Act) (w:World),Jpf Q e a w->Q e a w:=fun e a w h=>by
 cases e<;>first|exact h|exact(h:False).elim
theorem Jpf.shut {Q}:¬ LetsOut (Jpf Q):=fun ⟨_,_,h⟩=>h
def Ki4 (y:Array Oper):Bool:=y.all fun o=>match o.op with|.defer _=>false|_=>true
theorem Kj3 {y}(h:Ki4 y=true){i:Nat}{o}(ho:y[i]?=some o):∀ c,o.op≠.defer c:=by
 intro c H;obtain⟨hi,rfl⟩:=Oe2.1 ho;have:=Array.all_eq_true.1 h i hi;rw[H]at this;simp at this
theorem Kj9 {P:Program}{l n:Nat}{o:Oper}{a:Act}{next:Act->World->Prop}{Q:Exit->Act->World->Prop}{r:Result Next}(h:o.upon P a next Q r):o.uponIn (Fence.wide.inRound l) n P a next Q r:=by
 cases r with
 |ok nx w=>
  cases nx<;>simp only[Oper.upon]at h
  case value v=>exact h
  case skip=>exact h
  case defer d=>exact h
  case enter f args=>exact⟨fun y=>absurd y (by simp[Fence.inRound,Fence.wide]),CallsIn.inRound l (callsIn_wide.2 h)⟩
  case row row args=>
   refine⟨fun y=>absurd y (by simp[Fence.inRound,Fence.wide]),fun c cs _=>?_⟩;obtain⟨v,w',hr,hs⟩:=h c cs;exact⟨v,w',hr,stepsIn_wide.2 hs⟩
 |halt x w=>
  cases x<;>simp only[Oper.upon]at h
  case panic v=>exact h
theorem Kj1 {P l n y Q}(O:Ki4 y=true)(M:¬ LetsOut Q){i I a w}(h:wpOp P y Q i I a w):wpOpIn (Fence.wide.inRound l) n P y Q i I a w:=by
 unfold wpOp at h;unfold wpOpIn;cases ho:y[i]? with
 |none=>rw[ho]at h;exact h
 |some o=>
  rw[ho]at h;simp only at h |-;split
  ·rename_i H
   rw[if_pos H]at h;have K:=h.resolve_right fun hh=>M hh.2;refine⟨fun _ _=>trivial,?_⟩;rw[Oper.semAt_plain (Fence.wide.inRound l) _ _ (Kj3 O ho)];exact Kj9 K
  rename_i H
  rw[if_neg H]at h;exact⟨fun _ _=>trivial,h⟩
theorem Ki2 {P l n M y Q}(I:Ki4 y=true)(H:¬ LetsOut Q):∀ (fuel:Nat) (K:Array Bool) (a:Act) (w:World),wpAny P M y Q fuel K a w->wpAnyIn (Fence.wide.inRound l) n P M y Q fuel K a w
 |0,_,_,_,h=>h
 |fuel+1,_,_,_,h=>⟨h.1,fun i hi=>Kj1 I H (wpOp_mono (fun a' w' O=>Ki2 I H fuel _ a' w' O) (h.2 i hi))⟩
theorem Kix {P l n M y Q S a w}(I:P.follows .mixedOrders=true)(K:Ki4 y=true)(H:S w.drew)(h:S w.drew->wpAnyH P .any y (Jpf Q) S y.size (Array.replicate y.size false) a w.drew):(Code.region M y true).wpIn (Fence.wide.inRound l) n P Q a w:=
 Code.wpIn_mono Jpf.imp (wpIn_region_any I (Ki2 K Jpf.shut _ _ _ _ (wpAny_of_held _ _ _ _ (h H))))
section
variable {P:Program} {md:Region.Mode} {ops:Array Oper} {Q:Exit->Act->World->Prop} {S:World->Prop} {m:Nat}
def Ks6 (P:Program)(I:Region.Mode)(H:Array Oper)(Q:Exit->Act->World->Prop)(S:World->Prop)(m:Nat):Nat->Array Bool->Act->World->Prop
 |0,y,a,w=>Region.ready I H y=[]/\Q .normal a w
 |fuel+1,y,a,w=>(Region.ready I H y=[]->Q .normal a w)/\∀ i∈Region.ready I H y,wpOp P H Q i (fun a' w'=>(i≠m->S w')/\Ks6 P I H Q S m fuel (y.setIfInBounds i true) a' w') a w
theorem Ktd:∀ (fuel:Nat)(y:Array Bool)(a:Act)(w:World),Ks6 P md ops Q S m fuel y a w->wpAny P md ops Q fuel y a w
 |0,_,_,_,h=>h
 |fuel+1,_,_,_,h=>⟨h.1,fun i hi=>wpOp_mono (fun a' w' H=>Ktd fuel _ a' w' H.2) (h.2 i hi)⟩
def Kzc (y:Region.Mode)(H:Array Oper)(m i:Nat):Bool:=((H[m]?).map fun o=>o.after.any fun e=>Region.binds y e&&e.on==i).getD false
theorem Kym {i}(h:Kzc md ops m i=true){o}(ho:ops[m]?=some o):∃ e∈o.after,Region.binds md e=true/\e.on=i:=by
 unfold Kzc at h;rw[ho]at h;simp only[Option.map_some,Option.getD_some,Array.any_eq_true']at h;obtain⟨e,H,y⟩:=h;rw[Og5,beq_iff_eq]at y;exact⟨e,H,y⟩
theorem Kwq {i K v}(hi:ops[i]?=some K)(bz:∀ (j:Nat) (o:Oper) cs b,ops[j]?=some o->o.op≠.select cs b)(bM:i≠m)(bK:Kzc md ops m i=true)(hQ:∀ c a w,Q (.panic c) (a.put K.dst v) w->Q (.panic c) a w):
  ∀ (fuel:Nat) (y:Array Bool) (a:Act) (w:World),
   (∀ j M,ops[j]?=some M->j≠i->y.getD j true=false->(∀ e∈M.after,Region.binds md e=true->e.on≠i)->K.apart ops M=true) ->
   i∈Region.ready md ops y->YieldsIf P ops S K v a->S w ->
   Ks6 P md ops Q S m fuel (y.setIfInBounds i true) (a.put K.dst v) w->Ks6 P md ops Q S m (fuel+1) y a w:=by
 intro fuel;induction fuel with
 |zero=>
  intro y a w _ hr hy U O;refine⟨fun h=>(by rw[h]at hr;cases hr),fun j Z=>?_⟩;by_cases H:j=i
  ·subst H;exact hy.wpOp hi U ⟨fun _=>U,O⟩
  have:=ready_mono Z H;rw[O.1]at this;cases this
 |succ fuel bL=>
  intro y a w bj hr hy U O;refine⟨fun h=>(by rw[h]at hr;cases hr),fun j Z=>?_⟩;by_cases H:j=i
  ·subst H;exact hy.wpOp hi U ⟨fun _=>U,O⟩
  have I:=O.2 j (ready_mono Z H);obtain⟨br,M,bf,bC⟩:=mem_ready.1 Z;have bx:∀ e∈M.after,Region.binds md e=true->e.on≠i:=fun e bi hb bD=>by
   have I:=bC e bi hb;have h0:=(mem_ready.1 hr).1;rw[bD]at I;rcases Oc1 i y.size with bh|bh
   ·simp[bh]at h0 I;rw[h0]at I;cases I
   simp[Array.getElem?_eq_none bh]at I
  have bG:j≠m:=fun e=>by
   subst e;obtain⟨e,bi,hb,ho⟩:=Kym bK bf;exact bx e bi hb ho
  have bB:=wpOp_putIf bf (bj j M bf H br bx) (fun cs b=>bz i K cs b hi) (fun cs b=>bz j M cs b bf) hQ hy I;have bE:∀ k ok,ops[k]?=some ok->k≠i->(y.setIfInBounds j true).getD k true=false ->
    (∀ e∈ok.after,Region.binds md e=true->e.on≠i)->K.apart ops ok=true:=fun k ok bH bI bA bJ=>by
   refine bj k ok bH bI ?_ bJ;by_cases bk:j=k
   ·subst bk;exact br
   rw[getD_set_ne true bk]at bA;exact bA
  refine wpOp_mono (fun a' w' Y=>⟨Y.2.1,bL (y.setIfInBounds j true) a' w' bE (ready_mono hr (Oc5 H)) Y.1 (Y.2.1 bG) ?_⟩) bB;rw[Array.setIfInBounds_comm _ _ H];exact Y.2.2
theorem tkm {H fuel y a w v}i(hi:ops[i]?=some H)(I:S w)(h:Ks6 P md ops Q S m fuel (y.setIfInBounds i true) (a.put H.dst v) w)(hr:(Region.ready md ops y).contains i=true:=by kernel_rfl)(M:Region.free md ops y i=true:=by kernel_rfl)(hs:Region.noSelect ops=true:=by kernel_rfl)(Y:Kzc md ops m i=true:=by kernel_rfl)(O:i≠m:=by decide)(hy:∀ w,S w->(execOp a.eval H).run P w=.ok (.value v) w:=by intro w K;(try dsimp only at K);go_simp;try rfl)(hQ:∀ c a w,Q (.panic c) (a.put H.dst v) w->Q (.panic c) a w:=by exact fun _ _ _ h=>h)(U:Region.wanted H (yielded ops a.tmps)=true:=by rfl):Ks6 P md ops Q S m (fuel+1) y a w:=
 Kwq hi (Region.noSelect_spec hs) O Y hQ fuel y a w (Region.free_spec hi M) (by simpa using hr) (.inl ⟨U,hy⟩) I h
theorem tku {H fuel y a w}i(hi:ops[i]?=some H)(I:S w)(h:wpAnyH P md ops Q S fuel (y.setIfInBounds i true) (a.put H.dst undef) w)(hr:(Region.ready md ops y).contains i=true:=by kernel_rfl)(K:Region.free md ops y i=true:=by kernel_rfl)(hs:Region.noSelect ops=true:=by kernel_rfl)(hQ:∀ c a w,Q (.panic c) (a.put H.dst undef) w->Q (.panic c) a w:=by exact fun _ _ _ h=>h)(M:Region.wanted H (yielded ops a.tmps)=false:=by kernel_rfl):wpAnyH P md ops Q S (fuel+1) y a w:=
 wpAnyH_take hi hs K hr hQ (.inr ⟨M,rfl⟩) I h
theorem Kr2 {fuel H a w}i{o}(ho:ops[i]?=some o)(h:∀ y:Act->World->Prop,Shut (∀ a w,S w->(S w->Ks6 P md ops Q S m fuel (H.setIfInBounds i true) a w)->y a w)->if Region.wanted o (yielded ops a.tmps)=true then Oper.wp P o a w y Q else y (a.put o.dst undef) w)(hr:Region.ready md ops H=[i]:=by kernel_rfl):Ks6 P md ops Q S m (fuel+1) H a w:=
 ⟨fun h0=>(by rw[hr]at h0;cases h0),fun j K=>by
  rw[hr,Oc6]at K;subst K;exact wpOp_step ho fun y hK=>h y fun a w I hW=>hK a w ⟨fun _=>I,hW I⟩⟩
theorem Kts {fuel H a w o}(ho:ops[m]?=some o)(h:∀ y:Act->World->Prop,Shut (∀ a w,Q .normal a w->y a w)->if Region.wanted o (yielded ops a.tmps)=true then Oper.wp P o a w y Q else y (a.put o.dst undef) w)(hr:Region.ready md ops H=[m]:=by kernel_rfl)(K:Region.ready md ops (H.setIfInBounds m true)=[]:=by kernel_rfl):Ks6 P md ops Q S m (fuel+1) H a w:=
 ⟨fun h0=>(by rw[hr]at h0;cases h0),fun j I=>by
  rw[hr,Oc6]at I;subst I;refine wpOp_step ho fun y hK=>h y fun a w hq=>hK a w ⟨fun M=>absurd rfl M,?_⟩;cases fuel with
  |zero=>exact⟨K,hq⟩
  |succ f=>exact⟨fun _=>hq,by rw[K];simp⟩⟩
theorem Ktv {I a w}m(H:P.follows .mixedOrders=true)(y:S w.drew)(h:S w.drew->Ks6 P .any ops Q S m ops.size (Array.replicate ops.size false) a w.drew):(Code.region I ops true).wp P Q a w:=
 wp_region_any H (Ktd _ _ _ _ (h y))
end
variable {F:Fence} {n:Nat} {P:Program}
def Kh4 {α:Type}(F:Fence)(n:Nat)(P:Program)(g:Nat)(lb:Array Value)(Y:α->Array Value)(O:α->World->Prop)(M:World->World->Prop)(S U:List α->Prop)(N:Nat)(w:World):Prop:=
 ∀ (l:Nat) (J K:List α->World->Prop) (W:World),Bq w W->AbidesFrom W.heap.size J->AbidesFrom W.heap.size K ->
  (∀ y x I,J y I->O x I->y.length<N->YieldAt F (n-1) P l (Y x) I fun e H=>(e=.returned (.bool true)/\J (y++[x]) H/\M I H)\/(e=.returned (.bool false)/\K (y++[x]) H)) ->
  J [] W->CallsIn F n P g (#[.func (.yield l) #[] #[]]++lb) W fun e H=>(∃ v,e=.returned v)/\((∃ xs,S xs/\J xs H)\/(∃ y,U y/\K y H))
def Jb8 (B:Nat)(L:Loop)(W:World):Prop:=W.heap[B+1]?=some (.loop L)/\W.heap[B]?=some (.deferred (some []))
theorem Jb8.kept {B}{L:Loop}{W y row}(h:Jb8 B L W)(H:W.grownBy y row)(hr:∀ r,row=some r->∃ o:Obj,W.heap[r]?=some o/\o.isWalk=true):Jb8 B L y:=
 ⟨(grownBy_keeps H hr h.1 rfl).trans h.1,(grownBy_keeps H hr h.2 rfl).trans h.2⟩
theorem Jb8.put {B}{L y:Loop}{W}(h:Jb8 B L W):Jb8 B y (W.putObj (B+1) (.loop y)):=
 ⟨World.putObj_heap_same (Oe2.1 h.1).1,(World.putObj_heap_other zo).trans h.2⟩
theorem Jb8.from {B}{L:Loop}{W y}(h:Jb8 B L W)(H:KeepsFrom B W y):Jb8 B L y:=⟨H.same _ _ zo h.1 rfl,H.same _ _ (Oa2 _) h.2 rfl⟩
theorem zaw {p:Prop}(h:p:=by
 constructor
 ·have:=World.alloc_heap_new (w.alloc (.deferred (some []))) (.loop (y .ready none));rw[Oa7]at this;exact this
 exact(Oa9 _ _ _ (by simp[B])).trans (World.alloc_heap_new w _)):p:=h
theorem zaG {p:Prop}(h:p:=by obtain⟨hr,hb,bj⟩:=fin (some c) X Y;exact⟨_,_,hr,.inr ⟨rfl,c,(hIx _).putObj _ bk zo hb.1 rfl,bj⟩⟩):p:=h
theorem Jg8 {α g}{ps:Array Tmp}{assign body:Code}{Q a w}(bS:F.round=none)(bE:1<=n){gf:Nat}{lb}(bO:a.eval g=.func (.func gf) #[] lb)(bG:F.fn gf)(bD:∀ args w,(callFunc gf args).run P w=.ok (.enter gf args) w){bf:α->Array Value}{bi:α->World->Prop}{M:World->World->Prop}{S bx:List α->Prop}{N:Nat}{w0}(hseq:Kh4 F (n-1) P gf lb bf bi M S bx N w0)(bz:∀ {A B C:World},M A B->M B C->M A C)(hKb:∀ (W:World) (l:Nat) (o bY:Obj),w.heap.size<=l->W.heap[l]?=some o->o.isCells=false->o.isWalk=false->M W (W.putObj l bY))(bA:Bq w0 w)(bR:∀ x,(bf x).size=ps.size)(K:List α->World->Prop)(O:Code->List α->World->Prop)(hI:OwnFrom w.heap.size K)(hIx:∀ c,OwnFrom w.heap.size (O c))(hR:OwnFrom w.heap.size bi)(h0:K [] w)(a₁:α->Act)(bJ:∀ (l:Nat) (x:α) (W:World) (br:Act->World->Prop),br (a₁ x) W->assign.wpIn (F.inRound l) (n-1-1) P (Exit.then br (fun _ _ _=>False)) {tmps:=(ps.zip (bf x)).foldl (fun t (p,v)=>t.setIfInBounds p v) a.tmps,defers:=[]} W)(bK:∀ (l:Nat) (H:List α) (x:α) (W:World),K H W->bi x W->H.length<N->body.wpIn (F.inRound l) (n-1-1) P (ownPostG w.heap.size M K O (H++[x]) W) (a₁ x) W)(bM:∀ (D:Nat) (xs:List α) (W:World),w.heap.size<=D->S xs->K xs W->W.heap[D]?=some (.deferred (some []))->Q .normal {a with defers:={target:=.collected D,args:=#[]}::a.defers} W)(bT:∀ (D:Nat) (c:Code) (H:List α) (W:World),w.heap.size<=D->bx H->O c H W->W.heap[D]?=some (.deferred (some []))->c.wpIn F n P Q {a with defers:={target:=.collected D,args:=#[]}::a.defers} W):
  (Code.rangeFunc g ps assign body).wpIn F n P Q a w:=by
 refine wpIn_rangeFunc fun fn bN=>?_;rw[bS];let y:LoopState->Option Code->Loop:=fun st bZ=>{state:=st,pending:=bZ,fn,tmps:=a.tmps,params:=ps,assign,body,defers:=w.heap.size}
 let B:=w.heap.size
 let V:=(w.alloc (.deferred (some []))).alloc (.loop (y .ready none))
 have ci:V.heap.size=B+2:=by simp[V,B]
 have bC:Jb8 B (y .ready none) V:=by
  exact zaw
 have bX:K [] V:=hI.alloc _ (hI.alloc _ h0);have eV:Bq w0 V:=bA.trans ((((Oa5 _ w).alloc (Oa2 _) _).alloc zS _).mono bA.size);have walk:∀ {A:World} {row:Option Nat},(∀ r,row=some r->V.heap.size<=r/\∃ o:Obj,A.heap[r]?=some o/\o.isWalk=true)->∀ r,row=some r->B<=r/\∃ o:Obj,A.heap[r]?=some o/\o.isCells=false:=fun hr r e=>by
  obtain⟨cc,o,ho,bU⟩:=hr r e;exact⟨zo,o,ho,Obj.not_cells_of_walk bU⟩
 refine⟨B+1,[{target:=.collected B,args:=#[]}],V,{target:=.fn (.func gf) lb,args:=#[.func (.yield (B+1)) #[] #[]]},V,gf,#[.func (.yield (B+1)) #[] #[]]++lb,V,run_enterLoop_outer _ _ _ _ _,by simp only[resolve,bO];simp[go_sem],fun cb bB=>?_,by simp[invoke,go_sem,bD],fun _=>bE,?_⟩
 ·simp[Target.leads]at bB;subst bB;exact bG
 refine(hseq (B+1) (fun H W=>K H W/\Jb8 B (y .ready none) W) (fun H W=>∃ c,O c H W/\Jb8 B (y .done (some c)) W) V eV
  (fun s A bh row hs Z hr=>⟨hI s A bh row hs.1 Z (walk hr),hs.2.kept Z fun r e=>(hr r e).2⟩)
  (fun s A bh row hs Z hr=>by obtain⟨c,bL,I⟩:=hs;exact⟨c,hIx c s A bh row bL Z (walk hr),I.kept Z fun r e=>(hr r e).2⟩) ?_ ⟨bX,bC⟩).mono ?_
 ·rintro H x W ⟨hi,I⟩ bW hlen;have hy:=run_yield (P:=P) (args:=bf x) I.1 (bR x);refine⟨fn,_,assign,body,hy,roundIn_of_wpIn bN (bJ _ x W _ ⟨_,run_beginRound I.1 rfl,?_⟩)⟩;have bP:Jb8 B (y .busy none) (W.putObj (B+1) (.loop (y .busy none))):=I.put;have bV:M W (W.putObj (B+1) (.loop (y .busy none))):=hKb _ _ _ _ zo I.1 rfl rfl;refine wpIn_mono (bK _ H x _ (hI.putObj _ hi zo I.1 rfl) (hR.putObj _ bW zo I.1 rfl) hlen) ?_;have fin:∀ (j:Option Code) (X:World),KeepsFrom w.heap.size (W.putObj (B+1) (.loop (y .busy none))) X->(Instr.endRound (B+1) j).run P X=.ok (.bool j.isNone) (X.putObj (B+1) (.loop (y (if j.isNone then .ready else .done) j)))/\Jb8 B (y .busy none) X/\Jb8 B (y (if j.isNone then .ready else .done) j) (X.putObj (B+1) (.loop (y (if j.isNone then .ready else .done) j))):=fun j X Y=>
   have hb:=bP.from Y
   ⟨run_endRound (P:=P) j hb.1,hb,hb.put⟩
  have out:∀ (c:Code) (X:World),KeepsFrom w.heap.size (W.putObj (B+1) (.loop (y .busy none))) X->O c (H++[x]) X->∃ v U,(Instr.endRound (B+1) (some c)).run P X=.ok v U/\((Ending.returned v=.returned (.bool true)/\(K (H++[x]) U/\Jb8 B (y .ready none) U)/\M W U)\/(Ending.returned v=.returned (.bool false)/\∃ c,O c (H++[x]) U/\Jb8 B (y .done (some c)) U)):=fun c X Y bk=>by
   exact zaG
  rintro e ca X hp;cases e with
  |normal=>
   obtain⟨Y,bQ,bk⟩:=hp;obtain⟨hr,hb,bj⟩:=fin none X Y;exact⟨_,_,hr,.inl ⟨rfl,⟨hI.putObj _ bk zo hb.1 rfl,bj⟩,bz (bz bV bQ) (hKb _ _ _ _ zo hb.1 rfl rfl)⟩⟩
  |ret=>exact out _ X hp.1 hp.2
  |exit cf=>exact out _ X hp.1 hp.2
  |goto t=>exact out _ X hp.1 hp.2
  |panic ch=>exact hp.elim
  |outgrown=>exact hp.elim
 rintro e X ⟨⟨v,rfl⟩,(⟨xs,bH,hi,I⟩|⟨H,bI,c,hi,I⟩)⟩
 ·exact⟨none,_,run_endLoop (P:=P) I.1 (by simp[y]),bM _ xs _ (Oa2 _) bH (hI.putObj _ hi zo I.1 rfl) ((World.putObj_heap_other zo).trans I.2)⟩
 exact⟨some c,_,run_endLoop (P:=P) I.1 (by simp[y]),bT _ c H _ (Oa2 _) bI ((hIx c).putObj _ hi zo I.1 rfl) ((World.putObj_heap_other zo).trans I.2)⟩
variable {P:Program} {md:Region.Mode} {ops:Array Oper} {Q:Exit->Act->World->Prop}
abbrev dn (l:Array Bool)(k:Nat):Prop:=l.getD k false=true
variable {F:Fence} {n:Nat} {P:Program}
end
section
def swp (f:Nat->Nat)(i j:Nat):Nat->Nat:=fun k=>if k=i then f j else if k=j then f i else f k
def Arr (a b:Nat)(f g:Nat->Nat):Prop:=
 ∃ p q:Nat->Nat,(∀ k,q (p k)=k)/\(∀ k,p (q k)=k)/\(∀ k,(k<a\/b<=k)->p k=k)/\∀ k,g k=f (p k)
theorem Arr.refl a b f:Arr a b f f:=⟨id,id,fun _=>rfl,fun _=>rfl,fun _ _=>rfl,fun _=>rfl⟩
theorem Arr.trans {a b f g h}(x:Arr a b f g)(bi:Arr a b g h):Arr a b f h:=by
 obtain⟨p,q,K,M,O,U⟩:=x;obtain⟨y,H,Y,Z,bf,bh⟩:=bi;exact⟨fun k=>p (y k),fun k=>H (q k),fun k=>by show H (q (p (y k)))=k;rw[K,Y],fun k=>by show p (y (H (q k)))=k;rw[Z,M],fun k I=>by show p (y k)=k;rw[bf k I,O k I],fun k=>by rw[bh,U]⟩
theorem Arr.mono {a b a' y f g}(x:Arr a b f g)(O:a'<=a)(hb:b<=y):Arr a' y f g:=by
 obtain⟨p,q,H,I,K,M⟩:=x;exact⟨p,q,H,I,fun k U=>K k zo,M⟩
theorem Kzb i j k:swp (fun x=>x) i j (swp (fun x=>x) i j k)=k:=by
 unfold swp;by_cases H:k=i
 ·simp only[if_pos H];by_cases y:j=i
  ·rw[if_pos y];omega
  simp only[if_neg y,if_true];omega
 by_cases y:k=j
 ·simp only[if_neg H,if_pos y,if_true];omega
 simp only[if_neg H,if_neg y]
theorem Arr.swp {a b f i j}(hi:a<=i/\i<b)(y:a<=j/\j<b):Arr a b f (swp f i j):=
 ⟨Go.Proofs.YtnlnlamdilifcaaGreatDoor.swp (fun x=>x) i j,Go.Proofs.YtnlnlamdilifcaaGreatDoor.swp (fun x=>x) i j,Kzb i j,Kzb i j,fun k H=>by unfold Go.Proofs.YtnlnlamdilifcaaGreatDoor.swp;rw[if_neg zo,if_neg zo],
  fun k=>by unfold Go.Proofs.YtnlnlamdilifcaaGreatDoor.swp;split<;>(try split)<;>rfl⟩
theorem Arr.off {a b f g}(x:Arr a b f g){k}(I:k<a\/b<=k):g k=f k:=by
 obtain⟨p,q,K,M,y,H⟩:=x;rw[H,y k I]
theorem Arr.at {a b f g}(x:Arr a b f g){k}(M:a<=k/\k<b):∃ t,a<=t/\t<b/\g k=f t:=by
 obtain⟨p,q,y,K,H,I⟩:=x;refine⟨p k,?_,?_,I k⟩
 ·refine Decidable.byContradiction fun h=>?_;have e:=H (p k) (.inl zo);have:=y (p k);rw[e,y]at this;omega
 refine Decidable.byContradiction fun h=>?_;have e:=H (p k) (.inr zo);have:=y (p k);rw[e,y]at this;omega
structure Kse (c:Nat->Nat->Int):Prop where
 neg:∀ x y,c y x=- c x y
 trans:∀ x y z,c x y<=0->c y z<=0->c x z<=0
def Lt (c:Nat->Nat->Int)(x y:Nat):Prop:=c x y<0\/(c x y=0/\x<y)
theorem Lt.trans {c}(ho:Kse c){x y z}(h:Lt c x y)(k:Lt c y z):Lt c x z:=by
 have H:=ho.neg x y;have I:=ho.neg y z;have n3:=ho.neg x z;have K:=ho.trans x y z;have M:=ho.trans z x y;have O:=ho.trans y z x;unfold Lt at *;omega
theorem Lt.irrefl {c}(ho:Kse c){x}(h:Lt c x x):False:=by
 have y:=ho.neg x x;unfold Lt at h;omega
def Srt (c:Nat->Nat->Int)(a b:Nat)(f:Nat->Nat):Prop:=∀ i j,a<=i->i<j->j<b->Lt c (f i) (f j)
def Ksx (c:Nat->Nat->Int)(a b:Nat)(f:Nat->Nat):Prop:=∀ i j,a<=i->i<j->j<b->c (f i) (f j)=0->f i<f j
theorem Srt.stab {c a b f}(h:Srt c a b f):Ksx c a b f:=fun i j y H I e=>by
 have:=h i j y H I;unfold Lt at this;omega
theorem Ksx.mono {c a b a' y f}(h:Ksx c a b f)(M:a<=a')(hb:y<=b):Ksx c a' y f:=fun i j I H K=>h i j zo H zo
theorem Srt.mono {c a b a' y f}(h:Srt c a b f)(M:a<=a')(hb:y<=b):Srt c a' y f:=fun i j I H K=>h i j zo H zo
theorem Srt.congr {c a b f g}(h:Srt c a b f)(e:∀ k,a<=k->k<b->g k=f k):Srt c a b g:=fun i j y I H=>by
 rw[e i y zo,e j zo H];exact h i j y I H
theorem Ksx.ge {c}(ho:Kse c){a b f}(h:Ksx c a b f){i j}(y:a<=i)(H:i<j)(I:j<b)(K:¬ c (f j) (f i)<0):Lt c (f i) (f j):=by
 have:=h i j y H I;have M:=ho.neg (f i) (f j);unfold Lt;omega
def Le (c:Nat->Nat->Int)(x y:Nat):Prop:=x=y\/Lt c x y
theorem Srt.le {c a b f}(h:Srt c a b f){i j}(y:a<=i)(I:i<=j)(H:j<b):Le c (f i) (f j):=by
 by_cases e:i=j
 ·exact .inl (by rw[e])
 exact .inr (h i j y zo H)
theorem Lt.le_le {c}(ho:Kse c){x I z t}(y:Le c x I)(h:Lt c I z)(H:Le c z t):Lt c x t:=by
 have:Lt c x z:=by
  rcases y with rfl|y
  ·exact h
  exact y.trans ho h
 rcases H with rfl|H
 ·exact this
 exact this.trans ho H
theorem Ksx.swap {c}(ho:Kse c){a b f}(h:Ksx c a b f){j}(O:a<=j)(U:j+1<b)(Z:c (f (j+1)) (f j)<0):Ksx c a b (swp f (j+1) j):=by
 intro i k hi Y H;have bf:=ho.neg (f (j+1)) (f j);unfold swp;by_cases I:i=j+1
 ·subst I;rw[if_pos rfl,if_neg zo,if_neg zo];exact h j k O zo H
 by_cases K:i=j
 ·subst K;rw[if_neg zo,if_pos rfl];by_cases y:k=i+1
  ·rw[if_pos y];intro e;omega
  rw[if_neg y,if_neg zo];exact h (i+1) k zo zo H
 rw[if_neg I,if_neg K];by_cases y:k=j+1
 ·rw[if_pos y];exact h i j hi zo zo
 rw[if_neg y];by_cases M:k=j
 ·rw[if_pos M];exact h i (j+1) hi zo U
 rw[if_neg M];exact h i k hi Y H
structure Kw0 (c:Nat->Nat->Int) (a i j:Nat) (f:Nat->Nat):Prop where
 rest:∀ s t,a<=s->s<t->t<=i->s≠j->t≠j->Lt c (f s) (f t)
 past:∀ t,j<t->t<=i->Lt c (f j) (f t)
theorem Kw0.start {c a i f}(h:Srt c a i f):Kw0 c a i i f:=
 ⟨fun s t y H I K M=>h s t y H zo,fun t y H=>absurd y zo⟩
theorem Kw0.step {c a i j f}(h:Kw0 c a i (j+1) f)(Y:a<=j)(bf:j+1<=i)(Z:c (f (j+1)) (f j)<0):Kw0 c a i j (swp f (j+1) j):=by
 refine⟨fun s t I K M O U=>?_,fun t I K=>?_⟩
 ·unfold swp;rw[if_neg O,if_neg U];by_cases H:s=j+1
  ·subst H;rw[if_pos rfl,if_neg zo];exact h.rest j t Y zo M zo zo
  rw[if_neg H];by_cases y:t=j+1
  ·rw[if_pos y];exact h.rest s j I zo zo H zo
  rw[if_neg y];exact h.rest s t I K M H y
 unfold swp;rw[if_neg zo,if_pos rfl];by_cases y:t=j+1
 ·rw[if_pos y];exact .inl Z
 rw[if_neg y,if_neg zo];exact h.past t zo K
theorem Kw0.done {c}(ho:Kse c){a i j f}(h:Kw0 c a i j f)(Y:a<=j)(Z:j<=i)(y:j=a\/Lt c (f (j-1)) (f j)):Srt c a (i+1) f:=by
 intro s t K M U;by_cases H:s=j
 ·subst H;exact h.past t M zo
 by_cases I:t=j
 ·subst I;rcases y with rfl|y
  ·omega
  by_cases O:s=t-1
  ·rw[O];exact y
  exact(h.rest s (t-1) K zo zo H zo).trans ho y
 exact h.rest s t K M zo H I
def Ku4 (a k:Nat)(f:Nat->Nat):Nat->Nat:=fun t=>if a<=t/\t<k then f (t+1)else if t=k then f a else f t
theorem Kuq a f:Ku4 a a f=f:=by
 funext t;unfold Ku4;split
 ·omega
 split
 ·subst_vars;rfl
 rfl
theorem Kwb {a k}f(h:a<=k):swp (Ku4 a k f) k (k+1)=Ku4 a (k+1) f:=by
 funext t;unfold swp Ku4
 by_cases y:t=k
 ·subst y;rw[if_pos rfl,if_neg zo,if_neg zo,if_pos zo]
 rw[if_neg y];by_cases H:t=k+1
 ·subst H;rw[if_pos rfl,if_neg zo,if_pos rfl,if_neg zo,if_pos rfl]
 rw[if_neg H];by_cases I:a<=t/\t<k
 ·rw[if_pos I,if_pos zo]
 rw[if_neg I,if_neg y,if_neg zo,if_neg H]
def Ku5 (m:Nat)(f:Nat->Nat)(k:Nat):Nat->Nat:=fun t=>if k<t/\t<=m then f (t-1)else if t=k then f m else f t
theorem Kv6 m f:Ku5 m f m=f:=by
 funext t;unfold Ku5;split
 ·omega
 split
 ·subst_vars;rfl
 rfl
theorem Kv9 {m k}f(h:k+1<=m):swp (Ku5 m f (k+1)) (k+1) k=Ku5 m f k:=by
 funext t;unfold swp Ku5
 by_cases y:t=k+1
 ·subst y;rw[if_pos rfl,if_neg zo,if_neg zo,if_pos zo];congr 1
 rw[if_neg y];by_cases H:t=k
 ·subst H;rw[if_pos rfl,if_neg zo,if_pos rfl,if_neg zo,if_pos rfl]
 rw[if_neg H];by_cases I:k+1<t/\t<=m
 ·rw[if_pos I,if_pos zo]
 rw[if_neg I,if_neg y,if_neg zo,if_neg H]
theorem Qac {c}(ho:Kse c){a b i f}(hs:Srt c (a+1) b f)(hi:a+1<=i/\i<=b)(hl:i=a+1\/Lt c (f (i-1)) (f a))(hr:i=b\/Lt c (f a) (f i)):Srt c a b (Ku4 a (i-1) f):=by
 intro s t M O H;unfold Ku4;by_cases I:s<i-1
 ·rw[if_pos zo];by_cases K:t<i-1
  ·rw[if_pos zo];exact hs _ _ zo zo zo
  rw[if_neg zo];by_cases y:t=i-1
  ·rw[if_pos y];exact Lt.le_le ho (hs.le (i:=s+1) (j:=i-1) zo zo zo) (hl.resolve_left zo) (.inl rfl)
  rw[if_neg y];exact hs _ _ zo zo zo
 rw[if_neg zo,if_neg (c:=a<=t/\t<i-1) zo];by_cases y:s=i-1
 ·rw[if_pos y,if_neg zo];exact Lt.le_le ho (.inl rfl) (hr.resolve_left zo) (hs.le zo zo H)
 rw[if_neg y,if_neg zo];exact hs _ _ zo zo H
theorem Kx9 {c}(ho:Kse c){a m i f}(hs:Srt c a m f)(hi:a<=i/\i<=m)(hl:i=a\/Lt c (f (i-1)) (f m))(hr:i=m\/Lt c (f m) (f i)):Srt c a (m+1) (Ku5 m f i):=by
 intro s t K M O;unfold Ku5;by_cases H:s<i
 ·rw[if_neg zo,if_neg zo];by_cases I:t<i
  ·rw[if_neg zo,if_neg zo];exact hs _ _ zo zo zo
  by_cases y:t=i
  ·rw[if_neg zo,if_pos y];exact Lt.le_le ho (hs.le (i:=s) (j:=i-1) zo zo zo) (hl.resolve_left zo) (.inl rfl)
  rw[if_pos zo];exact hs _ _ zo zo zo
 rw[if_pos (c:=i<t/\t<=m) zo];by_cases y:s=i
 ·rw[if_neg zo,if_pos y];exact Lt.le_le ho (.inl rfl) (hr.resolve_left zo) (hs.le zo zo zo)
 rw[if_pos zo];exact hs _ _ zo zo zo
def rot (a m b:Nat)(f:Nat->Nat):Nat->Nat:=fun t=>if a<=t/\t<b then (if t<a+(b-m)then f (t+(m-a))else f (t-(b-m)))else f t
theorem Kxd {a m}f:rot a m m f=f:=by
 funext t;unfold rot;split
 ·rw[if_neg zo];congr 1;simp
 rfl
theorem Qat {m b}f(h:m<=b):rot m m b f=f:=by
 funext t;unfold rot;split
 ·rw[if_pos zo];congr 1;omega
 rfl
theorem Arr.rot {a m b f}(H:a<=m)(I:m<=b):Arr a b f (rot a m b f):=by
 refine⟨Go.Proofs.YtnlnlamdilifcaaGreatDoor.rot a m b (fun x=>x),Go.Proofs.YtnlnlamdilifcaaGreatDoor.rot a (a+(b-m)) b (fun x=>x),fun k=>?_,fun k=>?_,fun k K=>?_,fun k=>?_⟩
 ·unfold Go.Proofs.YtnlnlamdilifcaaGreatDoor.rot;by_cases e:a<=k/\k<b
  ·by_cases y:k<a+(b-m)
   ·simp only[if_pos e,if_pos y];rw[if_pos zo,if_neg zo];omega
   simp only[if_pos e,if_neg y];rw[if_pos zo,if_pos zo];omega
  simp only[if_neg e]
 ·unfold Go.Proofs.YtnlnlamdilifcaaGreatDoor.rot;by_cases e:a<=k/\k<b
  ·by_cases y:k<a+(b-(a+(b-m)))
   ·simp only[if_pos e,if_pos y];rw[if_pos zo,if_neg zo];omega
   simp only[if_pos e,if_neg y];rw[if_pos zo,if_pos zo];omega
  simp only[if_neg e]
 ·unfold Go.Proofs.YtnlnlamdilifcaaGreatDoor.rot;rw[if_neg zo]
 unfold Go.Proofs.YtnlnlamdilifcaaGreatDoor.rot;split<;>(try split)<;>rfl
structure Cut (c:Nat->Nat->Int) (a m b s:Nat) (f:Nat->Nat):Prop where
 lo:a<=s/\s<=(a+b) / 2
 am:a<=m/\m<=b
 sm:s<=m
 eb:(a+b) / 2+m-s<=b
 left:s=a\/(a+b) / 2+m-s=b\/Lt c (f (s-1)) (f ((a+b) / 2+m-s))
 right:s=m\/s=(a+b) / 2\/Lt c (f ((a+b) / 2+m-s-1)) (f s)
structure Kw6 (c:Nat->Nat->Int) (a b s m e:Nat) (g:Nat->Nat):Prop where
 s1:Srt c a s g
 s2:Srt c s m g
 s3:Srt c m e g
 s4:Srt c e b g
 cross:∀ i j,a<=i->i<m->m<=j->j<b->Lt c (g i) (g j)
 st1:Ksx c a m g
 st2:Ksx c m b g
theorem Cut.cut {c}(ho:Kse c){a m b s f}(h:Cut c a m b s f)(hl:Srt c a m f)(hr:Srt c m b f)(U:Ksx c a b f):
  Kw6 c a b s ((a+b) / 2) ((a+b) / 2+m-s) (rot s m ((a+b) / 2+m-s) f):=by
 obtain⟨⟨br,bx⟩,⟨bz,m2⟩,sm,eb,left,right⟩:=h;generalize bi:(a+b) / 2=d at *;have bj:d<=b:=zo;have bh:a<=d:=zo;have g1:∀ k,k<s->rot s m (d+m-s) f k=f k:=fun k bf=>by unfold rot;rw[if_neg zo]
 have g2:∀ k,s<=k->k<d->rot s m (d+m-s) f k=f (k+(m-s)):=fun k y I=>by unfold rot;rw[if_pos zo,if_pos zo]
 have M:∀ k,d<=k->k<d+m-s->rot s m (d+m-s) f k=f (k-(d-s)):=fun k y I=>by unfold rot;rw[if_pos zo,if_neg zo];congr 1;omega
 have O:∀ k,d+m-s<=k->rot s m (d+m-s) f k=f k:=fun k bf=>by unfold rot;rw[if_neg zo]
 generalize bk:rot s m (d+m-s) f=g at *;have cross:∀ i j,a<=i->i<d->d<=j->j<b->Lt c (g i) (g j):=by
  intro i j y I H Z;by_cases Y:i<s
  ·rw[g1 i Y];by_cases K:j<d+m-s
   ·rw[M j H K];exact hl _ _ y zo zo
   rw[O j zo];rcases left with x|x|x
   ·omega
   ·omega
   exact Lt.le_le ho (hl.le (i:=i) (j:=s-1) y zo zo) x (hr.le zo zo Z)
  rw[g2 i zo I];by_cases K:j<d+m-s
  ·rw[M j H K];rcases right with x|x|x
   ·omega
   ·omega
   exact Lt.le_le ho (hr.le (i:=i+(m-s)) (j:=d+m-s-1) zo zo zo) x (hl.le zo zo zo)
  rw[O j zo];exact hr _ _ zo zo Z
 refine⟨fun i j y I H=>?_,fun i j y I H=>?_,fun i j y I H=>?_,fun i j y I H=>?_,cross,fun i j y I H=>?_,fun i j y I H=>?_⟩
 ·rw[g1 i zo,g1 j H];exact hl _ _ y I zo
 ·rw[g2 i y zo,g2 j zo H];exact hr _ _ zo zo zo
 ·rw[M i y zo,M j zo H];exact hl _ _ zo zo zo
 ·rw[O i y,O j zo];exact hr _ _ zo I H
 ·by_cases Y:i<s
  ·rw[g1 i Y];by_cases K:j<s
   ·rw[g1 j K];exact U _ _ y I zo
   rw[g2 j zo H];exact U _ _ y zo zo
  rw[g2 i zo zo,g2 j zo H];exact U _ _ zo zo zo
 by_cases Y:j<d+m-s
 ·rw[M i y zo,M j zo Y];exact U _ _ zo zo zo
 rw[O j zo];by_cases K:i<d+m-s
 ·rw[M i y K];exact U _ _ zo zo H
 rw[O i zo];exact U _ _ zo I H
theorem Kw6.whole {c a b s m e g H I}(h:Kw6 c a b s m e g)(O:Arr a m g H)(y:Arr m b H I)(s1:Srt c a m H)(s2:Srt c m b I):Srt c a b I:=by
 intro i j hi U Y;by_cases K:j<m
 ·rw[y.off (.inl zo),y.off (.inl K)];exact s1 i j hi U K
 by_cases M:i<m
 ·rw[y.off (.inl M)];obtain⟨t,bf,bh,ht⟩:=O.at ⟨hi,M⟩;obtain⟨u,u1,u2,Z⟩:=y.at (k:=j) ⟨zo,Y⟩;rw[ht,Z,O.off (.inr u1)];exact h.cross t u bf bh u1 u2
 exact s2 i j zo U Y
theorem Srt.join {c a b s f}(y:Srt c a s f)(H:Srt c s b f)(h:s=a\/s=b):Srt c a b f:=by
 rcases h with rfl|rfl
 ·exact H
 exact y
def Blk (c:Nat->Nat->Int)(s lo hi:Nat)(f:Nat->Nat):Prop:=∀ i j,lo<=i->i<j->j<hi->i / s=j / s->Lt c (f i) (f j)
theorem Blk.one {c s n f}(h:Blk c s 0 n f)(hs:n<=s):Srt c 0 n f:=fun i j y H I=>
 h i j y H I (by rw[Op6 zo,Op6 zo])
theorem Blk.more {c s k e f g}(h:Blk c s 0 (k*s) f)(H:Arr (k*s) e f g)(hs:Srt c (k*s) e g)(I:0<s):Blk c s 0 e g:=by
 intro i j O y U Y;by_cases K:k*s<=i
 ·exact hs i j K y U
 by_cases M:k*s<=j
 ·have a1:i / s<k:=(Nat.div_lt_iff_lt_mul I).2 zo;have a2:k<=j / s:=(Nat.le_div_iff_mul_le I).2 M;omega
 rw[H.off (.inl zo),H.off (.inl zo)];exact h i j O y zo Y
theorem Blk.sub {c s lo hi H y f}(h:Blk c s lo hi f)(K:lo<=H)(M:y<=hi):Blk c s H y f:=fun i j a1 a2 I=>h i j zo a2 zo
theorem Blk.srt {c s n k e f}(h:Blk c s (k*s) n f)(M:e<=n)(O:e<=k*s+s)(y:0<s):Srt c (k*s) e f:=fun i j H I K=>
 h i j H I zo (by
  have b1:i / s=k:=by
   have a1:i / s<k+1:=(Nat.div_lt_iff_lt_mul y).2 (by rw[Nat.add_mul];omega);have a2:k<=i / s:=(Nat.le_div_iff_mul_le y).2 H;omega
  have b2:j / s=k:=by
   have a1:j / s<k+1:=(Nat.div_lt_iff_lt_mul y).2 (by rw[Nat.add_mul];omega);have a2:k<=j / s:=(Nat.le_div_iff_mul_le y).2 zo;omega
  rw[b1,b2])
def Kt4 (f:Nat->Nat)(a c k:Nat):Nat->Nat:=fun t=>if a<=t/\t<a+k then f (t-a+c)else if c<=t/\t<c+k then f (t-c+a)else f t
theorem Kzy f a c:Kt4 f a c 0=f:=by
 funext t;unfold Kt4;rw[if_neg zo,if_neg zo]
theorem Kz1 {f a c k}(h:a+k<c):swp (Kt4 f a c k) (a+k) (c+k)=Kt4 f a c (k+1):=by
 funext t;unfold swp Kt4
 by_cases y:t=a+k
 ·rw[if_pos y,if_neg zo,if_neg zo,if_pos zo];congr 1;omega
 rw[if_neg y];by_cases H:t=c+k
 ·rw[if_pos H,if_neg zo,if_neg zo,if_neg zo,if_pos zo];congr 1;omega
 rw[if_neg H];by_cases I:a<=t/\t<a+k
 ·rw[if_pos I,if_pos zo]
 rw[if_neg I,if_neg (c:=a<=t/\t<a+(k+1)) zo];by_cases K:c<=t/\t<c+k
 ·rw[if_pos K,if_pos zo]
 rw[if_neg K,if_neg zo]
theorem Qbk {p i j}g(h:j<=i):rot (p+j) (p+i) (p+i+j) (Kt4 g p (p+i) j)=rot p (p+i) (p+i+j) g:=by
 funext t;unfold rot Kt4
 by_cases y:p<=t/\t<p+j
 ·rw[if_neg zo,if_pos y,if_pos zo,if_pos zo];congr 1;omega
 by_cases H:p+j<=t/\t<p+i+j
 ·rw[if_pos H,if_pos (c:=p<=t/\t<p+i+j) zo,if_neg (c:=t<p+(p+i+j-(p+i))) zo];by_cases I:t<p+j+(p+i+j-(p+i))
  ·rw[if_pos I,if_neg zo,if_pos zo];congr 1;omega
  rw[if_neg I,if_neg zo,if_neg zo]
 rw[if_neg H,if_neg y,if_neg (c:=p+i<=t/\t<p+i+j) zo,if_neg zo]
theorem Kxj {p i j}g(h:i<=j):rot p (p+i) (p+j) (Kt4 g p (p+j) i)=rot p (p+i) (p+i+j) g:=by
 funext t;unfold rot Kt4
 by_cases y:p<=t/\t<p+j
 ·rw[if_pos y,if_pos (c:=p<=t/\t<p+i+j) zo,if_pos (c:=t<p+(p+i+j-(p+i))) zo];by_cases I:t<p+(p+j-(p+i))
  ·rw[if_pos I,if_neg zo,if_neg zo]
  rw[if_neg I,if_pos zo];congr 1;omega
 rw[if_neg y];by_cases H:p+j<=t/\t<p+j+i
 ·rw[if_neg zo,if_pos H,if_pos zo,if_neg zo];congr 1;omega
 rw[if_neg zo,if_neg H,if_neg zo]
theorem Qbc {p i}g:Kt4 g p (p+i) i=rot p (p+i) (p+i+i) g:=by
 rw[<-Kxj g (Oa2 i)];have:=Kxd (a:=p) (m:=p+i) (Kt4 g p (p+i) i);exact this.symm
def Hp (c:Nat->Nat->Int)(n:Nat)(g:Nat->Nat):Prop:=∀ j,0<j->j<n->Lt c (g ((j-1) / 2)) (g j)
structure Kw4 (c:Nat->Nat->Int) (n:Nat) (g:Nat->Nat) (i:Nat):Prop where
 rest:∀ j,0<j->j<n->j≠i->Lt c (g ((j-1) / 2)) (g j)
 over:0<i->∀ j,0<j->j<n->(j-1) / 2=i->Lt c (g ((i-1) / 2)) (g j)
structure Kwt (c:Nat->Nat->Int) (n:Nat) (g:Nat->Nat) (i:Nat):Prop where
 rest:∀ j,0<j->j<n->(j-1) / 2≠i->Lt c (g ((j-1) / 2)) (g j)
 over:0<i->∀ j,0<j->j<n->(j-1) / 2=i->Lt c (g ((i-1) / 2)) (g j)
section
variable {c:Nat->Nat->Int} {n:Nat} {g:Nat->Nat} {i:Nat}
theorem Kw4.done (h:Kw4 c n g i)(hi:i=0\/Lt c (g ((i-1) / 2)) (g i)):Hp c n g:=fun j y H=>by
 by_cases e:j=i
 ·subst e;rcases hi with hi|hi
  ·omega
  exact hi
 exact h.rest j y H e
theorem Ktx i j:swp g i j i=g j:=by unfold swp;rw[if_pos rfl]
theorem Ku7 i j(h:j≠i):swp g i j j=g i:=by unfold swp;rw[if_neg h,if_pos rfl]
theorem Ks0 {i j k}(y:k≠i)(H:k≠j):swp g i j k=g k:=by unfold swp;rw[if_neg y,if_neg H]
theorem Kw4.step (ho:Kse c)(h:Kw4 c n g i)(h0:0<i)(Y:i<n)(hl:Lt c (g i) (g ((i-1) / 2))):Kw4 c n (swp g i ((i-1) / 2)) ((i-1) / 2):=by
 obtain⟨p,hp⟩:∃ p,p=(i-1) / 2:=⟨_,rfl⟩;rw[<-hp]at hl |-;have Z:p<i:=zo;have O:=h.over h0;rw[<-hp]at O;refine⟨fun j y H M=>?_,fun U j y H M=>?_⟩
 ·by_cases e:j=i
  ·subst e;rw[<-hp,Ku7 j p zo,Ktx];exact hl
  rw[Ks0 e M];by_cases I:(j-1) / 2=i
  ·rw[I,Ktx];exact O j y H I
  by_cases K:(j-1) / 2=p
  ·rw[K,Ku7 i p zo];have:=h.rest j y H e;rw[K]at this;exact hl.trans ho this
  rw[Ks0 I K];exact h.rest j y H e
 rw[Ks0 zo zo];have hr:=h.rest p U zo zo;by_cases e:j=i
 ·subst e;rw[Ktx];exact hr
 rw[Ks0 e zo];have:=h.rest j y H e;rw[M]at this;exact hr.trans ho this
theorem Kwt.done (h:Kwt c n g i)(hi:∀ j,0<j->j<n->(j-1) / 2=i->Lt c (g i) (g j)):Hp c n g:=fun j y H=>by
 by_cases e:(j-1) / 2=i
 ·rw[e];exact hi j y H e
 exact h.rest j y H e
theorem Kwt.step (h:Kwt c n g i){m}(Y:m=2*i+1\/m=2*i+2)(U:m<n)(hl:Lt c (g m) (g i))(hs:∀ j,0<j->j<n->(j-1) / 2=i->j≠m->Lt c (g m) (g j)):Kwt c n (swp g i m) m:=by
 have M:(m-1) / 2=i:=zo;refine⟨fun j y I K=>?_,fun _ j y I K=>?_⟩
 ·by_cases e:j=m
  ·subst e;rw[M,Ktx,Ku7 i j zo];exact hl
  by_cases H:(j-1) / 2=i
  ·rw[H,Ktx,Ks0 zo e];exact hs j y I H e
  rw[Ks0 H K];by_cases O:j=i
  ·subst O;rw[Ktx];exact h.over y m zo U M
  rw[Ks0 O e];exact h.rest j y I H
 rw[M,Ktx,Ks0 zo zo];have:=h.rest j y I zo;rw[K]at this;exact this
theorem Hp.min (ho:Kse c)(h:Hp c n g):∀ j,0<j->j<n->Lt c (g 0) (g j):=by
 intro j;induction j using Nat.strongRecOn with
 |_ j K=>
  intro H I;have y:=h j H I;by_cases e:(j-1) / 2=0
  ·rw[e]at y;exact y
  exact(K ((j-1) / 2) zo zo zo).trans ho y
theorem Hp.up (h:Hp c n g){y}(e:∀ j,j<n->y j=g j):Kw4 c (n+1) y n:=
 ⟨fun j H I K=>by rw[e _ zo,e j zo];exact h j H zo,fun h0 j H I K=>zo⟩
theorem Hp.turned (h:Hp c n g){m y}(M:m<=n)(e:∀ j,0<j->j<m->y j=g j):Kwt c m y 0:=
 ⟨fun j H I K=>by rw[e _ zo zo,e j H I];exact h j H zo,fun h0=>zo⟩
end
theorem Lt.total {c}(ho:Kse c){x y}(h:x≠y)(H:¬ Lt c x y):Lt c y x:=by
 have:=ho.neg x y;unfold Lt at *;omega
def ltB (c:Nat->Nat->Int)(x y:Nat):Bool:=decide (c x y<0\/(c x y=0/\x<y))
theorem Kss {c x y}:ltB c x y=true↔Lt c x y:=by unfold ltB Lt;simp
theorem Ks3 {c x y}:ltB c x y=false↔¬ Lt c x y:=by rw[<-Kss];cases ltB c x y<;>simp
end
def Ksi (c:Nat->Nat->Int)(l:List Nat):List Nat:=l.mergeSort fun x y=>!ltB c y x
theorem Ksb c l:(Ksi c l).Perm l:=List.mergeSort_perm _ _
theorem Kzj {c}(ho:Kse c)l:(Ksi c l).Pairwise fun x I=>(!ltB c I x)=true:=by
 refine List.pairwise_mergeSort (le:=fun x I=>!ltB c I x) (fun a b d y H=>?_) (fun a b=>?_) l
 ·simp only[Bool.not_eq_true',Ks3]at y H |-;intro h;by_cases e:a=b
  ·subst e;exact H h
  have:=Lt.total ho (fun x=>e x.symm) y;exact H (h.trans ho this)
 cases y:ltB c b a
 ·rfl
 have:ltB c a b=false:=Ks3.2 fun h=>Lt.irrefl ho (h.trans ho (Kss.1 y));simp[this]
theorem Kw9 {c}(ho:Kse c){l H}(hp:H.Perm l)(hs:H.Pairwise (Lt c)):H=Ksi c l:=by
 refine List.Perm.eq_of_pairwise (le:=fun x K=>(!ltB c K x)=true) (fun a b _ _ I y=>?_) (hs.imp fun {a b} h=>?_) (Kzj ho l) (hp.trans (Ksb c l).symm)
 ·simp only[Bool.not_eq_true',Ks3]at I y;exact Decidable.byContradiction fun e=>I (Lt.total ho e y)
 simp only[Bool.not_eq_true',Ks3];exact fun y=>Lt.irrefl ho (h.trans ho y)
theorem Kuy {c}(ho:Kse c){l}(I:l.Nodup):(Ksi c l).Pairwise (Lt c):=by
 have H:(Ksi c l).Nodup:=(Ksb c l).nodup_iff.2 I;have:=(Kzj ho l).and H;refine this.imp fun {a b} h=>?_;have y:=h.1;simp only[Bool.not_eq_true',Ks3]at y;exact Lt.total ho (fun e=>h.2 e.symm) y
theorem Qby {n g}(h:Arr 0 n (fun x=>x) g):((List.range n).map g).Perm (List.range n):=by
 have inj:∀ a b,g a=g b->a=b:=fun a b e=>by
  obtain⟨p,q,K,I,M,y⟩:=h;rw[y,y]at e;have:=congrArg q e;simpa [K] using this
 have U:((List.range n).map g).Nodup:=List.Pairwise.map _ (fun a b O e=>O (inj a b e)) List.nodup_range;refine(List.perm_ext_iff_of_nodup U List.nodup_range).2 fun x=>⟨fun H=>?_,fun H=>?_⟩
 ·obtain⟨i,hi,rfl⟩:=Of0.1 H;obtain⟨t,_,Y,e⟩:=h.at (k:=i) ⟨Ob7 _,Oj4.1 hi⟩;rw[e];exact Oj4.2 Y
 obtain⟨p,q,K,I,M,y⟩:=h;have H:=Oj4.1 H;refine Of0.2 ⟨q x,Oj4.2 ?_,by rw[y,I]⟩;refine Decidable.byContradiction fun hq=>?_;have:=M (q x) (.inr zo);rw[I]at this;omega
structure Mrg (c:Nat->Nat->Int) (all taken:List Nat) (rems:List (List Nat)):Prop where
 perm:(taken++rems.flatten).Perm all
 runs:∀ r∈rems,r.Pairwise (Lt c)
 front:taken.Pairwise (Lt c)
 ahead:∀ a∈taken,∀ b∈rems.flatten,Lt c a b
theorem Ktt {x r}:∀ (rems:List (List Nat)) (i:Nat),rems[i]?=some (x::r)->(x::(rems.set i r).flatten).Perm rems.flatten
 |[],i,h=>by simp at h
 |a::l,0,h=>by simp at h;subst h;simp
 |a::l,i+1,h=>by
  simp only[List.getElem?_cons_succ]at h;have y:=Ktt l i h;simp only[List.set_cons_succ,List.flatten_cons];refine List.Perm.trans ?_ (y.append_left a);exact(List.perm_middle (a:=x) (l₁:=a) (l₂:=(l.set i r).flatten)).symm
theorem Mrg.start {c all rems}(hp:rems.flatten.Perm all)(hr:∀ r∈rems,r.Pairwise (Lt c)):Mrg c all [] rems:=⟨by simpa using hp,hr,List.Pairwise.nil,zS⟩
theorem Mrg.take {c}(ho:Kse c){all U rems i x r}(h:Mrg c all U rems)(hi:rems[i]?=some (x::r))(bf:∀ j I s,rems[j]?=some (I::s)->j≠i->Lt c x I):Mrg c all (U++[x]) (rems.set i r):=by
 have K:=Ktt rems i hi;have Z:=h.runs (x::r) (Of6 hi);have bi:x∈rems.flatten:=K.subset zS;have bj:=(Ob9.1 hi).1;have bh:∀ b∈(rems.set i r).flatten,Lt c x b:=fun b hb=>by
  obtain⟨s,hs,H⟩:=List.mem_flatten.1 hb;obtain⟨j,M,e⟩:=Od5 hs;rw[Of8]at M;by_cases O:j=i
  ·subst O;rw[List.getElem_set_self]at e;subst e;exact(List.pairwise_cons.1 Z).1 b H
  rw[List.getElem_set_ne (fun e=>O e.symm)]at e;subst e;have Y:=h.runs rems[j] (Ob3 M);cases hrj:rems[j]with
  |nil=>rw[hrj]at H;cases H
  |cons I s=>
   have hy:=bf j I s (by rw[Oa3 M,hrj]) O;rw[hrj]at H Y;rcases Of1.1 H with rfl|H
   ·exact hy
   exact hy.trans ho ((List.pairwise_cons.1 Y).1 b H)
 refine⟨?_,fun s hs=>?_,?_,fun a y b hb=>?_⟩
 ·rw[Od8];exact(List.Perm.append_left U K).trans h.perm
 ·rcases List.mem_or_eq_of_mem_set hs with hs|rfl
  ·exact h.runs s hs
  exact(List.pairwise_cons.1 Z).2
 ·exact List.pairwise_append.2 ⟨h.front,List.pairwise_singleton _ _,fun a y b hb=>by rw[Oc6.1 hb];exact h.ahead a y x bi⟩
 rcases Od2.1 y with y|y
 ·exact h.ahead a y b (K.subset (Og1 _ hb))
 rw[Oc6.1 y];exact bh b hb
theorem Mrg.done {c}(ho:Kse c){all y rems}(h:Mrg c all y rems)(I:∀ r∈rems,r=[]):y=Ksi c all:=by
 have H:rems.flatten=[]:=List.flatten_eq_nil_iff.2 I;have:=h.perm;rw[H,Od7]at this;exact Kw9 ho this h.front
open Go.RowKit
variable {F:Fence} {n:Nat} {P:Program}
def Qc3 {α:Type}(F:Fence)(n:Nat)(P:Program)(g:Nat)(lb:Array Value)(Z:α->Array Value)(U:α->World->Prop)(O:List α->α->Prop)(M:World->World->Prop)(S Y:List α->Prop)(N:Nat)(w:World):Prop:=
 ∀ (l:Nat) (J K:List α->World->Prop) (W:World),Bq w W->AbidesFrom W.heap.size J->AbidesFrom W.heap.size K ->
  (∀ y x I,J y I->U x I->O y x->y.length<N->YieldAt F (n-1) P l (Z x) I fun e H=>(e=.returned (.bool true)/\J (y++[x]) H/\M I H)\/(e=.returned (.bool false)/\K (y++[x]) H)) ->
  J [] W->CallsIn F n P g (#[.func (.yield l) #[] #[]]++lb) W fun e H=>(∃ v,e=.returned v)/\((∃ xs,S xs/\J xs H)\/(∃ y,Y y/\K y H))
theorem Ktz {α g}{ps:Array Tmp}{assign body:Code}{Q a w}(bT:F.round=none)(bG:1<=n){gf:Nat}{lb}(bP:a.eval g=.func (.func gf) #[] lb)(bH:F.fn gf)(bE:∀ args w,(callFunc gf args).run P w=.ok (.enter gf args) w){bf:α->Array Value}{bi:α->World->Prop}{bx:List α->α->Prop}{M:World->World->Prop}{S bz:List α->Prop}{N:Nat}{w0}(hseq:Qc3 F (n-1) P gf lb bf bi bx M S bz N w0)(bA:∀ {A B C:World},M A B->M B C->M A C)(hKb:∀ (W:World) (l:Nat) (o ca:Obj),w.heap.size<=l->W.heap[l]?=some o->o.isCells=false->o.isWalk=false->M W (W.putObj l ca))(bB:Bq w0 w)(bS:∀ x,(bf x).size=ps.size)(K:List α->World->Prop)(O:Code->List α->World->Prop)(hI:OwnFrom w.heap.size K)(hIx:∀ c,OwnFrom w.heap.size (O c))(hR:OwnFrom w.heap.size bi)(h0:K [] w)(a₁:α->Act)(bK:∀ (l:Nat) (x:α) (W:World) (br:Act->World->Prop),br (a₁ x) W->assign.wpIn (F.inRound l) (n-1-1) P (Exit.then br (fun _ _ _=>False)) {tmps:=(ps.zip (bf x)).foldl (fun t (p,v)=>t.setIfInBounds p v) a.tmps,defers:=[]} W)(bL:∀ (l:Nat) (H:List α) (x:α) (W:World),K H W->bi x W->bx H x->H.length<N->body.wpIn (F.inRound l) (n-1-1) P (ownPostG w.heap.size M K O (H++[x]) W) (a₁ x) W)(bN:∀ (D:Nat) (xs:List α) (W:World),w.heap.size<=D->S xs->K xs W->W.heap[D]?=some (.deferred (some []))->Q .normal {a with defers:={target:=.collected D,args:=#[]}::a.defers} W)(bU:∀ (D:Nat) (c:Code) (H:List α) (W:World),w.heap.size<=D->bz H->O c H W->W.heap[D]?=some (.deferred (some []))->c.wpIn F n P Q {a with defers:={target:=.collected D,args:=#[]}::a.defers} W):
  (Code.rangeFunc g ps assign body).wpIn F n P Q a w:=by
 refine wpIn_rangeFunc fun fn bO=>?_;rw[bT];let y:LoopState->Option Code->Loop:=fun st cb=>{state:=st,pending:=cb,fn,tmps:=a.tmps,params:=ps,assign,body,defers:=w.heap.size}
 let B:=w.heap.size
 let V:=(w.alloc (.deferred (some []))).alloc (.loop (y .ready none))
 have cn:V.heap.size=B+2:=by simp[V,B]
 have bD:Jb8 B (y .ready none) V:=by
  exact zaw
 have bZ:K [] V:=hI.alloc _ (hI.alloc _ h0);have eV:Bq w0 V:=bB.trans ((((Oa5 _ w).alloc (Oa2 _) _).alloc zS _).mono bB.size);have walk:∀ {A:World} {row:Option Nat},(∀ r,row=some r->V.heap.size<=r/\∃ o:Obj,A.heap[r]?=some o/\o.isWalk=true)->∀ r,row=some r->B<=r/\∃ o:Obj,A.heap[r]?=some o/\o.isCells=false:=fun hr r e=>by
  obtain⟨ci,o,ho,bV⟩:=hr r e;exact⟨zo,o,ho,Obj.not_cells_of_walk bV⟩
 refine⟨B+1,[{target:=.collected B,args:=#[]}],V,{target:=.fn (.func gf) lb,args:=#[.func (.yield (B+1)) #[] #[]]},V,gf,#[.func (.yield (B+1)) #[] #[]]++lb,V,run_enterLoop_outer _ _ _ _ _,by simp only[resolve,bP];simp[go_sem],fun cf bC=>?_,by simp[invoke,go_sem,bE],fun _=>bG,?_⟩
 ·simp[Target.leads]at bC;subst bC;exact bH
 refine(hseq (B+1) (fun H W=>K H W/\Jb8 B (y .ready none) W) (fun H W=>∃ c,O c H W/\Jb8 B (y .done (some c)) W) V eV
  (fun s A bh row hs Z hr=>⟨hI s A bh row hs.1 Z (walk hr),hs.2.kept Z fun r e=>(hr r e).2⟩)
  (fun s A bh row hs Z hr=>by obtain⟨c,bM,I⟩:=hs;exact⟨c,hIx c s A bh row bM Z (walk hr),I.kept Z fun r e=>(hr r e).2⟩) ?_ ⟨bZ,bD⟩).mono ?_
 ·rintro H x W ⟨hi,I⟩ bX bY hlen;have hy:=run_yield (P:=P) (args:=bf x) I.1 (bS x);refine⟨fn,_,assign,body,hy,roundIn_of_wpIn bO (bK _ x W _ ⟨_,run_beginRound I.1 rfl,?_⟩)⟩;have bQ:Jb8 B (y .busy none) (W.putObj (B+1) (.loop (y .busy none))):=I.put;have bW:M W (W.putObj (B+1) (.loop (y .busy none))):=hKb _ _ _ _ zo I.1 rfl rfl;refine wpIn_mono (bL _ H x _ (hI.putObj _ hi zo I.1 rfl) (hR.putObj _ bX zo I.1 rfl) bY hlen) ?_;have fin:∀ (j:Option Code) (X:World),KeepsFrom w.heap.size (W.putObj (B+1) (.loop (y .busy none))) X->(Instr.endRound (B+1) j).run P X=.ok (.bool j.isNone) (X.putObj (B+1) (.loop (y (if j.isNone then .ready else .done) j)))/\Jb8 B (y .busy none) X/\Jb8 B (y (if j.isNone then .ready else .done) j) (X.putObj (B+1) (.loop (y (if j.isNone then .ready else .done) j))):=fun j X Y=>
   have hb:=bQ.from Y
   ⟨run_endRound (P:=P) j hb.1,hb,hb.put⟩
  have out:∀ (c:Code) (X:World),KeepsFrom w.heap.size (W.putObj (B+1) (.loop (y .busy none))) X->O c (H++[x]) X->∃ v U,(Instr.endRound (B+1) (some c)).run P X=.ok v U/\((Ending.returned v=.returned (.bool true)/\(K (H++[x]) U/\Jb8 B (y .ready none) U)/\M W U)\/(Ending.returned v=.returned (.bool false)/\∃ c,O c (H++[x]) U/\Jb8 B (y .done (some c)) U)):=fun c X Y bk=>by
   exact zaG
  rintro e cc X hp;cases e with
  |normal=>
   obtain⟨Y,bR,bk⟩:=hp;obtain⟨hr,hb,bj⟩:=fin none X Y;exact⟨_,_,hr,.inl ⟨rfl,⟨hI.putObj _ bk zo hb.1 rfl,bj⟩,bA (bA bW bR) (hKb _ _ _ _ zo hb.1 rfl rfl)⟩⟩
  |ret=>exact out _ X hp.1 hp.2
  |exit cj=>exact out _ X hp.1 hp.2
  |goto t=>exact out _ X hp.1 hp.2
  |panic ch=>exact hp.elim
  |outgrown=>exact hp.elim
 rintro e X ⟨⟨v,rfl⟩,(⟨xs,bI,hi,I⟩|⟨H,bJ,c,hi,I⟩)⟩
 ·exact⟨none,_,run_endLoop (P:=P) I.1 (by simp[y]),bN _ xs _ (Oa2 _) bI (hI.putObj _ hi zo I.1 rfl) ((World.putObj_heap_other zo).trans I.2)⟩
 exact⟨some c,_,run_endLoop (P:=P) I.1 (by simp[y]),bU _ c H _ (Oa2 _) bJ ((hIx c).putObj _ hi zo I.1 rfl) ((World.putObj_heap_other zo).trans I.2)⟩
