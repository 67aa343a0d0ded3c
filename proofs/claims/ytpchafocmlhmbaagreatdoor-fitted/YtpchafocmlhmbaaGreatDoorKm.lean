/- Rows in new memory: a list of rows, each in a block of its own. -/
import Derived.Test.YtpchafocmlhmbaaGreatDoorTf
set_option maxHeartbeats 1000000
set_option maxRecDepth 100000
namespace Go.Proofs.YtpchafocmlhmbaaGreatDoor
section
open Go.RowKit Tryz
def Jad (b:Nat)(r:List V):Value:=.slice (some ⟨b,0,none⟩) r.length r.length
structure Jcu (w:World) (B g:Nat) (bs:List Nat) (rs:List (List V)):Prop where
 len:bs.length=rs.length
 outer:w.rowIs g 41 rs.length (fun j=>Jad (bs.getD j 0) (rs.getD j []))
 rows:∀ (i:Nat) b r,bs[i]?=some b→rs[i]?=some r→Kv w b r []
 from_:B≤g∧∀ b∈bs,B≤b∧b≠g
 nodup:bs.Nodup
theorem Jcu.below {w w':World}{B g:Nat}{bs:List Nat}{rs:List (List V)}(h:Jcu w B g bs rs)(y:Below w.heap.size w w'):Jcu w' B g bs rs:=
 ⟨h.len,h.outer.of_block (y.block g h.outer.lt),fun i b r hi hr=>(h.rows i b r hi hr).of_block (y.block b (h.rows i b r hi hr).lt),h.from_,h.nodup⟩
theorem Jcu.rowsAt {w:World}{B g:Nat}{bs:List Nat}{rs:List (List V)}(h:Jcu w B g bs rs):Zd w (some ⟨g,0,none⟩) (List.zipWith (fun b (r:List V)=>((some ⟨b,0,none⟩:Option Addr),r.length)) bs rs) rs:=by
 refine⟨by simp[h.len],.inr ⟨g,0,rfl,h.outer.lt,fun i v E=>?_⟩,fun i x r H hr=>?_⟩
 ·have hi:i<rs.length:=by
   rcases Oc1 i rs.length with y|y
   ·exact y
   ·rw[Ob4 (by simp;omega)]at E;simp at E
  have D:i<bs.length:=by rw[h.len];exact hi
  rw[Od0,h.outer.cell hi];rw[Ok5,Ok5,Oa3 hi,Oa3 D]at E;simp[Je1]at E;simp[Jad,hi,D,←E]
 have hi:i<rs.length:=by
  rcases Oc1 i rs.length with y|y
  ·exact y
  ·rw[Ob4 y]at hr;simp at hr
 have D:i<bs.length:=by rw[h.len];exact hi
 rw[Ok5]at H;simp[hi,D]at H hr;subst H hr;exact(h.rows i bs[i] rs[i] (by simp[D]) (by simp[hi])).vals
theorem Jip:(prog.info? 41).map (fun i=>(i.zero,i.size,i.bytes))=some (some (.slice none 0 0),1,24):=by kernel_rfl
theorem Jtn (n:Nat)(hn:n≤1000)(W:World):∃ C,(Instr.makeSlice 41 (.int .i64 (n:Int)) (.int .i64 (n:Int))).run prog W=.ok (.slice (some ⟨W.heap.size,0,none⟩) n n) (W.alloc (.cells C 39))∧Kv (W.alloc (.cells C 39)) W.heap.size (List.replicate n Jf) []:=by
 obtain⟨i,hi,E,D,y⟩:=info_parts Jow;have hr:=run_make (P:=prog) W 41 39 i _ (by kernel_rfl) hi E .i64 .i64 (n:Int) (n:Int) (by omega) (Int.le_refl _) (by rw[y];omega) (by omega);rw[Int.toNat_natCast,D]at hr;exact⟨_,hr,_,(Oh1 W _).1,by rw[Od7];exact Jt9 n⟩
end
section
open Go.RowKit
def pg (y:DS)(i:Nat):Option (List UInt8):=y.pages.getD i none
theorem Jly (l:List (Option (List UInt8)))(i j:Nat)(x:Option (List UInt8))(hi:i<l.length):(l.set i x).getD j none=if j=i then x else l.getD j none:=by
 rw[Oa0,Oa0];by_cases h:j=i
 ·subst h;simp[hi]
 rw[if_neg h,Od1 (Oc5 h)]
theorem Kfe {y:DS}{i:Nat}(h:¬ Jai y.pages (i:Int)=true):pg y i=none:=Je0 (by simpa using h)
theorem Kcf (y:DS)(i j:Nat):pg (Jae y i) j=if j=i then none else pg y j:=by
 unfold Jae;by_cases h:Jai y.pages (i:Int)=true
 ·rw[if_pos h];obtain⟨p,hp⟩:=Jf3 h;have hi:i<y.pages.length:=by
   rcases Oc1 i y.pages.length with D|D
   ·exact D
   rw[Ob4 D]at hp;simp at hp
  exact Jly _ _ _ _ hi
 rw[if_neg h];by_cases e:j=i
 ·subst e;rw[if_pos rfl];exact Kfe h
 rw[if_neg e]
theorem Jx3 (l:List Nat):∀ (y:DS) (j:Nat),pg (Jf4 y l) j=if j∈l then none else pg y j:=by
 induction l with
 |nil=>intro y j;simp[Jf4]
 |cons i l H=>
  intro y j;show pg (Jf4 (Jae y i) l) j=_;rw[H,Kcf];by_cases D:j∈l
  ·simp[D]
  by_cases E:j=i
  ·simp[E]
  simp[D,E]
theorem Jtm {y:DS}{i:Nat}{p:List UInt8}(h:pg y i=some p):Jai y.pages (i:Int)=true:=by
 cases hu:Jai y.pages (i:Int)with
 |true=>rfl
 |false=>rw[show pg y i=none from Je0 hu]at h;simp at h
theorem Kdp {y:DS}{i:Nat}{p:List UInt8}(h:pg y i=some p):Js (Jae y i).pages+1=Js y.pages:=by
 unfold Jae;rw[if_pos (Jtm h)];obtain⟨q,D⟩:=Jf3 (Jtm h);exact Jii _ _ q D
theorem Joz (l:List Nat):∀ (y:DS),l.Nodup→(∀ i∈l,∃ p,pg y i=some p)→Js (Jf4 y l).pages+l.length=Js y.pages:=by
 induction l with
 |nil=>intro y _ _;simp[Jf4]
 |cons i l K=>
  intro y hn E;obtain⟨p,hp⟩:=E i (by simp);have O:=Kdp hp;have R:=K (Jae y i) (Og0.1 hn).2 (fun j D=>by
   obtain⟨q,H⟩:=E j (by simp[D]);refine⟨q,?_⟩;rw[Kcf,if_neg (fun e:j=i=>(Og0.1 hn).1 (by rw[←e];exact D))];exact H)
  show Js (Jf4 (Jae y i) l).pages+(l.length+1)=_;omega
theorem Jvm (y:DS)(i:Nat):(Jae y i).quota=y.quota∧(Jae y i).fail=y.fail∧(Jae y i).writes=y.writes:=by unfold Jae;split<;>simp
theorem Jin (l:List Nat):∀ y:DS,(Jf4 y l).quota=y.quota∧(Jf4 y l).fail=y.fail∧(Jf4 y l).writes=y.writes:=by
 induction l with
 |nil=>intro y;exact⟨rfl,rfl,rfl⟩
 |cons i l H=>
  intro y;have D:=H (Jae y i);have E:=Jvm y i;exact⟨D.1.trans E.1,D.2.1.trans E.2.1,D.2.2.trans E.2.2⟩
theorem Kfi (y:DS):pg y (Kb y.pages)=none:=Je0 (Jsj _)
theorem Jij (y:DS)(p:List UInt8)(j:Nat):pg (Zn y p) j=if j=Kb y.pages then some (Jdm p)else pg y j:=by
 unfold pg Zn;simp only;have H:=Jeu y.pages;by_cases h:Kb y.pages<y.pages.length
 ·rw[if_pos h];exact Jly _ _ _ _ h
 rw[if_neg h,Jly _ _ _ _ (by simp;omega)];by_cases e:j=Kb y.pages
 ·rw[if_pos e,if_pos e]
 rw[if_neg e,if_neg e,Oa0,Oa0];rcases Oc1 j y.pages.length with D|D
 ·rw[Ob0 D]
 rw[Ob4 (l:=y.pages) D,Ob6 D];have:j-y.pages.length=0∨1≤j-y.pages.length:=by omega
 rcases this with E|E
 ·rw[E];rfl
 rw[Ob4 (by simpa using E)]
theorem Jm8 (y:DS)(p:List UInt8):Js (Zn y p).pages=Js y.pages+1:=by
 unfold Zn;simp only;rw[Jl5 _ _ _ (Jsk y.pages)];split
 ·rfl
 simp[Js]
structure Jjo (D E:DS) (ps:List (List UInt8)) (l:List Nat):Prop where
 len:l.length=ps.length
 nodup:l.Nodup
 free:∀ i∈l,pg D i=none
 other:∀ j,j∉l→pg E j=pg D j
 held:∀ (i:Nat) (hi:i<l.length),pg E l[i]=some (Jdm (ps[i]'(by rw[←len];exact hi)))
 used:Js E.pages=Js D.pages+ps.length
 quota:E.quota=D.quota
 fail:E.fail=D.fail
theorem Jjo.nil (y:DS):Jjo y y [] []:=⟨rfl,List.nodup_nil,by simp,fun _ _=>rfl,by simp,rfl,rfl,rfl⟩
theorem Jjo.cons {y E:DS}{p:List UInt8}{ps:List (List UInt8)}{l:List Nat}(h:Jjo (Zn y p) E ps l):Jjo y E (p::ps) (Kb y.pages::l):=by
 have hn:Kb y.pages∉l:=fun D=>by
  have:=h.free _ D;rw[Jij,if_pos rfl]at this;simp at this
 refine⟨by simp[h.len],Og0.2 ⟨hn,h.nodup⟩,fun i hi=>?_,fun j H=>?_,fun i hi=>?_,?_,h.quota,h.fail⟩
 ·rcases Of1.1 hi with rfl|D
  ·exact Kfi y
  have:=h.free i D;rw[Jij]at this;split at this
  ·simp at this
  exact this
 ·rw[h.other j (fun D=>H (Og1 _ D)),Jij,if_neg (fun e=>H (by simp[e]))]
 ·cases i with
  |zero=>
   simp only[List.getElem_cons_zero];rw[h.other _ hn,Jij,if_pos rfl]
  |succ i=>simpa using h.held i (by simpa using hi)
 rw[h.used,Jm8];simp;omega
theorem Jc1:∀ (ps:List (List UInt8))(y:DS),((Uy y ps).2.2=none→Jjo y (Uy y ps).1 ps (Uy y ps).2.1) ∧
  (∀ x,(Uy y ps).2.2=some x→∃ H rest,ps=H++rest∧rest≠[]∧∃ D,Jjo y D H (Uy y ps).2.1∧pg (Uy y ps).1=pg D∧Js (Uy y ps).1.pages=Js D.pages∧(Uy y ps).1.quota=D.quota∧(Uy y ps).1.fail=D.fail ∧
   (x=true→D.quota≤((Js D.pages:Nat):Int))∧(x=false→(Uy y ps).1.writes=(Uy y ps).1.fail))
 |[],y=>⟨fun _=>Jjo.nil y,fun x h=>by simp[Uy]at h⟩
 |p::ps,y=>by
  have R:=Jc1 ps (Zn y p);unfold Uy;by_cases K:y.quota≤((Js y.pages:Nat):Int)
  ·rw[if_pos K];refine⟨fun h=>by simp at h,fun x E=>⟨[],p::ps,rfl,by simp,y,Jjo.nil y,rfl,rfl,rfl,rfl,fun _=>K,fun hf=>?_⟩⟩;simp at E;subst E;simp at hf
  rw[if_neg K];by_cases O:wrap64 (y.writes+1)=y.fail
  ·rw[if_pos O];refine⟨fun h=>by simp at h,fun x E=>⟨[],p::ps,rfl,by simp,y,Jjo.nil y,rfl,rfl,rfl,rfl,fun X=>?_,fun _=>O⟩⟩;simp at E;subst E;simp at X
  rw[if_neg O];refine⟨fun h=>(R.1 h).cons,fun x E=>?_⟩;obtain⟨H,rest,U,hr,D,hL,Y,Z,ba,bc,bf,bh⟩:=R.2 x E;exact⟨p::H,rest,by rw[U];rfl,hr,D,hL.cons,Y,Z,ba,bc,bf,bh⟩
theorem Jni (y:DS):∀ (l:List Nat) (ps:List (List UInt8)) (hl:l.length=ps.length),(∀ p∈ps,p.length≤56)→(∀ (i:Nat) (hi:i<l.length),pg y l[i]=some (Jdm (ps[i]'(by rw[←hl];exact hi))))→Uf y l=.inl ps.flatten
 |[],[],_,_,_=>rfl
 |[],_::_,hl,_,_=>by simp at hl
 |_::_,[],hl,_,_=>by simp at hl
 |i::l,p::ps,hl,D,E=>by
  have h0:=E 0 (by simp);simp at h0;have hr:=Jni y l ps (by simpa using hl) (fun q K=>D q (by simp[K])) (fun j H=>E (j+1) (by simpa using H));simp only[Uf];rw[show y.pages.getD i none=some (Jdm p) from h0];simp only[Option.bind_some,Jxe (D p (by simp)),hr,List.flatten_cons]
theorem Jlo:∀ (n:Nat)(t:List UInt8),t.length≤n→(Jb5 n t).flatten=t
 |0,[],_=>rfl
 |0,_::_,h=>by simp at h
 |_+1,[],_=>rfl
 |n+1,b::t,h=>by
  simp only[Jb5,List.flatten_cons];rw[Jlo n _ (by simp at h ⊢;omega),Ok3]
theorem Js2 (t:List UInt8):(Qu t).flatten=t:=Jlo _ _ (Oa2 _)
theorem Jq0:∀ (n:Nat)(t:List UInt8),∀ p∈Jb5 n t,p.length≤56
 |0,_,p,h=>by simp[Jb5]at h
 |_+1,[],p,h=>by simp[Jb5]at h
 |n+1,b::t,p,h=>by
  simp only[Jb5]at h;rcases Of1.1 h with rfl|y
  ·rw[Oc7];omega
  exact Jq0 n _ p y
theorem Jzu (t:List UInt8):∀ p∈Qu t,p.length≤56:=Jq0 _ _
theorem Jy1 {t:List UInt8}(h:t≠[]):Qu t≠[]:=by rw[Jr2 t h];simp
theorem Jkd:∀ (n:Nat)(t:List UInt8),56*(Jb5 n t).length≤t.length+55
 |0,t=>by simp[Jb5]
 |_+1,[]=>by simp[Jb5]
 |n+1,b::t=>by
  simp only[Jb5,List.length_cons];have:=Jkd n ((b::t).drop 56);rw[Of7]at this;have h0:(b::t).length=t.length+1:=rfl;rw[h0]at this;rcases Oc1 (t.length+1) 56 with y|y
  ·have H:t.length+1-56=0:=(by omega);have E:(b::t).drop 56=[]:=Ol8 (by rw[h0];omega);rw[E];have D:(Jb5 n ([]:List UInt8)).length=0:=by cases n<;>rfl
   rw[D];omega
  omega
theorem Jio (t:List UInt8):56*(Qu t).length≤t.length+55:=Jkd _ _
def Jan (y:DS)(l:List Nat)(t:List UInt8):Prop:=l.length=(Qu t).length∧∀ (i:Nat) (hi:i<l.length) (D:i<(Qu t).length),pg y l[i]=some (Jdm (Qu t)[i])
theorem Jan.read {y:DS}{l:List Nat}{t:List UInt8}(h:Jan y l t):Uf y l=.inl t:=by
 rw[Jni y l (Qu t) h.1 (Jzu t) (fun i hi=>h.2 i hi _),Js2]
theorem Jan.keep {y D:DS}{l:List Nat}{t:List UInt8}(h:Jan y l t)(H:∀ i∈l,pg D i=pg y i):Jan D l t:=
 ⟨h.1,fun i hi E=>(H _ (Ob3 hi)).trans (h.2 i hi E)⟩
theorem Jjo.seg {D y:DS}{t:List UInt8}{l:List Nat}(h:Jjo D y (Qu t) l):Jan y l t:=⟨h.len,fun i hi _=>h.held i hi⟩
structure Jke (D E:DS) (ts:List (List UInt8)) (ls:List (List Nat)):Prop where
 len:ls.length=ts.length
 nodup:ls.flatten.Nodup
 free:∀ i∈ls.flatten,pg D i=none
 other:∀ j,j∉ls.flatten→pg E j=pg D j
 segs:∀ (i:Nat) (hi:i<ls.length),Jan E ls[i] (ts[i]'(by rw[←len];exact hi))
 used:Js E.pages=Js D.pages+ls.flatten.length
 quota:E.quota=D.quota
 fail:E.fail=D.fail
theorem Jke.nil (y:DS):Jke y y [] []:=⟨rfl,List.nodup_nil,by simp,fun _ _=>rfl,by simp,rfl,rfl,rfl⟩
theorem Jke.cons {O E F:DS}{t:List UInt8}{ts:List (List UInt8)}{l:List Nat}{K:List (List Nat)}(h:Jjo O E (Qu t) l)(k:Jke E F ts K):Jke O F (t::ts) (l::K):=by
 have Y:∀ i∈l,∃ p,pg E i=some p:=fun i hi=>by
  obtain⟨j,D,rfl⟩:=Od5 hi;exact⟨_,h.held j D⟩
 have H:∀ i∈l,i∉K.flatten:=fun i hi y=>by
  obtain⟨p,hp⟩:=Y i hi;rw[k.free i y]at hp;simp at hp
 refine⟨by simp[k.len],?_,fun i hi=>?_,fun j D=>?_,fun i hi=>?_,?_,k.quota.trans h.quota,k.fail.trans h.fail⟩
 ·rw[List.flatten_cons,Op3];exact⟨h.nodup,k.nodup,fun a U b X e=>H a U (e▸X)⟩
 ·rw[List.flatten_cons]at hi;rcases Od2.1 hi with y|y
  ·exact h.free i y
  have R:=k.free i y;by_cases hl:i∈l
  ·exact absurd y (H i hl)
  rw[h.other i hl]at R;exact R
 ·rw[List.flatten_cons,Od2]at D;rw[k.other j (fun y=>D (.inr y)),h.other j (fun y=>D (.inl y))]
 ·cases i with
  |zero=>exact h.seg.keep fun i hi=>k.other i (H i hi)
  |succ i=>simpa using k.segs i (by simpa using hi)
 rw[k.used,h.used,List.flatten_cons,Oa8,h.len];omega
theorem Jpc (y:List (List Nat)):∀ (D:DS) (j:Nat),pg (Jcg D y) j=if j∈y.flatten then none else pg D j:=by
 induction y with
 |nil=>intro D j;simp[Jcg]
 |cons l y K=>
  intro D j;show pg (Jcg (Jf4 D l) y) j=_;rw[K,Jx3,List.flatten_cons];by_cases E:j∈y.flatten
  ·simp[E]
  by_cases H:j∈l
  ·simp[H]
  simp[E,H]
theorem Jdn (D:List (List Nat)):∀ y:DS,(Jcg y D).quota=y.quota∧(Jcg y D).fail=y.fail∧(Jcg y D).writes=y.writes:=by
 induction D with
 |nil=>intro y;exact⟨rfl,rfl,rfl⟩
 |cons l D K=>
  intro y;have E:=K (Jf4 y l);have H:=Jin l y;exact⟨E.1.trans H.1,E.2.1.trans H.2.1,E.2.2.trans H.2.2⟩
theorem Jhs:∀ (l:List (Option (List UInt8)))(n:Nat),l.length≤n→Js l=(List.range n).countP fun i=>(l.getD i none).isSome
 |[],n,_=>by simp[Js]
 |x::l,0,h=>by simp at h
 |x::l,n+1,h=>by
  have y:=Jhs l n (by simpa using h);rw[List.range_succ_eq_map,On3,List.countP_map];have e:((fun i=>((x::l).getD i none).isSome) ∘ Nat.succ)=fun i=>(l.getD i none).isSome:=by funext i;simp
  rw[e,←y];simp[Js,List.countP_cons]
theorem Jz2 {y D:DS}(h:∀ j,pg D j=pg y j):Js D.pages=Js y.pages:=by
 rw[Jhs D.pages (D.pages.length+y.pages.length) (by omega),Jhs y.pages (D.pages.length+y.pages.length) (by omega)];congr 1
 funext i
 rw[show D.pages.getD i none=y.pages.getD i none from h i]
structure Kft (D E:DS):Prop where
 pages:∀ j,pg E j=pg D j
 used:Js E.pages=Js D.pages
 quota:E.quota=D.quota
 fail:E.fail=D.fail
theorem Jso {y:DS}{ps:List (List UInt8)}{x:Bool}(h:(Uy y ps).2.2=some x):Kft y (Jf4 (Uy y ps).1 (Uy y ps).2.1)∧ps≠[]∧(x=true→y.quota≤((Js y.pages+ps.length:Nat):Int)):=by
 obtain⟨Y,rest,H,hr,Z,hL,E,ba,K,O,R,_⟩:=(Jc1 ps y).2 x h;have hn:=Jin (Uy y ps).2.1 (Uy y ps).1;have hp:∀ i∈(Uy y ps).2.1,∃ p,pg (Uy y ps).1 i=some p:=fun i hi=>by
  obtain⟨j,U,e⟩:=Od5 hi;have:=hL.held j U;rw[e]at this;rw[E];exact⟨_,this⟩
 have bc:=Joz _ _ hL.nodup hp;refine⟨⟨fun j=>?_,?_,hn.1.trans (K.trans hL.quota),hn.2.1.trans (O.trans hL.fail)⟩,?_,fun X=>?_⟩
 ·rw[Jx3,E];by_cases D:j∈(Uy y ps).2.1
  ·rw[if_pos D,hL.free j D]
  rw[if_neg D,hL.other j D]
 ·have:=hL.used;have:=hL.len;omega
 ·rw[H];intro e;exact hr (List.append_eq_nil_iff.1 e).2
 have:=R X;rw[hL.quota,hL.used]at this;have hl:Y.length≤ps.length:=by rw[H];simp
 omega
theorem Jjv:∀ (ts:List (List UInt8))(y:DS),(Jq y ts).2.2=none→Jke y (Jq y ts).1 ts (Jq y ts).2.1
 |[],y,_=>Jke.nil y
 |t::ts,y,h=>by
  have D:=(Jc1 (Qu t) y).1;rcases hr:Uy y (Qu t)with⟨E,l,r⟩;rw[hr]at D;unfold Jq at h ⊢;rw[hr]at h ⊢;cases r with
  |none=>exact Jke.cons (D rfl) (Jjv ts E h)
  |some x=>simp at h
theorem Jj4:∀ (ts:List (List UInt8))(y:DS)(x:Bool),(Jq y ts).2.2=some x→Kft y (Jcg (Jq y ts).1 (Jq y ts).2.1)∧ts≠[]∧(x=true→y.quota≤((Js y.pages+Jch ts:Nat):Int))
 |[],y,x,h=>by simp[Jq]at h
 |t::ts,y,x,h=>by
  have h0:=fun U=>@Jso y (Qu t) U;have X:=(Jc1 (Qu t) y).1;rcases hr:Uy y (Qu t)with⟨E,l,r⟩;rw[hr]at h0 X;unfold Jq at h ⊢;rw[hr]at h ⊢;cases r with
  |some U=>
   simp at h;subst h;have Y:=h0 U rfl;refine⟨Y.1,by simp,fun R=>?_⟩;have:=Y.2.2 R;rw[Ja1];omega
  |none=>
   simp only at h ⊢;have hL:=X rfl;have ba:=Jj4 ts E x h;have O:=ba.1;simp only at hL;have bh:∀ i∈l,∃ p,pg E i=some p:=fun i hi=>by
    obtain⟨j,D,rfl⟩:=Od5 hi;exact⟨_,hL.held j D⟩
   have bj:=Joz l E hL.nodup bh;have hn:=Jin l E
   -- let go in any order
   have Z:∀ j,pg (Jcg (Jq E ts).1 (l::(Jq E ts).2.1)) j=pg y j:=fun j=>by
    rw[Jpc,List.flatten_cons];have D:=O.pages j;rw[Jpc]at D;by_cases H:j∈l
    ·rw[if_pos (by simp[H]),hL.free j H]
    by_cases K:j∈(Jq E ts).2.1.flatten
    ·rw[if_pos (by simp[K])];rw[if_pos K,hL.other j H]at D;exact D
    rw[if_neg (by simp[H];simpa using K)];rw[if_neg K,hL.other j H]at D;exact D
   refine⟨⟨Z,?_,?_,?_⟩,by simp,fun R=>?_⟩
   ·exact Jz2 Z
   ·exact(Jdn _ _).1.trans ((Jdn _ _).1.symm.trans (O.quota.trans hL.quota))
   ·exact(Jdn _ _).2.1.trans ((Jdn _ _).2.1.symm.trans (O.fail.trans hL.fail))
   have bc:=ba.2.2 R;have bi:=hL.used;have bf:=hL.quota;rw[Ja1];rw[bf]at bc;omega
theorem Jkf:∀ (ps:List (List UInt8))(y:DS),0≤y.writes→y.writes+ps.length≤4000000000000000000→(y.writes≤(Uy y ps).1.writes∧(Uy y ps).1.writes≤y.writes+ps.length)∧((Uy y ps).2.2=some false→(Uy y ps).1.writes=y.fail∧y.writes<(Uy y ps).1.writes)∧((Uy y ps).2.2≠some false→¬ (y.writes<y.fail∧y.fail≤(Uy y ps).1.writes))
 |[],y,_,_=>by simp[Uy]
 |p::ps,y,h0,O=>by
  have D:wrap64 (y.writes+1)=y.writes+1:=by unfold wrap64;simp at O;omega
  have H:=Jkf ps (Zn y p) (by simp only[Zn,D];omega) (by simp only[Zn,D];simp at O;omega);simp only[Zn,D]at H;unfold Uy;by_cases K:y.quota≤((Js y.pages:Nat):Int)
  ·rw[if_pos K];simp;omega
  rw[if_neg K];by_cases E:wrap64 (y.writes+1)=y.fail
  ·rw[if_pos E];rw[D]at E;simp[Jvn,D];omega
  rw[if_neg E];rw[D]at E;simp only[Zn,D,List.length_cons]at H ⊢;refine⟨by omega,fun h=>?_,fun h=>?_⟩
  ·have:=H.2.1 h;omega
  have:=H.2.2 h;omega
theorem Jd9:∀ (ts:List (List UInt8))(y:DS),0≤y.writes→y.writes+Jch ts≤4000000000000000000→(y.writes≤(Jq y ts).1.writes∧(Jq y ts).1.writes≤y.writes+Jch ts)∧((Jq y ts).2.2=some false→(Jq y ts).1.writes=y.fail∧y.writes<(Jq y ts).1.writes)∧((Jq y ts).2.2≠some false→¬ (y.writes<y.fail∧y.fail≤(Jq y ts).1.writes))
 |[],y,_,_=>by simp[Jq,Jch]
 |t::ts,y,h0,O=>by
  rw[Ja1]at O;have D:=Jkf (Qu t) y h0 (by omega);have K:=(Jc1 (Qu t) y).1;rcases hr:Uy y (Qu t)with⟨E,l,r⟩;rw[hr]at D K;unfold Jq;rw[hr,Ja1];cases r with
  |some U=>
   have hn:=(Jin l E).2.2;simp only at D ⊢;rw[hn];refine⟨by omega,fun h=>D.2.1 h,fun h=>D.2.2 h⟩
  |none=>
   have hL:=K rfl;have hf:=hL.fail;simp only at D hf ⊢;have H:=Jd9 ts E (by omega) (by omega);rw[hf]at H;have R:=D.2.2 (by simp);refine⟨by omega,fun h=>?_,fun h=>?_⟩
   ·have:=H.2.1 h;omega
   have:=H.2.2 h;omega
theorem Jhi (x rest:List UInt8):Jat x.length (x++rest)=some (x,rest):=by
 unfold Jat;rw[if_pos (by simp)];simp
def Jg (n:Int):Prop:=-9223372036854775808≤n∧n≤9223372036854775807
theorem Ka1 (u:Nat):∀ k,Jeh ((List.range k).map fun i=>UInt8.ofNat (u / 256 ^ i % 256))=u % 256 ^ k:=by
 intro k;induction k with
 |zero=>simp[Jeh,Nat.mod_one]
 |succ k y=>
  rw[Oj7,Ob8,Oe4,Oi4,Jlf,y];have D:u / 256 ^ k % 256<256:=Ol0 _ (by decide);have e:(UInt8.ofNat (u / 256 ^ k % 256)).toNat=u / 256 ^ k % 256:=by
   simp
  rw[e,Oa6,Op1,Nat.mod_pow_succ,Nat.mul_comm]
theorem Jza (u:Nat)(h:u<18446744073709551616):Jeh (le8 u)=u:=by
 unfold le8;rw[Ka1];have y:256 ^ 8=18446744073709551616:=by decide
 exact Nat.mod_eq_of_lt (by omega)
theorem Jsf (n:Int)(h:Jg n):wrap64 ((u64 n:Nat):Int)=n:=by
 unfold Jg at h;unfold wrap64 u64;omega
theorem Jh5 (n:Int)(rest:List UInt8)(h:Jg n):Jc7 (le8 (u64 n)++rest)=some (n,rest):=by
 have e:=Jhi (le8 (u64 n)) rest;rw[Jc4]at e;unfold Jc7;rw[e];simp only;rw[Jza _ (Jp3 n),Jsf n h]
theorem Jgf (n:Nat)(h:n<256):(low (n:Int)).toNat=n:=by
 unfold low;have e:((n:Int) % 256).toNat=n:=by omega
 rw[e];simp;omega
theorem Je8 (n:Nat)(rest:List UInt8)(h:n<256):Ur (low (n:Int)::rest)=some (n,rest):=by
 simp[Ur,Jgf n h]
def okT (t:Int)(v:V):Prop:=v.k=t∧okK v.k v.n v.s=true∧Jg v.n
theorem Jit (s:ByteArray)(h:s.toList.isEmpty=true):s=Qw []:=by
 rw[List.isEmpty_iff]at h;rw[←Zf s,h]
theorem Jj3 (t:Int)(v:V)(rest:List UInt8)(h:okT t v):Qz t (enc v.k v.n v.s++rest)=some (v,rest):=by
 obtain⟨E,y,hr⟩:=h;obtain⟨k,n,s⟩:=v;simp only at E y hr;subst E;unfold okK at y;simp only[decide_eq_true_eq]at y;rcases y with⟨rfl,hs⟩|⟨rfl,hn,hs⟩|⟨rfl,rfl,hs⟩
 ·have:=Jit s hs;subst this;have e:enc 1 n (Qw [])=le8 (u64 n):=rfl;unfold Qz;rw[if_pos rfl];simp only[e,Jh5 n rest hr];rfl
 ·have:=Jit s hs;subst this;have e:enc 2 n (Qw [])=[low n]:=rfl;unfold Qz;rw[if_neg (by decide),if_pos rfl];simp only[e];rcases hn with rfl|rfl
  ·rfl
  rfl
 have e:enc 3 0 s=low (s.size:Nat)::s.toList:=rfl;have hl:s.toList.length=s.size:=by rw[Og4,Array.length_toList];rfl
 unfold Qz;rw[if_neg (by decide),if_neg (by decide)];simp only[e];have D:=Jhi s.toList rest;rw[hl]at D;unfold Jne;rw[List.cons_append,Je8 _ _ (by omega)];simp only[D,Option.map_some,Zf]
theorem Jmy (t:Int):∀ (vs:List V) (rest:List UInt8),(∀ v∈vs,okT t v)→Yl t vs.length (Yv vs++rest)=some (vs,rest):=by
 intro vs;have R:∀ (n:Nat) (vs:List V) (rest:List UInt8),vs.length=n→(∀ v∈vs,okT t v)→Yl t n (Yv vs++rest)=some (vs,rest):=by
  intro n;induction n with
  |zero=>intro vs rest hn _;rw[Od3]at hn;subst hn;rfl
  |succ n O=>
   intro vs rest hn D;obtain⟨y,v,rfl⟩:∃ y v,vs=y++[v]:=⟨vs.dropLast,vs.getLast (by intro e;simp[e]at hn),(List.dropLast_concat_getLast _).symm⟩;have K:y.length=n:=by simpa using hn
   have E:=O y (enc v.k v.n v.s++rest) K fun u H=>D u (by simp[H]);have e:Yv (y++[v])++rest=Yv y++(enc v.k v.n v.s++rest):=by rw[Jjz,Od8]
   rw[e,Yl,E];simp only;rw[Jj3 t v rest (D v (by simp))];rfl
 intro rest D;exact R vs.length vs rest rfl D
theorem Jwf (L:List Bool)(j:Nat)(H:j<L.length):Jn6 (Kk L) j=L.getD j false:=by
 have D:j / 8<(L.length+7) / 8:=by omega
 have e:((Kk L).getD (j / 8) 0).toNat=Jag L (j / 8):=by
  have E:=Ji4 L (j / 8);simp[Kk,D];omega
 unfold Jn6;rw[e,Yx];have y:8*(j / 8)+j % 8=j:=by omega
 rw[y];have:j % 8<8:=Ol0 _ (by decide);simp[this]
theorem Kbi (x:List UInt8)(i n:Nat):∀ b,(∀ k,k<b→Jn6 x (i+k)=n.testBit k)→Zc x i b=n % 2 ^ b:=by
 intro b;induction b with
 |zero=>intro _;simp[Zc,Nat.mod_one]
 |succ b y=>
  intro h;rw[Zc,y fun k D=>h k (by omega),h b (by omega),Nat.mod_pow_succ,On1];have E:n / 2 ^ b % 2<2:=Ol0 _ (by decide);generalize n / 2 ^ b % 2=m at *;have:m=0∨m=1:=by omega
  rcases this with rfl|rfl<;>simp
theorem Jct (y:Nat)(ns:List Nat)(rest:List UInt8)(h:∀ n∈ns,n<2 ^ y):Yj y ns.length (Kk (Ue y ns)++rest)=some (ns,rest):=by
 have e:=Jhi (Kk (Ue y ns)) rest;rw[Qb,Jal]at e;unfold Yj;rw[e];simp only[Oc9,Oj3,and_true];apply Oh4
 ·simp
 intro i U H;have hi:i<ns.length:=H;rw[Od9,Oo7];have K:Zc (Kk (Ue y ns)) (y*i) y=ns[i] % 2 ^ y:=by
  apply Kbi;intro k O;have E:=Jms y ns i k hi O;have R:y*i+k<(Ue y ns).length:=by
   rcases Oc1 (y*i+k) (Ue y ns).length with D|D
   ·exact D
   rw[Ob4 D]at E;simp at E
  rw[Jwf _ _ R,Oa0,E];rfl
 rw[K,Nat.mod_eq_of_lt (h _ (Ob3 hi))]
theorem Jwd (xs:List V)(h:∀ v∈xs,v.k=0→v=Jf):Ys (xs.map Qt) (Jz xs)=xs:=by
 induction xs with
 |nil=>rfl
 |cons v xs O=>
  have H:=O fun u K=>h u (Og1 _ K);by_cases y:v.k=0
  ·have D:Qt v=0:=(by simp[Qt,y]);have E:Jz (v::xs)=Jz xs:=(by simp[Jz,y]);rw[Oe4,D,E,Ys,if_neg (by decide),H,h v (by simp) y]
  have D:Qt v=1:=by simp[Qt,y]
  have E:Jz (v::xs)=v::Jz xs:=by simp[Jz,y]
  rw[Oe4,D,E,Ys,if_pos rfl];simp only[List.headD_cons,List.tail_cons,H]
theorem Jyx (xs:List V):Qs (xs.map Qt)=(Jz xs).length:=by
 induction xs with
 |nil=>rfl
 |cons v xs H=>
  by_cases y:v.k=0
  ·have D:Qt v=0:=(by simp[Qt,y]);have E:Jz (v::xs)=Jz xs:=(by simp[Jz,y]);rw[Oe4,D,E,Qs,if_neg (by decide),H];omega
  have D:Qt v=1:=by simp[Qt,y]
  have E:Jz (v::xs)=v::Jz xs:=by simp[Jz,y]
  rw[Oe4,D,E,Qs,if_pos rfl,H,List.length_cons];omega
theorem Jut {t:Int}{xs:List V}(h:Jdq t xs)(H:1≤t):∀ v∈xs,v.k=0→v=Jf:=by
 intro v E D;obtain⟨j,y,rfl⟩:=Od5 E;have:=h.2 j y;unfold okB at this;simp only[decide_eq_true_eq]at this;generalize xs[j]=v at *;rcases this with⟨_,hn,hs⟩|⟨e,_⟩
 ·exact V.ext' D hn (Jit _ hs)
 omega
theorem Jvg {t:Int}{xs:List V}(h:Jdq t xs)(hr:∀ v∈xs,Jg v.n):∀ v∈Jz xs,okT t v:=by
 intro v y;unfold Jz at y;rw[Om0]at y;obtain⟨y,D⟩:=y;have K:=hr v y;obtain⟨j,E,rfl⟩:=Od5 y;have:=h.2 j E;unfold okB at this;simp only[decide_eq_true_eq]at this;rcases this with⟨e,_,_⟩|⟨e,H⟩
 ·rw[e]at D;simp at D
 exact⟨e,H,K⟩
def Kkn (y:Int):Prop:=∀ (t:Int) (vs:List V),way t y=true→vs.length≤64→¬ (y=1∧16<(Ym [] vs).length)→(∀ v∈vs,okT t v)→Jce t y vs.length (Jdt t y vs++[])=some (vs,[])
theorem Kj4:Kkn 0:=fun t vs _ _ _ h=>Jmy t vs [] h
theorem Kja {t y:Int}{xs:List V}{bs:List UInt8}(h:Jev t y xs=(bs,0)):way t y=true∧Jdq t xs∧¬ (y=1∧16<(Ym [] (Jz xs)).length)∧((t.toNat:Nat):Int)=t∧((y.toNat:Nat):Int)=y∧Jf2 bs=some ((t.toNat,y.toNat,xs.length),Kk (xs.map fun v=>v.k != 0)++Jdt t y (Jz xs)):=by
 unfold Jev at h;by_cases D:(way t y&&Jfr t xs)=true
 ·rw[if_pos D]at h;by_cases K:y=1∧16<(Ym [] (Jz xs)).length
  ·rw[if_pos K]at h;simp at h
  rw[if_neg K]at h;simp only[Oj3,and_true]at h;rw[Og5]at D;obtain⟨U,O⟩:=D;rw[Jfd]at O;have R:=U;unfold way at R;simp only[decide_eq_true_eq]at R;obtain⟨bi,bj,bc,bf,bh⟩:=R;have X:=O.1;have H:((t.toNat:Nat):Int)=t:=by omega
  have E:((y.toNat:Nat):Int)=y:=by omega
  refine⟨U,O,K,H,E,?_⟩;rw[←h];have e:Jav t y xs=low t::low y::low (xs.length:Nat)::(Kk (xs.map fun v=>v.k != 0)++Jdt t y (Jz xs)):=rfl;rw[e];have Y:(low t).toNat=t.toNat:=by rw[←H,Jgf _ (by omega)];omega
  have Z:(low y).toNat=y.toNat:=by rw[←E,Jgf _ (by omega)];omega
  have ba:(low (xs.length:Nat)).toNat=xs.length:=Jgf _ (by omega);simp only[Jf2];rw[Y,Z,ba,H,E,if_pos ⟨U,X⟩]
 rw[if_neg D]at h;simp at h
theorem Ki9 (t y:Int)(O:Kkn y)(xs:List V)(bs:List UInt8)(h:Jev t y xs=(bs,0))(hr:∀ v∈xs,Jg v.n):Jbf bs=some (t.toNat,y.toNat,xs):=by
 obtain⟨K,D,X,U,R,Y⟩:=Kja h;have H:=K;unfold way at H;simp only[decide_eq_true_eq]at H;have bf:=D.1;have Z:=Jvg D hr;have ba:=Jut D (by omega);have bh:=Zy xs;have E:=O t (Jz xs) K (by omega) X Z;rw[Od7]at E;have hf:=Jct 1 (xs.map Qt) (Jdt t y (Jz xs)) (by
  intro n hn;obtain⟨v,_,rfl⟩:=Of0.1 hn;unfold Qt;split<;>decide)
 rw[Jrg,Oa6]at hf;have bc:Ug t y xs.length (Kk (xs.map fun v=>v.k != 0)++Jdt t y (Jz xs))=some (xs,[]):=by
  unfold Ug;rw[hf];simp only;rw[Jyx,E,Option.map_some,Jwd xs ba]
 unfold Jbf;rw[Y];simp only;rw[U,R,bc];simp only;rw[if_pos h]
end
section
open Go.RowKit Tryz
theorem Jfw (c:Int)(n:Nat)(w:World)(D:Jg c)(hn:0<n)(H:n≤4611686018427387904) :
  Calls prog 8 #[.int .i64 c,.int .i64 n] w fun e w'=>(∃ r:Nat,e=.returned (.int .i64 r)∧r<n)∧w'=w:=by
 unfold Jg at D;have y:¬ ((n:Int)=0):=by omega
 by_cases h0:c<0
 ·go_enter func8,ntmps8
  go_wp2;go_ret
  have E:=Int.emod_nonneg (-(c+1)) y;have hl:=Int.emod_lt_of_pos (-(c+1)) (show (0:Int)<n by omega);have e:-((c+1).tmod n)=(((-(c+1)) % (n:Int)).toNat:Int):=by
   rw[←Int.neg_tmod,Om2 (by omega)];omega
  refine⟨⟨((-(c+1)) % (n:Int)).toNat,?_,by omega⟩,rfl⟩;rw[←e];rfl
 go_enter func8,ntmps8
 go_wp2;go_ret
 have E:=Int.emod_nonneg c y;have hl:=Int.emod_lt_of_pos c (show (0:Int)<n by omega);have e:c % (n:Int)=((c % (n:Int)).toNat:Int):=by omega
 refine⟨⟨(c % (n:Int)).toNat,?_,by omega⟩,rfl⟩;rw[←e];rfl
theorem Jfu (w:World):Calls prog 14 #[] w fun e w'=>e=.returned (Jb6 0)∧Below w.heap.size w w':=by
 go_enter func14,ntmps14
 go_wp2;exact bodyPost_ret (v:=Jb6 0) (by simp[results,results14,go_sem]) rfl ⟨rfl,(Oa5 _ _).alloc (Oa2 _) _⟩
theorem Kb1 (n:Int):bits .and .i64 n 1=n % 2:=by
 have y:(BitVec.ofInt 64 1).toNat=2 ^ 1-1:=by decide
 have D:(BitVec.ofInt 64 n &&& BitVec.ofInt 64 1).toNat=(n % ((2 ^ 64:Nat):Int)).toNat % 2 ^ 1:=by
  rw[BitVec.toNat_and,Ok6,y,Nat.and_two_pow_sub_one_eq_mod]
 show IntKind.i64.wrap ((BitVec.ofInt 64 n &&& BitVec.ofInt 64 1).toNat:Nat)=n % 2;rw[D,Od4];omega
theorem Jx5 (n:Int):okB 2 2 (n % 2) ⟨#[]⟩=true:=by
 have:n % 2=0∨n % 2=1:=by omega
 rcases this with e|e<;>simp[okB,okK,e]
theorem Jyh (n:Int):Jg (n % 2):=by unfold Jg;omega
theorem Jk8 (v:V)(t:Int)(w:World)(E:t=1∨t=2∨t=3)(D:Jg v.k)(hn:Jg v.n) :
  Calls prog 18 #[v.val,.int .i64 t] w fun e w'=>(∃ u:V,e=.returned u.val∧okB t u.k u.n u.s=true∧Jg u.n)∧Below w.heap.size w w':=by
 have H:okB t 0 0 (Qw [])=true:=by simp[okB,Qw]
 have y:Jg 0:=by unfold Jg;omega
 have U:Below w.heap.size w ((w.alloc (.cells #[.int .i64 v.k,.int .i64 v.n,.string v.s] 39)).alloc (.cells #[.int .i64 0,.int .i64 0,.string ⟨#[]⟩] 39)):=((Oa5 _ _).alloc (Oa2 _) _).alloc (by simp) _;obtain⟨k,n,s⟩:=v;simp only at D hn U;by_cases h0:k=0
 ·subst h0;go_enter func18,ntmps18
  go_wp2_with fail
  refine bodyPost_ret (v:=.agg #[.int .i64 0,.int .i64 0,.string ⟨#[]⟩]) (by simp[results,results18,go_sem]) rfl ⟨⟨⟨0,0,⟨#[]⟩⟩,rfl,H,y⟩,((Oa5 _ _).alloc (Oa2 _) _).alloc (by simp) _⟩
 have X:(k==0)=false:=by simpa using h0
 have Z:=Kb1 n;go_enter func18,ntmps18
 go_wp2_with fail
 refine(Jfw k 7 _ D (by decide) (by decide)).mono ?_;rintro e w1 ⟨⟨r,rfl,hr⟩,rfl⟩;by_cases R:r=6
 ·subst R;go_wp2_with fail
  refine bodyPost_ret (v:=.agg #[.int .i64 0,.int .i64 0,.string ⟨#[]⟩]) (by simp[results,results18,go_sem]) rfl ⟨⟨⟨0,0,⟨#[]⟩⟩,rfl,H,y⟩,((Oa5 _ _).alloc (Oa2 _) _).alloc (by simp) _⟩
 have Y:((r:Int)==6)=false:=by rw[beq_eq_false_iff_ne];omega
 by_cases K:s.size≤40
 ·have O:¬ ((40:Int)<(s.size:Int)):=by omega
  rcases E with rfl|rfl|rfl
  ·go_wp2_with fail
   refine bodyPost_ret (v:=.agg #[.int .i64 1,.int .i64 n,.string ⟨#[]⟩]) (by simp[results,results18,go_sem]) rfl ⟨⟨⟨1,n,⟨#[]⟩⟩,rfl,by simp[okB,okK],hn⟩,((Oa5 _ _).alloc (Oa2 _) _).alloc (by simp) _⟩
  ·go_wp2_with fail
   refine bodyPost_ret (v:=.agg #[.int .i64 2,.int .i64 (n % 2),.string ⟨#[]⟩]) (by simp[results,results18,go_sem]) rfl ⟨⟨⟨2,n % 2,⟨#[]⟩⟩,rfl,Jx5 n,Jyh n⟩,((Oa5 _ _).alloc (Oa2 _) _).alloc (by simp) _⟩
  go_wp2_with fail
  refine bodyPost_ret (v:=.agg #[.int .i64 3,.int .i64 0,.string s]) (by simp[results,results18,go_sem]) rfl ⟨⟨⟨3,0,s⟩,rfl,by simp[okB,okK,K],y⟩,((Oa5 _ _).alloc (Oa2 _) _).alloc (by simp) _⟩
 have O:((40:Int)<(s.size:Int)):=by omega
 have ba:¬ ((s.size:Int)<40):=by omega
 rcases E with rfl|rfl|rfl
 ·go_wp2_with fail
  refine bodyPost_ret (v:=.agg #[.int .i64 1,.int .i64 n,.string ⟨#[]⟩]) (by simp[results,results18,go_sem]) rfl ⟨⟨⟨1,n,⟨#[]⟩⟩,rfl,by simp[okB,okK],hn⟩,((Oa5 _ _).alloc (Oa2 _) _).alloc (by simp) _⟩
 ·go_wp2_with fail
  refine bodyPost_ret (v:=.agg #[.int .i64 2,.int .i64 (n % 2),.string ⟨#[]⟩]) (by simp[results,results18,go_sem]) rfl ⟨⟨⟨2,n % 2,⟨#[]⟩⟩,rfl,Jx5 n,Jyh n⟩,((Oa5 _ _).alloc (Oa2 _) _).alloc (by simp) _⟩
 go_wp2_with fail
 refine bodyPost_ret (v:=.agg #[.int .i64 3,.int .i64 0,.string (s.extract 0 40)]) (by simp[results,results18,go_sem]) rfl ⟨⟨⟨3,0,s.extract 0 40⟩,rfl,by simp[okB,okK];omega,y⟩,((Oa5 _ _).alloc (Oa2 _) _).alloc (by simp) _⟩
end
end Go.Proofs.YtpchafocmlhmbaaGreatDoor
