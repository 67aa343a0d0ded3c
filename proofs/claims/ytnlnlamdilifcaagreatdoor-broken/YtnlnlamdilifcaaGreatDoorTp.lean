/- Rows in new memory: a list of rows, each in a block of its own. -/
import Derived.Test.YtnlnlamdilifcaaGreatDoorTi
set_option maxHeartbeats 1000000
set_option maxRecDepth 100000
namespace Go.Proofs.YtnlnlamdilifcaaGreatDoor
section
open Go.RowKit Tryz
def Jad (b:Nat)(r:List V):Value:=Sq b r.length r.length
structure Jcu (w:World) (B g:Nat) (bs:List Nat) (rs:List (List V)):Prop where
 len:bs.length=rs.length
 outer:w.rowIs g 63 rs.length (fun j=>Jad (bs.getD j 0) (rs.getD j []))
 rows:∀ (i:Nat) b r,bs[i]?=some b->rs[i]?=some r->Kv w b r []
 from_:B<=g/\∀ b∈bs,B<=b/\b≠g
 nodup:bs.Nodup
theorem Jcu.below {w w' B g bs rs}(h:Jcu w B g bs rs)(hb:Bq w w'):Jcu w' B g bs rs:=
 ⟨h.len,h.outer.of_block (hb.block g h.outer.lt),fun i b r hi hr=>(h.rows i b r hi hr).of_block (hb.block b (h.rows i b r hi hr).lt),h.from_,h.nodup⟩
theorem Jcu.rowsAt {w B g bs rs}(h:Jcu w B g bs rs):Zd w (some (Aq g)) (List.zipWith (fun b (r:List V)=>((some (Aq b):Option Addr),r.length)) bs rs) rs:=by
 refine⟨by simp[h.len],.inr ⟨g,0,rfl,h.outer.lt,fun i v hv=>?_⟩,fun i x r I hr=>?_⟩
 ·have hi:i<rs.length:=by
   rcases Oc1 i rs.length with y|y
   ·exact y
   ·rw[Ob4 zt]at hv;simp at hv
  have H:i<bs.length:=by rw[h.len];exact hi
  rw[Od0,h.outer.cell hi];rw[Ok5,Ok5,Oa3 hi,Oa3 H]at hv;simp[Je1]at hv;simp[Jad,hi,H,<-hv]
 have hi:i<rs.length:=by
  rcases Oc1 i rs.length with y|y
  ·exact y
  ·rw[Ob4 y]at hr;simp at hr
 have H:i<bs.length:=by rw[h.len];exact hi
 rw[Ok5]at I;simp[hi,H]at I hr;subst I hr;exact(h.rows i bs[i] rs[i] (by simp[H]) (by simp[hi])).vals
theorem Jip:(prog.info? 63).map (fun i=>(i.zero,i.size,i.bytes))=some (some Sz,1,24):=zK
theorem Jtn (n:Nat)(K:n<=1000)W:∃ C,(Instr.makeSlice 63 (Iq (n:Int)) (Iq (n:Int))).run prog W=.ok (Sq W.heap.size n n) (W.alloc (.cells C 65))/\Kv (W.alloc (.cells C 65)) W.heap.size (List.replicate n Jf) []:=by
 obtain⟨i,hi,I,H,y⟩:=info_parts Jow;have hr:=run_make (P:=prog) W 63 65 i _ zK hi I .i64 .i64 (n:Int) (n:Int) zo (Int.le_refl _) (by rw[y];omega) zo;rw[Int.toNat_natCast,H]at hr;exact⟨_,hr,_,(Oh1 W _).1,by rw[Od7];exact Jt9 n⟩
end
section
open Go.RowKit
def pg (D:DS)(i:Nat):Option (List UInt8):=D.pages.getD i none
theorem Jly (l:List (Option (List UInt8)))(i j:Nat)(x:Option (List UInt8))(hi:i<l.length):(l.set i x).getD j none=if j=i then x else l.getD j none:=by
 rw[Oa0,Oa0];by_cases h:j=i
 ·subst h;simp[hi]
 rw[if_neg h,Od1 (Oc5 h)]
theorem Kfe {D}{i:Nat}(h:¬ Jai D.pages (i:Int)=true):pg D i=none:=Je0 (by simpa using h)
theorem Kcf D i j:pg (Jae D i) j=if j=i then none else pg D j:=by
 unfold Jae;by_cases h:Jai D.pages (i:Int)=true
 ·rw[if_pos h];obtain⟨p,hp⟩:=Jf3 h;have hi:i<D.pages.length:=by
   rcases Oc1 i D.pages.length with y|y
   ·exact y
   rw[Ob4 y]at hp;simp at hp
  exact Jly _ _ _ _ hi
 rw[if_neg h];by_cases e:j=i
 ·subst e;rw[if_pos rfl];exact Kfe h
 rw[if_neg e]
theorem Jx3 l:∀ (D:DS) (j:Nat),pg (Jf4 D l) j=if j∈l then none else pg D j:=by
 induction l with
 |nil=>intro D j;simp[Jf4]
 |cons i l I=>
  intro D j;show pg (Jf4 (Jae D i) l) j=_;rw[I,Kcf];by_cases y:j∈l
  ·simp[y]
  by_cases H:j=i
  ·simp[H]
  simp[y,H]
theorem Jtm {D i p}(h:pg D i=some p):Jai D.pages (i:Int)=true:=by
 cases hu:Jai D.pages (i:Int)with
 |true=>rfl
 |false=>rw[show pg D i=none from Je0 hu]at h;simp at h
theorem Kdp {D i p}(h:pg D i=some p):Js (Jae D i).pages+1=Js D.pages:=by
 unfold Jae;rw[if_pos (Jtm h)];obtain⟨q,hq⟩:=Jf3 (Jtm h);exact Jii _ _ q hq
theorem Joz l:∀ (D:DS),l.Nodup->(∀ i∈l,∃ p,pg D i=some p)->Js (Jf4 D l).pages+l.length=Js D.pages:=by
 induction l with
 |nil=>intro D _ _;simp[Jf4]
 |cons i l K=>
  intro D H I;obtain⟨p,hp⟩:=I i zS;have M:=Kdp hp;have O:=K (Jae D i) (Og0.1 H).2 (fun j y=>by
   obtain⟨q,hq⟩:=I j (by simp[y]);refine⟨q,?_⟩;rw[Kcf,if_neg (fun e:j=i=>(Og0.1 H).1 (by rw[<-e];exact y))];exact hq)
  show Js (Jf4 (Jae D i) l).pages+(l.length+1)=_;omega
theorem Jvm D i:(Jae D i).quota=D.quota/\(Jae D i).fail=D.fail/\(Jae D i).writes=D.writes:=by unfold Jae;split<;>simp
theorem Jin l:∀ D:DS,(Jf4 D l).quota=D.quota/\(Jf4 D l).fail=D.fail/\(Jf4 D l).writes=D.writes:=by
 induction l with
 |nil=>intro D;exact⟨rfl,rfl,rfl⟩
 |cons i l I=>
  intro D;have y:=I (Jae D i);have H:=Jvm D i;exact⟨y.1.trans H.1,y.2.1.trans H.2.1,y.2.2.trans H.2.2⟩
theorem Kfi D:pg D (Kb D.pages)=none:=Je0 (Jsj _)
theorem Jij D p j:pg (Zn D p) j=if j=Kb D.pages then some (Jdm p)else pg D j:=by
 unfold pg Zn;simp only;have I:=Jeu D.pages;by_cases h:Kb D.pages<D.pages.length
 ·rw[if_pos h];exact Jly _ _ _ _ h
 rw[if_neg h,Jly _ _ _ _ zt];by_cases e:j=Kb D.pages
 ·rw[if_pos e,if_pos e]
 rw[if_neg e,if_neg e,Oa0,Oa0];rcases Oc1 j D.pages.length with y|y
 ·rw[Ob0 y]
 rw[Ob4 (l:=D.pages) y,Ob6 y];have:j-D.pages.length=0\/1<=j-D.pages.length:=zo;rcases this with H|H
 ·rw[H];rfl
 rw[Ob4 (by simpa using H)]
theorem Jm8 D p:Js (Zn D p).pages=Js D.pages+1:=by
 unfold Zn;simp only;rw[Jl5 _ _ _ (Jsk D.pages)];split
 ·rfl
 simp[Js]
structure Jjo (D E:DS) (ps:List (List UInt8)) (l:List Nat):Prop where
 len:l.length=ps.length
 nodup:l.Nodup
 free:∀ i∈l,pg D i=none
 other:∀ j,j∉l->pg E j=pg D j
 held:∀ (i:Nat) (hi:i<l.length),pg E l[i]=some (Jdm (ps[i]'(by rw[<-len];exact hi)))
 used:Js E.pages=Js D.pages+ps.length
 quota:E.quota=D.quota
 fail:E.fail=D.fail
theorem Jjo.nil D:Jjo D D [] []:=⟨rfl,List.nodup_nil,zS,fun _ _=>rfl,zS,rfl,rfl,rfl⟩
theorem Jjo.cons {D E p ps l}(h:Jjo (Zn D p) E ps l):Jjo D E (p::ps) (Kb D.pages::l):=by
 have I:Kb D.pages∉l:=fun y=>by
  have:=h.free _ y;rw[Jij,if_pos rfl]at this;simp at this
 refine⟨by simp[h.len],Og0.2 ⟨I,h.nodup⟩,fun i hi=>?_,fun j H=>?_,fun i hi=>?_,?_,h.quota,h.fail⟩
 ·rcases Of1.1 hi with rfl|y
  ·exact Kfi D
  have:=h.free i y;rw[Jij]at this;split at this
  ·simp at this
  exact this
 ·rw[h.other j (fun y=>H (Og1 _ y)),Jij,if_neg (fun e=>H (by simp[e]))]
 ·cases i with
  |zero=>
   simp only[List.getElem_cons_zero];rw[h.other _ I,Jij,if_pos rfl]
  |succ i=>simpa using h.held i (by simpa using hi)
 rw[h.used,Jm8];simp;omega
theorem Jc1:∀ (ps:List (List UInt8))(D:DS),((Uy D ps).2.2=none->Jjo D (Uy D ps).1 ps (Uy D ps).2.1) /\
  (∀ x,(Uy D ps).2.2=some x->∃ H rest,ps=H++rest/\rest≠[]/\∃ E,Jjo D E H (Uy D ps).2.1/\pg (Uy D ps).1=pg E/\Js (Uy D ps).1.pages=Js E.pages/\(Uy D ps).1.quota=E.quota/\(Uy D ps).1.fail=E.fail /\
   (x=true->E.quota<=((Js E.pages:Nat):Int))/\(x=false->(Uy D ps).1.writes=(Uy D ps).1.fail))
 |[],D=>⟨fun _=>Jjo.nil D,fun x h=>by simp[Uy]at h⟩
 |p::ps,D=>by
  have M:=Jc1 ps (Zn D p);unfold Uy;by_cases I:D.quota<=((Js D.pages:Nat):Int)
  ·rw[if_pos I];refine⟨fun h=>by simp at h,fun x y=>⟨[],p::ps,rfl,zS,D,Jjo.nil D,rfl,rfl,rfl,rfl,fun _=>I,fun U=>?_⟩⟩;simp at y;subst y;simp at U
  rw[if_neg I];by_cases K:wrap64 (D.writes+1)=D.fail
  ·rw[if_pos K];refine⟨fun h=>by simp at h,fun x y=>⟨[],p::ps,rfl,zS,D,Jjo.nil D,rfl,rfl,rfl,rfl,fun ht=>?_,fun _=>K⟩⟩;simp at y;subst y;simp at ht
  rw[if_neg K];refine⟨fun h=>(M.1 h).cons,fun x y=>?_⟩;obtain⟨H,rest,Y,hr,E,O,Z,bf,bh,bi,bj,bk⟩:=M.2 x y;exact⟨p::H,rest,by rw[Y];rfl,hr,E,O.cons,Z,bf,bh,bi,bj,bk⟩
theorem Jni D:∀ (l:List Nat) (ps:List (List UInt8)) (hl:l.length=ps.length),(∀ p∈ps,p.length<=56)->(∀ (i:Nat) (hi:i<l.length),pg D l[i]=some (Jdm (ps[i]'(by rw[<-hl];exact hi))))->Uf D l=.inl ps.flatten
 |[],[],_,_,_=>rfl
 |[],_::_,hl,_,_=>by simp at hl
 |_::_,[],hl,_,_=>by simp at hl
 |i::l,p::ps,hl,y,hh=>by
  have h0:=hh 0 zS;simp at h0;have hr:=Jni D l ps (by simpa using hl) (fun q hq=>y q (by simp[hq])) (fun j H=>hh (j+1) (by simpa using H));simp only[Uf];rw[show D.pages.getD i none=some (Jdm p) from h0];simp only[Option.bind_some,Jxe (y p zS),hr,List.flatten_cons]
theorem Jlo:∀ (n:Nat)(t:List UInt8),t.length<=n->(Jb5 n t).flatten=t
 |0,[],_=>rfl
 |0,_::_,h=>by simp at h
 |_+1,[],_=>rfl
 |n+1,b::t,h=>by
  simp only[Jb5,List.flatten_cons];rw[Jlo n _ (by simp at h |-;omega),Ok3]
theorem Js2 t:(Qu t).flatten=t:=Jlo _ _ (Oa2 _)
theorem Jq0:∀ (n:Nat)(t:List UInt8),∀ p∈Jb5 n t,p.length<=56
 |0,_,p,h=>by simp[Jb5]at h
 |_+1,[],p,h=>by simp[Jb5]at h
 |n+1,b::t,p,h=>by
  simp only[Jb5]at h;rcases Of1.1 h with rfl|y
  ·rw[Oc7];omega
  exact Jq0 n _ p y
theorem Jzu t:∀ p∈Qu t,p.length<=56:=Jq0 _ _
theorem Jy1 {t}(h:t≠[]):Qu t≠[]:=by rw[Jr2 t h];simp
theorem Jkd:∀ (n:Nat)(t:List UInt8),56*(Jb5 n t).length<=t.length+55
 |0,t=>by simp[Jb5]
 |_+1,[]=>by simp[Jb5]
 |n+1,b::t=>by
  simp only[Jb5,List.length_cons];have:=Jkd n ((b::t).drop 56);rw[Of7]at this;have h0:(b::t).length=t.length+1:=rfl;rw[h0]at this;rcases Oc1 (t.length+1) 56 with y|y
  ·have K:t.length+1-56=0:=zo;have I:(b::t).drop 56=[]:=Ol8 (by rw[h0];omega);rw[I];have H:(Jb5 n ([]:List UInt8)).length=0:=by cases n<;>rfl
   rw[H];omega
  omega
theorem Jio t:56*(Qu t).length<=t.length+55:=Jkd _ _
def Jan (D:DS)(l:List Nat)(t:List UInt8):Prop:=l.length=(Qu t).length/\∀ (i:Nat) (hi:i<l.length) (y:i<(Qu t).length),pg D l[i]=some (Jdm (Qu t)[i])
theorem Jan.read {D l t}(h:Jan D l t):Uf D l=.inl t:=by
 rw[Jni D l (Qu t) h.1 (Jzu t) (fun i hi=>h.2 i hi _),Js2]
theorem Jan.keep {D E l t}(h:Jan D l t)(H:∀ i∈l,pg E i=pg D i):Jan E l t:=
 ⟨h.1,fun i hi y=>(H _ (Ob3 hi)).trans (h.2 i hi y)⟩
theorem Jjo.seg {D E t l}(h:Jjo D E (Qu t) l):Jan E l t:=⟨h.len,fun i hi _=>h.held i hi⟩
structure Jke (D E:DS) (ts:List (List UInt8)) (ls:List (List Nat)):Prop where
 len:ls.length=ts.length
 nodup:ls.flatten.Nodup
 free:∀ i∈ls.flatten,pg D i=none
 other:∀ j,j∉ls.flatten->pg E j=pg D j
 segs:∀ (i:Nat) (hi:i<ls.length),Jan E ls[i] (ts[i]'(by rw[<-len];exact hi))
 used:Js E.pages=Js D.pages+ls.flatten.length
 quota:E.quota=D.quota
 fail:E.fail=D.fail
theorem Jke.nil D:Jke D D [] []:=⟨rfl,List.nodup_nil,zS,fun _ _=>rfl,zS,rfl,rfl,rfl⟩
theorem Jke.cons {D E F t ts l K}(h:Jjo D E (Qu t) l)(k:Jke E F ts K):Jke D F (t::ts) (l::K):=by
 have U:∀ i∈l,∃ p,pg E i=some p:=fun i hi=>by
  obtain⟨j,H,rfl⟩:=Od5 hi;exact⟨_,h.held j H⟩
 have I:∀ i∈l,i∉K.flatten:=fun i hi y=>by
  obtain⟨p,hp⟩:=U i hi;rw[k.free i y]at hp;simp at hp
 refine⟨by simp[k.len],?_,fun i hi=>?_,fun j H=>?_,fun i hi=>?_,?_,k.quota.trans h.quota,k.fail.trans h.fail⟩
 ·rw[List.flatten_cons,Op3];exact⟨h.nodup,k.nodup,fun a O b hb e=>I a O (e▸hb)⟩
 ·rw[List.flatten_cons]at hi;rcases Od2.1 hi with y|y
  ·exact h.free i y
  have M:=k.free i y;by_cases hl:i∈l
  ·exact absurd y (I i hl)
  rw[h.other i hl]at M;exact M
 ·rw[List.flatten_cons,Od2]at H;rw[k.other j (fun y=>H (.inr y)),h.other j (fun y=>H (.inl y))]
 ·cases i with
  |zero=>exact h.seg.keep fun i hi=>k.other i (I i hi)
  |succ i=>simpa using k.segs i (by simpa using hi)
 rw[k.used,h.used,List.flatten_cons,Oa8,h.len];omega
theorem Jpc y:∀ (D:DS) (j:Nat),pg (Jcg D y) j=if j∈y.flatten then none else pg D j:=by
 induction y with
 |nil=>intro D j;simp[Jcg]
 |cons l y K=>
  intro D j;show pg (Jcg (Jf4 D l) y) j=_;rw[K,Jx3,List.flatten_cons];by_cases H:j∈y.flatten
  ·simp[H]
  by_cases I:j∈l
  ·simp[I]
  simp[H,I]
theorem Jdn y:∀ D:DS,(Jcg D y).quota=D.quota/\(Jcg D y).fail=D.fail/\(Jcg D y).writes=D.writes:=by
 induction y with
 |nil=>intro D;exact⟨rfl,rfl,rfl⟩
 |cons l y K=>
  intro D;have H:=K (Jf4 D l);have I:=Jin l D;exact⟨H.1.trans I.1,H.2.1.trans I.2.1,H.2.2.trans I.2.2⟩
theorem Jhs:∀ (l:List (Option (List UInt8)))(n:Nat),l.length<=n->Js l=(List.range n).countP fun i=>(l.getD i none).isSome
 |[],n,_=>by simp[Js]
 |x::l,0,h=>by simp at h
 |x::l,n+1,h=>by
  have y:=Jhs l n (by simpa using h);rw[List.range_succ_eq_map,On3,List.countP_map];have e:((fun i=>((x::l).getD i none).isSome) ∘ Nat.succ)=fun i=>(l.getD i none).isSome:=by funext i;simp
  rw[e,<-y];simp[Js,List.countP_cons]
theorem Jz2 {D E}(h:∀ j,pg E j=pg D j):Js E.pages=Js D.pages:=by
 rw[Jhs E.pages (E.pages.length+D.pages.length) zo,Jhs D.pages (E.pages.length+D.pages.length) zo];congr 1
 funext i
 rw[show E.pages.getD i none=D.pages.getD i none from h i]
structure Kft (D E:DS):Prop where
 pages:∀ j,pg E j=pg D j
 used:Js E.pages=Js D.pages
 quota:E.quota=D.quota
 fail:E.fail=D.fail
theorem Kft.trans {D E F}(h:Kft D E)(k:Kft E F):Kft D F:=⟨fun j=>(k.pages j).trans (h.pages j),k.used.trans h.used,k.quota.trans h.quota,k.fail.trans h.fail⟩
theorem Jso {D ps x}(h:(Uy D ps).2.2=some x):Kft D (Jf4 (Uy D ps).1 (Uy D ps).2.1)/\ps≠[]/\(x=true->D.quota<=((Js D.pages+ps.length:Nat):Int)):=by
 obtain⟨bh,rest,M,hr,E,y,I,bi,O,U,Y,_⟩:=(Jc1 ps D).2 x h;have K:=Jin (Uy D ps).2.1 (Uy D ps).1;have hp:∀ i∈(Uy D ps).2.1,∃ p,pg (Uy D ps).1 i=some p:=fun i hi=>by
  obtain⟨j,Z,e⟩:=Od5 hi;have:=y.held j Z;rw[e]at this;rw[I];exact⟨_,this⟩
 have bj:=Joz _ _ y.nodup hp;refine⟨⟨fun j=>?_,?_,K.1.trans (O.trans y.quota),K.2.1.trans (U.trans y.fail)⟩,?_,fun bf=>?_⟩
 ·rw[Jx3,I];by_cases H:j∈(Uy D ps).2.1
  ·rw[if_pos H,y.free j H]
  rw[if_neg H,y.other j H]
 ·have:=y.used;have:=y.len;omega
 ·rw[M];intro e;exact hr (List.append_eq_nil_iff.1 e).2
 have:=Y bf;rw[y.quota,y.used]at this;have hl:bh.length<=ps.length:=by rw[M];simp
 omega
theorem Jjv:∀ (ts:List (List UInt8))(D:DS),(Jq D ts).2.2=none->Jke D (Jq D ts).1 ts (Jq D ts).2.1
 |[],D,_=>Jke.nil D
 |t::ts,D,h=>by
  have y:=(Jc1 (Qu t) D).1;rcases hr:Uy D (Qu t)with⟨E,l,r⟩;rw[hr]at y;unfold Jq at h |-;rw[hr]at h |-;cases r with
  |none=>exact Jke.cons (y rfl) (Jjv ts E h)
  |some x=>simp at h
theorem Jj4:∀ (ts:List (List UInt8))(D:DS)(x:Bool),(Jq D ts).2.2=some x->Kft D (Jcg (Jq D ts).1 (Jq D ts).2.1)/\ts≠[]/\(x=true->D.quota<=((Js D.pages+Jch ts:Nat):Int))
 |[],D,x,h=>by simp[Jq]at h
 |t::ts,D,x,h=>by
  have h0:=fun U=>@Jso D (Qu t) U;have Y:=(Jc1 (Qu t) D).1;rcases hr:Uy D (Qu t)with⟨E,l,r⟩;rw[hr]at h0 Y;unfold Jq at h |-;rw[hr]at h |-;cases r with
  |some U=>
   simp at h;subst h;have Z:=h0 U rfl;refine⟨Z.1,zS,fun O=>?_⟩;have:=Z.2.2 O;rw[Ja1];omega
  |none=>
   simp only at h |-;have y:=Y rfl;have bh:=Jj4 ts E x h;have M:=bh.1;simp only at y;have bk:∀ i∈l,∃ p,pg E i=some p:=fun i hi=>by
    obtain⟨j,H,rfl⟩:=Od5 hi;exact⟨_,y.held j H⟩
   have bz:=Joz l E y.nodup bk;have bx:=Jin l E
   -- let go in any order
   have bf:∀ j,pg (Jcg (Jq E ts).1 (l::(Jq E ts).2.1)) j=pg D j:=fun j=>by
    rw[Jpc,List.flatten_cons];have H:=M.pages j;rw[Jpc]at H;by_cases I:j∈l
    ·rw[if_pos (by simp[I]),y.free j I]
    by_cases K:j∈(Jq E ts).2.1.flatten
    ·rw[if_pos (by simp[K])];rw[if_pos K,y.other j I]at H;exact H
    rw[if_neg (by simp[I];simpa using K)];rw[if_neg K,y.other j I]at H;exact H
   refine⟨⟨bf,?_,?_,?_⟩,zS,fun O=>?_⟩
   ·exact Jz2 bf
   ·exact(Jdn _ _).1.trans ((Jdn _ _).1.symm.trans (M.quota.trans y.quota))
   ·exact(Jdn _ _).2.1.trans ((Jdn _ _).2.1.symm.trans (M.fail.trans y.fail))
   have bi:=bh.2.2 O;have br:=y.used;have bj:=y.quota;rw[Ja1];rw[bj]at bi;omega
theorem Jkf:∀ (ps:List (List UInt8))(D:DS),0<=D.writes->D.writes+ps.length<=4000000000000000000->(D.writes<=(Uy D ps).1.writes/\(Uy D ps).1.writes<=D.writes+ps.length)/\((Uy D ps).2.2=some false->(Uy D ps).1.writes=D.fail/\D.writes<(Uy D ps).1.writes)/\((Uy D ps).2.2≠some false->¬ (D.writes<D.fail/\D.fail<=(Uy D ps).1.writes))
 |[],D,_,_=>by simp[Uy]
 |p::ps,D,h0,hb=>by
  have y:wrap64 (D.writes+1)=D.writes+1:=by unfold wrap64;simp at hb;omega
  have I:=Jkf ps (Zn D p) (by simp only[Zn,y];omega) (by simp only[Zn,y];simp at hb;omega);simp only[Zn,y]at I;unfold Uy;by_cases K:D.quota<=((Js D.pages:Nat):Int)
  ·rw[if_pos K];simp;omega
  rw[if_neg K];by_cases H:wrap64 (D.writes+1)=D.fail
  ·rw[if_pos H];rw[y]at H;simp[Jvn,y];omega
  rw[if_neg H];rw[y]at H;simp only[Zn,y,List.length_cons]at I |-;refine⟨zo,fun h=>?_,fun h=>?_⟩
  ·have:=I.2.1 h;omega
  have:=I.2.2 h;omega
theorem Jd9:∀ (ts:List (List UInt8))(D:DS),0<=D.writes->D.writes+Jch ts<=4000000000000000000->(D.writes<=(Jq D ts).1.writes/\(Jq D ts).1.writes<=D.writes+Jch ts)/\((Jq D ts).2.2=some false->(Jq D ts).1.writes=D.fail/\D.writes<(Jq D ts).1.writes)/\((Jq D ts).2.2≠some false->¬ (D.writes<D.fail/\D.fail<=(Jq D ts).1.writes))
 |[],D,_,_=>by simp[Jq,Jch]
 |t::ts,D,h0,hb=>by
  rw[Ja1]at hb;have y:=Jkf (Qu t) D h0 zo;have hq:=(Jc1 (Qu t) D).1;rcases hr:Uy D (Qu t)with⟨E,l,r⟩;rw[hr]at y hq;unfold Jq;rw[hr,Ja1];cases r with
  |some U=>
   have M:=(Jin l E).2.2;simp only at y |-;rw[M];refine⟨zo,fun h=>y.2.1 h,fun h=>y.2.2 h⟩
  |none=>
   have K:=hq rfl;have I:=K.fail;simp only at y I |-;have H:=Jd9 ts E zo zo;rw[I]at H;have O:=y.2.2 zS;refine⟨zo,fun h=>?_,fun h=>?_⟩
   ·have:=H.2.1 h;omega
   have:=H.2.2 h;omega
end
open Go.RowKit Tryz
theorem Kgo xs(K:xs.length<=64)(H:∀ v∈xs,good v.k v.s):(Jds xs).length<=6000:=by
 have y:=Jk0 xs [];have I:=Jgg (Ym [] xs) fun v hv=>by
  rcases Jlj xs [] v hv with h|h
  ·simp at h
  exact H v h
 unfold Jds;rw[Oa8,List.length_cons,Qb,Jal,Oa6];simp at y;omega
theorem Kan t xs(H:xs.length<=64):(Zz t xs).length<=6000:=by
 unfold Zz;split
 ·rw[Qb,Jal];simp[Uv];omega
 cases xs with
 |nil=>simp[Jei]
 |cons v l=>
  unfold Jei;have y:=Jkx (v::l) (Jn v.n (v::l));have M:Uv (v::l) (Jn v.n (v::l))=dif v.n (Jn v.n (v::l))::Uv l (Jn v.n (v::l)):=rfl;rw[M]at y;have O:=Jk2 18446744073709551616 (Uv l (Jn v.n (v::l))) (dif v.n (Jn v.n (v::l))) (y _ Of4) fun n H=>y n (Og1 _ H);have I:=Jf7 _ O;rw[Oa8,Oa8,Jc4,Qb,Jal];have K:(Uv (v::l) (Jn v.n (v::l))).length=(v::l).length:=by simp[Uv]
  rw[K];have:bitLen (Yz (dif v.n (Jn v.n (v::l))) (Uv l (Jn v.n (v::l))))*(v::l).length<=64*64:=Ol5 I H;simp only[List.length_cons,List.length_nil]at *;omega
theorem Kfy t I xs(H:xs.length<=64)(y:∀ v∈xs,good v.k v.s):(Jdt t I xs).length<=6000:=by
 unfold Jdt;split
 ·have:=Jgg xs y;omega
 split
 ·exact Kgo xs H y
 split
 ·have:=Jng _ xs (Oa2 _) y;omega
 exact Kan t xs H
theorem zaU {p:Prop}(h:p:=by unfold Jav Kz;rw[Oa8,Oa8,Qb,Oa6];simp only[List.length_cons,List.length_nil];omega):p:=h
theorem Khf t y xs(h:Jdq t xs):(Jav t y xs).length<=6100/\Jav t y xs≠[]:=by
 have H:=Kfy t y (Jz xs) (Ob2 (Zy xs) h.1) (Jgz t xs h);have I:=h.1;refine⟨?_,by simp[Jav,Kz]⟩;exact zaU
theorem Jt7 {rows ts hs c}(h:(Uo rows ts hs c).2=0):(Uo rows ts hs c).1.length<=6100/\(Uo rows ts hs c).1≠[]:=by
 unfold Uo Jev at h |-;split at h
 ·rename_i H
  rw[if_pos H];split at h
  ·simp at h
  rename_i I
  rw[if_neg I];simp only[Og5]at H;refine Khf _ _ _ ?_;have y:=H.2;unfold Jfr at y;simp only[Og5,decide_eq_true_iff,List.all_eq_true]at y;exact⟨y.1,fun j K=>y.2 _ (Ob3 K)⟩
 simp at h
theorem Jrd rows ts hs:∀ (k:Nat) (l:List (List UInt8)),Jeo rows ts hs k=.inl l->∀ t∈l,t.length<=6100/\t≠[]
 |0,l,h=>by simp[Jeo]at h;subst h;simp
 |k+1,l,h=>by
  simp only[Jeo]at h;split at h
  ·simp at h
  rename_i I H
  split at h
  ·rename_i y
   simp at h;subst h;intro t ht;rcases Od2.1 ht with ht|ht
   ·exact Jrd rows ts hs k I H t ht
   simp at ht;subst ht;exact Jt7 y
  simp at h
theorem Jte rs ts hs xs T(h:Jfg rs ts hs xs=.inl T):T.length=xs.length*ts.length/\∀ t∈T,t.length<=6100/\t≠[]:=by
 have key:∀ (xs:List (Nat×Nat)) (y T:List (List UInt8)),xs.foldl (Jiu rs ts hs) (.inl y)=.inl T->(∀ t∈y,t.length<=6100/\t≠[])->T.length=y.length+xs.length*ts.length/\∀ t∈T,t.length<=6100/\t≠[]:=by
  intro xs;induction xs with
  |nil=>intro y T h h0;simp at h;subst h;exact⟨zS,h0⟩
  |cons x xs I=>
   intro y T h h0;rw[List.foldl_cons]at h;simp only[Jiu]at h;split at h
   ·rename_i l hl
    have:=I (y++l) T h (fun t ht=>by
     rcases Od2.1 ht with ht|ht
     ·exact h0 t ht
     exact Jrd _ ts hs _ l hl t ht)
    refine⟨?_,this.2⟩;rw[this.1,Oa8,Jjc _ ts hs _ l hl,List.length_cons,Of5];omega
   rename_i c K
   have hb:∀ H:List (Nat×Nat),H.foldl (Jiu rs ts hs) (.inr c)=.inr c:=by
    intro H;induction H with
    |nil=>rfl
    |cons M H I=>exact I
   rw[hb]at h;simp at h
 have:=key xs [] T h zS;simpa using this
theorem Joc:∀ (ts:List (List UInt8)),(∀ t∈ts,t.length<=6100)->Jch ts<=110*ts.length
 |[],_=>by simp[Jch]
 |t::ts,h=>by
  have y:=Jio t;have H:=h t zS;have I:=Joc ts fun t ht=>h t (by simp[ht]);rw[Ja1,List.length_cons];omega
theorem Jrj {w B sv ns}(h:Jo w B 3 sv (ns.map iv))(M:ns≠[]):∃ g c,sv=Sq g ns.length c/\B<=g/\g<w.heap.size/\Kc w (some (Aq g)) ns:=by
 obtain⟨a,c,y,I⟩:=h.cells;rw[Oa6]at y;subst y;rcases h.2 with⟨hv,h0⟩|⟨g,cap,O,hv,H,K,_⟩
 ·simp at h0;exact absurd h0 M
 simp at hv;obtain⟨rfl,rfl⟩:=hv;exact⟨g,c,rfl,H,Jd K,I⟩
theorem Jhe b o cap ns w(y:ns≠[])(hl:ns.length<=1000)(h:Kc w (some (Ar b o)) ns):
  Cq 45 #[Sr b o ns.length cap] w fun e w'=>Bq w w'/\∃ g c,e=.returned (Sq g ns.length c)/\w.heap.size<=g/\g<w'.heap.size/\Kc w' (some (Aq g)) ns:=by
 have K:Bq w (w.alloc (.cells #[] 3)):=(Oa5 _ w).alloc (Oa2 _) _;have O:Hid (∀ (j:Nat) (u:Value),(ns.map iv)[j]?=some u->(w.alloc (.cells #[] 3)).cell? ((⟨b,o,none⟩:Addr).add j)=some u):=fun j u H=>by
  rcases h.below K with h0|⟨bx,bB,M,_,bh⟩
  ·simp at h0;exact absurd h0 y
  simp at M;obtain⟨rfl,rfl⟩:=M;rw[Op7];exact bh j u H
 have Y:Hid (Jo (w.alloc (.cells #[] 3)) w.heap.size 3 (Sq w.heap.size 0 0) []):=
  ⟨rfl,.inr ⟨w.heap.size,0,#[],rfl,Oa2 _,heap_alloc_new _ _,Oa2 _,Ob7 _,rfl,rfl⟩⟩
 have U:=zh y;have bA:∀ W:World,(binOp .eql 22 (Sr b o ns.length cap) Sz).run prog W=.ok (.bool false) W:=fun W=>Lib.run_eql_slice_some_nil W _ _ _ underlying22;clear y h;go_enter func45,ntmps45
 go_wp2_with (at_builtin;go_must (refine Ul zR _ _ 22 3 _ 8 Zw zR zd zK zR w.heap.size _ [] zR (by exact Y.out) ⟨b,o,none⟩ cap (ns.map iv) (by simp[Act.eval]) (by exact O.out) (by intro u H;obtain⟨x,_,rfl⟩:=Of0.1 H;rfl) zt zS ?_);intro sv' br I Z bz)
 have bf:Bq w br:=Jy (sv:=Sq w.heap.size 0 0) K Z (fun g bi=>by simp[Value.ownBlock]at bi;omega);rw[List.nil_append]at I;obtain⟨g,c,rfl,bj,bk,hI⟩:=Jrj I U.out;go_ret
 exact⟨bf,g,c,rfl,bj,bk,hI⟩
