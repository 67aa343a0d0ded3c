/- A Join whole. -/
import Derived.Test.YtkdojacdolidfaaGreatDoorZb
set_option maxHeartbeats 1000000
set_option maxRecDepth 100000
namespace Go.Proofs.YtkdojacdolidfaaGreatDoor
section
open Go.RowKit Go.Shelf Go.Maps
attribute [local go_sem] Oc0
end
section
open Go.RowKit Go.Shelf Tryz
def Jd7 (tab:ByteArray->Cs⊕Nat)(ns:List PN)(j:Nat):Prop:=∀ (k:Nat) (m:PN),k<j->ns[k]?=some m->Jlw tab m (stN tab ns k)
def PSp (tab:ByteArray->Cs⊕Nat)(ns:List PN)(j:Nat)(y:List Dn):Prop:=y.map (Option.map fun x=>x.2.2)=stN tab ns j/\Jd7 tab ns j
def ERp (tab:ByteArray->Cs⊕Nat)(ns:List PN)(y I H pg:Addr)(j:Nat)(v:Value)(W:World):Prop:=
 Jd7 tab ns j/\∃ n,ns[j]?=some n /\
  ((n.op=0/\∃ p b:Nat,tab n.tn=.inr p/\v=.iface 125 (.pointer (some ⟨b,0,none⟩))/\Yu W v pg (some (-1)) (some (p:Int))) \/
   (n.op≠0/\∃ eb kk r:Nat,v=Qv eb/\r<nR (Jbs n (stN tab ns j))/\Kr n.es (Ji (Jbs n (stN tab ns j)) r)≠0/\Ja8 W eb (r:Int) kk (Jdb y I (Kr n.es (Ji (Jbs n (stN tab ns j)) r)))/\∀ i,i<r->∀ e∈n.es,∃ v,Kl e (Ji (Jbs n (stN tab ns j)) i)=.inl v) \/
   (n.op=4/\∃ (eb x k:Nat) (m:List V),v=.iface 150 (.pointer (some ⟨eb,0,none⟩))/\W.heap[eb]?=some (.cells #[.int .i64 (x:Nat),.int .i64 (k:Nat),.iface 434 (.pointer (some H))] 156 (0,0))/\(Kk9 n.gk (Jbs n (stN tab ns j)))[x]?=some m/\k<n.gk.length/\(tdV n.gk (Klk n.gk (Jbs n (stN tab ns j))) m k).2=false/\Klz n.gk (Kk9 n.gk (Jbs n (stN tab ns j))) (Klk n.gk (Jbs n (stN tab ns j))) x k))
theorem Ja8.below {w w' eb row y why}(h:Ja8 w eb row y why)(hb:Below w.heap.size w w'):Ja8 w' eb row y why:=(hb.block eb (Jd h)).trans h
theorem ERp.below {tab:ByteArray->Cs⊕Nat}{ns U Z Y pg j v W O}(h:ERp tab ns U Z Y pg j v W)(hb:Below W.heap.size W O):ERp tab ns U Z Y pg j v O:=by
 obtain⟨h0,n,M,⟨H,p,b,I,y,K⟩|⟨H,eb,kk,r,I,y,K,bf,bh⟩|⟨H,eb,x,k,m,I,y,K⟩⟩:=h
 ·exact⟨h0,n,M,.inl ⟨H,p,b,I,y,K.below hb⟩⟩
 ·exact⟨h0,n,M,.inr (.inl ⟨H,eb,kk,r,I,y,K,bf.below hb,bh⟩)⟩
 exact⟨h0,n,M,.inr (.inr ⟨H,eb,x,k,m,I,(hb.block eb (Jd y)).trans y,K⟩)⟩
theorem Jd7.more {tab:ByteArray->Cs⊕Nat}{ns j n}(h:Jd7 tab ns j)(I:ns[j]?=some n)(H:Jlw tab n (stN tab ns j)):Jd7 tab ns (j+1):=fun k m K y=>by
 by_cases e:k=j
 ·subst e;rw[I]at y;cases y
  exact H
 exact h k m zo y
theorem Kur {y:List Dn}{i:Nat}{H:Nat×List (Option Addr×Nat)×List (List V)}(h:some H∈y.set i none):some H∈y:=by
 rcases List.mem_or_eq_of_mem_set h with h|h
 ·exact h
 cases h
section
variable {tys:ByteArray->List Int} {scs:List (List Int)} {ns:List PN} {tab:ByteArray->Cs⊕Nat} {j:Nat} {n:PN} {nd:Nd} {X:World}
theorem Km1 (h:Jdk tys scs ns)(bM:∀ n∈ns,n.op≠0->Ktf n.op)(ht:∀ n∈ns,n.op=0->∀ cs,tab n.tn=.inl cs->Zt (tys n.tn) cs)(M:ns[j]?=some n)(hi:Jnm X n nd)(h0:n.op≠0)(bj:¬ (n.op=3\/n.op=7))(s:Nat)(z:Nat)(bu bl:Int)Z O sc bh bz bi pg(bD:∀ W I (y:List Dn),Below X.heap.size X W->Jd6 (X.heap.size+1) X.heap.size z bu bl Z (.pointer (some ⟨s,0,none⟩)) O sc I y W->Jd7 tab ns j->∀ g hs cs sch,y[n.l]?=some (some (g,hs,cs))->Jbs n (stN tab ns j)=cs->scs[n.l]?=some sch->Zt sch cs ->
   Calls prog (Jej nd.op) #[.pointer (some ⟨X.heap.size,0,none⟩),nd.val] W fun e K=>W.grownBy K I.ownBlock /\
    ((∃ (g:Nat) (hs:List (Option Addr×Nat)),e=.returned (.tuple #[dnV (some (g,hs,Jkq tab n (stN tab ns j))),.nilIface])/\Jd6 (X.heap.size+1) X.heap.size z bu bl Z (.pointer (some ⟨s,0,none⟩)) O sc I (y.set n.l none) K/\Jfk X.heap.size I (g,hs,Jkq tab n (stN tab ns j)) K/\Jlw tab n (stN tab ns j)/\Kxp W y (g,hs,Jkq tab n (stN tab ns j))) \/
     (∃ (ty b:Nat),e=.returned (.tuple #[.slice none 0 0,.iface ty (.pointer (some ⟨b,0,none⟩))])/\ERp tab ns bh bz bi pg j (.iface ty (.pointer (some ⟨b,0,none⟩))) K))):
  Ju1 X (X.heap.size+1) X.heap.size z bu bl Z (.pointer (some ⟨s,0,none⟩)) O sc (PSp tab ns) (ERp tab ns bh bz bi pg) nd j:=by
 obtain⟨sch,hs,ok⟩:=h.ok j n M;have bZ:=ok.le;have bY:j<ns.length:=(Ob9.1 M).1;refine⟨by rw[hi.op];omega,by rw[hi.op];omega,fun W I y hb bX hR hlen bB=>?_⟩;obtain⟨U,Y⟩:=bB;have bx:=Jqw h bM ht j zo Y;have bP:=Jma (tab:=tab) M;have bL:Jg7 n=[n.l]:=by unfold Jg7;rw[if_neg h0,if_neg bj]
 obtain⟨bO,bI⟩:=h.ahead j n M n.l (by rw[bL];exact Oc6.2 rfl);obtain⟨cs,H⟩:=bx.there n.l bO bI;obtain⟨bU,bS,bK⟩:=bx.good n.l cs H;have bG:Jbs n (stN tab ns j)=cs:=by unfold Jbs;rw[Oa0,H];rfl
 obtain⟨⟨g,bR,bf⟩,bk⟩:∃ x,y[n.l]?=some (some x):=by
  rw[<-U,Ob1]at H;cases e:y[n.l]? with
  |none=>rw[e]at H;cases H
  |some o=>
   cases o with
   |none=>rw[e]at H;cases H
   |some x=>exact⟨x,rfl⟩
 have bE:bf=cs:=by
  rw[<-U,Ob1,bk]at H;simpa using H
 subst bE;have bT:∀ x:Nat×List (Option Addr×Nat)×List (List V),(y.set n.l none++[some x]).map (Option.map fun x=>x.2.2)=(stN tab ns j).set n.l none++[some x.2.2]:=fun x=>by
  rw[Ob8,Op0,U];rfl
 have bN:(y.set n.l none).length=j:=by rw[Of8];exact hlen
 refine(bD W I y hb hR Y g bR bf bU bk bG bS bK).mono fun bV K hp=>?_;obtain⟨br,⟨bW,ca,rfl,bC,bA,bJ,bQ⟩|⟨ty,b,rfl,bH⟩⟩:=hp
 ·refine⟨br,.inl ⟨_,y.set n.l none,rfl,bC,bA,bN,⟨?_,Y.more M bJ⟩,bQ,fun cb hy=>Kur hy⟩⟩;rw[bT,bP];unfold Jb3;rw[if_neg h0,if_neg bj]
 exact⟨br,.inr ⟨ty,b,rfl,bH⟩⟩
end
attribute [local go_sem] Oc0
theorem Jib (X:World)(g:Nat)(y H I K M:Value)(k:Nat)(h:k≠g):(((((X.setCell ⟨g,0,none⟩ y).setCell ⟨g,1,none⟩ H).setCell ⟨g,2,none⟩ I).setCell ⟨g,3,none⟩ K).setCell ⟨g,4,none⟩ M).heap[k]?=X.heap[k]?:=Zh X g y H I K M k h
theorem Jl1 f n j(h:j<n):Uq ((List.range n).map f) j=f j:=by
 unfold Uq;rw[Oa0,Ob1,Oh6 h];rfl
theorem Jrn g cap hs cs n w(U:Qd w g hs cs)(br:∀ i,i<cs.length->(cs.getD i []).length=n)(bh:1<=cs.length)(bi:cs.length<=1000)(bB:n<=10000):
  Calls prog 26 #[.slice (some ⟨g,0,none⟩) cs.length cap,.nilIface] w fun e w'=>Below w.heap.size w w'/\∃ O bs,e=.returned (.tuple #[.slice (some ⟨O,0,none⟩) n n,Jb6 0])/\Jcu w' w.heap.size O bs (Qf n cs):=by
 have Y:Below w.heap.size w (w.alloc (.cells #[.int .i64 0,.int .i64 0,.int .i64 0,.int .i64 0,.int .i64 0] 51)):=(Oa5 _ _).alloc (Oa2 _) _;have bE:=run_neq_nil_nil (P:=prog);have I:=U.below Y;have bf:=by
  refine Jo4 g cap ((List.range cs.length).map fun j=>.slice (Yo hs j).1 (cs.getD j []).length (Yo hs j).2) cs n (w.alloc (.cells #[.int .i64 0,.int .i64 0,.int .i64 0,.int .i64 0,.int .i64 0] 51)) ?_ zS (fun i hi=>⟨(Yo hs i).1,(Yo hs i).2,?_,I.vals i hi⟩) br bh bi bB
  ·rw[Oa6,Op1];exact I.row.congr fun j bA=>(Jl1 (fun j=>.slice (Yo hs j).1 (cs.getD j []).length (Yo hs j).2) _ _ bA).symm
  exact Jl1 (fun j=>.slice (Yo hs j).1 (cs.getD j []).length (Yo hs j).2) _ _ hi
 clear U I;go_enter func26,ntmps26
 go_wp2_with fail
 refine bf.mono ?_;rintro e w1 ⟨rfl,⟨H,bz⟩,Z⟩;clear bf;go_wp2_with fail
 refine(Jjq w1).mono ?_;rintro e bH ⟨rfl,K⟩;have bj:=Jb Y Z;obtain⟨bC,bG⟩:=Kx (Jb Z K);have bk:=Jb bj K;have M:=bz.below K;rw[Oa7]at M;have bx:=M.from_;have low:∀ X:World,Jcu X (w.heap.size+1) (w.heap.size+1) H (Qf n cs)->Jcu X w.heap.size (w.heap.size+1) H (Qf n cs):=fun X y=>⟨y.len,y.outer,y.rows,⟨by have:=y.from_.1;omega,fun b hb=>⟨by have:=(y.from_.2 b hb).1;omega,(y.from_.2 b hb).2⟩⟩,y.nodup⟩;go_wp2;refine bodyPost_ret (v:=.tuple #[.slice (some ⟨w.heap.size+1,0,none⟩) n n,Jb6 0]) (by simp[results,results26,go_sem,bC]) rfl ⟨Um bk (Oa2 _) _ _ _ _ _,?_⟩;refine⟨w.heap.size+1,H,rfl,?_⟩;refine low _ (M.of_blocks ?_ (fun b hb=>?_))
 ·exact Jib _ _ _ _ _ _ _ _ zo
 have bD:=(bx.2 b hb).1;exact Jib _ _ _ _ _ _ _ _ zo
end
section
open Go.RowKit Go.Shelf
structure Qdh (tab:ByteArray->Cs⊕Nat) (ns:List PN) (X:World) (j:Nat) (n:PN) (z:Nat) (bl sd:Int) (dva ova gva mna:Addr):Prop where
 z1:1<=z
 z2:z<=1000
 bl:0<=bl/\bl<=4096
 sd:Jg sd
 er:Jdo X dva ova
 gv:X.cell? ⟨12,0,none⟩=some (.iface 434 (.pointer (some gva)))
 mn:X.cell? ⟨13,0,none⟩=some (.iface 434 (.pointer (some mna)))
 grp:n.op=4->Jd7 tab ns j->nR (Jbs n (stN tab ns j))<=20000
 jn:n.op=3->Jd7 tab ns j->(jnN n (stN tab ns j)).length<=2000
def Jac (tab:ByteArray->Cs⊕Nat)(ns:List PN):Cs:=((stN tab ns ns.length).getLastD none).getD []
def Ye (E:DS)(Ts:List TS)(n:ByteArray):Cs⊕Nat:=(Jcm E Ts n).getD (.inr 0)
def Jhd (Ts:List TS)(n:ByteArray):List Int:=(Ts[Ub Ts n]?.map TS.types).getD []
theorem Juy {tys I ns}(h:Jdk tys I ns)(O:∀ n∈ns,n.op≠0->Ktf n.op){tab:ByteArray->Cs⊕Nat}(ht:∀ n∈ns,n.op=0->∀ cs,tab n.tn=.inl cs->Zt (tys n.tn) cs)(M:Jd7 tab ns ns.length):∃ sch,I[ns.length-1]?=some sch/\Zt sch (Jac tab ns):=by
 have K:=h.one;have y:=Jqw h O ht ns.length (Oa2 _) M;have hl:=Jhh tab ns ns.length (Oa2 _);have U:flN ns ns.length (ns.length-1)=false:=by
  have:=h.unnamed (ns.length-1);rwa [Nat.sub_add_cancel K]at this
 obtain⟨cs,H⟩:=y.there (ns.length-1) zo U;obtain⟨sch,q1,q2⟩:=y.good _ cs H;refine⟨sch,q1,?_⟩;have:Jac tab ns=cs:=by
  unfold Jac;rw[Ok7,Om6,hl,H];rfl
 rw[this];exact q2
def Qci (tab:ByteArray->Cs⊕Nat)(ns:List PN)(y:World)(l:Value)(c nd row col pg:Int)(W:World):Prop:=
 c=0/\nd=-1/\row=-1/\col=-1/\pg=-1/\Jd7 tab ns ns.length/\∃ g bs,l=.slice (some ⟨g,0,none⟩) (nR (Jac tab ns)) (nR (Jac tab ns))/\Jcu W y.heap.size g bs (Qf (nR (Jac tab ns)) (Jac tab ns))
attribute [local go_sem] Oc0
def Kbt (o:Nat):Int:=if 2<=o/\o<=5 then 1 else if 8<=o/\o<=10 then 2 else 0
theorem Jtf {sch T j t u}(h:okV t u)(I:Jg u.n)(ht:1<=t/\t<=3):Jeg sch T j ⟨1,0,0,t,u⟩:=by
 have hs:u.s.size<=255:=by
  rcases Jgh h with rfl|⟨_,_,⟨_,H⟩|⟨_,_,H⟩|⟨H,K⟩⟩
  ·decide
  ·rw[H];decide
  ·rw[H];decide
  unfold okV okB okK at h;simp only[decide_eq_true_eq]at h;rcases h with⟨_,_,y⟩|⟨_,⟨_,y⟩|⟨_,_,y⟩|⟨_,_,y⟩⟩
  ·rw[Ja6 y];decide
  ·rw[Ja6 y];decide
  ·rw[Ja6 y];decide
  omega
 exact⟨⟨by show (0:Int)<=1;omega,by show (1:Int)<=11;omega,fun h=>absurd h (by show ¬ (1:Int)=0;omega),fun _=>⟨hs,I⟩,fun h=>absurd h (by show ¬ (2:Int)<=1;omega),fun h=>absurd h (by show ¬ (2:Int)<=1;omega)⟩,fun h=>absurd h (by show ¬ (2:Int)<=1;omega),fun _=>⟨ht,h⟩,fun h=>absurd h (by show ¬ (2:Int)<=1;omega),fun h=>absurd h (by show ¬ (6:Int)<=1;omega),fun h=>absurd h (by show ¬ (8:Int)<=1;omega),fun h=>absurd h (by show ¬ (1:Int)=10;omega)⟩
theorem Jh7 {sch T}{j c:Nat}(h:c<sch.length):Jeg sch T j ⟨0,0,0,(c:Int),Jf⟩:=
 ⟨⟨by show (0:Int)<=0;omega,by show (0:Int)<=11;omega,fun _=>⟨by show (0:Int)<=(c:Int);omega,by show (c:Int)<_;omega⟩,fun h=>absurd h (by show ¬ (0:Int)=1;omega),fun h=>absurd h (by show ¬ (2:Int)<=0;omega),fun h=>absurd h (by show ¬ (2:Int)<=0;omega)⟩,fun h=>absurd h (by show ¬ (2:Int)<=0;omega),fun h=>absurd h (by show ¬ (0:Int)=1;omega),fun h=>absurd h (by show ¬ (2:Int)<=0;omega),fun h=>absurd h (by show ¬ (6:Int)<=0;omega),fun h=>absurd h (by show ¬ (8:Int)<=0;omega),fun h=>absurd h (by show ¬ (0:Int)=10;omega)⟩
theorem Zs {sch T}{o l r:Nat}(K:2<=o)(M:o<=11)(hl:l<T.length)(hr:r<T.length)(H:Kbt o=0\/T.getD l 0=Kbt o)(hs:T.getD r 0=T.getD l 0):Jeg sch T T.length ⟨(o:Int),(l:Int),(r:Int),0,Jf⟩:=by
 have e:∀ k:Nat,((k:Int)).toNat=k:=fun k=>Int.toNat_natCast k;unfold Kbt at H;refine⟨⟨by show (0:Int)<=(o:Int);omega,by show (o:Int)<=11;omega,fun h=>absurd h (by show ¬ (o:Int)=0;omega),fun h=>absurd h (by show ¬ (o:Int)=1;omega),fun _=>⟨by show (0:Int)<=(l:Int);omega,by show (l:Int)<_;omega⟩,fun _ _=>⟨by show (0:Int)<=(r:Int);omega,by show (r:Int)<_;omega⟩⟩,fun _=>⟨by show (0:Int)<=(r:Int);omega,by show (r:Int)<_;omega⟩,fun h=>absurd h (by show ¬ (o:Int)=1;omega),fun _ h=>?_,fun h I=>?_,fun h I=>?_,fun h=>?_⟩
 ·have h:(o:Int)<=5:=h;rw[if_pos ⟨K,zo⟩]at H;have y:T.getD l 0=1:=zo;exact⟨by rw[e];exact y,by rw[e,hs];exact y⟩
 ·show T.getD ((l:Int)).toNat 0=T.getD ((r:Int)).toNat 0;rw[e,e,hs]
 ·have h:8<=(o:Int):=h;have I:(o:Int)<=9:=I;rw[if_neg zo,if_pos zo]at H;have y:T.getD l 0=2:=zo;exact⟨by rw[e];exact y,by rw[e,hs];exact y⟩
 have h:(o:Int)=10:=h;rw[if_neg zo,if_pos zo]at H;have y:T.getD l 0=2:=zo;show T.getD ((l:Int)).toNat 0=2;rw[e];exact y
attribute [local go_sem] Oc0
def ptC (p:Pt):List Value:=[.int .i64 p.op,.int .i64 p.l,.int .i64 p.r,.int .i64 p.c,.int .i64 p.v.k,.int .i64 p.v.n,.string p.v.s]
theorem Jeg.more {sch T y j p}(h:Jeg sch T j p)(I:∀ k,k<j->y.getD k 0=T.getD k 0):Jeg sch y j p:=by
 have hl:2<=p.op->y.getD p.l.toNat 0=T.getD p.l.toNat 0:=fun H=>I _ (by have:=h.ok.left H;omega);have hr:2<=p.op->y.getD p.r.toNat 0=T.getD p.r.toNat 0:=fun H=>I _ (by have:=h.r H;omega);exact⟨h.ok,h.r,h.con,fun a b=>by rw[hl a,hr a];exact h.num a b,fun a b=>by rw[hl zo,hr zo];exact h.same a b,fun a b=>by rw[hl zo,hr zo];exact h.tru a b,fun a=>by rw[hl zo];exact h.nt a⟩
theorem Jmm T(t:Int)(k:Nat)(y:k<T.length):(T++[t]).getD k 0=T.getD k 0:=by
 rw[Oa0,Oa0,Ob0 y]
theorem Uj.snoc {sch es p}(h:Uj sch es)(hp:Jeg sch (es.map (tyP sch)) es.length p):Uj sch (es++[p]):=fun j q hq=>by
 rw[Ob8,List.map_singleton];rw[Om7]at hq;split at hq
 ·rename_i y
  exact(h j q hq).more fun k K=>Jmm _ _ _ (by rw[Oa6];omega)
 rename_i y
 have H:j-es.length=0:=by
  have:=(Ob9.1 hq).1;simp at this;omega
 rw[H]at hq;cases hq
 have I:j=es.length:=zo;subst I;exact hp.more fun k K=>Jmm _ _ _ (by rw[Oa6];omega)
attribute [local go_sem] Oc0
end
open Go.RowKit Go.Shelf Tryz
attribute [local go_sem] Oc0
theorem Juj {lo w W g}(h:Below lo w W)(y:lo<=g)H I K M:Below lo w ((((W.setCell ⟨g,0,none⟩ H).setCell ⟨g,1,none⟩ I).setCell ⟨g,2,none⟩ K).setCell ⟨g,3,none⟩ M):=
 (((h.setCell (p:=⟨g,0,none⟩) y _).setCell (p:=⟨g,1,none⟩) y _).setCell (p:=⟨g,2,none⟩) y _).setCell (p:=⟨g,3,none⟩) y _
theorem Jg1 {W:World}{g:Nat}(y H I K:Value)(b:Nat)(o:Nat)(h:b≠g):((((W.setCell ⟨g,0,none⟩ y).setCell ⟨g,1,none⟩ H).setCell ⟨g,2,none⟩ I).setCell ⟨g,3,none⟩ K).cell? ⟨b,o,none⟩=W.cell? ⟨b,o,none⟩:=by
 simp only[World.cell?];rw[Oa4 _ _ _ _ (show b≠g from h),Oa4 _ _ _ _ (show b≠g from h),Oa4 _ _ _ _ (show b≠g from h),Oa4 _ _ _ _ (show b≠g from h)]
theorem Jqk a b c d w(bB:Jg a)(hb:Jg b)(Z:Jg c):Calls prog 10 #[.agg #[.int .i64 a,.int .i64 b,.int .i64 c,.int .i64 d]] w fun e w'=>(∃ z:Nat,∃ bu bl:Int,e=.returned (.agg #[.int .i64 z,.int .i64 bu,.int .i64 bl,.int .i64 d])/\1<=z/\z<=1000/\2<=bu/\bu<=1000/\0<=bl/\bl<=4096)/\Below w.heap.size w w':=by
 have M:Hid (∀ (c m:Int) (W:World),Jg c->0<m->m<=5000->Calls prog 8 #[.int .i64 c,.int .i64 m] W fun e w'=>(∃ r:Nat,e=.returned (.int .i64 r)/\(r:Int)<m)/\w'=W):=fun c m W Z bC bD=>by
  obtain⟨n,rfl⟩:∃ n:Nat,m=(n:Int):=⟨m.toNat,zo⟩;refine(Jfw c n W Z zo zo).mono ?_;rintro e w' ⟨⟨r,rfl,hr⟩,rfl⟩;exact⟨⟨r,rfl,zo⟩,rfl⟩
 go_enter func10,ntmps10
 go_upto_region 1 with fail
 have b0:((w.alloc (.cells #[.int .i64 a,.int .i64 b,.int .i64 c,.int .i64 d] 27)).alloc (.cells #[.int .i64 0,.int .i64 0,.int .i64 0,.int .i64 0] 27)).heap[w.heap.size]?=some (.cells #[.int .i64 a,.int .i64 b,.int .i64 c,.int .i64 d] 27 (0,0)):=(Oa9 _ _ _ zS).trans (heap_alloc_new w _);have b1:((w.alloc (.cells #[.int .i64 a,.int .i64 b,.int .i64 c,.int .i64 d] 27)).alloc (.cells #[.int .i64 0,.int .i64 0,.int .i64 0,.int .i64 0] 27)).heap[w.heap.size+1]?=some (.cells #[.int .i64 0,.int .i64 0,.int .i64 0,.int .i64 0] 27 (0,0)):=by
  have:=heap_alloc_new (w.alloc (.cells #[.int .i64 a,.int .i64 b,.int .i64 c,.int .i64 d] 27)) (.cells #[.int .i64 0,.int .i64 0,.int .i64 0,.int .i64 0] 27);rw[Oa7]at this;exact this
 have O:Below w.heap.size w ((w.alloc (.cells #[.int .i64 a,.int .i64 b,.int .i64 c,.int .i64 d] 27)).alloc (.cells #[.int .i64 0,.int .i64 0,.int .i64 0,.int .i64 0] 27)):=Jc (Jc (Oa5 _ _) _) _;generalize (w.alloc (.cells #[.int .i64 a,.int .i64 b,.int .i64 c,.int .i64 d] 27)).alloc (.cells #[.int .i64 0,.int .i64 0,.int .i64 0,.int .i64 0] 27)=H at b0 b1 O |-;have bf:=zc 0 b0;have s1:=zc 1 b0;have s2:=zc 2 b0;have s3:=zc 3 b0;have bi:=zc 0 b1;have bj:=zc 1 b1;have r2:=zc 2 b1;have bk:=zc 3 b1;have br:H.frozen? ⟨w.heap.size+1,0,none⟩=false:=by simp[World.frozen?,b1]
 have bx:H.frozen? ⟨w.heap.size+1,1,none⟩=false:=by simp[World.frozen?,b1]
 have bz:H.frozen? ⟨w.heap.size+1,2,none⟩=false:=by simp[World.frozen?,b1]
 have bA:H.frozen? ⟨w.heap.size+1,3,none⟩=false:=by simp[World.frozen?,b1]
 have bh:=zh O;have K:Hid (H.cell? ⟨w.heap.size,0,none⟩=some (.int .i64 a)/\H.cell? ⟨w.heap.size,1,none⟩=some (.int .i64 b)/\H.cell? ⟨w.heap.size,2,none⟩=some (.int .i64 c)/\H.cell? ⟨w.heap.size,3,none⟩=some (.int .i64 d)):=⟨bf,s1,s2,s3⟩;clear b0 b1 O;refine wp_region_held_drew (S:=fun X=>X.cell? ⟨w.heap.size,0,none⟩=some (.int .i64 a)/\X.cell? ⟨w.heap.size,1,none⟩=some (.int .i64 b)/\X.cell? ⟨w.heap.size,2,none⟩=some (.int .i64 c)/\X.cell? ⟨w.heap.size,3,none⟩=some (.int .i64 d)) zK ⟨Jh bf,Jh s1,Jh s2,Jh s3⟩ (fun y=>?_);refine tkj 0 rfl y ?_;refine tkj 1 rfl y ?_;refine tkj 4 rfl y ?_;refine tkj 5 rfl y ?_;refine tkj 8 rfl y ?_;refine tkj 9 rfl y ?_;refine tkj 11 rfl y ?_;refine tkj 12 rfl y ?_;refine tkn ?_;refine tkr 2 rfl fun I hK=>?_;go_simp;refine(M.out _ 1000 H.drew zM zo zo).mono ?_;rintro e Y ⟨⟨x,rfl,bG⟩,rfl⟩;go_simp;refine hK.out _ _ y (fun y=>?_);clear hK I;refine tkj 3 rfl y ?_;refine tkn ?_;rw[show IntKind.i64.wrap (1+(x:Int))=((x+1:Nat):Int) by rw[Od4];omega];refine tkr 6 rfl fun I hK=>?_;go_simp;refine(M.out _ 999 H.drew zM zo zo).mono ?_;rintro e Y ⟨⟨U,rfl,hy⟩,rfl⟩;go_simp;refine hK.out _ _ y (fun y=>?_);clear hK I;refine tkj 7 rfl y ?_;refine tkn ?_;rw[show IntKind.i64.wrap (2+(U:Int))=((U+2:Nat):Int) by rw[Od4];omega];refine tkr 10 rfl fun I hK=>?_;go_simp;refine(M.out _ 4097 H.drew zM zo zo).mono ?_;rintro e Y ⟨⟨u,rfl,bE⟩,rfl⟩;go_simp;refine hK.out _ _ y (fun y=>?_);clear hK I;refine tkj 13 rfl y ?_;refine tkn ?_;refine tkr 14 rfl fun I hK=>?_;go_simp;refine hK.out _ _ ?_ (fun y=>?_)
 ·exact⟨Jh ((Jg1 _ _ _ _ w.heap.size 0 zo).trans K.out.1),Jh ((Jg1 _ _ _ _ w.heap.size 1 zo).trans K.out.2.1),Jh ((Jg1 _ _ _ _ w.heap.size 2 zo).trans K.out.2.2.1),Jh ((Jg1 _ _ _ _ w.heap.size 3 zo).trans K.out.2.2.2)⟩
 clear hK I;refine wpAnyH_done zK ?_ _;go_wp2;exact bodyPost_ret (v:=.agg #[.int .i64 ((x+1:Nat):Int),.int .i64 ((U+2:Nat):Int),.int .i64 (u:Int),.int .i64 d]) (by simp[results,results10,go_sem,bi,bj,r2,bk]) rfl ⟨⟨x+1,_,_,rfl,zo,zo,zo,zo,zo,zo⟩,Jj (Juj bh.out zo _ _ _ _)⟩
attribute [local go_sem] Oc0
theorem Jor n w:Calls prog 12 #[.string n] w fun e w'=>e=.returned (Nd.val ⟨0,0,0,n,(none,0,0),(none,0,0),0⟩)/\Below w.heap.size w w':=by
 go_enter func12,ntmps12
 go_wp2;exact bodyPost_ret (v:=Nd.val ⟨0,0,0,n,(none,0,0),(none,0,0),0⟩) (by simp[results,results12,go_sem]) rfl ⟨rfl,Jc (Oa5 _ _) _⟩
theorem Kbg w:Calls prog 18 #[] w fun e w'=>e=.returned (.agg #[.int .i64 1000,.int .i64 1000,.int .i64 0,.int .i64 0])/\Below w.heap.size w w':=by
 go_enter func18,ntmps18
 go_wp2;exact bodyPost_ret (v:=.agg #[.int .i64 1000,.int .i64 1000,.int .i64 0,.int .i64 0]) (by simp[results,results18,go_sem]) rfl ⟨rfl,Jc (Oa5 _ _) _⟩
