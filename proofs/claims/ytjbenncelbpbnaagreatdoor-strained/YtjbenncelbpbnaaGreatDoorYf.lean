/- A Join whole. -/
import Derived.Test.YtjbenncelbpbnaaGreatDoorAz
set_option maxHeartbeats 1000000
set_option maxRecDepth 100000
namespace Go.Proofs.YtjbenncelbpbnaaGreatDoor
section
open Go.RowKit Go.Shelf Go.Maps
attribute [local go_sem] Oc0
end
section
open Go.RowKit Go.Shelf Tryz
def Jd7 (tab:ByteArray->Cs⊕Nat)(ns:List PN)(j:Nat):Prop:=∀ (k:Nat) (m:PN),k<j->ns[k]?=some m->Jlw tab m (stN tab ns k)
def PSp (tab:ByteArray->Cs⊕Nat)(ns:List PN)(j:Nat)(y:List Dn):Prop:=y.map (Option.map fun x=>x.2.2)=stN tab ns j/\Jd7 tab ns j
def ERp (tab:ByteArray->Cs⊕Nat)(ns:List PN)(y I H pg:Addr)(j:Nat)(v:Value)(W:World):Prop:=
 Jd7 tab ns j/\∃ n,ns[j]?=some n /\
  ((n.op=0/\∃ p b:Nat,tab n.tn=.inr p/\v=.iface 123 (.pointer (some ⟨b,0,none⟩))/\Yu W v pg (some (-1)) (some (p:Int))) \/
   (n.op≠0/\∃ eb kk r:Nat,v=Qv eb/\r<nR (Jbs n (stN tab ns j))/\Kr n.es (Ji (Jbs n (stN tab ns j)) r)≠0/\Ja8 W eb (r:Int) kk (Jdb y I (Kr n.es (Ji (Jbs n (stN tab ns j)) r)))/\∀ i,i<r->∀ e∈n.es,∃ v,Kl e (Ji (Jbs n (stN tab ns j)) i)=.inl v) \/
   (n.op=4/\∃ (eb x k:Nat) (m:List V),v=.iface 148 (.pointer (some ⟨eb,0,none⟩))/\W.heap[eb]?=some (.cells #[.int .i64 (x:Nat),.int .i64 (k:Nat),.iface 432 (.pointer (some H))] 154 (0,0))/\(Kk9 n.gk (Jbs n (stN tab ns j)))[x]?=some m/\k<n.gk.length/\(tdV n.gk (Klk n.gk (Jbs n (stN tab ns j))) m k).2=false/\Klz n.gk (Kk9 n.gk (Jbs n (stN tab ns j))) (Klk n.gk (Jbs n (stN tab ns j))) x k))
theorem Ja8.below {w w' eb row y why}(h:Ja8 w eb row y why)(hb:Below w.heap.size w w'):Ja8 w' eb row y why:=(hb.block eb (Jd h)).trans h
theorem ERp.below {tab:ByteArray->Cs⊕Nat}{ns U Z Y pg j v W O}(h:ERp tab ns U Z Y pg j v W)(hb:Below W.heap.size W O):ERp tab ns U Z Y pg j v O:=by
 obtain⟨h0,n,M,⟨H,p,b,I,y,K⟩|⟨H,eb,kk,r,I,y,K,bf,bh⟩|⟨H,eb,x,k,m,I,y,K⟩⟩:=h
 ·exact⟨h0,n,M,.inl ⟨H,p,b,I,y,K.below hb⟩⟩
 ·exact⟨h0,n,M,.inr (.inl ⟨H,eb,kk,r,I,y,K,bf.below hb,bh⟩)⟩
 exact⟨h0,n,M,.inr (.inr ⟨H,eb,x,k,m,I,(hb.block eb (Jd y)).trans y,K⟩)⟩
theorem Jd7.more {tab:ByteArray->Cs⊕Nat}{ns j n}(h:Jd7 tab ns j)(H:ns[j]?=some n)(hf:Jlw tab n (stN tab ns j)):Jd7 tab ns (j+1):=fun k m hk y=>by
 by_cases e:k=j
 ·subst e;rw[H]at y;cases y
  exact hf
 exact h k m zo y
theorem Kub {y:List Dn}{i:Nat}{H:Nat×List (Option Addr×Nat)×List (List V)}(h:some H∈y.set i none):some H∈y:=by
 rcases List.mem_or_eq_of_mem_set h with h|h
 ·exact h
 cases h
section
variable {tys:ByteArray->List Int} {scs:List (List Int)} {ns:List PN} {tab:ByteArray->Cs⊕Nat} {j:Nat} {n:PN} {nd:Nd} {X:World}
theorem Km1 (h:Jdk tys scs ns)(bM:Ktc tys scs ns tab)(ht:∀ n∈ns,n.op=0->∀ cs,tab n.tn=.inl cs->Zt (tys n.tn) cs)(M:ns[j]?=some n)(hi:Jnm X n nd)(h0:n.op≠0)(bj:¬ (n.op=3\/n.op=7))(s:Nat)(z:Nat)(bu bl:Int)Z O sc bh bz bi pg(bD:∀ W I (y:List Dn),Below X.heap.size X W->Jd6 (X.heap.size+1) X.heap.size z bu bl Z (.pointer (some ⟨s,0,none⟩)) O sc I y W->Jd7 tab ns j->∀ g hs cs sch,y[n.l]?=some (some (g,hs,cs))->Jbs n (stN tab ns j)=cs->scs[n.l]?=some sch->Zt sch cs ->
   Calls prog (Jej nd.op) #[.pointer (some ⟨X.heap.size,0,none⟩),nd.val] W fun e K=>W.grownBy K I.ownBlock /\
    ((∃ (g:Nat) (hs:List (Option Addr×Nat)),e=.returned (.tuple #[dnV (some (g,hs,Jkq tab n (stN tab ns j))),.nilIface])/\Jd6 (X.heap.size+1) X.heap.size z bu bl Z (.pointer (some ⟨s,0,none⟩)) O sc I (y.set n.l none) K/\Jfk X.heap.size I (g,hs,Jkq tab n (stN tab ns j)) K/\Jlw tab n (stN tab ns j)/\Kw8 W y (g,hs,Jkq tab n (stN tab ns j))) \/
     (∃ (ty b:Nat),e=.returned (.tuple #[.slice none 0 0,.iface ty (.pointer (some ⟨b,0,none⟩))])/\ERp tab ns bh bz bi pg j (.iface ty (.pointer (some ⟨b,0,none⟩))) K))):
  Ju1 X (X.heap.size+1) X.heap.size z bu bl Z (.pointer (some ⟨s,0,none⟩)) O sc (PSp tab ns) (ERp tab ns bh bz bi pg) nd j:=by
 obtain⟨sch,hs,ok⟩:=h.ok j n M;have bZ:=ok.le;have bY:j<ns.length:=(Ob9.1 M).1;refine⟨by rw[hi.op];omega,by rw[hi.op];omega,fun W I y hb bX hR hlen bB=>?_⟩;obtain⟨U,Y⟩:=bB;have bx:=Jqw h bM ht j zo Y;have bP:=Jma (tab:=tab) M;have bL:Jg7 n=[n.l]:=by unfold Jg7;rw[if_neg h0,if_neg bj]
 obtain⟨bO,bI⟩:=h.ahead j n M n.l (by rw[bL];exact Oc6.2 rfl);obtain⟨cs,H⟩:=bx.there n.l bO bI;obtain⟨bU,bS,bK⟩:=bx.good n.l cs H;have bG:Jbs n (stN tab ns j)=cs:=by unfold Jbs;rw[Oa0,H];rfl
 obtain⟨⟨g,bR,bf⟩,bk⟩:∃ x,y[n.l]?=some (some x):=by
  rw[<-U,Ob1]at H;cases e:y[n.l]? with
  |none=>rw[e]at H;cases H
  |some o=>
   cases o with
   |none=>rw[e]at H;cases H
   |some x=>exact⟨x,rfl⟩
 have bE:bf=cs:=by
  rw[<-U,Ob1,bk]at H;simpa using H
 subst bE;have bT:∀ x:Nat×List (Option Addr×Nat)×List (List V),(y.set n.l none++[some x]).map (Option.map fun x=>x.2.2)=(stN tab ns j).set n.l none++[some x.2.2]:=fun x=>by
  rw[Ob8,Op0,U];rfl
 have bN:(y.set n.l none).length=j:=by rw[Of8];exact hlen
 refine(bD W I y hb hR Y g bR bf bU bk bG bS bK).mono fun bV K hp=>?_;obtain⟨br,⟨bW,ca,rfl,bC,bA,bJ,bQ⟩|⟨ty,b,rfl,bH⟩⟩:=hp
 ·refine⟨br,.inl ⟨_,y.set n.l none,rfl,bC,bA,bN,⟨?_,Y.more M bJ⟩,bQ,fun cb hy=>Kub hy⟩⟩;rw[bT,bP];unfold Jb3;rw[if_neg h0,if_neg bj]
 exact⟨br,.inr ⟨ty,b,rfl,bH⟩⟩
end
attribute [local go_sem] Oc0
theorem Jib (X:World)(g:Nat)(y H I K M:Value)(k:Nat)(h:k≠g):(((((X.setCell ⟨g,0,none⟩ y).setCell ⟨g,1,none⟩ H).setCell ⟨g,2,none⟩ I).setCell ⟨g,3,none⟩ K).setCell ⟨g,4,none⟩ M).heap[k]?=X.heap[k]?:=Zh X g y H I K M k h
theorem Jl1 f n j(h:j<n):Uq ((List.range n).map f) j=f j:=by
 unfold Uq;rw[Oa0,Ob1,Oh6 h];rfl
theorem Jrn g cap hs cs n w(U:Qd w g hs cs)(br:∀ i,i<cs.length->(cs.getD i []).length=n)(bh:1<=cs.length)(bi:cs.length<=1000)(hn:n<=10000):
  Calls prog 25 #[.slice (some ⟨g,0,none⟩) cs.length cap,.nilIface] w fun e w'=>Below w.heap.size w w'/\∃ O bs,e=.returned (.tuple #[.slice (some ⟨O,0,none⟩) n n,Jb6 0])/\Jcu w' w.heap.size O bs (Qf n cs):=by
 have Y:Below w.heap.size w (w.alloc (.cells #[.int .i64 0,.int .i64 0,.int .i64 0,.int .i64 0,.int .i64 0] 51)):=(Oa5 _ _).alloc (Oa2 _) _;have bD:=run_neq_nil_nil (P:=prog);have I:=U.below Y;have bf:=by
  refine Jo4 g cap ((List.range cs.length).map fun j=>.slice (Yo hs j).1 (cs.getD j []).length (Yo hs j).2) cs n (w.alloc (.cells #[.int .i64 0,.int .i64 0,.int .i64 0,.int .i64 0,.int .i64 0] 51)) ?_ zS (fun i hi=>⟨(Yo hs i).1,(Yo hs i).2,?_,I.vals i hi⟩) br bh bi hn
  ·rw[Oa6,Op1];exact I.row.congr fun j bA=>(Jl1 (fun j=>.slice (Yo hs j).1 (cs.getD j []).length (Yo hs j).2) _ _ bA).symm
  exact Jl1 (fun j=>.slice (Yo hs j).1 (cs.getD j []).length (Yo hs j).2) _ _ hi
 clear U I;go_enter func25,ntmps25
 go_wp2_with fail
 refine bf.mono ?_;rintro e w1 ⟨rfl,⟨H,bz⟩,Z⟩;clear bf;go_wp2_with fail
 refine(Jjq w1).mono ?_;rintro e bG ⟨rfl,K⟩;have bj:=Jb Y Z;obtain⟨bB,bE⟩:=Kx (Jb Z K);have bk:=Jb bj K;have M:=bz.below K;rw[Oa7]at M;have bx:=M.from_;have low:∀ X:World,Jcu X (w.heap.size+1) (w.heap.size+1) H (Qf n cs)->Jcu X w.heap.size (w.heap.size+1) H (Qf n cs):=fun X y=>⟨y.len,y.outer,y.rows,⟨by have:=y.from_.1;omega,fun b hb=>⟨by have:=(y.from_.2 b hb).1;omega,(y.from_.2 b hb).2⟩⟩,y.nodup⟩;go_wp2;refine bodyPost_ret (v:=.tuple #[.slice (some ⟨w.heap.size+1,0,none⟩) n n,Jb6 0]) (by simp[results,results25,go_sem,bB]) rfl ⟨Um bk (Oa2 _) _ _ _ _ _,?_⟩;refine⟨w.heap.size+1,H,rfl,?_⟩;refine low _ (M.of_blocks ?_ (fun b hb=>?_))
 ·exact Jib _ _ _ _ _ _ _ _ zo
 have bC:=(bx.2 b hb).1;exact Jib _ _ _ _ _ _ _ _ zo
end
section
open Go.RowKit Go.Shelf
theorem Jny.plan {w v a r c p g gc eb j}(h:Jny w v a none r c p g gc)(hb:w.heap[eb]?=some (.cells #[.int .i64 j,v] 107 (0,0))):Jny w (.iface 105 (.pointer (some ⟨eb,0,none⟩))) a (some j) r c p g gc:=by
 have c0:=zc 0 hb;have c1:=zc 1 hb;obtain⟨⟨U,y⟩,⟨bk,bj⟩,⟨Y,H⟩,⟨Z,I⟩,⟨bf,K⟩,⟨bh,M⟩,⟨bi,O⟩⟩:=h;exact⟨⟨U+1,.wrap _ _ _ _ _ _ _ Jdg c1 y⟩,⟨0,.hit _ _ c0⟩,⟨Y+1,.miss _ _ _ _ _ _ _ Jdg Jro c1 H⟩,⟨Z+1,.miss _ _ _ _ _ _ _ Jdg Jlp c1 I⟩,⟨bf+1,.miss _ _ _ _ _ _ _ Jdg Jv1 c1 K⟩,⟨bh+1,.miss _ _ _ _ _ _ _ Jdg Jlp c1 M⟩,⟨bi+1,.miss _ _ _ _ _ _ _ Jdg Jsi c1 O⟩⟩
structure Qcw (tab:ByteArray->Cs⊕Nat) (ns:List PN) (X:World) (j:Nat) (n:PN) (z:Nat) (bl sd:Int) (dva ova gva mna:Addr):Prop where
 z1:1<=z
 z2:z<=1000
 bl:0<=bl/\bl<=4096
 sd:Jg sd
 er:Jdo X dva ova
 gv:X.cell? ⟨12,0,none⟩=some (.iface 432 (.pointer (some gva)))
 mn:X.cell? ⟨13,0,none⟩=some (.iface 432 (.pointer (some mna)))
 grp:n.op=4->Jd7 tab ns j->nR (Jbs n (stN tab ns j))<=20000
 jn:n.op=3->Jd7 tab ns j->(jnN n (stN tab ns j)).length<=2000
def Jac (tab:ByteArray->Cs⊕Nat)(ns:List PN):Cs:=((stN tab ns ns.length).getLastD none).getD []
def Ye (E:DS)(Ts:List TS)(n:ByteArray):Cs⊕Nat:=(Jcm E Ts n).getD (.inr 0)
def Jhd (Ts:List TS)(n:ByteArray):List Int:=(Ts[Ub Ts n]?.map TS.types).getD []
theorem Juy {tys y ns}(h:Jdk tys y ns){tab:ByteArray->Cs⊕Nat}(M:Ktc tys y ns tab)(ht:∀ n∈ns,n.op=0->∀ cs,tab n.tn=.inl cs->Zt (tys n.tn) cs)(hf:Jd7 tab ns ns.length):∃ sch,y[ns.length-1]?=some sch/\Zt sch (Jac tab ns):=by
 have K:=h.one;have H:=Jqw h M ht ns.length (Oa2 _) hf;have hl:=Jhh tab ns ns.length (Oa2 _);have O:flN ns ns.length (ns.length-1)=false:=by
  have:=h.unnamed (ns.length-1);rwa [Nat.sub_add_cancel K]at this
 obtain⟨cs,I⟩:=H.there (ns.length-1) zo O;obtain⟨sch,U,Y⟩:=H.good _ cs I;refine⟨sch,U,?_⟩;have:Jac tab ns=cs:=by
  unfold Jac;rw[List.getLastD_eq_getLast?,List.getLast?_eq_getElem?,hl,I];rfl
 rw[this];exact Y
def Qbl (tab:ByteArray->Cs⊕Nat)(ns:List PN)(y:World)(l:Value)(c nd row col pg:Int)(W:World):Prop:=
 c=0/\nd=-1/\row=-1/\col=-1/\pg=-1/\Jd7 tab ns ns.length/\∃ g bs,l=.slice (some ⟨g,0,none⟩) (nR (Jac tab ns)) (nR (Jac tab ns))/\Jcu W y.heap.size g bs (Qf (nR (Jac tab ns)) (Jac tab ns))
attribute [local go_sem] Oc0
attribute [local go_sem] Oc0
def ptC (p:Pt):List Value:=[.int .i64 p.op,.int .i64 p.l,.int .i64 p.r,.int .i64 p.c,.int .i64 p.v.k,.int .i64 p.v.n,.string p.v.s]
attribute [local go_sem] Oc0
end
section
open Go.RowKit Go.Shelf Tryz
attribute [local go_sem] Oc0
theorem Juj {lo w W g}(h:Below lo w W)(y:lo<=g)H I K M:Below lo w ((((W.setCell ⟨g,0,none⟩ H).setCell ⟨g,1,none⟩ I).setCell ⟨g,2,none⟩ K).setCell ⟨g,3,none⟩ M):=
 (((h.setCell (p:=⟨g,0,none⟩) y _).setCell (p:=⟨g,1,none⟩) y _).setCell (p:=⟨g,2,none⟩) y _).setCell (p:=⟨g,3,none⟩) y _
theorem Jg1 {W:World}{g:Nat}(y H I K:Value)(b:Nat)(o:Nat)(h:b≠g):((((W.setCell ⟨g,0,none⟩ y).setCell ⟨g,1,none⟩ H).setCell ⟨g,2,none⟩ I).setCell ⟨g,3,none⟩ K).cell? ⟨b,o,none⟩=W.cell? ⟨b,o,none⟩:=by
 simp only[World.cell?];rw[Oa4 _ _ _ _ (show b≠g from h),Oa4 _ _ _ _ (show b≠g from h),Oa4 _ _ _ _ (show b≠g from h),Oa4 _ _ _ _ (show b≠g from h)]
theorem Jqk a b c d w(bC:Jg a)(hb:Jg b)(Z:Jg c):Calls prog 11 #[.agg #[.int .i64 a,.int .i64 b,.int .i64 c,.int .i64 d]] w fun e w'=>(∃ z:Nat,∃ bu bl:Int,e=.returned (.agg #[.int .i64 z,.int .i64 bu,.int .i64 bl,.int .i64 d])/\1<=z/\z<=1000/\2<=bu/\bu<=1000/\0<=bl/\bl<=4096)/\Below w.heap.size w w':=by
 have M:Hid (∀ (c m:Int) (W:World),Jg c->0<m->m<=5000->Calls prog 9 #[.int .i64 c,.int .i64 m] W fun e w'=>(∃ r:Nat,e=.returned (.int .i64 r)/\(r:Int)<m)/\w'=W):=fun c m W Z bD bE=>by
  obtain⟨n,rfl⟩:∃ n:Nat,m=(n:Int):=⟨m.toNat,zo⟩;refine(Jfw c n W Z zo zo).mono ?_;rintro e w' ⟨⟨r,rfl,hr⟩,rfl⟩;exact⟨⟨r,rfl,zo⟩,rfl⟩
 go_enter func11,ntmps11
 go_upto_region 1 with fail
 have b0:((w.alloc (.cells #[.int .i64 a,.int .i64 b,.int .i64 c,.int .i64 d] 27)).alloc (.cells #[.int .i64 0,.int .i64 0,.int .i64 0,.int .i64 0] 27)).heap[w.heap.size]?=some (.cells #[.int .i64 a,.int .i64 b,.int .i64 c,.int .i64 d] 27 (0,0)):=(Oa9 _ _ _ zS).trans (heap_alloc_new w _);have b1:((w.alloc (.cells #[.int .i64 a,.int .i64 b,.int .i64 c,.int .i64 d] 27)).alloc (.cells #[.int .i64 0,.int .i64 0,.int .i64 0,.int .i64 0] 27)).heap[w.heap.size+1]?=some (.cells #[.int .i64 0,.int .i64 0,.int .i64 0,.int .i64 0] 27 (0,0)):=by
  have:=heap_alloc_new (w.alloc (.cells #[.int .i64 a,.int .i64 b,.int .i64 c,.int .i64 d] 27)) (.cells #[.int .i64 0,.int .i64 0,.int .i64 0,.int .i64 0] 27);rw[Oa7]at this;exact this
 have O:Below w.heap.size w ((w.alloc (.cells #[.int .i64 a,.int .i64 b,.int .i64 c,.int .i64 d] 27)).alloc (.cells #[.int .i64 0,.int .i64 0,.int .i64 0,.int .i64 0] 27)):=Jc (Jc (Oa5 _ _) _) _;generalize (w.alloc (.cells #[.int .i64 a,.int .i64 b,.int .i64 c,.int .i64 d] 27)).alloc (.cells #[.int .i64 0,.int .i64 0,.int .i64 0,.int .i64 0] 27)=H at b0 b1 O |-;have bf:=zc 0 b0;have s1:=zc 1 b0;have s2:=zc 2 b0;have s3:=zc 3 b0;have bi:=zc 0 b1;have bj:=zc 1 b1;have bk:=zc 2 b1;have br:=zc 3 b1;have bx:H.frozen? ⟨w.heap.size+1,0,none⟩=false:=by simp[World.frozen?,b1]
 have bz:H.frozen? ⟨w.heap.size+1,1,none⟩=false:=by simp[World.frozen?,b1]
 have bA:H.frozen? ⟨w.heap.size+1,2,none⟩=false:=by simp[World.frozen?,b1]
 have bB:H.frozen? ⟨w.heap.size+1,3,none⟩=false:=by simp[World.frozen?,b1]
 have bh:=zh O;have K:Hid (H.cell? ⟨w.heap.size,0,none⟩=some (.int .i64 a)/\H.cell? ⟨w.heap.size,1,none⟩=some (.int .i64 b)/\H.cell? ⟨w.heap.size,2,none⟩=some (.int .i64 c)/\H.cell? ⟨w.heap.size,3,none⟩=some (.int .i64 d)):=⟨bf,s1,s2,s3⟩;clear b0 b1 O;refine wp_region_held_drew (S:=fun X=>X.cell? ⟨w.heap.size,0,none⟩=some (.int .i64 a)/\X.cell? ⟨w.heap.size,1,none⟩=some (.int .i64 b)/\X.cell? ⟨w.heap.size,2,none⟩=some (.int .i64 c)/\X.cell? ⟨w.heap.size,3,none⟩=some (.int .i64 d)) zK ⟨Jh bf,Jh s1,Jh s2,Jh s3⟩ (fun y=>?_);refine tkj 0 rfl y ?_;refine tkj 1 rfl y ?_;refine tkj 4 rfl y ?_;refine tkj 5 rfl y ?_;refine tkj 8 rfl y ?_;refine tkj 9 rfl y ?_;refine tkj 11 rfl y ?_;refine tkj 12 rfl y ?_;refine tkn ?_;refine tkr 2 rfl fun I hK=>?_;go_simp;refine(M.out _ 1000 H.drew zM zo zo).mono ?_;rintro e Y ⟨⟨x,rfl,bH⟩,rfl⟩;go_simp;refine hK.out _ _ y (fun y=>?_);clear hK I;refine tkj 3 rfl y ?_;refine tkn ?_;rw[show IntKind.i64.wrap (1+(x:Int))=((x+1:Nat):Int) by rw[Od4];omega];refine tkr 6 rfl fun I hK=>?_;go_simp;refine(M.out _ 999 H.drew zM zo zo).mono ?_;rintro e Y ⟨⟨U,rfl,hy⟩,rfl⟩;go_simp;refine hK.out _ _ y (fun y=>?_);clear hK I;refine tkj 7 rfl y ?_;refine tkn ?_;rw[show IntKind.i64.wrap (2+(U:Int))=((U+2:Nat):Int) by rw[Od4];omega];refine tkr 10 rfl fun I hK=>?_;go_simp;refine(M.out _ 4097 H.drew zM zo zo).mono ?_;rintro e Y ⟨⟨u,rfl,bG⟩,rfl⟩;go_simp;refine hK.out _ _ y (fun y=>?_);clear hK I;refine tkj 13 rfl y ?_;refine tkn ?_;refine tkr 14 rfl fun I hK=>?_;go_simp;refine hK.out _ _ ?_ (fun y=>?_)
 ·exact⟨Jh ((Jg1 _ _ _ _ w.heap.size 0 zo).trans K.out.1),Jh ((Jg1 _ _ _ _ w.heap.size 1 zo).trans K.out.2.1),Jh ((Jg1 _ _ _ _ w.heap.size 2 zo).trans K.out.2.2.1),Jh ((Jg1 _ _ _ _ w.heap.size 3 zo).trans K.out.2.2.2)⟩
 clear hK I;refine wpAnyH_done zK ?_ _;go_wp2;exact bodyPost_ret (v:=.agg #[.int .i64 ((x+1:Nat):Int),.int .i64 ((U+2:Nat):Int),.int .i64 (u:Int),.int .i64 d]) (by simp[results,results11,go_sem,bi,bj,bk,br]) rfl ⟨⟨x+1,_,_,rfl,zo,zo,zo,zo,zo,zo⟩,Jj (Juj bh.out zo _ _ _ _)⟩
end
section
open Go.RowKit Go.Shelf
theorem Qb2 {E T rs}(ht:Jer E T rs)(bj:Jel T.name T.types rs)(bi:∀ r∈rs,∀ v∈r,Jg v.n):
  ∃ cs,Zo E T=.inl cs/\Zt T.types cs/\nR cs=rs.length/\∀ i,i<rs.length->Ji cs i=rs.getD i []:=by
 have I:Jid E T:=ht.ok;obtain⟨Y,Z⟩:=Jmq E T I.group.1;have hr:=ht.read;rw[Y]at hr;cases hc:Zo E T with
 |inr j=>rw[hc]at hr;cases hr
 |inl cs=>
  rw[hc]at hr;obtain⟨O,U⟩:=Z cs hc;have K:Qf T.rows cs=rs:=by simpa using hr
  have hlen:T.rows=rs.length:=by rw[<-K,Uu]
  have bx:=I.cols;have H:nR cs=rs.length:=by
   unfold nR;rw[U 0 (by rw[O];omega),hlen]
  have M:∀ i,i<rs.length->Ji cs i=rs.getD i []:=fun i hi=>by
   have:=Jge T.rows cs i zo;rw[K]at this;rw[Oa0,this];rfl
  refine⟨cs,rfl,⟨O,zo,zo,fun j y=>by rw[H,U j y,hlen],by have:=I.rows;omega,fun i hi=>?_⟩,H,M⟩;rw[H]at hi;rw[M i hi];have bf:rs.getD i []=rs[i]:=by rw[Oa0,Oa3 hi];rfl
  rw[bf];obtain⟨bk,br⟩:=bj.2.2.2 i hi;refine⟨bk,fun j y=>?_,bi _ (Ob3 hi)⟩;have:=br j y;have bh:rs[i].getD j Jf=rs[i][j]:=by rw[Oa0,Oa3 y];rfl
  rw[bh];exact this
theorem Kff {E T rs}(h:Jbc E [(T,rs)])(K:Jel T.name T.types rs)(I:∀ r∈rs,∀ v∈r,Jg v.n):
  ∃ cs,Ye E [T] T.name=.inl cs/\Zt T.types cs/\nR cs=rs.length/\∀ i,i<rs.length->Ji cs i=rs.getD i []:=by
 obtain⟨cs,y,H⟩:=Qb2 (h.tab (T,rs) zS) K I;exact⟨cs,by unfold Ye Jcm;simp[Ub,y],H⟩
def ndC (p:Nd):List Value:=[.int .i64 p.op,.int .i64 p.l,.int .i64 p.r,.string p.tn,.slice p.xs.1 p.xs.2.1 p.xs.2.2,.slice p.ky.1 p.ky.2.1 p.ky.2.2,.int .i64 p.kk]
theorem Jnj {w:World}{g:Nat}{xs:List Value}{t:TypeId}(h:w.heap[g]?=some (.cells xs.toArray t (0,0)))(i:Nat):w.cell? ⟨g,i,none⟩=xs[i]?:=by
 simp[World.cell?,h]
theorem Jfm {w}{nb:Nat}{H:List Nd}{t:TypeId}(h:w.heap[nb]?=some (.cells (H.flatMap ndC).toArray t (0,0))):∀ (j:Nat) (nd:Nd),H[j]?=some nd->Zm w nb (0+j*7) nd:=fun j nd I=>by
 have y:∀ i,i<7->w.cell? ⟨nb,j*7+i,none⟩=(ndC nd)[i]?:=fun i hi=>by
  rw[Jnj h];exact Jek ndC 7 (fun _=>rfl) H j i nd I hi
 rw[Od0];exact⟨y 0 zo,y 1 zo,y 2 zo,y 3 zo,y 4 zo,y 5 zo,y 6 zo⟩
theorem Jfp {w}{g:Nat}{es:List Pt}{t:TypeId}(h:w.heap[g]?=some (.cells (es.flatMap ptC).toArray t (0,0))):∀ (k:Nat) (p:Pt),es[k]?=some p->Qi w g (0+k*7) p:=fun k p hk=>by
 have y:∀ i,i<7->w.cell? ⟨g,k*7+i,none⟩=(ptC p)[i]?:=fun i hi=>by
  rw[Jnj h];exact Jek ptC 7 (fun _=>rfl) es k i p hk hi
 rw[Od0];exact⟨y 0 zo,y 1 zo,y 2 zo,y 3 zo,y 4 zo,y 5 zo,y 6 zo⟩
theorem Jyd {w K H I pc e}(h:w.cell? ⟨K,0,none⟩=some (.slice (some ⟨H,I,none⟩) e.length pc))(hp:∀ (k:Nat) (p:Pt),e[k]?=some p->Qi w H (I+k*7) p):Jaz w K 0 [e]:=fun j es y=>by
 match j,y with
 |0,y=>cases y;exact⟨H,I,pc,h,hp⟩
def Jcq:List PN:=[⟨0,0,Yh,[],[],0,0⟩,⟨2,0,⟨#[]⟩,[Jkp],[],0,0⟩]
theorem Jw6 {tys}(h:tys Yh=[1]):Jdk tys [[1],[1]] Jcq where
 len:=rfl
 ok:=fun j n y=>by
  match j,y with
  |0,y=>cases y;exact⟨[1],rfl,zd,fun _=>h.symm,fun h=>absurd h zd,fun h=>absurd h zd,fun h=>absurd h zd,fun h=>absurd h zd,fun h=>absurd h zd,fun h=>absurd h zd⟩
  |1,y=>
   cases y
   exact⟨[1],rfl,zd,fun h=>absurd h zd,fun h=>absurd h zd,fun _=>⟨[1],rfl,rfl,zd,zd,.inl ⟨rfl,rfl⟩⟩,fun h=>absurd h zd,fun h=>absurd h zd,fun h=>absurd h zd,fun h=>absurd h zd⟩
 ahead:=fun j n y i hi=>by
  match j,y with
  |0,y=>cases y;simp[Jg7]at hi
  |1,y=>cases y;simp[Jg7]at hi;subst hi;exact⟨zo,rfl⟩
 all:=fun i hi=>by
  have:i=0:=by simp[Jcq]at hi;omega
  subst this;rfl
 one:=zd
 few:=zd
theorem Khj:Kl Jkp [Za]=.inl ⟨1,42,⟨#[]⟩⟩:=zR
structure Kd3 (E:DS) (T:TS) (name:ByteArray) (ts:List Int) (rs:List (List V)) (cs:Cs):Prop where
 tab:Ye E [T] name=.inl cs
 good:Zt ts cs
 len:nR cs=rs.length
 row:∀ i,i<rs.length->Ji cs i=rs.getD i []
 tys:Jhd [T] name=ts
 find:Ub [T] name<[T].length
 ok:∀ T'∈[T],Jid E T'
 all:∀ T'∈[T],∀ cs',Zo E T'=.inl cs'->Zt T'.types cs'
theorem Jx2 {E T name ts rs}(h:Jbc E [(T,rs)])(hn:T.name=name)(ht:T.types=ts)(Y:Jel name ts rs)(U:∀ r∈rs,∀ v∈r,Jg v.n):∃ cs,Kd3 E T name ts rs cs:=by
 subst hn ht;obtain⟨cs,y,H,K,M⟩:=Kff h Y U;have hf:Ub [T] T.name=0:=by simp[Ub]
 have Z:Ye E [T] T.name=Zo E T:=by unfold Ye Jcm;rw[hf];rfl
 refine⟨cs,y,H,K,M,?_,by rw[hf];simp,(Jrp h rfl).2,fun bf I bh O=>?_⟩
 ·unfold Jhd;rw[hf];rfl
 rw[Oc6]at I;subst I;rw[Z,O]at y;cases y
 exact H
theorem Kc3 {tab:ByteArray->Cs⊕Nat}{cs}(h:tab Yh=.inl cs):Jac tab Jcq=Jcb [Jkp] cs/\Jbs ⟨2,0,⟨#[]⟩,[Jkp],[],0,0⟩ (stN tab Jcq 1)=cs:=by
 constructor
 ·simp[Jac,stN,Jcq,Jb3,Jkq,Jbs,h]
 simp[stN,Jcq,Jb3,Jkq,Jbs,h]
abbrev Jvf (y:Nat):List Nd:=[⟨0,0,0,Yh,(none,0,0),(none,0,0),0⟩,⟨2,0,0,⟨#[]⟩,(some ⟨y,0,none⟩,1,1),(none,0,0),0⟩]
end
open Go.RowKit Go.Shelf Tryz
theorem Kwg {ts hs}(h:Jfz ts [] hs ts.length):hs=List.replicate ts.length 0:=by
 rw[List.eq_replicate_iff];refine⟨h.len,fun x y=>?_⟩;obtain⟨i,hi,rfl⟩:=Od5 y;exact h.plain i hi (Ob7 _)
def Kw0 (I H:Int)(W wx:World)(st:Nat)(name:ByteArray)(ts:List Int)(rs:List (List V))(E:DS)(T:TS):Prop:=
 Below W.heap.size W wx/\Jbd (Ku I H) [] name ts (List.replicate ts.length 0) rs 64=.ok E T/\∃ (y:Nat->Prop) (cs:Cs),Sto y wx st E [T]/\Kd3 E T name ts rs cs/\E.quota=I/\E.fail=H/\dz E<=132000/\∀ k,y k->W.heap.size<=k
theorem Kw0.older {H y W X wx st name ts rs E T}(h:Kw0 H y X wx st name ts rs E T)(hb:Below W.heap.size W X):Kw0 H y W wx st name ts rs E T:=by
 obtain⟨h0,K,I,cs,M,O,U,Y,Z,bf⟩:=h;exact⟨Jb hb h0,K,I,cs,M,O,U,Y,Z,fun k hk=>Ob2 hb.size (bf k hk)⟩
theorem Qa8 (H y:Int)(b:Nat)(t:TbX)w(h:Uw w t.name t.at_ t.ar t.cr t.ts t.xs t.rs)(c0:w.cell? ⟨b,0,none⟩=some (.string t.name))(c1:w.cell? ⟨b,1,none⟩=some (.slice t.at_ t.ts.length t.ct))(c2:w.cell? ⟨b,2,none⟩=some (.slice t.ar t.rs.length t.cr))(bk:∀ hs,Jfz t.ts [] hs t.ts.length->∃ E T,Jbd (Ku H y) [] t.name t.ts hs t.rs 64=.ok E T)a0 a1 a2 U q wr pg pl ex O(bi:Jax w a0 a1 a2 U q wr pg pl ex O):
  Calls prog 6 #[.agg #[.int .i64 H,.int .i64 y],.slice (some ⟨b,0,none⟩) 1 1] w fun e w'=>∃ st E T,e=.returned (.pointer (some ⟨st,0,none⟩))/\Kw0 H y w w' st t.name t.ts t.rs E T:=by
 have bB:=h.tab.2.2.1;refine(Qbe (fun i D S=>(i=0->D=Ku H y/\S=[])/\(i=1->∃ T r,S=[(T,r)]/\Jbd (Ku H y) [] t.name t.ts (List.replicate t.ts.length 0) t.rs 64=.ok D T)) H y b 1 [t] w (fun u I=>?_) (fun i u hi=>?_) (Jm c0) zS zS (by simp[Ksd];omega) ⟨fun _=>⟨rfl,rfl⟩,fun e=>by simp at e⟩ (fun i u D S hs I hF _ _ _ _ _ hI=>?_) a0 a1 a2 U q wr pg pl ex O bi).mono fun e w' hp=>?_
 ·rw[Oc6]at I;subst I;exact h
 ·match i,hi with
  |0,hi=>
   cases hi
   exact⟨c0,c1,c2⟩
 ·match i,I with
  |0,I=>
   cases I
   obtain⟨rfl,rfl⟩:=hF.1 rfl;obtain⟨E,T,hr⟩:=bk hs hI;refine⟨E,T,hr,fun e=>by simp at e,fun _=>⟨T,_,rfl,?_⟩⟩;rw[<-Kwg hI];exact hr
 obtain⟨hb,st,rfl,bh⟩:=hp;obtain⟨Y,E,T,Z,K,M,hF,bz,bA,bf⟩:=bh.one;obtain⟨bx,r,e,hr⟩:=hF.2 rfl;cases e
 obtain⟨cs,bj⟩:=Jx2 K M.1 M.2 h.tab h.vals;have hk:=Kjy (fun x br=>by rw[List.eq_of_mem_replicate br];exact⟨Ki5,Kj4⟩) (Jbc.empty H y) h.vals (by simp[Ku]) hr;refine⟨st,E,T,rfl,hb,hr,Y,cs,Z,bj,hk.2.2.2.2.1,hk.2.2.2.2.2.1,?_,bf⟩;have hw:=K.writes;unfold dz;rw[if_pos hw];omega
theorem Qcb {name ts rs}(h:Jel name ts rs)hs(hI:Jfz ts [] hs ts.length):∃ E T,Jbd (Ku 1048576 0) [] name ts hs rs 64=.ok E T:=by
 obtain⟨hy,y⟩:=Jvv hI;rcases Kck (Jbc.empty 1048576 0) h hy (g:=64) zd (Ts:=[]) rfl zS rfl rfl (by simp[Ku,Js]) (by simp[Ku])with⟨c,hc⟩|h
 ·have:=(Jy3 hc).2.1;rw[y c]at this;simp at this
 exact h
theorem Qc0 {name ts rs E T}(h:Jbd (Ku 1048576 0) [] name ts (List.replicate ts.length 0) rs 64=.ok E T){q f}(hq:((Js E.pages:Nat):Int)<=q)(hf:((Js E.pages:Nat):Int)<f)hs(hI:Jfz ts [] hs ts.length):Jbd (Ku q f) [] name ts hs rs 64=.ok (Kt8 E q f) T:=by
 rw[Kwg hI];exact Ku8 h hq hf
theorem Qaw {name ts rs E y T H q f}(h:Jbd (Ku 1048576 0) [] name ts (List.replicate ts.length 0) rs 64=.ok E T)(I:Jbd (Ku q f) [] name ts (List.replicate ts.length 0) rs 64=.ok y H)(hq:((Js E.pages:Nat):Int)<=q)(hf:((Js E.pages:Nat):Int)<f):y=Kt8 E q f/\H=T:=by
 rw[Ku8 h hq hf]at I;cases I
 exact⟨rfl,rfl⟩
attribute [local go_sem] Oc0
theorem Jor n w:Calls prog 10 #[.string n] w fun e w'=>e=.returned (Nd.val ⟨0,0,0,n,(none,0,0),(none,0,0),0⟩)/\Below w.heap.size w w':=by
 go_enter func10,ntmps10
 go_wp2;exact bodyPost_ret (v:=Nd.val ⟨0,0,0,n,(none,0,0),(none,0,0),0⟩) (by simp[results,results10,go_sem]) rfl ⟨rfl,Jc (Oa5 _ _) _⟩
theorem Kbg w:Calls prog 17 #[] w fun e w'=>e=.returned (.agg #[.int .i64 1000,.int .i64 1000,.int .i64 0,.int .i64 0])/\Below w.heap.size w w':=by
 go_enter func17,ntmps17
 go_wp2;exact bodyPost_ret (v:=.agg #[.int .i64 1000,.int .i64 1000,.int .i64 0,.int .i64 0]) (by simp[results,results17,go_sem]) rfl ⟨rfl,Jc (Oa5 _ _) _⟩
theorem Jxv c nd row w:Calls prog 14 #[.int .i64 c,.int .i64 nd,.int .i64 row] w fun e w'=>e=.returned (Ko c nd row (-1) (-1))/\Below w.heap.size w w':=by
 go_enter func14,ntmps14
 go_upto_region 5 with(go_at_call 15;refine(Jfu _).mono ?_;rintro bi H ⟨rfl,I⟩)
 have hr:=heap_alloc_new w (.cells #[.int .i64 0,.int .i64 0,.int .i64 0,.int .i64 0,.int .i64 0] 51);have M:=(I.block _ (Jd hr)).trans hr;have hn:=heap_alloc_new H (.cells #[.int .i64 c,.int .i64 nd,.int .i64 row,.int .i64 (-1),.int .i64 (-1)] 51);have y:=(Oa9 H (.cells #[.int .i64 c,.int .i64 nd,.int .i64 row,.int .i64 (-1),.int .i64 (-1)] 51) _ (Jd M)).trans M;have K:Below w.heap.size w (H.alloc (.cells #[.int .i64 c,.int .i64 nd,.int .i64 row,.int .i64 (-1),.int .i64 (-1)] 51)):=Jc (Jb (Jc (Oa5 _ _) _) I) _;obtain⟨b,hb⟩:∃ b,b=H.heap.size:=⟨_,rfl⟩;rw[<-hb]at hn |-;clear hb hr M I;generalize H.alloc (.cells #[.int .i64 c,.int .i64 nd,.int .i64 row,.int .i64 (-1),.int .i64 (-1)] 51)=X at hn y K |-;have bA:=zc 0 hn;have bB:=zc 1 hn;have bC:=zc 2 hn;have n3:=zc 3 hn;have bD:=zc 4 hn;have U:=zc 0 y;have Y:=zc 1 y;have Z:=zc 2 y;have bf:=zc 3 y;have bh:=zc 4 y;have bj:X.frozen? ⟨w.heap.size,0,none⟩=false:=by simp[World.frozen?,y]
 have bk:X.frozen? ⟨w.heap.size,1,none⟩=false:=by simp[World.frozen?,y]
 have br:X.frozen? ⟨w.heap.size,2,none⟩=false:=by simp[World.frozen?,y]
 have bx:X.frozen? ⟨w.heap.size,3,none⟩=false:=by simp[World.frozen?,y]
 have bz:X.frozen? ⟨w.heap.size,4,none⟩=false:=by simp[World.frozen?,y]
 have O:Hid _:=K;clear hn y K;go_wp2;exact bodyPost_ret (v:=Ko c nd row (-1) (-1)) (by simp[results,results14,go_sem,U,Y,Z,bf,bh]) rfl ⟨rfl,((((O.out.setCell (p:=⟨w.heap.size,0,none⟩) (Oa2 _) _).setCell (p:=⟨w.heap.size,1,none⟩) (Oa2 _) _).setCell (p:=⟨w.heap.size,2,none⟩) (Oa2 _) _).setCell (p:=⟨w.heap.size,3,none⟩) (Oa2 _) _).setCell (p:=⟨w.heap.size,4,none⟩) (Oa2 _) _⟩
