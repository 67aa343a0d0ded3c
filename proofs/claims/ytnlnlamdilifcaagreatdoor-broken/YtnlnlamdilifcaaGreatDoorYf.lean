/- A Join whole. -/
import Derived.Test.YtnlnlamdilifcaaGreatDoorAo
set_option maxHeartbeats 1000000
set_option maxRecDepth 100000
namespace Go.Proofs.YtnlnlamdilifcaaGreatDoor
section
open Go.RowKit Go.Shelf Go.Maps
attribute [local go_sem] Oc0
end
section
open Go.RowKit Go.Shelf Tryz
def Jd7 (tab:ByteArray->Cs⊕Nat)(ns:List PN)(j:Nat):Prop:=∀ (k:Nat) (m:PN),k<j->ns[k]?=some m->Jlw tab m (stN tab ns k)
def PSp (tab:ByteArray->Cs⊕Nat)(ns:List PN)(j:Nat)(y:List Dn):Prop:=y.map (Option.map fun x=>x.2.2)=stN tab ns j/\Jd7 tab ns j
def ERp (tab:ByteArray->Cs⊕Nat)(ns:List PN)(y I H pg:Addr)(j:Nat)(v:Value)(W:World):Prop:=
 Jd7 tab ns j/\∃ n,ns[j]?=some n /\
  ((n.op=0/\∃ p b:Nat,tab n.tn=.inr p/\v=Ip 106 b/\Yu W v pg (some (-1)) (some (p:Int))) \/
   (n.op≠0/\∃ eb kk r:Nat,v=Qv eb/\r<nR (Jbs n (stN tab ns j))/\Kr n.es (Ji (Jbs n (stN tab ns j)) r)≠0/\Ja8 W eb (r:Int) kk (Jdb y I (Kr n.es (Ji (Jbs n (stN tab ns j)) r)))/\∀ i,i<r->∀ e∈n.es,∃ v,Kl e (Ji (Jbs n (stN tab ns j)) i)=.inl v) \/
   (n.op=4/\∃ (eb x k:Nat) (m:List V),v=Ip 141 eb/\W.heap[eb]?=some (.cells #[Iq (x:Nat),Iq (k:Nat),Ie 435 H] 147 (0,0))/\(Kk9 n.gk (Jbs n (stN tab ns j)))[x]?=some m/\k<n.gk.length/\(tdV n.gk (Klk n.gk (Jbs n (stN tab ns j))) m k).2=false/\Klz n.gk (Kk9 n.gk (Jbs n (stN tab ns j))) (Klk n.gk (Jbs n (stN tab ns j))) x k))
theorem Ja8.below {w w' eb row y why}(h:Ja8 w eb row y why)(hb:Bq w w'):Ja8 w' eb row y why:=(hb.block eb (Jd h)).trans h
theorem ERp.below {tab:ByteArray->Cs⊕Nat}{ns U Z Y pg j v W O}(h:ERp tab ns U Z Y pg j v W)(hb:Bq W O):ERp tab ns U Z Y pg j v O:=by
 obtain⟨h0,n,M,⟨H,p,b,I,y,K⟩|⟨H,eb,kk,r,I,y,K,bf,bh⟩|⟨H,eb,x,k,m,I,y,K⟩⟩:=h
 ·exact⟨h0,n,M,.inl ⟨H,p,b,I,y,K.below hb⟩⟩
 ·exact⟨h0,n,M,.inr (.inl ⟨H,eb,kk,r,I,y,K,bf.below hb,bh⟩)⟩
 exact⟨h0,n,M,.inr (.inr ⟨H,eb,x,k,m,I,(hb.block eb (Jd y)).trans y,K⟩)⟩
theorem Jd7.more {tab:ByteArray->Cs⊕Nat}{ns j n}(h:Jd7 tab ns j)(I:ns[j]?=some n)(H:Jlw tab n (stN tab ns j)):Jd7 tab ns (j+1):=fun k m K y=>by
 by_cases e:k=j
 ·subst e;rw[I]at y;cases y
  exact H
 exact h k m zo y
theorem Kui {y:List Dn}{i:Nat}{H:Nat×List (Option Addr×Nat)×List (List V)}(h:some H∈y.set i none):some H∈y:=by
 rcases List.mem_or_eq_of_mem_set h with h|h
 ·exact h
 cases h
section
variable {tys:ByteArray->List Int} {scs:List (List Int)} {ns:List PN} {tab:ByteArray->Cs⊕Nat} {j:Nat} {n:PN} {nd:Nd} {X:World}
theorem Km1 (h:Jdk tys scs ns)(bM:Ktc tys scs ns tab)(ht:∀ n∈ns,n.op=0->∀ cs,tab n.tn=.inl cs->Zt (tys n.tn) cs)(M:ns[j]?=some n)(hi:Jnm X n nd)(h0:n.op≠0)(bj:¬ (n.op=3\/n.op=7))(s:Nat)(z:Nat)(bu bl:Int)Z O sc bh bz bi pg(bD:∀ W I (y:List Dn),Bq X W->Jd6 (X.heap.size+1) X.heap.size z bu bl Z (Pq s) O sc I y W->Jd7 tab ns j->∀ g hs cs sch,y[n.l]?=some (some (g,hs,cs))->Jbs n (stN tab ns j)=cs->scs[n.l]?=some sch->Zt sch cs ->
   Cq (Jej nd.op) #[Pq X.heap.size,nd.val] W fun e K=>W.grownBy K I.ownBlock /\
    ((∃ (g:Nat) (hs:List (Option Addr×Nat)),e=.returned (.tuple #[dnV (some (g,hs,Jkq tab n (stN tab ns j))),.nilIface])/\Jd6 (X.heap.size+1) X.heap.size z bu bl Z (Pq s) O sc I (y.set n.l none) K/\Jfk X.heap.size I (g,hs,Jkq tab n (stN tab ns j)) K/\Jlw tab n (stN tab ns j)/\Kxl W y (g,hs,Jkq tab n (stN tab ns j))) \/
     (∃ (ty b:Nat),e=.returned (.tuple #[Sz,.iface ty (Pq b)])/\ERp tab ns bh bz bi pg j (.iface ty (Pq b)) K))):
  Ju1 X (X.heap.size+1) X.heap.size z bu bl Z (Pq s) O sc (PSp tab ns) (ERp tab ns bh bz bi pg) nd j:=by
 obtain⟨sch,hs,ok⟩:=h.ok j n M;have bZ:=ok.le;have bY:j<ns.length:=(Ob9.1 M).1;refine⟨by rw[hi.op];omega,by rw[hi.op];omega,fun W I y hb bX hR hlen bB=>?_⟩;obtain⟨U,Y⟩:=bB;have bx:=Jqw h bM ht j zo Y;have bP:=Jma (tab:=tab) M;have bL:Jg7 n=[n.l]:=by unfold Jg7;rw[if_neg h0,if_neg bj]
 obtain⟨bO,bI⟩:=h.ahead j n M n.l (by rw[bL];exact Oc6.2 rfl);obtain⟨cs,H⟩:=bx.there n.l bO bI;obtain⟨bU,bS,bK⟩:=bx.good n.l cs H;have bG:Jbs n (stN tab ns j)=cs:=by unfold Jbs;rw[Oa0,H];rfl
 obtain⟨⟨g,bR,bf⟩,bk⟩:∃ x,y[n.l]?=some (some x):=by
  rw[<-U,Ob1]at H;cases e:y[n.l]? with
  |none=>rw[e]at H;cases H
  |some o=>
   cases o with
   |none=>rw[e]at H;cases H
   |some x=>exact⟨x,rfl⟩
 have bE:bf=cs:=by
  rw[<-U,Ob1,bk]at H;simpa using H
 subst bE;have bT:∀ x:Nat×List (Option Addr×Nat)×List (List V),(y.set n.l none++[some x]).map (Option.map fun x=>x.2.2)=(stN tab ns j).set n.l none++[some x.2.2]:=fun x=>by
  rw[Ob8,Op0,U];rfl
 have bN:(y.set n.l none).length=j:=by rw[Of8];exact hlen
 refine(bD W I y hb hR Y g bR bf bU bk bG bS bK).mono fun bV K hp=>?_;obtain⟨br,⟨bW,ca,rfl,bC,bA,bJ,bQ⟩|⟨ty,b,rfl,bH⟩⟩:=hp
 ·refine⟨br,.inl ⟨_,y.set n.l none,rfl,bC,bA,bN,⟨?_,Y.more M bJ⟩,bQ,fun cb hy=>Kui hy⟩⟩;rw[bT,bP];unfold Jb3;rw[if_neg h0,if_neg bj]
 exact⟨br,.inr ⟨ty,b,rfl,bH⟩⟩
end
attribute [local go_sem] Oc0
theorem Jib (X:World)(g:Nat)(y H I K M:Value)(k:Nat)(h:k≠g):(((((X.setCell (Aq g) y).setCell (Ar g 1) H).setCell (Ar g 2) I).setCell (Ar g 3) K).setCell (Ar g 4) M).heap[k]?=X.heap[k]?:=Zh X g y H I K M k h
theorem Jl1 f n j(h:j<n):Uq ((List.range n).map f) j=f j:=by
 unfold Uq;rw[Oa0,Ob1,Oh6 h];rfl
theorem Jrn g cap hs cs n w(U:Qd w g hs cs)(br:∀ i,i<cs.length->(cs.getD i []).length=n)(bh:1<=cs.length)(bi:cs.length<=1000)(bB:n<=10000):
  Cq 29 #[Sq g cs.length cap,.nilIface] w fun e w'=>Bq w w'/\∃ O bs,e=.returned (.tuple #[Sq O n n,Jb6 0])/\Jcu w' w.heap.size O bs (Qf n cs):=by
 have Y:Bq w (w.alloc (.cells #[iZ,iZ,iZ,iZ,iZ] 39)):=(Oa5 _ _).alloc (Oa2 _) _;have bE:=run_neq_nil_nil (P:=prog);have I:=U.below Y;have bf:=by
  refine Jo4 g cap ((List.range cs.length).map fun j=>.slice (Yo hs j).1 (cs.getD j []).length (Yo hs j).2) cs n (w.alloc (.cells #[iZ,iZ,iZ,iZ,iZ] 39)) ?_ zS (fun i hi=>⟨(Yo hs i).1,(Yo hs i).2,?_,I.vals i hi⟩) br bh bi bB
  ·rw[Oa6,Op1];exact I.row.congr fun j bA=>(Jl1 (fun j=>.slice (Yo hs j).1 (cs.getD j []).length (Yo hs j).2) _ _ bA).symm
  exact Jl1 (fun j=>.slice (Yo hs j).1 (cs.getD j []).length (Yo hs j).2) _ _ hi
 clear U I;go_enter func29,ntmps29
 go_wp2_with fail
 refine bf.mono ?_;rintro e w1 ⟨rfl,⟨H,bz⟩,Z⟩;clear bf;go_wp2_with fail
 refine(Jjq w1).mono ?_;rintro e bH ⟨rfl,K⟩;have bj:=Jb Y Z;obtain⟨bC,bG⟩:=Kx (Jb Z K);have bk:=Jb bj K;have M:=bz.below K;rw[Oa7]at M;have bx:=M.from_;have low:∀ X:World,Jcu X (w.heap.size+1) (w.heap.size+1) H (Qf n cs)->Jcu X w.heap.size (w.heap.size+1) H (Qf n cs):=fun X y=>⟨y.len,y.outer,y.rows,⟨by have:=y.from_.1;omega,fun b hb=>⟨by have:=(y.from_.2 b hb).1;omega,(y.from_.2 b hb).2⟩⟩,y.nodup⟩;go_wp2;refine bodyPost_ret (v:=.tuple #[Sq (w.heap.size+1) n n,Jb6 0]) (by simp[results,results29,go_sem,bC]) rfl ⟨Um bk (Oa2 _) _ _ _ _ _,?_⟩;refine⟨w.heap.size+1,H,rfl,?_⟩;refine low _ (M.of_blocks ?_ (fun b hb=>?_))
 ·exact Jib _ _ _ _ _ _ _ _ zo
 have bD:=(bx.2 b hb).1;exact Jib _ _ _ _ _ _ _ _ zo
end
section
open Go.RowKit Go.Shelf
theorem Jny.plan {w v a r c p g gc eb j}(h:Jny w v a none r c p g gc)(hb:w.heap[eb]?=some (.cells #[Iq j,v] 133 (0,0))):Jny w (Ip 131 eb) a (some j) r c p g gc:=by
 have c0:=zc 0 hb;have c1:=zc 1 hb;obtain⟨⟨U,y⟩,⟨bk,bj⟩,⟨Y,H⟩,⟨Z,I⟩,⟨bf,K⟩,⟨bh,M⟩,⟨bi,O⟩⟩:=h;exact⟨⟨U+1,.wrap _ _ _ _ _ _ _ Jdg c1 y⟩,⟨0,.hit _ _ c0⟩,⟨Y+1,.miss _ _ _ _ _ _ _ Jdg Jro c1 H⟩,⟨Z+1,.miss _ _ _ _ _ _ _ Jdg Jlp c1 I⟩,⟨bf+1,.miss _ _ _ _ _ _ _ Jdg Jv1 c1 K⟩,⟨bh+1,.miss _ _ _ _ _ _ _ Jdg Jlp c1 M⟩,⟨bi+1,.miss _ _ _ _ _ _ _ Jdg Jsi c1 O⟩⟩
structure Qc8 (tab:ByteArray->Cs⊕Nat) (ns:List PN) (X:World) (j:Nat) (n:PN) (z:Nat) (bl sd:Int) (dva ova gva mna:Addr):Prop where
 z1:1<=z
 z2:z<=1000
 bl:0<=bl/\bl<=4096
 sd:Jg sd
 er:Jdo X dva ova
 gv:X.cell? (Aq 12)=some (Ie 435 gva)
 mn:X.cell? (Aq 13)=some (Ie 435 mna)
 grp:n.op=4->Jd7 tab ns j->nR (Jbs n (stN tab ns j))<=20000
 jn:n.op=3->Jd7 tab ns j->(jnN n (stN tab ns j)).length<=2000
def Jac (tab:ByteArray->Cs⊕Nat)(ns:List PN):Cs:=((stN tab ns ns.length).getLastD none).getD []
def Ye (E:DS)(Ts:List TS)(n:ByteArray):Cs⊕Nat:=(Jcm E Ts n).getD (.inr 0)
def Jhd (Ts:List TS)(n:ByteArray):List Int:=(Ts[Ub Ts n]?.map TS.types).getD []
theorem Juy {tys y ns}(h:Jdk tys y ns){tab:ByteArray->Cs⊕Nat}(O:Ktc tys y ns tab)(ht:∀ n∈ns,n.op=0->∀ cs,tab n.tn=.inl cs->Zt (tys n.tn) cs)(M:Jd7 tab ns ns.length):∃ sch,y[ns.length-1]?=some sch/\Zt sch (Jac tab ns):=by
 have K:=h.one;have H:=Jqw h O ht ns.length (Oa2 _) M;have hl:=Jhh tab ns ns.length (Oa2 _);have U:flN ns ns.length (ns.length-1)=false:=by
  have:=h.unnamed (ns.length-1);rwa [Nat.sub_add_cancel K]at this
 obtain⟨cs,I⟩:=H.there (ns.length-1) zo U;obtain⟨sch,Y,Z⟩:=H.good _ cs I;refine⟨sch,Y,?_⟩;have:Jac tab ns=cs:=by
  unfold Jac;rw[List.getLastD_eq_getLast?,List.getLast?_eq_getElem?,hl,I];rfl
 rw[this];exact Z
def Qbt (tab:ByteArray->Cs⊕Nat)(ns:List PN)(y:World)(l:Value)(c nd row col pg:Int)(W:World):Prop:=
 c=0/\nd=-1/\row=-1/\col=-1/\pg=-1/\Jd7 tab ns ns.length/\∃ g bs,l=Sq g (nR (Jac tab ns)) (nR (Jac tab ns))/\Jcu W y.heap.size g bs (Qf (nR (Jac tab ns)) (Jac tab ns))
attribute [local go_sem] Oc0
attribute [local go_sem] Oc0
def ptC (p:Pt):List Value:=[Iq p.op,Iq p.l,Iq p.r,Iq p.c,Iq p.v.k,Iq p.v.n,.string p.v.s]
attribute [local go_sem] Oc0
end
section
open Go.RowKit Go.Shelf Tryz
attribute [local go_sem] Oc0
theorem Juj {lo w W g}(h:Below lo w W)(y:lo<=g)H I K M:Below lo w ((((W.setCell (Aq g) H).setCell (Ar g 1) I).setCell (Ar g 2) K).setCell (Ar g 3) M):=
 (((h.setCell (p:=Aq g) y _).setCell (p:=Ar g 1) y _).setCell (p:=Ar g 2) y _).setCell (p:=Ar g 3) y _
theorem Jg1 {W:World}{g:Nat}(y H I K:Value)(b:Nat)(o:Nat)(h:b≠g):((((W.setCell (Aq g) y).setCell (Ar g 1) H).setCell (Ar g 2) I).setCell (Ar g 3) K).cell? (Ar b o)=W.cell? (Ar b o):=by
 simp only[World.cell?];rw[Oa4 _ _ _ _ (show b≠g from h),Oa4 _ _ _ _ (show b≠g from h),Oa4 _ _ _ _ (show b≠g from h),Oa4 _ _ _ _ (show b≠g from h)]
theorem Jqk a b c d w(bC:Jg a)(hb:Jg b)(Z:Jg c):Cq 13 #[.agg #[Iq a,Iq b,Iq c,Iq d]] w fun e w'=>(∃ z:Nat,∃ bu bl:Int,e=.returned (.agg #[Iq z,Iq bu,Iq bl,Iq d])/\1<=z/\z<=1000/\2<=bu/\bu<=1000/\0<=bl/\bl<=4096)/\Bq w w':=by
 have M:Hid (∀ (c m:Int) (W:World),Jg c->0<m->m<=5000->Cq 14 #[Iq c,Iq m] W fun e w'=>(∃ r:Nat,e=.returned (Iq r)/\(r:Int)<m)/\w'=W):=fun c m W Z bD bE=>by
  obtain⟨n,rfl⟩:∃ n:Nat,m=(n:Int):=⟨m.toNat,zo⟩;refine(Jfw c n W Z zo zo).mono ?_;rintro e w' ⟨⟨r,rfl,hr⟩,rfl⟩;exact⟨⟨r,rfl,zo⟩,rfl⟩
 go_enter func13,ntmps13
 go_upto_region 1 with fail
 have b0:((w.alloc (.cells #[Iq a,Iq b,Iq c,Iq d] 28)).alloc (.cells #[iZ,iZ,iZ,iZ] 28)).heap[w.heap.size]?=some (.cells #[Iq a,Iq b,Iq c,Iq d] 28 (0,0)):=(Oa9 _ _ _ zS).trans (heap_alloc_new w _);have b1:((w.alloc (.cells #[Iq a,Iq b,Iq c,Iq d] 28)).alloc (.cells #[iZ,iZ,iZ,iZ] 28)).heap[w.heap.size+1]?=some (.cells #[iZ,iZ,iZ,iZ] 28 (0,0)):=by
  have:=heap_alloc_new (w.alloc (.cells #[Iq a,Iq b,Iq c,Iq d] 28)) (.cells #[iZ,iZ,iZ,iZ] 28);rw[Oa7]at this;exact this
 have O:Bq w ((w.alloc (.cells #[Iq a,Iq b,Iq c,Iq d] 28)).alloc (.cells #[iZ,iZ,iZ,iZ] 28)):=Jc (Jc (Oa5 _ _) _) _;generalize (w.alloc (.cells #[Iq a,Iq b,Iq c,Iq d] 28)).alloc (.cells #[iZ,iZ,iZ,iZ] 28)=H at b0 b1 O |-;have bf:=zc 0 b0;have s1:=zc 1 b0;have s2:=zc 2 b0;have s3:=zc 3 b0;have bi:=zc 0 b1;have bj:=zc 1 b1;have bk:=zc 2 b1;have br:=zc 3 b1;have bx:H.frozen? ⟨w.heap.size+1,0,none⟩=false:=by simp[World.frozen?,b1]
 have bz:H.frozen? ⟨w.heap.size+1,1,none⟩=false:=by simp[World.frozen?,b1]
 have bA:H.frozen? ⟨w.heap.size+1,2,none⟩=false:=by simp[World.frozen?,b1]
 have bB:H.frozen? ⟨w.heap.size+1,3,none⟩=false:=by simp[World.frozen?,b1]
 have bh:=zh O;have K:Hid (H.cell? (Aq w.heap.size)=some (Iq a)/\H.cell? (Ar w.heap.size 1)=some (Iq b)/\H.cell? (Ar w.heap.size 2)=some (Iq c)/\H.cell? (Ar w.heap.size 3)=some (Iq d)):=⟨bf,s1,s2,s3⟩;clear b0 b1 O;refine wp_region_held_drew (S:=fun X=>X.cell? (Aq w.heap.size)=some (Iq a)/\X.cell? (Ar w.heap.size 1)=some (Iq b)/\X.cell? (Ar w.heap.size 2)=some (Iq c)/\X.cell? (Ar w.heap.size 3)=some (Iq d)) zK ⟨Jh bf,Jh s1,Jh s2,Jh s3⟩ (fun y=>?_);refine tkj 0 rfl y ?_;refine tkj 1 rfl y ?_;refine tkj 4 rfl y ?_;refine tkj 5 rfl y ?_;refine tkj 8 rfl y ?_;refine tkj 9 rfl y ?_;refine tkj 11 rfl y ?_;refine tkj 12 rfl y ?_;refine tkn ?_;refine tkr 2 rfl fun I hK=>?_;go_simp;refine(M.out _ 1000 H.drew zM zo zo).mono ?_;rintro e Y ⟨⟨x,rfl,bH⟩,rfl⟩;go_simp;refine hK.out _ _ y (fun y=>?_);clear hK I;refine tkj 3 rfl y ?_;refine tkn ?_;rw[show IntKind.i64.wrap (1+(x:Int))=((x+1:Nat):Int) by rw[Od4];omega];refine tkr 6 rfl fun I hK=>?_;go_simp;refine(M.out _ 999 H.drew zM zo zo).mono ?_;rintro e Y ⟨⟨U,rfl,hy⟩,rfl⟩;go_simp;refine hK.out _ _ y (fun y=>?_);clear hK I;refine tkj 7 rfl y ?_;refine tkn ?_;rw[show IntKind.i64.wrap (2+(U:Int))=((U+2:Nat):Int) by rw[Od4];omega];refine tkr 10 rfl fun I hK=>?_;go_simp;refine(M.out _ 4097 H.drew zM zo zo).mono ?_;rintro e Y ⟨⟨u,rfl,bG⟩,rfl⟩;go_simp;refine hK.out _ _ y (fun y=>?_);clear hK I;refine tkj 13 rfl y ?_;refine tkn ?_;refine tkr 14 rfl fun I hK=>?_;go_simp;refine hK.out _ _ ?_ (fun y=>?_)
 ·exact⟨Jh ((Jg1 _ _ _ _ w.heap.size 0 zo).trans K.out.1),Jh ((Jg1 _ _ _ _ w.heap.size 1 zo).trans K.out.2.1),Jh ((Jg1 _ _ _ _ w.heap.size 2 zo).trans K.out.2.2.1),Jh ((Jg1 _ _ _ _ w.heap.size 3 zo).trans K.out.2.2.2)⟩
 clear hK I;refine wpAnyH_done zK ?_ _;go_wp2;exact bodyPost_ret (v:=.agg #[Iq ((x+1:Nat):Int),Iq ((U+2:Nat):Int),Iq (u:Int),Iq d]) (by simp[results,results13,go_sem,bi,bj,bk,br]) rfl ⟨⟨x+1,_,_,rfl,zo,zo,zo,zo,zo,zo⟩,Jj (Juj bh.out zo _ _ _ _)⟩
end
section
open Go.RowKit Go.Shelf
theorem Qcb {E T rs}(ht:Jer E T rs)(bj:Jel T.name T.types rs)(bi:∀ r∈rs,∀ v∈r,Jg v.n):
  ∃ cs,Zo E T=.inl cs/\Zt T.types cs/\nR cs=rs.length/\∀ i,i<rs.length->Ji cs i=rs.getD i []:=by
 have I:Jid E T:=ht.ok;obtain⟨Y,Z⟩:=Jmq E T I.group.1;have hr:=ht.read;rw[Y]at hr;cases hc:Zo E T with
 |inr j=>rw[hc]at hr;cases hr
 |inl cs=>
  rw[hc]at hr;obtain⟨O,U⟩:=Z cs hc;have K:Qf T.rows cs=rs:=by simpa using hr
  have hlen:T.rows=rs.length:=by rw[<-K,Uu]
  have bx:=I.cols;have H:nR cs=rs.length:=by
   unfold nR;rw[U 0 (by rw[O];omega),hlen]
  have M:∀ i,i<rs.length->Ji cs i=rs.getD i []:=fun i hi=>by
   have:=Jge T.rows cs i zo;rw[K]at this;rw[Oa0,this];rfl
  refine⟨cs,rfl,⟨O,zo,zo,fun j y=>by rw[H,U j y,hlen],by have:=I.rows;omega,fun i hi=>?_⟩,H,M⟩;rw[H]at hi;rw[M i hi];have bf:rs.getD i []=rs[i]:=by rw[Oa0,Oa3 hi];rfl
  rw[bf];obtain⟨bk,br⟩:=bj.2.2.2 i hi;refine⟨bk,fun j y=>?_,bi _ (Ob3 hi)⟩;have:=br j y;have bh:rs[i].getD j Jf=rs[i][j]:=by rw[Oa0,Oa3 y];rfl
  rw[bh];exact this
theorem Kff {E T rs}(h:Jbc E [(T,rs)])(K:Jel T.name T.types rs)(I:∀ r∈rs,∀ v∈r,Jg v.n):
  ∃ cs,Ye E [T] T.name=.inl cs/\Zt T.types cs/\nR cs=rs.length/\∀ i,i<rs.length->Ji cs i=rs.getD i []:=by
 obtain⟨cs,y,H⟩:=Qcb (h.tab (T,rs) zS) K I;exact⟨cs,by unfold Ye Jcm;simp[Ub,y],H⟩
def ndC (p:Nd):List Value:=[Iq p.op,Iq p.l,Iq p.r,.string p.tn,.slice p.xs.1 p.xs.2.1 p.xs.2.2,.slice p.ky.1 p.ky.2.1 p.ky.2.2,Iq p.kk]
theorem Jnj {w:World}{g:Nat}{xs:List Value}{t:TypeId}(h:w.heap[g]?=some (.cells xs.toArray t (0,0)))(i:Nat):w.cell? (Ar g i)=xs[i]?:=by
 simp[World.cell?,h]
theorem Jfm {w}{nb:Nat}{H:List Nd}{t:TypeId}(h:w.heap[nb]?=some (.cells (H.flatMap ndC).toArray t (0,0))):∀ (j:Nat) (nd:Nd),H[j]?=some nd->Zm w nb (0+j*7) nd:=fun j nd I=>by
 have y:∀ i,i<7->w.cell? (Ar nb (j*7+i))=(ndC nd)[i]?:=fun i hi=>by
  rw[Jnj h];exact Jek ndC 7 (fun _=>rfl) H j i nd I hi
 rw[Od0];exact⟨y 0 zo,y 1 zo,y 2 zo,y 3 zo,y 4 zo,y 5 zo,y 6 zo⟩
theorem Jfp {w}{g:Nat}{es:List Pt}{t:TypeId}(h:w.heap[g]?=some (.cells (es.flatMap ptC).toArray t (0,0))):∀ (k:Nat) (p:Pt),es[k]?=some p->Qi w g (0+k*7) p:=fun k p H=>by
 have y:∀ i,i<7->w.cell? (Ar g (k*7+i))=(ptC p)[i]?:=fun i hi=>by
  rw[Jnj h];exact Jek ptC 7 (fun _=>rfl) es k i p H hi
 rw[Od0];exact⟨y 0 zo,y 1 zo,y 2 zo,y 3 zo,y 4 zo,y 5 zo,y 6 zo⟩
theorem Jyd {w K H I pc e}(h:w.cell? (Aq K)=some (Sr H I e.length pc))(hp:∀ (k:Nat) (p:Pt),e[k]?=some p->Qi w H (I+k*7) p):Jaz w K 0 [e]:=fun j es y=>by
 match j,y with
 |0,y=>cases y;exact⟨H,I,pc,h,hp⟩
def Jcq:List PN:=[⟨0,0,Yh,[],[],0,0⟩,⟨2,0,⟨#[]⟩,[Jkp],[],0,0⟩]
theorem Jw6 {tys}(h:tys Yh=[1]):Jdk tys [[1],[1]] Jcq where
 len:=rfl
 ok:=fun j n y=>by
  match j,y with
  |0,y=>cases y;exact⟨[1],rfl,zd,fun _=>h.symm,fun h=>absurd h zd,fun h=>absurd h zd,fun h=>absurd h zd,fun h=>absurd h zd,fun h=>absurd h zd,fun h=>absurd h zd⟩
  |1,y=>
   cases y
   exact⟨[1],rfl,zd,fun h=>absurd h zd,fun h=>absurd h zd,fun _=>⟨[1],rfl,rfl,zd,zd,.inl ⟨rfl,rfl⟩⟩,fun h=>absurd h zd,fun h=>absurd h zd,fun h=>absurd h zd,fun h=>absurd h zd⟩
 ahead:=fun j n y i hi=>by
  match j,y with
  |0,y=>cases y;simp[Jg7]at hi
  |1,y=>cases y;simp[Jg7]at hi;subst hi;exact⟨zo,rfl⟩
 all:=fun i hi=>by
  have:i=0:=by simp[Jcq]at hi;omega
  subst this;rfl
 one:=zd
 few:=zd
theorem Khj:Kl Jkp [Za]=.inl ⟨1,42,⟨#[]⟩⟩:=zR
structure Kd3 (E:DS) (T:TS) (name:ByteArray) (ts:List Int) (rs:List (List V)) (cs:Cs):Prop where
 tab:Ye E [T] name=.inl cs
 good:Zt ts cs
 len:nR cs=rs.length
 row:∀ i,i<rs.length->Ji cs i=rs.getD i []
 tys:Jhd [T] name=ts
 find:Ub [T] name<[T].length
 ok:∀ T'∈[T],Jid E T'
 all:∀ T'∈[T],∀ cs',Zo E T'=.inl cs'->Zt T'.types cs'
theorem Jx2 {E T name ts rs}(h:Jbc E [(T,rs)])(Z:T.name=name)(ht:T.types=ts)(bf:Jel name ts rs)(Y:∀ r∈rs,∀ v∈r,Jg v.n):∃ cs,Kd3 E T name ts rs cs:=by
 subst Z ht;obtain⟨cs,y,I,M,O⟩:=Kff h bf Y;have H:Ub [T] T.name=0:=by simp[Ub]
 have bh:Ye E [T] T.name=Zo E T:=by unfold Ye Jcm;rw[H];rfl
 refine⟨cs,y,I,M,O,?_,by rw[H];simp,(Jrp h rfl).2,fun bi K bj U=>?_⟩
 ·unfold Jhd;rw[H];rfl
 rw[Oc6]at K;subst K;rw[bh,U]at y;cases y
 exact I
theorem Kc3 {tab:ByteArray->Cs⊕Nat}{cs}(h:tab Yh=.inl cs):Jac tab Jcq=Jcb [Jkp] cs/\Jbs ⟨2,0,⟨#[]⟩,[Jkp],[],0,0⟩ (stN tab Jcq 1)=cs:=by
 constructor
 ·simp[Jac,stN,Jcq,Jb3,Jkq,Jbs,h]
 simp[stN,Jcq,Jb3,Jkq,Jbs,h]
abbrev Jvf (y:Nat):List Nd:=[⟨0,0,0,Yh,(none,0,0),(none,0,0),0⟩,⟨2,0,0,⟨#[]⟩,(some (Aq y),1,1),(none,0,0),0⟩]
theorem Kwn n:Jg (wrap64 n):=by unfold Jg wrap64;omega
theorem Ky7:Jg Jf.n:=by unfold Jg Jf;decide
theorem Kxu {bs}{x:Int×List UInt8}(h:Jc7 bs=some x):Jg x.1:=by
 unfold Jc7 at h;split at h
 ·cases h
 cases h;exact Kwn _
theorem Kvn {t bs}{x:V×List UInt8}(h:Qz t bs=some x):Jg x.1.n:=by
 unfold Qz at h;split at h
 ·obtain⟨y,hy,rfl⟩:=Oe9.1 h;exact Kxu hy
 split at h
 ·obtain⟨y,hy,rfl⟩:=Oe9.1 h;have:=Jgx (n:=y.1) (rest:=y.2) hy;show Jg ((y.1:Nat):Int);unfold Jg;omega
 obtain⟨y,hy,rfl⟩:=Oe9.1 h;exact Ky7
theorem Kuu {t}:∀ (m:Nat) (bs:List UInt8) (x:List V×List UInt8),Yl t m bs=some x->∀ v∈x.1,Jg v.n
 |0,bs,x,h,v,hv=>by simp[Yl]at h;subst h;simp at hv
 |m+1,bs,x,h,v,hv=>by
  simp only[Yl]at h;split at h
  ·cases h
  rename_i vs r y
  obtain⟨H,hy,rfl⟩:=Oe9.1 h;simp only[Od2,Oc6]at hv;rcases hv with hv|rfl
  ·exact Kuu m bs (vs,r) y v hv
  exact Kvn hy
theorem Qb0 t least d:Jg (Jbq t least d).n:=Kwn _
theorem Kxc {t m bs}{x:List V×List UInt8}(h:Ux t m bs=some x):∀ v∈x.1,Jg v.n:=by
 have key:∀ (w k:Nat) (b:List UInt8) (l:Int),(Yj w k b).map (fun x=>(x.1.map (Jbq t l),x.2))=some x->∀ v∈x.1,Jg v.n:=fun w k b l h v hv=>by
  obtain⟨y,_,rfl⟩:=Oe9.1 h;obtain⟨d,_,rfl⟩:=Of0.1 hv;exact Qb0 _ _ _
 unfold Ux at h;split at h
 ·exact key _ _ _ _ h
 split at h
 ·cases h;simp
 split at h
 ·cases h
 split at h
 ·cases h
 split at h
 ·exact key _ _ _ _ h
 cases h
theorem Kzn {t m bs}{x:List V×List UInt8}(h:Jdd t m bs=some x):∀ v∈x.1,Jg v.n:=by
 unfold Jdd at h;split at h
 ·cases h
 split at h
 ·cases h
 rename_i ws M K
 split at h
 ·cases h
 rename_i ks O _
 split at h
 ·rename_i H
  cases h
  intro v hv;obtain⟨k,I,rfl⟩:=Of0.1 hv;have y:=H k I;rw[Oa0,Oa3 y,Option.getD_some];exact Kuu _ _ _ K _ (Ob3 y)
 cases h
theorem Kvw {t}:∀ (f m:Nat) (bs:List UInt8) (x:List V×List UInt8),Jdr t f m bs=some x->∀ v∈x.1,Jg v.n
 |f,0,bs,x,h,v,hv=>by rw[Jcn]at h;cases h;simp at hv
 |0,m+1,bs,x,h,v,hv=>by simp[Jdr]at h
 |f+1,m+1,bs,x,h,v,hv=>by
  simp only[Jdr]at h;split at h
  ·cases h
  split at h
  ·split at h
   ·cases h
   rename_i u I y
   obtain⟨H,hy,rfl⟩:=Oe9.1 h;simp only[Od2,List.mem_replicate]at hv;rcases hv with⟨_,rfl⟩|hv
   ·exact Kvn y
   exact Kvw f _ _ H hy v hv
  cases h
theorem Kvo:∀ (hs:List Nat)(vs:List V),(∀ v∈vs,Jg v.n)->∀ v∈Ys hs vs,Jg v.n
 |[],vs,h,v,hv=>by simp[Ys]at hv
 |a::hs,vs,h,v,hv=>by
  simp only[Ys]at hv;split at hv
  ·rcases Of1.1 hv with rfl|hv
   ·cases vs with
    |nil=>exact Ky7
    |cons u H=>exact h u zS
   exact Kvo hs _ (fun u y=>h u (List.mem_of_mem_tail y)) v hv
  rcases Of1.1 hv with rfl|hv
  ·exact Ky7
  exact Kvo hs vs h v hv
theorem Qa4 {bs t O vs}(h:Jbf bs=some (t,O,vs)):∀ v∈vs,okV (t:Int) v/\Jg v.n:=by
 have hp:=(Kz7 h).2.2.1;have H:Jfr t vs=true:=by
  unfold Jev at hp;split at hp
  ·rename_i M
   simp only[Og5]at M;exact M.2
  simp at hp
 unfold Jfr at H;simp only[Og5,List.all_eq_true]at H;unfold Jbf at h;split at h
 ·cases h
 split at h
 ·cases h
 rename_i ws r hv
 split at h
 ·cases h
  intro v I;refine⟨H.2 v I,?_⟩;unfold Ug at hv;split at hv
  ·cases hv
  obtain⟨U,hy,e⟩:=Oe9.1 hv;have K:=congrArg Prod.fst e;simp only at K;rw[<-K]at I;refine Kvo _ _ (fun u y=>?_) v I;unfold Jce at hy;split at hy
  ·exact Kuu _ _ _ hy u y
  split at hy
  ·exact Kzn hy u y
  split at hy
  ·exact Kvw _ _ _ _ hy u y
  exact Kxc hy u y
 cases h
theorem Kzw {D l t n vs}(h:Us D l t n=.inl vs):∀ v∈vs,okV t v/\Jg v.n:=by
 unfold Us at h;split at h
 ·cases h
 split at h
 ·rename_i ty _ H hp
  split at h
  ·rename_i y
   cases h
   rw[<-y.1];exact Qa4 hp
  cases h
 cases h
def Kxz (ts:List Int)(cs:List (List V)):Prop:=∀ c,∀ v∈cs.getD c [],okV (ts.getD c 0) v/\Jg v.n
theorem Kze {D M ts m cols}(h0:Kxz ts cols):∀ (k:Nat) (cs:List (List V)),Jh3 D M ts m cols k=.inl cs->Kxz ts cs
 |0,cs,h=>by cases h;exact h0
 |k+1,cs,h=>by
  simp only[Jh3]at h;split at h
  ·cases h
  rename_i I K
  split at h
  ·cases h
  rename_i vs hv
  cases h
  have H:=Kze h0 k I K;intro c v y;by_cases e:c=k
  ·subst e;by_cases hl:c<I.length
   ·rw[Oa0,Oh0 hl,Option.getD_some,Od2]at y;rcases y with y|y
    ·exact H c v y
    exact Kzw hv v y
   rw[List.set_eq_of_length_le zo]at y;exact H c v y
  rw[Oa0,Od1 (Oc5 e),<-Oa0]at y;exact H c v y
theorem Kzk {D ts}:∀ (xs:List (Nat×Nat)) (y:(List (List V)⊕Nat)×List (List Nat)),(∀ cs,y.1=.inl cs->Kxz ts cs)->∀ cs,(xs.foldl (Jpn D ts) y).1=.inl cs->Kxz ts cs
 |[],y,h,cs,e=>h cs e
 |x::xs,y,h,cs,e=>by
  refine Kzk xs (Jpn D ts y x) (fun K H=>?_) cs e;simp only[Jpn]at H;split at H
  ·cases H
  rename_i es I
  exact Kze (h es I) _ _ H
theorem Kuj {D:DS}{T:TS}(M:Jid D T){cs:Cs}(h:Zo D T=.inl cs):Zt T.types cs/\nR cs=T.rows:=by
 obtain⟨O,H⟩:=(Jmq D T M.group.1).2 cs h;have U:Kxz T.types cs:=Kzk _ _ (fun bf Z=>by cases Z;intro c v hv;rw[Oa0,Of3]at hv;split at hv<;>simp at hv) cs h;have bh:=M.cols;have K:nR cs=T.rows:=H 0 zo;refine⟨⟨O,zo,zo,fun j y=>(H j y).trans K.symm,by have:=M.rows;omega,fun i hi=>⟨by simp[Ji,O],fun j y=>?_,fun v hv=>?_⟩⟩,K⟩
 ·have I:j<cs.length:=by simpa [Ji] using y
  have hl:=(H j I).trans K.symm;rw[Oa0,Oa3 I,Option.getD_some]at hl;have:=(U j ((cs[j])[i]' zo) (by rw[Oa0,Oa3 I,Option.getD_some];exact Ob3 _)).1;simp only[Ji,Oa0,Ob1,Oa3 I,Option.map_some,Option.getD_some,Oa3 (show i<(cs[j]).length by omega)];rw[<-Oa0];exact this
 obtain⟨c,Y,rfl⟩:=Of0.1 hv;obtain⟨j,y,rfl⟩:=Od5 Y;have hl:=(H j y).trans K.symm;rw[Oa0,Oa3 y,Option.getD_some]at hl;rw[Oa0,Oa3 (show i<(cs[j]).length by omega),Option.getD_some];exact(U j _ (by rw[Oa0,Oa3 y,Option.getD_some];exact Ob3 _)).2
end
section
open Go.RowKit Tryz
theorem Kuc (c:Nat)w(y:c<4):Cq 14 #[Iq (c:Int),Iq 7] w fun e w'=>e=.returned (Iq (c:Int))/\w'=w:=by
 have h0:¬ ((c:Int)<0):=zo;have e:(c:Int) % 7=(c:Int):=zo;go_enter func14,ntmps14
 go_wp2;go_ret
 exact⟨by first|rfl|rw[e]|simp[e],rfl⟩
theorem Kxn v t w(ht:t=1\/t=2\/t=3)(h:okV t v):
  Cq 18 #[v.val,Iq t] w fun e w'=>e=.returned v.val/\Bq w w':=by
 obtain⟨k,n,s⟩:=v;simp only[okV,okB,okK,decide_eq_true_eq]at h;rcases h with⟨rfl,rfl,hs⟩|⟨rfl,H⟩
 ·obtain rfl:=Ja6 hs;go_enter func18,ntmps18
  go_wp2_with fail
  exact bodyPost_ret (v:=.agg #[iZ,iZ,.string ⟨#[]⟩]) (by simp[results,results18,go_sem]) rfl ⟨rfl,((Oa5 _ _).alloc (Oa2 _) _).alloc zS _⟩
 rcases H with⟨rfl,hs⟩|⟨rfl,M,hs⟩|⟨rfl,rfl,hs⟩
 ·obtain rfl:=Ja6 hs;go_enter func18,ntmps18
  go_wp2_with (go_at_call 14;refine(Kuc 1 _ zo).mono ?_;rintro e w1 ⟨rfl,y⟩;subst y)
  exact bodyPost_ret (v:=.agg #[Iq 1,Iq n,.string ⟨#[]⟩]) (by simp[results,results18,go_sem]) rfl ⟨rfl,((Oa5 _ _).alloc (Oa2 _) _).alloc zS _⟩
 ·obtain rfl:=Ja6 hs;have K:=Kb1 n;go_enter func18,ntmps18
  go_wp2_with (go_at_call 14;refine(Kuc 2 _ zo).mono ?_;rintro e w1 ⟨rfl,y⟩;subst y)
  have e:n % 2=n:=zo;exact bodyPost_ret (v:=.agg #[Iq 2,Iq (n % 2),.string ⟨#[]⟩]) (by simp[results,results18,go_sem]) rfl ⟨by rw[e],((Oa5 _ _).alloc (Oa2 _) _).alloc zS _⟩
 have I:¬ ((40:Int)<(s.size:Int)):=zo;go_enter func18,ntmps18
 go_wp2_with (go_at_call 14;refine(Kuc 3 _ zo).mono ?_;rintro e w1 ⟨rfl,y⟩;subst y)
 exact bodyPost_ret (v:=.agg #[Iq 3,iZ,.string s]) (by simp[results,results18,go_sem]) rfl ⟨rfl,((Oa5 _ _).alloc (Oa2 _) _).alloc zS _⟩
end
open Go.RowKit Go.Shelf Tryz
attribute [local go_sem] Oc0
theorem Jor n w:Cq 16 #[.string n] w fun e w'=>e=.returned (Nd.val ⟨0,0,0,n,(none,0,0),(none,0,0),0⟩)/\Bq w w':=by
 go_enter func16,ntmps16
 go_wp2;exact bodyPost_ret (v:=Nd.val ⟨0,0,0,n,(none,0,0),(none,0,0),0⟩) (by simp[results,results16,go_sem]) rfl ⟨rfl,Jc (Oa5 _ _) _⟩
theorem Kbg w:Cq 21 #[] w fun e w'=>e=.returned (.agg #[Iq 1000,Iq 1000,iZ,iZ])/\Bq w w':=by
 go_enter func21,ntmps21
 go_wp2;exact bodyPost_ret (v:=.agg #[Iq 1000,Iq 1000,iZ,iZ]) (by simp[results,results21,go_sem]) rfl ⟨rfl,Jc (Oa5 _ _) _⟩
