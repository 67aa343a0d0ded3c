/- Plans as they are meant: nodes, their schemas, what they tell; a plan's check. -/
import Derived.Test.YtnlnlamdilifcaaGreatDoorUc
import Derived.Test.YtnlnlamdilifcaaGreatDoorJr
import Derived.Test.YtnlnlamdilifcaaGreatDoorVd
import Derived.Test.YtnlnlamdilifcaaGreatDoorJq
set_option maxHeartbeats 4000000
set_option maxRecDepth 100000
namespace Go.Proofs.YtnlnlamdilifcaaGreatDoor
section
open Go.RowKit Go.Shelf Tryz
structure PN where
 op:Nat
 l:Nat
 tn:ByteArray
 es:List (List Pt)
 gk:List Krv
 r:Nat
 kk:Int
def Jg7 (n:PN):List Nat:=if n.op=0 then []else if n.op=3\/n.op=7 then [n.l,n.r]else [n.l]
def flN (ns:List PN)(j i:Nat):Bool:=(ns.take j).any fun n=>(Jg7 n).contains i
theorem Jtp {ns j n}(h:ns[j]?=some n)i:flN ns (j+1) i=(flN ns j i||(Jg7 n).contains i):=by
 unfold flN;rw[Oi7,h];simp
structure Jnm (w:World) (n:PN) (nd:Nd):Prop where
 op:nd.op=(n.op:Int)
 l:nd.l=(n.l:Int)
 tn:nd.tn=n.tn
 es:n.op=1\/n.op=2->∃ eb eo ec,nd.xs=(some (Ar eb eo),n.es.length,ec)/\n.es.length<=ec/\Jaz w eb eo n.es
 gk:n.op=3\/n.op=4\/n.op=5->∃ kb ko kc,nd.ky=(some (Ar kb ko),n.gk.length,kc)/\Klj w kb ko n.gk
 r:nd.r=(n.r:Int)
 kk:nd.kk=n.kk
 nx:n.op=5\/n.op=6->nd.xs.2.1=0/\(n.op=6->nd.ky.2.1=0)
theorem Jb0 {w:World}{b o:Nat}{v:Value}(h:w.cell? (Ar b o)=some v):b<w.heap.size:=by
 unfold World.cell? at h;cases e:w.heap[b]? with
 |none=>simp[e]at h
 |some x=>exact(Oe2.1 e).1
theorem Zx {B:Nat}{w w':World}{b o:Nat}{v:Value}(y:∀ k,k<B->w'.heap[k]?=w.heap[k]?)(h:w.cell? (Ar b o)=some v)(hb:b<B):w'.cell? (Ar b o)=some v:=by
 rw[<-h];simp only[World.cell?,y b hb]
theorem Jaz.under {w w' eb H}{I:List (List Pt)}(h:Jaz w eb H I)(y:∀ k,k<w.heap.size->w'.heap[k]?=w.heap[k]?):Jaz w' eb H I:=fun j es bj=>by
 obtain⟨bk,br,pc,K,bi⟩:=h j es bj;refine⟨bk,br,pc,Zx y K (Jb0 K),fun k p hp=>?_⟩;obtain⟨M,O,U,Y,Z,bf,bh⟩:=bi k p hp;exact⟨Zx y M (Jb0 M),Zx y O (Jb0 O),Zx y U (Jb0 U),Zx y Y (Jb0 Y),Zx y Z (Jb0 Z),Zx y bf (Jb0 bf),Zx y bh (Jb0 bh)⟩
theorem Klj.under {w w' kb ko ks}(h:Klj w kb ko ks)(y:∀ k,k<w.heap.size->w'.heap[k]?=w.heap[k]?):Klj w' kb ko ks:=fun j k O=>by
 obtain⟨H,I,K,M⟩:=h j k O;exact⟨Zx y H (Jb0 H),Zx y I (Jb0 I),Zx y K (Jb0 K),Zx y M (Jb0 M)⟩
structure Kik (tys:ByteArray->List Int) (scs:List (List Int)) (n:PN) (sch:List Int):Prop where
 le:n.op<=6
 scan:n.op=0->sch=tys n.tn
 filt:n.op=1->scs[n.l]?=some sch/\∃ e,n.es=[e]/\Uj sch e/\1<=e.length/\e.length<=12/\Jbk sch e=2
 proj:n.op=2->∃ sc,scs[n.l]?=some sc/\sch=n.es.map (Jbk sc)/\1<=n.es.length/\n.es.length<=6/\((n.es=[Jkp]/\sc=[1])\/∀ e∈n.es,Uj sc e/\1<=e.length/\e.length<=12)
 grp:n.op=4->∃ sc ky,scs[n.l]?=some sc/\sch=n.gk.map (tyK sc)/\n.es=[]/\n.gk.length<=4/\(∀ k∈n.gk,Kn7 sc k)/\n.gk[0]?=some ky/\ky.f=0
 join:n.op=3->∃ ls rs k,scs[n.l]?=some ls/\scs[n.r]?=some rs/\n.l≠n.r/\n.es=[]/\n.kk=(k:Nat)/\k<4/\1<=n.gk.length/\n.gk.length<=4/\(∀ y∈n.gk,Qd3 ls rs y)/\(k<2->ls.length+rs.length<=12)/\sch=if k<2 then ls++rs else ls
 sort:n.op=5->scs[n.l]?=some sch/\n.es=[]/\1<=n.gk.length/\n.gk.length<=4/\∀ k∈n.gk,k.c<sch.length
 limit:n.op=6->scs[n.l]?=some sch/\n.es=[]/\0<=n.kk/\n.kk<=1000
structure Jdk (tys:ByteArray->List Int) (scs:List (List Int)) (ns:List PN):Prop where
 len:scs.length=ns.length
 ok:∀ (j:Nat) (n:PN),ns[j]?=some n->∃ sch,scs[j]?=some sch/\Kik tys scs n sch
 ahead:∀ (j:Nat) (n:PN),ns[j]?=some n->∀ i∈Jg7 n,i<j/\flN ns j i=false
 all:∀ i,i+1<ns.length->flN ns ns.length i=true
 one:1<=ns.length
 few:ns.length<=12
theorem Jdk.unnamed {tys I ns}(h:Jdk tys I ns)j:flN ns (j+1) j=false:=by
 unfold flN;rw[List.any_eq_false];intro n H;obtain⟨i,hi⟩:=Ok2.1 H;rw[Oe7]at hi;split at hi
 ·intro y;have:=(h.ahead i n hi j (by simpa using y)).1;omega
 cases hi
theorem Kaf {w W X:World}{ev:Value}(hb:Bq w W)(H:∀ g,ev.ownBlock=some g->w.heap.size<=g)(I:W.grownBy X ev.ownBlock):∀ k,k<w.heap.size->X.heap[k]?=w.heap[k]?:=fun k y=>by
 rw[I.block k (Oc2 y hb.size) (fun e=>by have:=H k e.symm;omega)];exact hb.block k y
theorem Koi {tys H ns}(h:Jdk tys H ns){j n}(y:ns[j]?=some n){nd w}(hi:Jnm w n nd)(h0:n.op=0)s(U:∀ X,Bq w X->Cq 48 #[Pq s,.string n.tn] X fun e w'=>Bq X w'/\∃ g c,e=.returned (.tuple #[Sq g (tys n.tn).length c,.bool true])/\X.heap.size<=g/\g<w'.heap.size/\Kc w' (some (Aq g)) (tys n.tn)):
  Jvz w (.func (.func 48) #[Pq s] #[]) H (flN ns) nd j:=by
 obtain⟨sch,hs,ok⟩:=h.ok j n y;refine⟨by rw[hi.op];omega,by rw[hi.op];omega,sch,hs,fun W ev ks hb Z hC hK=>?_⟩;have K:Jm5 nd.op=114:=by rw[hi.op,h0];rfl
 rw[K];have O:=ok.scan h0;have:=Kc7 (w.heap.size+2) (w.heap.size+1) s ev ks nd sch W hC fun X I=>by
  have:=U X (Jb hb I);rw[hi.tn,O];exact this
 refine this.mono fun e Y hp=>⟨ks,rfl,fun i k M=>?_,hp⟩;rw[Jtp y,hK.flg i k M];simp[Jg7,h0]
theorem Km2 {tys K ns}(h:Jdk tys K ns){j n}(M:ns[j]?=some n){nd w}(hi:Jnm w n nd)(h0:n.op≠0)(Z:¬ (n.op=3\/n.op=7))O sch(hs:K[j]?=some sch)(bf:∀ W ev (ks:List Kn),Bq w W->(∀ g,ev.ownBlock=some g->w.heap.size<=g)->Jed (w.heap.size+2) (w.heap.size+1) O ev ks W->∀ I:n.l<ks.length,ks[n.l].2=false->K[n.l]?=some ks[n.l].1.2.2 ->
   Cq (Jm5 nd.op) #[Pq (w.heap.size+1),nd.val] W (Jq3 (w.heap.size+2) (w.heap.size+1) O ev (ks.set n.l (ks[n.l].1,true)) sch W)):
  Jvz w O K (flN ns) nd j:=by
 obtain⟨_,_,ok⟩:=h.ok j n M;have bC:=ok.le;refine⟨by rw[hi.op];omega,by rw[hi.op];omega,sch,hs,fun W ev ks hb bh hC hK=>?_⟩;have bz:=Jtp M;have Y:Jg7 n=[n.l]:=by unfold Jg7;rw[if_neg h0,if_neg Z]
 obtain⟨br,bi⟩:=h.ahead j n M n.l (by rw[Y];exact Oc6.2 rfl);have I:n.l<ks.length:=by rw[hK.len];exact br
 have U:ks[n.l]?=some ks[n.l]:=Oa3 I;have bk:ks[n.l].2=false:=by rw[hK.flg n.l _ U];exact bi
 have bA:=hK.sch n.l _ U;have bx:(ks.set n.l (ks[n.l].1,true)).map (·.1)=ks.map (·.1):=by
  rw[Op0];apply Oi8;intro i;rw[Op2];by_cases y:n.l=i
  ·subst y;rw[if_pos rfl];simp[I]
  rw[if_neg y]
 have bj:∀ (i:Nat) (k:Kn),(ks.set n.l (ks[n.l].1,true))[i]?=some k->k.2=flN ns (j+1) i:=fun i k H=>by
  rw[bz,Y];rw[Op2]at H;by_cases y:n.l=i
  ·subst y;rw[if_pos rfl]at H;simp only[I,if_true]at H;cases H
   simp
  rw[if_neg y]at H;rw[hK.flg i k H];have:([n.l]:List Nat).contains i=false:=by simp;exact fun e=>y e.symm
  rw[this,Bool.or_false]
 exact(bf W ev ks hb bh hC I bk bA).mono fun e bB hp=>⟨_,bx,bj,hp⟩
theorem Qa6 {w W ev pl ex}(hb:Bq w W)(I:∀ g,ev.ownBlock=some g->w.heap.size<=g)(hp:w.cell? (Aq 8)=some (Ie 435 pl))(H:w.cell? (Aq 9)=some (Ie 435 ex)):PlG W ev pl ex:=
 ⟨fun _ y=>Zx (Kaf hb I y) hp (Jb0 hp),fun _ y=>Zx (Kaf hb I y) H (Jb0 H)⟩
def kyZ (k:Krv):Qed:=⟨(k.c:Nat),k.o,k.d,(k.f:Nat)⟩
theorem Kxt {tys Z ns}(h:Jdk tys Z ns){j n}(H:ns[j]?=some n){nd w}(hi:Jnm w n nd)(y:n.op=5)K{pl ex}(hp:w.cell? (Aq 8)=some (Ie 435 pl))(bi:w.cell? (Aq 9)=some (Ie 435 ex)):Jvz w K Z (flN ns) nd j:=by
 obtain⟨sch,hs,ok⟩:=h.ok j n H;refine Km2 h H hi zo zo K sch hs fun W ev ks hb O hC bk bj br=>?_;obtain⟨kb,ko,kc,U,bx⟩:=hi.gk (.inr (.inr y));obtain⟨Y,_,bz,bA,bB⟩:=ok.sort y;have bh:Jm5 nd.op=119:=by rw[hi.op,y];rfl
 rw[bh];rw[br]at Y;cases Y
 have:=Kzu (w.heap.size+2) (w.heap.size+1) K ev ks nd ⟨nd.op,nd.l,nd.r,nd.tn,[],n.gk.map kyZ,nd.kk⟩ n.l W hC hi.l bk bj pl ex (Qa6 hb O hp bi) fun X bf=>⟨rfl,rfl,rfl,rfl,rfl,(hi.nx (.inl y)).1,fun j es H=>by simp at H,by rw[U,Oa6],fun j k I=>by
  rw[Ob1]at I;obtain⟨M,hy,rfl⟩:=Oe9.1 I;have:=(bx.under (Kaf hb O bf)) j M hy;exact⟨kb,ko,by rw[U],this⟩⟩
 have hq:Qai ks[n.l].1.2.2 ⟨nd.op,nd.l,nd.r,nd.tn,[],n.gk.map kyZ,nd.kk⟩=some ks[n.l].1.2.2:=by
  unfold Qai;rw[if_pos];refine⟨by simp only[Oa6];exact⟨bz,bA⟩,fun k I=>?_⟩;obtain⟨M,hy,rfl⟩:=Of0.1 I;have:=bB M hy;unfold tyI kyZ;rw[if_pos ⟨zS,by simpa using this⟩];rfl
 rw[hq]at this;exact this
theorem Kw7 {tys M ns}(h:Jdk tys M ns){j n}(H:ns[j]?=some n){nd w}(hi:Jnm w n nd)(y:n.op=6)I{pl ex}(hp:w.cell? (Aq 8)=some (Ie 435 pl))(U:w.cell? (Aq 9)=some (Ie 435 ex)):Jvz w I M (flN ns) nd j:=by
 obtain⟨sch,hs,ok⟩:=h.ok j n H;refine Km2 h H hi zo zo I sch hs fun W ev ks hb Y hC bh bf bi=>?_;obtain⟨K,_,bj,bk⟩:=ok.limit y;have O:Jm5 nd.op=120:=by rw[hi.op,y];rfl
 rw[O];rw[bi]at K;cases K
 have:=Kyl (w.heap.size+2) (w.heap.size+1) I ev ks nd ⟨nd.op,nd.l,nd.r,nd.tn,[],[],nd.kk⟩ n.l W hC hi.l bh bf pl ex (Qa6 hb Y hp U) fun X br=>⟨rfl,rfl,rfl,rfl,rfl,(hi.nx (.inr y)).1,fun j es H=>by simp at H,(hi.nx (.inr y)).2 y,fun j k Z=>by simp at Z⟩;have hq:Kyp ks[n.l].1.2.2 ⟨nd.op,nd.l,nd.r,nd.tn,[],[],nd.kk⟩=some ks[n.l].1.2.2:=by
  unfold Kyp;rw[if_pos];show 0<=nd.kk/\nd.kk<=1000;rw[hi.kk];exact⟨bj,bk⟩
 rw[hq]at this;exact this
theorem Jvh {tys:ByteArray->List Int}{H:List (List Int)}{ns:List PN}(h:Jdk tys H ns)(nb no M:Nat)(y:List Nd)(hl:y.length=ns.length)(s:Nat)w(O:∀ (j:Nat) (nd:Nd),y[j]?=some nd->Zm w nb (no+j*7) nd)(Y:∀ (j:Nat) (n:PN) (nd:Nd),ns[j]?=some n->y[j]?=some nd->Jvz w (.func (.func 48) #[Pq s] #[]) H (flN ns) nd j):
  Cq 47 #[.agg #[Sr nb no y.length M],.func (.func 48) #[Pq s] #[]] w fun e w'=>∃ (I:List Sch) (sv:Value),e=.returned (.tuple #[sv,.nilIface])/\Bq w w'/\Jo w' (w.heap.size+2) 22 sv (I.map Jbl)/\I.map (·.2.2)=H/\∀ s∈I,Kc w' s.1 s.2.2/\∀ g o,s.1=some (Ar g o)->w.heap.size<=g:=by
 have Z:=h.one;have bf:=h.few;refine Jrc nb no M y 48 _ H (flN ns) w O zo zo (by rw[h.len,hl]) (fun j nd K=>?_) h.unnamed (fun i hi=>by rw[hl]at hi |-;exact h.all i hi);have U:j<ns.length:=by rw[<-hl];exact(Ob9.1 K).1
 exact Y j _ nd (Oa3 U) K
end
section
open Go.RowKit Go.Shelf
abbrev Cs:=List (List V)
def nR (cs:Cs):Nat:=(cs.getD 0 []).length
structure Zt (sch:List Int) (cs:Cs):Prop where
 len:cs.length=sch.length
 one:1<=cs.length
 few:cs.length<=1000
 rows:∀ j,j<cs.length->(cs.getD j []).length=nR cs
 many:nR cs<=100000
 ty:∀ i,i<nR cs->Jee sch (Ji cs i)
def Jbs (n:PN)(st:List (Option Cs)):Cs:=(st.getD n.l none).getD []
def csR (n:PN)(st:List (Option Cs)):Cs:=(st.getD n.r none).getD []
def jnN (n:PN)(st:List (Option Cs)):List Int:=jnL n.kk.toNat n.gk (Jbs n st) (csR n st) (nR (Jbs n st)) (nR (csR n st))
def Jba (ks:List Nat)(cs:Cs):Cs:=cs.map (Yq (ks.map fun (i:Nat)=>(i:Int)))
def Jcb (es:List (List Pt))(cs:Cs):Cs:=es.map fun e=>(List.range (nR cs)).map fun i=>pv1 e (Ji cs i)
def Kk9 (gk:List Krv)(cs:Cs):List (List V):=Klt [] (mkL gk cs) (List.range (nR cs))
def Klk (gk:List Krv)(cs:Cs):List V->List Tly:=tfB gk cs (List.range (nR cs))
def Kln (gk:List Krv)(cs:Cs):Cs:=tcI gk (Kk9 gk cs) (Klk gk cs) (Kk9 gk cs).length 0
def Krd (gk:List Krv)(cs:Cs):Prop:=Klz gk (Kk9 gk cs) (Klk gk cs) (Kk9 gk cs).length 0
def Kr6 (ks:List Krv)(cs:Cs)(i j:Nat):Int:=Ks7 ks (Kr5 cs i) (Kr5 cs j)
def Jkq (tab:ByteArray->Cs⊕Nat)(n:PN)(st:List (Option Cs)):Cs:=
 if n.op=0 then (tab n.tn).elim id fun _=>[]else if n.op=1 then Jba (Yf (n.es.getD 0 []) (Jbs n st) (nR (Jbs n st))) (Jbs n st)else if n.op=4 then Kln n.gk (Jbs n st)else if n.op=3 then Qdi n.kk.toNat n.gk (Jbs n st) (csR n st) (nR (Jbs n st)) (nR (csR n st))else if n.op=5 then Jba (Ksi (Kr6 n.gk (Jbs n st)) (List.range (nR (Jbs n st)))) (Jbs n st)else if n.op=6 then Jba (List.range (min n.kk.toNat (nR (Jbs n st)))) (Jbs n st)else Jcb n.es (Jbs n st)
def Jb3 (tab:ByteArray->Cs⊕Nat)(n:PN)(st:List (Option Cs)):List (Option Cs):=(if n.op=0 then st else if n.op=3\/n.op=7 then (st.set n.l none).set n.r none else st.set n.l none)++[some (Jkq tab n st)]
def stN (tab:ByteArray->Cs⊕Nat)(ns:List PN)(j:Nat):List (Option Cs):=(ns.take j).foldl (fun s n=>Jb3 tab n s) []
theorem Jma {tab:ByteArray->Cs⊕Nat}{ns j n}(h:ns[j]?=some n):stN tab ns (j+1)=Jb3 tab n (stN tab ns j):=by
 unfold stN;rw[Oi7,h,Ol1];rfl
def Jlw (tab:ByteArray->Cs⊕Nat)(n:PN)(st:List (Option Cs)):Prop:=(n.op=0->∃ cs,tab n.tn=.inl cs)/\(n.op≠0->∀ i,i<nR (Jbs n st)->∀ e∈n.es,∃ v,Kl e (Ji (Jbs n st) i)=.inl v)/\(n.op=4->Krd n.gk (Jbs n st))/\(n.op=3->(jnN n st).length<=2000)
theorem Jix (tab:ByteArray->Cs⊕Nat)n(st:List (Option Cs)):(Jb3 tab n st).length=st.length+1:=by
 unfold Jb3;rw[Oa8];split
 ·rfl
 split<;>simp
theorem Jhh (tab:ByteArray->Cs⊕Nat)ns:∀ j,j<=ns.length->(stN tab ns j).length=j
 |0,_=>by simp[stN]
 |j+1,h=>by
  rw[Jma (Oa3 (by omega:j<ns.length)),Jix,Jhh tab ns j zo]
theorem Jot ks cs i(hi:i<ks.length):Ji (Jba ks cs) i=Ji cs ks[i]:=by
 unfold Ji Jba Yq;rw[Oi6];refine Oj9 fun c _=>?_;simp only[Function.comp_apply];rw[Oa0,Ob1,Ob1,Oa3 hi];simp only[Option.map_some,Option.getD_some,Int.toNat_natCast];rw[if_neg zo]
theorem Jr8 ks cs(h:1<=cs.length):nR (Jba ks cs)=ks.length:=by
 unfold nR Jba;rw[Oa0,Ob1,Oa3 (by omega:0<cs.length)];simp[Yq]
theorem Ju7 {sch cs}(h:Zt sch cs)ks(I:∀ k∈ks,k<nR cs)(hl:ks.length<=100000):Zt sch (Jba ks cs):=by
 have H:=Jr8 ks cs h.one;refine⟨by unfold Jba;rw[Oa6];exact h.len,by unfold Jba;rw[Oa6];exact h.one,by unfold Jba;rw[Oa6];exact h.few,fun j y=>?_,zo,fun i hi=>?_⟩
 ·rw[H];unfold Jba at y |-;rw[Oa6]at y;rw[Oa0,Ob1,Oa3 y];simp[Yq]
 rw[H]at hi;rw[Jot ks cs i hi];exact h.ty _ (I _ (Ob3 hi))
theorem Jjj (es:List (List Pt))cs i(hi:i<nR cs):Ji (Jcb es cs) i=es.map fun e=>pv1 e (Ji cs i):=by
 unfold Jcb;conv=>lhs;unfold Ji
 rw[Oi6];refine Oj9 fun e _=>?_;simp only[Function.comp_apply];rw[Oa0,Ob1,Oh6 hi];rfl
theorem Jm1 (es:List (List Pt))cs(h:1<=es.length):nR (Jcb es cs)=nR cs:=by
 conv=>lhs;unfold nR Jcb
 rw[Oa0,Ob1,Oa3 (by omega:0<es.length)];simp
section
variable {sc:List Int} {cs:Cs} {gk:List Krv}
end
structure Khz (tys:ByteArray->List Int) (scs:List (List Int)) (tab:ByteArray->Cs⊕Nat) (ns:List PN) (j:Nat):Prop where
 good:∀ (l:Nat) (cs:Cs),(stN tab ns j)[l]?=some (some cs)->∃ sch,scs[l]?=some sch/\Zt sch cs
 there:∀ (l:Nat),l<j->flN ns j l=false->∃ cs,(stN tab ns j)[l]?=some (some cs)
theorem Kzg {tys H ns}(h:Jdk tys H ns){tab:ByteArray->Cs⊕Nat}{j n}(O:ns[j]?=some n)(I:Khz tys H tab ns j){i}(hi:i∈Jg7 n):∃ cs sc,(stN tab ns j)[i]?=some (some cs)/\((stN tab ns j).getD i none).getD []=cs/\H[i]?=some sc/\Zt sc cs:=by
 obtain⟨U,K⟩:=h.ahead j n O i hi;obtain⟨cs,y⟩:=I.there i U K;obtain⟨sc,Y,M⟩:=I.good i cs y;exact⟨cs,sc,y,by rw[Oa0,y];rfl,Y,M⟩
def Kwa (op:Nat):Prop:=∀ {tys:ByteArray->List Int} {y:List (List Int)} {ns:List PN} {tab:ByteArray->Cs⊕Nat} {j:Nat} {n:PN} {sch:List Int},Jdk tys y ns->ns[j]?=some n->n.op=op->Kik tys y n sch->Khz tys y tab ns j->Jlw tab n (stN tab ns j)->Zt sch (Jkq tab n (stN tab ns j))
def Kwr (tys:ByteArray->List Int)(y:List (List Int))(ns:List PN)(tab:ByteArray->Cs⊕Nat)(n:PN):Prop:=∀ {j:Nat} {sch:List Int},ns[j]?=some n->Kik tys y n sch->Khz tys y tab ns j->Jlw tab n (stN tab ns j)->Zt sch (Jkq tab n (stN tab ns j))
abbrev Ktc (tys:ByteArray->List Int)(y:List (List Int))(ns:List PN)(tab:ByteArray->Cs⊕Nat):Prop:=∀ n∈ns,n.op≠0->Kwr tys y ns tab n
theorem Kwa.at {tys y ns}{tab:ByteArray->Cs⊕Nat}{n}(H:Jdk tys y ns)(h:Kwa n.op):Kwr tys y ns tab n:=fun M ok I K=>h H M rfl ok I K
theorem Kzl:Kwa 5:=fun {tys bh ns tab j n sch} h O H ok M bf=>by
 obtain⟨cs,sc,Z,y,Y,I⟩:=Kzg h O M (i:=n.l) (by unfold Jg7;rw[if_neg zo,if_neg zo];simp);have y:Jbs n (stN tab ns j)=cs:=y;unfold Jkq;rw[if_neg zo,if_neg zo,if_neg zo,if_neg zo,if_pos H,y];obtain⟨K,_⟩:=ok.sort H;rw[Y]at K;cases K
 exact Ju7 I _ (fun k U=>Oj4.1 ((Ksb _ _).mem_iff.1 U)) (by rw[(Ksb _ _).length_eq,Op1];exact I.many)
theorem Kyy:Kwa 6:=fun {tys bi ns tab j n sch} h O H ok M bf=>by
 obtain⟨cs,sc,Z,y,Y,I⟩:=Kzg h O M (i:=n.l) (by unfold Jg7;rw[if_neg zo,if_neg zo];simp);have y:Jbs n (stN tab ns j)=cs:=y;unfold Jkq;rw[if_neg zo,if_neg zo,if_neg zo,if_neg zo,if_neg zo,if_pos H,y];obtain⟨K,_⟩:=ok.limit H;rw[Y]at K;cases K
 have bh:=I.many;exact Ju7 I _ (fun k U=>by have:=Oj4.1 U;omega) (by rw[Op1];omega)
theorem Kcs {tys H ns}(h:Jdk tys H ns){tab:ByteArray->Cs⊕Nat}(O:Ktc tys H ns tab)(ht:∀ n∈ns,n.op=0->∀ cs,tab n.tn=.inl cs->Zt (tys n.tn) cs){j n}(y:ns[j]?=some n)(M:Khz tys H tab ns j)(K:Jlw tab n (stN tab ns j)):∃ sch,H[j]?=some sch/\Zt sch (Jkq tab n (stN tab ns j)):=by
 obtain⟨sch,hs,ok⟩:=h.ok j n y;refine⟨sch,hs,?_⟩;by_cases h0:n.op=0
 ·unfold Jkq;rw[if_pos h0];obtain⟨cs,I⟩:=K.1 h0;rw[I,ok.scan h0];exact ht n (Of6 y) h0 cs I
 exact O n (Of6 y) h0 y ok M K
theorem Jqw {tys bi ns}(h:Jdk tys bi ns){tab:ByteArray->Cs⊕Nat}(bk:Ktc tys bi ns tab)(ht:∀ n∈ns,n.op=0->∀ cs,tab n.tn=.inl cs->Zt (tys n.tn) cs):∀ j,j<=ns.length->(∀ (k:Nat) (n:PN),k<j->ns[k]?=some n->Jlw tab n (stN tab ns k))->Khz tys bi tab ns j
 |0,_,_=>⟨fun l cs hl=>by simp[stN]at hl,fun l hl=>absurd hl (Oe0 _)⟩
 |j+1,bC,bj=>by
  have O:ns[j]?=some ns[j]:=Oa3 zo;have bh:=Jqw h bk ht j zo fun k n bD y=>bj k n zo y;have bA:=bj j _ zo O;have hlen:=Jhh tab ns j zo;obtain⟨I,M⟩:∃ I,I=(if ns[j].op=0 then stN tab ns j else if ns[j].op=3\/ns[j].op=7 then ((stN tab ns j).set ns[j].l none).set ns[j].r none else (stN tab ns j).set ns[j].l none):=⟨_,rfl⟩;have K:I.length=j:=by
   rw[M];split
   ·exact hlen
   split<;>simp[hlen]
  have bx:stN tab ns (j+1)=I++[some (Jkq tab ns[j] (stN tab ns j))]:=by rw[Jma (tab:=tab) O,M];rfl
  have bf:∀ {s:List (Option Cs)} {i l:Nat} {x:Cs},(s.set i none)[l]?=some (some x)->s[l]?=some (some x):=fun {s i l x} y=>by
   rw[Op2]at y;split at y
   ·split at y<;>cases y
   exact y
  have bB:∀ l x,l<j->(I++[some (Jkq tab ns[j] (stN tab ns j))])[l]?=some (some x)->(stN tab ns j)[l]?=some (some x):=fun l x hl y=>by
   rw[Ob0 (by rw[K];exact hl),M]at y;split at y
   ·exact y
   split at y
   ·exact bf (bf y)
   exact bf y
  have br:(I++[some (Jkq tab ns[j] (stN tab ns j))])[j]?=some (some (Jkq tab ns[j] (stN tab ns j))):=by
   rw[Ob6 (by rw[K];exact Oa2 _),K,Oe1];rfl
  refine⟨fun l cs y=>?_,fun l hl Z=>?_⟩
  ·rw[bx]at y;have bE:l<j+1:=by
    have:=(Ob9.1 y).1;rw[Oa8,K]at this;exact this
   by_cases e:l=j
   ·subst e;rw[br]at y;cases y
    exact Kcs h bk ht O bh bA
   exact bh.good l cs (bB l cs zo y)
  rw[bx];by_cases e:l=j
  ·subst e;exact⟨_,br⟩
  rw[Jtp O,Bool.or_eq_false_iff]at Z;obtain⟨cs,Y⟩:=bh.there l zo Z.1;refine⟨cs,?_⟩;have H:∀ i∈Jg7 ns[j],i≠l:=fun i hi bz=>by
   have:=Z.2;rw[List.contains_eq_any_beq,List.any_eq_false]at this;exact this i hi (by rw[bz];simp)
  rw[Ob0 (by rw[K];omega),M];unfold Jg7 at H;split
  ·exact Y
  rename_i h0
  rw[if_neg h0]at H;split
  ·rename_i U
   rw[if_pos U]at H;rw[Op2,if_neg (H ns[j].r zS),Op2,if_neg (H ns[j].l zS)];exact Y
  rename_i U
  rw[if_neg U]at H;rw[Op2,if_neg (H ns[j].l zS)];exact Y
structure Sg (ts:List Int) (cs:Cs) (ks:List Krv):Prop where
 good:Zt ts cs
 keys:∀ k∈ks,k.c<cs.length
 nk:ks.length<=1000000
 few:ts.length<=100
 tys:∀ c,c<ts.length->1<=ts.getD c 0/\ts.getD c 0<=3
section
variable {ts:List Int} {cs:Cs} {ks:List Krv}
theorem Sg.val (h:Sg ts cs ks){i c}(hi:i<nR cs)(y:c<cs.length):okV (ts.getD c 0) ((cs.getD c []).getD i Jf)/\Jg ((cs.getD c []).getD i Jf).n:=by
 obtain⟨K,H,I⟩:=h.good.ty i hi;have e:(Ji cs i).getD c Jf=(cs.getD c []).getD i Jf:=by
  unfold Ji;rw[Oa0,Ob1,Oa3 y,Oa0 (l:=cs),Oa3 y];rfl
 rw[<-e];have hl:c<(Ji cs i).length:=by rw[Yk];exact y
 refine⟨H c hl,I _ ?_⟩;rw[Oa0,Oa3 hl];exact Ob3 hl
theorem Krw ids cs:(Jba ids cs).length=cs.length:=by simp[Jba]
theorem Kr8 ids{c}(y:c<cs.length):(Jba ids cs).getD c []=ids.map fun i=>(cs.getD c []).getD i Jf:=by
 unfold Jba;rw[Oa0,Ob1,Oa3 y,Oa0 (l:=cs),Oa3 y];simp only[Option.map_some,Option.getD_some,Yq,Oi6];refine Oj9 fun i _=>?_;simp only[Function.comp];rw[if_neg zo,Int.toNat_natCast]
theorem Kr0 ids{c}(y:c<cs.length):((Jba ids cs).getD c []).length=ids.length:=by rw[Kr8 ids y,Oa6]
theorem Kx7 {a b:Cs}(hl:a.length=b.length)(h:∀ c,c<a.length->a.getD c []=b.getD c []):a=b:=by
 refine Oh4 hl fun c y H=>?_;have:=h c y;rw[Oa0,Oa3 y,Oa0,Oa3 H]at this;exact this
theorem Kwh {a:Cs}(f:List V->List V){c:Nat}(y:c<a.length):(a.map f).getD c []=f (a.getD c []):=by
 rw[Oa0,Ob1,Oa3 y,Oa0,Oa3 y];rfl
theorem Ktg ids cs f t:(Jba ids cs).map (Jbx f t)=Jba ((ids.take t).drop f) cs:=by
 refine Kx7 (by simp[Jba]) fun c y=>?_;rw[Oa6,Krw]at y;rw[Kwh _ (by rw[Krw];exact y),Kr8 ids y,Kr8 _ y];unfold Jbx;rw[<-List.map_take,<-List.map_drop]
theorem Kt1 (h:Zt ts cs):Jba (List.range (nR cs)) cs=cs:=by
 refine Kx7 (Krw _ _) fun c y=>?_;rw[Krw]at y;rw[Kr8 _ y];have hl:=h.rows c y;generalize cs.getD c []=x at *;refine Oh4 (by rw[Oa6,Op1,hl]) fun i I H=>?_;rw[Od9,Oo7,Oa0,Oa3 H];rfl
theorem Ky2 ids cs m g(H:∀ i,i<m->g i<ids.length):(Jba ids cs).map (Yq (Ktp m g))=Jba ((List.range m).map fun i=>ids.getD (g i) 0) cs:=by
 refine Kx7 (by simp[Jba]) fun c y=>?_;rw[Oa6,Krw]at y;rw[Kwh _ (by rw[Krw];exact y),Kr8 ids y,Kr8 _ y];unfold Yq Ktp;rw[Oi6,Oi6];refine Oj9 fun i hi=>?_;have hi:=H i (by simpa using hi);simp only[Function.comp];rw[if_neg zo,Int.toNat_natCast];simp[List.getD_eq_getElem?_getD,List.getElem?_eq_getElem hi]
theorem Kt3 ids{c t}(y:c<cs.length)(ht:t<ids.length):Kr5 (Jba ids cs) t c=Kr5 cs (ids.getD t 0) c:=by
 unfold Kr5;rw[Kr8 ids y];simp[List.getD_eq_getElem?_getD,List.getElem?_eq_getElem ht,Jf]
theorem Kua:∀ (ks:List Krv){r s y H:Nat->V},(∀ k∈ks,r k.c=y k.c/\s k.c=H k.c)->Ks7 ks r s=Ks7 ks y H
 |[],_,_,_,_,_=>rfl
 |k::ks,r,s,y,H,h=>by
  have I:=h k zS;unfold Ks7;rw[I.1,I.2,Kua ks fun M K=>h M (Og1 _ K)]
theorem Qaz (h:Sg ts cs ks)ids{a b}(H:a<ids.length)(hb:b<ids.length):Ks7 ks (Kr5 (Jba ids cs) a) (Kr5 (Jba ids cs) b)=Kr6 ks cs (ids.getD a 0) (ids.getD b 0):=
 Kua ks fun k y=>⟨Kt3 ids (h.keys k y) H,Kt3 ids (h.keys k y) hb⟩
theorem Qbi (h:Sg ts cs ks)ids y{a b}(I:a<ids.length)(hb:b<y.length):Ks7 ks (Kr5 (Jba ids cs) a) (Kr5 (Jba y cs) b)=Kr6 ks cs (ids.getD a 0) (y.getD b 0):=
 Kua ks fun k H=>⟨Kt3 ids (h.keys k H) I,Kt3 y (h.keys k H) hb⟩
theorem Sg.okt (h:Sg ts cs ks):∀ k∈ks,∀ v∈cs.getD k.c [],OkT (ts.getD k.c 0) v:=fun k M v hv=>by
 have y:=h.keys k M;obtain⟨i,hi,rfl⟩:=Od5 hv;have K:i<nR cs:=by rw[<-h.good.rows k.c y];exact hi
 have:=(h.val K y).1;have e:(cs.getD k.c []).getD i Jf=(cs.getD k.c [])[i]:=by rw[Oa0 (l:=cs.getD k.c []),Oa3 hi];rfl
 rw[e]at this;rcases Jgh this with e|⟨H,I,_⟩
 ·exact .inl e
 exact .inr ⟨H,I⟩
theorem Sg.ord (h:Sg ts cs ks):Kse (Kr6 ks cs):=Kx0 (fun c=>ts.getD c 0) ks cs h.okt
theorem Sg.ordP (h:Sg ts cs ks)ids(K:∀ i∈ids,i<nR cs):Kse fun i j=>Ks7 ks (Kr5 (Jba ids cs) i) (Kr5 (Jba ids cs) j):=
 Kx0 (fun c=>ts.getD c 0) ks (Jba ids cs) fun k y v hv=>by
  rw[Kr8 ids (h.keys k y),Of0]at hv;obtain⟨i,hi,rfl⟩:=hv;have:=(h.val (K i hi) (h.keys k y)).1;rcases Jgh this with e|⟨H,I,_⟩
  ·exact .inl e
  exact .inr ⟨H,I⟩
theorem Sg.keyC (h:Sg ts cs ks)ids(I:ids.length<=100000):Qa8 ks (Jba ids cs) ids.length:=
 ⟨fun j y=>Kr0 ids (by rw[Krw]at y;exact y),fun k H=>by rw[Krw];exact h.keys k H,by rw[Krw];exact h.good.few,by rw[Krw];exact h.good.one,I,h.nk⟩
theorem Sg.inI (h:Sg ts cs ks){ids}(I:∀ i∈ids,i<nR cs):∀ c∈Jba ids cs,∀ v∈c,Jg v.n:=fun c H v hv=>by
 obtain⟨j,y,rfl⟩:=Od5 H;rw[Krw]at y;have e:(Jba ids cs)[j]'(by rw[Krw];exact y)=(Jba ids cs).getD j []:=by rw[Oa0,Oa3 (by rw[Krw];exact y)];rfl
 rw[e,Kr8 ids y,Of0]at hv;obtain⟨i,hi,rfl⟩:=hv;exact(h.val (I i hi) y).2
theorem Sg.lay (h:Sg ts cs ks){ids}(U:∀ i∈ids,i<nR cs)(hl:ids.length<=64):Ky1 ts (Jba ids cs) ids.length/\Kr4 ts (Jba ids cs) ts.length≠[]/\(Qu (Kr4 ts (Jba ids cs) ts.length)).length<=11000:=by
 have hlen:=h.good.len;have bh:=h.good.one;have Z:=h.few;have I:∀ c,c<ts.length->way (ts.getD c 0) 0=true/\Jdq (ts.getD c 0) ((Jba ids cs).getD c []):=fun c y=>by
  refine⟨by have:=h.tys c y;unfold way;exact decide_eq_true zo,by rw[Kr0 ids zo];exact hl,fun j H=>?_⟩;have key:∀ (x:List V) (M:x=ids.map fun i=>(cs.getD c []).getD i Jf) (H:j<x.length),okV (ts.getD c 0) x[j]:=fun x M H=>by
   subst M;rw[Od9];exact(h.val (U _ (Ob3 _)) (by omega:c<cs.length)).1
  exact key _ (Kr8 ids (by omega:c<cs.length)) H
 have K:∀ c,c<ts.length->(Ksq ts (Jba ids cs) c).length<=6100/\Ksq ts (Jba ids cs) c≠[]:=fun c y=>Khf _ 0 _ (I c y).2;have htot:∀ k,k<=ts.length->(Kr4 ts (Jba ids cs) k).length<=6100*k:=by
  intro k;induction k with
  |zero=>intro _;simp[Kr4]
  |succ k Y=>intro bf;rw[Ksl,Oa8];have:=Y zo;have:=(K k zo).1;omega
 have ht:=htot ts.length (Oa2 _);refine⟨⟨by rw[Krw];exact hlen,fun c y=>Kr0 ids zo,I,zo,zo⟩,fun e=>?_,?_⟩
 ·have O:=Kww ts (Jba ids cs) 1 (ts.length-1);rw[show 1+(ts.length-1)=ts.length by omega,e,show (1:Nat)=0+1 from rfl,Ksl,Oa8]at O;have:=(K 0 zo).2;have h0:0<(Ksq ts (Jba ids cs) 0).length:=Oi9.2 this;rw[List.length_nil]at O;omega
 have:=Jio (Kr4 ts (Jba ids cs) ts.length);omega
end
end
section
open Go.RowKit
structure Top (D E:DS) (ls:List (List Nat)):Prop where
 nd:ls.flatten.Nodup
 free:∀ j∈ls.flatten,pg D j=none
 use:∀ j∈ls.flatten,∃ p,pg E j=some p
 rest:∀ j,j∉ls.flatten->pg E j=pg D j
 quota:E.quota=D.quota
 fail:E.fail=D.fail
theorem Top.refl D:Top D D []:=⟨List.nodup_nil,zS,zS,fun _ _=>rfl,rfl,rfl⟩
theorem Top.same {D E H I}(h:Top D E I)(s:Kft E H):Top D H I:=
 ⟨h.nd,h.free,fun j y=>by rw[s.pages];exact h.use j y,fun j y=>by rw[s.pages];exact h.rest j y,s.quota.trans h.quota,s.fail.trans h.fail⟩
theorem Top.perm {D E H I}(h:Top D E H)(p:H.Perm I):Top D E I:=by
 have hp:=p.flatten;exact⟨hp.nodup_iff.1 h.nd,fun j y=>h.free j (hp.mem_iff.2 y),fun j y=>h.use j (hp.mem_iff.2 y),fun j y=>h.rest j fun x=>y (hp.mem_iff.1 x),h.quota,h.fail⟩
theorem Jjo.some_ {D E ps l}(h:Jjo D E ps l){j}(y:j∈l):∃ p,pg E j=some p:=by
 obtain⟨i,hi,rfl⟩:=Od5 y;exact⟨_,h.held i hi⟩
theorem Top.laid {D E M H ps l}(h:Top D E H)(k:Jjo E M ps l):Top D M (H++[l]):=by
 have K:∀ j,j∈H.flatten->j∉l:=fun j y hl=>by
  obtain⟨p,hp⟩:=h.use j y;rw[k.free j hl]at hp;cases hp
 have I:(H++[l]).flatten=H.flatten++l:=zS;refine⟨?_,fun j y=>?_,fun j y=>?_,fun j y=>?_,k.quota.trans h.quota,k.fail.trans h.fail⟩
 ·rw[I];exact Op3.2 ⟨h.nd,k.nodup,fun a O b hb e=>K a O (e▸hb)⟩
 ·rw[I,Od2]at y;rcases y with y|y
  ·exact h.free j y
  rw[<-h.rest j fun x=>K j x y];exact k.free j y
 ·rw[I,Od2]at y;rcases y with y|y
  ·rw[k.other j (K j y)];exact h.use j y
  exact k.some_ y
 rw[I,Od2]at y;rw[k.other j fun x=>y (.inr x)];exact h.rest j fun x=>y (.inl x)
theorem zbf {p:Prop}(h:p:=by
 rw[H,Od2,Od2];rcases y with y|y
 ·exact .inl y
 exact .inr (.inr y)):p:=h
theorem Top.rel {D E a b l}(h:Top D E (a++l::b)):Top D (Jf4 E l) (a++b):=by
 have H:(a++l::b).flatten=a.flatten++(l++b.flatten):=zS;have I:(a++b).flatten=a.flatten++b.flatten:=zS;have M:=h.nd;rw[H]at M;obtain⟨Y,Z,n3⟩:=Op3.1 M;obtain⟨bj,bf,bh⟩:=Op3.1 Z;have K:=Jin l E;have O:∀ j,j∈a.flatten\/j∈b.flatten->j∉l:=fun j y hl=>by
  rcases y with y|y
  ·exact n3 j y j (Od2.2 (.inl hl)) rfl
  exact bh j hl j y rfl
 refine⟨?_,fun j y=>?_,fun j y=>?_,fun j y=>?_,K.1.trans h.quota,K.2.1.trans h.fail⟩
 ·rw[I];exact Op3.2 ⟨Y,bf,fun x U bi hy=>n3 x U bi (Od2.2 (.inr hy))⟩
 ·rw[I,Od2]at y;refine h.free j ?_;exact zbf
 ·rw[I,Od2]at y;rw[Jx3,if_neg (O j y)];refine h.use j ?_;exact zbf
 rw[I,Od2]at y;rw[Jx3];by_cases hl:j∈l
 ·rw[if_pos hl];exact(h.free j (by rw[H,Od2,Od2];exact .inr (.inl hl))).symm
 rw[if_neg hl];refine h.rest j fun x=>?_;rw[H,Od2,Od2]at x;rcases x with x|x|x
 ·exact y (.inl x)
 ·exact hl x
 exact y (.inr x)
theorem Top.done {D E}(h:Top D E []):Kft D E:=⟨fun j=>h.rest j zS,Jz2 fun j=>h.rest j zS,h.quota,h.fail⟩
theorem Top.held {D E H I ps l y t}(h:Top D E I)(k:Jjo E H ps l)(hl:y∈I)(s:Jan E y t):Jan H y t:=
 s.keep fun i hi=>k.other i fun x=>by
  obtain⟨p,hp⟩:=h.use i (List.mem_flatten.2 ⟨y,hl,hi⟩);rw[k.free i x]at hp;cases hp
theorem Top.held_rel {D E a b l y t}(h:Top D E (a++l::b))(hl:y∈a++b)(s:Jan E y t):Jan (Jf4 E l) y t:=
 s.keep fun i hi=>by
  rw[Jx3,if_neg];intro I;have K:(a++l::b).flatten=a.flatten++(l++b.flatten):=zS;have H:=h.nd;rw[K]at H;obtain⟨_,M,n3⟩:=Op3.1 H;obtain⟨_,_,O⟩:=Op3.1 M;rcases Od2.1 hl with hl|hl
  ·exact n3 i (List.mem_flatten.2 ⟨y,hl,hi⟩) i (Od2.2 (.inl I)) rfl
  exact O i I i (List.mem_flatten.2 ⟨y,hl,hi⟩) rfl
theorem Jan.same {E y l t}(s:Jan E l t)(h:Kft E y):Jan y l t:=s.keep fun i _=>h.pages i
end
open Go.RowKit Go.Shelf Tryz
structure Bk where
 ids:List Nat
 l:List Nat
 la:Option Addr
 lc:Nat
 pa:Option Addr
 pc:Nat
def Bk.cells (tn:Nat)(b:Bk):List Value:=[Iq (b.ids.length:Nat),.slice b.la tn b.lc,.slice b.pa b.l.length b.pc]
structure Rn where
 place:Nat
 bs:List Bk
 held:List Nat
structure Kv0 (w:World) (N:Nat->Prop) (ts:List Int) (cs:Cs) (b:Bk):Prop where
 lens:Uh w b.la ((Ks9 ts (Jba b.ids cs) ts.length).map nv)
 pages:Uh w b.pa (b.l.map nv)
 ln:∀ x o,b.la=some (Ar x o)->N x
 pn:∀ x o,b.pa=some (Ar x o)->N x
def Ktk (w:World)(N:Nat->Prop)(cs:Cs)(ids:List Nat)(hv:Value):Prop:=
 (ids=[]/\hv=Sz)\/(ids≠[]/\∃ hb hs cap,hv=Sq hb cs.length cap/\Qd w hb hs (Jba ids cs)/\N hb/\∀ j b o,j<cs.length->(Yo hs j).1=some (Ar b o)->N b)
structure Ksp (w:World) (N:Nat->Prop) (ts:List Int) (cs:Cs) (rb:Nat) (R:Rn) (ba:Option Addr) (bc:Nat) (hv:Value):Prop where
 cells:w.heap[rb]?=some (.cells #[Iq (R.place:Nat),.slice ba R.bs.length bc,hv] 368 (0,0))
 arr:Uh w ba (R.bs.flatMap (Bk.cells ts.length))
 an:∀ x o,ba=some (Ar x o)->N x
 cap:R.bs.length<=bc
 blk:∀ b∈R.bs,Kv0 w N ts cs b
 held:Ktk w N cs R.held hv
 nr:¬ N rb
 lt:∀ k,N k->k<w.heap.size
section
variable {w w':World} {N G:Nat->Prop} {ts:List Int} {cs:Cs} {rb:Nat} {R:Rn} {ba:Option Addr} {bc:Nat} {hv:Value}
theorem Uh.on {a xs}(h:Uh w a xs)(hs:w.heap.size<=w'.heap.size)(y:∀ x o,a=some (Ar x o)->w'.heap[x]?=w.heap[x]?):Uh w' a xs:=h.of_block hs fun b o e _=>y b o e
theorem Kv0.on {b}(h:Kv0 w N ts cs b)(hs:w.heap.size<=w'.heap.size)(y:∀ k,N k->w'.heap[k]?=w.heap[k]?):Kv0 w' N ts cs b:=
 ⟨h.lens.on hs fun x o e=>y x (h.ln x o e),h.pages.on hs fun x o e=>y x (h.pn x o e),h.ln,h.pn⟩
theorem Kv0.mono {y b}(h:Kv0 w N ts cs b)(H:∀ k,N k->y k):Kv0 w y ts cs b:=⟨h.lens,h.pages,fun x o e=>H x (h.ln x o e),fun x o e=>H x (h.pn x o e)⟩
theorem Qd.on {g:Nat}{hs:List (Option Addr×Nat)}{y:Cs}(h:Qd w g hs y)(M:w.heap.size<=w'.heap.size)(I:w'.heap[g]?=w.heap[g]?)(K:∀ j b o,j<y.length->(Yo hs j).1=some (Ar b o)->w'.heap[b]?=w.heap[b]?):Qd w' g hs y:=
 ⟨h.row.of_block I,fun j H=>(h.vals j H).of_block M fun b o e _=>K j b o H e,h.cap⟩
theorem Ktk.on {ids}(h:Ktk w N cs ids hv)(hs:w.heap.size<=w'.heap.size)(K:∀ k,N k->w'.heap[k]?=w.heap[k]?):Ktk w' N cs ids hv:=by
 rcases h with h|⟨M,hb,Y,cap,O,U,y,H⟩
 ·exact .inl h
 exact .inr ⟨M,hb,Y,cap,O,U.on hs (K hb y) fun j b o I e=>K b (H j b o (by rw[Krw]at I;exact I) e),y,H⟩
theorem Ksp.on (h:Ksp w N ts cs rb R ba bc hv)(hs:w.heap.size<=w'.heap.size)(hr:w'.heap[rb]?=w.heap[rb]?)(y:∀ k,N k->w'.heap[k]?=w.heap[k]?):Ksp w' N ts cs rb R ba bc hv:=
 ⟨hr.trans h.cells,h.arr.on hs fun x o e=>y x (h.an x o e),h.an,h.cap,fun b hb=>(h.blk b hb).on hs y,h.held.on hs y,h.nr,fun k H=>Oc2 (h.lt k H) hs⟩
theorem Ksp.keep (h:Ksp w N ts cs rb R ba bc hv)(y:Ju G w w')(hr:¬ G rb)(I:∀ k,N k->¬ G k):Ksp w' N ts cs rb R ba bc hv:=
 h.on y.size (y.block rb (Jd h.cells) hr) fun k H=>y.block k (h.lt k H) (I k H)
theorem Ksp.fields (h:Ksp w N ts cs rb R ba bc hv):w.cell? (Aq rb)=some (Iq (R.place:Nat))/\w.cell? (Ar rb 1)=some (.slice ba R.bs.length bc)/\w.cell? (Ar rb 2)=some hv/\∀ i,w.frozen? ⟨rb,i,none⟩=false:=Ksm h.cells
end
structure Qec (w:World) (sb d tb to_ tc kb ko kc:Nat) (ts:List Int) (ks:List Krv):Prop where
 c0:w.cell? (Aq sb)=some (Sr tb to_ ts.length tc)
 c3:w.cell? (Ar sb 3)=some (Pq d)
 ty:Kc w (some (Ar tb to_)) ts
 key:Kx2 w sb kb ko kc ks
theorem Qbu w:Cq 71 #[Sz] w fun e w'=>e=.returned iZ /\w'=w:=by
 go_enter func71,ntmps71
 go_wp2;go_ret
 exact⟨rfl,rfl⟩
theorem Ky3 sb rb ts cs ks R ba bc hv w N(bi:Sg ts cs ks)(h:Ksp w N ts cs rb R ba bc hv)(Z:1<R.held.length)(bL:R.held.length<=100000):
  Cq 213 #[Pq sb,Pq rb] w fun e w'=>e=.returned (.tuple #[.bool true,.nilIface])/\Ju (fun k=>k=rb) w w'/\∃ Y bC,Ksp w' Y ts cs rb ⟨R.place,R.bs,R.held.tail⟩ ba bc bC/\∀ k,Y k->N k\/w.heap.size<=k:=by
 obtain⟨bE,bG,bH,bx⟩:=h.fields;have bI:=bx 2;have y:=zh h;rcases h.held with⟨e,_⟩|⟨_,hb,hs,cap,rfl,hC,bK,bz⟩
 ·rw[e]at Z;simp at Z
 have U:=bi.good.one;have c0:=hC.row.cell (i:=0) (by rw[Krw];exact U);rw[Kr0 R.held U]at c0;have bA:=Jlg hb cs.length cap _ R.held.length _ w U c0;have bh:=Kdx hb cap hs (Jba R.held cs) R.held.length 1 R.held.length w hC (fun j H=>Kr0 R.held (by rw[Krw]at H;exact H)) zo (Oa2 _) (by rw[Krw];exact bi.good.few);rw[Krw,Ktg,Of2,List.drop_one]at bh;have bJ:(1:Int)<(R.held.length:Int):=zo;have bB:=Jd y.out.cells;clear h c0;go_enter func213,ntmps213
 go_wp2_with (first|(go_at_call 71;refine bA.mono ?_;rintro e X ⟨rfl,K⟩;subst X)|(go_at_call 130;refine bh.mono ?_;rintro e O ⟨M,rfl,bf⟩;have z1:=(M.block rb bB).trans y.out.cells;obtain⟨bN,bO,bP,bD⟩:=Ksm z1;have bQ:=bD 2))
 go_ret2
 have bj:=M.size;have K:∀ k,k≠rb->(O.setCell (Ar rb 2) (Sq w.heap.size cs.length cs.length)).heap[k]?=O.heap[k]?:=fun k I=>Oa4 _ _ _ _ I;have bM:=bf.row.lt;have bk:∀ k,N k->(O.setCell (Ar rb 2) (Sq w.heap.size cs.length cs.length)).heap[k]?=w.heap[k]?:=fun k I=>(K k fun e=>y.out.nr (e▸I)).trans (M.block k (y.out.lt k I));have hcut:∀ j b o,j<cs.length->(Yo (Jnt hs cs.length 1 R.held.length) j).1=some (Ar b o)->N b:=fun j b o H e=>by
  rcases hC.vals j (by rw[Krw];exact H)with h0|⟨ab,ao,ha,hl,_⟩
  ·have:=Kr0 R.held H;rw[h0]at this;simp at this;omega
  rw[Jmn H ha e];exact bz j ab ao H ha
 refine⟨rfl,Ju.set (F:=fun k=>k=rb) (Ju.of_below M) rfl 2 _,fun k=>N k\/k=w.heap.size,_,⟨?_,y.out.arr.on (by simp;exact bj) fun x o e=>bk x (y.out.an x o e),fun x o e=>.inl (y.out.an x o e),y.out.cap,fun b hb=>((y.out.blk b hb).on (by simp;exact bj) bk).mono fun k I=>.inl I,.inr ⟨?_,w.heap.size,_,cs.length,rfl,?_,.inr rfl,fun j b o H e=>.inl (hcut j b o H e)⟩,?_,fun k I=>?_⟩,fun k I=>I.imp id (fun h=>zo)⟩
 ·rw[Jk z1];simp
 ·intro e;have:=congrArg List.length e;simp at this;omega
 ·exact bf.on zS (K _ zo) fun j b o H e=>K b fun br=>y.out.nr (br▸hcut j b o (by rw[Krw]at H;exact H) e)
 ·intro h;rcases h with h|h
  ·exact y.out.nr h
  omega
 rcases I with h|h
 ·have:=y.out.lt k h;simp;omega
 simp;omega
theorem Ktk.len {w N cs ids hv}(h:Ktk w N cs ids hv)(y:1<=cs.length):Cq 71 #[hv] w fun e w'=>e=.returned (Iq (ids.length:Int))/\w'=w:=by
 rcases h with⟨rfl,rfl⟩|⟨_,hb,hs,cap,rfl,hC,_⟩
 ·exact Qbu w
 have c0:=hC.row.cell (i:=0) (by rw[Krw];exact y);rw[Kr0 ids y]at c0;exact Jlg hb cs.length cap _ ids.length _ w y c0
theorem Ksp.drop {w N ts cs rb R ba bc hv}(h:Ksp w N ts cs rb R ba bc hv):Ksp (w.setCell (Ar rb 2) Sz) N ts cs rb ⟨R.place,R.bs,[]⟩ ba bc Sz :=by
 have H:∀ k,N k->(w.setCell (Ar rb 2) Sz).heap[k]?=w.heap[k]?:=fun k y=>Oa4 _ _ _ _ fun e=>h.nr ((show k=rb from e)▸y);refine⟨by rw[Jk h.cells];simp,h.arr.on zS fun x o e=>H x (h.an x o e),h.an,h.cap,fun b hb=>(h.blk b hb).on zS H,.inl ⟨rfl,rfl⟩,h.nr,fun k y=>by simpa using h.lt k y⟩
theorem Kyx sb rb ts cs ks R ba bc hv w N(M:Sg ts cs ks)(h:Ksp w N ts cs rb R ba bc hv)(bf:R.held.length<=1)(hb:R.bs=[]):
  Cq 213 #[Pq sb,Pq rb] w fun e w'=>e=.returned (.tuple #[.bool false,.nilIface])/\Ju (fun k=>k=rb) w w'/\Ksp w' N ts cs rb ⟨R.place,[],[]⟩ ba bc Sz :=by
 obtain⟨U,I,Y,K⟩:=h.fields;have Z:=K 2;have O:=h.held.len M.good.one;have y:=h.drop;rw[hb]at y I;have H:=zh y;have bh:¬ (1:Int)<(R.held.length:Int):=zo;have bj:(([]:List Bk).length:Int)=0:=rfl;clear h y hb;go_enter func213,ntmps213
 go_wp2_with (go_at_call 71;refine O.mono ?_;rintro e X ⟨rfl,bi⟩;subst X)
 go_ret2
 exact⟨rfl,Ju.set (F:=fun k=>k=rb) (Ju.refl _ _) rfl 2 _,H.out⟩
structure Qcq (w:World) (sb d tb to_ tc kb ko kc:Nat) (ts:List Int) (ks:List Krv) (a0 a1 a2 q qw pg:Addr):Prop where
 so:Qec w sb d tb to_ tc kb ko kc ts ks
 er:Jf0 w a0 a1 a2
 cq:w.cell? (Aq 5)=some (Ie 435 q)
 cw:w.cell? (Aq 6)=some (Ie 435 qw)
 cp:w.cell? (Aq 7)=some (Ie 435 pg)
theorem Ksp.took {y O K N F ts cs rb place M U bc g b bs hs A C}(H:Ksp y N ts cs rb ⟨place,b::bs,[]⟩ (some (Ar M U)) bc Sz)(br:Bq y O)(bi:Ju F O K)(bG:∀ k,N k->¬ F k)(hF:∀ k,F k->k<y.heap.size)(bf:Qd O g hs (Jba b.ids cs))(bh:Qaw y O hs cs.length)(bz:y.heap.size<=g)(bI:b.ids≠[])(Z:(A=some (Ar M (U+3))/\C=bc-1)\/(bs=[]/\A=some (Ar M U)/\C=0))(bL:K.heap[rb]?=some (.cells #[Iq (place:Nat),Sr M U (bs.length+1) bc,Sz] 368 (0,0))):
  Ksp ((K.setCell (Ar rb 1) (.slice A bs.length C)).setCell (Ar rb 2) (Sq g cs.length cs.length)) (fun k=>N k\/(y.heap.size<=k/\k<O.heap.size)) ts cs rb ⟨place,bs,b.ids⟩ A C (Sq g cs.length cs.length):=by
 have bP:=br.size;have bQ:=bi.size;have bO:=Jd H.cells;have bk:∀ k,k≠rb->((K.setCell (Ar rb 1) (.slice A bs.length C)).setCell (Ar rb 2) (Sq g cs.length cs.length)).heap[k]?=K.heap[k]?:=fun k I=>(Oa4 _ _ _ _ I).trans (Oa4 _ _ _ _ I);have bB:∀ k,N k->((K.setCell (Ar rb 1) (.slice A bs.length C)).setCell (Ar rb 2) (Sq g cs.length cs.length)).heap[k]?=y.heap[k]?:=fun k I=>by
  have hl:=H.lt k I;rw[bk k fun e=>H.nr (e▸I),bi.block k zo (bG k I),br.block k hl]
 have bA:∀ k,y.heap.size<=k->k<O.heap.size->((K.setCell (Ar rb 1) (.slice A bs.length C)).setCell (Ar rb 2) (Sq g cs.length cs.length)).heap[k]?=O.heap[k]?:=fun k bN bE=>by
  rw[bk k zo,bi.block k bE (fun h=>by have:=hF k h;omega)]
 have bR:((K.setCell (Ar rb 1) (.slice A bs.length C)).setCell (Ar rb 2) (Sq g cs.length cs.length)).heap.size=K.heap.size:=zS;refine⟨?_,?_,fun x o e=>?_,?_,fun bC bH=>((H.blk bC (Og1 _ bH)).on zo bB).mono fun k I=>.inl I,.inr ⟨bI,g,hs,cs.length,rfl,?_,.inr ⟨bz,bf.row.lt⟩,fun j x o Y e=>.inr (bh j Y x o e)⟩,fun h=>?_,fun k I=>?_⟩
 ·have bJ:=Jk bL 1 (.slice A bs.length C);have bK:=Jk bJ 2 (Sq g cs.length cs.length);rw[bK];simp
 ·by_cases bx:bs=[]
  ·exact .inl (by rw[bx];rfl)
  rcases Z with⟨rfl,rfl⟩|⟨h,_⟩
  ·rcases H.arr with e|⟨x,o,bj,bM,bD⟩
   ·simp[Bk.cells]at e
   simp at bj;obtain⟨rfl,rfl⟩:=bj;refine .inr ⟨M,U+3,rfl,zo,fun i v hi=>?_⟩;have:=bD (3+i) v (by simp[Bk.cells];rw[Nat.add_comm];simpa [Bk.cells] using hi);rw[<-On5]at this;rw[Oc3 (w:=y) (bB M (H.an M U rfl))];exact this
  exact absurd h bx
 ·rcases Z with⟨rfl,rfl⟩|⟨_,rfl,_⟩<;>(simp at e;obtain⟨rfl,rfl⟩:=e;exact .inl (H.an M U rfl))
 ·have:=H.cap;simp only[List.length_cons]at this |-;rcases Z with⟨_,rfl⟩|⟨rfl,_,rfl⟩
  ·omega
  exact Ob7 _
 ·exact bf.on zo (bA g bz bf.row.lt) fun j x o Y e=>by
   rw[Krw]at Y;exact bA x (bh j Y x o e).1 (bh j Y x o e).2
 ·rcases h with h|h
  ·exact H.nr h
  omega
 rcases I with h|h
 ·have:=H.lt k h;omega
 omega
theorem Kxv sb d tb to_ tc kb ko kc rb ts cs ks a0 a1 a2 q qw pg R b bs ba bc hv w N F D(bL:Sg ts cs ks)(h:Ksp w N ts cs rb R ba bc hv)(cX:R.held.length<=1)(hb:R.bs=b::bs)(bX:∀ X,Ju (fun k=>F k\/k=rb) w X->Qcq X sb d tb to_ tc kb ko kc ts ks a0 a1 a2 q qw pg)(bV:Zb w F d D)(hF:∀ k,F k->k<w.heap.size)(bG:∀ k,N k->¬ F k)(bz:¬ F rb)(cQ:¬ F sb)(cb:∀ i∈b.ids,i<nR cs)(bI:1<=b.ids.length/\b.ids.length<=64)(hh:Jan D b.l (Kr4 ts (Jba b.ids cs) ts.length))(cc:b.l.length<=1000000):
  Cq 213 #[Pq sb,Pq rb] w fun e w'=>e=.returned (.tuple #[.bool true,.nilIface])/\Ju (fun k=>F k\/k=rb) w w'/\Zb w' F d (Jf4 D b.l)/\∃ bQ cD cE cR,Ksp w' bQ ts cs rb ⟨R.place,bs,b.ids⟩ cD cE cR/\∀ k,bQ k->N k\/w.heap.size<=k:=by
 obtain⟨cF,bT,cG,bU⟩:=h.fields;have cH:=bU 2;have cf:=h.held.len bL.good.one;have bK:=h.drop;have bM:=h.arr;have bJ:=h.cap;rw[hb]at bK bT bM bJ;obtain⟨y,H,rfl,cL,cN⟩:∃ y H,ba=some (Ar y H)/\y<w.heap.size/\∀ i v,((b::bs).flatMap (Bk.cells ts.length))[i]?=some v->w.cell? (Ar y (H+i))=some v:=by
  rcases bM with e|⟨x,o,bk,bS,bE⟩
  ·simp[Bk.cells]at e
  exact⟨x,o,bk,bS,bE⟩
 have I:=zh bK;have cW:Hid (rb<w.heap.size):=Jd h.cells;have cY:¬ (1:Int)<(R.held.length:Int):=zo;have cV:(((b::bs).length:Int)==0)=false:=by rw[beq_eq_false_iff_ne,List.length_cons];omega
 have dd:(0:Int)<((b::bs).length:Int):=by rw[List.length_cons];omega
 have cu:Ju (fun k=>F k\/k=rb) w (w.setCell (Ar rb 2) Sz):=Ju.set (Ju.refl _ _) (.inr rfl) 2 _;have bW:Zb (w.setCell (Ar rb 2) Sz) F d D:=bV.stands fun k O _=>Oa4 _ _ _ _ fun e=>bz ((show k=rb from e)▸O);have bi:Hid (Ju (fun k=>F k\/k=rb) w (w.setCell (Ar rb 2) Sz)/\Zb (w.setCell (Ar rb 2) Sz) F d D):=⟨cu,bW⟩;have cB:=zh bX;clear h bK bM hb cu bW bX bU bV;go_enter func213,ntmps213
 go_upto_region 8 with(go_at_call 71;refine cf.mono ?_;rintro e X ⟨rfl,bH⟩;subst X)
 have cn:(w.setCell (Ar rb 2) Sz).heap.size=w.heap.size:=zS;clear cF bT cG cH cN cL cf cV;generalize w.setCell (Ar rb 2) Sz=K at *;have Z:=cB.out K bi.out.1;have cP:=bL.lay cb bI.2;obtain⟨cS,cy,cT,cU⟩:=I.out.fields;have bx:=I.out.blk b zS;have br:∀ i v,((b::bs).flatMap (Bk.cells ts.length))[i]?=some v->K.cell? (Ar y (H+i))=some v:=by
  rcases I.out.arr with e|⟨x,o,bk,bS,bE⟩
  ·simp[Bk.cells]at e
  simp at bk;obtain⟨rfl,rfl⟩:=bk;exact bE
 have cx:=br 0 (Iq (b.ids.length:Nat)) (by simp[Bk.cells]);have x1:=br 1 (.slice b.la ts.length b.lc) (by simp[Bk.cells]);have x2:=br 2 (.slice b.pa b.l.length b.pc) (by simp[Bk.cells]);rw[Nat.add_zero]at cx;have bN:=Ky6 sb tb to_ tc ts (Jba b.ids cs) b.ids.length b.la b.lc b.pa b.l b.pc K F d D pg a0 a1 a2 Z.so.c0 Z.so.c3 Z.so.ty cP.1 (bL.inI cb) bi.out.2 bx.lens bx.pages cc hh.read Z.cp Z.er;unfold Qc7 at bN;rw[Krw]at bN;have bh:Hid (¬ F y/\y<K.heap.size/\rb<K.heap.size/\K.heap.size=w.heap.size):=by
  refine⟨bG y (I.out.an y H rfl),I.out.lt y (I.out.an y H rfl),Jd I.out.cells,cn⟩
 have cC:Hid (∀ X,Bq K X->Cq 89 #[Pq d,.slice b.pa b.l.length b.pc] X fun e w'=>e=.returned (.tuple #[])/\Zb w' F d (Jf4 D b.l)/\Ju F X w'):=fun X bH=>Ki0 d b.pa b.pc b.l X F D (bi.out.2.below bH) (bx.pages.below bH) (fun x o e=>bG x (bx.pn x o e)) cc;clear br cn;go_wp2_with (go_at_call 251;refine bN.mono ?_;rintro e bR ⟨M,g,hs,rfl,cO,cJ,cK⟩)
 have bP:=Ja M Z.so.c3;have bA:=Ja M cy;have bO:=Ja M x2;simp only[List.length_cons]at bA;go_region_held3 (fun X=>X.cell? (Ar sb 3)=some (Pq d)/\X.cell? (Ar rb 1)=some (Sr y H (bs.length+1) bc)/\X.cell? (Ar y (H+2))=some (.slice b.pa b.l.length b.pc))
  (first|(exact⟨bP,bA,bO⟩)|(exact bY)|(go_split_ands;refine⟨?_,?_,?_⟩<;>assumption))
  (first|(go_at_call 89;refine(cC.out _ (Jp M 1)).mono ?_;rintro e bj ⟨rfl,ca,bf⟩;have U:Ju F bR bj:=⟨bf.os,bf.tape,bf.output,bf.size,bf.block⟩;clear bf;have bY:=And.intro (U.cell bP cQ) (And.intro (U.cell bA bz) (U.cell bO bh.out.1))))
 have cz:bj.heap[rb]?=some (.cells #[Iq (R.place:Nat),Sr y H (bs.length+1) bc,Sz] 368 (0,0)):=(U.block rb (Oc2 bh.out.2.2.1 M.size) bz).trans ((M.block rb bh.out.2.2.1).trans (by have:=I.out.cells;simpa using this));obtain⟨u0,u1,u2,cv⟩:=Ksm cz;have db:=cv 1;have dc:=cv 2;have cZ:(1:Int)<=(bc:Int):=by simp at bJ;omega
 clear bA bO bP bY cS cy cT cU cx x1 x2;have ht:=fun (A:Option Addr) (C:Nat) (cI:(A=some (Ar y (H+3))/\C=bc-1)\/(bs=[]/\A=some (Ar y H)/\C=0))=>Ksp.took (A:=A) (C:=C) I.out M U bG (fun k O=>by have:=hF k O;have:=bh.out;omega) cJ cK cO (fun e=>by rw[e]at bI;simp at bI) cI cz;have bD:Hid _:=ht;clear ht;have Y:Hid (∀ v bB:Value,Ju (fun k=>F k\/k=rb) w ((bj.setCell (Ar rb 1) v).setCell (Ar rb 2) bB)/\Zb ((bj.setCell (Ar rb 1) v).setCell (Ar rb 2) bB) F d (Jf4 D b.l)):=fun v bB=>by
  refine⟨(((bi.out.1.trans (Ju.of_below M)).trans (U.mono fun k _ h=>.inl h)).set (.inr rfl) 1 v).set (.inr rfl) 2 bB,ca.stands fun k O _=>?_⟩;have ci:k≠rb:=fun e=>bz (e▸O);exact(Oa4 _ _ _ _ ci).trans (Oa4 _ _ _ _ ci)
 have cj:∀ k,(N k\/(K.heap.size<=k/\k<bR.heap.size))->N k\/w.heap.size<=k:=fun k O=>O.imp id fun h=>by have:=bh.out;omega
 have bC:=zh cj;clear cj ca U;by_cases cM:bc=1
 ·have bZ:bs.length=0:=by simp at bJ;omega
  have cA:Hid (bs=[]):=List.eq_nil_of_length_eq_zero bZ;subst cM;clear bZ;go_wp2;all_goals go_ret2
  all_goals first|exact⟨rfl,(Y.out _ _).1,(Y.out _ _).2,_,_,_,_,bD.out _ _ (.inl ⟨rfl,rfl⟩),bC.out⟩|exact⟨rfl,(Y.out _ _).1,(Y.out _ _).2,_,_,_,_,bD.out _ _ (.inr ⟨cA.out,rfl,rfl⟩),bC.out⟩
 have da:(1:Int)<(bc:Int):=zo;go_wp2;all_goals go_ret2
 all_goals exact⟨rfl,(Y.out _ _).1,(Y.out _ _).2,_,_,_,_,bD.out _ _ (.inl ⟨rfl,rfl⟩),bC.out⟩
