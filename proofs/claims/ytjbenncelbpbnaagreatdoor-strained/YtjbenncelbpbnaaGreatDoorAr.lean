/- Plans as they are meant: nodes, their schemas, what they tell; a plan's check. -/
import Derived.Test.YtjbenncelbpbnaaGreatDoorIb
import Derived.Test.YtjbenncelbpbnaaGreatDoorJr
import Derived.Test.YtjbenncelbpbnaaGreatDoorVd
import Derived.Test.YtjbenncelbpbnaaGreatDoorJq
set_option maxHeartbeats 4000000
set_option maxRecDepth 100000
namespace Go.Proofs.YtjbenncelbpbnaaGreatDoor
section
open Go.RowKit Go.Shelf Tryz
structure PN where
 op:Nat
 l:Nat
 tn:ByteArray
 es:List (List Pt)
 gk:List Krv
 r:Nat
 kk:Int
def Jg7 (n:PN):List Nat:=if n.op=0 then []else if n.op=3\/n.op=7 then [n.l,n.r]else [n.l]
def flN (ns:List PN)(j i:Nat):Bool:=(ns.take j).any fun n=>(Jg7 n).contains i
theorem Jtp {ns j n}(h:ns[j]?=some n)i:flN ns (j+1) i=(flN ns j i||(Jg7 n).contains i):=by
 unfold flN;rw[Oi7,h];simp
structure Jnm (w:World) (n:PN) (nd:Nd):Prop where
 op:nd.op=(n.op:Int)
 l:nd.l=(n.l:Int)
 tn:nd.tn=n.tn
 es:n.op=1\/n.op=2->∃ eb eo ec,nd.xs=(some ⟨eb,eo,none⟩,n.es.length,ec)/\n.es.length<=ec/\Jaz w eb eo n.es
 gk:n.op=3\/n.op=4\/n.op=5->∃ kb ko kc,nd.ky=(some ⟨kb,ko,none⟩,n.gk.length,kc)/\Klj w kb ko n.gk
 r:nd.r=(n.r:Int)
 kk:nd.kk=n.kk
 nx:n.op=5\/n.op=6->nd.xs.2.1=0/\(n.op=6->nd.ky.2.1=0)
theorem Jb0 {w:World}{b o:Nat}{v:Value}(h:w.cell? ⟨b,o,none⟩=some v):b<w.heap.size:=by
 unfold World.cell? at h;cases e:w.heap[b]? with
 |none=>simp[e]at h
 |some x=>exact(Oe2.1 e).1
theorem Zx {B:Nat}{w w':World}{b o:Nat}{v:Value}(hk:∀ k,k<B->w'.heap[k]?=w.heap[k]?)(h:w.cell? ⟨b,o,none⟩=some v)(hb:b<B):w'.cell? ⟨b,o,none⟩=some v:=by
 rw[<-h];simp only[World.cell?,hk b hb]
theorem Jaz.under {w w' eb y}{H:List (List Pt)}(h:Jaz w eb y H)(hk:∀ k,k<w.heap.size->w'.heap[k]?=w.heap[k]?):Jaz w' eb y H:=fun j es bi=>by
 obtain⟨bj,bk,pc,I,bh⟩:=h j es bi;refine⟨bj,bk,pc,Zx hk I (Jb0 I),fun k p hp=>?_⟩;obtain⟨K,M,O,U,Y,Z,bf⟩:=bh k p hp;exact⟨Zx hk K (Jb0 K),Zx hk M (Jb0 M),Zx hk O (Jb0 O),Zx hk U (Jb0 U),Zx hk Y (Jb0 Y),Zx hk Z (Jb0 Z),Zx hk bf (Jb0 bf)⟩
theorem Klj.under {w w' kb ko ks}(h:Klj w kb ko ks)(hk:∀ k,k<w.heap.size->w'.heap[k]?=w.heap[k]?):Klj w' kb ko ks:=fun j k M=>by
 obtain⟨y,H,I,K⟩:=h j k M;exact⟨Zx hk y (Jb0 y),Zx hk H (Jb0 H),Zx hk I (Jb0 I),Zx hk K (Jb0 K)⟩
structure Kik (tys:ByteArray->List Int) (scs:List (List Int)) (n:PN) (sch:List Int):Prop where
 le:n.op<=6
 scan:n.op=0->sch=tys n.tn
 filt:n.op=1->scs[n.l]?=some sch/\∃ e,n.es=[e]/\Uj sch e/\1<=e.length/\e.length<=12/\Jbk sch e=2
 proj:n.op=2->∃ sc,scs[n.l]?=some sc/\sch=n.es.map (Jbk sc)/\1<=n.es.length/\n.es.length<=6/\((n.es=[Jkp]/\sc=[1])\/∀ e∈n.es,Uj sc e/\1<=e.length/\e.length<=12)
 grp:n.op=4->∃ sc ky,scs[n.l]?=some sc/\sch=n.gk.map (tyK sc)/\n.es=[]/\n.gk.length<=4/\(∀ k∈n.gk,Kn7 sc k)/\n.gk[0]?=some ky/\ky.f=0
 join:n.op=3->∃ ls rs k,scs[n.l]?=some ls/\scs[n.r]?=some rs/\n.l≠n.r/\n.es=[]/\n.kk=(k:Nat)/\k<4/\1<=n.gk.length/\n.gk.length<=4/\(∀ y∈n.gk,Qdg ls rs y)/\(k<2->ls.length+rs.length<=12)/\sch=if k<2 then ls++rs else ls
 sort:n.op=5->scs[n.l]?=some sch/\n.es=[]/\1<=n.gk.length/\n.gk.length<=4/\∀ k∈n.gk,k.c<sch.length
 limit:n.op=6->scs[n.l]?=some sch/\n.es=[]/\0<=n.kk/\n.kk<=1000
structure Jdk (tys:ByteArray->List Int) (scs:List (List Int)) (ns:List PN):Prop where
 len:scs.length=ns.length
 ok:∀ (j:Nat) (n:PN),ns[j]?=some n->∃ sch,scs[j]?=some sch/\Kik tys scs n sch
 ahead:∀ (j:Nat) (n:PN),ns[j]?=some n->∀ i∈Jg7 n,i<j/\flN ns j i=false
 all:∀ i,i+1<ns.length->flN ns ns.length i=true
 one:1<=ns.length
 few:ns.length<=12
theorem Jdk.unnamed {tys H ns}(h:Jdk tys H ns)j:flN ns (j+1) j=false:=by
 unfold flN;rw[List.any_eq_false];intro n hn;obtain⟨i,hi⟩:=Ok2.1 hn;rw[Oe7]at hi;split at hi
 ·intro y;have:=(h.ahead i n hi j (by simpa using y)).1;omega
 cases hi
theorem Kaf {w W X:World}{ev:Value}(hb:Below w.heap.size w W)(y:∀ g,ev.ownBlock=some g->w.heap.size<=g)(H:W.grownBy X ev.ownBlock):∀ k,k<w.heap.size->X.heap[k]?=w.heap[k]?:=fun k hk=>by
 rw[H.block k (Oc2 hk hb.size) (fun e=>by have:=y k e.symm;omega)];exact hb.block k hk
theorem Koi {tys H ns}(h:Jdk tys H ns){j n}(y:ns[j]?=some n){nd w}(hi:Jnm w n nd)(h0:n.op=0)s(hty:∀ X,Below w.heap.size w X->Calls prog 33 #[.pointer (some ⟨s,0,none⟩),.string n.tn] X fun e w'=>Below X.heap.size X w'/\∃ g c,e=.returned (.tuple #[.slice (some ⟨g,0,none⟩) (tys n.tn).length c,.bool true])/\X.heap.size<=g/\g<w'.heap.size/\Kc w' (some ⟨g,0,none⟩) (tys n.tn)):
  Jvz w (.func (.func 33) #[.pointer (some ⟨s,0,none⟩)] #[]) H (flN ns) nd j:=by
 obtain⟨sch,hs,ok⟩:=h.ok j n y;refine⟨by rw[hi.op];omega,by rw[hi.op];omega,sch,hs,fun W ev ks hb U hC hK=>?_⟩;have K:Jm5 nd.op=97:=by rw[hi.op,h0];rfl
 rw[K];have M:=ok.scan h0;have:=Kc7 (w.heap.size+2) (w.heap.size+1) s ev ks nd sch W hC fun X I=>by
  have:=hty X (Jb hb I);rw[hi.tn,M];exact this
 refine this.mono fun e O hp=>⟨ks,rfl,fun i k hk=>?_,hp⟩;rw[Jtp y,hK.flg i k hk];simp[Jg7,h0]
theorem Km2 {tys I ns}(h:Jdk tys I ns){j n}(K:ns[j]?=some n){nd w}(hi:Jnm w n nd)(h0:n.op≠0)(Y:¬ (n.op=3\/n.op=7))M sch(hs:I[j]?=some sch)(Z:∀ W ev (ks:List Kn),Below w.heap.size w W->(∀ g,ev.ownBlock=some g->w.heap.size<=g)->Jed (w.heap.size+2) (w.heap.size+1) M ev ks W->∀ H:n.l<ks.length,ks[n.l].2=false->I[n.l]?=some ks[n.l].1.2.2 ->
   Calls prog (Jm5 nd.op) #[.pointer (some ⟨w.heap.size+1,0,none⟩),nd.val] W (Jq3 (w.heap.size+2) (w.heap.size+1) M ev (ks.set n.l (ks[n.l].1,true)) sch W)):
  Jvz w M I (flN ns) nd j:=by
 obtain⟨_,_,ok⟩:=h.ok j n K;have bB:=ok.le;refine⟨by rw[hi.op];omega,by rw[hi.op];omega,sch,hs,fun W ev ks hb bf hC hK=>?_⟩;have bx:=Jtp K;have U:Jg7 n=[n.l]:=by unfold Jg7;rw[if_neg h0,if_neg Y]
 obtain⟨bk,bh⟩:=h.ahead j n K n.l (by rw[U];exact Oc6.2 rfl);have H:n.l<ks.length:=by rw[hK.len];exact bk
 have O:ks[n.l]?=some ks[n.l]:=Oa3 H;have bj:ks[n.l].2=false:=by rw[hK.flg n.l _ O];exact bh
 have bz:=hK.sch n.l _ O;have br:(ks.set n.l (ks[n.l].1,true)).map (·.1)=ks.map (·.1):=by
  rw[Op0];apply Oi8;intro i;rw[Op2];by_cases y:n.l=i
  ·subst y;rw[if_pos rfl];simp[H]
  rw[if_neg y]
 have bi:∀ (i:Nat) (k:Kn),(ks.set n.l (ks[n.l].1,true))[i]?=some k->k.2=flN ns (j+1) i:=fun i k hk=>by
  rw[bx,U];rw[Op2]at hk;by_cases y:n.l=i
  ·subst y;rw[if_pos rfl]at hk;simp only[H,if_true]at hk;cases hk
   simp
  rw[if_neg y]at hk;rw[hK.flg i k hk];have:([n.l]:List Nat).contains i=false:=by simp;exact fun e=>y e.symm
  rw[this,Bool.or_false]
 exact(Z W ev ks hb bf hC H bj bz).mono fun e bA hp=>⟨_,br,bi,hp⟩
theorem Qaq {w W ev pl ex}(hb:Below w.heap.size w W)(I:∀ g,ev.ownBlock=some g->w.heap.size<=g)(hp:w.cell? ⟨3,0,none⟩=some (.iface 432 (.pointer (some pl))))(H:w.cell? ⟨9,0,none⟩=some (.iface 432 (.pointer (some ex)))):PlG W ev pl ex:=
 ⟨fun _ y=>Zx (Kaf hb I y) hp (Jb0 hp),fun _ y=>Zx (Kaf hb I y) H (Jb0 H)⟩
def kyZ (k:Krv):Qdm:=⟨(k.c:Nat),k.o,k.d,(k.f:Nat)⟩
theorem Kxe {tys Y ns}(h:Jdk tys Y ns){j n}(H:ns[j]?=some n){nd w}(hi:Jnm w n nd)(y:n.op=5)I{pl ex}(hp:w.cell? ⟨3,0,none⟩=some (.iface 432 (.pointer (some pl))))(bh:w.cell? ⟨9,0,none⟩=some (.iface 432 (.pointer (some ex)))):Jvz w I Y (flN ns) nd j:=by
 obtain⟨sch,hs,ok⟩:=h.ok j n H;refine Km2 h H hi zo zo I sch hs fun W ev ks hb M hC bj bi bk=>?_;obtain⟨kb,ko,kc,O,br⟩:=hi.gk (.inr (.inr y));obtain⟨U,_,bx,bz,bA⟩:=ok.sort y;have bf:Jm5 nd.op=102:=by rw[hi.op,y];rfl
 rw[bf];rw[bk]at U;cases U
 have:=Kze (w.heap.size+2) (w.heap.size+1) I ev ks nd ⟨nd.op,nd.l,nd.r,nd.tn,[],n.gk.map kyZ,nd.kk⟩ n.l W hC hi.l bj bi pl ex (Qaq hb M hp bh) fun X Z=>⟨rfl,rfl,rfl,rfl,rfl,(hi.nx (.inl y)).1,fun j es H=>by simp at H,by rw[O,Oa6],fun j k hk=>by
  rw[Ob1]at hk;obtain⟨K,hy,rfl⟩:=Oe9.1 hk;have:=(br.under (Kaf hb M Z)) j K hy;exact⟨kb,ko,by rw[O],this⟩⟩
 have hq:Kzw ks[n.l].1.2.2 ⟨nd.op,nd.l,nd.r,nd.tn,[],n.gk.map kyZ,nd.kk⟩=some ks[n.l].1.2.2:=by
  unfold Kzw;rw[if_pos];refine⟨by simp only[Oa6];exact⟨bx,bz⟩,fun k hk=>?_⟩;obtain⟨K,hy,rfl⟩:=Of0.1 hk;have:=bA K hy;unfold tyI kyZ;rw[if_pos ⟨zS,by simpa using this⟩];rfl
 rw[hq]at this;exact this
theorem Kw6 {tys M ns}(h:Jdk tys M ns){j n}(H:ns[j]?=some n){nd w}(hi:Jnm w n nd)(y:n.op=6)I{pl ex}(hp:w.cell? ⟨3,0,none⟩=some (.iface 432 (.pointer (some pl))))(U:w.cell? ⟨9,0,none⟩=some (.iface 432 (.pointer (some ex)))):Jvz w I M (flN ns) nd j:=by
 obtain⟨sch,hs,ok⟩:=h.ok j n H;refine Km2 h H hi zo zo I sch hs fun W ev ks hb Y hC bf Z bh=>?_;obtain⟨K,_,bi,bj⟩:=ok.limit y;have O:Jm5 nd.op=103:=by rw[hi.op,y];rfl
 rw[O];rw[bh]at K;cases K
 have:=Kx2 (w.heap.size+2) (w.heap.size+1) I ev ks nd ⟨nd.op,nd.l,nd.r,nd.tn,[],[],nd.kk⟩ n.l W hC hi.l bf Z pl ex (Qaq hb Y hp U) fun X bk=>⟨rfl,rfl,rfl,rfl,rfl,(hi.nx (.inr y)).1,fun j es H=>by simp at H,(hi.nx (.inr y)).2 y,fun j k hk=>by simp at hk⟩;have hq:Kyn ks[n.l].1.2.2 ⟨nd.op,nd.l,nd.r,nd.tn,[],[],nd.kk⟩=some ks[n.l].1.2.2:=by
  unfold Kyn;rw[if_pos];show 0<=nd.kk/\nd.kk<=1000;rw[hi.kk];exact⟨bi,bj⟩
 rw[hq]at this;exact this
theorem Jvh {tys:ByteArray->List Int}{H:List (List Int)}{ns:List PN}(h:Jdk tys H ns)(nb no M:Nat)(y:List Nd)(hl:y.length=ns.length)(s:Nat)w(O:∀ (j:Nat) (nd:Nd),y[j]?=some nd->Zm w nb (no+j*7) nd)(Y:∀ (j:Nat) (n:PN) (nd:Nd),ns[j]?=some n->y[j]?=some nd->Jvz w (.func (.func 33) #[.pointer (some ⟨s,0,none⟩)] #[]) H (flN ns) nd j):
  Calls prog 32 #[.agg #[.slice (some ⟨nb,no,none⟩) y.length M],.func (.func 33) #[.pointer (some ⟨s,0,none⟩)] #[]] w fun e w'=>∃ (I:List Sch) (sv:Value),e=.returned (.tuple #[sv,.nilIface])/\Below w.heap.size w w'/\Jo w' (w.heap.size+2) 22 sv (I.map Jbl)/\I.map (·.2.2)=H/\∀ s∈I,Kc w' s.1 s.2.2/\∀ g o,s.1=some ⟨g,o,none⟩->w.heap.size<=g:=by
 have Z:=h.one;have bf:=h.few;refine Jrc nb no M y 33 _ H (flN ns) w O zo zo (by rw[h.len,hl]) (fun j nd K=>?_) h.unnamed (fun i hi=>by rw[hl]at hi |-;exact h.all i hi);have U:j<ns.length:=by rw[<-hl];exact(Ob9.1 K).1
 exact Y j _ nd (Oa3 U) K
end
section
open Go.RowKit Go.Shelf
abbrev Cs:=List (List V)
def nR (cs:Cs):Nat:=(cs.getD 0 []).length
structure Zt (sch:List Int) (cs:Cs):Prop where
 len:cs.length=sch.length
 one:1<=cs.length
 few:cs.length<=1000
 rows:∀ j,j<cs.length->(cs.getD j []).length=nR cs
 many:nR cs<=100000
 ty:∀ i,i<nR cs->Jee sch (Ji cs i)
def Jbs (n:PN)(st:List (Option Cs)):Cs:=(st.getD n.l none).getD []
def csR (n:PN)(st:List (Option Cs)):Cs:=(st.getD n.r none).getD []
def jnN (n:PN)(st:List (Option Cs)):List Int:=jnL n.kk.toNat n.gk (Jbs n st) (csR n st) (nR (Jbs n st)) (nR (csR n st))
def Jba (ks:List Nat)(cs:Cs):Cs:=cs.map (Yq (ks.map fun (i:Nat)=>(i:Int)))
def Jcb (es:List (List Pt))(cs:Cs):Cs:=es.map fun e=>(List.range (nR cs)).map fun i=>pv1 e (Ji cs i)
def Kk9 (gk:List Krv)(cs:Cs):List (List V):=Klt [] (mkL gk cs) (List.range (nR cs))
def Klk (gk:List Krv)(cs:Cs):List V->List Tly:=tfB gk cs (List.range (nR cs))
def Kln (gk:List Krv)(cs:Cs):Cs:=tcI gk (Kk9 gk cs) (Klk gk cs) (Kk9 gk cs).length 0
def Krd (gk:List Krv)(cs:Cs):Prop:=Klz gk (Kk9 gk cs) (Klk gk cs) (Kk9 gk cs).length 0
def Kr5 (ks:List Krv)(cs:Cs)(i j:Nat):Int:=Ks6 ks (Kr4 cs i) (Kr4 cs j)
def Jkq (tab:ByteArray->Cs⊕Nat)(n:PN)(st:List (Option Cs)):Cs:=
 if n.op=0 then (tab n.tn).elim id fun _=>[]else if n.op=1 then Jba (Yf (n.es.getD 0 []) (Jbs n st) (nR (Jbs n st))) (Jbs n st)else if n.op=4 then Kln n.gk (Jbs n st)else if n.op=3 then Qcr n.kk.toNat n.gk (Jbs n st) (csR n st) (nR (Jbs n st)) (nR (csR n st))else if n.op=5 then Jba (Ksg (Kr5 n.gk (Jbs n st)) (List.range (nR (Jbs n st)))) (Jbs n st)else if n.op=6 then Jba (List.range (min n.kk.toNat (nR (Jbs n st)))) (Jbs n st)else Jcb n.es (Jbs n st)
def Jb3 (tab:ByteArray->Cs⊕Nat)(n:PN)(st:List (Option Cs)):List (Option Cs):=(if n.op=0 then st else if n.op=3\/n.op=7 then (st.set n.l none).set n.r none else st.set n.l none)++[some (Jkq tab n st)]
def stN (tab:ByteArray->Cs⊕Nat)(ns:List PN)(j:Nat):List (Option Cs):=(ns.take j).foldl (fun s n=>Jb3 tab n s) []
theorem Jma {tab:ByteArray->Cs⊕Nat}{ns j n}(h:ns[j]?=some n):stN tab ns (j+1)=Jb3 tab n (stN tab ns j):=by
 unfold stN;rw[Oi7,h,Ol1];rfl
def Jlw (tab:ByteArray->Cs⊕Nat)(n:PN)(st:List (Option Cs)):Prop:=(n.op=0->∃ cs,tab n.tn=.inl cs)/\(n.op≠0->∀ i,i<nR (Jbs n st)->∀ e∈n.es,∃ v,Kl e (Ji (Jbs n st) i)=.inl v)/\(n.op=4->Krd n.gk (Jbs n st))/\(n.op=3->(jnN n st).length<=2000)
theorem Jix (tab:ByteArray->Cs⊕Nat)n(st:List (Option Cs)):(Jb3 tab n st).length=st.length+1:=by
 unfold Jb3;rw[Oa8];split
 ·rfl
 split<;>simp
theorem Jhh (tab:ByteArray->Cs⊕Nat)ns:∀ j,j<=ns.length->(stN tab ns j).length=j
 |0,_=>by simp[stN]
 |j+1,h=>by
  rw[Jma (Oa3 (by omega:j<ns.length)),Jix,Jhh tab ns j zo]
theorem Jot ks cs i(hi:i<ks.length):Ji (Jba ks cs) i=Ji cs ks[i]:=by
 unfold Ji Jba Yq;rw[Oi6];refine Oj9 fun c _=>?_;simp only[Function.comp_apply];rw[Oa0,Ob1,Ob1,Oa3 hi];simp only[Option.map_some,Option.getD_some,Int.toNat_natCast];rw[if_neg zo]
theorem Jr8 ks cs(h:1<=cs.length):nR (Jba ks cs)=ks.length:=by
 unfold nR Jba;rw[Oa0,Ob1,Oa3 (by omega:0<cs.length)];simp[Yq]
theorem Ju7 {sch cs}(h:Zt sch cs)ks(hk:∀ k∈ks,k<nR cs)(hl:ks.length<=100000):Zt sch (Jba ks cs):=by
 have hn:=Jr8 ks cs h.one;refine⟨by unfold Jba;rw[Oa6];exact h.len,by unfold Jba;rw[Oa6];exact h.one,by unfold Jba;rw[Oa6];exact h.few,fun j y=>?_,zo,fun i hi=>?_⟩
 ·rw[hn];unfold Jba at y |-;rw[Oa6]at y;rw[Oa0,Ob1,Oa3 y];simp[Yq]
 rw[hn]at hi;rw[Jot ks cs i hi];exact h.ty _ (hk _ (Ob3 hi))
theorem Jjj (es:List (List Pt))cs i(hi:i<nR cs):Ji (Jcb es cs) i=es.map fun e=>pv1 e (Ji cs i):=by
 unfold Jcb;conv=>lhs;unfold Ji
 rw[Oi6];refine Oj9 fun e _=>?_;simp only[Function.comp_apply];rw[Oa0,Ob1,Oh6 hi];rfl
theorem Jm1 (es:List (List Pt))cs(h:1<=es.length):nR (Jcb es cs)=nR cs:=by
 conv=>lhs;unfold nR Jcb
 rw[Oa0,Ob1,Oa3 (by omega:0<es.length)];simp
section
variable {sc:List Int} {cs:Cs} {gk:List Krv}
end
structure Khz (tys:ByteArray->List Int) (scs:List (List Int)) (tab:ByteArray->Cs⊕Nat) (ns:List PN) (j:Nat):Prop where
 good:∀ (l:Nat) (cs:Cs),(stN tab ns j)[l]?=some (some cs)->∃ sch,scs[l]?=some sch/\Zt sch cs
 there:∀ (l:Nat),l<j->flN ns j l=false->∃ cs,(stN tab ns j)[l]?=some (some cs)
theorem Ky8 {tys H ns}(h:Jdk tys H ns){tab:ByteArray->Cs⊕Nat}{j n}(O:ns[j]?=some n)(I:Khz tys H tab ns j){i}(hi:i∈Jg7 n):∃ cs sc,(stN tab ns j)[i]?=some (some cs)/\((stN tab ns j).getD i none).getD []=cs/\H[i]?=some sc/\Zt sc cs:=by
 obtain⟨U,K⟩:=h.ahead j n O i hi;obtain⟨cs,y⟩:=I.there i U K;obtain⟨sc,Y,M⟩:=I.good i cs y;exact⟨cs,sc,y,by rw[Oa0,y];rfl,Y,M⟩
def Kv5 (op:Nat):Prop:=∀ {tys:ByteArray->List Int} {y:List (List Int)} {ns:List PN} {tab:ByteArray->Cs⊕Nat} {j:Nat} {n:PN} {sch:List Int},Jdk tys y ns->ns[j]?=some n->n.op=op->Kik tys y n sch->Khz tys y tab ns j->Jlw tab n (stN tab ns j)->Zt sch (Jkq tab n (stN tab ns j))
def Kwx (tys:ByteArray->List Int)(y:List (List Int))(ns:List PN)(tab:ByteArray->Cs⊕Nat)(n:PN):Prop:=∀ {j:Nat} {sch:List Int},ns[j]?=some n->Kik tys y n sch->Khz tys y tab ns j->Jlw tab n (stN tab ns j)->Zt sch (Jkq tab n (stN tab ns j))
abbrev Ktc (tys:ByteArray->List Int)(y:List (List Int))(ns:List PN)(tab:ByteArray->Cs⊕Nat):Prop:=∀ n∈ns,n.op≠0->Kwx tys y ns tab n
theorem Kv5.at {tys y ns}{tab:ByteArray->Cs⊕Nat}{n}(H:Jdk tys y ns)(h:Kv5 n.op):Kwx tys y ns tab n:=fun K ok I hf=>h H K rfl ok I hf
theorem Kz5:Kv5 5:=fun {tys Z ns tab j n sch} h O H ok M hf=>by
 obtain⟨cs,sc,Y,y,U,I⟩:=Ky8 h O M (i:=n.l) (by unfold Jg7;rw[if_neg zo,if_neg zo];simp);have y:Jbs n (stN tab ns j)=cs:=y;unfold Jkq;rw[if_neg zo,if_neg zo,if_neg zo,if_neg zo,if_pos H,y];obtain⟨K,_⟩:=ok.sort H;rw[U]at K;cases K
 exact Ju7 I _ (fun k hk=>Oj4.1 ((Kr9 _ _).mem_iff.1 hk)) (by rw[(Kr9 _ _).length_eq,Op1];exact I.many)
theorem Kyr:Kv5 6:=fun {tys bf ns tab j n sch} h O H ok M hf=>by
 obtain⟨cs,sc,Y,y,U,I⟩:=Ky8 h O M (i:=n.l) (by unfold Jg7;rw[if_neg zo,if_neg zo];simp);have y:Jbs n (stN tab ns j)=cs:=y;unfold Jkq;rw[if_neg zo,if_neg zo,if_neg zo,if_neg zo,if_neg zo,if_pos H,y];obtain⟨K,_⟩:=ok.limit H;rw[U]at K;cases K
 have Z:=I.many;exact Ju7 I _ (fun k hk=>by have:=Oj4.1 hk;omega) (by rw[Op1];omega)
theorem Kcs {tys H ns}(h:Jdk tys H ns){tab:ByteArray->Cs⊕Nat}(M:Ktc tys H ns tab)(ht:∀ n∈ns,n.op=0->∀ cs,tab n.tn=.inl cs->Zt (tys n.tn) cs){j n}(y:ns[j]?=some n)(K:Khz tys H tab ns j)(hf:Jlw tab n (stN tab ns j)):∃ sch,H[j]?=some sch/\Zt sch (Jkq tab n (stN tab ns j)):=by
 obtain⟨sch,hs,ok⟩:=h.ok j n y;refine⟨sch,hs,?_⟩;by_cases h0:n.op=0
 ·unfold Jkq;rw[if_pos h0];obtain⟨cs,I⟩:=hf.1 h0;rw[I,ok.scan h0];exact ht n (Of6 y) h0 cs I
 exact M n (Of6 y) h0 y ok K hf
theorem Jqw {tys bh ns}(h:Jdk tys bh ns){tab:ByteArray->Cs⊕Nat}(bi:Ktc tys bh ns tab)(ht:∀ n∈ns,n.op=0->∀ cs,tab n.tn=.inl cs->Zt (tys n.tn) cs):∀ j,j<=ns.length->(∀ (k:Nat) (n:PN),k<j->ns[k]?=some n->Jlw tab n (stN tab ns k))->Khz tys bh tab ns j
 |0,_,_=>⟨fun l cs hl=>by simp[stN]at hl,fun l hl=>absurd hl (Oe0 _)⟩
 |j+1,bA,hf=>by
  have hn:ns[j]?=some ns[j]:=Oa3 zo;have bf:=Jqw h bi ht j zo fun k n hk y=>hf k n zo y;have bx:=hf j _ zo hn;have hlen:=Jhh tab ns j zo;obtain⟨I,M⟩:∃ I,I=(if ns[j].op=0 then stN tab ns j else if ns[j].op=3\/ns[j].op=7 then ((stN tab ns j).set ns[j].l none).set ns[j].r none else (stN tab ns j).set ns[j].l none):=⟨_,rfl⟩;have K:I.length=j:=by
   rw[M];split
   ·exact hlen
   split<;>simp[hlen]
  have bk:stN tab ns (j+1)=I++[some (Jkq tab ns[j] (stN tab ns j))]:=by rw[Jma (tab:=tab) hn,M];rfl
  have Z:∀ {s:List (Option Cs)} {i l:Nat} {x:Cs},(s.set i none)[l]?=some (some x)->s[l]?=some (some x):=fun {s i l x} y=>by
   rw[Op2]at y;split at y
   ·split at y<;>cases y
   exact y
  have bz:∀ l x,l<j->(I++[some (Jkq tab ns[j] (stN tab ns j))])[l]?=some (some x)->(stN tab ns j)[l]?=some (some x):=fun l x hl y=>by
   rw[Ob0 (by rw[K];exact hl),M]at y;split at y
   ·exact y
   split at y
   ·exact Z (Z y)
   exact Z y
  have bj:(I++[some (Jkq tab ns[j] (stN tab ns j))])[j]?=some (some (Jkq tab ns[j] (stN tab ns j))):=by
   rw[Ob6 (by rw[K];exact Oa2 _),K,Oe1];rfl
  refine⟨fun l cs y=>?_,fun l hl Y=>?_⟩
  ·rw[bk]at y;have bB:l<j+1:=by
    have:=(Ob9.1 y).1;rw[Oa8,K]at this;exact this
   by_cases e:l=j
   ·subst e;rw[bj]at y;cases y
    exact Kcs h bi ht hn bf bx
   exact bf.good l cs (bz l cs zo y)
  rw[bk];by_cases e:l=j
  ·subst e;exact⟨_,bj⟩
  rw[Jtp hn,Bool.or_eq_false_iff]at Y;obtain⟨cs,U⟩:=bf.there l zo Y.1;refine⟨cs,?_⟩;have H:∀ i∈Jg7 ns[j],i≠l:=fun i hi br=>by
   have:=Y.2;rw[List.contains_eq_any_beq,List.any_eq_false]at this;exact this i hi (by rw[br];simp)
  rw[Ob0 (by rw[K];omega),M];unfold Jg7 at H;split
  ·exact U
  rename_i h0
  rw[if_neg h0]at H;split
  ·rename_i O
   rw[if_pos O]at H;rw[Op2,if_neg (H ns[j].r zS),Op2,if_neg (H ns[j].l zS)];exact U
  rename_i O
  rw[if_neg O]at H;rw[Op2,if_neg (H ns[j].l zS)];exact U
structure Sg (ts:List Int) (cs:Cs) (ks:List Krv):Prop where
 good:Zt ts cs
 keys:∀ k∈ks,k.c<cs.length
 nk:ks.length<=1000000
 few:ts.length<=100
 tys:∀ c,c<ts.length->1<=ts.getD c 0/\ts.getD c 0<=3
section
variable {ts:List Int} {cs:Cs} {ks:List Krv}
theorem Sg.val (h:Sg ts cs ks){i c}(hi:i<nR cs)(y:c<cs.length):okV (ts.getD c 0) ((cs.getD c []).getD i Jf)/\Jg ((cs.getD c []).getD i Jf).n:=by
 obtain⟨K,H,I⟩:=h.good.ty i hi;have e:(Ji cs i).getD c Jf=(cs.getD c []).getD i Jf:=by
  unfold Ji;rw[Oa0,Ob1,Oa3 y,Oa0 (l:=cs),Oa3 y];rfl
 rw[<-e];have hl:c<(Ji cs i).length:=by rw[Yk];exact y
 refine⟨H c hl,I _ ?_⟩;rw[Oa0,Oa3 hl];exact Ob3 hl
theorem Krw ids cs:(Jba ids cs).length=cs.length:=by simp[Jba]
theorem Kr6 ids{c}(y:c<cs.length):(Jba ids cs).getD c []=ids.map fun i=>(cs.getD c []).getD i Jf:=by
 unfold Jba;rw[Oa0,Ob1,Oa3 y,Oa0 (l:=cs),Oa3 y];simp only[Option.map_some,Option.getD_some,Yq,Oi6];refine Oj9 fun i _=>?_;simp only[Function.comp];rw[if_neg zo,Int.toNat_natCast]
theorem Kr0 ids{c}(y:c<cs.length):((Jba ids cs).getD c []).length=ids.length:=by rw[Kr6 ids y,Oa6]
theorem Kyq {a b:Cs}(hl:a.length=b.length)(h:∀ c,c<a.length->a.getD c []=b.getD c []):a=b:=by
 refine Oh4 hl fun c y H=>?_;have:=h c y;rw[Oa0,Oa3 y,Oa0,Oa3 H]at this;exact this
theorem Kv4 {a:Cs}(f:List V->List V){c:Nat}(y:c<a.length):(a.map f).getD c []=f (a.getD c []):=by
 rw[Oa0,Ob1,Oa3 y,Oa0,Oa3 y];rfl
theorem Kte ids cs f t:(Jba ids cs).map (Jbx f t)=Jba ((ids.take t).drop f) cs:=by
 refine Kyq (by simp[Jba]) fun c y=>?_;rw[Oa6,Krw]at y;rw[Kv4 _ (by rw[Krw];exact y),Kr6 ids y,Kr6 _ y];unfold Jbx;rw[<-List.map_take,<-List.map_drop]
theorem Kty (h:Zt ts cs):Jba (List.range (nR cs)) cs=cs:=by
 refine Kyq (Krw _ _) fun c y=>?_;rw[Krw]at y;rw[Kr6 _ y];have hl:=h.rows c y;generalize cs.getD c []=x at *;refine Oh4 (by rw[Oa6,Op1,hl]) fun i I H=>?_;rw[Od9,Oo7,Oa0,Oa3 H];rfl
theorem Kyb ids cs m g(H:∀ i,i<m->g i<ids.length):(Jba ids cs).map (Yq (Ktn m g))=Jba ((List.range m).map fun i=>ids.getD (g i) 0) cs:=by
 refine Kyq (by simp[Jba]) fun c y=>?_;rw[Oa6,Krw]at y;rw[Kv4 _ (by rw[Krw];exact y),Kr6 ids y,Kr6 _ y];unfold Yq Ktn;rw[Oi6,Oi6];refine Oj9 fun i hi=>?_;have hi:=H i (by simpa using hi);simp only[Function.comp];rw[if_neg zo,Int.toNat_natCast];simp[List.getD_eq_getElem?_getD,List.getElem?_eq_getElem hi]
theorem Kt0 ids{c t}(y:c<cs.length)(ht:t<ids.length):Kr4 (Jba ids cs) t c=Kr4 cs (ids.getD t 0) c:=by
 unfold Kr4;rw[Kr6 ids y];simp[List.getD_eq_getElem?_getD,List.getElem?_eq_getElem ht,Jf]
theorem Kt9:∀ (ks:List Krv){r s y H:Nat->V},(∀ k∈ks,r k.c=y k.c/\s k.c=H k.c)->Ks6 ks r s=Ks6 ks y H
 |[],_,_,_,_,_=>rfl
 |k::ks,r,s,y,H,h=>by
  have I:=h k zS;unfold Ks6;rw[I.1,I.2,Kt9 ks fun K hk=>h K (Og1 _ hk)]
theorem Qab (h:Sg ts cs ks)ids{a b}(y:a<ids.length)(hb:b<ids.length):Ks6 ks (Kr4 (Jba ids cs) a) (Kr4 (Jba ids cs) b)=Kr5 ks cs (ids.getD a 0) (ids.getD b 0):=
 Kt9 ks fun k hk=>⟨Kt0 ids (h.keys k hk) y,Kt0 ids (h.keys k hk) hb⟩
theorem Qa9 (h:Sg ts cs ks)ids y{a b}(H:a<ids.length)(hb:b<y.length):Ks6 ks (Kr4 (Jba ids cs) a) (Kr4 (Jba y cs) b)=Kr5 ks cs (ids.getD a 0) (y.getD b 0):=
 Kt9 ks fun k hk=>⟨Kt0 ids (h.keys k hk) H,Kt0 y (h.keys k hk) hb⟩
theorem Sg.okt (h:Sg ts cs ks):∀ k∈ks,∀ v∈cs.getD k.c [],OkT (ts.getD k.c 0) v:=fun k hk v hv=>by
 have y:=h.keys k hk;obtain⟨i,hi,rfl⟩:=Od5 hv;have K:i<nR cs:=by rw[<-h.good.rows k.c y];exact hi
 have:=(h.val K y).1;have e:(cs.getD k.c []).getD i Jf=(cs.getD k.c [])[i]:=by rw[Oa0 (l:=cs.getD k.c []),Oa3 hi];rfl
 rw[e]at this;rcases Jgh this with e|⟨H,I,_⟩
 ·exact .inl e
 exact .inr ⟨H,I⟩
theorem Sg.ord (h:Sg ts cs ks):Kse (Kr5 ks cs):=Kxt (fun c=>ts.getD c 0) ks cs h.okt
theorem Sg.ordP (h:Sg ts cs ks)ids(I:∀ i∈ids,i<nR cs):Kse fun i j=>Ks6 ks (Kr4 (Jba ids cs) i) (Kr4 (Jba ids cs) j):=
 Kxt (fun c=>ts.getD c 0) ks (Jba ids cs) fun k hk v hv=>by
  rw[Kr6 ids (h.keys k hk),Of0]at hv;obtain⟨i,hi,rfl⟩:=hv;have:=(h.val (I i hi) (h.keys k hk)).1;rcases Jgh this with e|⟨y,H,_⟩
  ·exact .inl e
  exact .inr ⟨y,H⟩
theorem Sg.keyC (h:Sg ts cs ks)ids(H:ids.length<=100000):Qag ks (Jba ids cs) ids.length:=
 ⟨fun j y=>Kr0 ids (by rw[Krw]at y;exact y),fun k hk=>by rw[Krw];exact h.keys k hk,by rw[Krw];exact h.good.few,by rw[Krw];exact h.good.one,H,h.nk⟩
theorem Sg.inI (h:Sg ts cs ks){ids}(I:∀ i∈ids,i<nR cs):∀ c∈Jba ids cs,∀ v∈c,Jg v.n:=fun c H v hv=>by
 obtain⟨j,y,rfl⟩:=Od5 H;rw[Krw]at y;have e:(Jba ids cs)[j]'(by rw[Krw];exact y)=(Jba ids cs).getD j []:=by rw[Oa0,Oa3 (by rw[Krw];exact y)];rfl
 rw[e,Kr6 ids y,Of0]at hv;obtain⟨i,hi,rfl⟩:=hv;exact(h.val (I i hi) y).2
theorem Sg.lay (h:Sg ts cs ks){ids}(U:∀ i∈ids,i<nR cs)(hl:ids.length<=64):Kyh ts (Jba ids cs) ids.length/\Kr3 ts (Jba ids cs) ts.length≠[]/\(Qu (Kr3 ts (Jba ids cs) ts.length)).length<=11000:=by
 have hlen:=h.good.len;have bf:=h.good.one;have Z:=h.few;have I:∀ c,c<ts.length->way (ts.getD c 0) 0=true/\Jdq (ts.getD c 0) ((Jba ids cs).getD c []):=fun c y=>by
  refine⟨by have:=h.tys c y;unfold way;exact decide_eq_true zo,by rw[Kr0 ids zo];exact hl,fun j H=>?_⟩;have key:∀ (x:List V) (M:x=ids.map fun i=>(cs.getD c []).getD i Jf) (H:j<x.length),okV (ts.getD c 0) x[j]:=fun x M H=>by
   subst M;rw[Od9];exact(h.val (U _ (Ob3 _)) (by omega:c<cs.length)).1
  exact key _ (Kr6 ids (by omega:c<cs.length)) H
 have K:∀ c,c<ts.length->(Ksq ts (Jba ids cs) c).length<=6100/\Ksq ts (Jba ids cs) c≠[]:=fun c y=>Khf _ 0 _ (I c y).2;have htot:∀ k,k<=ts.length->(Kr3 ts (Jba ids cs) k).length<=6100*k:=by
  intro k;induction k with
  |zero=>intro _;simp[Kr3]
  |succ k Y=>intro hk;rw[Ksj,Oa8];have:=Y zo;have:=(K k zo).1;omega
 have ht:=htot ts.length (Oa2 _);refine⟨⟨by rw[Krw];exact hlen,fun c y=>Kr0 ids zo,I,zo,zo⟩,fun e=>?_,?_⟩
 ·have O:=Kw1 ts (Jba ids cs) 1 (ts.length-1);rw[show 1+(ts.length-1)=ts.length by omega,e,show (1:Nat)=0+1 from rfl,Ksj,Oa8]at O;have:=(K 0 zo).2;have h0:0<(Ksq ts (Jba ids cs) 0).length:=Oi9.2 this;rw[List.length_nil]at O;omega
 have:=Jio (Kr3 ts (Jba ids cs) ts.length);omega
end
end
section
open Go.RowKit
structure Top (D E:DS) (ls:List (List Nat)):Prop where
 nd:ls.flatten.Nodup
 free:∀ j∈ls.flatten,pg D j=none
 use:∀ j∈ls.flatten,∃ p,pg E j=some p
 rest:∀ j,j∉ls.flatten->pg E j=pg D j
 quota:E.quota=D.quota
 fail:E.fail=D.fail
theorem Top.refl D:Top D D []:=⟨List.nodup_nil,zS,zS,fun _ _=>rfl,rfl,rfl⟩
theorem Top.same {D E H I}(h:Top D E I)(s:Kft E H):Top D H I:=
 ⟨h.nd,h.free,fun j y=>by rw[s.pages];exact h.use j y,fun j y=>by rw[s.pages];exact h.rest j y,s.quota.trans h.quota,s.fail.trans h.fail⟩
theorem Top.perm {D E H I}(h:Top D E H)(p:H.Perm I):Top D E I:=by
 have hp:=p.flatten;exact⟨hp.nodup_iff.1 h.nd,fun j y=>h.free j (hp.mem_iff.2 y),fun j y=>h.use j (hp.mem_iff.2 y),fun j y=>h.rest j fun x=>y (hp.mem_iff.1 x),h.quota,h.fail⟩
theorem Jjo.some_ {D E ps l}(h:Jjo D E ps l){j}(y:j∈l):∃ p,pg E j=some p:=by
 obtain⟨i,hi,rfl⟩:=Od5 y;exact⟨_,h.held i hi⟩
theorem Top.laid {D E K H ps l}(h:Top D E H)(k:Jjo E K ps l):Top D K (H++[l]):=by
 have I:∀ j,j∈H.flatten->j∉l:=fun j y hl=>by
  obtain⟨p,hp⟩:=h.use j y;rw[k.free j hl]at hp;cases hp
 have hf:(H++[l]).flatten=H.flatten++l:=zS;refine⟨?_,fun j y=>?_,fun j y=>?_,fun j y=>?_,k.quota.trans h.quota,k.fail.trans h.fail⟩
 ·rw[hf];exact Op3.2 ⟨h.nd,k.nodup,fun a M b hb e=>I a M (e▸hb)⟩
 ·rw[hf,Od2]at y;rcases y with y|y
  ·exact h.free j y
  rw[<-h.rest j fun x=>I j x y];exact k.free j y
 ·rw[hf,Od2]at y;rcases y with y|y
  ·rw[k.other j (I j y)];exact h.use j y
  exact k.some_ y
 rw[hf,Od2]at y;rw[k.other j fun x=>y (.inr x)];exact h.rest j fun x=>y (.inl x)
theorem zaV {p:Prop}(h:p:=by
 rw[hf,Od2,Od2];rcases y with y|y
 ·exact .inl y
 exact .inr (.inr y)):p:=h
theorem Top.rel {D E a b l}(h:Top D E (a++l::b)):Top D (Jf4 E l) (a++b):=by
 have hf:(a++l::b).flatten=a.flatten++(l++b.flatten):=zS;have H:(a++b).flatten=a.flatten++b.flatten:=zS;have I:=h.nd;rw[hf]at I;obtain⟨O,U,n3⟩:=Op3.1 I;obtain⟨bh,Y,Z⟩:=Op3.1 U;have hn:=Jin l E;have K:∀ j,j∈a.flatten\/j∈b.flatten->j∉l:=fun j y hl=>by
  rcases y with y|y
  ·exact n3 j y j (Od2.2 (.inl hl)) rfl
  exact Z j hl j y rfl
 refine⟨?_,fun j y=>?_,fun j y=>?_,fun j y=>?_,hn.1.trans h.quota,hn.2.1.trans h.fail⟩
 ·rw[H];exact Op3.2 ⟨O,Y,fun x M bf hy=>n3 x M bf (Od2.2 (.inr hy))⟩
 ·rw[H,Od2]at y;refine h.free j ?_;exact zaV
 ·rw[H,Od2]at y;rw[Jx3,if_neg (K j y)];refine h.use j ?_;exact zaV
 rw[H,Od2]at y;rw[Jx3];by_cases hl:j∈l
 ·rw[if_pos hl];exact(h.free j (by rw[hf,Od2,Od2];exact .inr (.inl hl))).symm
 rw[if_neg hl];refine h.rest j fun x=>?_;rw[hf,Od2,Od2]at x;rcases x with x|x|x
 ·exact y (.inl x)
 ·exact hl x
 exact y (.inr x)
theorem Top.done {D E}(h:Top D E []):Kft D E:=⟨fun j=>h.rest j zS,Jz2 fun j=>h.rest j zS,h.quota,h.fail⟩
theorem Top.held {D E H I ps l y t}(h:Top D E I)(k:Jjo E H ps l)(hl:y∈I)(s:Jan E y t):Jan H y t:=
 s.keep fun i hi=>k.other i fun x=>by
  obtain⟨p,hp⟩:=h.use i (List.mem_flatten.2 ⟨y,hl,hi⟩);rw[k.free i x]at hp;cases hp
theorem Top.held_rel {D E a b l y t}(h:Top D E (a++l::b))(hl:y∈a++b)(s:Jan E y t):Jan (Jf4 E l) y t:=
 s.keep fun i hi=>by
  rw[Jx3,if_neg];intro I;have hf:(a++l::b).flatten=a.flatten++(l++b.flatten):=zS;have H:=h.nd;rw[hf]at H;obtain⟨_,K,n3⟩:=Op3.1 H;obtain⟨_,_,M⟩:=Op3.1 K;rcases Od2.1 hl with hl|hl
  ·exact n3 i (List.mem_flatten.2 ⟨y,hl,hi⟩) i (Od2.2 (.inl I)) rfl
  exact M i I i (List.mem_flatten.2 ⟨y,hl,hi⟩) rfl
theorem Jan.same {E y l t}(s:Jan E l t)(h:Kft E y):Jan y l t:=s.keep fun i _=>h.pages i
end
open Go.RowKit Go.Shelf Tryz
structure Bk where
 ids:List Nat
 l:List Nat
 la:Option Addr
 lc:Nat
 pa:Option Addr
 pc:Nat
def Bk.cells (tn:Nat)(b:Bk):List Value:=[.int .i64 (b.ids.length:Nat),.slice b.la tn b.lc,.slice b.pa b.l.length b.pc]
structure Rn where
 place:Nat
 bs:List Bk
 held:List Nat
structure Kv1 (w:World) (N:Nat->Prop) (ts:List Int) (cs:Cs) (b:Bk):Prop where
 lens:Uh w b.la ((Ks8 ts (Jba b.ids cs) ts.length).map nv)
 pages:Uh w b.pa (b.l.map nv)
 ln:∀ x o,b.la=some ⟨x,o,none⟩->N x
 pn:∀ x o,b.pa=some ⟨x,o,none⟩->N x
def Ktm (w:World)(N:Nat->Prop)(cs:Cs)(ids:List Nat)(hv:Value):Prop:=
 (ids=[]/\hv=.slice none 0 0)\/(ids≠[]/\∃ hb hs cap,hv=.slice (some ⟨hb,0,none⟩) cs.length cap/\Qd w hb hs (Jba ids cs)/\N hb/\∀ j b o,j<cs.length->(Yo hs j).1=some ⟨b,o,none⟩->N b)
structure Ksp (w:World) (N:Nat->Prop) (ts:List Int) (cs:Cs) (rb:Nat) (R:Rn) (ba:Option Addr) (bc:Nat) (hv:Value):Prop where
 cells:w.heap[rb]?=some (.cells #[.int .i64 (R.place:Nat),.slice ba R.bs.length bc,hv] 357 (0,0))
 arr:Uh w ba (R.bs.flatMap (Bk.cells ts.length))
 an:∀ x o,ba=some ⟨x,o,none⟩->N x
 cap:R.bs.length<=bc
 blk:∀ b∈R.bs,Kv1 w N ts cs b
 held:Ktm w N cs R.held hv
 nr:¬ N rb
 lt:∀ k,N k->k<w.heap.size
section
variable {w w':World} {N G:Nat->Prop} {ts:List Int} {cs:Cs} {rb:Nat} {R:Rn} {ba:Option Addr} {bc:Nat} {hv:Value}
theorem Uh.on {a xs}(h:Uh w a xs)(hs:w.heap.size<=w'.heap.size)(hk:∀ x o,a=some ⟨x,o,none⟩->w'.heap[x]?=w.heap[x]?):Uh w' a xs:=h.of_block hs fun b o e _=>hk b o e
theorem Kv1.on {b}(h:Kv1 w N ts cs b)(hs:w.heap.size<=w'.heap.size)(hk:∀ k,N k->w'.heap[k]?=w.heap[k]?):Kv1 w' N ts cs b:=
 ⟨h.lens.on hs fun x o e=>hk x (h.ln x o e),h.pages.on hs fun x o e=>hk x (h.pn x o e),h.ln,h.pn⟩
theorem Kv1.mono {y b}(h:Kv1 w N ts cs b)(H:∀ k,N k->y k):Kv1 w y ts cs b:=⟨h.lens,h.pages,fun x o e=>H x (h.ln x o e),fun x o e=>H x (h.pn x o e)⟩
theorem Qd.on {g:Nat}{hs:List (Option Addr×Nat)}{y:Cs}(h:Qd w g hs y)(K:w.heap.size<=w'.heap.size)(I:w'.heap[g]?=w.heap[g]?)(hk:∀ j b o,j<y.length->(Yo hs j).1=some ⟨b,o,none⟩->w'.heap[b]?=w.heap[b]?):Qd w' g hs y:=
 ⟨h.row.of_block I,fun j H=>(h.vals j H).of_block K fun b o e _=>hk j b o H e,h.cap⟩
theorem Ktm.on {ids}(h:Ktm w N cs ids hv)(hs:w.heap.size<=w'.heap.size)(hk:∀ k,N k->w'.heap[k]?=w.heap[k]?):Ktm w' N cs ids hv:=by
 rcases h with h|⟨K,hb,U,cap,M,O,y,H⟩
 ·exact .inl h
 exact .inr ⟨K,hb,U,cap,M,O.on hs (hk hb y) fun j b o I e=>hk b (H j b o (by rw[Krw]at I;exact I) e),y,H⟩
theorem Ksp.on (h:Ksp w N ts cs rb R ba bc hv)(hs:w.heap.size<=w'.heap.size)(hr:w'.heap[rb]?=w.heap[rb]?)(hk:∀ k,N k->w'.heap[k]?=w.heap[k]?):Ksp w' N ts cs rb R ba bc hv:=
 ⟨hr.trans h.cells,h.arr.on hs fun x o e=>hk x (h.an x o e),h.an,h.cap,fun b hb=>(h.blk b hb).on hs hk,h.held.on hs hk,h.nr,fun k y=>Oc2 (h.lt k y) hs⟩
theorem Ksp.keep (h:Ksp w N ts cs rb R ba bc hv)(hk:Ju G w w')(hr:¬ G rb)(hn:∀ k,N k->¬ G k):Ksp w' N ts cs rb R ba bc hv:=
 h.on hk.size (hk.block rb (Jd h.cells) hr) fun k y=>hk.block k (h.lt k y) (hn k y)
theorem Ksp.fields (h:Ksp w N ts cs rb R ba bc hv):w.cell? ⟨rb,0,none⟩=some (.int .i64 (R.place:Nat))/\w.cell? ⟨rb,1,none⟩=some (.slice ba R.bs.length bc)/\w.cell? ⟨rb,2,none⟩=some hv/\∀ i,w.frozen? ⟨rb,i,none⟩=false:=Ksm h.cells
end
structure Qde (w:World) (sb d tb to_ tc kb ko kc:Nat) (ts:List Int) (ks:List Krv):Prop where
 c0:w.cell? ⟨sb,0,none⟩=some (.slice (some ⟨tb,to_,none⟩) ts.length tc)
 c3:w.cell? ⟨sb,3,none⟩=some (.pointer (some ⟨d,0,none⟩))
 ty:Kc w (some ⟨tb,to_,none⟩) ts
 key:Kw7 w sb kb ko kc ks
theorem Qa0 w:Calls prog 55 #[.slice none 0 0] w fun e w'=>e=.returned (.int .i64 0)/\w'=w:=by
 go_enter func55,ntmps55
 go_wp2;go_ret
 exact⟨rfl,rfl⟩
theorem Kyu sb rb ts cs ks R ba bc hv w N(bh:Sg ts cs ks)(h:Ksp w N ts cs rb R ba bc hv)(Y:1<R.held.length)(bK:R.held.length<=100000):
  Calls prog 208 #[.pointer (some ⟨sb,0,none⟩),.pointer (some ⟨rb,0,none⟩)] w fun e w'=>e=.returned (.tuple #[.bool true,.nilIface])/\Ju (fun k=>k=rb) w w'/\∃ U bB,Ksp w' U ts cs rb ⟨R.place,R.bs,R.held.tail⟩ ba bc bB/\∀ k,U k->N k\/w.heap.size<=k:=by
 obtain⟨bD,bE,bG,br⟩:=h.fields;have bH:=br 2;have y:=zh h;rcases h.held with⟨e,_⟩|⟨_,hb,hs,cap,rfl,hC,bJ,bx⟩
 ·rw[e]at Y;simp at Y
 have O:=bh.good.one;have c0:=hC.row.cell (i:=0) (by rw[Krw];exact O);rw[Kr0 R.held O]at c0;have bz:=Jlg hb cs.length cap _ R.held.length _ w O c0;have bf:=Kdx hb cap hs (Jba R.held cs) R.held.length 1 R.held.length w hC (fun j H=>Kr0 R.held (by rw[Krw]at H;exact H)) zo (Oa2 _) (by rw[Krw];exact bh.good.few);rw[Krw,Kte,Of2,List.drop_one]at bf;have bI:(1:Int)<(R.held.length:Int):=zo;have bA:=Jd y.out.cells;clear h c0;go_enter func208,ntmps208
 go_wp2_with (first|(go_at_call 55;refine bz.mono ?_;rintro e X ⟨rfl,I⟩;subst X)|(go_at_call 113;refine bf.mono ?_;rintro e M ⟨K,rfl,Z⟩;have z1:=(K.block rb bA).trans y.out.cells;obtain⟨bM,bN,bO,bC⟩:=Ksm z1;have bP:=bC 2))
 go_ret2
 have bi:=K.size;have I:∀ k,k≠rb->(M.setCell ⟨rb,2,none⟩ (.slice (some ⟨w.heap.size,0,none⟩) cs.length cs.length)).heap[k]?=M.heap[k]?:=fun k hk=>Oa4 _ _ _ _ hk;have bL:=Z.row.lt;have bj:∀ k,N k->(M.setCell ⟨rb,2,none⟩ (.slice (some ⟨w.heap.size,0,none⟩) cs.length cs.length)).heap[k]?=w.heap[k]?:=fun k hk=>(I k fun e=>y.out.nr (e▸hk)).trans (K.block k (y.out.lt k hk));have hcut:∀ j b o,j<cs.length->(Yo (Jnt hs cs.length 1 R.held.length) j).1=some ⟨b,o,none⟩->N b:=fun j b o H e=>by
  rcases hC.vals j (by rw[Krw];exact H)with h0|⟨ab,ao,ha,hl,_⟩
  ·have:=Kr0 R.held H;rw[h0]at this;simp at this;omega
  rw[Jmn H ha e];exact bx j ab ao H ha
 refine⟨rfl,Ju.set (F:=fun k=>k=rb) (Ju.of_below K) rfl 2 _,fun k=>N k\/k=w.heap.size,_,⟨?_,y.out.arr.on (by simp;exact bi) fun x o e=>bj x (y.out.an x o e),fun x o e=>.inl (y.out.an x o e),y.out.cap,fun b hb=>((y.out.blk b hb).on (by simp;exact bi) bj).mono fun k hk=>.inl hk,.inr ⟨?_,w.heap.size,_,cs.length,rfl,?_,.inr rfl,fun j b o H e=>.inl (hcut j b o H e)⟩,?_,fun k hk=>?_⟩,fun k hk=>hk.imp id (fun h=>zo)⟩
 ·rw[Jk z1];simp
 ·intro e;have:=congrArg List.length e;simp at this;omega
 ·exact Z.on zS (I _ zo) fun j b o H e=>I b fun bk=>y.out.nr (bk▸hcut j b o (by rw[Krw]at H;exact H) e)
 ·intro h;rcases h with h|h
  ·exact y.out.nr h
  omega
 rcases hk with h|h
 ·have:=y.out.lt k h;simp;omega
 simp;omega
theorem Ktm.len {w N cs ids hv}(h:Ktm w N cs ids hv)(y:1<=cs.length):Calls prog 55 #[hv] w fun e w'=>e=.returned (.int .i64 (ids.length:Int))/\w'=w:=by
 rcases h with⟨rfl,rfl⟩|⟨_,hb,hs,cap,rfl,hC,_⟩
 ·exact Qa0 w
 have c0:=hC.row.cell (i:=0) (by rw[Krw];exact y);rw[Kr0 ids y]at c0;exact Jlg hb cs.length cap _ ids.length _ w y c0
theorem Ksp.drop {w N ts cs rb R ba bc hv}(h:Ksp w N ts cs rb R ba bc hv):Ksp (w.setCell ⟨rb,2,none⟩ (.slice none 0 0)) N ts cs rb ⟨R.place,R.bs,[]⟩ ba bc (.slice none 0 0):=by
 have y:∀ k,N k->(w.setCell ⟨rb,2,none⟩ (.slice none 0 0)).heap[k]?=w.heap[k]?:=fun k hk=>Oa4 _ _ _ _ fun e=>h.nr ((show k=rb from e)▸hk);refine⟨by rw[Jk h.cells];simp,h.arr.on zS fun x o e=>y x (h.an x o e),h.an,h.cap,fun b hb=>(h.blk b hb).on zS y,.inl ⟨rfl,rfl⟩,h.nr,fun k hk=>by simpa using h.lt k hk⟩
theorem Kyg sb rb ts cs ks R ba bc hv w N(M:Sg ts cs ks)(h:Ksp w N ts cs rb R ba bc hv)(bf:R.held.length<=1)(hb:R.bs=[]):
  Calls prog 208 #[.pointer (some ⟨sb,0,none⟩),.pointer (some ⟨rb,0,none⟩)] w fun e w'=>e=.returned (.tuple #[.bool false,.nilIface])/\Ju (fun k=>k=rb) w w'/\Ksp w' N ts cs rb ⟨R.place,[],[]⟩ ba bc (.slice none 0 0):=by
 obtain⟨U,I,Y,K⟩:=h.fields;have Z:=K 2;have O:=h.held.len M.good.one;have y:=h.drop;rw[hb]at y I;have H:=zh y;have bh:¬ (1:Int)<(R.held.length:Int):=zo;have bj:(([]:List Bk).length:Int)=0:=rfl;clear h y hb;go_enter func208,ntmps208
 go_wp2_with (go_at_call 55;refine O.mono ?_;rintro e X ⟨rfl,bi⟩;subst X)
 go_ret2
 exact⟨rfl,Ju.set (F:=fun k=>k=rb) (Ju.refl _ _) rfl 2 _,H.out⟩
structure Qb5 (w:World) (sb d tb to_ tc kb ko kc:Nat) (ts:List Int) (ks:List Krv) (a0 a1 a2 q qw pg:Addr):Prop where
 so:Qde w sb d tb to_ tc kb ko kc ts ks
 er:Jf0 w a0 a1 a2
 cq:w.cell? ⟨6,0,none⟩=some (.iface 432 (.pointer (some q)))
 cw:w.cell? ⟨7,0,none⟩=some (.iface 432 (.pointer (some qw)))
 cp:w.cell? ⟨8,0,none⟩=some (.iface 432 (.pointer (some pg)))
theorem Ksp.took {y M I N F ts cs rb place K O bc g b bs hs A C}(H:Ksp y N ts cs rb ⟨place,b::bs,[]⟩ (some ⟨K,O,none⟩) bc (.slice none 0 0))(bk:Below y.heap.size y M)(bh:Ju F M I)(bE:∀ k,N k->¬ F k)(hF:∀ k,F k->k<y.heap.size)(Z:Qd M g hs (Jba b.ids cs))(bf:Kzr y M hs cs.length)(bx:y.heap.size<=g)(bH:b.ids≠[])(Y:(A=some ⟨K,O+3,none⟩/\C=bc-1)\/(bs=[]/\A=some ⟨K,O,none⟩/\C=0))(bK:I.heap[rb]?=some (.cells #[.int .i64 (place:Nat),.slice (some ⟨K,O,none⟩) (bs.length+1) bc,.slice none 0 0] 357 (0,0))):
  Ksp ((I.setCell ⟨rb,1,none⟩ (.slice A bs.length C)).setCell ⟨rb,2,none⟩ (.slice (some ⟨g,0,none⟩) cs.length cs.length)) (fun k=>N k\/(y.heap.size<=k/\k<M.heap.size)) ts cs rb ⟨place,bs,b.ids⟩ A C (.slice (some ⟨g,0,none⟩) cs.length cs.length):=by
 have bO:=bk.size;have bP:=bh.size;have bN:=Jd H.cells;have bj:∀ k,k≠rb->((I.setCell ⟨rb,1,none⟩ (.slice A bs.length C)).setCell ⟨rb,2,none⟩ (.slice (some ⟨g,0,none⟩) cs.length cs.length)).heap[k]?=I.heap[k]?:=fun k hk=>(Oa4 _ _ _ _ hk).trans (Oa4 _ _ _ _ hk);have bA:∀ k,N k->((I.setCell ⟨rb,1,none⟩ (.slice A bs.length C)).setCell ⟨rb,2,none⟩ (.slice (some ⟨g,0,none⟩) cs.length cs.length)).heap[k]?=y.heap[k]?:=fun k hk=>by
  have hl:=H.lt k hk;rw[bj k fun e=>H.nr (e▸hk),bh.block k zo (bE k hk),bk.block k hl]
 have bz:∀ k,y.heap.size<=k->k<M.heap.size->((I.setCell ⟨rb,1,none⟩ (.slice A bs.length C)).setCell ⟨rb,2,none⟩ (.slice (some ⟨g,0,none⟩) cs.length cs.length)).heap[k]?=M.heap[k]?:=fun k bM bD=>by
  rw[bj k zo,bh.block k bD (fun h=>by have:=hF k h;omega)]
 have bQ:((I.setCell ⟨rb,1,none⟩ (.slice A bs.length C)).setCell ⟨rb,2,none⟩ (.slice (some ⟨g,0,none⟩) cs.length cs.length)).heap.size=I.heap.size:=zS;refine⟨?_,?_,fun x o e=>?_,?_,fun bB bG=>((H.blk bB (Og1 _ bG)).on zo bA).mono fun k hk=>.inl hk,.inr ⟨bH,g,hs,cs.length,rfl,?_,.inr ⟨bx,Z.row.lt⟩,fun j x o U e=>.inr (bf j U x o e)⟩,fun h=>?_,fun k hk=>?_⟩
 ·have bI:=Jk bK 1 (.slice A bs.length C);have bJ:=Jk bI 2 (.slice (some ⟨g,0,none⟩) cs.length cs.length);rw[bJ];simp
 ·by_cases br:bs=[]
  ·exact .inl (by rw[br];rfl)
  rcases Y with⟨rfl,rfl⟩|⟨h,_⟩
  ·rcases H.arr with e|⟨x,o,bi,bL,bC⟩
   ·simp[Bk.cells]at e
   simp at bi;obtain⟨rfl,rfl⟩:=bi;refine .inr ⟨K,O+3,rfl,zo,fun i v hi=>?_⟩;have:=bC (3+i) v (by simp[Bk.cells];rw[Nat.add_comm];simpa [Bk.cells] using hi);rw[<-On5]at this;rw[Oc3 (w:=y) (bA K (H.an K O rfl))];exact this
  exact absurd h br
 ·rcases Y with⟨rfl,rfl⟩|⟨_,rfl,_⟩<;>(simp at e;obtain⟨rfl,rfl⟩:=e;exact .inl (H.an K O rfl))
 ·have:=H.cap;simp only[List.length_cons]at this |-;rcases Y with⟨_,rfl⟩|⟨rfl,_,rfl⟩
  ·omega
  exact Ob7 _
 ·exact Z.on zo (bz g bx Z.row.lt) fun j x o U e=>by
   rw[Krw]at U;exact bz x (bf j U x o e).1 (bf j U x o e).2
 ·rcases h with h|h
  ·exact H.nr h
  omega
 rcases hk with h|h
 ·have:=H.lt k h;omega
 omega
theorem Kw9 sb d tb to_ tc kb ko kc rb ts cs ks a0 a1 a2 q qw pg R b bs ba bc hv w N F D(bK:Sg ts cs ks)(h:Ksp w N ts cs rb R ba bc hv)(cW:R.held.length<=1)(hb:R.bs=b::bs)(bW:∀ X,Ju (fun k=>F k\/k=rb) w X->Qb5 X sb d tb to_ tc kb ko kc ts ks a0 a1 a2 q qw pg)(bU:Zb w F d D)(hF:∀ k,F k->k<w.heap.size)(bE:∀ k,N k->¬ F k)(bx:¬ F rb)(cP:¬ F sb)(ca:∀ i∈b.ids,i<nR cs)(bH:1<=b.ids.length/\b.ids.length<=64)(hh:Jan D b.l (Kr3 ts (Jba b.ids cs) ts.length))(cc:b.l.length<=1000000):
  Calls prog 208 #[.pointer (some ⟨sb,0,none⟩),.pointer (some ⟨rb,0,none⟩)] w fun e w'=>e=.returned (.tuple #[.bool true,.nilIface])/\Ju (fun k=>F k\/k=rb) w w'/\Zb w' F d (Jf4 D b.l)/\∃ bP cD cE cQ,Ksp w' bP ts cs rb ⟨R.place,bs,b.ids⟩ cD cE cQ/\∀ k,bP k->N k\/w.heap.size<=k:=by
 obtain⟨cF,bS,cG,bT⟩:=h.fields;have cH:=bT 2;have cf:=h.held.len bK.good.one;have bJ:=h.drop;have bL:=h.arr;have bI:=h.cap;rw[hb]at bJ bS bL bI;obtain⟨y,H,rfl,cL,cN⟩:∃ y H,ba=some ⟨y,H,none⟩/\y<w.heap.size/\∀ i v,((b::bs).flatMap (Bk.cells ts.length))[i]?=some v->w.cell? ⟨y,H+i,none⟩=some v:=by
  rcases bL with e|⟨x,o,bj,bR,bD⟩
  ·simp[Bk.cells]at e
  exact⟨x,o,bj,bR,bD⟩
 have I:=zh bJ;have cV:Hid (rb<w.heap.size):=Jd h.cells;have cX:¬ (1:Int)<(R.held.length:Int):=zo;have cU:(((b::bs).length:Int)==0)=false:=by rw[beq_eq_false_iff_ne,List.length_cons];omega
 have dc:(0:Int)<((b::bs).length:Int):=by rw[List.length_cons];omega
 have cu:Ju (fun k=>F k\/k=rb) w (w.setCell ⟨rb,2,none⟩ (.slice none 0 0)):=Ju.set (Ju.refl _ _) (.inr rfl) 2 _;have bV:Zb (w.setCell ⟨rb,2,none⟩ (.slice none 0 0)) F d D:=bU.stands fun k hk _=>Oa4 _ _ _ _ fun e=>bx ((show k=rb from e)▸hk);have bh:Hid (Ju (fun k=>F k\/k=rb) w (w.setCell ⟨rb,2,none⟩ (.slice none 0 0))/\Zb (w.setCell ⟨rb,2,none⟩ (.slice none 0 0)) F d D):=⟨cu,bV⟩;have cB:=zh bW;clear h bJ bL hb cu bV bW bT bU;go_enter func208,ntmps208
 go_upto_region 8 with(go_at_call 55;refine cf.mono ?_;rintro e X ⟨rfl,bG⟩;subst X)
 have cn:(w.setCell ⟨rb,2,none⟩ (.slice none 0 0)).heap.size=w.heap.size:=zS;clear cF bS cG cH cN cL cf cU;generalize w.setCell ⟨rb,2,none⟩ (.slice none 0 0)=K at *;have Y:=cB.out K bh.out.1;have cb:=bK.lay ca bH.2;obtain⟨cR,cy,cS,cT⟩:=I.out.fields;have br:=I.out.blk b zS;have bk:∀ i v,((b::bs).flatMap (Bk.cells ts.length))[i]?=some v->K.cell? ⟨y,H+i,none⟩=some v:=by
  rcases I.out.arr with e|⟨x,o,bj,bR,bD⟩
  ·simp[Bk.cells]at e
  simp at bj;obtain⟨rfl,rfl⟩:=bj;exact bD
 have cx:=bk 0 (.int .i64 (b.ids.length:Nat)) (by simp[Bk.cells]);have x1:=bk 1 (.slice b.la ts.length b.lc) (by simp[Bk.cells]);have x2:=bk 2 (.slice b.pa b.l.length b.pc) (by simp[Bk.cells]);rw[Nat.add_zero]at cx;have bM:=Kx8 sb tb to_ tc ts (Jba b.ids cs) b.ids.length b.la b.lc b.pa b.l b.pc K F d D pg a0 a1 a2 Y.so.c0 Y.so.c3 Y.so.ty cb.1 (bK.inI ca) bh.out.2 br.lens br.pages cc hh.read cb.2.1 Y.cp Y.er;unfold Qcm at bM;rw[Krw]at bM;have bf:Hid (¬ F y/\y<K.heap.size/\rb<K.heap.size/\K.heap.size=w.heap.size):=by
  refine⟨bE y (I.out.an y H rfl),I.out.lt y (I.out.an y H rfl),Jd I.out.cells,cn⟩
 have cC:Hid (∀ X,Below K.heap.size K X->Calls prog 96 #[.pointer (some ⟨d,0,none⟩),.slice b.pa b.l.length b.pc] X fun e w'=>e=.returned (.tuple #[])/\Zb w' F d (Jf4 D b.l)/\Ju F X w'):=fun X bG=>Ki0 d b.pa b.pc b.l X F D (bh.out.2.below bG) (br.pages.below bG) (fun x o e=>bE x (br.pn x o e)) cc;clear bk cn;go_wp2_with (go_at_call 244;refine bM.mono ?_;rintro e bQ ⟨M,g,hs,rfl,cO,cJ,cK⟩)
 have bO:=Ja M Y.so.c3;have bz:=Ja M cy;have bN:=Ja M x2;simp only[List.length_cons]at bz;go_region_held3 (fun X=>X.cell? ⟨sb,3,none⟩=some (.pointer (some ⟨d,0,none⟩))/\X.cell? ⟨rb,1,none⟩=some (.slice (some ⟨y,H,none⟩) (bs.length+1) bc)/\X.cell? ⟨y,H+2,none⟩=some (.slice b.pa b.l.length b.pc))
  (first|(exact⟨bO,bz,bN⟩)|(exact bX)|(go_split_ands;refine⟨?_,?_,?_⟩<;>assumption))
  (first|(go_at_call 96;refine(cC.out _ (Jp M 1)).mono ?_;rintro e bi ⟨rfl,bZ,Z⟩;have O:Ju F bQ bi:=⟨Z.os,Z.tape,Z.output,Z.size,Z.block⟩;clear Z;have bX:=And.intro (O.cell bO cP) (And.intro (O.cell bz bx) (O.cell bN bf.out.1))))
 have cz:bi.heap[rb]?=some (.cells #[.int .i64 (R.place:Nat),.slice (some ⟨y,H,none⟩) (bs.length+1) bc,.slice none 0 0] 357 (0,0)):=(O.block rb (Oc2 bf.out.2.2.1 M.size) bx).trans ((M.block rb bf.out.2.2.1).trans (by have:=I.out.cells;simpa using this));obtain⟨u0,u1,u2,cv⟩:=Ksm cz;have da:=cv 1;have db:=cv 2;have cY:(1:Int)<=(bc:Int):=by simp at bI;omega
 clear bz bN bO bX cR cy cS cT cx x1 x2;have ht:=fun (A:Option Addr) (C:Nat) (cI:(A=some ⟨y,H+3,none⟩/\C=bc-1)\/(bs=[]/\A=some ⟨y,H,none⟩/\C=0))=>Ksp.took (A:=A) (C:=C) I.out M O bE (fun k hk=>by have:=hF k hk;have:=bf.out;omega) cJ cK cO (fun e=>by rw[e]at bH;simp at bH) cI cz;have bC:Hid _:=ht;clear ht;have U:Hid (∀ v bA:Value,Ju (fun k=>F k\/k=rb) w ((bi.setCell ⟨rb,1,none⟩ v).setCell ⟨rb,2,none⟩ bA)/\Zb ((bi.setCell ⟨rb,1,none⟩ v).setCell ⟨rb,2,none⟩ bA) F d (Jf4 D b.l)):=fun v bA=>by
  refine⟨(((bh.out.1.trans (Ju.of_below M)).trans (O.mono fun k _ h=>.inl h)).set (.inr rfl) 1 v).set (.inr rfl) 2 bA,bZ.stands fun k hk _=>?_⟩;have ci:k≠rb:=fun e=>bx (e▸hk);exact(Oa4 _ _ _ _ ci).trans (Oa4 _ _ _ _ ci)
 have cj:∀ k,(N k\/(K.heap.size<=k/\k<bQ.heap.size))->N k\/w.heap.size<=k:=fun k hk=>hk.imp id fun h=>by have:=bf.out;omega
 have bB:=zh cj;clear cj bZ O;by_cases cM:bc=1
 ·have bY:bs.length=0:=by simp at bI;omega
  have cA:Hid (bs=[]):=List.eq_nil_of_length_eq_zero bY;subst cM;clear bY;go_wp2;all_goals go_ret2
  all_goals first|exact⟨rfl,(U.out _ _).1,(U.out _ _).2,_,_,_,_,bC.out _ _ (.inl ⟨rfl,rfl⟩),bB.out⟩|exact⟨rfl,(U.out _ _).1,(U.out _ _).2,_,_,_,_,bC.out _ _ (.inr ⟨cA.out,rfl,rfl⟩),bB.out⟩
 have cZ:(1:Int)<(bc:Int):=zo;go_wp2;all_goals go_ret2
 all_goals exact⟨rfl,(U.out _ _).1,(U.out _ _).2,_,_,_,_,bC.out _ _ (.inl ⟨rfl,rfl⟩),bB.out⟩
def Kyw (ks:List Krv)(cs:Cs)(i j y H:Nat):Bool:=if Kr5 ks cs i j≠0 then decide (Kr5 ks cs i j<0)else decide (y<H)
structure Qbm (w:World) (cs:Cs) (rb i p:Nat):Prop where
 c0:w.cell? ⟨rb,0,none⟩=some (.int .i64 (p:Nat))
 held:∃ (N:Nat->Prop) (ids:List Nat) (hb:Nat) (hs:List (Option Addr×Nat)) (cap:Nat),ids.head?=some i/\w.cell? ⟨rb,2,none⟩=some (.slice (some ⟨hb,0,none⟩) cs.length cap)/\Qd w hb hs (Jba ids cs)/\N hb
theorem Ksp.atRow {w N ts cs rb R ba bc hv i}(h:Ksp w N ts cs rb R ba bc hv)(hi:R.held.head?=some i):Qbm w cs rb i R.place:=by
 obtain⟨y,_,H,_⟩:=h.fields;rcases h.held with⟨e,_⟩|⟨_,hb,hs,cap,rfl,hC,I,_⟩
 ·rw[e]at hi;cases hi
 exact⟨y,N,R.held,hb,hs,cap,hi,H,hC,I⟩
theorem Kxk sb kb ko kc bh rb i j bC bD ts cs ks w(K:Sg ts cs ks)(hK:Kw7 w sb kb ko kc ks)(bG:Qbm w cs bh i bC)(hb:Qbm w cs rb j bD):
  Calls prog 207 #[.pointer (some ⟨sb,0,none⟩),.pointer (some ⟨bh,0,none⟩),.pointer (some ⟨rb,0,none⟩)] w fun e w'=>e=.returned (.bool (Kyw ks cs i j bC bD))/\Below w.heap.size w w':=by
 obtain⟨a0,_,H,Z,bI,O,M,a2,bx,_⟩:=bG;obtain⟨b0,_,I,bf,bJ,U,eb,b2,bz,_⟩:=hb;have bj:0<H.length:=by cases H with|nil=>cases M|cons x l=>simp
 have bk:0<I.length:=by cases I with|nil=>cases eb|cons x l=>simp
 have bA:H.getD 0 0=i:=by cases H with|nil=>cases M|cons x l=>simp at M;simp[M]
 have bB:I.getD 0 0=j:=by cases I with|nil=>cases eb|cons x l=>simp at eb;simp[eb]
 have br:Hid (∀ X,Below w.heap.size w X->Calls prog 204 #[.pointer (some ⟨sb,0,none⟩),.slice (some ⟨Z,0,none⟩) cs.length O,.int .i64 0,.slice (some ⟨bf,0,none⟩) cs.length U,.int .i64 0] X fun e w'=>e=.returned (.int .i64 (Kr5 ks cs i j))/\Below X.heap.size X w'):=fun X Y=>by
  have:=Kt4 sb kb ko kc ks Z O bI (Jba H cs) 0 bf U bJ (Jba I cs) 0 X (hK.below Y).cell (hK.below Y).keys K.nk (bx.below Y) (bz.below Y) (fun k hk=>⟨by rw[Krw];exact K.keys k hk,by rw[Kr0 H (K.keys k hk)];exact bj⟩) (fun k hk=>⟨by rw[Krw];exact K.keys k hk,by rw[Kr0 I (K.keys k hk)];exact bk⟩);rw[Krw,Krw,Qa9 K H I bj bk,bA,bB]at this;exact this
 unfold Kyw;generalize Kr5 ks cs i j=o at *;clear bx bz bA bB M eb bj bk hK;by_cases ho:o=0
 ·have bH:(o != 0)=false:=by simp[ho]
  rw[if_neg (fun h=>h ho)];clear ho;go_enter func207,ntmps207
  go_wp2_with fail
  go_region_held3 (fun X=>X.cell? ⟨bh,2,none⟩=some (.slice (some ⟨Z,0,none⟩) cs.length O)/\X.cell? ⟨rb,2,none⟩=some (.slice (some ⟨bf,0,none⟩) cs.length U))
   (first|(exact⟨a2,b2⟩)|(exact bi)|(go_split_ands;constructor<;>assumption))
   (first|(go_at_call 204;refine(br.out _ (Jp (Oa5 _ _) 1)).mono ?_;rintro e bE ⟨rfl,y⟩;have bi:=And.intro (Ja (Jw y) a2) (Ja (Jw y) b2)))
  have bK:=Ja (Jw y) a0;have bL:=Ja (Jw y) b0;go_wp2;go_quiet (fail)
  go_wp2;go_ret
  exact⟨Qr zS,Jp (Jw y) _⟩
 have bH:(o != 0)=true:=by simp[ho]
 rw[if_pos ho];clear ho;go_enter func207,ntmps207
 go_wp2_with fail
 go_region_held3 (fun X=>X.cell? ⟨bh,2,none⟩=some (.slice (some ⟨Z,0,none⟩) cs.length O)/\X.cell? ⟨rb,2,none⟩=some (.slice (some ⟨bf,0,none⟩) cs.length U))
  (first|(exact⟨a2,b2⟩)|(exact bi)|(go_split_ands;constructor<;>assumption))
  (first|(go_at_call 204;refine(br.out _ (Jp (Oa5 _ _) 1)).mono ?_;rintro e bE ⟨rfl,y⟩;have bi:=And.intro (Ja (Jw y) a2) (Ja (Jw y) b2)))
 go_wp2;go_ret
 exact⟨rfl,Jw y⟩
def rpV (r:Nat):Value:=.pointer (some ⟨r,0,none⟩)
def ahV (sb:Nat):Value:=.func (.func 207) #[.pointer (some ⟨sb,0,none⟩)] #[]
structure Kr8 (w:World) (hb ag sb n cap:Nat) (f:Nat->Nat):Prop where
 st:w.heap[hb]?=some (.cells #[.slice (some ⟨ag,0,none⟩) n cap,ahV sb] 364 (0,0))
 lt:ag<w.heap.size
 cell:∀ i,i<n->w.cell? ⟨ag,i,none⟩=some (.pointer (some ⟨f i,0,none⟩))
 froz:∀ i,w.frozen? ⟨ag,i,none⟩=false
 ne:ag≠hb
 row:∃ cur:Array Value,w.heap[ag]?=some (.cells cur 354 (0,0))/\cur.size=cap/\cap<=maxLen
 cap:n<=cap
section
variable {w w':World} {hb ag sb n cap:Nat} {f g:Nat->Nat}
theorem Kss {b x y t}(h:w.heap[b]?=some (.cells #[x,y] t (0,0))):w.cell? ⟨b,0,none⟩=some x/\w.cell? ⟨b,1,none⟩=some y/\∀ i,w.frozen? ⟨b,i,none⟩=false:=
 ⟨by simp[World.cell?,h],by simp[World.cell?,h],fun i=>by simp[World.frozen?,h]⟩
theorem Kr8.on (h:Kr8 w hb ag sb n cap f)(hs:w.heap.size<=w'.heap.size)(I:w'.heap[hb]?=w.heap[hb]?)(y:w'.heap[ag]?=w.heap[ag]?):Kr8 w' hb ag sb n cap f:=
 ⟨I.trans h.st,Oc2 h.lt hs,fun i hi=>by rw[Oc3 (w:=w) y];exact h.cell i hi,fun i=>by rw[Ol7 (w:=w) y];exact h.froz i,h.ne,by obtain⟨H,K,M⟩:=h.row;exact⟨H,y.trans K,M⟩,h.cap⟩
theorem Kr8.below (h:Kr8 w hb ag sb n cap f)(y:Below w.heap.size w w'):Kr8 w' hb ag sb n cap f:=h.on y.size (y.block _ (Jd h.st)) (y.block _ h.lt)
theorem Kr8.congr (h:Kr8 w hb ag sb n cap f)(e:∀ i,i<n->g i=f i):Kr8 w hb ag sb n cap g:=⟨h.st,h.lt,fun i hi=>by rw[e i hi];exact h.cell i hi,h.froz,h.ne,h.row,h.cap⟩
theorem Kr8.set (h:Kr8 w hb ag sb n cap f){i}(hi:i<n)x:Kr8 (w.setCell ⟨ag,i,none⟩ (.pointer (some ⟨x,0,none⟩))) hb ag sb n cap (fun k=>if k=i then x else f k):=by
 refine⟨(Oa4 _ _ _ _ (fun e=>h.ne (show hb=ag from e).symm)).trans h.st,by simpa using h.lt,fun k hk=>?_,fun k=>by rw[On9];exact h.froz k,h.ne,by obtain⟨I,y,H⟩:=h.row;exact⟨_,Jk y i _,by simpa using H⟩,h.cap⟩;exact zap
theorem Kr8.swap (h:Kr8 w hb ag sb n cap f){i j}(hi:i<n)(H:j<n)(I:i≠j):
  Kr8 ((w.setCell ⟨ag,i,none⟩ (.pointer (some ⟨f j,0,none⟩))).setCell ⟨ag,j,none⟩ (.pointer (some ⟨f i,0,none⟩))) hb ag sb n cap (swp f i j):=by
 refine((h.set hi (f j)).set H (f i)).congr fun k _=>?_;unfold swp;by_cases y:k=j
 ·rw[if_pos y,if_neg zo,if_pos y]
 rw[if_neg y,if_neg y]
end
abbrev HpG (hb y:Nat):Nat->Prop:=fun k=>k=hb\/k=y
def Kur (w:World)(G:Nat->Prop)(sb:Nat)(P:Nat->Prop)(key:Nat->Nat)(c:Nat->Nat->Int):Prop:=∀ W,Ju G w W->∀ r s,P r->P s ->
 Calls prog 207 #[.pointer (some ⟨sb,0,none⟩),.pointer (some ⟨r,0,none⟩),.pointer (some ⟨s,0,none⟩)] W fun e w'=>e=.returned (.bool (ltB c (key r) (key s)))/\Below W.heap.size W w'
theorem Kur.keep {w w' G sb P key c}(h:Kur w G sb P key c)(hk:Ju G w w'):Kur w' G sb P key c:=fun W hW=>h W (hk.trans hW)
theorem Ku6 hb y sb n cap i k f w(h:Kr8 w hb y sb n cap f)(hi:i<n)(hk:k<n)(H:i≠k):
  Calls prog 247 #[.pointer (some ⟨hb,0,none⟩),.int .i64 (i:Nat),.int .i64 (k:Nat)] w fun e w'=>e=.returned (.tuple #[])/\Kr8 w' hb y sb n cap (swp f i k)/\Ju (HpG hb y) w w':=by
 obtain⟨bi,s1,bj⟩:=Kss h.st;have M:=h.cell i hi;have ck:=h.cell k hk;have O:=h.froz i;have U:=h.froz k;have Z:(i:Int)<(n:Int):=zo;have bf:(k:Int)<(n:Int):=zo;have I:Hid _:=h.swap hi hk H;have K:=h.ne;have Y:hb≠y:=fun e=>K e.symm;have bh:k≠i:=fun e=>H e.symm;generalize f i=x at *;generalize f k=bk at *;clear h;go_enter func247,ntmps247
 go_wp2_with fail
 go_big_region
 all_goals go_wp2
 all_goals go_end0
 all_goals exact⟨rfl,I.out.on zS rfl rfl,(((Ju.refl _ _).set (.inr rfl) i _).set (.inr rfl) k _).drewN 1⟩
def Inj (n:Nat)(g:Nat->Nat):Prop:=∀ a b,a<n->b<n->g a=g b->a=b
theorem Inj.swp {n i k g}(h:Inj n g)(hi:i<n)(hk:k<n)(bi:i≠k):Inj n (swp g i k):=by
 have e:∀ a,a<n->∃ y,y<n/\Go.Proofs.YtjbenncelbpbnaaGreatDoor.swp g i k a=g y/\((a=i/\y=k)\/(a=k/\y=i)\/(a≠i/\a≠k/\y=a)):=fun a K=>by
  by_cases H:a=i
  ·subst H;exact⟨k,hk,Ktq _ _,.inl ⟨rfl,rfl⟩⟩
  by_cases I:a=k
  ·subst I;exact⟨i,hi,Ku3 _ _ zo,.inr (.inl ⟨rfl,rfl⟩)⟩
  exact⟨a,K,Ks0 H I,.inr (.inr ⟨H,I,rfl⟩)⟩
 intro a b K hb M;obtain⟨y,Y,U,bf⟩:=e a K;obtain⟨O,Z,eb,bh⟩:=e b hb;rw[U,eb]at M;have:=h y O Y Z M;omega
theorem Ku2 (key f:Nat->Nat)(i k:Nat):(fun j=>key (swp f i k j))=swp (fun j=>key (f j)) i k:=by
 funext j;unfold swp;split
 ·rfl
 split<;>rfl
theorem Kwp {n:Nat}{f y:Nat->Nat}{P:Nat->Prop}(h:Arr 0 n f y)(H:∀ j,j<n->P (f j)):∀ j,j<n->P (y j):=fun j I=>by
 obtain⟨t,_,K,e⟩:=h.at (k:=j) ⟨Ob7 _,I⟩;rw[e];exact H t K
theorem Kx5 hb H sb n cap i f key P c(ho:Kse c)w(h:Kr8 w hb H sb n cap f)(hi:i<n)(hn:n<=1000000)(bC:∀ j,j<n->P (f j))(bA:Kur w (HpG hb H) sb P key c)(bD:Kwq c n (fun j=>key (f j)) i)(bB:Inj n (fun j=>key (f j))):
  Calls prog 245 #[.pointer (some ⟨hb,0,none⟩),.int .i64 (i:Nat)] w fun e w'=>e=.returned (.tuple #[])/\Ju (HpG hb H) w w'/\∃ Y,Kr8 w' hb H sb n cap Y/\Arr 0 n f Y/\Hp c n (fun j=>key (Y j))/\Inj n (fun j=>key (Y j)):=by
 have bG:=zh bA;have bk:=zh bC;have bx:Hid (Kwq c n (fun j=>key (f j)) i/\Inj n (fun j=>key (f j))):=⟨bD,bB⟩;clear bA bC bD bB;go_enter func245,ntmps245
 go_wp2;go_loopw [1] (fun iv wr=>∃ (j:Nat) (y:Nat->Nat),iv=.int .i64 j/\j<n/\Kr8 wr hb H sb n cap y/\Ju (HpG hb H) w wr/\Hid (Arr 0 n f y/\Kwq c n (fun j=>key (y j)) j/\Inj n (fun j=>key (y j)))) (fun iv _=>(intOf iv).toNat)
 case atStart=>exact⟨i,f,rfl,hi,h,Ju.refl _ _,Arr.refl _ _ _,bx.out.1,bx.out.2⟩
 case round=>
  rename_i iv
  clear h;obtain⟨j,y,rfl,M,O,hK,K⟩:=hrel;by_cases h0:0<j
  ·have bI:(0:Int)<(j:Int):=zo;obtain⟨p,hp⟩:∃ p,p=(j-1) / 2:=⟨_,rfl⟩;have bO:((j:Int)-1).tdiv 2=(p:Int):=by
    rw[show (j:Int)-1=((j-1:Nat):Int) by omega,show (2:Int)=((2:Nat):Int) from rfl,<-Int.ofNat_tdiv];rw[hp]
   have bQ:p<j:=zo;have br:=zh hp;clear hp;obtain⟨bh,s1,_⟩:=Kss O.st;have U:=O.cell j M;have cp:=O.cell p zo;have bP:(j:Int)<(n:Int):=zo;have bR:(p:Int)<(n:Int):=zo;have Z:=bG.out wr.drew hK.drew (y j) (y p) (Kwp K.out.1 bk.out j M) (Kwp K.out.1 bk.out p zo);have bf:=fun X (bL:Kr8 X hb H sb n cap y)=>Ku6 hb H sb n cap j p y X bL M zo zo;have bH:Hid _:=bf;clear bf;unfold ahV at s1;by_cases hl:ltB c (key (y j)) (key (y p))=true
   ·rw[hl]at Z;go_wp2_with fail
    go_region_held3 (fun X=>X.cell? ⟨hb,0,none⟩=some (.slice (some ⟨H,0,none⟩) n cap)/\X.cell? ⟨hb,1,none⟩=some (.func (.func 207) #[.pointer (some ⟨sb,0,none⟩)] #[])/\X.cell? ⟨H,j,none⟩=some (.pointer (some ⟨y j,0,none⟩))/\X.cell? ⟨H,p,none⟩=some (.pointer (some ⟨y p,0,none⟩)))
     (first|(exact⟨bh,s1,U,cp⟩)|(exact bi)|(go_split_ands;refine⟨?_,?_,?_,?_⟩<;>assumption))
     (first|(go_at_call 207;refine Z.mono ?_;rintro e bz ⟨rfl,bj⟩;have I:=Jw bj;have bi:=And.intro (Ja I bh) (And.intro (Ja I s1) (And.intro (Ja I U) (Ja I cp)))))
    have bf:=bH.out bz (O.below I);go_wp2_with (go_at_call 247;refine bf.mono ?_;rintro e bN ⟨rfl,bJ,bK⟩)
    go_roundw
    case rel=>
     have hp:=br.out;have bM:=K.out.2.1.step ho h0 M (by rw[<-hp];exact Ksr.1 hl);refine⟨p,swp y j p,rfl,zo,bJ,(hK.trans (Ju.of_below I)).trans bK,K.out.1.trans (Arr.swp ⟨Ob7 _,M⟩ ⟨Ob7 _,zo⟩),?_,?_⟩
     ·rw[Ku2,hp];exact bM
     rw[Ku2];exact K.out.2.2.swp M zo zo
    case measure=>simp[intOf];omega
   have bE:ltB c (key (y j)) (key (y p))=false:=by simpa using hl
   rw[bE]at Z;go_wp2_with fail
   go_region_held3 (fun X=>X.cell? ⟨hb,0,none⟩=some (.slice (some ⟨H,0,none⟩) n cap)/\X.cell? ⟨hb,1,none⟩=some (.func (.func 207) #[.pointer (some ⟨sb,0,none⟩)] #[])/\X.cell? ⟨H,j,none⟩=some (.pointer (some ⟨y j,0,none⟩))/\X.cell? ⟨H,p,none⟩=some (.pointer (some ⟨y p,0,none⟩)))
    (first|(exact⟨bh,s1,U,cp⟩)|(exact bi)|(go_split_ands;refine⟨?_,?_,?_,?_⟩<;>assumption))
    (first|(go_at_call 207;refine Z.mono ?_;rintro e bz ⟨rfl,bj⟩;have I:=Jw bj;have bi:=And.intro (Ja I bh) (And.intro (Ja I s1) (And.intro (Ja I U) (Ja I cp)))))
   go_wp2;(try simp only[Exit.inBlock,Exit.then])
   refine bodyPost_ret (results_none rfl _ _ _) rfl ?_;have hp:=br.out;refine⟨rfl,hK.trans (Ju.of_below I),y,O.below I,K.out.1,K.out.2.1.done (.inr ?_),K.out.2.2⟩;rw[<-hp];exact Lt.total ho (fun e=>by have:=K.out.2.2 j p M zo e;omega) (Ks2.1 bE)
  have bI:¬ (0:Int)<(j:Int):=zo;go_wp2;go_end0
  exact⟨rfl,hK,y,O,K.out.1,K.out.2.1.done (.inl zo),K.out.2.2⟩
