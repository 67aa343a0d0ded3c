/- Load of a set: what is no table, or cannot be there. -/
import Derived.Test.YtnlnlamdilifcaaGreatDoorTo
set_option maxHeartbeats 4000000
set_option maxRecDepth 100000
namespace Go.Proofs.YtnlnlamdilifcaaGreatDoor
open Go.RowKit Go.Shelf Tryz
def Je3 (ts hs:List Int):Prop:=hs.length=ts.length/\∀ j (y:j<hs.length),way (ts.getD j 0) hs[j]=true
structure Kct (w:World) (name:ByteArray) (at_ ar ah:Option Addr) (cr:Nat) (ts hs:List Int) (xs:List (Option Addr×Nat)) (rs:List (List V)):Prop where
 ln:name.size<=maxLen
 lt:ts.length<=maxLen
 lr:rs.length<=maxLen
 lrr:∀ r∈rs,r.length<=maxLen
 lh:hs.length<=maxLen
 cap:rs.length<=cr
 types:Kc w at_ ts
 hows:Kc w ah hs
 rows:Zd w ar xs rs
theorem Kct.below {w w' name at_ ar y cr ts hs xs rs}(h:Kct w name at_ ar y cr ts hs xs rs)(hb:Bq w w'):Kct w' name at_ ar y cr ts hs xs rs:=
 ⟨h.ln,h.lt,h.lr,h.lrr,h.lh,h.cap,h.types.below hb,h.hows.below hb,h.rows.below hb⟩
abbrev Jvc (name:ByteArray)(at_ ar:Option Addr)(ct cr:Nat)(ts:List Int)(rs:List (List V)):Value:=.agg #[.string name,.slice at_ ts.length ct,.slice ar rs.length cr]
abbrev Jln (name:ByteArray)(at_ ar:Option Addr)(ct cr:Nat)(ts:List Int)(rs:List (List V)):Obj:=.cells #[.string name,.slice at_ ts.length ct,.slice ar rs.length cr] 25
structure Jqy (w:World) (s d:Nat) (F G:Nat->Prop) (D:DS) (Ts:List TS) (sv:Value) (bs:List Nat) (name:ByteArray) (at_ ar ah:Option Addr) (cr:Nat) (ts hs:List Int) (xs:List (Option Addr×Nat)) (rs:List (List V)) (g:Nat):Prop where
 args:Kct w name at_ ar ah cr ts hs xs rs
 tab:Jel name ts rs
 ways:Je3 ts hs
 g1:1<=g
 g2:g<=64
 set:Jfl w G s d Ts sv bs
 new:¬ Ub Ts name<Ts.length
 few:Ts.length<6
 disk:Zb w F d D
 lt:∀ k,F k\/G k->k<w.heap.size
 apart:∀ k,G k->¬ F k
 sF:¬ F s
 gF:∀ g,sv.ownBlock=some g->¬ F g
 tF:∀ b o,at_=some (Ar b o)->¬ F b
 small:D.pages.length<=800000
 wayc:∀ x∈hs,Qaq x
theorem zas {p:Prop}(h:p:=by have:=Kkk name at_ ar ah ct cr ch g ts hs xs rs W h.tab h.ways.1 h.ways.2 h.g1 h.g2 hA.cap (hA.types.below hb) (hA.hows.below hb) (hA.rows.below hb) h.wayc a0 a1 a2 (he.below hb);rw[hp]at this;exact this):p:=h
open Classical in
theorem Kye s d F G D Ts sv bs name at_ ar ah ct cr ch ts hs xs rs g w(h:Jqy w s d F G D Ts sv bs name at_ ar ah cr ts hs xs rs g)a0 a1 a2(he:Jf0 w a0 a1 a2)c(hp:Jfg rs ts hs (cks rs.length g (ckN rs.length g))=.inr c):
  Cq 25 #[Pq s,Jvc name at_ ar ct cr ts rs,.slice ah hs.length ch,.int .i64 (g:Int)] w fun e w'=>Bq w w'/\∃ b,e=.returned (Ip 106 b)/\Yu w' (Ip 106 b) a1 (some (c:Int)) none:=by
 have hb0:Bq w (w.alloc (Jln name at_ ar ct cr ts rs)):=(Oa5 _ w).alloc (Oa2 _) _;have hA:=h.args;have hT:=Kjj name at_ ar ct cr ts xs rs _ hA.ln hA.lt hA.lr hA.lrr (hA.types.below hb0) (hA.rows.below hb0);rw[decide_eq_true h.tab]at hT;have q0:(w.alloc (Jln name at_ ar ct cr ts rs)).cell? (Aq w.heap.size)=some (.string name):=zS;have q1:(w.alloc (Jln name at_ ar ct cr ts rs)).cell? (Ar w.heap.size 1)=some (.slice at_ ts.length ct):=zS;have q2:(w.alloc (Jln name at_ ar ct cr ts rs)).cell? (Ar w.heap.size 2)=some (.slice ar rs.length cr):=zS;have HW:Hid (∀ W,Bq w W->Cq 40 #[.slice ah hs.length ch,.slice at_ ts.length ct] W fun e w'=>e=.returned (.bool true)/\w'=W):=fun W hb=>Kjr ah at_ ch ct hs ts W hA.lh (hA.hows.below hb) (hA.types.below hb) true (by simpa [Je3] using h.ways);have hfv:Jhc Ts name=-1:=by unfold Jhc;rw[if_neg h.new]
 have HF:Hid (∀ W,Bq w W->Cq 41 #[Pq s,.string name] W fun e w'=>e=.returned (.int .i64 (-1))/\Bq W w'):=fun W hb=>by have:=Jo8 name W G s d Ts sv bs (h.set.below hb);rw[hfv]at this;exact this
 have HP:Hid (∀ W,Bq w W->Cq 42 #[.agg #[.string name,.slice at_ ts.length ct,.slice ar rs.length cr],.slice ah hs.length ch,.int .i64 (g:Int)] W fun e w'=>Bq W w'/\∃ b,e=.returned (.tuple #[Sz,Ip 106 b])/\W.heap.size<=b/\Yu w' (Ip 106 b) a1 (some (c:Int)) none):=fun W hb=>by
  exact zas
 obtain⟨_,c1⟩:=h.set.field;obtain⟨a,cap,hsv,_⟩:=h.set.own.cells;rw[Oa6,h.set.len]at hsv;subst hsv;have hfew:=h.few;have hg1:=h.g1;have hg2:=h.g2;clear h hA hfv hp;go_enter func25,ntmps25
 go_wp2_with (first|(go_at_call 39;refine hT.mono ?_;rintro e W1 ⟨rfl,hb1⟩;have hb2:=Jb hb0 hb1;have d0:=Ja hb1 q0;have d1:=Ja hb1 q1;have d2:=Ja hb1 q2)|(go_at_call 40;refine(HW.out W1 hb2).mono ?_;rintro e W2 ⟨rfl,rfl⟩)|(go_at_call 41;refine(HF.out _ hb2).mono ?_;rintro e W3 ⟨rfl,hb3⟩;have hb4:=Jb hb2 hb3;have dc1:=Ja hb4 c1;have e0:=Ja hb3 d0;have e1:=Ja hb3 d1;have e2:=Ja hb3 d2)|(go_at_call 42;refine(HP.out _ hb4).mono ?_;rintro e W4 ⟨hb5,b,rfl,hbl,hch⟩))
 go_ret
 exact⟨Jb hb4 hb5,b,rfl,hch⟩
structure Kkv (w:World) (s d:Nat) (F:Nat->Prop) (D:DS) (Ts:List TS) (name:ByteArray) (at_ ar ah:Option Addr) (ct cr ch:Nat) (ts hs:List Int) (rs:List (List V)) (g:Nat) (T:List (List UInt8)) (q qw:Addr):Prop where
 t:Cq 39 #[Jvc name at_ ar ct cr ts rs] (w.alloc (Jln name at_ ar ct cr ts rs)) fun e w'=>e=.returned (.bool true)/\Below (w.alloc (Jln name at_ ar ct cr ts rs)).heap.size (w.alloc (Jln name at_ ar ct cr ts rs)) w'
 ws:∀ W,Bq w W->Cq 40 #[.slice ah hs.length ch,.slice at_ ts.length ct] W fun e w'=>e=.returned (.bool true)/\w'=W
 f:∀ W,Bq w W->Cq 41 #[Pq s,.string name] W fun e w'=>e=.returned iM /\Bq W w'
 p:∀ W,Bq w W->Cq 42 #[.agg #[.string name,.slice at_ ts.length ct,.slice ar rs.length cr],.slice ah hs.length ch,Iq (g:Int)] W fun e w'=>Bq W w'/\∃ a cap,e=.returned (.tuple #[.slice a T.length cap,.nilIface])/\Uh w' a (T.map tv)/\∀ b o,a=some (Ar b o)->W.heap.size<=b
 l:∀ W a cap,Bq w W->Uh W a (T.map tv)->(∀ b o,a=some (Ar b o)->w.heap.size<=b)->Cq 43 #[Pq s,.slice a T.length cap] W fun e w'=>Jxo W F d q qw (Jq D T) e w'
open Classical in
theorem Jqy.hid {w s d F G D Ts sv bs name at_ ar ah cr ts hs xs rs g}(h:Jqy w s d F G D Ts sv bs name at_ ar ah cr ts hs xs rs g)ct ch a0 a1 a2(he:Jf0 w a0 a1 a2)T(hp:Jfg rs ts hs (cks rs.length g (ckN rs.length g))=.inl T)q qw(hq:w.cell? (Aq 5)=some (Ie 435 q))(hw:w.cell? (Aq 6)=some (Ie 435 qw))(hFq:¬ F 5)(hFw:¬ F 6):Kkv w s d F D Ts name at_ ar ah ct cr ch ts hs rs g T q qw:=by
 have hb0:Bq w (w.alloc (Jln name at_ ar ct cr ts rs)):=(Oa5 _ w).alloc (Oa2 _) _;have hA:=h.args;have hT:=Kjj name at_ ar ct cr ts xs rs _ hA.ln hA.lt hA.lr hA.lrr (hA.types.below hb0) (hA.rows.below hb0);rw[decide_eq_true h.tab]at hT;have hfv:Jhc Ts name=-1:=by unfold Jhc;rw[if_neg h.new]
 refine⟨hT,fun W hb=>Kjr ah at_ ch ct hs ts W hA.lh (hA.hows.below hb) (hA.types.below hb) true (by simpa [Je3] using h.ways),fun W hb=>by have:=Jo8 name W G s d Ts sv bs (h.set.below hb);rw[hfv]at this;exact this,fun W hb=>?_,fun W a cap hb hc ha=>?_⟩
 ·exact zas
 obtain⟨hl1,hl2⟩:=Jte rs ts hs _ T hp;have hck:(cks rs.length g (ckN rs.length g)).length<=200:=by
  have h2:rs.length<=200:=h.tab.2.2.1;have h3:ckN rs.length g<=rs.length:=by
   unfold ckN;have:=h.g1;exact Nat.le_of_lt_succ ((Nat.div_lt_iff_lt_mul zo).2 (by
    have:rs.length+1<=(rs.length+1)*g:=On4 _ zo;rw[Of5]at this |-;have h5:rs.length<=rs.length*g:=On4 _ zo;omega))
  simp[cks];omega
 have h6:ts.length<=6:=h.tab.2.1.1.2;have hTl:T.length<=1200:=by
  rw[hl1];exact Ob2 (Ol5 hck h6) zd
 have htp:=Joc T fun t ht=>(hl2 t ht).1;have hsm:=h.small;exact Kks s d a cap T W F D (h.disk.below hb) (fun k hk=>Oc2 (h.lt k (.inl hk)) hb.size) hc (fun b o hbo hf=>by have:=h.lt b (.inl hf);have:=ha b o hbo;omega) (Ja hb h.set.field.1) h.sF q qw (Ja hb hq) (Ja hb hw) hFq hFw zo zo (fun t ht=>by have:=(hl2 t ht).1;omega)
def Jdl (w:World)(s d:Nat)(F G:Nat->Prop)(D:DS)(Ts:List TS)(sv:Value)(bs:List Nat)(name:ByteArray)(ts:List Int)(rs:List (List V))(g:Nat)(T:List (List UInt8))(w':World):Prop:=
 Ju (fun k=>F k\/Jnr s sv k) w w'/\∃ (FD y:Nat->Prop) (sv':Value) (tb:Nat),Zb w' FD d (Jq D T).1/\Jfl w' y s d (Ts++[⟨name,ts,rs.length,g,(Jq D T).2.1⟩]) sv' (bs++[tb])/\(∀ k,FD k->F k\/w.heap.size<=k)/\(∀ k,y k->G k\/w.heap.size<=k)/\(∀ k,FD k\/y k->k<w'.heap.size)/\(∀ k,y k->¬ FD k)/\¬ FD s/\(∀ k,sv'.ownBlock=some k->¬ FD k)/\(∀ k,sv'.ownBlock=some k->sv.ownBlock=some k\/w.heap.size<=k)
abbrev Jr (name:ByteArray)(H y:Nat)(ts:List Int)(rs:List (List V))(g:Nat)(I:Option Addr)(n sc:Nat):Obj:=.cells #[.string name,Sq H ts.length y,Iq (rs.length:Int),Iq (g:Int),.slice I n sc] 113
theorem zaS {p:Prop}(h:p:=by
 rcases U k y with e|e
 ·have:=bx k e;omega
 omega):p:=h
theorem Jgq {w s d F G D Ts sv bs name at_ ar bS cr ts hs xs rs g}(h:Jqy w s d F G D Ts sv bs name at_ ar bS cr ts hs xs rs g){T bh K I M FD bG sc bQ}(bi:Bq w bh)(br:Ju F bh K)(bU:Zb K FD d (Jq D T).1)(bN:∀ k,FD k->F k\/bh.heap.size<=k)(bE:∀ k,FD k->k<K.heap.size)(bZ:Jaf K (fun k=>bh.heap.size<=k/\k<K.heap.size/\¬ FD k) bG bQ (Jq D T).2.1)(bY:(Jq D T).2.1.length<=sc)(bj:Bq K I){Y bH}(cf:K.heap.size<=Y)(ci:Y<I.heap.size)(hI:Kc I (some (Aq Y)) ts){sv' bD}(bW:Jo M 0 109 sv' (bs.map Jcp++[Jcp I.heap.size]))(bk:((I.alloc (Jr name Y bH ts rs g bG (Jq D T).2.1.length sc)).alloc bD).grownBy M sv.ownBlock)(bT:sv'.ownBlock=sv.ownBlock\/sv'.ownBlock=some (I.heap.size+2)):
  Jdl w s d F G D Ts sv bs name ts rs g T (M.setCell (Ar s 1) sv'):=by
 have cn:=bi.size;have cj:=br.size;have cu:=bj.size;have ca:=bk.size;simp only[Oa7]at ca;have bK:s<w.heap.size:=Jd h.set.cells;have bx:∀ k,sv.ownBlock=some k->k<w.heap.size:=fun k y=>Qk h.set.own y;have cc:∀ k,F k->k<w.heap.size:=fun k y=>h.lt k (.inl y);have bI:∀ k,G k->k<w.heap.size:=fun k y=>h.lt k (.inr y);have bB:∀ k,k<w.heap.size->FD k->F k:=fun k y O=>(bN k O).resolve_right zo;have bC:(M.setCell (Ar s 1) sv').heap.size=M.heap.size:=by simp[World.setCell]
 -- the blocks that stand
 have bP:∀ k,k<I.heap.size+2->sv.ownBlock≠some k->k≠s->(M.setCell (Ar s 1) sv').heap[k]?=((I.alloc (Jr name Y bH ts rs g bG (Jq D T).2.1.length sc)).alloc bD).heap[k]?:=fun k y bf Z=>
  (Oa4 _ _ _ _ Z).trans (bk.block k zt (Oc5 bf))
 have st2:∀ k,k<I.heap.size->sv.ownBlock≠some k->k≠s->(M.setCell (Ar s 1) sv').heap[k]?=I.heap[k]?:=fun k y bf Z=>
  (bP k zo bf Z).trans ((Oa9 _ bD k zt).trans (Oa9 I _ k y))
 have bM:∀ k,k<K.heap.size->sv.ownBlock≠some k->k≠s->(M.setCell (Ar s 1) sv').heap[k]?=K.heap[k]?:=fun k y bf Z=>
  (st2 k zo bf Z).trans (bj.block k y)
 have bO:∀ k,k<w.heap.size->¬ F k->sv.ownBlock≠some k->k≠s->(M.setCell (Ar s 1) sv').heap[k]?=w.heap[k]?:=fun k y hF bf Z=>
  (bM k zo bf Z).trans ((br.block k zo hF).trans (bi.block k y))
 have bL:sv.ownBlock≠some s:=fun e=>(h.set.gF s e).2 rfl;have bX:M.heap[s]?=some (.cells #[Pq d,sv] 99 (0,0)):=by
  rw[bk.block s zt (Oc5 bL),Oa9 _ bD s zt,Oa9 I _ s zo,bj.block s zo,br.block s zo h.sF,bi.block s bK];exact h.set.cells
 have U:∀ k,sv'.ownBlock=some k->sv.ownBlock=some k\/k=I.heap.size+2:=fun k y=>by
  rcases bT with e|e
  ·exact .inl (e▸y)
  rw[e]at y;simp at y;exact .inr y.symm
 refine⟨⟨bk.os.trans ((bj.os).trans (br.os.trans bi.os)),bk.tape.trans ((bj.tape).trans (br.tape.trans bi.tape)),bk.output.trans ((bj.output).trans (br.output.trans bi.output)),by rw[bC];omega,fun k y bJ=>bO k y (fun hF=>bJ (.inl hF)) (fun e=>bJ (.inr (.inr e))) (fun e=>bJ (.inr (.inl e)))⟩,
  FD,fun k=>G k\/(bh.heap.size<=k/\k<K.heap.size/\¬ FD k)\/k=Y\/k=I.heap.size,sv',I.heap.size,?_,?_,fun k y=>(bN k y).imp_right fun h=>zo,?_,?_,?_,?_,?_,?_⟩
 ·refine bU.stands fun k y hl=>bM k hl (fun e=>?_) (fun e=>?_)
  ·exact h.gF k e (bB k (bx k e) y)
  subst e;exact h.sF (bB k bK y)
 ·refine⟨heap_setCell_same M s 1 _ _ _ bX,?_,?_,?_,by simp[h.set.len],?_,by have:=h.few;simp;omega⟩
  ·rw[Ob8,Oe4,Oi4];refine Yd bW fun k y=>Oa4 _ _ _ _ fun e=>?_;subst e;rcases U k y with e|e
   ·exact bL e
   omega
  ·rintro(H|⟨H,_⟩|H|H)
   ·exact h.set.sF H
   ·omega
   ·omega
   omega
  ·intro k y;refine⟨?_,fun e=>?_⟩
   ·rintro(H|⟨H,cb,_⟩|H|H)
    ·rcases U k y with e|e
     ·exact(h.set.gF k e).1 H
     have:=bI k H;omega
    ·exact zaS
    ·exact zaS
    exact zaS
   subst e;rcases U k y with e|e
   ·exact bL e
   omega
  intro i b bR hb bz;by_cases hi:i<bs.length
  ·rw[Ob0 hi]at hb;rw[Ob0 (by rw[<-h.set.len];exact hi)]at bz;refine((h.set.tab i b bR hb bz).stands (by rw[bC];omega) fun k y hl=>bO k hl (h.apart k y) (fun e=>(h.set.gF k e).1 y) (fun e=>h.set.sF (e▸y))).mono fun k y=>.inl y
  have bV:i=bs.length:=by
   have:=(Ob9.1 hb).1;simp at this;omega
  subst bV;rw[Ob6 (Oa2 _)]at hb;rw[h.set.len,Ob6 (Oa2 _)]at bz;simp at hb bz;subst hb bz;have nb:∀ k,bh.heap.size<=k->sv.ownBlock≠some k:=fun k y e=>by have:=bx k e;omega
  refine⟨some (Aq Y),bH,bG,sc,bQ,?_,?_,?_,?_,bY,.inr (.inr (.inr rfl))⟩
  ·rw[bP _ zo (nb _ zo) zo,Oa9 _ bD _ zS,heap_alloc_new]
  ·refine hI.of_block (by rw[bC];omega) fun b o bA hl=>?_;simp at bA;obtain⟨rfl,rfl⟩:=bA;exact st2 _ hl (nb _ zo) zo
  ·intro b o bA;simp at bA;exact .inr (.inr (.inl bA.1.symm))
  exact(bZ.stands (by rw[bC];omega) fun k y hl=>bM k hl (nb k y.1) (by have:=y.1;omega)).mono fun k y=>.inr (.inl y)
 ·rintro k (H|⟨H,_⟩|H|H)
  ·exact .inl H
  ·exact .inr zo
  ·exact .inr zo
  exact .inr zo
 ·rw[bC];rintro k (H|H|⟨_,H,_⟩|H|H)
  ·have:=bE k H;omega
  ·have:=bI k H;omega
  ·omega
  ·omega
  omega
 ·rintro k (H|⟨_,_,H⟩|H|H) O
  ·exact h.apart k H (bB k (bI k H) O)
  ·exact H O
  ·have:=bE k O;omega
  have:=bE k O;omega
 ·exact fun O=>h.sF (bB s bK O)
 ·intro k y O;rcases U k y with e|e
  ·exact h.gF k e (bB k (bx k e) O)
  have:=bE k O;omega
 intro k y;rcases U k y with e|e
 ·exact .inl e
 exact .inr zo
theorem Ku0 {w:World}{a:Addr}{v:Value}{o:Obj}(h:w.cell? a=some v):(w.alloc o).cell? a=some v:=(World.cell?_alloc_some w a o (by rw[h];rfl)).trans h
theorem Ked s d F G D Ts sv bs name at_ ar bS ct cr ch ts hs xs rs g w(h:Jqy w s d F G D Ts sv bs name at_ ar bS cr ts hs xs rs g)a0 a1 a2(de:Jf0 w a0 a1 a2)T(hp:Jfg rs ts hs (cks rs.length g (ckN rs.length g))=.inl T)q qw(hq:w.cell? (Aq 5)=some (Ie 435 q))(cE:w.cell? (Aq 6)=some (Ie 435 qw))(cZ:¬ F 5)(da:¬ F 6)(cF:(Jq D T).2.2=none):
  Cq 25 #[Pq s,Jvc name at_ ar ct cr ts rs,.slice bS hs.length ch,Iq (g:Int)] w fun e w'=>e=.returned .nilIface/\Jdl w s d F G D Ts sv bs name ts rs g T w':=by
 have dc:Bq w (w.alloc (Jln name at_ ar ct cr ts rs)):=(Oa5 _ w).alloc (Oa2 _) _;obtain⟨cu,hW,hF,cn,cj⟩:=h.hid ct ch a0 a1 a2 de T hp q qw hq cE cZ da;have bQ:=zh hW;have bN:=zh hF;have bP:=zh cn;have bO:Hid (∀ W a cap,Bq w W->Uh W a (T.map tv)->(∀ b o,a=some (Ar b o)->w.heap.size<=b)->Cq 43 #[Pq s,.slice a T.length cap] W fun e w'=>Ju F W w'/\∃ FD:Nat->Prop,Zb w' FD d (Jq D T).1/\(∀ k,FD k->F k\/W.heap.size<=k)/\(∀ k,FD k->k<w'.heap.size)/\∃ bC sc cJ,e=.returned (.tuple #[.slice bC (Jq D T).2.1.length sc,.nilIface])/\Jaf w' (fun k=>W.heap.size<=k/\k<w'.heap.size/\¬ FD k) bC cJ (Jq D T).2.1/\(Jq D T).2.1.length<=sc):=fun W a cap cW cX cY=>
  (cj W a cap cW cX cY).mono fun e w' bL=>by
   unfold Jxo at bL;rw[cF]at bL;exact bL
 have cG:(w.alloc (Jln name at_ ar ct cr ts rs)).cell? (Aq w.heap.size)=some (.string name):=zS;have cH:(w.alloc (Jln name at_ ar ct cr ts rs)).cell? (Ar w.heap.size 1)=some (.slice at_ ts.length ct):=zS;have cI:(w.alloc (Jln name at_ ar ct cr ts rs)).cell? (Ar w.heap.size 2)=some (.slice ar rs.length cr):=zS;have bK:¬ F w.heap.size:=fun df=>Oe3 _ (h.lt _ (.inl df));have I:=zh h;obtain⟨_,c1⟩:=h.set.field;obtain⟨a,cap,cD,_⟩:=h.set.own.cells;rw[Oa6,h.set.len]at cD;subst cD;have dG:=h.few;have dH:=h.g1;have dI:=h.g2;have dr:=h.sF;have bA:ts≠[]:=fun e=>by have:=h.tab.2.1.1.1;rw[e]at this;simp at this
 obtain⟨tb,bh,rfl⟩:∃ b o,at_=some (Ar b o):=by
  rcases h.args.types with h0|⟨b,o,hb,_⟩
  ·simp at h0;exact absurd h0 bA
  exact⟨b,o,hb⟩
 have dy:=zh bA;have dK:rs.length<=200:=h.tab.2.2.1;generalize hR:(Jq D T).2.1=R at *;have cO:=zh hR;clear hR;have cP:Hid (∀ W,Cq 44 #[.string name] W fun e w'=>e=.returned (.string name)/\Bq W w'):=fun W=>by
  have:=Jhm name.toList W (by have:=h.tab.1.2;rw[<-Jb2,Zf];omega);rwa [Zf]at this
 have cK:Hid (∀ W,Kc W (some (Ar tb bh)) ts->Cq 45 #[Sr tb bh ts.length ct] W fun e w'=>Bq W w'/\∃ g c,e=.returned (Sq g ts.length c)/\W.heap.size<=g/\g<w'.heap.size/\Kc w' (some (Aq g)) ts):=fun W hI=>Jhe tb bh ct ts W bA (by have:=h.tab.2.1.1.2;omega) hI;obtain⟨dx,dj,du,dv,dw⟩:=info_parts Jru;clear h hp hW hF cn cj hq cE cF bA;go_enter func25,ntmps25
 go_wp2_with (first|(go_at_call 39;refine cu.mono ?_;rintro e cR ⟨rfl,bj⟩;have bH:=Jb dc bj;have bT:=Ja bj cG;have bU:=Ja bj cH;have bV:=Ja bj cI)|(go_at_call 40;refine(bQ.out cR bH).mono ?_;rintro e dA ⟨rfl,rfl⟩)|(go_at_call 41;refine(bN.out _ bH).mono ?_;rintro e dB ⟨rfl,bk⟩;have br:=Jb bH bk;have cT:=Ja br c1;have bW:=Ja bk bT;have bX:=Ja bk bU;have bY:=Ja bk bV)|(go_at_call 42;refine(bP.out _ br).mono ?_;rintro e dC ⟨bx,pa,pc,rfl,cy,cx⟩;have Y:=Jb br bx;have bZ:=Ja bx bW;have ca:=Ja bx bX;have cb:=Ja bx bY;have cc:=Ja Y c1;have bM:=br.size)|(go_at_call 43;refine(bO.out _ pa pc Y cy (fun b o hb=>Ob2 bM (cx b o hb))).mono ?_;rintro e bi ⟨M,FD,dd,dg,dl,bC,sc,cJ,rfl,cB,ds⟩;have cU:=M.cell bZ bK;have g1:=M.cell ca bK;have g2:=M.cell cb bK;have gc:=M.cell cc dr))
 have ci:Kc bi (some (Ar tb bh)) ts:=(I.out.args.types.below Y).of_block M.size fun b o cv hl=>by
  simp at cv;obtain⟨rfl,rfl⟩:=cv;exact M.block _ hl (I.out.tF _ _ rfl)
 have cN:=zh ci;have cQ:=zh cB;clear ci cB cu cG cH cI bT bU bV bW bX bY bZ ca cb cc cT c1 cy cx bQ bN bP bO;refine Ktv 22 (S:=fun X=>X.cell? (Ar s 1)=some (.slice a Ts.length cap)/\X.cell? (Aq w.heap.size)=some (.string name)/\X.cell? (Ar w.heap.size 1)=some (Sr tb bh ts.length ct)/\X.cell? (Ar w.heap.size 2)=some (.slice ar rs.length cr)) zK ⟨gc,cU,g1,g2⟩ (fun y=>?_);refine tkm 0 rfl y ?_;refine tkm 1 rfl y ?_;refine tkm 2 rfl y ?_;refine tkm 3 rfl y ?_;refine tkm 4 rfl y ?_;refine tkm 5 rfl y ?_;refine tkm 6 rfl y ?_;refine tkm 8 rfl y ?_;refine tkm 9 rfl y ?_;refine tkm 11 rfl y ?_;refine tkm 12 rfl y ?_;refine tkm 13 rfl y ?_;refine tkm 14 rfl y ?_;refine tkm 15 rfl y ?_;refine tkn ?_;refine Kr2 7 rfl (fun H hK=>?_);go_simp;refine(cP.out _).mono ?_;rintro e bR ⟨rfl,O⟩;go_simp;refine hK.out _ _ ⟨Ja O y.1,Ja O y.2.1,Ja O y.2.2.1,Ja O y.2.2.2⟩ (fun y=>?_);clear hK H;refine Kr2 10 rfl (fun H hK=>?_);go_simp;refine(cK.out _ ((cN.out.of_block (w':=bR) O.size fun b o _ hl=>O.block b hl))).mono ?_;rintro e K ⟨bf,cV,cS,rfl,dh,di,cf⟩;have cM:=zh cf;clear cf;go_simp;refine hK.out _ _ ⟨Ja bf y.1,Ja bf y.2.1,Ja bf y.2.2.1,Ja bf y.2.2.2⟩ (fun y=>?_);clear hK H;refine Kr2 16 rfl (fun H hK=>?_);go_simp;refine hK.out _ _ y (fun y=>?_);clear hK H;refine Kr2 17 rfl (fun H hK=>?_);go_simp;refine hK.out _ _ ⟨Ku0 y.1,Ku0 y.2.1,Ku0 y.2.2.1,Ku0 y.2.2.2⟩ (fun y=>?_);clear hK H;refine Kr2 18 rfl (fun H hK=>?_);go_simp;refine hK.out _ _ ⟨Ku0 y.1,Ku0 y.2.1,Ku0 y.2.2.1,Ku0 y.2.2.2⟩ (fun y=>?_);clear hK H;generalize Z:World.alloc (World.alloc K _) _=U at *;have bM:U.heap.size=K.heap.size+2:=by rw[<-Z];simp
 have dm:U.heap[K.heap.size+1]?=some (.cells #[Pq K.heap.size] 109 (0,0)):=by
  have:=heap_alloc_new (K.alloc (Jr name cV cS ts rs g bC R.length sc)) (.cells #[Pq K.heap.size] 109);rw[Oa7]at this;rw[<-Z];exact this
 have z1:bi.heap.size<=bR.heap.size:=O.size;have bI:Bq bi K:=Jw (Jb O bf);have dN:=Y.size;have dM:=M.size;have cC:∀ k,k<w.heap.size->¬ F k->U.heap[k]?=w.heap[k]?:=fun k bz hF=>by
  have z2:=bI.size;rw[<-Z,Oa9 _ _ k zt,Oa9 _ _ k zo,bI.block k zo,M.block k zo hF,Y.block k bz]
 have dt:=Jd I.out.set.cells;have cz:=(cC s dt I.out.sF).trans I.out.set.cells;have dp:U.ownsRow 0 109 1 (.slice a Ts.length cap) Ts.length (bs.map Jcp):=by
  have:=Yd (w':=U) I.out.set.own fun k bz=>cC k (Qk I.out.set.own bz) (I.out.gF k bz);unfold Jo at this;rwa [Oa6,I.out.set.len]at this
 refine Kr2 19 rfl (fun H hK=>?_);refine step_append_lies U rfl (.tmp 73) (.tmp 87) 97 rfl 0 109 dx (.pointer none) 1 8 underlying97 dj du dv dw rfl zd (.slice a Ts.length cap) Ts.length (bs.map Jcp) rfl dp ⟨K.heap.size+1,0,none⟩ 1 1 [Jcp K.heap.size] rfl rfl (fun j u bB=>World.news_of_block dm j u (by simpa [Jcp] using bB)) (fun u bB=>by simp at bB;subst bB;rfl) zd (by unfold maxLen;omega) zo (Ob7 _) (K.heap.size+2) bM (fun bG bE bD dq bJ db dJ=>?_);have cA:=bJ.block s (Jd cz) fun e=>(I.out.set.gF s e.symm).2 rfl;have dE:bD.frozen? ⟨s,1,none⟩=false:=by simp[World.frozen?,cA,cz]
 refine hK.out _ _ (by simpa only[World.cell?,cA,bJ.block w.heap.size (Jm y.2.1) fun e=>Oe3 _ (Qk I.out.set.own e.symm)] using y) (fun y=>?_);clear hK H;have dL:=y.1;have cL:Hid (Jdl w s d F G D Ts (.slice a Ts.length cap) bs name ts rs g T (bD.setCell (Ar s 1) (Sq bG (Ts.length+1) bE))):=by
  subst Z;obtain rfl:=cO.out;refine Jgq I.out Y M dd dg dl cQ.out ds bI (Ob2 z1 dh) di cM.out (sv':=Sq bG (Ts.length+1) bE) ?_ bJ (by rcases db with e|e;exact .inl (by rw[e];rfl);exact .inr (by rw[e];rfl));unfold Jo;rw[Oa8,Oa6,I.out.set.len];exact dq
 clear Z;simp only[Act.put,List.getElem_toArray,List.getElem_cons_zero,List.getElem_cons_succ,Oa1,List.set_cons_zero,List.set_cons_succ];refine Kr2 20 rfl (fun H hK=>?_);go_simp;refine hK.out _ _ y (fun y=>?_);clear hK H;refine Kr2 21 rfl (fun H hK=>?_);go_simp;refine hK.out _ _ y (fun y=>?_);clear hK H;refine Kts rfl (fun H hK=>?_);go_simp;refine hK.out _ _ ?_;generalize bD.setCell (Ar s 1) (Sq bG (Ts.length+1) bE)=dD at *;go_wp2;go_ret
 exact⟨rfl,cL.out⟩
