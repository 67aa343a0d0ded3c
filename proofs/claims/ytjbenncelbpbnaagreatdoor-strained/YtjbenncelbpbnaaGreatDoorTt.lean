/- A set's names; a table's rows. -/
import Derived.Test.YtjbenncelbpbnaaGreatDoorTl
import Derived.Lib.SlicesDelete
import Derived.Test.YtjbenncelbpbnaaGreatDoorKm
set_option maxHeartbeats 1000000
set_option maxRecDepth 100000
namespace Go.Proofs.YtjbenncelbpbnaaGreatDoor
open Go.RowKit Go.Shelf Tryz
structure Jid (D:DS) (T:TS):Prop where
 cols:1<=T.types.length/\T.types.length<=6
 rows:T.rows<=200
 group:1<=T.group/\T.group<=64
 count:T.segs.length=ckN T.rows T.group*T.types.length
 segs:∀ l∈T.segs,l≠[]/\l.length<=1000
 full:∀ l∈T.segs,∀ t,Uf D l=.inl t->t≠[]/\Kje t
def Jgp (D:DS)(T:TS):List (List V)⊕Nat:=(Jkh D T.types T.segs (List.replicate T.rows (List.replicate T.types.length Jf)) (cks T.rows T.group (ckN T.rows T.group))).1
def Zo (D:DS)(T:TS):List (List V)⊕Nat:=(Jfx D T.types T.segs (List.replicate T.types.length []) (cks T.rows T.group (ckN T.rows T.group))).1
theorem Jmq D T(y:1<=T.group):Jgp D T=Sum.map (Qf T.rows) id (Zo D T)/\∀ cs,Zo D T=.inl cs->cs.length=T.types.length/\∀ c,c<cs.length->(cs.getD c []).length=T.rows:=by
 obtain⟨H,I⟩:=Jwa D T.types T.segs T.rows T.group y (fun l t m vs h=>Jnk h) (ckN T.rows T.group) (Oa2 _);refine⟨H,fun cs h=>?_⟩;obtain⟨M,O⟩:=I cs h;refine⟨M,fun c K=>?_⟩;rw[O c K];exact Ol4 (Jcy y)
def Jrr (w:World)(et pg:Addr)(r:Option (List (List V)⊕Nat))(e:Ending)(w':World):Prop:=
 Below w.heap.size w w'/\match r with
  |none=>e=.returned (.tuple #[.slice none 0 0,.iface 432 (.pointer (some et))])
  |some (.inl cs)=>∃ g y,e=.returned (.tuple #[.slice (some ⟨g,0,none⟩) cs.length cs.length,.nilIface])/\Jar w' w.heap.size g y cs
  |some (.inr j)=>∃ b,e=.returned (.tuple #[.slice none 0 0,.iface 123 (.pointer (some ⟨b,0,none⟩))])/\w.heap.size<=b/\Yu w' (.iface 123 (.pointer (some ⟨b,0,none⟩))) pg (some (-1)) (some (j:Int))
def Jf8 (D:DS)(Ts:List TS)(n:ByteArray):Option (List (List V)⊕Nat):=(Ts[Ub Ts n]?).map (Jgp D)
def Jcm (D:DS)(Ts:List TS)(n:ByteArray):Option (List (List V)⊕Nat):=(Ts[Ub Ts n]?).map (Zo D)
theorem Keq D Ts n(M:∀ T∈Ts,Jid D T):(Jcm D Ts n=none/\Jf8 D Ts n=none)\/(∃ j,Jcm D Ts n=some (.inr j)/\Jf8 D Ts n=some (.inr j))\/∃ cs m,Jcm D Ts n=some (.inl cs)/\Jf8 D Ts n=some (.inl (Qf m cs))/\m<=200/\1<=cs.length/\cs.length<=6/\∀ c,c<cs.length->(cs.getD c []).length=m:=by
 unfold Jcm Jf8;cases h:Ts[Ub Ts n]? with
 |none=>exact .inl ⟨rfl,rfl⟩
 |some T=>
  have y:=M T (Of6 h);obtain⟨I,K⟩:=Jmq D T y.group.1;simp only[Option.map_some];rw[I];cases hc:Zo D T with
  |inr j=>exact .inr (.inl ⟨j,rfl,rfl⟩)
  |inl cs=>
   obtain⟨H,O⟩:=K cs hc;exact .inr (.inr ⟨cs,T.rows,rfl,rfl,y.rows,by rw[H];exact y.cols.1,by rw[H];exact y.cols.2,O⟩)
theorem Jou n w F G s d D Ts sv bs(h:Jfl w G s d Ts sv bs)(bK:Zb w F d D)(bh:∀ T∈Ts,Jid D T)a0 a1 a2(bL:Jf0 w a0 a1 a2)et pg(bN:w.cell? ⟨8,0,none⟩=some (.iface 432 (.pointer (some pg))))(bM:w.cell? ⟨2,0,none⟩=some (.iface 432 (.pointer (some et)))):
  Calls prog 38 #[.pointer (some ⟨s,0,none⟩),.string n] w fun e w'=>Jrr w et pg (Jcm D Ts n) e w':=by
 have hf:=Jo8 n w G s d Ts sv bs h;have bS:=run_neq_nil_nil (P:=prog);by_cases M:Ub Ts n<Ts.length
 ·have O:Jhc Ts n=(Ub Ts n:Int):=by unfold Jhc;rw[if_pos M]
  have bk:Jcm D Ts n=some (Zo D Ts[Ub Ts n]):=by simp[Jcm,M]
  rw[O]at hf;generalize hk:Ub Ts n=k at *;have H:=bh _ (Ob3 M);have bj:Hid (∀ W b,Below w.heap.size w W->Jmg W G b Ts[k]->Calls prog 56 #[.pointer (some ⟨s,0,none⟩),.pointer (some ⟨b,0,none⟩)] W fun e w'=>Ji1 W pg (Zo D Ts[k]) e w'):=fun W b hb bI=>
   Kas s d b Ts[k] W F G D (bK.below hb) (Ja hb h.field.1) bI H.cols H.rows H.group.1 H.group.2 H.count H.segs H.full a0 a1 a2 (bL.below hb) pg (Ja hb bN)
  have U:=zh bk;obtain⟨b,o,bA,c2,ht⟩:=h.at M;obtain⟨_,c1⟩:=h.field;obtain⟨a,cap,bB,_⟩:=h.own.cells;rw[Oa6,h.len]at bB;subst bB;simp at bA;subst bA;have bR:=h.few;generalize bs[k]'_=tk at c2 ht;have bz:=fun W hb=>bj.out W tk hb (ht.stands hb.size fun x _ bO=>hb.block x bO);have Y:=zh bz;clear bk O bh H hk h bz bj ht;generalize hr:Zo D Ts[k]=r at *;rcases r with rs|j
  ·have bi:=zh Y.out;clear Y;go_enter func38,ntmps38
   go_wp2_with (first|(go_at_call 46;refine hf.mono ?_;rintro e Z ⟨rfl,y⟩;have bC:=Ja y c1;have bD:=Ja y c2)|(go_at_call 56;refine(bi.out Z y).mono ?_;rintro e I ⟨bf,g,bE,rfl,K⟩))
   go_ret2
   rw[U.out];exact⟨Jb y bf,g,bE,rfl,⟨K.row,Ob2 y.size K.low,K.len,fun i hi=>(K.own i hi).mono y.size,K.ne,K.apart⟩⟩
  have bi:=zh Y.out;clear Y;go_enter func38,ntmps38
  go_wp2_with (first|(go_at_call 46;refine hf.mono ?_;rintro e Z ⟨rfl,y⟩;have bC:=Ja y c1;have bD:=Ja y c2)|(go_at_call 56;refine(bi.out Z y).mono ?_;rintro e I ⟨bf,be,rfl,bP,bJ⟩))
  go_ret2
  rw[U.out];have br:=Jb y bf;have bx:Below I.heap.size I (I.alloc (.cells #[.string n,.int .i64 (-1),.iface 156 (.pointer (some ⟨be,0,none⟩))] 125)):=(Oa5 _ _).alloc (Oa2 _) _;obtain⟨_,z1,z2⟩:=Kil I (.string n) (.int .i64 (-1)) (.iface 156 (.pointer (some ⟨be,0,none⟩))) 125;obtain⟨bG,bH⟩:=bJ.disk_at;exact⟨Jc br _,I.heap.size,rfl,br.size,.both I.heap.size be pg (-1) j z1 z2 (Ja bx bG) (Ja bx bH)⟩
 have O:Jhc Ts n=-1:=by unfold Jhc;rw[if_neg M]
 have U:Hid (Jcm D Ts n=none):=by show _=_;simp[Jcm];omega
 rw[O]at hf;clear O M bh h;go_enter func38,ntmps38
 go_wp2_with (first|(go_at_call 46;refine hf.mono ?_;rintro e Z ⟨rfl,y⟩;have bQ:=Ja y bM))
 go_quiet (fail)
 go_wp2;go_ret2
 rw[U.out];exact⟨Jp y _,rfl⟩
theorem Jru:(prog.info? 126).map (fun i=>(i.zero,i.size,i.bytes))=some (some (.pointer none),1,8):=zK
def Je3 (ts hs:List Int):Prop:=hs.length=ts.length/\∀ j (y:j<hs.length),way (ts.getD j 0) hs[j]=true
structure Kct (w:World) (name:ByteArray) (at_ ar ah:Option Addr) (cr:Nat) (ts hs:List Int) (xs:List (Option Addr×Nat)) (rs:List (List V)):Prop where
 ln:name.size<=maxLen
 lt:ts.length<=maxLen
 lr:rs.length<=maxLen
 lrr:∀ r∈rs,r.length<=maxLen
 lh:hs.length<=maxLen
 cap:rs.length<=cr
 types:Kc w at_ ts
 hows:Kc w ah hs
 rows:Zd w ar xs rs
theorem Kct.below {w w' name at_ ar y cr ts hs xs rs}(h:Kct w name at_ ar y cr ts hs xs rs)(hb:Below w.heap.size w w'):Kct w' name at_ ar y cr ts hs xs rs:=
 ⟨h.ln,h.lt,h.lr,h.lrr,h.lh,h.cap,h.types.below hb,h.hows.below hb,h.rows.below hb⟩
abbrev Jvc (name:ByteArray)(at_ ar:Option Addr)(ct cr:Nat)(ts:List Int)(rs:List (List V)):Value:=.agg #[.string name,.slice at_ ts.length ct,.slice ar rs.length cr]
abbrev Jln (name:ByteArray)(at_ ar:Option Addr)(ct cr:Nat)(ts:List Int)(rs:List (List V)):Obj:=.cells #[.string name,.slice at_ ts.length ct,.slice ar rs.length cr] 25
structure Jqy (w:World) (s d:Nat) (F G:Nat->Prop) (D:DS) (Ts:List TS) (sv:Value) (bs:List Nat) (name:ByteArray) (at_ ar ah:Option Addr) (cr:Nat) (ts hs:List Int) (xs:List (Option Addr×Nat)) (rs:List (List V)) (g:Nat):Prop where
 args:Kct w name at_ ar ah cr ts hs xs rs
 tab:Jel name ts rs
 ways:Je3 ts hs
 g1:1<=g
 g2:g<=64
 set:Jfl w G s d Ts sv bs
 new:¬ Ub Ts name<Ts.length
 few:Ts.length<6
 disk:Zb w F d D
 lt:∀ k,F k\/G k->k<w.heap.size
 apart:∀ k,G k->¬ F k
 sF:¬ F s
 gF:∀ g,sv.ownBlock=some g->¬ F g
 tF:∀ b o,at_=some ⟨b,o,none⟩->¬ F b
 small:D.pages.length<=800000
 wayc:∀ x∈hs,Qak x
structure Kkv (w:World) (s d:Nat) (F:Nat->Prop) (D:DS) (Ts:List TS) (name:ByteArray) (at_ ar ah:Option Addr) (ct cr ch:Nat) (ts hs:List Int) (rs:List (List V)) (g:Nat) (T:List (List UInt8)) (q qw:Addr):Prop where
 t:Calls prog 44 #[Jvc name at_ ar ct cr ts rs] (w.alloc (Jln name at_ ar ct cr ts rs)) fun e w'=>e=.returned (.bool true)/\Below (w.alloc (Jln name at_ ar ct cr ts rs)).heap.size (w.alloc (Jln name at_ ar ct cr ts rs)) w'
 ws:∀ W,Below w.heap.size w W->Calls prog 45 #[.slice ah hs.length ch,.slice at_ ts.length ct] W fun e w'=>e=.returned (.bool true)/\w'=W
 f:∀ W,Below w.heap.size w W->Calls prog 46 #[.pointer (some ⟨s,0,none⟩),.string name] W fun e w'=>e=.returned (.int .i64 (-1))/\Below W.heap.size W w'
 p:∀ W,Below w.heap.size w W->Calls prog 47 #[.agg #[.string name,.slice at_ ts.length ct,.slice ar rs.length cr],.slice ah hs.length ch,.int .i64 (g:Int)] W fun e w'=>Below W.heap.size W w'/\∃ a cap,e=.returned (.tuple #[.slice a T.length cap,.nilIface])/\Uh w' a (T.map tv)/\∀ b o,a=some ⟨b,o,none⟩->W.heap.size<=b
 l:∀ W a cap,Below w.heap.size w W->Uh W a (T.map tv)->(∀ b o,a=some ⟨b,o,none⟩->w.heap.size<=b)->Calls prog 48 #[.pointer (some ⟨s,0,none⟩),.slice a T.length cap] W fun e w'=>Jxo W F d q qw (Jq D T) e w'
open Classical in
theorem Jqy.hid {w s d F G D Ts sv bs name at_ ar ah cr ts hs xs rs g}(h:Jqy w s d F G D Ts sv bs name at_ ar ah cr ts hs xs rs g)ct ch a0 a1 a2(he:Jf0 w a0 a1 a2)T(hp:Jfg rs ts hs (cks rs.length g (ckN rs.length g))=.inl T)q qw(hq:w.cell? ⟨6,0,none⟩=some (.iface 432 (.pointer (some q))))(hw:w.cell? ⟨7,0,none⟩=some (.iface 432 (.pointer (some qw))))(hFq:¬ F 6)(hFw:¬ F 7):Kkv w s d F D Ts name at_ ar ah ct cr ch ts hs rs g T q qw:=by
 have hb0:Below w.heap.size w (w.alloc (Jln name at_ ar ct cr ts rs)):=(Oa5 _ w).alloc (Oa2 _) _;have hA:=h.args;have hT:=Kjj name at_ ar ct cr ts xs rs _ hA.ln hA.lt hA.lr hA.lrr (hA.types.below hb0) (hA.rows.below hb0);rw[decide_eq_true h.tab]at hT;have hfv:Jhc Ts name=-1:=by unfold Jhc;rw[if_neg h.new]
 refine⟨hT,fun W hb=>Kjr ah at_ ch ct hs ts W hA.lh (hA.hows.below hb) (hA.types.below hb) true (by simpa [Je3] using h.ways),fun W hb=>by rw[<-hfv];exact Jo8 name W G s d Ts sv bs (h.set.below hb),fun W hb=>?_,fun W a cap hb hc ha=>?_⟩
 ·have:=Kkk name at_ ar ah ct cr ch g ts hs xs rs W h.tab h.ways.1 h.ways.2 h.g1 h.g2 hA.cap (hA.types.below hb) (hA.hows.below hb) (hA.rows.below hb) h.wayc a0 a1 a2 (he.below hb);rw[hp]at this;exact this
 obtain⟨hl1,hl2⟩:=Jte rs ts hs _ T hp;have hck:(cks rs.length g (ckN rs.length g)).length<=200:=by
  have h2:rs.length<=200:=h.tab.2.2.1;have h3:ckN rs.length g<=rs.length:=by
   unfold ckN;have:=h.g1;exact Nat.le_of_lt_succ ((Nat.div_lt_iff_lt_mul zo).2 (by
    have:rs.length+1<=(rs.length+1)*g:=On4 _ zo;rw[Of5]at this |-;have h5:rs.length<=rs.length*g:=On4 _ zo;omega))
  simp[cks];omega
 have h6:ts.length<=6:=h.tab.2.1.1.2;have hTl:T.length<=1200:=by
  rw[hl1];exact Ob2 (Ol5 hck h6) zd
 have htp:=Joc T fun t ht=>(hl2 t ht).1;have hsm:=h.small;exact Kks s d a cap T W F D (h.disk.below hb) (fun k hk=>Oc2 (h.lt k (.inl hk)) hb.size) hc (fun b o hbo hf=>by have:=h.lt b (.inl hf);have:=ha b o hbo;omega) (Ja hb h.set.field.1) h.sF q qw (Ja hb hq) (Ja hb hw) hFq hFw zo zo (fun t ht=>by have:=(hl2 t ht).1;omega)
def Jdl (w:World)(s d:Nat)(F G:Nat->Prop)(D:DS)(Ts:List TS)(sv:Value)(bs:List Nat)(name:ByteArray)(ts:List Int)(rs:List (List V))(g:Nat)(T:List (List UInt8))(w':World):Prop:=
 Ju (fun k=>F k\/Jnr s sv k) w w'/\∃ (FD y:Nat->Prop) (sv':Value) (tb:Nat),Zb w' FD d (Jq D T).1/\Jfl w' y s d (Ts++[⟨name,ts,rs.length,g,(Jq D T).2.1⟩]) sv' (bs++[tb])/\(∀ k,FD k->F k\/w.heap.size<=k)/\(∀ k,y k->G k\/w.heap.size<=k)/\(∀ k,FD k\/y k->k<w'.heap.size)/\(∀ k,y k->¬ FD k)/\¬ FD s/\(∀ k,sv'.ownBlock=some k->¬ FD k)/\(∀ k,sv'.ownBlock=some k->sv.ownBlock=some k\/w.heap.size<=k)
abbrev Jr (name:ByteArray)(H y:Nat)(ts:List Int)(rs:List (List V))(g:Nat)(I:Option Addr)(n sc:Nat):Obj:=.cells #[.string name,.slice (some ⟨H,0,none⟩) ts.length y,.int .i64 (rs.length:Int),.int .i64 (g:Int),.slice I n sc] 130
theorem zaJ {p:Prop}(h:p:=by
 rcases M k hk with e|e
 ·have:=bk k e;omega
 omega):p:=h
theorem Jgq {w s d F G D Ts sv bs name at_ ar bP cr ts hs xs rs g}(h:Jqy w s d F G D Ts sv bs name at_ ar bP cr ts hs xs rs g){T Z I H K FD bD sc bN}(bf:Below w.heap.size w Z)(bj:Ju F Z I)(bR:Zb I FD d (Jq D T).1)(bK:∀ k,FD k->F k\/Z.heap.size<=k)(bC:∀ k,FD k->k<I.heap.size)(bW:Jaf I (fun k=>Z.heap.size<=k/\k<I.heap.size/\¬ FD k) bD bN (Jq D T).2.1)(bV:(Jq D T).2.1.length<=sc)(bh:Below I.heap.size I H){O bE}(ca:I.heap.size<=O)(cb:O<H.heap.size)(hI:Kc H (some ⟨O,0,none⟩) ts){sv' bB}(bT:Jo K 0 126 sv' (bs.map Jcp++[Jcp H.heap.size]))(bi:((H.alloc (Jr name O bE ts rs g bD (Jq D T).2.1.length sc)).alloc bB).grownBy K sv.ownBlock)(bQ:sv'.ownBlock=sv.ownBlock\/sv'.ownBlock=some (H.heap.size+2)):
  Jdl w s d F G D Ts sv bs name ts rs g T (K.setCell ⟨s,1,none⟩ sv'):=by
 have cf:=bf.size;have cc:=bj.size;have ci:=bh.size;have bX:=bi.size;simp only[Oa7]at bX;have bH:s<w.heap.size:=Jd h.set.cells;have bk:∀ k,sv.ownBlock=some k->k<w.heap.size:=fun k hk=>Qk h.set.own hk;have bZ:∀ k,F k->k<w.heap.size:=fun k hk=>h.lt k (.inl hk);have bG:∀ k,G k->k<w.heap.size:=fun k hk=>h.lt k (.inr hk);have bz:∀ k,k<w.heap.size->FD k->F k:=fun k hk hf=>(bK k hf).resolve_right zo;have bA:(K.setCell ⟨s,1,none⟩ sv').heap.size=K.heap.size:=by simp[World.setCell]
 -- the blocks that stand
 have bM:∀ k,k<H.heap.size+2->sv.ownBlock≠some k->k≠s->(K.setCell ⟨s,1,none⟩ sv').heap[k]?=((H.alloc (Jr name O bE ts rs g bD (Jq D T).2.1.length sc)).alloc bB).heap[k]?:=fun k hk Y U=>
  (Oa4 _ _ _ _ U).trans (bi.block k zt (Oc5 Y))
 have st2:∀ k,k<H.heap.size->sv.ownBlock≠some k->k≠s->(K.setCell ⟨s,1,none⟩ sv').heap[k]?=H.heap[k]?:=fun k hk Y U=>
  (bM k zo Y U).trans ((Oa9 _ bB k zt).trans (Oa9 H _ k hk))
 have bJ:∀ k,k<I.heap.size->sv.ownBlock≠some k->k≠s->(K.setCell ⟨s,1,none⟩ sv').heap[k]?=I.heap[k]?:=fun k hk Y U=>
  (st2 k zo Y U).trans (bh.block k hk)
 have bL:∀ k,k<w.heap.size->¬ F k->sv.ownBlock≠some k->k≠s->(K.setCell ⟨s,1,none⟩ sv').heap[k]?=w.heap[k]?:=fun k hk hF Y U=>
  (bJ k zo Y U).trans ((bj.block k zo hF).trans (bf.block k hk))
 have bI:sv.ownBlock≠some s:=fun e=>(h.set.gF s e).2 rfl;have bU:K.heap[s]?=some (.cells #[.pointer (some ⟨d,0,none⟩),sv] 113 (0,0)):=by
  rw[bi.block s zt (Oc5 bI),Oa9 _ bB s zt,Oa9 H _ s zo,bh.block s zo,bj.block s zo h.sF,bf.block s bH];exact h.set.cells
 have M:∀ k,sv'.ownBlock=some k->sv.ownBlock=some k\/k=H.heap.size+2:=fun k hk=>by
  rcases bQ with e|e
  ·exact .inl (e▸hk)
  rw[e]at hk;simp at hk;exact .inr hk.symm
 refine⟨⟨bi.os.trans ((bh.os).trans (bj.os.trans bf.os)),bi.tape.trans ((bh.tape).trans (bj.tape.trans bf.tape)),bi.output.trans ((bh.output).trans (bj.output.trans bf.output)),by rw[bA];omega,fun k hk hn=>bL k hk (fun hF=>hn (.inl hF)) (fun e=>hn (.inr (.inr e))) (fun e=>hn (.inr (.inl e)))⟩,
  FD,fun k=>G k\/(Z.heap.size<=k/\k<I.heap.size/\¬ FD k)\/k=O\/k=H.heap.size,sv',H.heap.size,?_,?_,fun k hk=>(bK k hk).imp_right fun h=>zo,?_,?_,?_,?_,?_,?_⟩
 ·refine bR.stands fun k hk hl=>bJ k hl (fun e=>?_) (fun e=>?_)
  ·exact h.gF k e (bz k (bk k e) hk)
  subst e;exact h.sF (bz k bH hk)
 ·refine⟨heap_setCell_same K s 1 _ _ _ bU,?_,?_,?_,by simp[h.set.len],?_,by have:=h.few;simp;omega⟩
  ·rw[Ob8,Oe4,Oi4];refine Yd bT fun k hk=>Oa4 _ _ _ _ fun e=>?_;subst e;rcases M k hk with e|e
   ·exact bI e
   omega
  ·rintro(y|⟨y,_⟩|y|y)
   ·exact h.set.sF y
   ·omega
   ·omega
   omega
  ·intro k hk;refine⟨?_,fun e=>?_⟩
   ·rintro(y|⟨y,bY,_⟩|y|y)
    ·rcases M k hk with e|e
     ·exact(h.set.gF k e).1 y
     have:=bG k y;omega
    ·exact zaJ
    ·exact zaJ
    exact zaJ
   subst e;rcases M k hk with e|e
   ·exact bI e
   omega
  intro i b bO hb br;by_cases hi:i<bs.length
  ·rw[Ob0 hi]at hb;rw[Ob0 (by rw[<-h.set.len];exact hi)]at br;refine((h.set.tab i b bO hb br).stands (by rw[bA];omega) fun k hk hl=>bL k hl (h.apart k hk) (fun e=>(h.set.gF k e).1 hk) (fun e=>h.set.sF (e▸hk))).mono fun k hk=>.inl hk
  have bS:i=bs.length:=by
   have:=(Ob9.1 hb).1;simp at this;omega
  subst bS;rw[Ob6 (Oa2 _)]at hb;rw[h.set.len,Ob6 (Oa2 _)]at br;simp at hb br;subst hb br;have nb:∀ k,Z.heap.size<=k->sv.ownBlock≠some k:=fun k hk e=>by have:=bk k e;omega
  refine⟨some ⟨O,0,none⟩,bE,bD,sc,bN,?_,?_,?_,?_,bV,.inr (.inr (.inr rfl))⟩
  ·rw[bM _ zo (nb _ zo) zo,Oa9 _ bB _ zS,heap_alloc_new]
  ·refine hI.of_block (by rw[bA];omega) fun b o bx hl=>?_;simp at bx;obtain⟨rfl,rfl⟩:=bx;exact st2 _ hl (nb _ zo) zo
  ·intro b o bx;simp at bx;exact .inr (.inr (.inl bx.1.symm))
  exact(bW.stands (by rw[bA];omega) fun k hk hl=>bJ k hl (nb k hk.1) (by have:=hk.1;omega)).mono fun k hk=>.inr (.inl hk)
 ·rintro k (y|⟨y,_⟩|y|y)
  ·exact .inl y
  ·exact .inr zo
  ·exact .inr zo
  exact .inr zo
 ·rw[bA];rintro k (y|y|⟨_,y,_⟩|y|y)
  ·have:=bC k y;omega
  ·have:=bG k y;omega
  ·omega
  ·omega
  omega
 ·rintro k (y|⟨_,_,y⟩|y|y) hf
  ·exact h.apart k y (bz k (bG k y) hf)
  ·exact y hf
  ·have:=bC k hf;omega
  have:=bC k hf;omega
 ·exact fun hf=>h.sF (bz s bH hf)
 ·intro k hk hf;rcases M k hk with e|e
  ·exact h.gF k e (bz k (bk k e) hf)
  have:=bC k hf;omega
 intro k hk;rcases M k hk with e|e
 ·exact .inl e
 exact .inr zo
