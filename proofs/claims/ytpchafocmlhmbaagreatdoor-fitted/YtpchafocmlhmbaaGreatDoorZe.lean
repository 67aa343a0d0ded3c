/- Run of a store: a plan that is right, over tables that stand. -/
import Derived.Test.YtpchafocmlhmbaaGreatDoorZd
set_option maxRecDepth 100000
namespace Go.Proofs.YtpchafocmlhmbaaGreatDoor
open Go.RowKit Go.Shelf Tryz
structure Kyo (tab:ByteArray→Cs⊕Nat) (ns:List PN) (X:World) (j:Nat) (n:PN) (z:Nat) (bl sd:Int) (dva ova gva mna:Addr):Prop where
 z1:1≤z
 z2:z≤1000
 bl:0≤bl∧bl≤4096
 sd:Jg sd
 er:Jdo X dva ova
 gv:X.cell? ⟨12,0,none⟩=some (.iface 433 (.pointer (some gva)))
 mn:X.cell? ⟨13,0,none⟩=some (.iface 433 (.pointer (some mna)))
 grp:n.op=4→Jd7 tab ns j→nR (Jbs n (stN tab ns j))≤20000
 jn:n.op=3→Jd7 tab ns j→(jnN n (stN tab ns j)).length≤2000
structure Kpa (op:Nat):Prop where
 chk:∀ {tys:ByteArray→List Int} {scs:List (List Int)} {ns:List PN} (_:Jdk tys scs ns) {j:Nat} {n:PN} (_:ns[j]?=some n) {nd:Nd} {w:World} (_:Jnm w n nd) (_:n.op=op) (tf:Value),Jvz w tf scs (flN ns) nd j
 good:Ks9 op
 wrk:∀ {tys:ByteArray→List Int} {scs:List (List Int)} {ns:List PN} (_:Jdk tys scs ns) (_:∀ n∈ns,n.op≠0→Ks9 n.op) {tab:ByteArray→Cs⊕Nat} (_:∀ n∈ns,n.op=0→∀ cs,tab n.tn=.inl cs→Zt (tys n.tn) cs) {j:Nat} {n:PN} (_:ns[j]?=some n) {nd:Nd} {X:World} (_:Jnm X n nd) (_:n.op=op) (s:Nat) (z:Nat) (bu bl sd:Int) (dp sc:Value) (dva ova gva pg mna:Addr) (_:Kyo tab ns X j n z bl sd dva ova gva mna),
  Ju1 X (X.heap.size+1) X.heap.size z bu bl (.int .i64 sd) (.pointer (some ⟨s,0,none⟩)) dp sc (PSp tab ns) (ERp tab ns dva ova gva pg) nd j
theorem Knz:Kpa 2:=⟨fun h _ _ D _ _ hi y Z=>Kne h D hi y Z,Kuu,fun h R _ U _ _ D _ _ hi y s z bu bl _ H Y K X O pg _ E=>Kmz h R U D hi y s z bu bl _ H Y K X O pg E.z1 E.z2 E.er⟩
theorem Kwr:Kpa 3:=⟨fun h _ _ E _ _ hi D ba=>Kvd h E hi D ba,Kwi,fun h R _ U _ _ E _ _ hi D s z bu bl sd H Z K Y O pg X y=>Kuw h R U E hi D s z bu bl sd H Z K Y O pg X y.z1 y.z2 y.bl y.sd y.mn (y.jn D)⟩
def Jac (tab:ByteArray→Cs⊕Nat)(ns:List PN):Cs:=((stN tab ns ns.length).getLastD none).getD []
def Ye (y:DS)(Ts:List TS)(n:ByteArray):Cs⊕Nat:=(Jcm y Ts n).getD (.inr 0)
def Jhd (Ts:List TS)(n:ByteArray):List Int:=(Ts[Ub Ts n]?.map TS.types).getD []
theorem Juy {tys:ByteArray→List Int}{E:List (List Int)}{ns:List PN}(h:Jdk tys E ns)(K:∀ n∈ns,n.op≠0→Ks9 n.op){tab:ByteArray→Cs⊕Nat}(O:∀ n∈ns,n.op=0→∀ cs,tab n.tn=.inl cs→Zt (tys n.tn) cs)(hf:Jd7 tab ns ns.length):∃ sch,E[ns.length-1]?=some sch∧Zt sch (Jac tab ns):=by
 have H:=h.one;have y:=Jqw h K O ns.length (Oa2 _) hf;have hl:=Jhh tab ns ns.length (Oa2 _);have R:flN ns ns.length (ns.length-1)=false:=by
  have:=h.unnamed (ns.length-1);rwa [Nat.sub_add_cancel H]at this
 obtain⟨cs,D⟩:=y.there (ns.length-1) (by omega) R;obtain⟨sch,U,X⟩:=y.good _ cs D;refine⟨sch,U,?_⟩;have:Jac tab ns=cs:=by
  unfold Jac;rw[Ok7,Om6,hl,D];rfl
 rw[this];exact X
def Kye (tab:ByteArray→Cs⊕Nat)(ns:List PN)(y:World)(l:Value)(c nd row col pg:Int)(W:World):Prop:=
 c=0∧nd=-1∧row=-1∧col=-1∧pg=-1∧Jd7 tab ns ns.length∧∃ g bs,l=.slice (some ⟨g,0,none⟩) (nR (Jac tab ns)) (nR (Jac tab ns))∧Jcu W y.heap.size g bs (Qf (nR (Jac tab ns)) (Jac tab ns))
theorem Kxb (M:Nat→Prop)(st:Nat)(D:DS)(Ts:List TS)(w:World)(h:Sto M w st D Ts)(ci:∀ T∈Ts,Jid D T)(cP:∀ T∈Ts,∀ cs,Zo D T=.inl cs→Zt T.types cs)(bK bL bM bI q wr pg cu ex df:Addr)(bO:Jax w bK bL bM bI q wr pg cu ex df)
  (ns:List PN) (cx:List (List Int)) (Y:Jdk (Jhd Ts) cx ns) (bP:∀ n∈ns,n.op=0→Ub Ts n.tn<Ts.length) (cU:Jd7 (Ye D Ts) ns ns.length→nR (Jac (Ye D Ts) ns)≤10000)
  (bS:∀ n∈ns,n.op≠0→Kpa n.op) (cQ:∀ (j:Nat) (n:PN),ns[j]?=some n→n.op=4→Jd7 (Ye D Ts) ns j→nR (Jbs n (stN (Ye D Ts) ns j))≤20000) (cT:∀ (j:Nat) (n:PN),ns[j]?=some n→n.op=3→Jd7 (Ye D Ts) ns j→(jnN n (stN (Ye D Ts) ns j)).length≤2000)
  (bH no bU:Nat) (bj:List Nd) (hl:bj.length=ns.length) (bY:∀ (j:Nat) (nd:Nd),bj[j]?=some nd→Zm w bH (no+j*7) nd) (hI:∀ (j:Nat) (n:PN) (nd:Nd),ns[j]?=some n→bj[j]?=some nd→Jnm w n nd) (z:Nat) (bu bl sd:Int) (db:1≤z) (dc:z≤1000) (cJ:2≤bu) (cK:bu≤1000) (cc:0≤bl) (cf:bl≤4096) (cV:Jg sd) (bh:World→Value→Int→Int→Int→Int→Int→World→Prop) (cF:∀ y l c nd row col pg bB bC,bB.heap.size≤bC.heap.size→(∀ k,y.heap.size≤k→bC.heap[k]?=bB.heap[k]?)→bh y l c nd row col pg bB→bh y l c nd row col pg bC) (cG:∀ y l c nd row col pg W,Kye (Ye D Ts) ns y l c nd row col pg W→bh y l c nd row col pg W) (Z ba bi cn:Addr) (bG:Jig w [ex,cu,bK,bL,bM,bI,q,wr,pg] Z ba bi cn) (cO:∀ y,Below w.heap.size w y→∀ (j:Nat) (v:Value) (bn:Nat),ERp (Ye D Ts) ns Z ba bi pg j v y→y.heap[bn]?=some (.cells #[.int .i64 (j:Int),v] 104 (0,0))→Calls prog 23 #[.slice none 0 0,.iface 102 (.pointer (some ⟨bn,0,none⟩))] y fun e w'=>Below y.heap.size y w'∧∃ l c nd row col bV,e=.returned (.tuple #[l,Ko c nd row col bV])∧bh y l c nd row col bV w') :
  Calls prog 10 #[.pointer (some ⟨st,0,none⟩),.agg #[.slice (some ⟨bH,no,none⟩) ns.length bU],.agg #[.int .i64 z,.int .i64 bu,.int .i64 bl,.int .i64 sd]] w fun e w'=>Below w.heap.size w w'∧∃ y l c nd row col pg,Below w.heap.size w y∧e=.returned (.tuple #[l,Ko c nd row col pg])∧bh y l c nd row col pg w':=by
 obtain⟨⟨d,s,F,G,sv,bs,cC,bX,cD,dh,di,dj,dk,dm,dp,dg,dq⟩,ds⟩:=h;have dt:=Y.one;have dr:=Y.few;have cX:∀ n∈ns,n.op=0→∀ E,Below w.heap.size w E→Calls prog 31 #[.pointer (some ⟨s,0,none⟩),.string n.tn] E fun e w'=>Below E.heap.size E w'∧∃ g c,e=.returned (.tuple #[.slice (some ⟨g,0,none⟩) (Jhd Ts n.tn).length c,.bool true])∧E.heap.size≤g∧g<w'.heap.size∧Kc w' (some ⟨g,0,none⟩) (Jhd Ts n.tn):=fun n hn h0 E X=>by
  have H:=bP n hn h0;have cI:=Ob3 H;have bN:Jhd Ts n.tn=Ts[Ub Ts n.tn].types:=by unfold Jhd;rw[Oa3 H];rfl
  rw[bN];have bZ:=(ci _ cI).cols;exact Kbe n.tn E G s d Ts sv bs (bX.below X) (Ub Ts n.tn) rfl H (fun e=>by rw[e]at bZ;simp at bZ) (by omega)
 have cW:∀ n∈ns,n.op=0→Jcm D Ts n.tn=some (Ye D Ts n.tn):=fun n hn h0=>by
  have H:=bP n hn h0;unfold Ye Jcm;rw[Oa3 H];rfl
 have cj:∀ n∈ns,n.op=0→∀ cs,Ye D Ts n.tn=.inl cs→Zt (Jhd Ts n.tn) cs:=fun n hn h0 cs cN=>by
  have H:=bP n hn h0;have bN:Jhd Ts n.tn=Ts[Ub Ts n.tn].types:=by unfold Jhd;rw[Oa3 H];rfl
  have cA:Ye D Ts n.tn=Zo D Ts[Ub Ts n.tn]:=by unfold Ye Jcm;rw[Oa3 H];rfl
  rw[bN];exact cP _ (Ob3 H) cs (cA.symm.trans cN)
 have cE:Jdo w Z ba:=⟨bG.cd,bG.co⟩;have cb:∀ n∈ns,n.op≠0→Ks9 n.op:=fun n hn h0=>(bS n hn h0).good;have cY:=fun E (X:Below w.heap.size w E)=>Jr6 bH no bU s d bj z bu bl sd (PSp (Ye D Ts) ns) (ERp (Ye D Ts) ns Z ba bi pg)
  (fun v W=>∃ (B:Nat) (bf:List Sch),Jo W B 22 v (bf.map Jbl)∧bf.map (fun x=>x.2.2)=cx∧∀ x∈bf,Kc W x.1 x.2.2) E (fun j nd R=>(bY j nd R).below X) (by omega) (by omega) (by omega) (by omega) cJ cK cc cf
  (fun y bQ=>by
   have O:=Jb X bQ;refine(Jvh Y bH no bU bj hl s y (fun j nd R=>(bY j nd R).below O) (fun j n nd R cS=>by
    have br:=(hI j n nd R cS).below O;have bA:=Of6 R;by_cases h0:n.op=0
    ·exact Koi Y R br h0 s fun bJ bR=>cX n bA h0 bJ (Jb O bR)
    exact(bS n bA h0).chk Y R br rfl _)).mono fun e w' hp=>?_
   obtain⟨bf,sv',rfl,bc,U,K,bW⟩:=hp;obtain⟨a,c,rfl⟩:=Jcz U;exact⟨a,_,c,rfl,bc,_,bf,U,K,bW⟩)
  (fun v W cy bD cH=>by
   obtain⟨B,bf,bc,U,K⟩:=cH;exact⟨B,bf,Jl bc fun g e=>bD.block g (Je bc e).2,U,fun x cZ=>(K x cZ).below bD⟩)
  (fun y cv bQ _ j nd R=>by
   have O:=Jb X bQ;have ca:j<ns.length:=by rw[←hl];exact(Ob9.1 R).1
   have hn:ns[j]?=some ns[j]:=Oa3 ca;have bA:=Ob3 ca;have br:=(hI j _ nd hn R).below O;by_cases h0:ns[j].op=0
   ·refine Kod Y hn br h0 s z bu bl _ _ cv Z ba bi bI pg fun bJ bR=>?_;have bx:=Jb O bR;rw[←cW _ bA h0];exact Jou _ bJ F G s d D Ts sv bs (bX.below bx) (cD.below bx) ci bK bL bM (bO.e.below bx) bI pg (bO.m.below bx).cp (bO.m.below bx).ct
   exact(bS _ bA h0).wrk Y cb cj hn br rfl s z bu bl sd _ cv Z ba bi pg cn ⟨db,dc,⟨cc,cf⟩,cV,cE.below O,Ja O bG.cg,Ja O bG.cm,cQ j _ hn,cT j _ hn⟩)
  (fun j v W cy bD bz=>bz.below bD) ⟨by simp[stN],fun k m H=>absurd H (Oe0 _)⟩
 rw[←hl];refine Kc0 st d s _ z bu bl sd w cC (fun E a b W=>Jx8 bj.length (PSp (Ye D Ts) ns) (ERp (Ye D Ts) ns Z ba bi pg) E (.returned (.tuple #[a,b])) W) (bh) (fun E X=>(cY E X).mono fun e w' hp=>?_) (fun E a b y X O hp=>?_) (fun y l c nd row col bV bB bC da H hr=>?_)
 ·obtain⟨bc,⟨x,cz,rfl,U,K⟩|⟨j,v,bn,rfl,U,K,bW⟩⟩:=id hp
  ·exact⟨bc,_,_,rfl,hp⟩
  exact⟨bc,_,_,rfl,hp⟩
 ·have cM:=Jb X O;obtain⟨_,⟨x,cz,bz,U,K⟩|⟨j,v,bn,bz,U,K,bW⟩⟩:=hp
  ·cases bz
   rw[hl]at K;have bT:Jac (Ye D Ts) ns=x.2.2:=by
    unfold Jac;rw[←K.1,Ob8];simp
   obtain⟨sch,_,bE⟩:=Juy Y cb cj K.2;have ch:=cU K.2;rw[bT]at bE ch;refine(Jrn x.1 (Ktu x.2.1 x.2.2.length) x.2.1 x.2.2 (nR x.2.2) y U bE.rows bE.one bE.few ch).mono fun e w' hp=>?_;obtain⟨dd,cB,bs',rfl,de⟩:=hp;refine⟨dd,_,0,-1,-1,-1,-1,rfl,cG _ _ _ _ _ _ _ _ ⟨rfl,rfl,rfl,rfl,rfl,K.2,cB,bs',?_,?_⟩⟩
   ·rw[bT]
   rw[bT];exact de
  cases bz
  exact cO y cM j v bn K U
 exact cF _ _ _ _ _ _ _ _ _ da H hr
theorem Kvh (M:Nat→Prop)(st:Nat)(y:DS)(Ts:List TS)(w:World)(h:Sto M w st y Ts)(bP:∀ T∈Ts,Jid y T)(bG:∀ T∈Ts,∀ cs,Zo y T=.inl cs→Zt T.types cs)(Z ba bc bx q wr pg bj ex br:Addr)(bf:Jax w Z ba bc bx q wr pg bj ex br)
  (ns:List PN) (bn:List (List Int)) (bA:Jdk (Jhd Ts) bn ns) (bB:∀ n∈ns,n.op=0→Ub Ts n.tn<Ts.length) (bN:Jd7 (Ye y Ts) ns ns.length→nR (Jac (Ye y Ts) ns)≤10000)
  (bJ:∀ n∈ns,n.op≠0→Kpa n.op) (bH:∀ (j:Nat) (n:PN),ns[j]?=some n→n.op=4→Jd7 (Ye y Ts) ns j→nR (Jbs n (stN (Ye y Ts) ns j))≤20000) (bI:∀ (j:Nat) (n:PN),ns[j]?=some n→n.op=3→Jd7 (Ye y Ts) ns j→(jnN n (stN (Ye y Ts) ns j)).length≤2000)
  (U no bi:Nat) (H:List Nd) (hl:H.length=ns.length) (bz:∀ (j:Nat) (nd:Nd),H[j]?=some nd→Zm w U (no+j*7) nd) (hI:∀ (j:Nat) (n:PN) (nd:Nd),ns[j]?=some n→H[j]?=some nd→Jnm w n nd) (z:Nat) (bu bl sd:Int) (bS:1≤z) (bT:z≤1000) (bD:2≤bu) (bE:bu≤1000) (bK:0≤bl) (bL:bl≤4096) (bQ:Jg sd) (bO:∀ (O X R:Addr) (j:Nat) (v:Value) (W:World),¬ ERp (Ye y Ts) ns O X R pg j v W) :
  Calls prog 10 #[.pointer (some ⟨st,0,none⟩),.agg #[.slice (some ⟨U,no,none⟩) ns.length bi],.agg #[.int .i64 z,.int .i64 bu,.int .i64 bl,.int .i64 sd]] w fun e w'=>Below w.heap.size w w'∧Jd7 (Ye y Ts) ns ns.length∧∃ g bs,e=.returned (.tuple #[.slice (some ⟨g,0,none⟩) (nR (Jac (Ye y Ts) ns)) (nR (Jac (Ye y Ts) ns)),Ko 0 (-1) (-1) (-1) (-1)])∧Jcu w' w.heap.size g bs (Qf (nR (Jac (Ye y Ts) ns)) (Jac (Ye y Ts) ns)):=by
 obtain⟨O,X,R,bU,bM,cn⟩:=bf.m3;refine(Kxb M st y Ts w h bP bG Z ba bc bx q wr pg bj ex br bf ns bn bA bB bN bJ bH bI U no bi H hl bz hI z bu bl sd bS bT bD bE bK bL bQ (Kye (Ye y Ts) ns) (fun K l c nd row col pg cf ch bR bh hr=>?_) (fun K l c nd row col pg W hr=>hr) O X R bU bM fun K cj j v ci bV cv=>(bO _ _ _ _ _ _ bV).elim).mono fun e w' hp=>?_
 ·obtain⟨bW,bX,bY,bZ,ca,cb,g,bs',cc,Y⟩:=hr;exact⟨bW,bX,bY,bZ,ca,cb,g,bs',cc,Y.of_blocks (bh g Y.from_.1) fun b E=>bh b (Y.from_.2 b E).1⟩
 obtain⟨E,K,l,c,nd,row,col,cu,bC,rfl,rfl,rfl,rfl,rfl,rfl,hf,g,bs,rfl,D⟩:=hp;have bR:=bC.size;exact⟨E,hf,g,bs,rfl,⟨D.len,D.outer,D.rows,⟨by have:=D.from_.1;omega,fun b E=>⟨by have:=(D.from_.2 b E).1;omega,(D.from_.2 b E).2⟩⟩,D.nodup⟩⟩
end Go.Proofs.YtpchafocmlhmbaaGreatDoor
