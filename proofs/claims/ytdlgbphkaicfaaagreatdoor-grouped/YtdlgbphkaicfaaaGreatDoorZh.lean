/- Run of a store: a plan that is right, over tables that stand. -/
import Derived.Test.YtdlgbphkaicfaaaGreatDoorZd
import Derived.Test.YtdlgbphkaicfaaaGreatDoorYi
set_option maxRecDepth 100000
namespace Go.Proofs.YtdlgbphkaicfaaaGreatDoor
open Go.RowKit Go.Shelf Tryz
def Jmo (c:Nat):Prop:=c=0∨c=9∨c=10
theorem Jbn {y:V→V→V×Nat}(h:∀ a b,Jmo (y a b).2)(a b:V):Jmo (Kd y a b).2:=by
 unfold Kd
 split
 ·exact .inl rfl
 exact h a b
theorem Kg9 (op:Int)(a b:V):Jmo (opR op a b).2:=by
 unfold opR
 split
 ·exact Jbn (fun a b=>by unfold Jik;split;exact .inl rfl;exact .inr (.inr rfl)) a b
 split
 ·exact Jbn (fun a b=>by unfold Jiw;split;exact .inl rfl;exact .inr (.inr rfl)) a b
 split
 ·exact Jbn (fun a b=>by unfold Jkj;split;exact .inl rfl;exact .inr (.inr rfl)) a b
 split
 ·exact Jbn (fun a b=>by unfold Jg4;split;exact .inr (.inl rfl);split;exact .inl rfl;exact .inr (.inr rfl)) a b
 split
 ·exact Jbn (fun a b=>.inl rfl) a b
 split
 ·exact Jbn (fun a b=>.inl rfl) a b
 split
 ·exact .inl rfl
 split
 ·exact .inl rfl
 split
 ·exact Jbn (fun a b=>.inl rfl) a b
 exact .inl rfl
theorem Keb (p:Pt)(x d:List V):Jmo (Qp p x d).2:=by
 unfold Qp
 split
 ·exact .inl rfl
 split
 ·exact .inl rfl
 exact Kg9 _ _ _
theorem Jlz:∀ (es:List Pt)(x d:List V)(c:Nat),Yy es x d=.inr c→Jmo c
 |[],x,d,c,h=>by simp only[Yy]at h;cases h
 |p::es,x,d,c,h=>by
  simp only[Yy]at h
  split at h
  ·exact Jlz es x _ c h
  cases h
  exact Keb p x d
theorem Jxg {es:List Pt}{x:List V}{c:Nat}(h:Kl es x=.inr c):Jmo c:=by
 unfold Kl at h
 cases hr:Yy es x []with
 |inl d=>rw[hr]at h;cases h
 |inr y=>
  rw[hr]at h
  cases h
  exact Jlz es x [] c hr
theorem Jjy:∀ (y:List (List Pt))(x:List V),Jmo (Kr y x)
 |[],x=>.inl rfl
 |e::y,x=>by
  simp only[Kr]
  cases h:Kl e x with
  |inl v=>exact Jjy y x
  |inr c=>exact Jxg h
theorem Jny.plan {w:World}{v:Value}{a:Addr}{r c p g gc:Option Int}{y:Nat}{j:Int}(h:Jny w v a none r c p g gc)(A:w.heap[y]?=some (.cells #[.int .i64 j,v] 107 (0,0))):Jny w (.iface 105 (.pointer (some ⟨y,0,none⟩))) a (some j) r c p g gc:=by
 have c0:w.cell? ⟨y,0,none⟩=some (.int .i64 j):=by simp[World.cell?,A]
 have c1:w.cell? ⟨y,1,none⟩=some v:=by simp[World.cell?,A]
 obtain⟨⟨O,h1⟩,⟨bb,h2⟩,⟨R,D⟩,⟨U,E⟩,⟨X,H⟩,⟨Z,K⟩,⟨ba,M⟩⟩:=h
 exact⟨⟨O+1,.wrap _ _ _ _ _ _ _ Jdg c1 h1⟩,⟨0,.hit _ _ c0⟩,⟨R+1,.miss _ _ _ _ _ _ _ Jdg Jro c1 D⟩,⟨U+1,.miss _ _ _ _ _ _ _ Jdg Jlp c1 E⟩,⟨X+1,.miss _ _ _ _ _ _ _ Jdg Jv1 c1 H⟩,⟨Z+1,.miss _ _ _ _ _ _ _ Jdg Jlp c1 K⟩,⟨ba+1,.miss _ _ _ _ _ _ _ Jdg Jsi c1 M⟩⟩
theorem Ja8.errX {w:World}{y:Nat}{row A:Int}{q:Addr}(h:Ja8 w y row A (.iface 435 (.pointer (some q)))):Jny w (Qv y) q none (some row) none none none none:=by
 unfold Ja8 at h
 have c0:w.cell? ⟨y,0,none⟩=some (.int .i64 row):=by simp[World.cell?,h]
 have c2:w.cell? ⟨y,2,none⟩=some (.iface 435 (.pointer (some q))):=by simp[World.cell?,h]
 exact⟨⟨1,.wrap _ _ _ _ _ _ _ Jc8 c2 (.root q)⟩,⟨1,.miss _ _ _ _ _ _ _ Jc8 Jsq c2 (.root q)⟩,⟨0,.hit _ _ c0⟩,⟨1,.miss _ _ _ _ _ _ _ Jc8 Jnb c2 (.root q)⟩,⟨1,.miss _ _ _ _ _ _ _ Jc8 Jwk c2 (.root q)⟩,⟨1,.miss _ _ _ _ _ _ _ Jc8 Jnb c2 (.root q)⟩,⟨1,.miss _ _ _ _ _ _ _ Jc8 Js6 c2 (.root q)⟩⟩
theorem Kp3 {w:World}{y:Nat}{x k:Int}{q:Addr}(h:w.heap[y]?=some (.cells #[.int .i64 x,.int .i64 k,.iface 435 (.pointer (some q))] 158 (0,0))):Jny w (.iface 152 (.pointer (some ⟨y,0,none⟩))) q none none none none (some x) (some k):=by
 have c0:w.cell? ⟨y,0,none⟩=some (.int .i64 x):=by simp[World.cell?,h]
 have c1:w.cell? ⟨y,1,none⟩=some (.int .i64 k):=by simp[World.cell?,h]
 have c2:w.cell? ⟨y,2,none⟩=some (.iface 435 (.pointer (some q))):=by simp[World.cell?,h]
 exact⟨⟨1,.wrap _ _ _ _ _ _ _ Ke7 c2 (.root q)⟩,⟨1,.miss _ _ _ _ _ _ _ Ke7 Koz c2 (.root q)⟩,⟨1,.miss _ _ _ _ _ _ _ Ke7 Ko9 c2 (.root q)⟩,⟨0,.hit _ _ c0⟩,⟨1,.miss _ _ _ _ _ _ _ Ke7 Kp2 c2 (.root q)⟩,⟨0,.hit _ _ c1⟩,⟨1,.miss _ _ _ _ _ _ _ Ke7 Kpe c2 (.root q)⟩⟩
def Jv3 (tab:ByteArray→Cs⊕Nat)(ns:List PN)(c nd row col pg:Int):Prop:=
 ∃ (j:Nat) (n:PN),nd=(j:Int)∧Jd7 tab ns j∧ns[j]?=some n ∧
  ((n.op=0∧col=-1∧∃ p:Nat,tab n.tn=.inr p∧c=7∧row=-1∧pg=(p:Int)) ∨
   (n.op≠0∧col=-1∧pg=-1∧∃ r:Nat,row=(r:Int)∧r<nR (Jbs n (stN tab ns j))∧Kr n.es (Ji (Jbs n (stN tab ns j)) r)≠0∧c=((Kr n.es (Ji (Jbs n (stN tab ns j)) r):Nat):Int)∧∀ i,i<r→∀ e∈n.es,∃ v,Kl e (Ji (Jbs n (stN tab ns j)) i)=.inl v) ∨
   (n.op=4∧pg=-1∧c=10∧∃ (x k:Nat) (m:List V),row=(x:Int)∧col=(k:Int)∧(Kk9 n.gk (Jbs n (stN tab ns j)))[x]?=some m∧k<n.gk.length∧(tdV n.gk (Klk n.gk (Jbs n (stN tab ns j))) m k).2=false∧Klz n.gk (Kk9 n.gk (Jbs n (stN tab ns j))) (Klk n.gk (Jbs n (stN tab ns j))) x k))
structure Kpa (op:Nat):Prop where
 chk:∀ {tys:ByteArray→List Int} {scs:List (List Int)} {ns:List PN} (_:Jdk tys scs ns) {j:Nat} {n:PN} (_:ns[j]?=some n) {nd:Nd} {w:World} (_:Jnm w n nd) (_:n.op=op) (tf:Value),Jvz w tf scs (flN ns) nd j
 wrk:∀ {tys:ByteArray→List Int} {scs:List (List Int)} {ns:List PN} (_:Jdk tys scs ns) {tab:ByteArray→Cs⊕Nat} (_:∀ n∈ns,n.op=0→∀ cs,tab n.tn=.inl cs→Zt (tys n.tn) cs) {j:Nat} {n:PN} (_:ns[j]?=some n) {nd:Nd} {X:World} (_:Jnm X n nd) (_:n.op=op) (s:Nat) (z:Nat) (bu bl:Int) (se dp sc:Value) (dva ova gva pg:Addr) (_:1≤z) (_:z≤1000) (_:Jdo X dva ova) (_:X.cell? ⟨12,0,none⟩=some (.iface 435 (.pointer (some gva)))) (_:n.op=4→Jd7 tab ns j→nR (Jbs n (stN tab ns j))≤20000),
  Ju1 X (X.heap.size+1) X.heap.size z bu bl se (.pointer (some ⟨s,0,none⟩)) dp sc (PSp tab ns) (ERp tab ns dva ova gva pg) nd j
theorem Knz:Kpa 2:=⟨fun h _ _ y _ _ hi h1 bb=>Kne h y hi h1 bb,fun h _ O _ _ y _ _ hi h1 s z D A ba E Z H X K pg R U M _ _=>Kmz h O y hi h1 s z D A ba E Z H X K pg R U M⟩
theorem Kpf:Kpa 4:=⟨fun h _ _ y _ _ hi h1 bb=>Knx h y hi h1 bb,fun h _ O _ _ y _ _ hi h1 s z D A ba E Z H X K pg R U _ M hf=>Knw h O y hi h1 s z D A ba E Z H X K pg R U M (hf h1)⟩
def Jac (tab:ByteArray→Cs⊕Nat)(ns:List PN):Cs:=((stN tab ns ns.length).getLastD none).getD []
def Jnv (tab:ByteArray→Cs⊕Nat)(ns:List PN)(Y:World)(l:Value)(c nd row col pg:Int)(W:World):Prop:=
 (c=0∧nd=-1∧row=-1∧col=-1∧pg=-1∧Jd7 tab ns ns.length∧∃ g bs,l=.slice (some ⟨g,0,none⟩) (nR (Jac tab ns)) (nR (Jac tab ns))∧Jcu W Y.heap.size g bs (Qf (nR (Jac tab ns)) (Jac tab ns))) ∨
 (l=.slice none 0 0∧Jv3 tab ns c nd row col pg)
def Ye (y:DS)(Ts:List TS)(n:ByteArray):Cs⊕Nat:=(Jcm y Ts n).getD (.inr 0)
def Jhd (Ts:List TS)(n:ByteArray):List Int:=(Ts[Ub Ts n]?.map TS.types).getD []
theorem Juy {tys:ByteArray→List Int}{D:List (List Int)}{ns:List PN}(h:Jdk tys D ns){tab:ByteArray→Cs⊕Nat}(H:∀ n∈ns,n.op=0→∀ cs,tab n.tn=.inl cs→Zt (tys n.tn) cs)(hf:Jd7 tab ns ns.length):∃ sch,D[ns.length-1]?=some sch∧Zt sch (Jac tab ns):=by
 have h1:=h.one
 have y:=Jqw h H ns.length (Oa2 _) hf
 have E:=Jhh tab ns ns.length (Oa2 _)
 have K:flN ns ns.length (ns.length-1)=false:=by
  have:=h.unnamed (ns.length-1)
  rwa [Nat.sub_add_cancel h1]at this
 obtain⟨cs,A⟩:=y.there (ns.length-1) (by omega) K
 obtain⟨sch,M,O⟩:=y.good _ cs A
 refine⟨sch,M,?_⟩
 have:Jac tab ns=cs:=by
  unfold Jac
  rw[Ok7,Om6,E,A]
  rfl
 rw[this]
 exact O
theorem Jr5 (cK:Nat→Prop)(st:Nat)(y:DS)(Ts:List TS)(w:World)(h:Sto cK w st y Ts)(cF:∀ T∈Ts,Jid y T)(dg:∀ T∈Ts,∀ cs,Zo y T=.inl cs→Zt T.types cs)(bY bK bL bJ q wr pg cl ex dy:Addr)(H:Jax w bY bK bL bJ q wr pg cl ex dy)
  (ns:List PN) (cJ:List (List Int)) (ba:Jdk (Jhd Ts) cJ ns) (ca:∀ n∈ns,n.op=0→Ub Ts n.tn<Ts.length) (dm:Jd7 (Ye y Ts) ns ns.length→nR (Jac (Ye y Ts) ns)≤10000)
  (cD:∀ n∈ns,n.op≠0→Kpa n.op) (dh:∀ (j:Nat) (n:PN),ns[j]?=some n→n.op=4→Jd7 (Ye y Ts) ns j→nR (Jbs n (stN (Ye y Ts) ns j))≤20000)
  (bQ no ci:Nat) (bz:List Nd) (bP:bz.length=ns.length) (cA:∀ (j:Nat) (nd:Nd),bz[j]?=some nd→Zm w bQ (no+j*7) nd) (hI:∀ (j:Nat) (n:PN) (nd:Nd),ns[j]?=some n→bz[j]?=some nd→Jnm w n nd) (z:Nat) (bi bh cv:Int) (dv:1≤z) (dw:z≤1000) (dd:2≤bi) (de:bi≤1000) (dj:0≤bh) (dk:bh≤4096) :
  Calls prog 9 #[.pointer (some ⟨st,0,none⟩),.agg #[.slice (some ⟨bQ,no,none⟩) ns.length ci],.agg #[.int .i64 z,.int .i64 bi,.int .i64 bh,.int .i64 cv]] w fun e w'=>Below w.heap.size w w'∧∃ Y l c nd row col pg,Below w.heap.size w Y∧e=.returned (.tuple #[l,Ko c nd row col pg])∧Jnv (Ye y Ts) ns Y l c nd row col pg w':=by
 obtain⟨⟨d,s,F,G,sv,bs,h1,h2,cW,dC,dD,dE,dG,dH,dI,dB,dJ⟩,dL⟩:=h
 obtain⟨Z,bb,bj,cH,M,dN⟩:=H.m3
 have dM:=ba.one
 have dK:=ba.few
 have ds:∀ n∈ns,n.op=0→∀ A,Below w.heap.size w A→Calls prog 32 #[.pointer (some ⟨s,0,none⟩),.string n.tn] A fun e w'=>Below A.heap.size A w'∧∃ g c,e=.returned (.tuple #[.slice (some ⟨g,0,none⟩) (Jhd Ts n.tn).length c,.bool true])∧A.heap.size≤g∧g<w'.heap.size∧Kc w' (some ⟨g,0,none⟩) (Jhd Ts n.tn):=fun n hn h0 A X=>by
  have D:=ca n hn h0
  have dc:=Ob3 D
  have bB:Jhd Ts n.tn=Ts[Ub Ts n.tn].types:=by unfold Jhd;rw[Oa3 D];rfl
  rw[bB]
  have cB:=(cF _ dc).cols
  exact Kbe n.tn A G s d Ts sv bs (h2.below X) (Ub Ts n.tn) rfl D (fun e=>by rw[e]at cB;simp at cB) (by omega)
 have dr:∀ n∈ns,n.op=0→Jcm y Ts n.tn=some (Ye y Ts n.tn):=fun n hn h0=>by
  have D:=ca n hn h0
  unfold Ye Jcm
  rw[Oa3 D]
  rfl
 have cG:∀ n∈ns,n.op=0→∀ cs,Ye y Ts n.tn=.inl cs→Zt (Jhd Ts n.tn) cs:=fun n hn h0 cs df=>by
  have D:=ca n hn h0
  have bB:Jhd Ts n.tn=Ts[Ub Ts n.tn].types:=by unfold Jhd;rw[Oa3 D];rfl
  have bZ:Ye y Ts n.tn=Zo y Ts[Ub Ts n.tn]:=by unfold Ye Jcm;rw[Oa3 D];rfl
  rw[bB]
  exact dg _ (Ob3 D) cs (bZ.symm.trans df)
 have cZ:Jdo w Z bb:=⟨M.cd,M.co⟩
 have dt:=fun A (X:Below w.heap.size w A)=>Jr6 bQ no ci s d bz z bi bh cv (PSp (Ye y Ts) ns) (ERp (Ye y Ts) ns Z bb bj pg)
  (fun v W=>∃ (B:Nat) (br:List Sch),Jo W B 22 v (br.map Jbl)∧br.map (fun x=>x.2.2)=cJ∧∀ x∈br,Kc W x.1 x.2.2) A (fun j nd K=>(cA j nd K).below X) (by omega) (by omega) (by omega) (by omega) dd de dj dk
  (fun Y cb=>by
   have R:=Jb X cb
   refine(Jvh ba bQ no ci bz bP s Y (fun j nd K=>(cA j nd K).below R) (fun j n nd K di=>by
    have bC:=(hI j n nd K di).below R
    have bH:=Of6 K
    by_cases h0:n.op=0
    ·exact Koi ba K bC h0 s fun bX cc=>ds n bH h0 bX (Jb R cc)
    exact(cD n bH h0).chk ba K bC rfl _)).mono fun e w' O=>?_
   obtain⟨br,sv',rfl,bk,U,E,cn⟩:=O
   obtain⟨a,c,rfl⟩:=Jcz U
   exact⟨a,_,c,rfl,bk,_,br,U,E,cn⟩)
  (fun v W W' bu db=>by
   obtain⟨B,br,bk,U,E⟩:=db
   exact⟨B,br,Jl bk fun g e=>bu.block g (Je bk e).2,U,fun x du=>(E x du).below bu⟩)
  (fun Y cI cb _ j nd K=>by
   have R:=Jb X cb
   have cC:j<ns.length:=by rw[←bP];exact(Ob9.1 K).1
   have hn:ns[j]?=some ns[j]:=Oa3 cC
   have bH:=Ob3 cC
   have bC:=(hI j _ nd hn K).below R
   by_cases h0:ns[j].op=0
   ·refine Kod ba hn bC h0 s z bi bh _ _ cI Z bb bj bJ pg fun bX cc=>?_
    have bE:=Jb R cc
    rw[←dr _ bH h0]
    exact Jou _ bX F G s d y Ts sv bs (h2.below bE) (cW.below bE) cF bY bK bL (H.e.below bE) bJ pg (H.m.below bE).cp (H.m.below bE).ct
   exact(cD _ bH h0).wrk ba cG hn bC rfl s z bi bh _ _ cI Z bb bj pg dv dw (cZ.below R) (Ja R M.cg) (dh j _ hn))
  (fun j v W W' bu bG=>bG.below bu) ⟨by simp[stN],fun k m D=>absurd D (Oe0 _)⟩
 rw[←bP]
 refine Kc0 st d s _ z bi bh cv w h1 (fun A a b W=>Jx8 bz.length (PSp (Ye y Ts) ns) (ERp (Ye y Ts) ns Z bb bj pg) A (.returned (.tuple #[a,b])) W) (Jnv (Ye y Ts) ns) (fun A X=>(dt A X).mono fun e w' O=>?_) (fun A a b Y X R O=>?_) (fun Y l c nd row col bI dz dA dO D ch=>?_)
 ·obtain⟨bk,⟨x,cM,rfl,U,E⟩|⟨j,v,cT,rfl,U,E,cn⟩⟩:=id O
  ·exact⟨bk,_,_,rfl,O⟩
  exact⟨bk,_,_,rfl,O⟩
 ·have bD:=Jb X R
  obtain⟨_,⟨x,cM,bG,U,E⟩|⟨j,v,cT,bG,U,E,cn⟩⟩:=O
  ·cases bG
   rw[bP]at E
   have cf:Jac (Ye y Ts) ns=x.2.2:=by
    unfold Jac
    rw[←E.1,Ob8]
    simp
   obtain⟨sch,_,bO⟩:=Juy ba cG E.2
   have cE:=dm E.2
   rw[cf]at bO cE
   refine(Jrn x.1 x.2.1 x.2.2 (nR x.2.2) Y U bO.rows bO.one bO.few cE).mono fun e w' O=>?_
   obtain⟨cj,cV,bs',rfl,dx⟩:=O
   refine⟨cj,_,0,-1,-1,-1,-1,rfl,.inl ⟨rfl,rfl,rfl,rfl,rfl,E.2,cV,bs',?_,?_⟩⟩
   ·rw[cf]
   rw[cf];exact dx
  cases bG
  have da:∃ (c row col bI:Int) (a:Addr) (bW bS bV bT bU:Option Int),Jny Y v a none bW bS bV bT bU∧Jby bK bL bJ q wr pg cl ex Z bb bj cH a=c∧(∃ c t,Y.heap[a.block]?=some (.cells c t (0,0)))∧(bW.or bT).getD (-1)=row∧(bS.or bU).getD (-1)=col∧bV.getD (-1)=bI∧Jv3 (Ye y Ts) ns c (j:Int) row col bI:=by
   have bx:=H.m.nd
   have dp:=H.m2.np
   have dq:=H.m2.ne
   have cx:=M.nd
   have cz:=M.no
   have cy:=M.ng
   have cX:=M.nm
   simp only[Og0,Of1,Oi0,or_false,not_or]at bx dp dq cx cz cy cX
   obtain⟨bN,n,hn,⟨bc,p,b,cr,bl,bf⟩|⟨bc,cU,kk,r,bl,bf,bn,bA,bR⟩|⟨bc,cU,x,k,m,bl,bf,bn⟩⟩:=E
   ·refine⟨7,-1,-1,p,pg,none,some (-1),some (p:Int),none,none,bf.errV,?_,Kg bD H.m.bp,rfl,rfl,rfl,j,n,rfl,bN,hn,.inl ⟨bc,rfl,p,cr,rfl,rfl,rfl⟩⟩
    unfold Jby
    simp[Ne.symm bx.2.1.2.2.2.2,Ne.symm bx.2.2.1.2.2.2,Ne.symm bx.2.2.2.1.2.2,Ne.symm bx.2.2.2.2.1.2,Ne.symm bx.2.2.2.2.2.1]
   ·rcases Jjy n.es (Ji (Jbs n (stN (Ye y Ts) ns j)) r)with e0|e9|e10
    ·exact absurd e0 bn
    ·rw[e9]at bA
     refine⟨9,r,-1,-1,Z,some (r:Int),none,none,none,none,by rw[bl];exact Ja8.errX bA,?_,Kg bD M.bd,rfl,rfl,rfl,j,n,rfl,bN,hn,.inr (.inl ⟨bc,rfl,rfl,r,rfl,bf,bn,by rw[e9];rfl,bR⟩)⟩
     unfold Jby
     simp[cx]
    rw[e10]at bA
    refine⟨10,r,-1,-1,bb,some (r:Int),none,none,none,none,by rw[bl];exact Ja8.errX bA,?_,Kg bD M.bo,rfl,rfl,rfl,j,n,rfl,bN,hn,.inr (.inl ⟨bc,rfl,rfl,r,rfl,bf,bn,by rw[e10];rfl,bR⟩)⟩
    unfold Jby
    simp[cz]
   refine⟨10,x,k,-1,bj,none,none,none,some (x:Int),some (k:Int),by rw[bl];exact Kp3 bf,?_,Kg bD M.bg,rfl,rfl,rfl,j,n,rfl,bN,hn,.inr (.inr ⟨bc,rfl,rfl,x,k,m,rfl,rfl,bn⟩)⟩
   unfold Jby
   simp[cy]
  obtain⟨c,row,col,bI,a,bW,bS,bV,bT,bU,bB,bZ,cN,cO,cP,cQ,cS⟩:=da
  have cY:=bB.plan U
  refine(Jhu (.slice none 0 0) _ c (j:Int) row col bI Y ⟨_,_,rfl⟩ (fun W hW=>?_)).mono fun e w' O=>?_
  ·have bM:=Jb bD hW
   have:=Jic _ a (some (j:Int)) bW bS bV bT bU W (cY.below hW) (Kg hW cN) bY bK bL bJ q wr pg cl ex Z bb bj cH (H.e.below bM) (H.m.below bM) (H.m2.below bM) (M.below bM)
   rw[bZ,cO,cP,cQ]at this
   exact this
  obtain⟨rfl,cj⟩:=O
  exact⟨cj,_,_,_,_,_,_,rfl,.inr ⟨rfl,cS⟩⟩
 rcases ch with⟨bc,cr,bl,bf,bn,bA,g,bs',bR,cu⟩|ch
 ·refine .inl ⟨bc,cr,bl,bf,bn,bA,g,bs',bR,cu.of_blocks (D g cu.from_.1) fun b bu=>D b (cu.from_.2 b bu).1⟩
 exact .inr ch
end Go.Proofs.YtdlgbphkaicfaaaGreatDoor
namespace Go.Proofs.YtdlgbphkaicfaaaGreatDoor
open Go.RowKit Go.Shelf
theorem Kff {y:DS}{T:TS}{rs:List (List V)}(h:Jbc y [(T,rs)])(bc:Jel T.name T.types rs)(bb:∀ r∈rs,∀ v∈r,Jg v.n) :
  ∃ cs,Ye y [T] T.name=.inl cs∧Zt T.types cs∧nR cs=rs.length∧∀ i,i<rs.length→Ji cs i=rs.getD i []:=by
 have R:Jer y T rs:=h.tab (T,rs) (by simp)
 have H:Jid y T:=R.ok
 obtain⟨h1,h2⟩:=Jmq y T H.group.1
 have A:=R.read
 rw[h1]at A
 cases hc:Zo y T with
 |inr j=>rw[hc]at A;cases A
 |inl cs=>
  rw[hc]at A
  obtain⟨U,X⟩:=h2 cs hc
  have K:Qf T.rows cs=rs:=by simpa using A
  have M:T.rows=rs.length:=by rw[←K,Uu]
  have bi:=H.cols
  have E:nR cs=rs.length:=by
   unfold nR
   rw[X 0 (by rw[U];omega),M]
  have O:∀ i,i<rs.length→Ji cs i=rs.getD i []:=fun i hi=>by
   have:=Jge T.rows cs i (by omega)
   rw[K]at this
   rw[Oa0,this]
   rfl
  refine⟨cs,by unfold Ye Jcm;simp[Ub,hc],⟨U,by omega,by omega,fun j D=>by rw[E,X j D,M],by have:=H.rows;omega,fun i hi=>?_⟩,E,O⟩
  rw[E]at hi
  rw[O i hi]
  have Z:rs.getD i []=rs[i]:=by rw[Oa0,Oa3 hi];rfl
  rw[Z]
  obtain⟨bf,bh⟩:=bc.2.2.2 i hi
  refine⟨bf,fun j D=>?_,bb _ (Ob3 hi)⟩
  have:=bh j D
  have ba:rs[i].getD j Jf=rs[i][j]:=by rw[Oa0,Oa3 D];rfl
  rw[ba]
  exact this
def ndC (p:Nd):List Value:=[.int .i64 p.op,.int .i64 p.l,.int .i64 p.r,.string p.tn,.slice p.xs.1 p.xs.2.1 p.xs.2.2,.slice p.ky.1 p.ky.2.1 p.ky.2.2,.int .i64 p.kk]
theorem Jnj {w:World}{g:Nat}{xs:List Value}{t:TypeId}(h:w.heap[g]?=some (.cells xs.toArray t (0,0)))(i:Nat):w.cell? ⟨g,i,none⟩=xs[i]?:=by
 simp[World.cell?,h]
theorem Jfm {w:World}{A:Nat}{D:List Nd}{t:TypeId}(h:w.heap[A]?=some (.cells (D.flatMap ndC).toArray t (0,0))):∀ (j:Nat) (nd:Nd),D[j]?=some nd→Zm w A (0+j*7) nd:=fun j nd E=>by
 have y:∀ i,i<7→w.cell? ⟨A,j*7+i,none⟩=(ndC nd)[i]?:=fun i hi=>by
  rw[Jnj h]
  exact Jek ndC 7 (fun _=>rfl) D j i nd E hi
 rw[Od0]
 exact⟨y 0 (by omega),y 1 (by omega),y 2 (by omega),y 3 (by omega),y 4 (by omega),y 5 (by omega),y 6 (by omega)⟩
theorem Jfp {w:World}{g:Nat}{es:List Pt}{t:TypeId}(h:w.heap[g]?=some (.cells (es.flatMap ptC).toArray t (0,0))):∀ (k:Nat) (p:Pt),es[k]?=some p→Qi w g (0+k*7) p:=fun k p A=>by
 have y:∀ i,i<7→w.cell? ⟨g,k*7+i,none⟩=(ptC p)[i]?:=fun i hi=>by
  rw[Jnj h]
  exact Jek ptC 7 (fun _=>rfl) es k i p A hi
 rw[Od0]
 exact⟨y 0 (by omega),y 1 (by omega),y 2 (by omega),y 3 (by omega),y 4 (by omega),y 5 (by omega),y 6 (by omega)⟩
theorem Jyd {w:World}{H A D E:Nat}{e:List Pt}(h:w.cell? ⟨H,0,none⟩=some (.slice (some ⟨A,D,none⟩) e.length E))(K:∀ (k:Nat) (p:Pt),e[k]?=some p→Qi w A (D+k*7) p):Jaz w H 0 [e]:=fun j es y=>by
 match j,y with
 |0,y=>cases y;exact⟨A,D,E,h,K⟩
def Jkp:List Pt:=[⟨0,0,0,0,Jf⟩,⟨1,0,0,1,⟨1,1,⟨#[]⟩⟩⟩,⟨2,0,1,0,Jf⟩]
theorem Kcr (sch:List Int):Uj sch []:=fun j p y=>by simp at y
theorem Kf8:Uj [1] Jkp:=by
 have h1:Uj [1] ([]++[⟨0,0,0,0,Jf⟩]):=(Kcr [1]).snoc (Jh7 (c:=0) (by decide))
 have h2:Uj [1] (([]++[⟨0,0,0,0,Jf⟩])++[⟨1,0,0,1,⟨1,1,⟨#[]⟩⟩⟩]):=h1.snoc (Jtf (by unfold okV;simp[okB,okK]) (by simp[Jg]) ⟨by omega,by omega⟩)
 exact h2.snoc (Zs (o:=2) (l:=0) (r:=1) (by omega) (by omega) (by decide) (by decide) (by decide) (by decide))
def Jcq:List PN:=[⟨0,0,Yh,[],[],0,0⟩,⟨2,0,⟨#[]⟩,[Jkp],[],0,0⟩]
theorem Jw6 {tys:ByteArray→List Int}(h:tys Yh=[1]):Jdk tys [[1],[1]] Jcq where
 len:=rfl
 ok:=fun j n y=>by
  match j,y with
  |0,y=>cases y;exact⟨[1],rfl,by decide,fun _=>h.symm,fun h=>absurd h (by decide),fun h=>absurd h (by decide),fun h=>absurd h (by decide)⟩
  |1,y=>
   cases y
   refine⟨[1],rfl,by decide,fun h=>absurd h (by decide),fun h=>absurd h (by decide),fun _=>⟨[1],rfl,rfl,by decide,by decide,fun e A=>?_⟩,fun h=>absurd h (by decide)⟩
   rw[Oc6]at A
   subst A
   exact⟨Kf8,by decide,by decide⟩
 ahead:=fun j n y i hi=>by
  match j,y with
  |0,y=>cases y;simp[Jg7]at hi
  |1,y=>cases y;simp[Jg7]at hi;subst hi;exact⟨by omega,rfl⟩
 all:=fun i hi=>by
  have:i=0:=by simp[Jcq]at hi;omega
  subst this
  rfl
 one:=by decide
 few:=by decide
theorem Khj:Kl Jkp [Za]=.inl ⟨1,42,⟨#[]⟩⟩:=by rfl
end Go.Proofs.YtdlgbphkaicfaaaGreatDoor
namespace Go.Proofs.YtdlgbphkaicfaaaGreatDoor
open Go.RowKit Go.Shelf Tryz
structure Kd3 (E:DS) (T:TS) (name:ByteArray) (ts:List Int) (rs:List (List V)) (cs:Cs):Prop where
 tab:Ye E [T] name=.inl cs
 good:Zt ts cs
 len:nR cs=rs.length
 row:∀ i,i<rs.length→Ji cs i=rs.getD i []
 tys:Jhd [T] name=ts
 find:Ub [T] name<[T].length
 ok:∀ T'∈[T],Jid E T'
 all:∀ T'∈[T],∀ cs',Zo E T'=.inl cs'→Zt T'.types cs'
theorem Jx2 {y:DS}{T:TS}{name:ByteArray}{A:List Int}{rs:List (List V)}(h:Jbc y [(T,rs)])(hn:T.name=name)(O:T.types=A)(R:Jel name A rs)(M:∀ r∈rs,∀ v∈r,Jg v.n):∃ cs,Kd3 y T name A rs cs:=by
 subst hn O
 obtain⟨cs,h1,h2,E,H⟩:=Kff h R M
 have hf:Ub [T] T.name=0:=by simp[Ub]
 have U:Ye y [T] T.name=Zo y T:=by unfold Ye Jcm;rw[hf];rfl
 refine⟨cs,h1,h2,E,H,?_,by rw[hf];simp,(Jrp h rfl).2,fun X D Z K=>?_⟩
 ·unfold Jhd
  rw[hf]
  rfl
 rw[Oc6]at D
 subst D
 rw[U,K]at h1
 cases h1
 exact h2
theorem Kc3 {tab:ByteArray→Cs⊕Nat}{cs:Cs}(h:tab Yh=.inl cs):Jac tab Jcq=Jcb [Jkp] cs∧Jbs ⟨2,0,⟨#[]⟩,[Jkp],[],0,0⟩ (stN tab Jcq 1)=cs:=by
 constructor
 ·simp[Jac,stN,Jcq,Jb3,Jkq,Jbs,h]
 simp[stN,Jcq,Jb3,Jkq,Jbs,h]
abbrev Jvf (y:Nat):List Nd:=[⟨0,0,0,Yh,(none,0,0),(none,0,0),0⟩,⟨2,0,0,⟨#[]⟩,(some ⟨y,0,none⟩,1,1),(none,0,0),0⟩]
theorem Ke9 (Z:Nat→Prop)(st:Nat)(H:DS)(T:TS)(cs:Cs)(w:World)(h:Sto Z w st H [T])(D:Kd3 H T Yh [1] [[Za]] cs)(ba bb bc br q wr pg bl ex bn:Addr)(bu:Jax w ba bb bc br q wr pg bl ex bn)(X R bk:Nat)(bC:w.heap[X]?=some (.cells ((Jvf R).flatMap ndC).toArray 47 (0,0)))(bG:w.cell? ⟨R,0,none⟩=some (.slice (some ⟨bk,0,none⟩) 3 3))(bD:w.heap[bk]?=some (.cells (Jkp.flatMap ptC).toArray 65 (0,0))) :
  Calls prog 9 #[.pointer (some ⟨st,0,none⟩),.agg #[.slice (some ⟨X,0,none⟩) 2 2],.agg #[.int .i64 1000,.int .i64 1000,.int .i64 0,.int .i64 0]] w fun e w'=>Below w.heap.size w w'∧∃ g bs,e=.returned (.tuple #[.slice (some ⟨g,0,none⟩) 1 1,Ko 0 (-1) (-1) (-1) (-1)])∧Jcu w' w.heap.size g bs [[⟨1,42,⟨#[]⟩⟩]]:=by
 obtain⟨bf,bA⟩:=Kc3 (tab:=Ye H [T]) D.tab
 have bB:nR cs=1:=D.len
 have bi:Ji cs 0=[Za]:=D.row 0 (by simp)
 have bh:nR (Jac (Ye H [T]) Jcq)=1:=by rw[bf,Jm1 _ _ (by simp),bB]
 refine(Jr5 Z st H [T] w h D.ok D.all ba bb bc br q wr pg bl ex bn bu Jcq [[1],[1]] (Jw6 D.tys) (fun n hn h0=>?_) (fun _=>by rw[bh];omega) (fun n hn h0=>?_) (fun j n y E=>?_) X 0 2 (Jvf R) rfl (Jfm bC) (fun j n nd y K=>?_) 1000 1000 0 0 (by omega) (by omega) (by omega) (by omega) (by omega) (by omega)).mono fun e w' O=>?_
 ·simp only[Jcq,Of1,Oi0,or_false]at hn
  rcases hn with rfl|rfl
  ·exact D.find
  cases h0
 ·simp only[Jcq,Of1,Oi0,or_false]at hn
  rcases hn with rfl|rfl
  ·exact absurd rfl h0
  exact Knz
 ·match j,y with
  |0,y=>cases y;cases E
  |1,y=>cases y;cases E
 ·match j,y,K with
  |0,y,K=>cases y;cases K;exact⟨rfl,rfl,rfl,fun h=>absurd h (by decide),fun h=>absurd h (by decide)⟩
  |1,y,K=>cases y;cases K;exact⟨rfl,rfl,rfl,fun _=>⟨R,0,1,rfl,by simp,Jyd (e:=Jkp) bG (Jfp bD)⟩,fun h=>absurd h (by decide)⟩
 obtain⟨M,Y,l,c,nd,row,col,bI,bx,rfl,hR⟩:=O
 refine⟨M,?_⟩
 rcases hR with⟨rfl,rfl,rfl,rfl,rfl,hf,g,bs,rfl,A⟩|⟨rfl,j,n,rfl,hf,hn,bj⟩
 ·rw[bh]at A ⊢
  rw[bf]at A
  have bz:Qf 1 (Jcb [Jkp] cs)=[[⟨1,42,⟨#[]⟩⟩]]:=by
   have:(Qf 1 (Jcb [Jkp] cs))=[Ji (Jcb [Jkp] cs) 0]:=rfl
   rw[this,Jjj _ _ _ (by omega),bi]
   simp only[Oe4,Oi4]
   rw[Jgd Khj]
  rw[bz]at A
  have bH:=bx.size
  exact⟨g,bs,rfl,⟨A.len,A.outer,A.rows,⟨by have:=A.from_.1;omega,fun b M=>⟨by have:=(A.from_.2 b M).1;omega,(A.from_.2 b M).2⟩⟩,A.nodup⟩⟩
 exfalso
 match j,hn with
 |0,hn=>
  cases hn
  rcases bj with⟨_,_,p,O,_⟩|⟨h0,_⟩|⟨E,_⟩
  ·rw[D.tab]at O;cases O
  ·exact h0 rfl
  cases E
 |1,hn=>
  cases hn
  rcases bj with⟨h0,_⟩|⟨_,_,_,r,_,bE,U,_⟩|⟨E,_⟩
  ·cases h0
  ·rw[bA]at bE U
   have:r=0:=by omega
   subst this
   rw[bi]at U
   exact U rfl
  cases E
end Go.Proofs.YtdlgbphkaicfaaaGreatDoor
