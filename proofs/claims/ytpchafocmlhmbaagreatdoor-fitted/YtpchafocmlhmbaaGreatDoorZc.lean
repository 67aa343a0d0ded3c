/- Plans at work: what their nodes tell. -/
import Derived.Test.YtpchafocmlhmbaaGreatDoorZb
import Derived.Test.YtpchafocmlhmbaaGreatDoorJs
namespace Go.Proofs.YtpchafocmlhmbaaGreatDoor
open Go.RowKit Go.Shelf Tryz
def Jd7 (tab:ByteArray→Cs⊕Nat)(ns:List PN)(j:Nat):Prop:=∀ (k:Nat) (m:PN),k<j→ns[k]?=some m→Jlw tab m (stN tab ns k)
def PSp (tab:ByteArray→Cs⊕Nat)(ns:List PN)(j:Nat)(y:List Dn):Prop:=y.map (Option.map fun x=>x.2.2)=stN tab ns j∧Jd7 tab ns j
def ERp (tab:ByteArray→Cs⊕Nat)(ns:List PN)(D H E pg:Addr)(j:Nat)(v:Value)(W:World):Prop:=
 Jd7 tab ns j∧∃ n,ns[j]?=some n ∧
  ((n.op=0∧∃ p b:Nat,tab n.tn=.inr p∧v=.iface 123 (.pointer (some ⟨b,0,none⟩))∧Yu W v pg (some (-1)) (some (p:Int))) ∨
   (n.op≠0∧∃ y kk r:Nat,v=Qv y∧r<nR (Jbs n (stN tab ns j))∧Kr n.es (Ji (Jbs n (stN tab ns j)) r)≠0∧Ja8 W y (r:Int) kk (Jdb D H (Kr n.es (Ji (Jbs n (stN tab ns j)) r)))∧∀ i,i<r→∀ e∈n.es,∃ v,Kl e (Ji (Jbs n (stN tab ns j)) i)=.inl v) ∨
   (n.op=4∧∃ (y x k:Nat) (m:List V),v=.iface 149 (.pointer (some ⟨y,0,none⟩))∧W.heap[y]?=some (.cells #[.int .i64 (x:Nat),.int .i64 (k:Nat),.iface 433 (.pointer (some E))] 155 (0,0))∧(Kk9 n.gk (Jbs n (stN tab ns j)))[x]?=some m∧k<n.gk.length∧(tdV n.gk (Klk n.gk (Jbs n (stN tab ns j))) m k).2=false∧Klz n.gk (Kk9 n.gk (Jbs n (stN tab ns j))) (Klk n.gk (Jbs n (stN tab ns j))) x k))
theorem Ja8.below {w w':World}{y:Nat}{row D:Int}{E:Value}(h:Ja8 w y row D E)(H:Below w.heap.size w w'):Ja8 w' y row D E:=(H.block y (Jd h)).trans h
theorem ERp.below {tab:ByteArray→Cs⊕Nat}{ns:List PN}{X Z Y pg:Addr}{j:Nat}{v:Value}{W U:World}(h:ERp tab ns X Z Y pg j v W)(R:Below W.heap.size W U):ERp tab ns X Z Y pg j v U:=by
 obtain⟨h0,n,O,⟨D,p,b,E,y,H⟩|⟨D,K,kk,r,E,y,H,ba,bc⟩|⟨D,K,x,k,m,E,y,H⟩⟩:=h
 ·exact⟨h0,n,O,.inl ⟨D,p,b,E,y,H.below R⟩⟩
 ·exact⟨h0,n,O,.inr (.inl ⟨D,K,kk,r,E,y,H,ba.below R,bc⟩)⟩
 exact⟨h0,n,O,.inr (.inr ⟨D,K,x,k,m,E,(R.block K (Jd y)).trans y,H⟩)⟩
theorem Jd7.more {tab:ByteArray→Cs⊕Nat}{ns:List PN}{j:Nat}{n:PN}(h:Jd7 tab ns j)(D:ns[j]?=some n)(hf:Jlw tab n (stN tab ns j)):Jd7 tab ns (j+1):=fun k m E y=>by
 by_cases e:k=j
 ·subst e;rw[D]at y;cases y
  exact hf
 exact h k m (by omega) y
theorem Js5 {D:List Int}{es:List (List Pt)}(h:∀ e∈es,Uj D e∧1≤e.length∧e.length≤12)(m:Nat)(O:m=D.length):Jga m es:=fun e K=>by
 obtain⟨H,y,R⟩:=h e K;exact⟨by intro E;rw[E]at y;simp at y,by omega,fun j p hp=>by rw[O];exact(H j p hp).ok⟩
theorem Jo3 {sch:List Int}{cs:Cs}(h:Zt sch cs):∀ i,i<nR cs→∀ v∈Ji cs i,Jg v.n:=fun i hi=>(h.ty i hi).2.2
section
variable {tys:ByteArray→List Int} {scs:List (List Int)} {ns:List PN} {tab:ByteArray→Cs⊕Nat} {j:Nat} {n:PN} {nd:Nd} {X:World}
theorem Kod (h:Jdk tys scs ns)(E:ns[j]?=some n)(hi:Jnm X n nd)(h0:n.op=0)(s:Nat)(z:Nat)(bu bl:Int)(Z K Y:Value)(bh bK bj et pg:Addr)
  (U:∀ y,Below X.heap.size X y→Calls prog 36 #[.pointer (some ⟨s,0,none⟩),.string n.tn] y fun e w'=>Jrr y et pg (some (tab n.tn)) e w') :
  Ju1 X (X.heap.size+1) X.heap.size z bu bl Z (.pointer (some ⟨s,0,none⟩)) K Y (PSp tab ns) (ERp tab ns bh bK bj pg) nd j:=by
 obtain⟨sch,hs,ok⟩:=h.ok j n E;refine⟨by rw[hi.op];omega,by rw[hi.op];omega,fun W bf bc O bN hR bG bz=>?_⟩;obtain⟨bD,R⟩:=bz;have bI:=Jma (tab:=tab) E;have bC:Jej nd.op=69:=by rw[hi.op,h0];rfl
 rw[bC];cases htab:tab n.tn with
 |inl cs=>
  have bE:Jlw tab n (stN tab ns j):=⟨fun _=>⟨cs,htab⟩,fun bH=>absurd h0 bH,fun bM=>by omega,fun bL=>by omega⟩;have:=Kdz hR nd cs fun y D=>by
   rw[hi.tn];refine(U y (Jb O D)).mono fun e w' hp=>?_;rw[htab]at hp;exact hp
  refine this.mono fun bi ba hp=>?_;obtain⟨H,g,bJ,rfl,bA,bx⟩:=hp;refine⟨Qq H,.inl ⟨(g,bJ,cs),bc,rfl,bA,bx,bG,?_,R.more E bE⟩⟩;rw[bI,Ob8,bD];unfold Jb3 Jkq;rw[if_pos h0,if_pos h0,htab];rfl
 |inr p=>
  have:=Jos X.heap.size s z (.int .i64 bu) (.int .i64 bl) Z K Y bf nd.op nd.l nd.r nd.tn (.slice nd.xs.1 nd.xs.2.1 nd.xs.2.2) (.slice nd.ky.1 nd.ky.2.1 nd.ky.2.2) nd.kk W (fun _ a b w'=>∃ g:Nat,a=.slice none 0 0∧b=.iface 123 (.pointer (some ⟨g,0,none⟩))∧Yu w' b pg (some (-1)) (some (p:Int))) hR.run (fun y D=>by
   rw[hi.tn];refine(U y (Jb O D)).mono fun e w' hp=>?_;rw[htab]at hp;obtain⟨bn,b,rfl,_,br⟩:=hp;exact⟨bn,_,_,rfl,b,rfl,rfl,br⟩)
  refine this.mono fun bi ba hp=>?_;obtain⟨H,y,D,a,b,rfl,g,rfl,rfl,bB⟩:=hp;exact⟨Qq H,.inr ⟨_,g,rfl,R,n,E,.inl ⟨h0,p,g,htab,rfl,bB⟩⟩⟩
theorem Km1 (h:Jdk tys scs ns)(bL:∀ n∈ns,n.op≠0→Ks9 n.op)(bT:∀ n∈ns,n.op=0→∀ cs,tab n.tn=.inl cs→Zt (tys n.tn) cs)(K:ns[j]?=some n)(hi:Jnm X n nd)(h0:n.op≠0)(bh:¬ (n.op=3∨n.op=7))(s:Nat)(z:Nat)(bu bl:Int)(Z O Y:Value)(bc br bf pg:Addr)
  (bC:∀ W E (y:List Dn),Below X.heap.size X W→Jd6 (X.heap.size+1) X.heap.size z bu bl Z (.pointer (some ⟨s,0,none⟩)) O Y E y W→Jd7 tab ns j→∀ g hs cs sch,y[n.l]?=some (some (g,hs,cs))→Jbs n (stN tab ns j)=cs→scs[n.l]?=some sch→Zt sch cs →
   Calls prog (Jej nd.op) #[.pointer (some ⟨X.heap.size,0,none⟩),nd.val] W fun e H=>W.grownBy H E.ownBlock ∧
    ((∃ (g:Nat) (hs:List (Option Addr×Nat)),e=.returned (.tuple #[dnV (some (g,hs,Jkq tab n (stN tab ns j))),.nilIface])∧Jd6 (X.heap.size+1) X.heap.size z bu bl Z (.pointer (some ⟨s,0,none⟩)) O Y E (y.set n.l none) H∧Jfk X.heap.size E (g,hs,Jkq tab n (stN tab ns j)) H∧Jlw tab n (stN tab ns j)) ∨
     (∃ (ty b:Nat),e=.returned (.tuple #[.slice none 0 0,.iface ty (.pointer (some ⟨b,0,none⟩))])∧ERp tab ns bc br bf pg j (.iface ty (.pointer (some ⟨b,0,none⟩))) H))) :
  Ju1 X (X.heap.size+1) X.heap.size z bu bl Z (.pointer (some ⟨s,0,none⟩)) O Y (PSp tab ns) (ERp tab ns bc br bf pg) nd j:=by
 obtain⟨sch,hs,ok⟩:=h.ok j n K;have bZ:=ok.le;have bY:j<ns.length:=(Ob9.1 K).1;refine⟨by rw[hi.op];omega,by rw[hi.op];omega,fun W E y bB bX hR bM bz=>?_⟩;obtain⟨R,U⟩:=bz;have bn:=Jqw h bL bT j (by omega) U;have bP:=Jma (tab:=tab) K;have bK:Jg7 n=[n.l]:=by unfold Jg7;rw[if_neg h0,if_neg bh]
 obtain⟨bO,bH⟩:=h.ahead j n K n.l (by rw[bK];exact Oc6.2 rfl);obtain⟨cs,D⟩:=bn.there n.l bO bH;obtain⟨bU,bR,bJ⟩:=bn.good n.l cs D;have bE:Jbs n (stN tab ns j)=cs:=by unfold Jbs;rw[Oa0,D];rfl
 obtain⟨⟨g,bQ,ba⟩,bi⟩:∃ x,y[n.l]?=some (some x):=by
  rw[←R,Ob1]at D;cases e:y[n.l]? with
  |none=>rw[e]at D;cases D
  |some o=>
   cases o with
   |none=>rw[e]at D;cases D
   |some x=>exact⟨x,rfl⟩
 have bD:ba=cs:=by
  rw[←R,Ob1,bi]at D;simpa using D
 subst bD;have bS:∀ x:Nat×List (Option Addr×Nat)×List (List V),(y.set n.l none++[some x]).map (Option.map fun x=>x.2.2)=(stN tab ns j).set n.l none++[some x.2.2]:=fun x=>by
  rw[Ob8,Op0,R];rfl
 have bN:(y.set n.l none).length=j:=by rw[Of8];exact bM
 refine(bC W E y bB hR U g bQ ba bU bi bE bR bJ).mono fun bV H hp=>?_;obtain⟨bj,⟨bW,ca,rfl,bA,bx,bI⟩|⟨ty,b,rfl,bG⟩⟩:=hp
 ·refine⟨bj,.inl ⟨_,y.set n.l none,rfl,bA,bx,bN,?_,U.more K bI⟩⟩;rw[bS,bP];unfold Jb3;rw[if_neg h0,if_neg bh]
 exact⟨bj,.inr ⟨ty,b,rfl,bG⟩⟩
theorem Kmz (h:Jdk tys scs ns)(bO:∀ n∈ns,n.op≠0→Ks9 n.op)(bU:∀ n∈ns,n.op=0→∀ cs,tab n.tn=.inl cs→Zt (tys n.tn) cs)(U:ns[j]?=some n)(hi:Jnm X n nd)(K:n.op=2)(s:Nat)(z:Nat)(bu bl:Int)(bn Y bj:Value)(D E ba pg:Addr)(bY:1≤z)(bZ:z≤1000)(O:Jdo X D E) :
  Ju1 X (X.heap.size+1) X.heap.size z bu bl bn (.pointer (some ⟨s,0,none⟩)) Y bj (PSp tab ns) (ERp tab ns D E ba pg) nd j:=by
 obtain⟨sch,hs,ok⟩:=h.ok j n U;have h0:n.op≠0:=by omega
 refine Km1 h bO bU U hi h0 (by omega) s z bu bl bn Y bj D E ba pg fun W ch cf bc hR bL g bR H cy bI R bT y=>?_;have bD:Jdo W D E:=O.below bc;have bM:10<X.heap.size∧11<X.heap.size:=⟨Jb0 O.d,Jb0 O.o⟩;obtain⟨bz,eo,bA,bW,cu,bX⟩:=hi.es (.inr K);have bH:Jej nd.op=71:=by rw[hi.op,K];rfl
 rw[bH];obtain⟨cz,bi,cv,ca,cx,cb⟩:=ok.proj K;rw[bT]at bi;cases bi
 have:=Jsx hR nd n.l g bR H bI hi.l bz eo bA n.es bW X.heap.size (nR H) (Nat.le_succ _) D E (bX.under fun k bN=>bc.block k bN) (Js5 cb _ y.len) ca (by omega) bY bZ y.one y.few y.rows y.many (Jo3 y) bD bM;have bQ:Jkq tab n (stN tab ns j)=n.es.map fun e=>(List.range (nR H)).map fun i=>pv1 e (Ji H i):=by
  unfold Jkq;rw[if_neg h0,if_neg (by omega),if_neg (by omega),if_neg (by omega),R];rfl
 rw[bQ];refine this.mono fun ci cc hp=>?_;obtain⟨bf,⟨bB,bS,rfl,bE,bC,bG⟩|⟨Z,kk,r,rfl,hr,bP,bV,bK⟩⟩:=hp
 ·refine⟨bf,.inl ⟨bB,bS,rfl,bE,bC,fun bx=>absurd bx h0,fun _ i bh br bJ=>?_,fun cn=>by omega,fun cj=>by omega⟩⟩;rw[R]at bh ⊢;exact bG i bh br bJ
 refine⟨bf,.inr ⟨_,Z,rfl,bL,n,U,.inr (.inl ⟨h0,Z,kk,r,rfl,?_⟩)⟩⟩;rw[R];exact⟨hr,bP,bV,bK⟩
theorem Kvr (h:Jdk tys scs ns)(bR:∀ n∈ns,n.op≠0→Ks9 n.op)(bW:∀ n∈ns,n.op=0→∀ cs,tab n.tn=.inl cs→Zt (tys n.tn) cs)(K:ns[j]?=some n)(hi:Jnm X n nd)(bh:n.op=3∨n.op=7)(s:Nat)(z:Nat)(bu bl:Int)(ba R Z:Value)(bc bz bf pg:Addr)
  (bG:∀ W E (y:List Dn),Below X.heap.size X W→Jd6 (X.heap.size+1) X.heap.size z bu bl ba (.pointer (some ⟨s,0,none⟩)) R Z E y W→Jd7 tab ns j→∀ g hs cs sch g2 Y O sch2,y[n.l]?=some (some (g,hs,cs))→y[n.r]?=some (some (g2,Y,O))→Jbs n (stN tab ns j)=cs→csR n (stN tab ns j)=O→scs[n.l]?=some sch→scs[n.r]?=some sch2→Zt sch cs→Zt sch2 O →
   Calls prog (Jej nd.op) #[.pointer (some ⟨X.heap.size,0,none⟩),nd.val] W fun e H=>W.grownBy H E.ownBlock ∧
    ((∃ (g:Nat) (hs:List (Option Addr×Nat)),e=.returned (.tuple #[dnV (some (g,hs,Jkq tab n (stN tab ns j))),.nilIface])∧Jd6 (X.heap.size+1) X.heap.size z bu bl ba (.pointer (some ⟨s,0,none⟩)) R Z E ((y.set n.l none).set n.r none) H∧Jfk X.heap.size E (g,hs,Jkq tab n (stN tab ns j)) H∧Jlw tab n (stN tab ns j)) ∨
     (∃ (ty b:Nat),e=.returned (.tuple #[.slice none 0 0,.iface ty (.pointer (some ⟨b,0,none⟩))])∧ERp tab ns bc bz bf pg j (.iface ty (.pointer (some ⟨b,0,none⟩))) H))) :
  Ju1 X (X.heap.size+1) X.heap.size z bu bl ba (.pointer (some ⟨s,0,none⟩)) R Z (PSp tab ns) (ERp tab ns bc bz bf pg) nd j:=by
 have cb:j<ns.length:=(Ob9.1 K).1;have h0:n.op≠0:=by omega
 refine⟨by rw[hi.op];omega,by rw[hi.op];omega,fun W E y bE ca hR bS bC=>?_⟩;obtain⟨bj,U⟩:=bC;have bx:=Jqw h bR bW j (by omega) U;have bT:=Jma (tab:=tab) K;have br:Jg7 n=[n.l,n.r]:=by unfold Jg7;rw[if_neg h0,if_pos bh]
 obtain⟨cl,sl,bJ,bH,bU,bP⟩:=Ktr h K bx (i:=n.l) (by rw[br];simp);obtain⟨cr,bX,bK,bI,bV,bQ⟩:=Ktr h K bx (i:=n.r) (by rw[br];simp);have bi:∀ {i:Nat} {cs:Cs},(stN tab ns j)[i]?=some (some cs)→∃ g hs,y[i]?=some (some (g,hs,cs)):=fun {i cs} D=>by
  rw[←bj,Ob1]at D;cases e:y[i]? with
  |none=>rw[e]at D;cases D
  |some o=>
   cases o with
   |none=>rw[e]at D;cases D
   |some x=>
    rw[e]at D;obtain⟨g,hs,bA⟩:=x;have:bA=cs:=by simpa using D
    subst this;exact⟨g,hs,rfl⟩
 obtain⟨g,hs,bL⟩:=bi bJ;obtain⟨g2,Y,bM⟩:=bi bK;refine(bG W E y bE hR U g hs cl sl g2 Y cr bX bL bM bH bI bU bV bP bQ).mono fun bY H hp=>?_;obtain⟨bn,⟨bZ,cc,rfl,bD,bB,bO⟩|⟨ty,b,rfl,bN⟩⟩:=hp
 ·refine⟨bn,.inl ⟨_,_,rfl,bD,bB,by rw[Of8,Of8];exact bS,?_,U.more K bO⟩⟩;rw[bT,Ob8,Op0,Op0,bj];unfold Jb3;rw[if_neg h0,if_pos bh];rfl
 exact⟨bn,.inr ⟨ty,b,rfl,bN⟩⟩
theorem Kuh {W D:World}{y i:Nat}{v:Value}(h:Ju (·=y) W D):Ju (·=y) (W.setCell ⟨y,i,none⟩ v) D:=⟨h.os,h.tape,h.output,by have:=h.size;simpa [World.setCell] using this,fun k H E=>(h.block k (by simpa [World.setCell] using H) E).trans (Oa4 _ _ _ _ E).symm⟩
theorem Qd.snoc {w:World}{g:Nat}{hs:List (Option Addr×Nat)}{cs:List (List V)}(h:Qd w g hs cs)(hl:hs.length=cs.length)(x:Option Addr×Nat):Qd w g (hs++[x]) cs:=⟨h.row.congr fun j y=>by rw[Ksz (by rw[hl];exact y)],fun j y=>by rw[Ksz (by rw[hl];exact y)];exact h.vals j y,fun j y=>by rw[Ksz (by rw[hl];exact y)];exact h.cap j y⟩
theorem Jd6.take2 {L rb:Nat}{z bu bl:Int}{U X O R K:Value}{E:List Dn}{W:World}(h:Jd6 L rb z bu bl U X O R K E W){i r:Nat}{x Y:Nat×List (Option Addr×Nat)×List (List V)}(hi:E[i]?=some (some x))(hr:E[r]?=some (some Y))(bi:i≠r){y:Nat}(H:K.ownBlock=some y){D:World}(bh:Ju (·=y) W D)(bf:D.heap[y]?=Kut W y i r):Jd6 L rb z bu bl U X O R K ((E.set i none).set r none) D:=by
 obtain⟨b1,c1,Z,_,_,_,_,_,_,bj⟩:=h.take hi;obtain rfl:b1=y:=by rw[Z]at H;exact Oj6 H
 have bc:=bj (W.setCell ⟨b1,i,none⟩ (.slice none 0 0)) (Jgr (Ju.set (F:=fun x=>x=b1) (Ju.refl _ _) rfl i _)) rfl;obtain⟨b2,c2,ba,_,_,_,_,_,_,bn⟩:=bc.take (i:=r) (x:=Y) (by rw[Op2,if_neg bi];exact hr);obtain rfl:b2=b1:=by rw[ba]at H;exact Oj6 H
 exact bn D (Jgr (Kuh bh)) bf
theorem Kvb {sch:List Int}{cs:Cs}(h:Zt sch cs){c:Nat}(E:c<sch.length):∀ v∈cs.getD c [],Jg v.n∧v.s.size≤maxLen:=fun v K=>by
 obtain⟨r,hr⟩:=Ok2.1 K;have H:r<nR cs:=by rw[←h.rows c (by rw[h.len];exact E)];exact(Ob9.1 hr).1
 obtain⟨D,y⟩:=Kmh h H E;rw[Oa0 (l:=cs.getD c []),hr]at D y;exact⟨y,(Kpk D y).2.2⟩
theorem Kuw (h:Jdk tys scs ns)(cC:∀ n∈ns,n.op≠0→Ks9 n.op)(cI:∀ n∈ns,n.op=0→∀ cs,tab n.tn=.inl cs→Zt (tys n.tn) cs)(D:ns[j]?=some n)(hi:Jnm X n nd)(Z:n.op=3)(s:Nat)(z:Nat)(bu bl sd:Int)(bn bD:Value)(bH bX bJ pg bI:Addr)(cK:1≤z)(cM:z≤1000)(cY:0≤bl∧bl≤4096)(cF:Jg sd)(bQ:X.cell? ⟨13,0,none⟩=some (.iface 433 (.pointer (some bI))))(cx:Jd7 tab ns j→(jnN n (stN tab ns j)).length≤2000) :
  Ju1 X (X.heap.size+1) X.heap.size z bu bl (.int .i64 sd) (.pointer (some ⟨s,0,none⟩)) bn bD (PSp tab ns) (ERp tab ns bH bX bJ pg) nd j:=by
 obtain⟨sch,hs,ok⟩:=h.ok j n D;obtain⟨dg,rs,k,bY,bZ,ca,cO,cb,cP,dj,cQ,bf,dh,di⟩:=ok.join Z;refine Kvr h cC cI D hi (.inl Z) s z bu bl _ bn bD bH bX bJ pg fun W bG ch ba hR cy g bT cs sl g2 bU E dk bM bN bx bz cG cH R U=>?_;have br:=cx cy;obtain⟨kb,ko,kc,cJ,bW⟩:=hi.gk (.inl Z);have cn:Jej nd.op=72:=by rw[hi.op,Z];rfl
 rw[cn];rw[cG]at bY;cases bY
 rw[cH]at bZ;cases bZ
 have bB:n.kk.toNat=k:=by rw[cb];rfl
 have cE:Jkq tab n (stN tab ns j)=Kr4 k n.gk cs E (nR cs) (nR E):=by
  unfold Jkq;rw[if_neg (by omega),if_neg (by omega),if_neg (by omega),if_pos Z,bx,bz,bB]
 unfold jnN at br;rw[bx,bz,bB]at br;obtain⟨cc,cf,bA,cA,cX,cZ,bc,hf,H,_⟩:=hR.take bM;obtain⟨bh,bE,bO,cB,_,_,cj,cv,bK,_⟩:=hR.take bN;obtain⟨rfl,rfl⟩:bh=cc∧bE=cf:=by
  rw[bA]at bO;injection bO with y _ e3;injection y with y;injection y with y;exact⟨y.symm,e3.symm⟩
 have bS:=hR.run;rw[bA]at bS;have Y:bG.ownBlock=some bh:=by rw[bA];rfl
 obtain⟨bj,rfl⟩:∃ bj:Nat,bl=(bj:Int):=⟨bl.toNat,by omega⟩;have cN:0<n.gk.length:=by omega
 have dd:kb<X.heap.size:=Jb0 (bW 0 _ (Oa3 cN)).1;have db:=Jb0 bQ;have df:=ba.size;have bR:∀ {g:Nat} {hs:List (Option Addr×Nat)} {cs:List (List V)},Jfk X.heap.size bG (g,hs,cs) W→Jbo g hs cs.length (fun b=>b<W.heap.size∧b≠bh):=fun H=>⟨⟨H.2.1.2.2,fun e=>H.2.1.2.1 (Y.trans (congrArg some e.symm))⟩,fun j D b o y=>⟨(H.2.2 j D b o y).2.2,fun e=>(H.2.2 j D b o y).2.1 (Y.trans (congrArg some e.symm))⟩⟩;have:=Kwo X.heap.size bh ch.length bE n.l n.r z bj bu sd (.pointer (some ⟨s,0,none⟩)) bn bD nd.op nd.tn (.slice nd.xs.1 nd.xs.2.1 nd.xs.2.2) kb ko kc g (Ktu bT cs.length) g2 (Ktu bU E.length) n.gk k bT bU cs E (nR cs) (nR E) W bI bS cA cB ca bc cj hf cv (by omega) H.1 bK.1 (bW.under fun k bi=>ba.block k bi) cQ cP (fun O K=>⟨by rw[R.len];exact(bf O K).c,(bf O K).o.1,by rw[U.len];exact(bf O K).o.2⟩) R.rows U.rows R.many U.many ⟨R.one,R.few⟩ ⟨U.one,U.few⟩
  (fun c bc=>by obtain⟨O,K,rfl⟩:=Of0.1 bc;exact Kvb R (bf O K).c) (fun c bc=>by obtain⟨O,K,rfl⟩:=Of0.1 bc;exact Kvb U (bf O K).o.2) cK cM (by omega) cF (bR H) (bR bK) ⟨by omega,by omega⟩ (Ja ba bQ) (by omega)
 rw[cE,Nd.val,hi.l,hi.r,hi.kk,cb,cJ];refine this.mono fun cV cS hp=>?_;obtain⟨bi,cu,⟨de,_⟩|⟨_,ci,cap,bV,rfl,da,bL,bC,cD⟩⟩:=hp
 ·omega
 have cz:=Jgr bi;refine⟨by rw[Y];exact cz,.inl ⟨ci,bV++[(none,cap)],?_,hR.take2 bM bN ca Y bi cu,⟨bL.snoc bC _,⟨?_,?_⟩⟩,fun cU=>by omega,fun _ i dc cT bP=>?_,fun cW=>by omega,fun _=>?_⟩⟩
 ·simp only[dnV];have:Ktu (bV++[(none,cap)]) (Kr4 k n.gk cs E (nR cs) (nR E)).length=cap:=by
   unfold Ktu;rw[←bC,Ob6 (Oa2 _),Oe1];rfl
  rw[this]
 ·exact⟨by omega,by rw[Y];intro e;cases e;omega,bL.row.lt⟩
 ·intro j D b o y;simp only at D y;rw[Ksz (by rw[bC];exact D)]at y;have ba:=cD j D b o y;exact⟨by omega,by rw[Y];intro e;cases e;omega,ba.2⟩
 ·rw[cO]at bP;cases bP
 unfold jnN;rw[bx,bz,bB];exact br
end
end Go.Proofs.YtpchafocmlhmbaaGreatDoor
