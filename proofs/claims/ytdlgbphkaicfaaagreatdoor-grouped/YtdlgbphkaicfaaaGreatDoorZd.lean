/- Plans at work: what their nodes tell. -/
import Derived.Test.YtdlgbphkaicfaaaGreatDoorZb
set_option maxHeartbeats 2000000
set_option maxRecDepth 100000
namespace Go.Proofs.YtdlgbphkaicfaaaGreatDoor
open Go.RowKit Go.Shelf Tryz
def Jd7 (tab:ByteArray→Cs⊕Nat)(ns:List PN)(j:Nat):Prop:=∀ (k:Nat) (m:PN),k<j→ns[k]?=some m→Jlw tab m (stN tab ns k)
def PSp (tab:ByteArray→Cs⊕Nat)(ns:List PN)(j:Nat)(y:List Dn):Prop:=y.map (Option.map fun x=>x.2.2)=stN tab ns j∧Jd7 tab ns j
def ERp (tab:ByteArray→Cs⊕Nat)(ns:List PN)(A E D pg:Addr)(j:Nat)(v:Value)(W:World):Prop:=
 Jd7 tab ns j∧∃ n,ns[j]?=some n ∧
  ((n.op=0∧∃ p b:Nat,tab n.tn=.inr p∧v=.iface 126 (.pointer (some ⟨b,0,none⟩))∧Yu W v pg (some (-1)) (some (p:Int))) ∨
   (n.op≠0∧∃ y kk r:Nat,v=Qv y∧r<nR (Jbs n (stN tab ns j))∧Kr n.es (Ji (Jbs n (stN tab ns j)) r)≠0∧Ja8 W y (r:Int) kk (Jdb A E (Kr n.es (Ji (Jbs n (stN tab ns j)) r)))∧∀ i,i<r→∀ e∈n.es,∃ v,Kl e (Ji (Jbs n (stN tab ns j)) i)=.inl v) ∨
   (n.op=4∧∃ (y x k:Nat) (m:List V),v=.iface 152 (.pointer (some ⟨y,0,none⟩))∧W.heap[y]?=some (.cells #[.int .i64 (x:Nat),.int .i64 (k:Nat),.iface 435 (.pointer (some D))] 158 (0,0))∧(Kk9 n.gk (Jbs n (stN tab ns j)))[x]?=some m∧k<n.gk.length∧(tdV n.gk (Klk n.gk (Jbs n (stN tab ns j))) m k).2=false∧Klz n.gk (Kk9 n.gk (Jbs n (stN tab ns j))) (Klk n.gk (Jbs n (stN tab ns j))) x k))
theorem Ja8.below {w w':World}{y:Nat}{row A:Int}{D:Value}(h:Ja8 w y row A D)(E:Below w.heap.size w w'):Ja8 w' y row A D:=(E.block y (Jd h)).trans h
theorem ERp.below {tab:ByteArray→Cs⊕Nat}{ns:List PN}{K O M pg:Addr}{j:Nat}{v:Value}{W W':World}(h:ERp tab ns K O M pg j v W)(H:Below W.heap.size W W'):ERp tab ns K O M pg j v W':=by
 obtain⟨h0,n,h1,⟨h2,p,b,A,y,D⟩|⟨h2,E,kk,r,A,y,D,R,U⟩|⟨h2,E,x,k,m,A,y,D⟩⟩:=h
 ·exact⟨h0,n,h1,.inl ⟨h2,p,b,A,y,D.below H⟩⟩
 ·exact⟨h0,n,h1,.inr (.inl ⟨h2,E,kk,r,A,y,D,R.below H,U⟩)⟩
 exact⟨h0,n,h1,.inr (.inr ⟨h2,E,x,k,m,A,(H.block E (Jd y)).trans y,D⟩)⟩
theorem Jd7.more {tab:ByteArray→Cs⊕Nat}{ns:List PN}{j:Nat}{n:PN}(h:Jd7 tab ns j)(A:ns[j]?=some n)(hf:Jlw tab n (stN tab ns j)):Jd7 tab ns (j+1):=fun k m D y=>by
 by_cases e:k=j
 ·subst e
  rw[A]at y
  cases y
  exact hf
 exact h k m (by omega) y
theorem Js5 {y:List Int}{es:List (List Pt)}(h:∀ e∈es,Uj y e∧1≤e.length∧e.length≤12)(m:Nat)(E:m=y.length):Jga m es:=fun e D=>by
 obtain⟨h1,h2,K⟩:=h e D
 exact⟨by intro A;rw[A]at h2;simp at h2,by omega,fun j p H=>by rw[E];exact(h1 j p H).ok⟩
theorem Jo3 {sch:List Int}{cs:Cs}(h:Zt sch cs):∀ i,i<nR cs→∀ v∈Ji cs i,Jg v.n:=fun i hi=>(h.ty i hi).2.2
section
variable {tys:ByteArray→List Int} {scs:List (List Int)} {ns:List PN} {tab:ByteArray→Cs⊕Nat} {j:Nat} {n:PN} {nd:Nd} {X:World}
theorem Kod (h:Jdk tys scs ns)(D:ns[j]?=some n)(hi:Jnm X n nd)(h0:n.op=0)(s:Nat)(z:Nat)(K H:Int)(ba M Z:Value)(bf bD bi et pg:Addr)
  (U:∀ Y,Below X.heap.size X Y→Calls prog 37 #[.pointer (some ⟨s,0,none⟩),.string n.tn] Y fun e w'=>Jrr Y et pg (some (tab n.tn)) e w') :
  Ju1 X (X.heap.size+1) X.heap.size z K H ba (.pointer (some ⟨s,0,none⟩)) M Z (PSp tab ns) (ERp tab ns bf bD bi pg) nd j:=by
 obtain⟨sch,hs,ok⟩:=h.ok j n D
 refine⟨by rw[hi.op];omega,by rw[hi.op];omega,fun W bc bb O bG hR bz bk=>?_⟩
 obtain⟨bu,R⟩:=bk
 have bB:=Jma (tab:=tab) D
 have br:Jej nd.op=70:=by rw[hi.op,h0];rfl
 rw[br]
 cases htab:tab n.tn with
 |inl cs=>
  have bx:Jlw tab n (stN tab ns j):=⟨fun _=>⟨cs,htab⟩,fun bA=>absurd h0 bA,fun bE=>by omega⟩
  have:=Kdz hR nd cs fun Y A=>by
   rw[hi.tn]
   refine(U Y (Jb O A)).mono fun e w' y=>?_
   rw[htab]at y
   exact y
  refine this.mono fun bh W' y=>?_
  obtain⟨E,g,bC,rfl,bl,bj⟩:=y
  refine⟨Qq E,.inl ⟨(g,bC,cs),bb,rfl,bl,bj,bz,?_,R.more D bx⟩⟩
  rw[bB,Ob8,bu]
  unfold Jb3 Jkq
  rw[if_pos h0,if_pos h0,htab]
  rfl
 |inr p=>
  have:=Jos X.heap.size s z (.int .i64 K) (.int .i64 H) ba M Z bc nd.op nd.l nd.r nd.tn (.slice nd.xs.1 nd.xs.2.1 nd.xs.2.2) (.slice nd.ky.1 nd.ky.2.1 nd.ky.2.2) nd.kk W (fun _ a b w'=>∃ g:Nat,a=.slice none 0 0∧b=.iface 126 (.pointer (some ⟨g,0,none⟩))∧Yu w' b pg (some (-1)) (some (p:Int))) hR.run (fun Y A=>by
   rw[hi.tn]
   refine(U Y (Jb O A)).mono fun e w' y=>?_
   rw[htab]at y
   obtain⟨h1,b,rfl,_,h2⟩:=y
   exact⟨h1,_,_,rfl,b,rfl,rfl,h2⟩)
  refine this.mono fun bh W' y=>?_
  obtain⟨E,Y,A,a,b,rfl,g,rfl,rfl,bn⟩:=y
  exact⟨Qq E,.inr ⟨_,g,rfl,R,n,D,.inl ⟨h0,p,g,htab,rfl,bn⟩⟩⟩
theorem Km1 (h:Jdk tys scs ns)(bO:∀ n∈ns,n.op=0→∀ cs,tab n.tn=.inl cs→Zt (tys n.tn) cs)(E:ns[j]?=some n)(hi:Jnm X n nd)(h0:n.op≠0)(s:Nat)(z:Nat)(K H:Int)(Z M U:Value)(bb bj bc pg:Addr)
  (bu:∀ W D (y:List Dn),Below X.heap.size X W→Jd6 (X.heap.size+1) X.heap.size z K H Z (.pointer (some ⟨s,0,none⟩)) M U D y W→Jd7 tab ns j→∀ g hs cs sch,y[n.l]?=some (some (g,hs,cs))→Jbs n (stN tab ns j)=cs→scs[n.l]?=some sch→Zt sch cs →
   Calls prog (Jej nd.op) #[.pointer (some ⟨X.heap.size,0,none⟩),nd.val] W fun e W'=>W.grownBy W' D.ownBlock ∧
    ((∃ (g:Nat) (hs:List (Option Addr×Nat)),e=.returned (.tuple #[dnV (some (g,hs,Jkq tab n (stN tab ns j))),.nilIface])∧Jd6 (X.heap.size+1) X.heap.size z K H Z (.pointer (some ⟨s,0,none⟩)) M U D (y.set n.l none) W'∧Jfk X.heap.size D (g,hs,Jkq tab n (stN tab ns j)) W'∧Jlw tab n (stN tab ns j)) ∨
     (∃ (ty b:Nat),e=.returned (.tuple #[.slice none 0 0,.iface ty (.pointer (some ⟨b,0,none⟩))])∧ERp tab ns bb bj bc pg j (.iface ty (.pointer (some ⟨b,0,none⟩))) W'))) :
  Ju1 X (X.heap.size+1) X.heap.size z K H Z (.pointer (some ⟨s,0,none⟩)) M U (PSp tab ns) (ERp tab ns bb bj bc pg) nd j:=by
 obtain⟨sch,hs,ok⟩:=h.ok j n E
 have bU:=ok.le
 have bT:j<ns.length:=(Ob9.1 E).1
 refine⟨by rw[hi.op];omega,by rw[hi.op];omega,fun W D y br bS hR bG bl=>?_⟩
 obtain⟨O,R⟩:=bl
 have bi:=Jqw h bO j (by omega) R
 have bJ:=Jma (tab:=tab) E
 have bE:Jg7 n=[n.l]:=by unfold Jg7;rw[if_neg h0]
 obtain⟨bI,bB⟩:=h.ahead j n E n.l (by rw[bE];exact Oc6.2 rfl)
 obtain⟨cs,A⟩:=bi.there n.l bI bB
 obtain⟨bP,bM,bD⟩:=bi.good n.l cs A
 have bz:Jbs n (stN tab ns j)=cs:=by unfold Jbs;rw[Oa0,A];rfl
 obtain⟨⟨g,bL,ba⟩,bf⟩:∃ x,y[n.l]?=some (some x):=by
  rw[←O,Ob1]at A
  cases e:y[n.l]? with
  |none=>rw[e]at A;cases A
  |some o=>
   cases o with
   |none=>rw[e]at A;cases A
   |some x=>exact⟨x,rfl⟩
 have bx:ba=cs:=by
  rw[←O,Ob1,bf]at A
  simpa using A
 subst bx
 have bN:∀ x:Nat×List (Option Addr×Nat)×List (List V),(y.set n.l none++[some x]).map (Option.map fun x=>x.2.2)=(stN tab ns j).set n.l none++[some x.2.2]:=fun x=>by
  rw[Ob8,Op0,O]
  rfl
 have bH:(y.set n.l none).length=j:=by rw[Of8];exact bG
 refine(bu W D y br hR R g bL ba bP bf bz bM bD).mono fun bQ W' bK=>?_
 obtain⟨bh,⟨bR,bV,rfl,bn,bk,bC⟩|⟨ty,b,rfl,bA⟩⟩:=bK
 ·refine⟨bh,.inl ⟨_,y.set n.l none,rfl,bn,bk,bH,?_,R.more E bC⟩⟩
  rw[bN,bJ]
  unfold Jb3
  rw[if_neg h0]
 exact⟨bh,.inr ⟨ty,b,rfl,bA⟩⟩
theorem Kmz (h:Jdk tys scs ns)(bR:∀ n∈ns,n.op=0→∀ cs,tab n.tn=.inl cs→Zt (tys n.tn) cs)(M:ns[j]?=some n)(hi:Jnm X n nd)(h2:n.op=2)(s:Nat)(z:Nat)(R O:Int)(bj U bi:Value)(A D ba pg:Addr)(bV:1≤z)(bW:z≤1000)(H:Jdo X A D) :
  Ju1 X (X.heap.size+1) X.heap.size z R O bj (.pointer (some ⟨s,0,none⟩)) U bi (PSp tab ns) (ERp tab ns A D ba pg) nd j:=by
 obtain⟨sch,hs,ok⟩:=h.ok j n M
 have h0:n.op≠0:=by omega
 refine Km1 h bR M hi h0 s z R O bj U bi A D ba pg fun W ca bZ bb hR bH g bO E cj bD K bQ y=>?_
 have bz:Jdo W A D:=H.below bb
 have bI:10<X.heap.size∧11<X.heap.size:=⟨Jb0 H.d,Jb0 H.o⟩
 obtain⟨bn,eo,br,bT,cf,bU⟩:=hi.es (.inr h2)
 have bC:Jej nd.op=72:=by rw[hi.op,h2];rfl
 rw[bC]
 obtain⟨cl,bh,ch,bX,ci,bY⟩:=ok.proj h2
 rw[bQ]at bh
 cases bh
 have:=Jsx hR nd n.l g bO E bD hi.l bn eo br n.es bT X.heap.size (nR E) (Nat.le_succ _) A D (bU.under fun k bJ=>bb.block k bJ) (Js5 bY _ y.len) bX (by omega) bV bW y.one y.few y.rows y.many (Jo3 y) bz bI
 have bL:Jkq tab n (stN tab ns j)=n.es.map fun e=>(List.range (nR E)).map fun i=>pv1 e (Ji E i):=by
  unfold Jkq
  rw[if_neg h0,if_neg (by omega),if_neg (by omega),K]
  rfl
 rw[bL]
 refine this.mono fun cb W' bM=>?_
 obtain⟨bc,⟨bu,bP,rfl,bA,bx,bB⟩|⟨Z,kk,r,rfl,bN,bK,bS,bG⟩⟩:=bM
 ·refine⟨bc,.inl ⟨bu,bP,rfl,bA,bx,fun bl=>absurd bl h0,fun _ i bf bk bE=>?_,fun cc=>by omega⟩⟩
  rw[K]at bf ⊢
  exact bB i bf bk bE
 refine⟨bc,.inr ⟨_,Z,rfl,bH,n,M,.inr (.inl ⟨h0,Z,kk,r,rfl,?_⟩)⟩⟩
 rw[K]
 exact⟨bN,bK,bS,bG⟩
theorem Knw (h:Jdk tys scs ns)(ci:∀ n∈ns,n.op=0→∀ cs,tab n.tn=.inl cs→Zt (tys n.tn) cs)(A:ns[j]?=some n)(hi:Jnm X n nd)(M:n.op=4)(s:Nat)(z:Nat)(bc bb:Int)(bj bf bi:Value)(bl bG U pg:Addr)(cr:1≤z)(cK:z≤1000)(bC:X.cell? ⟨12,0,none⟩=some (.iface 435 (.pointer (some U))))(bT:Jd7 tab ns j→nR (Jbs n (stN tab ns j))≤20000) :
  Ju1 X (X.heap.size+1) X.heap.size z bc bb bj (.pointer (some ⟨s,0,none⟩)) bf bi (PSp tab ns) (ERp tab ns bl bG U pg) nd j:=by
 obtain⟨sch,hs,ok⟩:=h.ok j n A
 have h0:n.op≠0:=by omega
 refine Km1 h ci A hi h0 s z bc bb bj bf bi bl bG U pg fun W bL bK R hR bA g cf H cO bR Z ch D=>?_
 have bu:=bT bA
 rw[Z]at bu
 obtain⟨kb,ko,cu,cn,bE⟩:=hi.gk M
 have bQ:Jej nd.op=74:=by rw[hi.op,M];rfl
 rw[bQ]
 obtain⟨cP,ky,bH,cN,cv,cx,ba,bI,cy⟩:=ok.grp M
 rw[ch]at bH
 cases bH
 obtain⟨bk,bJ,bx,bU,cD,cE,bP,hf,O,bZ⟩:=hR.take bR
 have bD:=hR.run
 rw[bx]at bD
 have E:bL.ownBlock=some bk:=by rw[bx];rfl
 have cJ:kb<X.heap.size:=Jb0 (bE 0 ky bI).1
 have cH:=Jb0 bC
 have cM:=R.size
 have:=Ko2 X.heap.size bk bK.length bJ n.l z (.int .i64 bc) (.int .i64 bb) bj (.pointer (some ⟨s,0,none⟩)) bf bi nd.op nd.r nd.tn (.slice nd.xs.1 nd.xs.2.1 nd.xs.2.2) nd.kk kb ko cu g H.length n.gk ky cf H (nR H) W U bD bU bP hf (by omega) (bE.under fun k y=>R.block k y) bI cy cx ⟨by omega,by omega⟩ O.1 ⟨O.2.1.2.2,fun j A b o K=>(O.2.2 j A b o K).2.2⟩ ⟨fun e=>O.2.1.2.1 (E.trans (congrArg some e.symm)),fun j A b o K bN=>(O.2.2 j A b o K).2.1 (E.trans (congrArg some bN.symm))⟩ D.one D.few D.rows bu cr (by omega) (fun k y=>by rw[D.len];exact(ba k y).c) (fun k y=>(ba k y).f) (Kq7 D ba) (fun k y r cc=>(Ko3 D (ba k y) cc).1) (Ja R bC) (by omega)
 have ca:Jkq tab n (stN tab ns j)=Kln n.gk H:=by
  unfold Jkq
  rw[if_neg h0,if_neg (by omega),if_pos M,Z]
 have bW:(Kln n.gk H).length=n.gk.length:=Knc
 rw[ca,Nd.val,hi.l,cn]
 refine this.mono fun cC W' cb=>?_
 obtain⟨y,bS,⟨cz,cA,rfl,cG,bO,bh⟩|⟨bn,x,k,m,rfl,cF,cl,bX,bV,cj,bh⟩⟩:=cb
 ·have bB:=Jgr y
  obtain⟨br,bY⟩:=Jo6 bO
  refine⟨by rw[E];exact bB,.inl ⟨cz,cA.map slH,?_,bZ W' bB bS,⟨br,⟨?_,?_⟩⟩,fun bM=>absurd bM h0,fun _ i cI cB bz=>?_,fun _=>?_⟩⟩
  ·simp only[dnV,bW]
  ·exact⟨by omega,by rw[E];intro e;cases e;omega,br.row.lt⟩
  ·intro j A b o K
   have R:=bY j A b o K
   exact⟨by omega,by rw[E];intro e;cases e;omega,R.2⟩
  ·rw[cv]at bz;cases bz
  rw[Z];exact bh
 refine⟨by rw[E];exact Jgr y,.inr ⟨_,bn,rfl,bA,n,A,.inr (.inr ⟨M,bn,x,k,m,rfl,cl,?_⟩)⟩⟩
 rw[Z]
 exact⟨bX,bV,cj,bh⟩
end
attribute [local go_sem] Oc0
theorem Jib (y:World)(g:Nat)(A D E H K:Value)(k:Nat)(h:k≠g):(((((y.setCell ⟨g,0,none⟩ A).setCell ⟨g,1,none⟩ D).setCell ⟨g,2,none⟩ E).setCell ⟨g,3,none⟩ H).setCell ⟨g,4,none⟩ K).heap[k]?=y.heap[k]?:=Zh y g A D E H K k h
theorem Jl1 (f:Nat→Value)(n j:Nat)(h:j<n):Uq ((List.range n).map f) j=f j:=by
 unfold Uq
 rw[Oa0,Ob1,Oh6 h]
 rfl
theorem Jrn (g:Nat)(hs:List (Option Addr×Nat))(cs:List (List V))(n:Nat)(w:World)(R:Qd w g hs cs)(bc:∀ i,i<cs.length→(cs.getD i []).length=n)(h1:1≤cs.length)(h2:cs.length≤1000)(hn:n≤10000) :
  Calls prog 24 #[.slice (some ⟨g,0,none⟩) cs.length cs.length,.nilIface] w fun e w'=>Below w.heap.size w w'∧∃ O bs,e=.returned (.tuple #[.slice (some ⟨O,0,none⟩) n n,Jb6 0])∧Jcu w' w.heap.size O bs (Qf n cs):=by
 have U:Below w.heap.size w (w.alloc (.cells #[.int .i64 0,.int .i64 0,.int .i64 0,.int .i64 0,.int .i64 0] 42)):=(Oa5 _ _).alloc (Oa2 _) _
 have bl:=run_neq_nil_nil (P:=prog)
 have H:=R.below U
 have Z:=by
  refine Jo4 g cs.length ((List.range cs.length).map fun j=>.slice (Yo hs j).1 (cs.getD j []).length (Yo hs j).2) cs n (w.alloc (.cells #[.int .i64 0,.int .i64 0,.int .i64 0,.int .i64 0,.int .i64 0] 42)) ?_ (by simp) (fun i hi=>⟨(Yo hs i).1,(Yo hs i).2,?_,H.vals i hi⟩) bc h1 h2 hn
  ·rw[Oa6,Op1]
   exact H.row.congr fun j bi=>(Jl1 (fun j=>.slice (Yo hs j).1 (cs.getD j []).length (Yo hs j).2) _ _ bi).symm
  exact Jl1 (fun j=>.slice (Yo hs j).1 (cs.getD j []).length (Yo hs j).2) _ _ hi
 clear R H
 go_enter func24,ntmps24
 go_wp2_with fail
 refine Z.mono ?_
 rintro e w1 ⟨rfl,⟨E,bh⟩,X⟩
 clear Z
 go_wp2_with fail
 refine(Jjq w1).mono ?_
 rintro e br ⟨rfl,K⟩
 have ba:=Jb U X
 obtain⟨bj,bn⟩:=Kx (Jb X K)
 have bb:=Jb ba K
 have M:=bh.below K
 rw[Oa7]at M
 have bf:=M.from_
 have low:∀ D:World,Jcu D (w.heap.size+1) (w.heap.size+1) E (Qf n cs)→Jcu D w.heap.size (w.heap.size+1) E (Qf n cs):=fun D y=>⟨y.len,y.outer,y.rows,⟨by have:=y.from_.1;omega,fun b A=>⟨by have:=(y.from_.2 b A).1;omega,(y.from_.2 b A).2⟩⟩,y.nodup⟩
 go_wp2
 refine bodyPost_ret (v:=.tuple #[.slice (some ⟨w.heap.size+1,0,none⟩) n n,Jb6 0]) (by simp[results,results24,go_sem,bj]) rfl ⟨Um bb (Oa2 _) _ _ _ _ _,?_⟩
 refine⟨w.heap.size+1,E,rfl,?_⟩
 refine low _ (M.of_blocks ?_ (fun b A=>?_))
 ·exact Jib _ _ _ _ _ _ _ _ (by omega)
 have bk:=(bf.2 b A).1
 exact Jib _ _ _ _ _ _ _ _ (by omega)
theorem Kc0 (st d s:Nat)(M:Value)(z K H O:Int)(w:World)(bD:Jdu w st d s)(P:World→Value→Value→World→Prop)(ba:World→Value→Int→Int→Int→Int→Int→World→Prop)
  (bE:∀ A,Below w.heap.size w A→Calls prog 23 #[.agg #[M],.agg #[.int .i64 z,.int .i64 K,.int .i64 H,.int .i64 O],.pointer (some ⟨s,0,none⟩),.pointer (some ⟨d,0,none⟩)] A fun e w'=>Below A.heap.size A w'∧∃ a b,e=.returned (.tuple #[a,b])∧P A a b w')
  (bB:∀ A a b Y,Below w.heap.size w A→Below A.heap.size A Y→P A a b Y→Calls prog 24 #[a,b] Y fun e w'=>Below Y.heap.size Y w'∧∃ l c nd row col pg,e=.returned (.tuple #[l,Ko c nd row col pg])∧ba Y l c nd row col pg w')
  (hR:∀ Y l c nd row col pg D bi,D.heap.size≤bi.heap.size→(∀ k,Y.heap.size≤k→bi.heap[k]?=D.heap[k]?)→ba Y l c nd row col pg D→ba Y l c nd row col pg bi) :
  Calls prog 9 #[.pointer (some ⟨st,0,none⟩),.agg #[M],.agg #[.int .i64 z,.int .i64 K,.int .i64 H,.int .i64 O]] w fun e w'=>Below w.heap.size w w'∧∃ Y l c nd row col pg,Below w.heap.size w Y∧e=.returned (.tuple #[l,Ko c nd row col pg])∧ba Y l c nd row col pg w':=by
 have bJ:Hid _:=bE
 have bG:Hid _:=bB
 have bH:Hid _:=hR
 obtain⟨c0,c1⟩:=bD.field
 clear bE bB hR bD
 go_enter func9,ntmps9
 go_upto_region 1 with fail
 have bb:Below w.heap.size w (((w.alloc (.cells #[M] 51)).alloc (.cells #[.int .i64 z,.int .i64 K,.int .i64 H,.int .i64 O] 27)).alloc (.cells #[.int .i64 0,.int .i64 0,.int .i64 0,.int .i64 0,.int .i64 0] 42)):=Jc (Jc (Jc (Oa5 _ _) _) _) _
 have bn:(((w.alloc (.cells #[M] 51)).alloc (.cells #[.int .i64 z,.int .i64 K,.int .i64 H,.int .i64 O] 27)).alloc (.cells #[.int .i64 0,.int .i64 0,.int .i64 0,.int .i64 0,.int .i64 0] 42)).heap[w.heap.size]?=some (.cells #[M] 51 (0,0)):=((Oa9 _ _ _ (by simp;omega)).trans (Oa9 _ _ _ (by simp))).trans (heap_alloc_new w _)
 have Z:(((w.alloc (.cells #[M] 51)).alloc (.cells #[.int .i64 z,.int .i64 K,.int .i64 H,.int .i64 O] 27)).alloc (.cells #[.int .i64 0,.int .i64 0,.int .i64 0,.int .i64 0,.int .i64 0] 42)).heap[w.heap.size+1]?=some (.cells #[.int .i64 z,.int .i64 K,.int .i64 H,.int .i64 O] 27 (0,0)):=by
  have:=heap_alloc_new (w.alloc (.cells #[M] 51)) (.cells #[.int .i64 z,.int .i64 K,.int .i64 H,.int .i64 O] 27)
  rw[Oa7]at this
  exact(Oa9 _ _ _ (by simp)).trans this
 have br:(((w.alloc (.cells #[M] 51)).alloc (.cells #[.int .i64 z,.int .i64 K,.int .i64 H,.int .i64 O] 27)).alloc (.cells #[.int .i64 0,.int .i64 0,.int .i64 0,.int .i64 0,.int .i64 0] 42)).heap[w.heap.size+2]?=some (.cells #[.int .i64 0,.int .i64 0,.int .i64 0,.int .i64 0,.int .i64 0] 42 (0,0)):=by
  have:=heap_alloc_new ((w.alloc (.cells #[M] 51)).alloc (.cells #[.int .i64 z,.int .i64 K,.int .i64 H,.int .i64 O] 27)) (.cells #[.int .i64 0,.int .i64 0,.int .i64 0,.int .i64 0,.int .i64 0] 42)
  rw[Oa7,Oa7]at this
  exact this
 have bl:(((w.alloc (.cells #[M] 51)).alloc (.cells #[.int .i64 z,.int .i64 K,.int .i64 H,.int .i64 O] 27)).alloc (.cells #[.int .i64 0,.int .i64 0,.int .i64 0,.int .i64 0,.int .i64 0] 42)).heap.size=w.heap.size+3:=by rw[Oa7,Oa7,Oa7]
 generalize (((w.alloc (.cells #[M] 51)).alloc (.cells #[.int .i64 z,.int .i64 K,.int .i64 H,.int .i64 O] 27)).alloc (.cells #[.int .i64 0,.int .i64 0,.int .i64 0,.int .i64 0,.int .i64 0] 42))=E at bb bn Z br bl ⊢
 have bL:E.cell? ⟨w.heap.size,0,none⟩=some M:=by simp[World.cell?,bn]
 have bM:E.cell? ⟨w.heap.size+1,0,none⟩=some (.int .i64 z):=by simp[World.cell?,Z]
 have bN:E.cell? ⟨w.heap.size+1,1,none⟩=some (.int .i64 K):=by simp[World.cell?,Z]
 have bO:E.cell? ⟨w.heap.size+1,2,none⟩=some (.int .i64 H):=by simp[World.cell?,Z]
 have bP:E.cell? ⟨w.heap.size+1,3,none⟩=some (.int .i64 O):=by simp[World.cell?,Z]
 have bV:=Ja bb c0
 have bW:=Ja bb c1
 have X:Hid (Below w.heap.size w E∧E.heap[w.heap.size+2]?=some (.cells #[.int .i64 0,.int .i64 0,.int .i64 0,.int .i64 0,.int .i64 0] 42 (0,0))∧E.heap.size=w.heap.size+3):=⟨bb,br,bl⟩
 clear c0 c1 bb bn Z br bl
 refine wp_region_held_drew (S:=fun A=>A.cell? ⟨w.heap.size,0,none⟩=some M∧A.cell? ⟨w.heap.size+1,0,none⟩=some (.int .i64 z)∧A.cell? ⟨w.heap.size+1,1,none⟩=some (.int .i64 K)∧A.cell? ⟨w.heap.size+1,2,none⟩=some (.int .i64 H)∧A.cell? ⟨w.heap.size+1,3,none⟩=some (.int .i64 O)∧A.cell? ⟨st,0,none⟩=some (.pointer (some ⟨d,0,none⟩))∧A.cell? ⟨st,1,none⟩=some (.pointer (some ⟨s,0,none⟩))) (by kernel_rfl) ⟨Jh bL,Jh bM,Jh bN,Jh bO,Jh bP,Jh bV,Jh bW⟩ (fun y=>?_)
 refine tk 0 ?_ rfl y ?_ (tk 1 ?_ rfl y ?_ (tk 2 ?_ rfl y ?_ (tk 3 ?_ rfl y ?_ (tk 4 ?_ rfl y ?_ (tk 5 ?_ rfl y ?_ (tk 6 ?_ rfl y ?_ (tk 7 ?_ rfl y ?_ (tk 8 ?_ rfl y ?_ (tk 9 ?_ rfl y ?_ ?_)))))))))
 iterate 10
  rotate_left 1
  ·intro w bj;(try dsimp only at bj);go_simp;try rfl
 simp only[Act.put,List.getElem_toArray,List.getElem_cons_zero,List.getElem_cons_succ,Oa1,List.set_cons_zero,List.set_cons_succ]
 refine wpAnyH_ready (rs:=[10]) (by kernel_rfl) (by simp) (AllReadyH.cons rfl (fun bK bu=>?_) AllReadyH.nil)
 go_simp
 refine(bJ.out E.drew (Jj X.out.1)).mono ?_
 rintro e Y ⟨U,a,b,rfl,bx⟩
 have bh:Hid (P E.drew a b Y∧Below E.drew.heap.size E.drew Y):=⟨bx,U⟩
 clear bx
 go_simp
 refine bu.out _ _ ⟨Ja U y.1,Ja U y.2.1,Ja U y.2.2.1,Ja U y.2.2.2.1,Ja U y.2.2.2.2.1,Ja U y.2.2.2.2.2.1,Ja U y.2.2.2.2.2.2⟩ (fun y=>?_)
 clear bu bK U
 refine tk 11 ?_ rfl y ?_ (tk 12 ?_ rfl y ?_ (tk 13 ?_ rfl y ?_ (tk 14 ?_ rfl y ?_ (tk 15 ?_ rfl y ?_ ?_))))
 iterate 5
  rotate_left 1
  ·intro w bj;(try dsimp only at bj);go_simp;try rfl
 simp only[Act.put,List.getElem_toArray,List.getElem_cons_zero,List.getElem_cons_succ,Oa1,List.set_cons_zero,List.set_cons_succ]
 refine wpAnyH_done (by kernel_rfl) ?_ _
 have bC:=bG.out E.drew a b Y (Jj X.out.1) bh.out.2 bh.out.1
 go_wp2_with fail
 refine bC.mono ?_
 rintro e D ⟨bA,l,c,nd,row,col,pg,rfl,bz⟩
 have bI:Hid (ba Y l c nd row col pg D):=bz
 have bc:Below E.heap.size E Y:=Jw bh.out.2
 have bk:=Jb bc bA
 have R:=(bk.block _ (Jd X.out.2.1)).trans X.out.2.1
 have bQ:D.cell? ⟨w.heap.size+2,0,none⟩=some (.int .i64 0):=by simp[World.cell?,R]
 have bR:D.cell? ⟨w.heap.size+2,1,none⟩=some (.int .i64 0):=by simp[World.cell?,R]
 have bS:D.cell? ⟨w.heap.size+2,2,none⟩=some (.int .i64 0):=by simp[World.cell?,R]
 have bT:D.cell? ⟨w.heap.size+2,3,none⟩=some (.int .i64 0):=by simp[World.cell?,R]
 have bU:D.cell? ⟨w.heap.size+2,4,none⟩=some (.int .i64 0):=by simp[World.cell?,R]
 have bX:D.frozen? ⟨w.heap.size+2,0,none⟩=false:=by simp[World.frozen?,R]
 have bY:D.frozen? ⟨w.heap.size+2,1,none⟩=false:=by simp[World.frozen?,R]
 have bZ:D.frozen? ⟨w.heap.size+2,2,none⟩=false:=by simp[World.frozen?,R]
 have ca:D.frozen? ⟨w.heap.size+2,3,none⟩=false:=by simp[World.frozen?,R]
 have cb:D.frozen? ⟨w.heap.size+2,4,none⟩=false:=by simp[World.frozen?,R]
 have bf:Hid (Below w.heap.size w D∧Below w.heap.size w Y∧w.heap.size+3≤Y.heap.size):=⟨Jb X.out.1 bk,Jb X.out.1 bc,by have:=bc.size;have:=X.out.2.2;omega⟩
 clear bz bC bc bk R bA
 go_wp2
 refine bodyPost_ret (v:=.tuple #[l,Ko c nd row col pg]) (by simp[results,results9,go_sem,bQ,bR,bS,bT,bU]) rfl ⟨Um bf.out.1 (by omega) _ _ _ _ _,Y,l,c,nd,row,col,pg,bf.out.2.1,rfl,bH.out _ _ _ _ _ _ _ _ _ ?_ (fun k cc=>?_) bI.out⟩
 ·simp[World.setCell]
 exact Jib _ _ _ _ _ _ _ k (by have:=bf.out.2.2;omega)
end Go.Proofs.YtdlgbphkaicfaaaGreatDoor
