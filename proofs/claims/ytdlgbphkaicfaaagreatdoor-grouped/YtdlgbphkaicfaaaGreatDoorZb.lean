/- Plans as they are meant: what their nodes tell, plainly. -/
import Derived.Test.YtdlgbphkaicfaaaGreatDoorZa
namespace Go.Proofs.YtdlgbphkaicfaaaGreatDoor
open Go.RowKit Go.Shelf
abbrev Cs:=List (List V)
def nR (cs:Cs):Nat:=(cs.getD 0 []).length
structure Zt (sch:List Int) (cs:Cs):Prop where
 len:cs.length=sch.length
 one:1≤cs.length
 few:cs.length≤1000
 rows:∀ j,j<cs.length→(cs.getD j []).length=nR cs
 many:nR cs≤100000
 ty:∀ i,i<nR cs→Jee sch (Ji cs i)
def Jbs (n:PN)(st:List (Option Cs)):Cs:=(st.getD n.l none).getD []
def Jba (ks:List Nat)(cs:Cs):Cs:=cs.map (Yq (ks.map fun (i:Nat)=>(i:Int)))
def Jcb (es:List (List Pt))(cs:Cs):Cs:=es.map fun e=>(List.range (nR cs)).map fun i=>pv1 e (Ji cs i)
def Kk9 (gk:List Krv)(cs:Cs):List (List V):=Klt [] (mkL gk cs) (List.range (nR cs))
def Klk (gk:List Krv)(cs:Cs):List V→List Tly:=tfB gk cs (List.range (nR cs))
def Kln (gk:List Krv)(cs:Cs):Cs:=tcI gk (Kk9 gk cs) (Klk gk cs) (Kk9 gk cs).length 0
def Krd (gk:List Krv)(cs:Cs):Prop:=Klz gk (Kk9 gk cs) (Klk gk cs) (Kk9 gk cs).length 0
def Jkq (tab:ByteArray→Cs⊕Nat)(n:PN)(st:List (Option Cs)):Cs:=
 if n.op=0 then (tab n.tn).elim id fun _=>[]else if n.op=1 then Jba (Yf (n.es.getD 0 []) (Jbs n st) (nR (Jbs n st))) (Jbs n st)else if n.op=4 then Kln n.gk (Jbs n st)else Jcb n.es (Jbs n st)
def Jb3 (tab:ByteArray→Cs⊕Nat)(n:PN)(st:List (Option Cs)):List (Option Cs):=(if n.op=0 then st else st.set n.l none)++[some (Jkq tab n st)]
def stN (tab:ByteArray→Cs⊕Nat)(ns:List PN)(j:Nat):List (Option Cs):=(ns.take j).foldl (fun s n=>Jb3 tab n s) []
theorem Jma {tab:ByteArray→Cs⊕Nat}{ns:List PN}{j:Nat}{n:PN}(h:ns[j]?=some n):stN tab ns (j+1)=Jb3 tab n (stN tab ns j):=by
 unfold stN
 rw[Oi7,h,Ol1]
 rfl
def Jlw (tab:ByteArray→Cs⊕Nat)(n:PN)(st:List (Option Cs)):Prop:=(n.op=0→∃ cs,tab n.tn=.inl cs)∧(n.op≠0→∀ i,i<nR (Jbs n st)→∀ e∈n.es,∃ v,Kl e (Ji (Jbs n st) i)=.inl v)∧(n.op=4→Krd n.gk (Jbs n st))
theorem Jix (tab:ByteArray→Cs⊕Nat)(n:PN)(st:List (Option Cs)):(Jb3 tab n st).length=st.length+1:=by
 unfold Jb3
 split<;>simp
theorem Jhh (tab:ByteArray→Cs⊕Nat)(ns:List PN):∀ j,j≤ns.length→(stN tab ns j).length=j
 |0,_=>by simp[stN]
 |j+1,h=>by
  rw[Jma (Oa3 (by omega:j<ns.length)),Jix,Jhh tab ns j (by omega)]
theorem Kee {sch:List Int}{es:List Pt}{x:List V}(A:Uj sch es)(D:Jee sch x):∀ j d,j≤es.length→Yy (es.take j) x []=.inl d→d.length=j∧Jho (es.map (tyP sch)) d
 |0,d,_,h=>by
  rw[List.take_zero]at h
  simp only[Yy]at h
  cases h
  exact⟨rfl,fun k H=>absurd H (Oe0 _),fun v K=>by cases K⟩
 |j+1,d,M,h=>by
  have y:es[j]?=some es[j]:=Oa3 (by omega)
  cases hr:Yy (es.take j) x []with
  |inr c=>
   have:=Oi7 (l:=es) (i:=j)
   rw[this,Jdz,hr]at h
   cases h
  |inl E=>
   obtain⟨h1,h2⟩:=Kee A D j E (by omega) hr
   rw[Jmx y hr]at h
   split at h
   ·rename_i h0
    cases h
    refine⟨by simp[h1],?_⟩
    refine Jyb rfl (by rw[h1];exact y) ?_ D h2 h0
    rw[h1]
    exact A j _ y
   cases h
theorem Jp2 {sch:List Int}{es:List Pt}{x:List V}{v:V}(E:Uj sch es)(K:Jee sch x)(h1:1≤es.length)(h:Kl es x=.inl v):okV (Jbk sch es) v∧Jg v.n:=by
 unfold Kl at h
 cases hr:Yy es x []with
 |inr c=>rw[hr]at h;cases h
 |inl d=>
  rw[hr]at h
  cases h
  obtain⟨y,D⟩:=Kee E K es.length d (Oa2 _) (by rw[Of2];exact hr)
  have A:d≠[]:=by intro e;rw[e]at y;simp at y;omega
  have H:d.getLastD Jf=d.getD (es.length-1) Jf:=by
   rw[Ok7,Om6,Oa0,y]
  constructor
  ·rw[H]
   unfold Jbk
   exact D.1 (es.length-1) (by omega)
  have:d.getLastD Jf∈d:=by
   rw[Ok7,List.getLast?_eq_some_getLast A]
   exact List.getLast_mem A
  exact D.2 _ this
theorem Jot (ks:List Nat)(cs:Cs)(i:Nat)(hi:i<ks.length):Ji (Jba ks cs) i=Ji cs ks[i]:=by
 unfold Ji Jba Yq
 rw[Oi6]
 refine Oj9 fun c _=>?_
 simp only[Function.comp_apply]
 rw[Oa0,Ob1,Ob1,Oa3 hi]
 simp only[Option.map_some,Option.getD_some,Int.toNat_natCast]
 rw[if_neg (by omega)]
theorem Jr8 (ks:List Nat)(cs:Cs)(h:1≤cs.length):nR (Jba ks cs)=ks.length:=by
 unfold nR Jba
 rw[Oa0,Ob1,Oa3 (by omega:0<cs.length)]
 simp[Yq]
theorem Ju7 {sch:List Int}{cs:Cs}(h:Zt sch cs)(ks:List Nat)(A:∀ k∈ks,k<nR cs)(D:ks.length≤100000):Zt sch (Jba ks cs):=by
 have hn:=Jr8 ks cs h.one
 refine⟨by unfold Jba;rw[Oa6];exact h.len,by unfold Jba;rw[Oa6];exact h.one,by unfold Jba;rw[Oa6];exact h.few,fun j y=>?_,by omega,fun i hi=>?_⟩
 ·rw[hn]
  unfold Jba at y ⊢
  rw[Oa6]at y
  rw[Oa0,Ob1,Oa3 y]
  simp[Yq]
 rw[hn]at hi
 rw[Jot ks cs i hi]
 exact h.ty _ (A _ (Ob3 hi))
theorem Kcz (e:List Pt)(cs:Cs)(N:Nat):∀ k∈Yf e cs N,k<N:=fun k y=>by
 unfold Yf at y
 have:=(Om0.1 y).1
 exact Oj4.1 this
theorem Jyw (e:List Pt)(cs:Cs)(N:Nat):(Yf e cs N).length≤N:=by
 unfold Yf
 refine Ob2 (List.length_filter_le _ _) ?_
 rw[Op1]
 exact Oa2 _
theorem Jjj (es:List (List Pt))(cs:Cs)(i:Nat)(hi:i<nR cs):Ji (Jcb es cs) i=es.map fun e=>pv1 e (Ji cs i):=by
 unfold Jcb
 conv=>lhs;unfold Ji
 rw[Oi6]
 refine Oj9 fun e _=>?_
 simp only[Function.comp_apply]
 rw[Oa0,Ob1,Oh6 hi]
 rfl
theorem Jm1 (es:List (List Pt))(cs:Cs)(h:1≤es.length):nR (Jcb es cs)=nR cs:=by
 conv=>lhs;unfold nR Jcb
 rw[Oa0,Ob1,Oa3 (by omega:0<es.length)]
 simp
theorem Jxl {K:List Int}{cs:Cs}(h:Zt K cs){es:List (List Pt)}(h1:1≤es.length)(U:es.length≤6)(y:∀ e∈es,Uj K e∧1≤e.length∧e.length≤12)(hf:∀ i,i<nR cs→∀ e∈es,∃ v,Kl e (Ji cs i)=.inl v):Zt (es.map (Jbk K)) (Jcb es cs):=by
 have hn:=Jm1 es cs h1
 have O:(Jcb es cs).length=es.length:=by unfold Jcb;rw[Oa6]
 refine⟨by rw[O,Oa6],by omega,by omega,fun j M=>?_,by rw[hn];exact h.many,fun i hi=>?_⟩
 ·rw[hn]
  rw[O]at M
  unfold Jcb
  rw[Oa0,Ob1,Oa3 M]
  simp
 rw[hn]at hi
 rw[Jjj es cs i hi]
 refine⟨by simp,fun k E=>?_,fun v A=>?_⟩
 ·rw[Oa6]at E
  have H:=Ob3 E
  obtain⟨v,A⟩:=hf i hi _ H
  rw[Oa0,Ob1,Oa0,Ob1,Oa3 E]
  simp only[Option.map_some,Option.getD_some]
  rw[Jgd A]
  exact(Jp2 (y _ H).1 (h.ty i hi) (y _ H).2.1 A).1
 obtain⟨e,D,rfl⟩:=Of0.1 A
 obtain⟨u,R⟩:=hf i hi e D
 rw[Jgd R]
 exact(Jp2 (y _ D).1 (h.ty i hi) (y _ D).2.1 R).2
theorem Kmh {sch:List Int}{cs:Cs}(h:Zt sch cs){r c:Nat}(E:r<nR cs)(y:c<sch.length):okV (sch.getD c 0) ((cs.getD c []).getD r Jf)∧Jg ((cs.getD c []).getD r Jf).n:=by
 have A:c<cs.length:=by rw[h.len];exact y
 obtain⟨h1,h2,D⟩:=h.ty r E
 have e:(Ji cs r)[c]?=some ((cs.getD c []).getD r Jf):=by
  unfold Ji
  rw[Ob1,Oa3 A,Option.map_some]
  rw[Oa0 (l:=cs),Oa3 A]
  rfl
 refine⟨?_,D _ (Of6 e)⟩
 have:=h2 c (by rw[h1];exact y)
 rw[Oa0 (l:=Ji cs r),e]at this
 exact this
theorem Kpk {t:Int}{v:V}(h:okV t v)(hn:Jg v.n):Km9 v:=by
 have hs:∀ s:ByteArray,s.toList.isEmpty=true→s.size≤maxLen:=fun s e=>by rw[Ja6 e];decide
 unfold okV okB okK at h
 simp only[decide_eq_true_eq]at h
 unfold Km9 Jg
 rcases h with⟨h1,h2,y⟩|⟨h1,⟨h2,y⟩|⟨h2,A,y⟩|⟨h2,y,A⟩⟩
 ·exact⟨by omega,hn,hs _ y⟩
 ·exact⟨by omega,hn,hs _ y⟩
 ·exact⟨by omega,hn,hs _ y⟩
 exact⟨by omega,hn,Ob2 A (by decide)⟩
section
variable {sc:List Int} {cs:Cs} {gk:List Krv}
theorem Kpj (h:Zt sc cs)(D:∀ k∈gk,Kn7 sc k){r:Nat}(H:r<nR cs)(j:Nat):Km9 (Klo gk cs r j)∧∀ ky,gk[j]?=some ky→ky.f=0→okV (sc.getD ky.c 0) (Klo gk cs r j)∧Jg (Klo gk cs r j).n:=by
 have y:Km9 Jf:=Kpk (Jet 1) ⟨by decide,by decide⟩
 unfold Klo
 cases e:gk[j]? with
 |none=>exact⟨y,fun ky h=>by cases h⟩
 |some k=>
  have E:=D k (Of6 e)
  obtain⟨h1,h2⟩:=Kmh h H E.c
  simp only
  by_cases hf:k.f=0
  ·rw[if_pos hf]
   exact⟨Kpk h1 h2,fun ky h _=>by cases h;exact⟨h1,h2⟩⟩
  rw[if_neg hf]
  exact⟨y,fun ky h A=>by cases h;exact absurd A hf⟩
theorem Kq7 (h:Zt sc cs)(A:∀ k∈gk,Kn7 sc k):∀ r,r<nR cs→okM (mkL gk cs r):=fun r D=>⟨rfl,fun v y=>by
 simp only[mkL,Of1,Oi0,or_false]at y
 rcases y with rfl|rfl|rfl|rfl<;>exact(Kpj h A D _).1⟩
theorem Ko3 (h:Zt sc cs){ky:Krv}(y:Kn7 sc ky){r:Nat}(A:r<nR cs):Jg (kyV cs ky r).n∧(ky.f≠1→okV (sc.getD ky.c 0) (kyV cs ky r)):=by
 have hs:0<sc.length:=by have:=y.c;omega
 unfold kyV
 by_cases hf:ky.f=1
 ·rw[if_pos hf]
  exact⟨(Kmh h A hs).2,fun e=>absurd hf e⟩
 rw[if_neg hf]
 exact⟨(Kmh h A y.c).2,fun _=>(Kmh h A y.c).1⟩
theorem Kpm {P:V→Prop}{F:Nat→List V}{mk:List V}{val:Nat→V}:∀ {l:List Nat} {t:Tly},P t.least∧P t.most→(∀ r∈l,P (val r))→P (tlL t F mk val l).least∧P (tlL t F mk val l).most
 |[],_,h,_=>h
 |r::l,t,h,A=>by
  show P (tlL (if eqM (F r) mk=true then t.add (val r)else t) F mk val l).least∧P (tlL (if eqM (F r) mk=true then t.add (val r)else t) F mk val l).most
  refine Kpm ?_ fun x D=>A x (by simp[D])
  have y:=A r (by simp)
  split
  ·unfold Tly.add
   split
   ·exact h
   constructor
   ·show P (if _ then _ else _)
    split
    ·exact y
    exact h.1
   show P (if _ then _ else _)
   split
   ·exact y
   exact h.2
  exact h
theorem Knm {F:Nat→List V}{u:List V}:∀ {l:List Nat} {ms:List (List V)},u∈Klt ms F l→u∈ms∨∃ r∈l,u=F r
 |[],_,h=>.inl h
 |r::l,ms,h=>by
  rcases Knm (l:=l) (ms:=Klm ms (F r)) h with h|⟨x,y,e⟩
  ·unfold Klm at h
   split at h
   ·exact .inl h
   rcases Od2.1 h with h|h
   ·exact .inl h
   exact .inr ⟨r,by simp,Oc6.1 h⟩
  exact .inr ⟨x,by simp[y],e⟩
theorem Ko4 {m:List V}(h:m∈Kk9 gk cs):∃ r,r<nR cs∧m=mkL gk cs r:=by
 rcases Knm h with h|⟨r,y,e⟩
 ·cases h
 exact⟨r,Oj4.1 y,e⟩
theorem Kns:(Kk9 gk cs).length≤nR cs:=by
 have:=Kmd (mkL gk cs) (List.range (nR cs)) []
 rw[Op1,List.length_nil,Od0]at this
 exact this
theorem Krl (h:Zt sc cs)(H:∀ k∈gk,Kn7 sc k)(ba:gk.length≤4){m:List V}(X:m∈Kk9 gk cs){j:Nat}{ky:Krv}(A:gk[j]?=some ky):okV (tyK sc ky) (tdV gk (Klk gk cs) m j).1∧Jg (tdV gk (Klk gk cs) m j).1.n:=by
 have bb:=(Ob9.1 A).1
 have U:=H ky (Of6 A)
 obtain⟨r,Z,rfl⟩:=Ko4 X
 have hF:kyF gk j=ky.f:=by unfold kyF;rw[A]
 have E:=Kpo (ks:=gk) (cols:=cs) (l:=List.range (nR cs)) (fun k R x K=>(Ko3 h (H k R) (Oj4.1 K)).1) (mkL gk cs r) j
 rw[Op1]at E
 have bc:=h.many
 have O:=Kn5 gk cs (List.range (nR cs)) (mkL gk cs r) (j:=j) (by omega)
 unfold tdV Km5
 rw[hF]
 by_cases h0:ky.f=0
 ·rw[if_pos h0]
  have e:(mkL gk cs r).getD j Jf=Klo gk cs r j:=by
   rcases(show j=0∨j=1∨j=2∨j=3 by omega)with rfl|rfl|rfl|rfl<;>rfl
  simp only
  rw[e]
  have y:tyK sc ky=sc.getD ky.c 0:=by unfold tyK;rw[if_neg (by omega)]
  rw[y]
  exact(Kpj h H Z j).2 ky A h0
 rw[if_neg h0]
 unfold Klk
 unfold Kk8
 by_cases h1:ky.f=1
 ·rw[if_pos h1]
  have y:tyK sc ky=1:=by unfold tyK;rw[if_pos (.inl h1)]
  rw[y]
  have:=E.1
  refine⟨Kfp _,?_⟩
  simp only[Jg]
  omega
 rw[if_neg h1]
 by_cases h2:ky.f=2
 ·rw[if_pos h2]
  have y:tyK sc ky=1:=by unfold tyK;rw[if_pos (.inr (.inl h2))]
  rw[y]
  have:=E.2.1
  refine⟨Kfp _,?_⟩
  simp only[Jg]
  omega
 rw[if_neg h2]
 by_cases D:ky.f=3
 ·rw[if_pos D]
  have y:tyK sc ky=1:=by unfold tyK;rw[if_pos (.inr (.inr D))]
  rw[y]
  split
  ·exact⟨Jet 1,by decide,by decide⟩
  split
  ·rename_i hs
   exact⟨Kfp _,hs⟩
  exact⟨Jet 1,by decide,by decide⟩
 rw[if_neg D]
 have y:tyK sc ky=sc.getD ky.c 0:=by unfold tyK;rw[if_neg (by omega)]
 rw[y,O]
 have M:(fun v=>okV (sc.getD ky.c 0) v∧Jg v.n) (tlB gk cs (List.range (nR cs)) (mkL gk cs r) j).least∧(fun v=>okV (sc.getD ky.c 0) v∧Jg v.n) (tlB gk cs (List.range (nR cs)) (mkL gk cs r) j).most:=by
  unfold tlB
  rw[A]
  exact Kpm (P:=fun v=>okV (sc.getD ky.c 0) v∧Jg v.n) ⟨⟨Jet _,by decide,by decide⟩,⟨Jet _,by decide,by decide⟩⟩ fun x K=>by
   have:=Ko3 h U (Oj4.1 K)
   exact⟨this.2 h1,this.1⟩
 split
 ·exact M.1
 exact M.2
theorem Knt {j:Nat}(y:j<gk.length):(Kln gk cs).getD j []=(Kk9 gk cs).map fun m=>(tdV gk (Klk gk cs) m j).1:=by
 unfold Kln
 rw[Kot y,if_neg (Oe0 _),Of2]
theorem Knc:(Kln gk cs).length=gk.length:=Kl9 ..
theorem Kmo (h1:1≤gk.length):nR (Kln gk cs)=(Kk9 gk cs).length:=by
 unfold nR
 rw[Knt h1,Oa6]
theorem Kmy {i:Nat}{m:List V}(hi:(Kk9 gk cs)[i]?=some m):Ji (Kln gk cs) i=(List.range gk.length).map fun j=>(tdV gk (Klk gk cs) m j).1:=by
 have y:=(Ob9.1 hi).1
 unfold Ji Kln tcI
 rw[Oi6]
 refine Oj9 fun j _=>?_
 simp only[Function.comp_apply]
 rw[if_neg (Oe0 _),Of2,Oa0,Ob1,hi]
 rfl
theorem Kqf (h:Zt sc cs)(h1:1≤gk.length)(D:gk.length≤4)(K:∀ k∈gk,Kn7 sc k):Zt (gk.map (tyK sc)) (Kln gk cs):=by
 have M:(Kln gk cs).length=gk.length:=Knc
 have hn:=Kmo (cs:=cs) h1
 refine⟨by rw[M,Oa6],by omega,by omega,fun j H=>?_,by rw[hn];exact Ob2 Kns h.many,fun i hi=>?_⟩
 ·rw[hn,Knt (by omega),Oa6]
 rw[hn]at hi
 have A:(Kk9 gk cs)[i]?=some (Kk9 gk cs)[i]:=Oa3 hi
 rw[Kmy A]
 refine⟨by simp,fun k y=>?_,fun v O=>?_⟩
 ·rw[Oa6,Op1]at y
  have E:gk[k]?=some gk[k]:=Oa3 y
  rw[Oa0,Ob1,E,Oa0,Ob1,Oh6 y]
  exact(Krl h K D (Of6 A) E).1
 obtain⟨j,H,rfl⟩:=Of0.1 O
 exact(Krl h K D (Of6 A) (Oa3 (Oj4.1 H))).2
end
structure Khz (tys:ByteArray→List Int) (scs:List (List Int)) (tab:ByteArray→Cs⊕Nat) (ns:List PN) (j:Nat):Prop where
 good:∀ (l:Nat) (cs:Cs),(stN tab ns j)[l]?=some (some cs)→∃ sch,scs[l]?=some sch∧Zt sch cs
 there:∀ (l:Nat),l<j→flN ns j l=false→∃ cs,(stN tab ns j)[l]?=some (some cs)
theorem Kcs {tys:ByteArray→List Int}{R:List (List Int)}{ns:List PN}(h:Jdk tys R ns){tab:ByteArray→Cs⊕Nat}(bi:∀ n∈ns,n.op=0→∀ cs,tab n.tn=.inl cs→Zt (tys n.tn) cs){j:Nat}{n:PN}(E:ns[j]?=some n)(U:Khz tys R tab ns j)(hf:Jlw tab n (stN tab ns j)):∃ sch,R[j]?=some sch∧Zt sch (Jkq tab n (stN tab ns j)):=by
 obtain⟨sch,hs,ok⟩:=h.ok j n E
 refine⟨sch,hs,?_⟩
 have bn:=ok.le
 unfold Jkq
 by_cases h0:n.op=0
 ·rw[if_pos h0]
  obtain⟨cs,X⟩:=hf.1 h0
  rw[X,ok.scan h0]
  exact bi n (Of6 E) h0 cs X
 rw[if_neg h0]
 have bf:Jg7 n=[n.l]:=by unfold Jg7;rw[if_neg h0]
 obtain⟨bh,bc⟩:=h.ahead j n E n.l (by rw[bf];exact Oc6.2 rfl)
 obtain⟨cs,ba⟩:=U.there n.l bh bc
 obtain⟨br,H,A⟩:=U.good n.l cs ba
 have Z:Jbs n (stN tab ns j)=cs:=by unfold Jbs;rw[Oa0,ba];rfl
 rw[Z]
 have bb:=hf.2.1 h0
 rw[Z]at bb
 by_cases h1:n.op=1
 ·rw[if_pos h1]
  obtain⟨y,_⟩:=ok.filt h1
  rw[H]at y
  cases y
  exact Ju7 A _ (Kcz _ _ _) (Ob2 (Jyw _ _ _) A.many)
 rw[if_neg h1]
 by_cases D:n.op=4
 ·rw[if_pos D]
  obtain⟨bl,ky,y,K,_,M,O,bk,_⟩:=ok.grp D
  rw[H]at y
  cases y
  rw[K]
  exact Kqf A (by have:=(Ob9.1 bk).1;omega) M O
 rw[if_neg D]
 obtain⟨bl,y,K,bj,M,O⟩:=ok.proj (by omega)
 rw[H]at y
 cases y
 rw[K]
 exact Jxl A bj M O bb
theorem Jqw {tys:ByteArray→List Int}{X:List (List Int)}{ns:List PN}(h:Jdk tys X ns){tab:ByteArray→Cs⊕Nat}(U:∀ n∈ns,n.op=0→∀ cs,tab n.tn=.inl cs→Zt (tys n.tn) cs):∀ j,j≤ns.length→(∀ (k:Nat) (n:PN),k<j→ns[k]?=some n→Jlw tab n (stN tab ns k))→Khz tys X tab ns j
 |0,_,_=>⟨fun l cs A=>by simp[stN]at A,fun l A=>absurd A (Oe0 _)⟩
 |j+1,bf,hf=>by
  have hn:ns[j]?=some ns[j]:=Oa3 (by omega)
  have H:=Jqw h U j (by omega) fun k n bh y=>hf k n (by omega) y
  have ba:=hf j _ (by omega) hn
  have M:=Jhh tab ns j (by omega)
  have D:(if ns[j].op=0 then stN tab ns j else (stN tab ns j).set ns[j].l none).length=j:=by split<;>simp[M]
  have R:=Jma (tab:=tab) hn
  have bc:∀ l x,l<j→(Jb3 tab ns[j] (stN tab ns j))[l]?=some (some x)→(stN tab ns j)[l]?=some (some x):=fun l x A y=>by
   unfold Jb3 at y
   rw[Ob0 (by rw[D];exact A)]at y
   split at y
   ·exact y
   rw[Op2]at y
   split at y
   ·split at y<;>cases y
   exact y
  have O:(Jb3 tab ns[j] (stN tab ns j))[j]?=some (some (Jkq tab ns[j] (stN tab ns j))):=by
   unfold Jb3
   rw[Ob6 (by rw[D];exact Oa2 _),D,Oe1]
   rfl
  refine⟨fun l cs y=>?_,fun l A E=>?_⟩
  ·rw[R]at y
   have bi:l<j+1:=by
    have:=(Ob9.1 y).1
    rw[Jix,M]at this
    exact this
   by_cases e:l=j
   ·subst e
    rw[O]at y
    cases y
    exact Kcs h U hn H ba
   exact H.good l cs (bc l cs (by omega) y)
  rw[R]
  by_cases e:l=j
  ·subst e
   exact⟨_,O⟩
  rw[Jtp hn,Bool.or_eq_false_iff]at E
  obtain⟨cs,K⟩:=H.there l (by omega) E.1
  refine⟨cs,?_⟩
  unfold Jb3
  rw[Ob0 (by rw[D];omega)]
  split
  ·exact K
  rename_i h0
  have bb:ns[j].l≠l:=by
   have:=E.2
   unfold Jg7 at this
   rw[if_neg h0]at this
   intro Z
   rw[Z]at this
   simp at this
  rw[Op2,if_neg bb]
  exact K
end Go.Proofs.YtdlgbphkaicfaaaGreatDoor
