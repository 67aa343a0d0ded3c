/- The document's tables against the program's, plainly: a Load, a Drop, a Spoil, a Scan. -/
import Derived.Test.YtcaocabmioafcaaGreatDoorQa
import Derived.Test.YtcaocabmioafcaaGreatDoorWg
namespace Go.Proofs.YtcaocabmioafcaaGreatDoor
open Go.RowKit
def Ksu (D:DS)(i:Nat):Bool:=((pg D i).bind Jd2).isNone
theorem Kug (D C:DS):∀ l:List Nat,(∀ i∈l,Ksu D i=false→pg D i=pg C i)→Uf D l=match l.find? (Ksu D)with|some p=>.inr p|none=>Uf C l
 |[],_=>rfl
 |i::l,h=>by
  have L:=Kug D C l fun j K=>h j (by simp[K])
  rw[List.find?_cons]
  by_cases H:Ksu D i=true
  ·rw[H]
   have e:(D.pages.getD i none).bind Jd2=none:=by
    unfold Ksu pg at H
    simpa using H
   simp only[Uf,e]
  have A:Ksu D i=false:=by simpa using H
  have I:=h i (by simp) A
  rw[A]
  simp only[Uf,L]
  have J:D.pages.getD i none=C.pages.getD i none:=I
  rw[J]
  cases hc:(C.pages.getD i none).bind Jd2 with
  |none=>
   unfold Ksu at A
   rw[I]at A
   rw[show (pg C i).bind Jd2=none from hc]at A
   simp at A
  |some t=>cases l.find? (Ksu D)<;>rfl
theorem Kx7 (D C:DS)(l:List Nat)(typ:Int)(n:Nat)(h:∀ i∈l,Ksu D i=false→pg D i=pg C i):Us D l typ n=match l.find? (Ksu D)with|some p=>.inr p|none=>Us C l typ n:=by
 unfold Us
 rw[Kug D C l h]
 cases l.find? (Ksu D)<;>rfl
theorem Kvv (D C:DS)(A:List (List Nat))(ts:List Int)(x:Nat×Nat)(H:List (List V))(h:∀ l∈A,∀ i∈l,Ksu D i=false→pg D i=pg C i) :
  ∀ k,k≤A.length→(∃ I,Jil C A ts x H k=.inl I)→Jil D A ts x H k=match (A.take k).flatten.find? (Ksu D)with|some p=>.inr p|none=>Jil C A ts x H k
 |0,_,_=>by simp[Jil]
 |k+1,hk,⟨I,J⟩=>by
  cases hc:Jil C A ts x H k with
  |inr j=>rw[Kho C A ts x H j k (k+1) hc (by omega)]at J;cases J
  |inl K=>
   have M:=Kvv D C A ts x H h k (by omega) ⟨K,hc⟩
   have L:A.getD k []=A[k]:=by simp[show k<A.length from hk]
   rw[Oc4 (show k<A.length from hk),List.flatten_append,List.find?_append]
   simp only[List.flatten_cons,List.flatten_nil,Od7]
   simp only[Jil,M,hc,L]
   cases hf:(A.take k).flatten.find? (Ksu D)with
   |some p=>simp
   |none=>
    simp only[Option.none_or]
    rw[Kx7 D C A[k] _ _ fun i hi=>h _ (Ob3 hk) i hi]
    cases A[k].find? (Ksu D)<;>rfl
theorem Kvw (D C:DS)(ts:List Int)(A:List (List Nat))(H:List (List V))(len g:Nat)(h:∀ l∈A,∀ i∈l,Ksu D i=false→pg D i=pg C i) :
  ∀ k,k*ts.length≤A.length→(∃ J,(Jkh C ts A H (cks len g k)).1=.inl J)→(Jkh D ts A H (cks len g k)).1=match (A.take (k*ts.length)).flatten.find? (Ksu D)with|some p=>.inr p|none=>(Jkh C ts A H (cks len g k)).1
 |0,_,_=>by simp[Jkh,cks]
 |k+1,hk,⟨J,I⟩=>by
  rw[Of5]at hk
  rw[Jbj,Jm6]at I ⊢
  rw[Jm6]
  have L:=Jme C ts A H (cks len g k)
  have M:=Jme D ts A H (cks len g k)
  rw[Jbp]at L M
  simp only[Jox,L,M]at I ⊢
  cases hc:(Jkh C ts A H (cks len g k)).1 with
  |inr j=>rw[hc]at I;cases I
  |inl K=>
   rw[hc]at I
   simp only at I
   have N:=Kvw D C ts A H len g h k (by omega) ⟨K,hc⟩
   rw[hc]at N
   rw[N,Of5,List.take_add,List.flatten_append,List.find?_append]
   cases hf:(A.take (k*ts.length)).flatten.find? (Ksu D)with
   |some p=>simp
   |none=>
    simp only[Option.none_or]
    exact Kvv D C _ ts _ K (fun l O=>h l (Oh7 O)) ts.length (by rw[Of7];omega) ⟨J,I⟩
theorem Qbr {D C:DS}{T:TS}{rs:List (List V)}(A:Jer C T rs)(h:∀ i∈T.segs.flatten,Ksu D i=false→pg D i=pg C i) :
  (Jgp D T=match T.segs.flatten.find? (Ksu D)with|some p=>.inr p|none=>.inl rs)∧Jid D T:=by
 have I:∀ l∈T.segs,∀ i∈l,Ksu D i=false→pg D i=pg C i:=fun l I i hi=>h i (List.mem_flatten.2 ⟨l,I,hi⟩)
 have J:=A.read
 refine⟨?_,⟨A.cols,A.rows,A.group,A.count,A.ok.segs,fun l K t H=>?_⟩⟩
 ·unfold Jgp at J ⊢
  have:=Kvw D C T.types T.segs (List.replicate T.rows (List.replicate T.types.length Jf)) T.rows T.group I (ckN T.rows T.group) (by rw[A.count];exact Oa2 _) ⟨rs,J⟩
  rw[←A.count,Of2,J]at this
  exact this
 rw[Kug D C l (I l K)]at H
 cases hf:l.find? (Ksu D)with
 |some p=>rw[hf]at H;cases H
 |none=>
  rw[hf]at H
  exact A.ok.full l K t H
def Kry (l:List Nat):Nat:=l.countP fun n=>decide (n≠0)
theorem Ktu:∀ l:List Nat,Kry l=0→l=List.replicate l.length 0
 |[],_=>rfl
 |n::l,h=>by
  unfold Kry at h
  rw[On3]at h
  have A:=Ktu l (by unfold Kry;omega)
  have H:n=0:=by
   by_cases e:n=0
   ·exact e
   simp[e]at h
  rw[List.length_cons,List.replicate_succ,←A,H]
theorem Kva:∀ l:List Nat,Kry l=1→∃ j n,j<l.length∧n≠0∧n∈l∧l=(List.replicate l.length 0).set j n
 |[],h=>by simp[Kry]at h
 |n::l,h=>by
  unfold Kry at h
  rw[On3]at h
  by_cases e:n=0
  ·obtain⟨j,m,K,I,J,H⟩:=Kva l (by unfold Kry;simpa [e] using h)
   refine⟨j+1,m,by simp;omega,I,by simp[J],?_⟩
   rw[List.length_cons,List.replicate_succ,List.set_cons_succ,←H,e]
  have A:=Ktu l (by unfold Kry;simp[e]at h ⊢;exact h)
  refine⟨0,n,by simp,e,by simp,?_⟩
  rw[List.length_cons,List.replicate_succ,List.set_cons_zero,←A]
theorem Kz7 {p:List UInt8}(H:p.length=64){j n:Nat}(A:j<64):Kvg p (Kr4.set j n)=Ksf p j n:=by
 have h:=Kve (p:=p) (l:=Kr4) (i:=j) (n:=n) (by rw[Kgd.1];exact A)
 rw[Kt8 H]at h
 rw[h]
 congr 2
 unfold Kr4
 rw[Oa0,Of3,if_pos A]
 simp
structure RTb where
 name:ByteArray
 types:List Int
 rows:List (List V)
 pages:List Nat
def Kzp (x:TS×List (List V)):RTb:=⟨x.1.name,x.1.types,x.2,x.1.segs.flatten⟩
abbrev nmT (A:RTb):ByteArray×List Int:=(A.name,A.types)
structure Ksb (D:DS) (Ts:List TS) (P:List RP) (Rs:List RTb):Prop where
 ex:∃ C L,Sim D C P∧Jbc C L∧Ts=L.map (·.1)∧Rs=L.map Kzp∧∀ x∈L,x.2.length≤200∧(∀ r∈x.2,1≤r.length∧r.length≤6)∧x.1.segs.flatten.length≤132000
 few:Ts.length≤6
 small:P.length≤792000
theorem Ksb.start (q f:Int):Ksb (Ku q f) [] [] []:=
 ⟨⟨Ku q f,[],⟨rfl,rfl,rfl,rfl,rfl,fun i x h=>by simp at h⟩,Jbc.empty q f,rfl,rfl,by simp⟩,by simp,by simp⟩
theorem Ksb.names {D:DS}{A:List TS}{P:List RP}{Rs:List RTb}(h:Ksb D A P Rs):Rs.map nmT=A.map fun T=>(T.name,T.types):=by
 obtain⟨C,H,_,_,rfl,rfl,_⟩:=h.ex
 rw[Oi6,Oi6]
 rfl
theorem Ksb.len {D:DS}{A:List TS}{P:List RP}{Rs:List RTb}(h:Ksb D A P Rs):Rs.length=A.length:=by
 have:=congrArg List.length h.names
 simpa using this
theorem Ksb.pages {D:DS}{L:List TS}{P:List RP}{Rs:List RTb}(h:Ksb D L P Rs):∀ A∈Rs,A.rows.length≤200∧(∀ r∈A.rows,1≤r.length∧r.length≤6)∧A.pages.length≤132000∧∀ i∈A.pages,i<P.length∧∃ x,P[i]?=some x∧x.1=true:=by
 obtain⟨C,ba,hs,N,rfl,rfl,U⟩:=h.ex
 intro A M
 obtain⟨x,K,rfl⟩:=Of0.1 M
 obtain⟨X,Y,Z⟩:=U x K
 refine⟨X,Y,Z,fun i hi=>?_⟩
 obtain⟨p,R⟩:=(N.tab x K).inuse i hi
 have J:=Qck R
 have O:i<C.pages.length:=(Ob9.1 J).1
 have H:i<P.length:=by rw[←hs.len.2];exact O
 refine⟨H,P[i],Oa3 H,?_⟩
 have I:=congrArg (fun l=>l[i]?) hs.patC
 simp only[Ob1,J,Oa3 H,Option.map_some,Option.isSome_some,Oc9]at I
 exact I.symm
structure LdQ where
 fault:Value
 k:Int
 P:List RP
 Rs:List RTb
def Kth (q f k:Int)(P:List RP)(Rs:List RTb)(name:ByteArray)(ts hs:List Int)(rs:List (List V))(g:Int):LdQ:=
 match Kti (Rs.map nmT) name ts hs rs g with
 |.inl _=>⟨Jbz 1 (-1) (-1),k,P,Rs⟩
 |.inr (.inl _)=>⟨Jbz 4 (-1) (-1),k,P,Rs⟩
 |.inr (.inr (.inl c))=>⟨Jbz 2 (c:Int) (-1),k,P,Rs⟩
 |.inr (.inr (.inr T))=>match (Kr0 q f (Jch T) k P).2.2 with
  |none=>⟨Jbz 0 (-1) (-1),(Kr0 q f (Jch T) k P).1.1,(Kr0 q f (Jch T) k P).1.2,Rs++[⟨name,ts,rs,(Kr0 q f (Jch T) k P).2.1⟩]⟩
  |some x=>⟨Jbz (if x then 5 else 6) (-1) (-1),(Kr0 q f (Jch T) k P).1.1,Kr5 (Kr0 q f (Jch T) k P).1.2 (Kr0 q f (Jch T) k P).2.1,Rs⟩
theorem Kxm (P:List RP):Kr6 (Kr2 P)=Kr6 P+1:=by
 unfold Kr2 Kr6
 split
 ·rename_i h
  obtain⟨x,A,H⟩:=Kxv P h
  obtain⟨J,A⟩:=Ob9.1 A
  rw[List.countP_set J]
  have I:(P[frP P]).1=false:=by rw[A];exact H
  simp[I]
 simp[List.countP_append]
theorem Qad (P:List RP):Kr6 P≤P.length:=List.countP_le_length
theorem Kx5 (P:List RP)(h:¬ frP P<P.length):Kr6 P=P.length:=by
 have H:frP P=P.length:=Nat.le_antisymm (Kuy P) (by omega)
 unfold Kr6
 rw[List.countP_eq_length]
 intro x A
 obtain⟨i,hi,rfl⟩:=Od5 A
 exact Kxx P i _ (by omega) (Oa3 hi)
theorem Kxi (q f:Int):∀ (n:Nat) (k:Int) (P:List RP) (m:Nat),P.length≤m→Kr6 P+n≤m→(Kr0 q f n k P).1.2.length≤m
 |0,k,P,m,h,_=>h
 |n+1,k,P,m,h,H=>by
  simp only[Kr0]
  split
  ·exact h
  split
  ·exact h
  refine Kxi q f n _ _ m ?_ (by rw[Kxm];omega)
  rw[Kvc]
  split
  ·exact h
  rename_i A
  have:=Kx5 P A
  omega
theorem Kup (A:List (List Nat)):∀ D:DS,Jcg D A=Jf4 D A.flatten:=by
 induction A with
 |nil=>intro D;rfl
 |cons l A H=>
  intro D
  rw[List.flatten_cons,←Kts]
  exact H _
theorem Ksb.load {D:DS}{A:List TS}{P:List RP}{Rs:List RTb}(h:Ksb D A P Rs){name:ByteArray}{ts hs:List Int}{rs:List (List V)}{g:Int}(bR:∀ r∈rs,∀ v∈r,Jg v.n)(hw:D.writes≤100000000000000000) :
  (Jbd D A name ts hs rs g).fault=(Kth D.quota D.fail D.writes P Rs name ts hs rs g).fault∧((Jbd D A name ts hs rs g).d D).writes=(Kth D.quota D.fail D.writes P Rs name ts hs rs g).k∧((Jbd D A name ts hs rs g).d D).quota=D.quota∧((Jbd D A name ts hs rs g).d D).fail=D.fail ∧
   Ksb ((Jbd D A name ts hs rs g).d D) ((Jbd D A name ts hs rs g).ts A) (Kth D.quota D.fail D.writes P Rs name ts hs rs g).P (Kth D.quota D.fail D.writes P Rs name ts hs rs g).Rs∧((Jbd D A name ts hs rs g).d D).writes≤D.writes+132000:=by
 have bT:=h.names
 have R:=h
 obtain⟨C,L,O,bf,bh,bE,U⟩:=h.ex
 have bA:C.writes≤100000000000000000:=by rw[O.k];exact hw
 have bD:=O.q
 have bB:=O.f
 have bC:=O.k
 unfold Kth Kti
 rw[bT,Kwb,Oa6]
 unfold Jbd
 split
 ·rename_i N
  split
  ·exact⟨rfl,rfl,rfl,rfl,R,by show D.writes≤_;omega⟩
  rename_i bI
  rcases hX:Jfg rs ts hs (cks rs.length g.toNat (ckN rs.length g.toNat))with X|c
  ·simp only
   obtain⟨cn,cu,cv,cx⟩:=Jtr N hX
   have bW:rs.length≤200:=N.1.2.2.1
   have bY:Jch X≤132000:=by omega
   obtain⟨bb,bJ,bK,ca,cb⟩:=Ku3 X D C P O
   have bH:(Kr0 D.quota D.fail (Jch X) D.writes P).1.2.length≤792000:=by
    refine Kxi _ _ _ _ _ _ R.small ?_
    have bZ:=O.used.2
    rw[bf.used]at bZ
    have bX:∀ M:List (TS×List (List V)),(∀ x∈M,x.1.segs.flatten.length≤132000)→(M.flatMap fun x=>x.1.segs.flatten).length≤132000*M.length:=by
     intro M
     induction M with
     |nil=>intro _;simp
     |cons y M bn=>
      intro I
      rw[Og7,Oa8,List.length_cons]
      have bc:=bn fun x U=>I x (by simp[U])
      have Y:=I y (by simp)
      omega
    have bc:=bX L fun x bl=>(U x bl).2.2
    have Y:L.length=A.length:=by rw[bh];simp
    have cj:A.length≤5:=by omega
    have ck:132000*L.length≤132000*5:=Nat.mul_le_mul_left _ (by omega)
    omega
   cases I:(Jq D X).2.2 with
   |none=>
    rw[I]at bb
    rw[←bb]
    simp only
    obtain⟨k1,J⟩:=ca I
    have bk:Jbd C A name ts hs rs g=.ok (Jq C X).1 ⟨name,ts,rs.length,g.toNat,(Jq D X).2.1⟩:=by
     unfold Jbd
     rw[if_pos N,if_neg bI,hX]
     simp only
     rw[bJ,I]
    obtain⟨br,bu,bL,cc,bM,bN,cf,ci,cA,cy,cz⟩:=Kge bf bR bA bk
    have bQ:(Jq D X).1.writes=(Jq C X).1.writes:=J.k.symm
    have bP:(Jq D X).1.quota=D.quota:=by rw[←J.q,bM,bD]
    have bO:(Jq D X).1.fail=D.fail:=by rw[←J.f,bN,bB]
    have bU:(Kr0 D.quota D.fail (Jch X) D.writes P).2.1.length≤132000:=by
     rw[←k1]
     have cl:=bL
     have bj:=Jjv X D I
     have bc:=bj.used
     have Y:∀ (K:List (List Nat)) (H:List (List UInt8)),K.length=H.length→(∀ (i:Nat) (hi:i<K.length) (bi:i<H.length),K[i].length=(Qu H[i]).length)→K.flatten.length=Jch H:=by
      intro K
      induction K with
      |nil=>intro H Z _;cases H with
       |nil=>rfl
       |cons _ _=>simp at Z
      |cons l K bn=>
       intro H Z bG
       cases H with
       |nil=>simp at Z
       |cons t H=>
        rw[List.flatten_cons,Oa8,Ja1,bn H (by simpa using Z) fun i hi bi=>by have:=bG (i+1) (by simpa using hi) (by simpa using bi);simpa using this]
        have:=bG 0 (by simp) (by simp)
        simp at this
        omega
     rw[Y _ X bj.len fun i hi bi=>(bj.segs i hi).1]
     exact bY
    refine⟨rfl,bK,bP,bO,⟨⟨(Jq C X).1,L++[(⟨name,ts,rs.length,g.toNat,(Jq D X).2.1⟩,rs)],J,br,?_,?_,fun x bl=>?_⟩,?_,bH⟩,?_⟩
    ·rw[bh,Ob8]
     rfl
    ·rw[bE,Ob8]
     show _=L.map Kzp++[Kzp _]
     unfold Kzp
     rw[k1]
    ·rcases Od2.1 bl with ba|ba
     ·exact U x ba
     rw[Oc6]at ba
     subst ba
     refine⟨bW,fun r bV=>?_,by rw[k1];exact bU⟩
     obtain⟨i,hi,rfl⟩:=Od5 (show r∈rs from bV)
     have bc:=(N.1.2.2.2 i hi).1
     have Y:=N.1.2.1.1
     omega
    ·show (A++[_]).length≤6
     rw[Oa8]
     simp only[List.length_cons,List.length_nil]
     omega
    show (Jq D X).1.writes≤D.writes+132000
    rw[bQ,←bC]
    omega
   |some x=>
    rw[I]at bb
    rw[←bb]
    simp only
    have J:=cb x I []
    have bz:∀ bx:DS,Jf4 bx []=bx:=fun _=>rfl
    rw[bz,bz,List.nil_append]at J
    have bk:Jbd C A name ts hs rs g=.disk x (Jcg (Jq C X).1 (Jq D X).2.1):=by
     unfold Jbd
     rw[if_pos N,if_neg bI,hX]
     simp only
     rw[bJ,I]
    obtain⟨br,bu,bL,cc,bM,bN,cf,ci⟩:=Jz8 bf bA bk
    have bS:=Jdn (Jq D X).2.1 (Jq D X).1
    refine⟨rfl,bS.2.2.trans bK,?_,?_,⟨⟨_,L,J,br,bh,bE,U⟩,R.few,by rw[Ktx];exact bH⟩,?_⟩
    ·show (Jcg (Jq D X).1 (Jq D X).2.1).quota=_
     rw[←J.q,bu.quota,bD]
    ·show (Jcg (Jq D X).1 (Jq D X).2.1).fail=_
     rw[←J.f,bu.fail,bB]
    show (Jcg (Jq D X).1 (Jq D X).2.1).writes≤_
    rw[←J.k,←bC]
    omega
  exact⟨rfl,rfl,rfl,rfl,R,by show D.writes≤_;omega⟩
 exact⟨rfl,rfl,rfl,rfl,R,by show D.writes≤_;omega⟩
end Go.Proofs.YtcaocabmioafcaaGreatDoor
