/- Plans as they are meant: what their nodes tell, plainly. -/
import Derived.Test.YtkdojacdolidfaaGreatDoorZa
import Derived.Test.YtkdojacdolidfaaGreatDoorJq
namespace Go.Proofs.YtkdojacdolidfaaGreatDoor
open Go.RowKit Go.Shelf
abbrev Cs:=List (List V)
def nR (cs:Cs):Nat:=(cs.getD 0 []).length
structure Zt (sch:List Int) (cs:Cs):Prop where
 len:cs.length=sch.length
 one:1<=cs.length
 few:cs.length<=1000
 rows:∀ j,j<cs.length->(cs.getD j []).length=nR cs
 many:nR cs<=100000
 ty:∀ i,i<nR cs->Jee sch (Ji cs i)
def Jbs (n:PN)(st:List (Option Cs)):Cs:=(st.getD n.l none).getD []
def csR (n:PN)(st:List (Option Cs)):Cs:=(st.getD n.r none).getD []
def jnN (n:PN)(st:List (Option Cs)):List Int:=jnL n.kk.toNat n.gk (Jbs n st) (csR n st) (nR (Jbs n st)) (nR (csR n st))
def Jba (ks:List Nat)(cs:Cs):Cs:=cs.map (Yq (ks.map fun (i:Nat)=>(i:Int)))
def Jcb (es:List (List Pt))(cs:Cs):Cs:=es.map fun e=>(List.range (nR cs)).map fun i=>pv1 e (Ji cs i)
def Kk9 (gk:List Krv)(cs:Cs):List (List V):=Klt [] (mkL gk cs) (List.range (nR cs))
def Klk (gk:List Krv)(cs:Cs):List V->List Tly:=tfB gk cs (List.range (nR cs))
def Kln (gk:List Krv)(cs:Cs):Cs:=tcI gk (Kk9 gk cs) (Klk gk cs) (Kk9 gk cs).length 0
def Krd (gk:List Krv)(cs:Cs):Prop:=Klz gk (Kk9 gk cs) (Klk gk cs) (Kk9 gk cs).length 0
def Kr7 (ks:List Krv)(cs:Cs)(i j:Nat):Int:=Ks5 ks (Kry cs i) (Kry cs j)
def Jkq (tab:ByteArray->Cs⊕Nat)(n:PN)(st:List (Option Cs)):Cs:=
 if n.op=0 then (tab n.tn).elim id fun _=>[]else if n.op=1 then Jba (Yf (n.es.getD 0 []) (Jbs n st) (nR (Jbs n st))) (Jbs n st)else if n.op=4 then Kln n.gk (Jbs n st)else if n.op=3 then Qc8 n.kk.toNat n.gk (Jbs n st) (csR n st) (nR (Jbs n st)) (nR (csR n st))else if n.op=5 then Jba (Ksi (Kr7 n.gk (Jbs n st)) (List.range (nR (Jbs n st)))) (Jbs n st)else if n.op=6 then Jba (List.range (min n.kk.toNat (nR (Jbs n st)))) (Jbs n st)else Jcb n.es (Jbs n st)
def Jb3 (tab:ByteArray->Cs⊕Nat)(n:PN)(st:List (Option Cs)):List (Option Cs):=(if n.op=0 then st else if n.op=3\/n.op=7 then (st.set n.l none).set n.r none else st.set n.l none)++[some (Jkq tab n st)]
def stN (tab:ByteArray->Cs⊕Nat)(ns:List PN)(j:Nat):List (Option Cs):=(ns.take j).foldl (fun s n=>Jb3 tab n s) []
theorem Jma {tab:ByteArray->Cs⊕Nat}{ns j n}(h:ns[j]?=some n):stN tab ns (j+1)=Jb3 tab n (stN tab ns j):=by
 unfold stN;rw[Oi7,h,Ol1];rfl
def Jlw (tab:ByteArray->Cs⊕Nat)(n:PN)(st:List (Option Cs)):Prop:=(n.op=0->∃ cs,tab n.tn=.inl cs)/\(n.op≠0->∀ i,i<nR (Jbs n st)->∀ e∈n.es,∃ v,Kl e (Ji (Jbs n st) i)=.inl v)/\(n.op=4->Krd n.gk (Jbs n st))/\(n.op=3->(jnN n st).length<=2000)
theorem Jix (tab:ByteArray->Cs⊕Nat)n(st:List (Option Cs)):(Jb3 tab n st).length=st.length+1:=by
 unfold Jb3;rw[Oa8];split
 ·rfl
 split<;>simp
theorem Jhh (tab:ByteArray->Cs⊕Nat)ns:∀ j,j<=ns.length->(stN tab ns j).length=j
 |0,_=>by simp[stN]
 |j+1,h=>by
  rw[Jma (Oa3 (by omega:j<ns.length)),Jix,Jhh tab ns j zo]
theorem Kee {sch es x}(H:Uj sch es)(I:Jee sch x):∀ j d,j<=es.length->Yy (es.take j) x []=.inl d->d.length=j/\Jho (es.map (tyP sch)) d
 |0,d,_,h=>by
  rw[List.take_zero]at h;simp only[Yy]at h;cases h
  exact⟨rfl,fun k O=>absurd O (Oe0 _),fun v hv=>by cases hv⟩
 |j+1,d,U,h=>by
  have hp:es[j]?=some es[j]:=Oa3 zo;cases hr:Yy (es.take j) x []with
  |inr c=>
   have:=Oi7 (l:=es) (i:=j);rw[this,Jdz,hr]at h;cases h
  |inl K=>
   obtain⟨y,M⟩:=Kee H I j K zo hr;rw[Jmx hp hr]at h;split at h
   ·rename_i h0
    cases h
    refine⟨by simp[y],?_⟩;refine Jyb rfl (by rw[y];exact hp) ?_ I M h0;rw[y];exact H j _ hp
   cases h
theorem Jp2 {sch es x v}(H:Uj sch es)(I:Jee sch x)(K:1<=es.length)(h:Kl es x=.inl v):okV (Jbk sch es) v/\Jg v.n:=by
 unfold Kl at h;cases hr:Yy es x []with
 |inr c=>rw[hr]at h;cases h
 |inl d=>
  rw[hr]at h;cases h
  obtain⟨q1,q2⟩:=Kee H I es.length d (Oa2 _) (by rw[Of2];exact hr);have y:d≠[]:=by intro e;rw[e]at q1;simp at q1;omega
  have hl:d.getLastD Jf=d.getD (es.length-1) Jf:=by
   rw[Ok7,Om6,Oa0,q1]
  constructor
  ·rw[hl];unfold Jbk;exact q2.1 (es.length-1) zo
  have:d.getLastD Jf∈d:=by
   rw[Ok7,List.getLast?_eq_some_getLast y];exact List.getLast_mem y
  exact q2.2 _ this
theorem Jot ks cs i(hi:i<ks.length):Ji (Jba ks cs) i=Ji cs ks[i]:=by
 unfold Ji Jba Yq;rw[Oi6];refine Oj9 fun c _=>?_;simp only[Function.comp_apply];rw[Oa0,Ob1,Ob1,Oa3 hi];simp only[Option.map_some,Option.getD_some,Int.toNat_natCast];rw[if_neg zo]
theorem Jr8 ks cs(h:1<=cs.length):nR (Jba ks cs)=ks.length:=by
 unfold nR Jba;rw[Oa0,Ob1,Oa3 (by omega:0<cs.length)];simp[Yq]
theorem Ju7 {sch cs}(h:Zt sch cs)ks(I:∀ k∈ks,k<nR cs)(hl:ks.length<=100000):Zt sch (Jba ks cs):=by
 have H:=Jr8 ks cs h.one;refine⟨by unfold Jba;rw[Oa6];exact h.len,by unfold Jba;rw[Oa6];exact h.one,by unfold Jba;rw[Oa6];exact h.few,fun j y=>?_,zo,fun i hi=>?_⟩
 ·rw[H];unfold Jba at y |-;rw[Oa6]at y;rw[Oa0,Ob1,Oa3 y];simp[Yq]
 rw[H]at hi;rw[Jot ks cs i hi];exact h.ty _ (I _ (Ob3 hi))
theorem Jjj es cs i(hi:i<nR cs):Ji (Jcb es cs) i=es.map fun e=>pv1 e (Ji cs i):=by
 unfold Jcb;conv=>lhs;unfold Ji
 rw[Oi6];refine Oj9 fun e _=>?_;simp only[Function.comp_apply];rw[Oa0,Ob1,Oh6 hi];rfl
theorem Jm1 es cs(h:1<=es.length):nR (Jcb es cs)=nR cs:=by
 conv=>lhs;unfold nR Jcb
 rw[Oa0,Ob1,Oa3 (by omega:0<es.length)];simp
theorem Jxl {sc cs}(h:Zt sc cs){es}(Z:1<=es.length)(bf:es.length<=6)(y:∀ e∈es,Uj sc e/\1<=e.length/\e.length<=12)(O:∀ i,i<nR cs->∀ e∈es,∃ v,Kl e (Ji cs i)=.inl v):Zt (es.map (Jbk sc)) (Jcb es cs):=by
 have M:=Jm1 es cs Z;have hlen:(Jcb es cs).length=es.length:=by unfold Jcb;rw[Oa6]
 refine⟨by rw[hlen,Oa6],zo,zo,fun j U=>?_,by rw[M];exact h.many,fun i hi=>?_⟩
 ·rw[M];rw[hlen]at U;unfold Jcb;rw[Oa0,Ob1,Oa3 U];simp
 rw[M]at hi;rw[Jjj es cs i hi];refine⟨zS,fun k I=>?_,fun v hv=>?_⟩
 ·rw[Oa6]at I;have K:=Ob3 I;obtain⟨v,hv⟩:=O i hi _ K;rw[Oa0,Ob1,Oa0,Ob1,Oa3 I];simp only[Option.map_some,Option.getD_some];rw[Jgd hv];exact(Jp2 (y _ K).1 (h.ty i hi) (y _ K).2.1 hv).1
 obtain⟨e,H,rfl⟩:=Of0.1 hv;obtain⟨u,Y⟩:=O i hi e H;rw[Jgd Y];exact(Jp2 (y _ H).1 (h.ty i hi) (y _ H).2.1 Y).2
section
variable {sc:List Int} {cs:Cs} {gk:List Krv}
end
structure Khz (tys:ByteArray->List Int) (scs:List (List Int)) (tab:ByteArray->Cs⊕Nat) (ns:List PN) (j:Nat):Prop where
 good:∀ (l:Nat) (cs:Cs),(stN tab ns j)[l]?=some (some cs)->∃ sch,scs[l]?=some sch/\Zt sch cs
 there:∀ (l:Nat),l<j->flN ns j l=false->∃ cs,(stN tab ns j)[l]?=some (some cs)
theorem Kw7 {tys H ns}(h:Jdk tys H ns){tab:ByteArray->Cs⊕Nat}{j n}(O:ns[j]?=some n)(I:Khz tys H tab ns j){i}(hi:i∈Jg7 n):∃ cs sc,(stN tab ns j)[i]?=some (some cs)/\((stN tab ns j).getD i none).getD []=cs/\H[i]?=some sc/\Zt sc cs:=by
 obtain⟨U,K⟩:=h.ahead j n O i hi;obtain⟨cs,y⟩:=I.there i U K;obtain⟨sc,Y,M⟩:=I.good i cs y;exact⟨cs,sc,y,by rw[Oa0,y];rfl,Y,M⟩
def Ktf (op:Nat):Prop:=∀ {tys:ByteArray->List Int} {y:List (List Int)} {ns:List PN} {tab:ByteArray->Cs⊕Nat} {j:Nat} {n:PN} {sch:List Int},Jdk tys y ns->ns[j]?=some n->n.op=op->Kik tys y n sch->Khz tys y tab ns j->Jlw tab n (stN tab ns j)->Zt sch (Jkq tab n (stN tab ns j))
theorem Kuq:Ktf 2:=fun {tys bk ns tab j n sch} h U I ok K M=>by
 obtain⟨cs,sc,bi,y,Y,O⟩:=Kw7 h U K (i:=n.l) (by unfold Jg7;rw[if_neg zo,if_neg zo];simp);have y:Jbs n (stN tab ns j)=cs:=y;have H:=M.2.1 zo;rw[y]at H;unfold Jkq;rw[if_neg zo,if_neg zo,if_neg zo,if_neg zo,if_neg zo,if_neg zo,y];obtain⟨bj,q1,q2,Z,bf,bh⟩:=ok.proj I;rw[Y]at q1;cases q1
 rw[q2];exact Jxl O Z bf bh H
theorem Kz3:Ktf 5:=fun {tys bf ns tab j n sch} h M H ok K Z=>by
 obtain⟨cs,sc,Y,y,U,I⟩:=Kw7 h M K (i:=n.l) (by unfold Jg7;rw[if_neg zo,if_neg zo];simp);have y:Jbs n (stN tab ns j)=cs:=y;unfold Jkq;rw[if_neg zo,if_neg zo,if_neg zo,if_neg zo,if_pos H,y];obtain⟨q1,_⟩:=ok.sort H;rw[U]at q1;cases q1
 exact Ju7 I _ (fun k O=>Oj4.1 ((Ksb _ _).mem_iff.1 O)) (by rw[(Ksb _ _).length_eq,Op1];exact I.many)
theorem Kyt:Ktf 6:=fun {tys bh ns tab j n sch} h M H ok K Z=>by
 obtain⟨cs,sc,Y,y,U,I⟩:=Kw7 h M K (i:=n.l) (by unfold Jg7;rw[if_neg zo,if_neg zo];simp);have y:Jbs n (stN tab ns j)=cs:=y;unfold Jkq;rw[if_neg zo,if_neg zo,if_neg zo,if_neg zo,if_neg zo,if_pos H,y];obtain⟨q1,_⟩:=ok.limit H;rw[U]at q1;cases q1
 have bf:=I.many;exact Ju7 I _ (fun k O=>by have:=Oj4.1 O;omega) (by rw[Op1];omega)
theorem Kcs {tys H ns}(h:Jdk tys H ns)(O:∀ n∈ns,n.op≠0->Ktf n.op){tab:ByteArray->Cs⊕Nat}(ht:∀ n∈ns,n.op=0->∀ cs,tab n.tn=.inl cs->Zt (tys n.tn) cs){j n}(y:ns[j]?=some n)(M:Khz tys H tab ns j)(K:Jlw tab n (stN tab ns j)):∃ sch,H[j]?=some sch/\Zt sch (Jkq tab n (stN tab ns j)):=by
 obtain⟨sch,hs,ok⟩:=h.ok j n y;refine⟨sch,hs,?_⟩;by_cases h0:n.op=0
 ·unfold Jkq;rw[if_pos h0];obtain⟨cs,I⟩:=K.1 h0;rw[I,ok.scan h0];exact ht n (Of6 y) h0 cs I
 exact O n (Of6 y) h0 h y rfl ok M K
theorem Jqw {tys bx ns}(h:Jdk tys bx ns)(bj:∀ n∈ns,n.op≠0->Ktf n.op){tab:ByteArray->Cs⊕Nat}(ht:∀ n∈ns,n.op=0->∀ cs,tab n.tn=.inl cs->Zt (tys n.tn) cs):∀ j,j<=ns.length->(∀ (k:Nat) (n:PN),k<j->ns[k]?=some n->Jlw tab n (stN tab ns k))->Khz tys bx tab ns j
 |0,_,_=>⟨fun l cs hl=>by simp[stN]at hl,fun l hl=>absurd hl (Oe0 _)⟩
 |j+1,bC,bi=>by
  have O:ns[j]?=some ns[j]:=Oa3 zo;have bh:=Jqw h bj ht j zo fun k n bD y=>bi k n zo y;have bA:=bi j _ zo O;have hlen:=Jhh tab ns j zo;obtain⟨I,M⟩:∃ I,I=(if ns[j].op=0 then stN tab ns j else if ns[j].op=3\/ns[j].op=7 then ((stN tab ns j).set ns[j].l none).set ns[j].r none else (stN tab ns j).set ns[j].l none):=⟨_,rfl⟩;have K:I.length=j:=by
   rw[M];split
   ·exact hlen
   split<;>simp[hlen]
  have br:stN tab ns (j+1)=I++[some (Jkq tab ns[j] (stN tab ns j))]:=by rw[Jma (tab:=tab) O,M];rfl
  have bf:∀ {s:List (Option Cs)} {i l:Nat} {x:Cs},(s.set i none)[l]?=some (some x)->s[l]?=some (some x):=fun {s i l x} y=>by
   rw[Op2]at y;split at y
   ·split at y<;>cases y
   exact y
  have bB:∀ l x,l<j->(I++[some (Jkq tab ns[j] (stN tab ns j))])[l]?=some (some x)->(stN tab ns j)[l]?=some (some x):=fun l x hl y=>by
   rw[Ob0 (by rw[K];exact hl),M]at y;split at y
   ·exact y
   split at y
   ·exact bf (bf y)
   exact bf y
  have bk:(I++[some (Jkq tab ns[j] (stN tab ns j))])[j]?=some (some (Jkq tab ns[j] (stN tab ns j))):=by
   rw[Ob6 (by rw[K];exact Oa2 _),K,Oe1];rfl
  refine⟨fun l cs y=>?_,fun l hl Z=>?_⟩
  ·rw[br]at y;have bE:l<j+1:=by
    have:=(Ob9.1 y).1;rw[Oa8,K]at this;exact this
   by_cases e:l=j
   ·subst e;rw[bk]at y;cases y
    exact Kcs h bj ht O bh bA
   exact bh.good l cs (bB l cs zo y)
  rw[br];by_cases e:l=j
  ·subst e;exact⟨_,bk⟩
  rw[Jtp O,Bool.or_eq_false_iff]at Z;obtain⟨cs,Y⟩:=bh.there l zo Z.1;refine⟨cs,?_⟩;have H:∀ i∈Jg7 ns[j],i≠l:=fun i hi bz=>by
   have:=Z.2;rw[List.contains_eq_any_beq,List.any_eq_false]at this;exact this i hi (by rw[bz];simp)
  rw[Ob0 (by rw[K];omega),M];unfold Jg7 at H;split
  ·exact Y
  rename_i h0
  rw[if_neg h0]at H;split
  ·rename_i U
   rw[if_pos U]at H;rw[Op2,if_neg (H ns[j].r zS),Op2,if_neg (H ns[j].l zS)];exact Y
  rename_i U
  rw[if_neg U]at H;rw[Op2,if_neg (H ns[j].l zS)];exact Y
