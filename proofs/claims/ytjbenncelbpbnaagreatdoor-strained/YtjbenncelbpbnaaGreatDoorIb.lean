/- The law's own words for an expression: what it is worth on a row. -/
import Derived.Test.YtjbenncelbpbnaaGreatDoorXp
import Derived.Test.YtjbenncelbpbnaaGreatDoorGf
set_option maxHeartbeats 2000000
set_option maxRecDepth 100000
namespace Go.Proofs.YtjbenncelbpbnaaGreatDoor
section
open Go.RowKit Go.Shelf
attribute [local go_sem] Oc0
attribute [local go_sem] Jdy
attribute [local go_sem] Oc0
end
section
open Go.RowKit
def Jex (rs:List (List V))(m o p k:Nat):List (List V):=rs.mapIdx fun i r=>if i<o then r else if i<o+p then r.take k++List.replicate (m-k) Jf else List.replicate m Jf
theorem Jv4 rs m p:Jex rs m 0 p 0=List.replicate rs.length (List.replicate m Jf):=by
 apply Oi8;intro i;rw[Jex,Oh8,Of3];by_cases hi:i<rs.length
 ·rw[if_pos hi,Oa3 hi];simp
 rw[if_neg hi,Ob4 zo];rfl
theorem Kac rs m o p I K(hr:∀ r∈rs,r.length=m)(h:∀ i,i<rs.length->(i<o+p↔i<I)):Jex rs m o p m=Jex rs m I K 0:=by
 apply Oi8;intro i;rw[Jex,Jex,Oh8,Oh8];by_cases hi:i<rs.length
 ·rw[Oa3 hi];simp only[Option.map_some];have hl:=hr _ (Ob3 hi);have:=h i hi;by_cases y:i<o
  ·rw[if_pos y,if_pos zo]
  rw[if_neg y];by_cases H:i<o+p
  ·rw[if_pos H,if_pos zo];simp[<-hl]
  rw[if_neg H,if_neg zo];simp
 rw[Ob4 zo];rfl
theorem Kb8 rs m o p(h:rs.length<=o):Jex rs m o p 0=rs:=by
 apply Oi8;intro i;rw[Jex,Oh8];by_cases hi:i<rs.length
 ·rw[Oa3 hi];simp only[Option.map_some];rw[if_pos zo]
 rw[Ob4 zo];rfl
theorem Kh7 L c n u(y:L.length=c)(K:c<n):(L++List.replicate (n-c) Jf).set c u=L++[u]++List.replicate (n-(c+1)) Jf:=by
 obtain⟨d,H⟩:∃ d,n-c=d+1:=⟨n-c-1,zo⟩;have I:n-(c+1)=d:=zo;rw[H,I,List.replicate_succ,Ok4 _ _ zo,y,Oe1,List.set_cons_zero];simp
theorem Kam rs m o p k(hr:∀ r∈rs,r.length=m)(hk:k<m)(ho:o+p<=rs.length):Ji6 (Jex rs m o p k) o k (Jaj (Uk rs (o,p)) k)=Jex rs m o p (k+1):=by
 have K:(Jaj (Uk rs (o,p)) k).length=p:=by simp[Jaj,Uk];omega
 apply Oi8;intro i;rw[Ji6,Oh8,Jex,Jex,Oh8,Oh8,K];by_cases hi:i<rs.length
 ·rw[Oa3 hi];simp only[Option.map_some];have hl:=hr _ (Ob3 hi);by_cases H:i<o
  ·rw[if_pos H,if_neg zo,if_pos H]
  rw[if_neg H,if_neg H];by_cases y:i<o+p
  ·rw[if_pos y,if_pos ⟨zo,y⟩,if_pos y];have hv:(Jaj (Uk rs (o,p)) k).getD (i-o) Jf=rs[i][k]:=by
    have M:(Uk rs (o,p))[i-o]?=some rs[i]:=by
     simp only[Uk];rw[Oh3 zo,Oh9,show o+(i-o)=i by omega,Oa3 hi]
    have I:(Jaj (Uk rs (o,p)) k)[i-o]?=some (rs[i].getD k Jf):=by
     simp only[Jaj,Ob1,M,Option.map_some]
    rw[Oa0,I];simp[hl,hk]
   rw[hv,Kh7 _ k m _ zt hk,Oc4 zo]
  rw[if_neg y,if_neg zo,if_neg y]
 rw[Ob4 zo];rfl
theorem Joo D rs m y ts x(hr:∀ r∈rs,r.length=m)(ho:x.1+x.2<=rs.length)(hv:∀ c,c<m->Us D (y.getD c []) (ts.getD c 0) x.2=.inl (Jaj (Uk rs x) c)):
  ∀ k,k<=m->Jil D y ts x (Jex rs m x.1 x.2 0) k=.inl (Jex rs m x.1 x.2 k)
 |0,_=>rfl
 |k+1,hk=>by
  simp only[Jil,Joo D rs m y ts x hr ho hv k zo,hv k zo];exact congrArg _ (Kam rs m x.1 x.2 k hr zo ho)
theorem Jjr len g j(M:1<=g)(y:j<ckN len g):(Jaa len g j).1+(Jaa len g j).2<=len/\1<=(Jaa len g j).2/\∀ i,i<len->(i<(Jaa len g j).1+(Jaa len g j).2↔i<(Jaa len g (j+1)).1):=by
 have I:j*g<len:=by
  unfold ckN at y;have H:(j+1)*g<=(len+g-1) / g*g:=Om8 g y;have K:=Nat.div_mul_le_self (len+g-1) g;rw[Of5]at H;omega
 simp only[Jaa];rw[Of5];exact⟨zo,zo,fun i hi=>zo⟩
theorem Jxu len g(I:1<=g):len<=(Jaa len g (ckN len g)).1:=by
 simp only[Jaa,ckN];have h:=Nat.div_add_mod (len+g-1) g;have y:=Ol0 (len+g-1) (show g>0 by omega);have H:g*((len+g-1) / g)=(len+g-1) / g*g:=Nat.mul_comm _ _;omega
theorem Joa D rs ts y g(H:1<=g)(hr:∀ r∈rs,r.length=ts.length)(hv:∀ j c,j<ckN rs.length g->c<ts.length->Us D (y.getD (j*ts.length+c) []) (ts.getD c 0) (Jaa rs.length g j).2=.inl (Jaj (Uk rs (Jaa rs.length g j)) c)):
  ∀ k,k<=ckN rs.length g->∃ p,(Jkh D ts y (List.replicate rs.length (List.replicate ts.length Jf)) (cks rs.length g k)).1=.inl (Jex rs ts.length (Jaa rs.length g k).1 p 0)
 |0,_=>⟨0,by
  show Sum.inl _=Sum.inl _;rw[<-Jv4 rs ts.length 0];simp[Jaa]⟩
 |k+1,hk=>by
  obtain⟨p,U⟩:=Joa D rs ts y g H hr hv k zo;obtain⟨I,Y,K⟩:=Jjr rs.length g k H zo;rw[Jbj,Jm6];simp only[Jox];rw[U,Jme,Jbp];have O:Jex rs ts.length (Jaa rs.length g k).1 p 0=Jex rs ts.length (Jaa rs.length g k).1 (Jaa rs.length g k).2 0:=by
   apply Oi8;intro i;rw[Jex,Jex,Oh8,Oh8];cases rs[i]? with
   |none=>rfl
   |some r=>simp
  refine⟨0,?_⟩;simp only;rw[O,Joo D rs ts.length _ ts _ hr I (fun c M=>?_) ts.length (Oa2 _)]
  ·exact congrArg _ (Kac rs ts.length _ _ _ 0 hr K)
  rw[<-hv k c zo M];congr 1
  simp[List.getD_eq_getElem?_getD,List.getElem?_drop]
theorem Jov rows ts hs:∀ (k:Nat) (l:List (List UInt8)),Jeo rows ts hs k=.inl l->∀ c,c<k->l[c]?=some (Uo rows ts hs c).1/\(Uo rows ts hs c).2=0
 |0,l,h,c,I=>by omega
 |k+1,l,h,c,I=>by
  simp only[Jeo]at h;split at h
  ·simp at h
  rename_i H y
  split at h
  ·rename_i h0
   simp at h;subst h;have hlen:=Jjc rows ts hs k H y;by_cases e:c=k
   ·subst e;rw[Ob6 zo];simp[hlen,h0]
   rw[Ob0 zo];exact Jov rows ts hs k H y c zo
  simp at h
theorem Jpd rs ts hs len g:∀ (n:Nat) (T:List (List UInt8)),Jfg rs ts hs (cks len g n)=.inl T->∀ j c,j<n->c<ts.length->T[j*ts.length+c]?=some (Uo (Uk rs (Jaa len g j)) ts hs c).1/\(Uo (Uk rs (Jaa len g j)) ts hs c).2=0
 |0,T,h,j,c,M,_=>by omega
 |n+1,T,h,j,c,M,I=>by
  rw[Jbj,Juv]at h;simp only[Jiu]at h;split at h
  ·simp at h
  rename_i y H
  split at h
  ·rename_i l hl
   simp at h;subst h;have hlen:=(Jte rs ts hs _ y H).1;rw[Jbp]at hlen;by_cases e:j=n
   ·subst e;rw[Ob6 zo,hlen,Nat.add_sub_cancel_left];exact Jov _ ts hs _ l hl c I
   have K:(j+1)*ts.length<=n*ts.length:=Om8 _ zo;rw[Of5]at K;rw[Ob0 zo];exact Jpd rs ts hs len g n y H j c zo I
  simp at h
theorem Kjs {l:List Int}{c:Nat}(h:c<l.length):l.getD c 0∈l:=by
 rw[show l.getD c 0=l[c] by simp[h]];exact Ob3 _
theorem Kkg {name ts hs rs g T}(U:Jel name ts rs)(Z:hs.length=ts.length)(hW:∀ x∈hs,Kjk x)(hp:Jfg rs ts hs (cks rs.length g (ckN rs.length g))=.inl T):∀ t∈T,Kje t:=by
 intro t ht t' bf bh bi hh;obtain⟨i,hi,rfl⟩:=Od5 ht;have H:=(Jte rs ts hs _ T hp).1;rw[Jbp]at H;have h0:0<ts.length:=U.2.1.1.1;have M:=Nat.div_add_mod i ts.length;have O:=Ol0 i h0;have hq:i / ts.length<ckN rs.length g:=(Nat.div_lt_iff_lt_mul h0).2 zo;obtain⟨y,Y⟩:=Jpd rs ts hs rs.length g _ T hp _ _ hq O;rw[Nat.mul_comm,M,Oa3 hi,Oc9]at y;have I:Jev (ts.getD (i % ts.length) 0) (hs.getD (i % ts.length) 0) (Jaj (Uk rs (Jaa rs.length g (i / ts.length))) (i % ts.length))=(T[i],0):=Prod.ext y.symm Y;obtain⟨_,_,_,_,e,K⟩:=Kja I;rw[K]at hh;simp only[Oc9,Oj3]at hh;rw[<-hh.1.2.1,e];exact hW _ (Kjs zo)
theorem Jqv E name ts hs rs g T y(Y:Jel name ts rs)(I:1<=g)(bk:∀ r∈rs,∀ v∈r,Jg v.n)(bf:∀ x∈hs,Kkn x)(bC:hs.length=ts.length)(hp:Jfg rs ts hs (cks rs.length g (ckN rs.length g))=.inl T)(hl:y.length=T.length)(hh:∀ (i:Nat) (Z:i<y.length) (bB:i<T.length),Jan E y[i] T[i]):
  Jgp E ⟨name,ts,rs.length,g,y⟩=.inl rs:=by
 have hr:∀ r∈rs,r.length=ts.length:=fun r hr=>by
  obtain⟨i,hi,rfl⟩:=Od5 hr;exact(Y.2.2.2 i hi).1
 have hv:∀ j c,j<ckN rs.length g->c<ts.length->Us E (y.getD (j*ts.length+c) []) (ts.getD c 0) (Jaa rs.length g j).2=.inl (Jaj (Uk rs (Jaa rs.length g j)) c):=by
  intro j c K H;obtain⟨bh,h0⟩:=Jpd rs ts hs rs.length g _ T hp j c K H;obtain⟨bj,bi⟩:=Ob9.1 bh;have M:j*ts.length+c<y.length:=zo;have U:=(hh _ M bj).read;rw[bi]at U;obtain⟨Z,_,_⟩:=Jjr rs.length g j I K;have bA:(Uk rs (Jaa rs.length g j)).length=(Jaa rs.length g j).2:=by simp[Uk];omega
  have bx:=Ki9 (ts.getD c 0) (hs.getD c 0) (bf _ (Kjs zo)) (Jaj (Uk rs (Jaa rs.length g j)) c) (Uo (Uk rs (Jaa rs.length g j)) ts hs c).1 (by
   unfold Uo at h0 |-;exact Prod.ext rfl h0) (fun v hv=>by
    obtain⟨r,bz,rfl⟩:=Of0.1 hv;have O:r∈rs:=Oh7 (Om9 bz);have br:=hr r O;have:r.getD c Jf=r[c]:=(by simp[br,H]);rw[this];exact bk r O _ (Ob3 _))
  unfold Us;rw[show y.getD (j*ts.length+c) []=y[j*ts.length+c] by simp[M],U];simp only[bx];have hty:Jnd (ts.getD c 0)=true:=by
   have:=Y.2.1.2 c H;simpa [H] using this
  unfold Jnd at hty;simp only[decide_eq_true_iff]at hty;rw[if_pos ⟨zo,by rw[<-bA];simp[Jaj]⟩]
 obtain⟨p,h⟩:=Joa E rs ts y g I hr hv (ckN rs.length g) (Oa2 _);unfold Jgp;simp only;rw[h,Kb8 rs ts.length _ _ (Jxu rs.length g I)]
theorem Jmw:∀ (ps:List (List UInt8))(D:DS),((Js D.pages:Nat):Int)<=D.quota->(Uy D ps).2.2=none->((Js (Uy D ps).1.pages:Nat):Int)<=D.quota
 |[],D,h,_=>by simpa [Uy] using h
 |p::ps,D,h,hn=>by
  unfold Uy at hn |-;by_cases y:D.quota<=((Js D.pages:Nat):Int)
  ·rw[if_pos y]at hn;simp at hn
  rw[if_neg y]at hn |-;by_cases H:wrap64 (D.writes+1)=D.fail
  ·rw[if_pos H]at hn;simp at hn
  rw[if_neg H]at hn |-;have:=Jmw ps (Zn D p) (by rw[Jm8];show _<=D.quota;omega) hn;exact this
theorem Jh1:∀ (ts:List (List UInt8))(D:DS),((Js D.pages:Nat):Int)<=D.quota->(Jq D ts).2.2=none->((Js (Jq D ts).1.pages:Nat):Int)<=D.quota
 |[],D,h,_=>by simpa [Jq] using h
 |t::ts,D,h,hn=>by
  have y:=Jmw (Qu t) D h;have H:=(Jc1 (Qu t) D).1;unfold Jq at hn |-;rcases hr:Uy D (Qu t)with⟨E,l,r⟩;rw[hr]at hn y H;cases r with
  |none=>
   have hq:E.quota=D.quota:=(H rfl).quota;have:=Jh1 ts E (by rw[hq];exact y rfl) hn;rw[hq]at this;exact this
  |some x=>simp at hn
theorem Jhk:∀ (ts:List (List UInt8))(D:DS),(Jq D ts).1.pages.length<=D.pages.length+Jch ts
 |[],D=>by simp[Jq,Jch]
 |t::ts,D=>by
  have y:=(Jrh (Qu t) D).1;unfold Jq;rcases hr:Uy D (Qu t)with⟨E,l,r⟩;rw[hr]at y;rw[Ja1];cases r with
  |none=>
   have:=Jhk ts E;simp only at y this |-;omega
  |some x=>
   simp only at y |-;rw[Jrz];omega
structure Jer (D:DS) (T:TS) (rs:List (List V)):Prop where
 cols:1<=T.types.length/\T.types.length<=6
 rows:T.rows<=200
 group:1<=T.group/\T.group<=64
 count:T.segs.length=ckN T.rows T.group*T.types.length
 texts:∃ X:List (List UInt8),X.length=T.segs.length/\(∀ t∈X,t≠[]/\t.length<=6100/\Kje t)/\(∀ (i:Nat) (h1:i<T.segs.length) (h2:i<X.length),Jan D T.segs[i] X[i])/\(∀ E:DS,(∀ (i:Nat) (h1:i<T.segs.length) (h2:i<X.length),Jan E T.segs[i] X[i])->Jgp E T=.inl rs)
theorem Jer.read {D T rs}(h:Jer D T rs):Jgp D T=.inl rs:=by
 obtain⟨X,_,_,y,H⟩:=h.texts;exact H D y
theorem Jer.keep {D E T rs}(h:Jer D T rs)(hk:∀ i∈T.segs.flatten,pg E i=pg D i):Jer E T rs:=by
 obtain⟨X,y,H,I,K⟩:=h.texts;exact⟨h.cols,h.rows,h.group,h.count,X,y,H,fun i hi M=>(I i hi M).keep fun k O=>hk k (List.mem_flatten.2 ⟨_,Ob3 hi,O⟩),K⟩
theorem Jer.seg {D T rs}(h:Jer D T rs):∀ l∈T.segs,∃ t,t≠[]/\t.length<=6100/\Jan D l t/\Kje t:=by
 intro l hl;obtain⟨X,K,H,I,M⟩:=h.texts;obtain⟨i,hi,rfl⟩:=Od5 hl;have y:=H _ (Ob3 (show i<X.length by omega));exact⟨_,y.1,y.2.1,I i hi zo,y.2.2⟩
theorem Jx9 {D l t}(h:Jan D l t)(ht:t≠[])(hl:t.length<=6100):l≠[]/\l.length<=1000:=by
 have I:=Jio t;have y:=h.1;have H:=Jy1 ht;refine⟨fun e=>H (Od3.1 ?_),zo⟩;rw[<-y,e];rfl
theorem Jer.inuse {D T rs}(h:Jer D T rs):∀ i∈T.segs.flatten,∃ p,pg D i=some p:=by
 intro i hi;obtain⟨l,hl,H⟩:=List.mem_flatten.1 hi;obtain⟨t,_,_,⟨I,y⟩,_⟩:=h.seg l hl;obtain⟨k,hk,rfl⟩:=Od5 H;exact⟨_,y k hk zo⟩
theorem Jer.ok {D T rs}(h:Jer D T rs):Jid D T:=by
 refine⟨h.cols,h.rows,h.group,h.count,fun l hl=>?_,fun l hl t ht=>?_⟩
 ·obtain⟨t,y,I,H,_⟩:=h.seg l hl;exact Jx9 H y I
 obtain⟨t',y,I,H,K⟩:=h.seg l hl;rw[H.read]at ht;simp at ht;rw[<-ht];exact⟨y,K⟩
structure Jbc (D:DS) (L:List (TS×List (List V))):Prop where
 tab:∀ x∈L,Jer D x.1 x.2
 nodup:(L.flatMap fun x=>x.1.segs.flatten).Nodup
 all:∀ i p,pg D i=some p->i∈L.flatMap fun x=>x.1.segs.flatten
 used:Js D.pages=(L.flatMap fun x=>x.1.segs.flatten).length
 writes:0<=D.writes
theorem Jbc.empty q f:Jbc (Ku q f) []:=
 ⟨zS,zS,fun i p h=>by simp[pg,Ku]at h,by simp[Ku,Js],by simp[Ku]⟩
theorem Jbc.same {D E L}(h:Jbc D L)(hs:Kft D E)(hw:0<=E.writes):Jbc E L:=
 ⟨fun x y=>(h.tab x y).keep fun i _=>hs.pages i,h.nodup,fun i p hp=>h.all i p (by rw[<-hs.pages];exact hp),hs.used.trans h.used,hw⟩
theorem Kg4 n g(H:1<=g):ckN n g<=n:=by
 unfold ckN;exact Nat.le_of_lt_succ ((Nat.div_lt_iff_lt_mul zo).2 (by
  have:n+1<=(n+1)*g:=On4 _ zo;rw[Of5]at this |-;have y:n<=n*g:=On4 _ zo;omega))
theorem Jtr {name ts hs rs}{g:Int}{T}(I:Jel name ts rs/\Je3 ts hs/\1<=g/\g<=64)(hp:Jfg rs ts hs (cks rs.length g.toNat (ckN rs.length g.toNat))=.inl T):
  T.length=ckN rs.length g.toNat*ts.length/\(∀ t∈T,t.length<=6100/\t≠[])/\Jch T<=660*rs.length/\(T=[]↔rs=[]):=by
 obtain⟨y,H⟩:=Jte rs ts hs _ T hp;rw[Jbp]at y;have O:=Joc T fun t ht=>(H t ht).1;have K:=Kg4 rs.length g.toNat zo;have M:ts.length<=6:=I.1.2.1.1.2;have Y:1<=ts.length:=I.1.2.1.1.1;have U:ckN rs.length g.toNat*ts.length<=rs.length*6:=Ol5 K M;refine⟨y,H,zo,⟨fun e=>?_,fun e=>?_⟩⟩
 ·subst e;have h0:ckN rs.length g.toNat=0:=by
   rcases Nat.mul_eq_zero.1 y.symm with h|h
   ·exact h
   omega
  have:=Jxu rs.length g.toNat zo;simp only[Jaa,h0]at this;exact Od3.1 zo
 subst e;have h0:ckN ([]:List (List V)).length g.toNat=0:=by unfold ckN;exact Op6 zt
 rw[h0]at y;exact Od3.1 zo
theorem Kjy {D E L Ts name ts hs rs g T}(hW:∀ x∈hs,Kjk x/\Kkn x)(H:Jbc D L)(bz:∀ r∈rs,∀ v∈r,Jg v.n)(hw:D.writes<=100000000000000000)(h:Jbd D Ts name ts hs rs g=.ok E T):
  Jbc E (L++[(T,rs)])/\T.name=name/\Js E.pages=Js D.pages+T.segs.flatten.length/\(T.segs.flatten=[]↔rs=[])/\E.quota=D.quota/\E.fail=D.fail/\E.pages.length<=D.pages.length+660*rs.length/\E.writes<=D.writes+660*rs.length/\(((Js D.pages:Nat):Int)<=D.quota->((Js E.pages:Nat):Int)<=D.quota)/\D.writes<=E.writes/\(Ub Ts name=Ts.length):=by
 unfold Jbd at h;split at h
 ·rename_i I
  split at h
  ·simp at h
  rename_i bK
  split at h
  ·simp at h
  rename_i X M
  split at h
  ·simp at h
  rename_i hn
  simp only[Sum.inr.injEq,Oj3]at h;obtain⟨rfl,rfl⟩:=h;obtain⟨bE,U,bM,Z⟩:=Jtr I M;have hl:=Jjv X D hn;have hq:=Jh1 X D;have bJ:=Jhk X D;have bB:rs.length<=200:=I.1.2.2.1;have bD:=Jd9 X D H.writes zo;generalize bH:(Jq D X).1=E at *;generalize hR:(Jq D X).2.1=R at *;have bI:=Kdk Ts name;have bL:=H.writes;refine⟨⟨?_,?_,?_,?_,zo⟩,rfl,hl.used,⟨fun e=>?_,fun e=>?_⟩,hl.quota,hl.fail,zo,zo,fun hh=>hq hh hn,bD.1.1,zo⟩
  ·intro x y;rcases Od2.1 y with y|y
   ·refine(H.tab x y).keep fun i hi=>hl.other i fun K=>?_;obtain⟨p,hp⟩:=(H.tab x y).inuse i hi;rw[hl.free i K]at hp;simp at hp
   simp at y;subst y;refine⟨⟨I.1.2.1.1.1,I.1.2.1.1.2⟩,bB,⟨by show 1<=g.toNat;omega,by show g.toNat<=64;omega⟩,by show R.length=_;rw[hl.len,bE],X,hl.len.symm,fun t ht=>⟨(U t ht).2,(U t ht).1,Kkg I.1 I.2.1.1 (fun x y=>(hW x y).1) M t ht⟩,fun i bh bG=>hl.segs i bh,fun bf bi=>Jqv bf name ts hs rs g.toNat X R I.1 zo bz (fun x y=>(hW x y).2) I.2.1.1 M hl.len bi⟩
  ·rw[Oe8];refine Op3.2 ⟨H.nodup,by simpa using hl.nodup,fun a bj b hb e=>?_⟩;subst e;simp at hb;obtain⟨x,y,br⟩:=Op5.1 bj;obtain⟨p,hp⟩:=(H.tab x y).inuse a br;have bx:a∈R.flatten:=by
    obtain⟨l,bA,bk⟩:=hb;exact List.mem_flatten.2 ⟨l,bA,bk⟩
   rw[hl.free a bx]at hp;simp at hp
  ·intro i p hp;rw[Oe8];by_cases K:i∈R.flatten
   ·exact Od2.2 (.inr (by simpa using K))
   rw[hl.other i K]at hp;exact Od2.2 (.inl (H.all i p hp))
  ·rw[hl.used,H.used,Oe8,Oa8];simp
  ·have O:X=[]:=by
    rcases X with _|⟨t,X⟩
    ·rfl
    ·exfalso;rcases R with _|⟨l,R⟩
     ·have:=hl.len;simp at this
     have bC:=hl.segs 0 zS;have Y:=U t zS;have:=(Jx9 bC Y.2 Y.1).1;simp at e;exact this (by simpa using e.1)
   exact Z.1 O
  have O:=Z.2 e;have hlen:=hl.len;rw[O]at hlen;have:R=[]:=Od3.1 (by simpa using hlen);show R.flatten=[];rw[this];rfl
 simp at h
theorem Jz8 {D E L Ts name ts hs rs g x}(H:Jbc D L)(hw:D.writes<=100000000000000000)(h:Jbd D Ts name ts hs rs g=.disk x E):
  Jbc E L/\Kft D E/\rs≠[]/\(x=true->D.quota<=((Js D.pages+660*rs.length:Nat):Int))/\(x=false->E.writes=D.fail/\D.writes<E.writes)/\E.pages.length<=D.pages.length+660*rs.length/\E.writes<=D.writes+660*rs.length/\D.writes<=E.writes:=by
 unfold Jbd at h;split at h
 ·rename_i K
  split at h
  ·simp at h
  split at h
  ·simp at h
  rename_i X Y
  split at h
  ·rename_i bf hn
   simp only[Sum.inr.injEq,Sum.inl.injEq,Oj3]at h;obtain⟨rfl,rfl⟩:=h;obtain⟨bk,br,bx,Z⟩:=Jtr K Y;obtain⟨I,O,U⟩:=Jj4 X D bf hn;have bi:rs.length<=200:=K.1.2.2.1;have M:=Jd9 X D H.writes zo;have y:=(Jdn (Jq D X).2.1 (Jq D X).1).2.2;have bh:=Jhk X D;have bj:=H.writes;refine⟨H.same I (by rw[y];omega),I,fun e=>O (Z.2 e),fun e=>?_,fun e=>?_,by rw[Jt4];omega,by rw[y];omega,by rw[y];exact M.1.1⟩
   ·have:=U e;omega
   subst e;rw[y];exact M.2.1 hn
  simp at h
 simp at h
theorem Jla rows ts hs c:∀ (k:Nat),Jeo rows ts hs k=.inr c->c<k/\(Uo rows ts hs c).2≠0
 |0,h=>by simp[Jeo]at h
 |k+1,h=>by
  simp only[Jeo]at h;split at h
  ·rename_i y H
   simp at h;subst h;have:=Jla rows ts hs y k H;exact⟨zo,this.2⟩
  split at h
  ·simp at h
  rename_i h0
  simp at h;subst h;exact⟨zo,h0⟩
theorem Ju4 rs ts hs c:∀ (xs:List (Nat×Nat)),Jfg rs ts hs xs=.inr c->∃ x∈xs,c<ts.length/\(Uo (Uk rs x) ts hs c).2≠0:=by
 intro xs;have key:∀ (xs:List (Nat×Nat)) (T:List (List UInt8)),xs.foldl (Jiu rs ts hs) (.inl T)=.inr c->∃ x∈xs,c<ts.length/\(Uo (Uk rs x) ts hs c).2≠0:=by
  intro xs;induction xs with
  |nil=>intro T h;simp at h
  |cons x xs I=>
   intro T h;rw[List.foldl_cons]at h;simp only[Jiu]at h;split at h
   ·obtain⟨K,hy,M⟩:=I _ h;exact⟨K,by simp[hy],M⟩
   rename_i H O
   have hb:∀ y:List (Nat×Nat),y.foldl (Jiu rs ts hs) (.inr H)=.inr H:=by
    intro y;induction y with
    |nil=>rfl
    |cons K y I=>exact I
   rw[hb]at h;simp at h;subst h;exact⟨x,zS,Jla _ ts hs H _ O⟩
 exact key xs []
theorem Jy3 {D Ts name ts hs rs g c}(h:Jbd D Ts name ts hs rs g=.dict c):c<hs.length/\hs.getD c 0=1/\16<rs.length:=by
 unfold Jbd at h;split at h
 ·rename_i K
  split at h
  ·simp at h
  split at h
  ·rename_i y U
   simp only[Sum.inr.injEq,Sum.inl.injEq]at h;subst h;obtain⟨x,bf,O,H⟩:=Ju4 rs ts hs y _ U;obtain⟨j,M,rfl⟩:=Of0.1 bf;rw[Oj4]at M;obtain⟨bh,bi,_⟩:=Jjr rs.length g.toNat j zo M;have Z:=K.2.1.1;refine⟨zo,?_⟩;have I:=Jqm K.1 (rows:=Uk rs (Jaa rs.length g.toNat j)) (hs:=hs) (fun r hr=>Oh7 (Om9 hr)) (by simp only[Uk,Oc7,Of7,Jaa];omega) y O Z K.2.1.2;have bj:(Jaj (Uk rs (Jaa rs.length g.toNat j)) y).length<=rs.length:=by simp[Jaj,Uk];omega
   unfold Uo Jev at H I;split at H
   ·rename_i hw
    rw[if_pos hw]at I;split at H
    ·rename_i Y
     have u1:=Jk0 (Jz (Jaj (Uk rs (Jaa rs.length g.toNat j)) y)) [];have u2:=Zy (Jaj (Uk rs (Jaa rs.length g.toNat j)) y);simp only[List.length_nil,Od0]at u1;exact⟨Y.1,zo⟩
    exact absurd rfl H
   rename_i hw
   rw[if_neg hw]at I;simp at I
  split at h<;>simp at h
 simp at h
end
section
open Go.RowKit Go.Shelf Tryz
theorem Jen w:Calls prog 7 #[] w fun e w'=>e=.returned (.agg #[.int .i64 1048576,.int .i64 0])/\Below w.heap.size w w':=by
 go_enter func7,ntmps7
 go_wp2;exact bodyPost_ret (v:=.agg #[.int .i64 1048576,.int .i64 0]) (by simp[results,results7,go_sem]) rfl ⟨rfl,(Oa5 _ w).alloc (Oa2 _) _⟩
structure Uw (w:World) (name:ByteArray) (at_ ar:Option Addr) (cr:Nat) (ts:List Int) (xs:List (Option Addr×Nat)) (rs:List (List V)):Prop where
 tab:Jel name ts rs
 tok:∀ t∈ts,tOk t
 vals:∀ r∈rs,∀ v∈r,Jg v.n
 types:Kc w at_ ts
 rows:Zd w ar xs rs
 cap:rs.length<=cr
theorem Uw.below {w w' name at_ ar cr ts xs rs}(h:Uw w name at_ ar cr ts xs rs)(hb:Below w.heap.size w w'):Uw w' name at_ ar cr ts xs rs:=
 ⟨h.tab,h.tok,h.vals,h.types.below hb,h.rows.below hb,h.cap⟩
theorem Uw.arg {w name at_ ar cr ts xs rs}(h:Uw w name at_ ar cr ts xs rs){y hs}(hh:Kc w y hs)(hl:hs.length<=6):Kct w name at_ ar y cr ts hs xs rs:=by
 have H:=h.tab.1.2;have I:=h.tab.2.1.1.2;have K:=h.tab.2.2.1;refine⟨by unfold maxLen;omega,by unfold maxLen;omega,by unfold maxLen;omega,fun r hr=>?_,by unfold maxLen;omega,h.cap,h.types,hh,h.rows⟩;obtain⟨i,hi,rfl⟩:=Od5 hr;have:=(h.tab.2.2.2 i hi).1;unfold maxLen;omega
theorem Kck {D L Ts name ts hs rs g}(H:Jbc D L)(y:Jel name ts rs)(hw:Je3 ts hs)(I:1<=g/\g<=64)(U:Ub Ts name=Ts.length)(O:Ts.length<6)(hq:D.quota=1048576)(hf:D.fail=0)(Z:Js D.pages<=200000)(bf:D.writes<=1000000000):
  (∃ c,Jbd D Ts name ts hs rs g=.dict c)\/∃ E T,Jbd D Ts name ts hs rs g=.ok E T:=by
 have Y:rs.length<=200:=y.2.2.1;rcases hr:Jbd D Ts name ts hs rs g with _|_|c|⟨x,E⟩|⟨E,T⟩
 ·unfold Jbd at hr;rw[if_pos ⟨y,hw,I⟩]at hr;split at hr
  ·simp at hr
  split at hr
  ·simp at hr
  split at hr<;>simp at hr
 ·unfold Jbd at hr;rw[if_pos ⟨y,hw,I⟩,if_neg zo]at hr;split at hr
  ·simp at hr
  split at hr<;>simp at hr
 ·exact .inl ⟨c,rfl⟩
 ·exfalso;obtain⟨_,_,_,K,M,_⟩:=Jz8 H zo hr;have:=H.writes;cases x with
  |true=>have:=K rfl;omega
  |false=>have:=M rfl;omega
 exact .inr ⟨E,T,rfl⟩
theorem Jvv {ts hs}(h:Jfz ts [] hs ts.length):Je3 ts hs/\∀ c,hs.getD c 0=0:=by
 refine⟨⟨h.len,h.ok⟩,fun c=>?_⟩;by_cases y:c<hs.length
 ·have:=h.plain c y zS;simpa [y] using this
 simp[List.getD_eq_getElem?_getD,List.getElem?_eq_none (Nat.le_of_not_lt y)]
theorem Jtl {D E Ts name ts hs rs g T}(h:Jbd D Ts name ts hs rs g=.ok E T):T.types=ts:=by
 unfold Jbd at h;split at h
 ·split at h
  ·simp at h
  split at h
  ·simp at h
  split at h
  ·simp at h
  cases h
  rfl
 simp at h
def Kj (H:Nat->Prop)(w:World)(st:Nat)(D:DS)(L:List (TS×List (List V)))(name:ByteArray)(ts:List Int)(rs:List (List V))(P:DS->TS->Prop)(w':World):Prop:=
 ∃ (y:Nat->Prop) (E:DS) (T:TS),Sto y w' st E ((L++[(T,rs)]).map Prod.fst)/\Jbc E (L++[(T,rs)])/\(T.name=name/\T.types=ts)/\E.quota=D.quota/\E.fail=D.fail/\E.pages.length<=D.pages.length+660*rs.length/\E.writes<=D.writes+660*rs.length/\Js E.pages=Js D.pages+T.segs.flatten.length/\(T.segs.flatten=[]↔rs=[])/\(∀ k,H k->y k)/\(∀ k,y k->H k\/w.heap.size<=k)/\P E T
theorem Jxk y st D L name at_ ar I ct cr ch ts hs xs rs g w(bG:Sto y w st D (L.map Prod.fst))(bE:Jbc D L)(hR:Uw w name at_ ar cr ts xs rs)(hh:Kc w I hs)(hI:Jfz ts [] hs ts.length)(P:DS->TS->Prop)(bL:∃ E T,Jbd D (L.map Prod.fst) name ts hs rs g=.ok E T/\P E T)(hp:D.pages.length<=200000)(bN:D.writes<=1000000000)(bA:∀ b o,at_=some ⟨b,o,none⟩->¬ y b)a0 a1 a2 Y q wr pg pl ex U w0(bC:Jax w0 a0 a1 a2 Y q wr pg pl ex U)(bH:Below w0.heap.size w0 w)(bB:∀ k,y k->w0.heap.size<=k):
  Calls prog 21 #[.pointer (some ⟨st,0,none⟩),Jvc name at_ ar ct cr ts rs,.slice I hs.length ch,.int .i64 g] w fun e w'=>e=.returned (Jb6 0)/\Ju y w w'/\Kj y w st D L name ts rs P w':=by
 obtain⟨hw,bM⟩:=Jvv hI;have O:∀ x∈hs,x=0:=fun x H=>by
  obtain⟨i,hi,rfl⟩:=Od5 H;have:=bM i;simpa [hi] using this
 have bI:hs.length<=6:=by rw[hw.1];exact hR.tab.2.1.1.2
 obtain⟨E,T,hr,bD⟩:=bL;refine(Jyt y st D (L.map Prod.fst) name at_ ar I ct cr ch ts hs xs rs g w bG (hR.arg hh bI) bA zo a0 a1 a2 Y q wr pg pl ex U w0 bC bH bB (fun x H=>by rw[O x H];exact Kve) ⟨E,T,hr⟩).mono fun e w' ⟨K,hk,Z,M,bJ,bK⟩=>?_;rw[hr]at K M;obtain⟨bf,bh,bi,bj,bk,br,bx,bz,_⟩:=Kjy (fun x H=>by rw[O x H];exact⟨Ki5,Kj4⟩) bE hR.vals zo hr;exact⟨K,hk,Z,E,T,by simpa [Ja0.ts,Ja0.d] using M,bf,⟨bh,Jtl hr⟩,bk,br,bx,bz,bi,bj,bJ,bK,bD⟩
theorem Jfn {I w K y wx st D L name ts rs}{P:DS->TS->Prop}{fa}(h:Kj I K st D L name ts rs P y)(bB:w.heap.size<=K.heap.size)(hs:y.heap.size<=wx.heap.size)(hk:∀ k,k<y.heap.size->k≠fa->wx.heap[k]?=y.heap[k]?)(hn:¬ I fa)(bA:fa<K.heap.size\/y.heap.size<=fa):Kj I w st D L name ts rs P wx:=by
 obtain⟨U,E,T,M,bf,bh,bi,bj,bk,br,bx,bz,Y,O,Z⟩:=h;refine⟨U,E,T,M.stands hs fun k H=>hk k (M.lt k H) fun e=>?_,bf,bh,bi,bj,bk,br,bx,bz,Y,fun k H=>(O k H).imp_right fun a=>zo,Z⟩;subst e;have:=M.lt k H;rcases O k H with a|a
 ·exact hn a
 omega
theorem Kuo {P H I Q S fuel n K a w}(T:Act->Array Bool->Act->World->Prop)(ht:∀ l y X,T a l y X->wpAnyH P H I Q S n l y X)(h:(∀ l y X,T a l y X->wpAnyH P H I Q S n l y X)->wpAnyH P H I Q S fuel K a w):wpAnyH P H I Q S fuel K a w:=h ht
structure Qcf (w:World) (fa:Nat) (G:World->Prop) (X:World):Prop where
 z:X.heap[fa]?=some (.cells #[.int .i64 0,.int .i64 0,.int .i64 0,.int .i64 0,.int .i64 0] 51 (0,0))
 low:Below w.heap.size w X
 new:w.heap.size<=fa
 fin:∀ wx,X.heap.size<=wx.heap.size->(∀ k,k<X.heap.size->k≠fa->wx.heap[k]?=X.heap[k]?)->G wx
theorem Qcf.store {w fa G X}(h:Qcf w fa G X)a b c d e:(((((X.setCell ⟨fa,0,none⟩ (.int .i64 a)).setCell ⟨fa,1,none⟩ (.int .i64 b)).setCell ⟨fa,2,none⟩ (.int .i64 c)).setCell ⟨fa,3,none⟩ (.int .i64 d)).setCell ⟨fa,4,none⟩ (.int .i64 e)).heap[fa]?=some (.cells #[.int .i64 a,.int .i64 b,.int .i64 c,.int .i64 d,.int .i64 e] 51 (0,0))/\Below w.heap.size w (((((X.setCell ⟨fa,0,none⟩ (.int .i64 a)).setCell ⟨fa,1,none⟩ (.int .i64 b)).setCell ⟨fa,2,none⟩ (.int .i64 c)).setCell ⟨fa,3,none⟩ (.int .i64 d)).setCell ⟨fa,4,none⟩ (.int .i64 e))/\G (((((X.setCell ⟨fa,0,none⟩ (.int .i64 a)).setCell ⟨fa,1,none⟩ (.int .i64 b)).setCell ⟨fa,2,none⟩ (.int .i64 c)).setCell ⟨fa,3,none⟩ (.int .i64 d)).setCell ⟨fa,4,none⟩ (.int .i64 e)):=by
 have y:=Jk (Jk (Jk (Jk (Jk h.z 0 (.int .i64 a)) 1 (.int .i64 b)) 2 (.int .i64 c)) 3 (.int .i64 d)) 4 (.int .i64 e);simp only[Oa1,List.set_cons_zero,List.set_cons_succ]at y;exact⟨y,Um h.low h.new _ _ _ _ _,h.fin _ (by rw[Jg2];exact Oa2 _) fun k _ hk=>Zh _ _ _ _ _ _ _ k hk⟩
structure TbX where
 name:ByteArray
 at_:Option Addr
 ct:Nat
 ar:Option Addr
 cr:Nat
 ts:List Int
 xs:List (Option Addr×Nat)
 rs:List (List V)
def Kyd (w:World)(b:Nat)(L:List TbX):Prop:=∀ (i:Nat) (t:TbX),L[i]?=some t->w.cell? ⟨b,i*3,none⟩=some (.string t.name)/\w.cell? ⟨b,i*3+1,none⟩=some (.slice t.at_ t.ts.length t.ct)/\w.cell? ⟨b,i*3+2,none⟩=some (.slice t.ar t.rs.length t.cr)
def Ksd (L:List TbX)(i:Nat):Nat:=((L.take i).map fun t=>t.rs.length).sum
theorem Kxq {L i t}(h:L[i]?=some t):Ksd L (i+1)=Ksd L i+t.rs.length:=by
 unfold Ksd;rw[Oi7,h];simp
theorem Kzx L i:Ksd L i<=Ksd L L.length:=by
 have h:Ksd L L.length=Ksd L i+((L.drop i).map fun t=>t.rs.length).sum:=by
  unfold Ksd;rw[Of2,<-List.sum_append,<-Ob8,Ok3]
 omega
def Ks3 (Φ:Nat->DS->List (TS×List (List V))->Prop)(w:World)(st:Nat)(L:List TbX)(i:Nat)(wx:World):Prop:=∃ (y:Nat->Prop) (D:DS) (S:List (TS×List (List V))),Sto y wx st D (S.map Prod.fst)/\Jbc D S/\S.length=i/\(∀ (j:Nat) t s,L[j]?=some t->S[j]?=some s->s.1.name=t.name/\s.1.types=t.ts/\s.2=t.rs)/\Φ i D S/\D.pages.length<=660*Ksd L i/\D.writes<=660*Ksd L i/\(∀ k,y k->w.heap.size<=k)
abbrev Ky3 (w:World)(st:Nat)(L:List TbX)(i:Nat)(wx:World):Prop:=Ks3 (fun _ D _=>D.quota=1048576/\D.fail=0) w st L i wx
theorem Ks3.below {Φ w st L i wx y}(h:Ks3 Φ w st L i wx)(hb:Below wx.heap.size wx y):Ks3 Φ w st L i y:=by
 obtain⟨H,D,S,I,K⟩:=h;exact⟨H,D,S,I.below hb,K⟩
theorem Ks3.next {Φ:Nat->DS->List (TS×List (List V))->Prop}{H:Nat->Prop}{w w'}{st:Nat}{L:List TbX}{i:Nat}{t:TbX}{D:DS}{S:List (TS×List (List V))}(ht:L[i]?=some t)(hl:S.length=i)(hn:∀ (j:Nat) t s,L[j]?=some t->S[j]?=some s->s.1.name=t.name/\s.1.types=t.ts/\s.2=t.rs)(hp:D.pages.length<=660*Ksd L i)(hw:D.writes<=660*Ksd L i)(hM:∀ k,H k->w.heap.size<=k)(h:Kj H w st D S t.name t.ts t.rs (fun E T=>Φ (i+1) E (S++[(T,t.rs)])) w'):Ks3 Φ w st L (i+1) w':=by
 obtain⟨I,E,T,K,O,⟨U,Y⟩,bi,bj,bk,br,_,_,_,M,Z⟩:=h;have hr:=Kxq ht;refine⟨I,E,S++[(T,t.rs)],K,O,by rw[Oa8,hl];rfl,fun j u s y hs=>?_,Z,by rw[hr];omega,by rw[hr];omega,fun k hk=>(M k hk).elim (hM k) id⟩;by_cases bf:j<S.length
 ·rw[Ob0 bf]at hs;exact hn j u s y hs
 have bh:j=i:=by
  have:=(Ob9.1 hs).1;rw[Oa8]at this;have:j<S.length+1:=this;omega
 subst bh;rw[ht]at y;cases y
 rw[Ob6 zo,hl,Oe1]at hs;cases hs
 exact⟨U,Y,rfl⟩
theorem Qbe Φ bW bI b cap L w(hR:∀ t∈L,Uw w t.name t.at_ t.ar t.cr t.ts t.xs t.rs)(bJ:Kyd w b L)(dR:b<w.heap.size)(cc:(L.map TbX.name).Nodup)(cS:L.length<=6)(cY:Ksd L L.length<=300)(hΦ0:Φ 0 (Ku bW bI) [])(hΦ:∀ i t D S hs,L[i]?=some t->Φ i D S->Jbc D S->S.length=i->Ub (S.map Prod.fst) t.name=S.length->D.pages.length<=200000->D.writes<=1000000000->Jfz t.ts [] hs t.ts.length->∃ E T,Jbd D (S.map Prod.fst) t.name t.ts hs t.rs 64=.ok E T/\Φ (i+1) E (S++[(T,t.rs)]))a0 a1 a2 dc q dd pg pl ex db(cK:Jax w a0 a1 a2 dc q dd pg pl ex db):
  Calls prog 6 #[.agg #[.int .i64 bW,.int .i64 bI],.slice (some ⟨b,0,none⟩) L.length cap] w fun e w'=>Below w.heap.size w w'/\∃ st,e=.returned (.pointer (some ⟨st,0,none⟩))/\Ks3 Φ w st L L.length w':=by
 have cO:Below w.heap.size w (w.alloc (.cells #[.int .i64 bW,.int .i64 bI] 33)):=(Oa5 _ w).alloc (Oa2 _) _;have cV:=Kfq bW bI (w.alloc (.cells #[.int .i64 bW,.int .i64 bI] 33));have bP:Hid ((∀ t∈L,Uw w t.name t.at_ t.ar t.cr t.ts t.xs t.rs)/\Kyd w b L/\(L.map TbX.name).Nodup/\L.length<=6/\Ksd L L.length<=300):=⟨hR,bJ,cc,cS,cY⟩;have HΦ:Hid _:=hΦ;have dg:=zh cK;clear hR bJ cc cS cY cK hΦ;go_enter func6,ntmps6
 go_upto_region 3 with(first|(go_at_call 20;refine cV.mono ?_;rintro e cn ⟨cP,st,O,rfl,bU,hM⟩))
 have cJ:Ks3 Φ w st L 0 cn:=⟨O,_,[],bU,Jbc.empty _ _,rfl,fun j t s _ hs=>by simp at hs,hΦ0,by simp[Ku],by simp[Ku,Ksd],fun k hk=>by have:=hM k hk;simp at this;omega⟩;have ci:Hid (Below w.heap.size w cn/\Ks3 Φ w st L 0 cn):=⟨Jb cO cP,cJ⟩;obtain⟨dK,di⟩:∃ p:Addr,Hid (p=⟨st,0,none⟩):=⟨_,rfl⟩;clear bU hM cV cJ cP cO di dK;go_loopw [6] (fun i wr=>∃ j:Nat,j<=L.length/\i=.int .i64 (j:Int)/\Below w.heap.size w wr/\Ks3 Φ w st L j wr) (fun i _=>L.length-(intOf i).toNat)
 case atStart=>exact⟨0,Ob7 _,rfl,ci.out⟩
 case round=>
  obtain⟨j,dS,rfl,bj,hI⟩:=hrel;by_cases bL:j<L.length
  ·obtain⟨O,D,S,bU,cB,cC,cD,cW,hp,da,hM⟩:=hI;obtain⟨t,ht⟩:∃ t,L[j]?=some t:=⟨_,Oa3 bL⟩;have bE:Hid (Uw w t.name t.at_ t.ar t.cr t.ts t.xs t.rs):=bP.out.1 t (Of6 ht);obtain⟨c0,c1,c2⟩:=bP.out.2.1 j t ht;have cF:Hid (j<L.length/\L[j]?=some t):=⟨bL,ht⟩;have cH:Hid (wrap64 ((j:Int)+1)=((j+1:Nat):Int)):=by show _=_;have:=bP.out.2.2.2.1;unfold wrap64;omega
   have dD:=Kzx L j;have dC:=bP.out.2.2.2.2;have cT:Ub (S.map Prod.fst) t.name=S.length:=by
    have:=Jvr (S.map Prod.fst) t.name (fun i hi e=>by
     rw[Oa6]at hi;have cA:i<L.length:=zo;have dl:=(cD i _ _ (Oa3 cA) (Oa3 hi)).1;rw[Od9]at e;have cc:=bP.out.2.2.1;have dm:(L.map TbX.name)[i]'(by rw[Oa6];exact cA)=(L.map TbX.name)[j]'(by rw[Oa6];exact bL):=by
      rw[Od9,Od9,<-dl,e];rw[Oa3 bL]at ht;rw[Oj6 ht]
     exact(List.pairwise_iff_getElem.1 cc) i j (by rw[Oa6];exact cA) (by rw[Oa6];exact bL) zo dm)
    rwa [Oa6]at this
   have bQ:Hid (Jbc D S/\(∀ hs,Jfz t.ts [] hs t.ts.length->∃ E T,Jbd D (S.map Prod.fst) t.name t.ts hs t.rs 64=.ok E T/\Φ (j+1) E (S++[(T,t.rs)]))/\D.pages.length<=200000/\D.writes<=1000000000):=⟨cB,fun hs hh=>HΦ.out j t D S hs ht cW cB cC cT zo zo hh,zo,zo⟩;have cG:Hid (∀ w',Kj O w st D S t.name t.ts t.rs (fun E T=>Φ (j+1) E (S++[(T,t.rs)])) w'->Ks3 Φ w st L (j+1) w'):=fun w' h=>Ks3.next ht cC cD hp da hM h;have bY:=zh bU;have bM:=zh hM;have cu:=Ja bj c0;have cv:=Ja bj c1;have cx:=Ja bj c2;obtain⟨name,at_,ct,ar,cr,ts,xs,rs⟩:=t;simp only at bE bQ cG cu cv cx;have j1:(0:Int)<=(j:Int):=zo;have j2:(j:Int)<(L.length:Int):=zo;clear ht bL bU cB cC cD cW hp da hM cT dD dC c0 c1 c2 ci;have cf:Hid (∀ X,Below wr.heap.size wr X->Calls prog 22 #[.agg #[.string name,.slice at_ ts.length ct,.slice ar rs.length cr],.slice none 0 0] X fun e bN=>Below X.heap.size X bN/\∃ (U:Option Addr) (ch:Nat) (hs:List Int),e=.returned (.slice U hs.length ch)/\Kc bN U hs/\Jfz ts [] hs ts.length):=fun X bS=>by
    have:=Jzt (.string name) (.slice ar rs.length cr) at_ none ct 0 ts [] X bE.out.tab.2.1.1.2 bE.out.tok zS (bE.out.types.below (Jb bj bS)) (.inl rfl);refine this.mono fun e bN ⟨hs,sv,dx,ho,hI,br⟩=>?_;obtain⟨a,c,cZ,dw⟩:=ho.cells;rw[Oa6]at cZ;subst cZ;exact⟨br,a,c,hs,dx,dw,hI⟩
   have bX:Hid (∀ X U ch hs,Below wr.heap.size wr X->Kc X U hs->Jfz ts [] hs ts.length->Calls prog 21 #[.pointer (some ⟨st,0,none⟩),.agg #[.string name,.slice at_ ts.length ct,.slice ar rs.length cr],.slice U hs.length ch,.int .i64 64] X fun e bN=>e=.returned (Jb6 0)/\Ju O X bN/\Kj O X st D S name ts rs (fun E T=>Φ (j+1) E (S++[(T,rs)])) bN):=fun X U ch hs bS hI bC=>
    Jxk O st D S name at_ ar U ct cr ch ts hs xs rs 64 X (bY.out.below bS) bQ.out.1 (bE.out.below (Jb bj bS)) hI bC _ (bQ.out.2.1 hs bC) bQ.out.2.2.1 bQ.out.2.2.2 (fun dj o dv bh=>by
     have bZ:=bM.out dj bh;rcases bE.out.types with h0|⟨b2,dT,cQ,bL,_⟩
     ·have:=bE.out.tab.2.1.1.1;simp at h0;rw[h0]at this;simp at this
     rw[dv]at cQ;simp at cQ;try omega) a0 a1 a2 dc q dd pg pl ex db w dg.out (Jb bj bS) bM.out
   go_upto_region 5 with fail
   go_cut [7] from 20 to 30 (fun f wx=>∃ fa:Nat,f=.pointer (some ⟨fa,0,none⟩)/\wx.heap[fa]?=some (.cells #[.int .i64 0,.int .i64 (-1),.int .i64 (-1),.int .i64 (-1),.int .i64 (-1)] 51 (0,0))/\Below w.heap.size w wx/\Kj O w st D S name ts rs (fun E T=>Φ (j+1) E (S++[(T,rs)])) wx)
   case first=>
    have bB:¬ O b:=fun bh=>by have bZ:=bM.out b bh;omega
    refine wp_region_held_drew (S:=fun X=>X.cell? ⟨b,j*3,none⟩=some (.string name)/\X.cell? ⟨b,j*3+1,none⟩=some (.slice at_ ts.length ct)/\X.cell? ⟨b,j*3+2,none⟩=some (.slice ar rs.length cr)) zK ⟨cu,cv,cx⟩ (fun y=>?_);refine tkj 0 rfl y ?_;refine tkj 1 rfl y ?_;refine tkj 2 rfl y ?_;refine tkj 3 rfl y ?_;refine tkj 4 rfl y ?_;refine tkj 5 rfl y ?_;refine tkj 6 rfl y ?_;refine tkj 7 rfl y ?_;refine tkj 8 rfl y ?_;refine tkn ?_;have ca:Below wr.heap.size wr wr.drew:=⟨rfl,rfl,rfl,Oa2 _,fun _ _=>rfl⟩;refine Kuo (n:=1) (fun a l cI X=>l=#[true,true,true,true,true,true,true,true,true,true,true,true,false]/\∃ fa hv,cI=((a.put (some 7) (.pointer (some ⟨fa,0,none⟩))).put (some 29) hv).put (some 30) (Jb6 0)/\Qcf w fa (Kj O w st D S name ts rs (fun E T=>Φ (j+1) E (S++[(T,rs)]))) X/\X.cell? ⟨b,j*3,none⟩=some (.string name)/\X.cell? ⟨b,j*3+1,none⟩=some (.slice at_ ts.length ct)/\X.cell? ⟨b,j*3+2,none⟩=some (.slice ar rs.length cr)) ?tail (fun cj=>?go)
    case tail=>
     rintro l cI X ⟨rfl,fa,hv,rfl,bJ,cL,cM,cN⟩;simp only[Act.put,Oa1,List.set_cons_zero,List.set_cons_succ];have Z:=bJ.z;have dE:=zc 0 Z;have dG:=zc 1 Z;have dH:=zc 2 Z;have dI:=zc 3 Z;have dJ:=zc 4 Z;have bI:=Lib.frozen_of_heap Z 0;have dp:=Lib.frozen_of_heap Z 1;have dq:=Lib.frozen_of_heap Z 2;have dr:=Lib.frozen_of_heap Z 3;have ds:=Lib.frozen_of_heap Z 4;have dh:Hid _:=bJ.store 0 (-1) (-1) (-1) (-1);have dB:b≠fa:=by have:=bJ.new;omega
     have cb:∀ o u,X.cell? ⟨b,o,none⟩=some u->(((((X.setCell ⟨fa,0,none⟩ (.int .i64 0)).setCell ⟨fa,1,none⟩ (.int .i64 (-1))).setCell ⟨fa,2,none⟩ (.int .i64 (-1))).setCell ⟨fa,3,none⟩ (.int .i64 (-1))).setCell ⟨fa,4,none⟩ (.int .i64 (-1))).cell? ⟨b,o,none⟩=some u:=fun o u h=>by rw[<-h];simp only[World.cell?,Zh _ _ _ _ _ _ _ b dB]
     have df:Hid _:=And.intro (cb _ _ cL) (And.intro (cb _ _ cM) (cb _ _ cN));clear Z bJ cL cM cN cb cf bX y;refine tkr 12 rfl fun M hK=>?_;go_simp;refine hK.out _ _ df.out (fun _=>?_);clear hK M dE dG dH dI dJ bI dp dq dr ds;refine wpAnyH_done zK ?_ _;go_wp2_with fail
     go_meet
     case rel=>exact⟨fa,rfl,dh.out⟩
    case go=>
     refine wpAnyH_ready (rs:=[9,11]) zK zS (AllReadyH.cons rfl (fun M hK=>?_) (AllReadyH.cons rfl (fun M hK=>?_) AllReadyH.nil))
     ·go_simp;refine(cf.out wr.drew ca).mono ?_;rintro e I ⟨bz,U,ch,hs,rfl,bR,bC⟩;have bA:Below wr.heap.size wr I:=Jb ca bz;have bG:Hid (Kc I U hs/\Jfz ts [] hs ts.length):=⟨bR,bC⟩;clear bR bC;go_simp;refine hK.out _ _ ⟨Ja bz y.1,Ja bz y.2.1,Ja bz y.2.2⟩ (fun y=>?_);clear hK M;refine wpAnyH_ready (rs:=[10,11]) zK zS (AllReadyH.cons rfl (fun M hK=>?_) (AllReadyH.cons rfl (fun M hK=>?_) AllReadyH.nil))
      ·go_simp;refine(bX.out I U ch hs bA bG.out.1 bG.out.2).mono ?_;rintro e bf ⟨rfl,Y,bD⟩;have bi:Hid (Kj O I st D S name ts rs (fun E T=>Φ (j+1) E (S++[(T,rs)])) bf/\Ju O I bf):=⟨bD,Y⟩;clear bD;go_simp;refine hK.out _ _ ⟨Y.cell y.1 bB,Y.cell y.2.1 bB,Y.cell y.2.2 bB⟩ (fun y=>?_);clear hK M Y;refine tkr 11 rfl fun M hK=>?_;go_simp;have K:Below bf.heap.size bf (bf.alloc Ka):=(Oa5 _ bf).alloc (Oa2 _) Ka;refine hK.out _ _ ⟨Ja K y.1,Ja K y.2.1,Ja K y.2.2⟩ (fun y=>?_);clear hK M;have bk:=Jb bj bA;have br:=bk.trans (bi.out.2.below (fun k hk bh=>by have:=bM.out k bh;omega) bk.size);exact cj _ _ _ ⟨zK,bf.heap.size,.slice U hs.length ch,zK,⟨heap_alloc_new bf Ka,Jb br K,br.size,fun wx Z hk=>Jfn (fa:=bf.heap.size) bi.out.1 bk.size (Ob2 K.size Z) (fun k cU dA=>(hk k (Oc2 cU K.size) dA).trans (K.block k cU)) (fun bh=>by have bZ:=bY.out.lt _ bh;have dt:=bA.size;have du:=bi.out.2.size;omega) (.inr (Oa2 _))⟩,y⟩
      go_simp;have K:Below I.heap.size I (I.alloc Ka):=(Oa5 _ I).alloc (Oa2 _) Ka;have bx:(I.alloc Ka).heap[I.heap.size]?=some (.cells #[.int .i64 0,.int .i64 0,.int .i64 0,.int .i64 0,.int .i64 0] 51 (0,0)):=heap_alloc_new I Ka;refine hK.out _ _ ⟨Ja K y.1,Ja K y.2.1,Ja K y.2.2⟩ (fun y=>?_);clear hK M;obtain⟨fa,bK⟩:∃ fa,fa=I.heap.size:=⟨_,rfl⟩;rw[<-bK]at bx |-;have bO:=zh bK;clear bK;generalize I.alloc Ka=bH at K bx y |-;have bT:Below wr.heap.size wr bH:=Jb bA K;refine tkr 10 rfl fun M hK=>?_;go_simp;refine(bX.out bH U ch hs bT (bG.out.1.below K) bG.out.2).mono ?_;rintro e bf ⟨rfl,Y,bD⟩;have bi:Hid (Kj O bH st D S name ts rs (fun E T=>Φ (j+1) E (S++[(T,rs)])) bf/\Ju O bH bf):=⟨bD,Y⟩;clear bD;go_simp;refine hK.out _ _ ⟨Y.cell y.1 bB,Y.cell y.2.1 bB,Y.cell y.2.2 bB⟩ (fun y=>?_);clear hK M Y;have bV:¬ O fa:=fun bh=>by have bZ:=bY.out.lt _ bh;have dt:=ca.size;have du:=bA.size;have:=bO.out;omega
      have bk:=Jb bj bT;have br:=bk.trans (bi.out.2.below (fun k hk bh=>by have:=bM.out k bh;omega) bk.size);exact cj _ _ _ ⟨zK,fa,.slice U hs.length ch,zK,⟨(bi.out.2.block _ (Jd bx) bV).trans bx,br,by have:=bj.size;have:=bA.size;have:=bO.out;omega,fun wx Z hk=>Jfn (fa:=fa) bi.out.1 bk.size Z hk bV (.inl (Jd bx))⟩,y⟩
     go_simp;have K:Below wr.drew.heap.size wr.drew ((wr.alloc Ka).drew):=(Oa5 _ wr.drew).alloc (Oa2 _) Ka;have bx:((wr.alloc Ka).drew).heap[wr.heap.size]?=some (.cells #[.int .i64 0,.int .i64 0,.int .i64 0,.int .i64 0,.int .i64 0] 51 (0,0)):=heap_alloc_new wr.drew Ka;refine hK.out _ _ ⟨Ja K y.1,Ja K y.2.1,Ja K y.2.2⟩ (fun y=>?_);clear hK M;obtain⟨fa,bK⟩:∃ fa,fa=wr.heap.size:=⟨_,rfl⟩;rw[<-bK]at bx |-;have bO:=zh bK;clear bK;generalize (wr.alloc Ka).drew=bH at K bx y |-;have bT:Below wr.heap.size wr bH:=Jb ca K;refine tkr 9 rfl fun M hK=>?_;go_simp;refine(cf.out bH bT).mono ?_;rintro e I ⟨bz,U,ch,hs,rfl,bR,bC⟩;have bA:Below wr.heap.size wr I:=Jb bT bz;have cz:=(bz.block _ (Jd bx)).trans bx;have bG:Hid (Kc I U hs/\Jfz ts [] hs ts.length):=⟨bR,bC⟩;clear bR bC;go_simp;refine hK.out _ _ ⟨Ja bz y.1,Ja bz y.2.1,Ja bz y.2.2⟩ (fun y=>?_);clear hK M;refine tkr 10 rfl fun M hK=>?_;go_simp;refine(bX.out I U ch hs bA bG.out.1 bG.out.2).mono ?_;rintro e bf ⟨rfl,Y,bD⟩;have bi:Hid (Kj O I st D S name ts rs (fun E T=>Φ (j+1) E (S++[(T,rs)])) bf/\Ju O I bf):=⟨bD,Y⟩;clear bD;go_simp;refine hK.out _ _ ⟨Y.cell y.1 bB,Y.cell y.2.1 bB,Y.cell y.2.2 bB⟩ (fun y=>?_);clear hK M Y;have bV:¬ O fa:=fun bh=>by have bZ:=bY.out.lt _ bh;have:=bO.out;omega
     have bk:=Jb bj bA;have br:=bk.trans (bi.out.2.below (fun k hk bh=>by have:=bM.out k bh;omega) bk.size);exact cj _ _ _ ⟨zK,fa,.slice U hs.length ch,zK,⟨(bi.out.2.block _ (Jd cz) bV).trans cz,br,by have:=bj.size;have:=bO.out;omega,fun wx Z hk=>Jfn (fa:=fa) bi.out.1 bk.size Z hk bV (.inl (Jd cz))⟩,y⟩
   case rest=>
    obtain⟨fa,rfl,hf,cR,cX⟩:=hcut;have bi:=zh cX;have dL:=zc 0 hf;have dM:=zc 1 hf;have dN:=zc 2 hf;have dO:=zc 3 hf;have dP:=zc 4 hf;have dy:fa<wc.heap.size:=Jd hf;have de:=zh cR;clear cX hf cR cu cv cx;go_wp2_with fail
    go_region_held3 (fun X=>X.cell? ⟨fa,0,none⟩=some (.int .i64 0)/\X.cell? ⟨fa,1,none⟩=some (.int .i64 (-1))/\X.cell? ⟨fa,2,none⟩=some (.int .i64 (-1))/\X.cell? ⟨fa,3,none⟩=some (.int .i64 (-1))/\X.cell? ⟨fa,4,none⟩=some (.int .i64 (-1)))
     (first|go_keep|(go_split_ands;refine⟨?_,?_,?_,?_,?_⟩<;>(rw[(Kx cy).1 _ _ (by first|exact dy|assumption)];assumption)))
     (first|(go_at_call 15;refine(Jfu _).mono ?_;rintro e dQ ⟨rfl,cy⟩;have br:Below wc.heap.size wc dQ:=(by first|exact Jw cy|exact cy)))
    clear dL dM dN dO dP;go_wp2_with fail
    go_roundw
    case rel=>exact⟨j+1,cF.out.1,by rw[cH.out],Jb de.out br,(cG.out _ bi.out).below br⟩
    case measure=>have:=cF.out.1;rw[cH.out];simp[intOf];omega
  obtain rfl:j=L.length:=zo;have cE:Hid (Below w.heap.size w wr/\Ks3 Φ w st L L.length wr):=⟨bj,hI⟩;clear hI bj ci;go_wp2_with fail
  go_ret
  exact⟨cE.out.1,st,rfl,cE.out.2⟩
theorem Qa4 b cap L w(hR:∀ t∈L,Uw w t.name t.at_ t.ar t.cr t.ts t.xs t.rs)(U:Kyd w b L)(Y:b<w.heap.size)(bh:(L.map TbX.name).Nodup)(bf:L.length<=6)(bi:Ksd L L.length<=300)a0 a1 a2 K q M pg pl ex I(O:Jax w a0 a1 a2 K q M pg pl ex I):
  Calls prog 6 #[.agg #[.int .i64 1048576,.int .i64 0],.slice (some ⟨b,0,none⟩) L.length cap] w fun e w'=>Below w.heap.size w w'/\∃ st,e=.returned (.pointer (some ⟨st,0,none⟩))/\Ky3 w st L L.length w':=by
 refine Qbe _ 1048576 0 b cap L w hR U Y bh bf bi ⟨rfl,rfl⟩ (fun i t D S hs ht hq y hl hf hp hw hI=>?_) a0 a1 a2 K q M pg pl ex I O;obtain⟨hy,H⟩:=Jvv hI;have bk:=(Ob9.1 ht).1;rcases Kck y (hR t (Of6 ht)).tab hy (g:=64) zd (Ts:=S.map Prod.fst) (by rw[hf];simp) (by rw[Oa6];omega) hq.1 hq.2 (Ob2 (Kad _) hp) hw with⟨c,Z⟩|⟨E,T,h⟩
 ·have:=(Jy3 Z).2.1;rw[H c]at this;simp at this
 have hk:=Kjy (fun x bj=>?_) y (hR t (Of6 ht)).vals zo h
 ·exact⟨E,T,h,hk.2.2.2.2.1.trans hq.1,hk.2.2.2.2.2.1.trans hq.2⟩
 obtain⟨i,hi,rfl⟩:=Od5 bj;have:=H i;rw[Oa0,Oa3 hi]at this;rw[show hs[i]=0 from this];exact⟨Ki5,Kj4⟩
theorem Jl3 b name at_ ar ct cr ts xs rs w(h:Uw w name at_ ar cr ts xs rs)(c0:w.cell? ⟨b,0,none⟩=some (.string name))(c1:w.cell? ⟨b,1,none⟩=some (.slice at_ ts.length ct))(c2:w.cell? ⟨b,2,none⟩=some (.slice ar rs.length cr))a0 a1 a2 H q wr pg pl ex y(I:Jax w a0 a1 a2 H q wr pg pl ex y):
  Calls prog 6 #[.agg #[.int .i64 1048576,.int .i64 0],.slice (some ⟨b,0,none⟩) 1 1] w fun e w'=>Below w.heap.size w w'/\∃ (st:Nat),e=.returned (.pointer (some ⟨st,0,none⟩))/\Ky3 w st [⟨name,at_,ct,ar,cr,ts,xs,rs⟩] 1 w':=by
 have K:=h.tab.2.2.1;refine Qa4 b 1 [⟨name,at_,ct,ar,cr,ts,xs,rs⟩] w (fun t ht=>?_) (fun i t hi=>?_) (Jm c0) zS zS (by simp[Ksd];omega) a0 a1 a2 H q wr pg pl ex y I
 ·rw[Oc6]at ht;subst ht;exact h
 match i,hi with
 |0,hi=>
  cases hi
  exact⟨c0,c1,c2⟩
theorem Jxy {W O I U name t v}(h0:W.heap[O]?=some (.cells #[.int .i64 t] 3 (0,0)))(H:W.heap[I]?=some (.cells #[.int .i64 v.k,.int .i64 v.n,.string v.s] 59 (0,0)))(Y:W.heap[U]?=some (.cells #[.slice (some ⟨I,0,none⟩) 1 1] 61 (0,0)))(ht:1<=t/\t<=3)(hn:1<=name.size/\name.size<=20)(hv:okB t v.k v.n v.s=true)(hi:Jg v.n):Uw W name (some ⟨O,0,none⟩) (some ⟨U,0,none⟩) 1 [t] [(some ⟨I,0,none⟩,1)] [[v]]:=by
 refine⟨⟨hn,⟨⟨zS,zS⟩,fun j K=>?_⟩,zS,fun i hi=>?_⟩,fun u y=>?_,fun r hr u y=>?_,.inr ⟨O,0,rfl,Jd h0,fun i u y=>?_⟩,⟨rfl,.inr ⟨U,0,rfl,Jd Y,fun i u y=>?_⟩,fun i x r M hr=>?_⟩,zS⟩
 ·have:j=0:=by simp at K;omega
  subst this;simp[Jnd,ht.1,ht.2]
 ·have:i=0:=by simp at hi;omega
  subst this;refine⟨rfl,fun j K=>?_⟩;have:j=0:=by simp at K;omega
  subst this;simpa using hv
 ·simp at y;subst y;unfold tOk;omega
 ·simp at hr;subst hr;simp at y;subst y;exact hi
 ·rcases i with _|i
  ·simp at y;subst y;simp[World.cell?,h0,iv]
  simp at y
 ·rcases i with _|i
  ·simp at y;subst y;simp[World.cell?,Y,Je1]
  simp at y
 rcases i with _|i
 ·simp at M hr;subst M hr;refine .inr ⟨I,0,rfl,Jd H,fun j u y=>?_⟩;rcases j with _|j
  ·simp at y;subst y;exact⟨by simp[World.cell?,H],by simp[World.cell?,H],by simp[World.cell?,H]⟩
  simp at y
 simp at M
def Jqc (w wx:World)(st:Nat)(name:ByteArray)(rs:List (List V)):Prop:=Below w.heap.size w wx/\∃ (y:Nat->Prop) (E:DS) (T:TS),Sto y wx st E [T]/\Jbc E [(T,rs)]/\T.name=name/\E.quota=1048576/\E.fail=0/\E.pages.length<=660*rs.length/\E.writes<=660*rs.length/\(∀ k,y k->w.heap.size<=k)
theorem Ks3.one {Φ w wx st t}(h:Ks3 Φ w st [t] 1 wx):∃ (y:Nat->Prop) (E:DS) (T:TS),Sto y wx st E [T]/\Jbc E [(T,t.rs)]/\(T.name=t.name/\T.types=t.ts)/\Φ 1 E [(T,t.rs)]/\E.pages.length<=660*t.rs.length/\E.writes<=660*t.rs.length/\(∀ k,y k->w.heap.size<=k):=by
 obtain⟨y,E,S,U,Y,Z,bf,bh,M,O,bi⟩:=h;match S,Z with
 |[(T,r)],_=>
  obtain⟨H,I,K⟩:=bf 0 t (T,r) rfl rfl;simp only at H I K;subst K;have hr:Ksd [t] 1=t.rs.length:=by simp[Ksd]
  rw[hr]at M O;exact⟨y,E,T,U,Y,⟨H,I⟩,bh,M,O,bi⟩
theorem Jwr {w X wx st t}(h:Ky3 X st [t] 1 wx)(hb:Below w.heap.size w X)(bf:Below X.heap.size X wx):Jqc w wx st t.name t.rs:=by
 obtain⟨y,E,T,H,I,K,⟨M,O⟩,U,Y,Z⟩:=h.one;exact⟨Jb hb bf,y,E,T,H,I,K.1,M,O,U,Y,fun k hk=>Ob2 hb.size (Z k hk)⟩
theorem Jrp {E T name rs}(h:Jbc E [(T,rs)])(hn:T.name=name):Jf8 E [T] name=some (.inl rs)/\∀ y∈[T],Jid E y:=by
 have ht:=h.tab (T,rs) zS;refine⟨?_,fun y H=>by simp at H;subst H;exact ht.ok⟩;unfold Jf8;simp[Ub,hn,ht.read]
abbrev Yh:ByteArray:=⟨#[111,110,101]⟩
abbrev Za:V:=⟨1,41,⟨#[]⟩⟩
theorem Kev w a0 a1 a2 bA q wr pg pl ex bz(bI:Jax w a0 a1 a2 bA q wr pg pl ex bz):
  Calls prog 16 #[] w fun e w'=>e=.returned (.bool true)/\Below w.heap.size w w':=by
 have bC:=zh bI;clear bI;go_enter func16,ntmps16
 go_upto_region 2 with fail
 obtain⟨W,hW⟩:∃ W,W=((((w.alloc (.cells #[.int .i64 1] 3)).alloc (.cells #[.int .i64 1,.int .i64 41,.string ⟨#[]⟩] 59)).alloc (.cells #[.slice (some ⟨w.heap.size+1,0,none⟩) 1 1] 61)).alloc (.cells #[.string ⟨#[111,110,101]⟩,.slice (some ⟨w.heap.size,0,none⟩) 1 1,.slice (some ⟨w.heap.size+1+1,0,none⟩) 1 1] 25)):=⟨_,rfl⟩;rw[<-hW];have bK:Below w.heap.size w W:=by rw[hW];exact((((Oa5 _ w).alloc (Oa2 _) _).alloc zS _).alloc zt _).alloc zt _
 have Z:W.heap[w.heap.size+1+1+1]?=some (.cells #[.string ⟨#[111,110,101]⟩,.slice (some ⟨w.heap.size,0,none⟩) 1 1,.slice (some ⟨w.heap.size+1+1,0,none⟩) 1 1] 25 (0,0)):=by rw[hW];exact Jb4 _ _ _ zS
 have bG:W.heap[w.heap.size+1+1]?=some (.cells #[.slice (some ⟨w.heap.size+1,0,none⟩) 1 1] 61 (0,0)):=by rw[hW,Oa9 _ _ _ zS];exact Jb4 _ _ _ zS
 have bE:W.heap[w.heap.size+1]?=some (.cells #[.int .i64 1,.int .i64 41,.string ⟨#[]⟩] 59 (0,0)):=by rw[hW,Oa9 _ _ _ zS,Oa9 _ _ _ zS];exact Jb4 _ _ _ zS
 have bD:W.heap[w.heap.size]?=some (.cells #[.int .i64 1] 3 (0,0)):=by rw[hW,Oa9 _ _ _ zt,Oa9 _ _ _ zt,Oa9 _ _ _ zS];exact Jb4 _ _ _ rfl
 have bZ:Hid (Uw W Yh (some ⟨w.heap.size,0,none⟩) (some ⟨w.heap.size+1+1,0,none⟩) 1 [1] [(some ⟨w.heap.size+1,0,none⟩,1)] [[Za]]):=Jxy (v:=Za) bD bE bG zd zd (by simp[okB,okK]) (by simp[Jg]);have bU:=zc 0 Z;have bV:=zc 1 Z;have bW:=zc 2 Z;clear hW bD bE bG Z;have bB:Hid (∀ X b,Below W.heap.size W X->X.heap[b]?=some (.cells #[.string ⟨#[111,110,101]⟩,.slice (some ⟨w.heap.size,0,none⟩) 1 1,.slice (some ⟨w.heap.size+1+1,0,none⟩) 1 1] 25 (0,0))->Calls prog 6 #[.agg #[.int .i64 1048576,.int .i64 0],.slice (some ⟨b,0,none⟩) 1 1] X fun e bh=>∃ st,e=.returned (.pointer (some ⟨st,0,none⟩))/\Jqc w bh st Yh [[Za]]/\Below X.heap.size X bh):=fun X b bi hb=>
  (Jl3 b Yh (some ⟨w.heap.size,0,none⟩) (some ⟨w.heap.size+1+1,0,none⟩) 1 1 [1] [(some ⟨w.heap.size+1,0,none⟩,1)] [[Za]] X (bZ.out.below bi) (by simp[World.cell?,hb]) (by simp[World.cell?,hb]) (by simp[World.cell?,hb]) a0 a1 a2 bA q wr pg pl ex bz (bC.out.below (Jb bK bi))).mono fun e bh ⟨bM,st,ci,hl⟩=>⟨st,ci,Jwr hl (Jb bK bi) bM,bM⟩
 go_cut [2] from 10 to 13 (fun s wx=>∃ st:Nat,s=.pointer (some ⟨st,0,none⟩)/\Jqc w wx st Yh [[Za]])
 case first=>
  refine wp_region_held_drew (S:=fun X=>X.cell? ⟨w.heap.size+1+1+1,0,none⟩=some (.string ⟨#[111,110,101]⟩)/\X.cell? ⟨w.heap.size+1+1+1,1,none⟩=some (.slice (some ⟨w.heap.size,0,none⟩) 1 1)/\X.cell? ⟨w.heap.size+1+1+1,2,none⟩=some (.slice (some ⟨w.heap.size+1+1,0,none⟩) 1 1)) zK ⟨bU,bV,bW⟩ (fun y=>?_);refine tkj 1 rfl y ?_;refine tkn ?_;have bN:Below W.heap.size W W.drew:=⟨rfl,rfl,rfl,Oa2 _,fun _ _=>rfl⟩;refine wpAnyH_ready (rs:=[0,2]) zK zS (AllReadyH.cons rfl (fun I hK=>?_) (AllReadyH.cons rfl (fun I hK=>?_) AllReadyH.nil));focus
   go_simp;refine(Jen _).mono ?_;rintro e H ⟨rfl,K⟩;have bk:Below W.heap.size W H:=Jb bN K;go_simp;refine hK.out _ _ ⟨Ja K y.1,Ja K y.2.1,Ja K y.2.2⟩ (fun y=>?_);clear hK I;refine tkr 2 rfl fun I hK=>?_;go_simp;have M:Below H.heap.size H (H.alloc (.cells #[.string ⟨#[111,110,101]⟩,.slice (some ⟨w.heap.size,0,none⟩) 1 1,.slice (some ⟨w.heap.size+1+1,0,none⟩) 1 1] 25)):=(Oa5 _ _).alloc (Oa2 _) _;have bf:=heap_alloc_new H (.cells #[.string ⟨#[111,110,101]⟩,.slice (some ⟨w.heap.size,0,none⟩) 1 1,.slice (some ⟨w.heap.size+1+1,0,none⟩) 1 1] 25);refine hK.out _ _ ⟨Ja M y.1,Ja M y.2.1,Ja M y.2.2⟩ (fun y=>?_);clear hK I;refine tkr 3 rfl fun I hK=>?_;go_simp;refine(bB.out _ _ (Jb bk M) bf).mono ?_
  rotate_left 1;focus
   go_simp;have M:Below W.heap.size W ((W.alloc (.cells #[.string ⟨#[111,110,101]⟩,.slice (some ⟨w.heap.size,0,none⟩) 1 1,.slice (some ⟨w.heap.size+1+1,0,none⟩) 1 1] 25)).drew):=Jb bN ((Oa5 _ W.drew).alloc (Oa2 _) (.cells #[.string ⟨#[111,110,101]⟩,.slice (some ⟨w.heap.size,0,none⟩) 1 1,.slice (some ⟨w.heap.size+1+1,0,none⟩) 1 1] 25));have bf:((W.alloc (.cells #[.string ⟨#[111,110,101]⟩,.slice (some ⟨w.heap.size,0,none⟩) 1 1,.slice (some ⟨w.heap.size+1+1,0,none⟩) 1 1] 25)).drew).heap[W.heap.size]?=_:=heap_alloc_new W (.cells #[.string ⟨#[111,110,101]⟩,.slice (some ⟨w.heap.size,0,none⟩) 1 1,.slice (some ⟨w.heap.size+1+1,0,none⟩) 1 1] 25);refine hK.out _ _ ⟨Ja M bU,Ja M bV,Ja M bW⟩ (fun y=>?_);clear hK I;refine tkr 0 rfl fun I hK=>?_;go_simp;refine(Jen _).mono ?_;rintro e H ⟨rfl,K⟩;have bk:Below W.heap.size W H:=Jb M K;have cf:H.heap[W.heap.size]?=_:=(K.block _ (Jd bf)).trans bf;go_simp;refine hK.out _ _ ⟨Ja K y.1,Ja K y.2.1,Ja K y.2.2⟩ (fun y=>?_);clear hK I;refine tkr 3 rfl fun I hK=>?_;go_simp;refine(bB.out _ _ bk cf).mono ?_
  all_goals
   rintro e cb ⟨st,rfl,bR,bx⟩;have bY:=zh bR;clear bR;go_simp;refine hK.out _ _ ⟨Ja bx y.1,Ja bx y.2.1,Ja bx y.2.2⟩ (fun y=>?_);clear hK I;refine tkj 4 rfl y ?_;refine tkn ?_;refine wpAnyH_done zK ?_ _;go_wp2_with fail
   go_meet
   case rel=>exact⟨st,rfl,bY.out⟩
 case rest=>
  obtain⟨st,rfl,bL,ca,E,T,bT,bS,cj,_⟩:=hcut;obtain⟨br,bP⟩:=Jrp bS cj;have bQ:=Kzg ca st E [T] Yh wc bT bP a0 a1 a2 bA q wr pg pl ex bz (bC.out.below bL) br;rw[br]at bQ;clear bT bS br bP;go_wp2_with (first|(go_at_call 27;refine bQ.mono ?_;rintro e H ⟨K,g,bs,rfl,bO⟩;have Y:=zh bO;clear bO))
  obtain⟨b1,rfl⟩:∃ b1,bs=[b1]:=by
   have:=Y.out.len;match bs,this with
   |[x],_=>exact⟨x,rfl⟩
  have bH:H.cell? ⟨g,0,none⟩=some (.slice (some ⟨b1,0,none⟩) 1 1):=Y.out.outer.cell (i:=0) zS;have bX:H.cell? ⟨b1,1,none⟩=some (.int .i64 41):=by
   rcases(Y.out.rows 0 b1 [Za] rfl rfl).vals with h|⟨cB,cD,bJ,_,hv⟩
   ·simp at h
   simp at bJ;obtain⟨rfl,rfl⟩:=bJ;have:=(hv 0 Za rfl).2.1;simpa using this
  have cC:=Jjl 0;have bj:Below H.heap.size H (H.alloc (.cells #[.int .i64 0,.int .i64 (-1),.int .i64 (-1),.int .i64 (-1),.int .i64 (-1)] 51)):=(Oa5 _ _).alloc (Oa2 _) _;have U:=heap_alloc_new H (.cells #[.int .i64 0,.int .i64 (-1),.int .i64 (-1),.int .i64 (-1),.int .i64 (-1)] 51);have cc:=Ja bj bH;have cz:=Ja bj bX;generalize H.alloc (.cells #[.int .i64 0,.int .i64 (-1),.int .i64 (-1),.int .i64 (-1),.int .i64 (-1)] 51)=cb at *;have cn:=zc 0 U;have cu:=zc 1 U;have cv:=zc 2 U;have cx:=zc 3 U;have cy:=zc 4 U;clear bH bX U Y;refine wp_region_held_drew (S:=fun X=>X.cell? ⟨H.heap.size,0,none⟩=some (.int .i64 0)/\X.cell? ⟨H.heap.size,1,none⟩=some (.int .i64 (-1))/\X.cell? ⟨H.heap.size,2,none⟩=some (.int .i64 (-1))/\X.cell? ⟨H.heap.size,3,none⟩=some (.int .i64 (-1))/\X.cell? ⟨H.heap.size,4,none⟩=some (.int .i64 (-1))/\X.cell? ⟨g,0,none⟩=some (.slice (some ⟨b1,0,none⟩) 1 1)/\X.cell? ⟨b1,1,none⟩=some (.int .i64 41)) zK ⟨cn,cu,cv,cx,cy,cc,cz⟩ (fun y=>?_);refine tkj 0 rfl y ?_;refine tkn ?_;refine tkr 1 rfl fun I hK=>?_;go_simp;refine(Jfu _).mono ?_;rintro e cA ⟨rfl,O⟩;go_simp;refine hK.out _ _ ⟨Ja O y.1,Ja O y.2.1,Ja O y.2.2.1,Ja O y.2.2.2.1,Ja O y.2.2.2.2.1,Ja O y.2.2.2.2.2.1,Ja O y.2.2.2.2.2.2⟩ (fun y=>?_);clear hK I;refine tkj 2 rfl y ?_;refine tkj 3 rfl y ?_;refine tkn ?_;refine tkj 4 rfl y ?_;refine tkj 5 rfl y ?_;refine tkj 6 rfl y ?_;refine tkj 7 rfl y ?_;refine tkj 8 rfl y ?_;refine tkn ?_;refine tkj 9 rfl y ?_;refine tkj 10 rfl y ?_;refine tkj 11 rfl y ?_;refine tkj 12 rfl y ?_;refine tkj 13 rfl y ?_;refine tkj 14 rfl y ?_;refine tkj 15 rfl y ?_;refine tkn ?_;refine tkj 16 rfl y ?_;refine tkj 17 rfl y ?_;refine tkj 18 rfl y ?_;refine tkj 19 rfl y ?_;refine tkj 20 rfl y ?_;refine tkj 21 rfl y ?_;refine tkj 22 rfl y ?_;refine tkj 23 rfl y ?_;refine tkj 24 rfl y ?_;refine tkn ?_;refine wpAnyH_done zK ?_ _;go_wp2;go_ret
  exact⟨rfl,Jb (Jb bL (Jb K bj)) (Jw O)⟩
theorem Jug.right {w w' name ts rs v}(h:Jug w w' name ts rs v)(hl:rs.length<=200)(hn:1<=name.size/\name.size<=20):∃ I K H rc xs,v=.agg #[.string name,.slice I ts.length K,.slice H rs.length rc]/\Uw w' name I H rc ts xs rs:=by
 obtain⟨I,K,H,rc,bs,hv,M,O,U,_⟩:=h.val;refine⟨I,K,H,rc,_,hv,⟨hn,⟨h.types.1,fun j y=>?_⟩,hl,fun i hi=>?_⟩,h.types.2,fun r hr u Y=>?_,M,O,U⟩
 ·have:=h.types.2 _ (Ob3 y);unfold tOk at this;unfold Jnd;simp only[decide_eq_true_iff];omega
 ·have:=h.rows _ (Ob3 hi);exact⟨this.1,fun j y=>(this.2 j y).1⟩
 have:=h.rows r hr;obtain⟨j,y,rfl⟩:=Od5 Y;exact(this.2 j y).2
end
section
open Go.RowKit
structure Ksh {α:Type} (P:α->Prop) (c:α->α->Int):Prop where
 neg:∀ x y,P x->P y->c y x=- c x y
 trans:∀ x y z,P x->P y->P z->c x y<=0->c y z<=0->c x z<=0
theorem Ksh.lex {α}{P:α->Prop}{c d:α->α->Int}(h:Ksh P c)(k:Ksh P d):Ksh P fun x y=>if c x y≠0 then c x y else d x y:=by
 refine⟨fun x y H hy=>?_,fun x y z H hy I=>?_⟩
 ·have O:=h.neg x y H hy;have U:=k.neg x y H hy;show (if c y x≠0 then c y x else d y x)=- (if c x y≠0 then c x y else d x y);by_cases e:c x y=0
  ·rw[if_neg zo,if_neg zo];exact U
  rw[if_pos zo,if_pos e];exact O
 have Z:=h.neg x y H hy;have bf:=h.neg y z hy I;have n3:=h.neg x z H I;have bh:=h.trans x y z H hy I;have bi:=h.trans z x y I H hy;have bj:=h.trans y z x hy I H;have bk:=h.trans z y x I hy H;have Y:=k.trans x y z H hy I;show (if c x y≠0 then c x y else d x y)<=0->(if c y z≠0 then c y z else d y z)<=0->(if c x z≠0 then c x z else d x z)<=0;by_cases M:c x y=0
 ·rw[if_neg zo];by_cases K:c y z=0
  ·rw[if_neg zo,if_neg zo];exact Y
  rw[if_pos K];intro a b;rw[if_pos zo];omega
 rw[if_pos M];by_cases K:c y z=0
 ·rw[if_neg zo];intro a b;rw[if_pos zo];omega
 rw[if_pos K];intro a b;rw[if_pos zo];omega
theorem Ksh.down {α}{P:α->Prop}{c:α->α->Int}(h:Ksh P c):Ksh P fun x y=>c y x:=
 ⟨fun x y H hy=>h.neg y x hy H,fun x y z H hy I a b=>h.trans z y x I hy H b a⟩
theorem Ksh.congr {α}{P:α->Prop}{c d:α->α->Int}(h:Ksh P c)(e:∀ x y,P x->P y->d x y=c x y):Ksh P d:=
 ⟨fun x y H hy=>by rw[e x y H hy,e y x hy H];exact h.neg x y H hy,fun x y z H hy I=>by rw[e x y H hy,e y z hy I,e x z H I];exact h.trans x y z H hy I⟩
theorem Ksh.pull {α β}{P:α->Prop}{c:α->α->Int}(h:Ksh P c)(f:β->α):Ksh (fun x=>P (f x)) fun x y=>c (f x) (f y):=
 ⟨fun x y=>h.neg (f x) (f y),fun x y z=>h.trans (f x) (f y) (f z)⟩
theorem Ksh.ordn {c P}(h:Ksh P c)(hp:∀ x,P x):Kse c:=⟨fun x y=>h.neg x y (hp x) (hp y),fun x y z=>h.trans x y z (hp x) (hp y) (hp z)⟩
theorem Ksh.mono {α}{P Q:α->Prop}{c:α->α->Int}(h:Ksh P c)(hq:∀ x,Q x->P x):Ksh Q c:=⟨fun x y a b=>h.neg x y (hq x a) (hq y b),fun x y z a b d=>h.trans x y z (hq x a) (hq y b) (hq z d)⟩
theorem Kxw:∀ x H:List UInt8,Lib.compareBytes H x=- Lib.compareBytes x H
 |[],[]=>rfl
 |_::_,[]=>rfl
 |[],_::_=>rfl
 |a::x,b::H=>by
  simp only[Lib.compareBytes,UInt8.lt_iff_toNat_lt];have I:=Kxw x H;by_cases h:a.toNat<b.toNat
  ·have y:¬ b.toNat<a.toNat:=zo;simp[h,y]
  by_cases y:b.toNat<a.toNat
  ·simp[h,y]
  simp[h,y,I]
theorem Ku9:∀ x H z:List UInt8,Lib.compareBytes x H<=0->Lib.compareBytes H z<=0->Lib.compareBytes x z<=0
 |[],_,[]=>fun _ _=>by simp[Lib.compareBytes]
 |[],_,_::_=>fun _ _=>by simp[Lib.compareBytes]
 |_::_,[],_=>fun h _=>by simp[Lib.compareBytes]at h
 |_::_,_::_,[]=>fun _ h=>by simp[Lib.compareBytes]at h
 |a::x,b::H,c::z=>by
  simp only[Lib.compareBytes,UInt8.lt_iff_toNat_lt];have O:=Ku9 x H z;by_cases K:a.toNat<b.toNat
  ·rw[if_pos K];by_cases I:b.toNat<c.toNat
   ·intro _ _;rw[if_pos zo];omega
   rw[if_neg I];by_cases y:c.toNat<b.toNat
   ·rw[if_pos y];intro _ h;omega
   intro _ _;rw[if_pos zo];omega
  rw[if_neg K];by_cases M:b.toNat<a.toNat
  ·rw[if_pos M];intro h;omega
  rw[if_neg M];by_cases I:b.toNat<c.toNat
  ·intro _ _;rw[if_pos zo];omega
  rw[if_neg I];by_cases y:c.toNat<b.toNat
  ·rw[if_pos y];intro _ h;omega
  rw[if_neg y,if_neg zo,if_neg zo];exact O
theorem Kvo:Ksh (fun _:V=>True) Jxt:=by
 refine⟨fun x y _ _=>?_,fun x y z _ _ _=>?_⟩
 ·unfold Jxt;have:=Kxw x.s.data.toList y.s.data.toList;by_cases h:x.n<y.n
  ·rw[if_neg zo,if_pos h,if_pos h];rfl
  by_cases H:y.n<x.n
  ·rw[if_pos H,if_neg h,if_pos H]
  rw[if_neg H,if_neg h,if_neg h,if_neg H];exact this
 unfold Jxt;have:=Ku9 x.s.data.toList y.s.data.toList z.s.data.toList;by_cases M:x.n<y.n
 ·rw[if_pos M];by_cases K:y.n<z.n
  ·intro _ _;rw[if_pos zo];omega
  rw[if_neg K];by_cases I:z.n<y.n
  ·rw[if_pos I];intro _ h;omega
  intro _ _;rw[if_pos zo];omega
 rw[if_neg M];by_cases H:y.n<x.n
 ·rw[if_pos H];intro h;omega
 rw[if_neg H];by_cases K:y.n<z.n
 ·intro _ _;rw[if_pos zo];omega
 rw[if_neg K];by_cases I:z.n<y.n
 ·rw[if_pos I];intro _ h;omega
 rw[if_neg I,if_neg zo,if_neg zo];exact this
def Kvy (a b:V)(d:Bool):Int:=if a.beq b=true then 0 else if a.k=0 then -1 else if b.k=0 then 1 else if d=true then Jxt b a else Jxt a b
def OkT (t:Int)(v:V):Prop:=v=⟨0,0,⟨#[]⟩⟩\/(v.k=t/\t≠0)
def Kz9 (a b:V):Int:=(if a.k=0 then 0 else 1)-(if b.k=0 then 0 else 1)
theorem Qau:Ksh (fun _:V=>True) Kz9:=⟨fun x y _ _=>by unfold Kz9;omega,fun x y z _ _ _ a b=>by unfold Kz9 at *;omega⟩
theorem Kz6 a:Jxt a a=0:=by have:=Kvo.neg a a trivial trivial;omega
theorem Qaf t d:Ksh (OkT t) fun a b=>Kvy a b d:=by
 have h:Ksh (OkT t) fun a b=>if Kz9 a b≠0 then Kz9 a b else (if d=true then Jxt b a else Jxt a b):=by
  refine(Qau.lex ?_).mono fun _ _=>trivial;cases d
  ·exact Kvo.congr fun x H _ _=>by simp
  exact Kvo.down.congr fun x H _ _=>by simp
 refine h.congr fun x H K hy=>?_;unfold Kvy Kz9;by_cases e:x=H
 ·subst e;rw[if_pos ((V.beq_iff x x).2 rfl),if_neg zo];split<;>exact(Kz6 x).symm
 rw[if_neg (fun hh=>e ((V.beq_iff x H).1 hh))];by_cases I:x.k=0
 ·rw[if_pos I];by_cases y:H.k=0
  ·exfalso;rcases K with K|K
   ·rcases hy with hy|hy
    ·exact e (K.trans hy.symm)
    omega
   omega
  rw[if_neg y,if_pos I,if_pos zo];rfl
 rw[if_neg I,if_neg I];by_cases y:H.k=0
 ·rw[if_pos y,if_pos y,if_pos zo];rfl
 rw[if_neg y,if_neg y];simp
def Ks6:List Krv->(Nat->V)->(Nat->V)->Int
 |[],_,_=>0
 |k::ks,r,s=>if Kvy (r k.c) (s k.c) k.d≠0 then Kvy (r k.c) (s k.c) k.d else Ks6 ks r s
theorem Kxx (ts:Nat->Int):∀ ks:List Krv,Ksh (fun r:Nat->V=>∀ k∈ks,OkT (ts k.c) (r k.c)) (Ks6 ks)
 |[]=>⟨fun _ _ _ _=>rfl,fun _ _ _ _ _ _ _ _=>Int.le_refl 0⟩
 |k::ks=>by
  have H:=((Qaf (ts k.c) k.d).pull fun r:Nat->V=>r k.c).mono (Q:=fun r:Nat->V=>∀ y∈k::ks,OkT (ts y.c) (r y.c)) fun r h=>h k zS;exact H.lex ((Kxx ts ks).mono fun r h y hk=>h y (Og1 _ hk))
def Kr4 (cs:List (List V))(i:Nat):Nat->V:=fun j=>(cs.getD j []).getD i ⟨0,0,⟨#[]⟩⟩
theorem Kxt (ts:Nat->Int)ks cs(h:∀ k∈ks,∀ v∈cs.getD k.c [],OkT (ts k.c) v):Kse fun i j=>Ks6 ks (Kr4 cs i) (Kr4 cs j):=
 ((
  Kxx ts ks).pull (Kr4 cs)).ordn fun i k hk=>by
  unfold Kr4;rw[Oa0];cases e:(cs.getD k.c [])[i]? with
  |none=>exact .inl rfl
  |some v=>exact h k hk v (Of6 e)
end
section
open Go.RowKit Go.Shelf Tryz
theorem zar {p:Prop}(h:p:=by
 unfold V.val at *;go_enter func239,ntmps239
 go_wp2;go_ret
 exact⟨rfl,Jc (Jc (Oa5 _ _) _) _⟩):p:=h
theorem zaD {p:Prop}(h:p:=by
 go_wp2_with (go_at_call 236;refine(M _).mono ?_;rintro e X ⟨rfl,K⟩)
 go_ret
 exact⟨rfl,Qx (Qx K)⟩):p:=h
theorem Kvw a b d w:Calls prog 239 #[a.val,b.val,.bool d] w fun e w'=>e=.returned (.int .i64 (Kvy a b d))/\Below w.heap.size w w':=by
 unfold Kvy;by_cases H:a=b
 ·have Y:=Jhz a b H;rw[if_pos ((V.beq_iff a b).2 H)];clear H;exact zar
 have Y:=Jh8 a b H;rw[if_neg (fun hh=>H ((V.beq_iff a b).1 hh))];clear H;by_cases y:a.k=0
 ·rw[if_pos y];have O:(a.k==0)=true:=by simp[y]
  have Z:=zh y;clear y;exact zar
 rw[if_neg y];have O:(a.k==0)=false:=by simp[y]
 clear y;by_cases I:b.k=0
 ·rw[if_pos I];have U:(b.k==0)=true:=by simp[I]
  clear I;exact zar
 rw[if_neg I];have U:(b.k==0)=false:=by simp[I]
 clear I;cases d
 ·have M:=fun X=>Kl5 a b X;unfold V.val at *;go_enter func239,ntmps239
  exact zaD
 have M:=fun X=>Kl5 b a X;unfold V.val at *;go_enter func239,ntmps239
 exact zaD
theorem Kxz {cs i j c}(y:cs.getD j []=c)(hi:i<c.length):Kr4 cs i j=c[i]:=by
 unfold Kr4;rw[y,Oa0,Oa3 hi];rfl
theorem Kt4 sb kb ko kc ks bj cp hs cs i bk bZ bS H y w(hk:w.cell? ⟨sb,1,none⟩=some (.slice (some ⟨kb,ko,none⟩) ks.length kc))(hK:Klj w kb ko ks)(cx:ks.length<=1000000)(hC:Qd w bj hs cs)(bN:Qd w bk bS H)(bL:∀ k∈ks,k.c<cs.length/\i<(cs.getD k.c []).length)(bM:∀ k∈ks,k.c<H.length/\y<(H.getD k.c []).length):
  Calls prog 204 #[.pointer (some ⟨sb,0,none⟩),.slice (some ⟨bj,0,none⟩) cs.length cp,.int .i64 (i:Nat),.slice (some ⟨bk,0,none⟩) H.length bZ,.int .i64 (y:Nat)] w
   fun e w'=>e=.returned (.int .i64 (Ks6 ks (Kr4 cs i) (Kr4 H y)))/\Below w.heap.size w w':=by
 have bX:Hid (∀ k∈ks,(k.c<cs.length/\i<(cs.getD k.c []).length)/\k.c<H.length/\y<(H.getD k.c []).length):=fun k hk=>⟨bL k hk,bM k hk⟩;clear bL bM;go_enter func204,ntmps204
 go_wp2;go_loopw [19] (fun iv wr=>∃ t:Nat,iv=.int .i64 t/\t<=ks.length/\Below w.heap.size w wr/\Hid (Ks6 ks (Kr4 cs i) (Kr4 H y)=Ks6 (ks.drop t) (Kr4 cs i) (Kr4 H y))) (fun iv _=>ks.length-(intOf iv).toNat)
 case atStart=>exact⟨0,rfl,zo,Oa5 _ _,rfl⟩
 case round=>
  rename_i iv
  obtain⟨t,rfl,ht,Z,bi⟩:=hrel;by_cases bD:t<ks.length
  ·have ca:(t:Int)<(ks.length:Int):=zo;obtain⟨ky,bh⟩:∃ ky,ks[t]?=some ky:=⟨_,Oa3 bD⟩;obtain⟨⟨bT,bU⟩,bV,bW⟩:=bX.out ky (Of6 bh);obtain⟨cc,cf,ci,cj⟩:=hK.below Z t ky bh;have bR:ks.drop t=ky::ks.drop (t+1):=by rw[Oi1 bD];rw[Oa3 bD]at bh;simp at bh;rw[bh]
   have a0:=(hC.below Z).row.cell bT;have b0:=(bN.below Z).row.cell bV;obtain⟨M,O,bO,cB,a1,a2,bf⟩:=((hC.below Z).vals _ bT).at bU;obtain⟨I,K,bP,cA,b1,b2,b3⟩:=((bN.below Z).vals _ bV).at bW;rw[bO]at a0;rw[bP]at b0;have bJ:(cs.getD ky.c [])[i]=Kr4 cs i ky.c:=(Kxz rfl bU).symm;have bK:(H.getD ky.c [])[y]=Kr4 H y ky.c:=(Kxz rfl bW).symm;rw[bJ]at a1 a2 bf;rw[bK]at b1 b2 b3;have bx:Hid (Ks6 ks (Kr4 cs i) (Kr4 H y)=if Kvy (Kr4 cs i ky.c) (Kr4 H y ky.c) ky.d≠0 then Kvy (Kr4 cs i ky.c) (Kr4 H y ky.c) ky.d else Ks6 (ks.drop (t+1)) (Kr4 cs i) (Kr4 H y)):=by show _=_;rw[bi.out,bR];rfl
   generalize Kr4 cs i ky.c=v at *;generalize Kr4 H y ky.c=u at *;have bG:Hid (∀ X,Calls prog 239 #[v.val,u.val,.bool ky.d] X fun e w'=>e=.returned (.int .i64 (Kvy v u ky.d))/\Below X.heap.size X w'):=fun X=>Kvw v u ky.d X;have cn:=zh bi;clear bi bR bO bP bJ bK bh;generalize (cs.getD ky.c []).length=bz at *;generalize (H.getD ky.c []).length=bA at *;generalize Kvy v u ky.d=o at *;have cy:(i:Int)<(bz:Int):=zo;have cz:(y:Int)<(bA:Int):=zo;have cu:(ky.c:Int)<(cs.length:Int):=zo;have cv:(ky.c:Int)<(H.length:Int):=zo;go_wp2_with fail
   have bE:(wr.alloc (.cells #[.int .i64 (ky.c:Nat),.int .i64 ky.o,.bool ky.d,.int .i64 (ky.f:Nat)] 44)).cell? ⟨wr.heap.size,0,none⟩=some (.int .i64 (ky.c:Nat)):=zS;have z2:(wr.alloc (.cells #[.int .i64 (ky.c:Nat),.int .i64 ky.o,.bool ky.d,.int .i64 (ky.f:Nat)] 44)).cell? ⟨wr.heap.size,2,none⟩=some (.bool ky.d):=zS;have Y:=Jc (Oa5 wr.heap.size wr) (.cells #[.int .i64 (ky.c:Nat),.int .i64 ky.o,.bool ky.d,.int .i64 (ky.f:Nat)] 44);have bQ:=Jb Z Y;replace a0:=Ja Y a0;replace b0:=Ja Y b0;replace a1:=Ja Y a1;replace a2:=Ja Y a2;replace bf:=Ja Y bf;replace b1:=Ja Y b1;replace b2:=Ja Y b2;replace b3:=Ja Y b3;clear cc cf ci cj Y Z;generalize wr.alloc (.cells #[.int .i64 (ky.c:Nat),.int .i64 ky.o,.bool ky.d,.int .i64 (ky.f:Nat)] 44)=bI at *;generalize (Yo hs ky.c).2=c1 at *;generalize (Yo bS ky.c).2=c2 at *;generalize wr.heap.size=g at *;have bH:Hid (∀ X,Below bI.heap.size bI X->_):=fun X U=>(show (fun X=>X.cell? ⟨g,0,none⟩=some (.int .i64 (ky.c:Nat))/\X.cell? ⟨g,2,none⟩=some (.bool ky.d)/\X.cell? ⟨bj,ky.c,none⟩=some (.slice (some ⟨M,O,none⟩) bz c1)/\X.cell? ⟨bk,ky.c,none⟩=some (.slice (some ⟨I,K,none⟩) bA c2)/\X.cell? ⟨M,O+i*3,none⟩=some (.int .i64 v.k)/\X.cell? ⟨M,O+i*3+1,none⟩=some (.int .i64 v.n)/\X.cell? ⟨M,O+i*3+2,none⟩=some (.string v.s)/\X.cell? ⟨I,K+y*3,none⟩=some (.int .i64 u.k)/\X.cell? ⟨I,K+y*3+1,none⟩=some (.int .i64 u.n)/\X.cell? ⟨I,K+y*3+2,none⟩=some (.string u.s)) X from ⟨Ja U bE,Ja U z2,Ja U a0,Ja U b0,Ja U a1,Ja U a2,Ja U bf,Ja U b1,Ja U b2,Ja U b3⟩);by_cases ho:o=0
   ·have cb:(o != 0)=false:=(by simp[ho]);have bB:Hid (Ks6 ks (Kr4 cs i) (Kr4 H y)=Ks6 (ks.drop (t+1)) (Kr4 cs i) (Kr4 H y)):=by show _=_;rw[bx.out,if_neg (fun h=>h ho)]
    clear ho bx;go_region_held3 (fun X=>X.cell? ⟨g,0,none⟩=some (.int .i64 (ky.c:Nat))/\X.cell? ⟨g,2,none⟩=some (.bool ky.d)/\X.cell? ⟨bj,ky.c,none⟩=some (.slice (some ⟨M,O,none⟩) bz c1)/\X.cell? ⟨bk,ky.c,none⟩=some (.slice (some ⟨I,K,none⟩) bA c2)/\X.cell? ⟨M,O+i*3,none⟩=some (.int .i64 v.k)/\X.cell? ⟨M,O+i*3+1,none⟩=some (.int .i64 v.n)/\X.cell? ⟨M,O+i*3+2,none⟩=some (.string v.s)/\X.cell? ⟨I,K+y*3,none⟩=some (.int .i64 u.k)/\X.cell? ⟨I,K+y*3+1,none⟩=some (.int .i64 u.n)/\X.cell? ⟨I,K+y*3+2,none⟩=some (.string u.s))
     (first|(exact⟨bE,z2,a0,b0,a1,a2,bf,b1,b2,b3⟩)|(exact bC)|(go_split_ands;refine⟨?_,?_,?_,?_,?_,?_,?_,?_,?_,?_⟩<;>assumption))
     (first|(go_at_call 239;refine(bG.out _).mono ?_;rintro e X ⟨rfl,br⟩;have bC:=bH.out X (Jw br)))
    go_wp2;go_roundw
    case rel=>exact⟨t+1,zn,zo,Jb bQ (Jw br),bB.out⟩
    case measure=>simp[intOf];omega
   have cb:(o != 0)=true:=(by simp[ho]);have bB:Hid (Ks6 ks (Kr4 cs i) (Kr4 H y)=o):=by show _=_;rw[bx.out,if_pos ho]
   clear ho bx;go_region_held3 (fun X=>X.cell? ⟨g,0,none⟩=some (.int .i64 (ky.c:Nat))/\X.cell? ⟨g,2,none⟩=some (.bool ky.d)/\X.cell? ⟨bj,ky.c,none⟩=some (.slice (some ⟨M,O,none⟩) bz c1)/\X.cell? ⟨bk,ky.c,none⟩=some (.slice (some ⟨I,K,none⟩) bA c2)/\X.cell? ⟨M,O+i*3,none⟩=some (.int .i64 v.k)/\X.cell? ⟨M,O+i*3+1,none⟩=some (.int .i64 v.n)/\X.cell? ⟨M,O+i*3+2,none⟩=some (.string v.s)/\X.cell? ⟨I,K+y*3,none⟩=some (.int .i64 u.k)/\X.cell? ⟨I,K+y*3+1,none⟩=some (.int .i64 u.n)/\X.cell? ⟨I,K+y*3+2,none⟩=some (.string u.s))
    (first|(exact⟨bE,z2,a0,b0,a1,a2,bf,b1,b2,b3⟩)|(exact bC)|(go_split_ands;refine⟨?_,?_,?_,?_,?_,?_,?_,?_,?_,?_⟩<;>assumption))
    (first|(go_at_call 239;refine(bG.out _).mono ?_;rintro e X ⟨rfl,br⟩;have bC:=bH.out X (Jw br)))
   go_wp2;go_ret
   exact⟨Yp bB.out.symm,Jb bQ (Jw br)⟩
  have ca:¬ (t:Int)<(ks.length:Int):=zo;have bY:Hid (Ks6 ks (Kr4 cs i) (Kr4 H y)=0):=by show _=_;rw[bi.out,List.drop_eq_nil_of_le zo];rfl
  clear bi;go_wp2;go_ret
  exact⟨Yp bY.out.symm,Z⟩
structure Kw7 (w:World) (sb kb ko kc:Nat) (ks:List Krv):Prop where
 cell:w.cell? ⟨sb,1,none⟩=some (.slice (some ⟨kb,ko,none⟩) ks.length kc)
 keys:Klj w kb ko ks
theorem Kw7.below {w w' sb kb ko kc ks}(h:Kw7 w sb kb ko kc ks)(hb:Below w.heap.size w w'):Kw7 w' sb kb ko kc ks:=⟨Ja hb h.cell,h.keys.below hb⟩
structure Qag (ks:List Krv) (cs:List (List V)) (n:Nat):Prop where
 len:∀ j,j<cs.length->(cs.getD j []).length=n
 in_:∀ k∈ks,k.c<cs.length
 few:cs.length<=1000
 some_:1<=cs.length
 many:n<=100000
 keys:ks.length<=1000000
theorem Qag.at {ks cs n i}(h:Qag ks cs n)(hi:i<n):∀ k∈ks,k.c<cs.length/\i<(cs.getD k.c []).length:=fun k hk=>⟨h.in_ k hk,by rw[h.len _ (h.in_ k hk)];exact hi⟩
theorem Qbb w0 w b I K sb kb ko kc ks H cp hs cs n(hb:w0.heap.size<=b)(hw:Below w0.heap.size w0 w)(hp:w0.cell? ⟨I,0,none⟩=some (.pointer (some ⟨sb,0,none⟩)))(hq:w0.cell? ⟨K,0,none⟩=some (.slice (some ⟨H,0,none⟩) cs.length cp))(hK:Kw7 w0 sb kb ko kc ks)(hC:Qd w0 H hs cs)(hk:Qag ks cs n):
  Kt5 w b n ⟨I,0,none⟩ ⟨K,0,none⟩ fun i j=>Ks6 ks (Kr4 cs i) (Kr4 cs j):=by
 intro W hW x Z Y hy;have y:Below w0.heap.size w0 W:=hw.trans (hW.below (fun k hk U=>by simp only[Ksy]at U;omega) hw.size);have O:=Kt4 sb kb ko kc ks H cp hs cs x H cp hs cs Z W (hK.below y).cell (hK.below y).keys hk.keys (hC.below y) (hC.below y) (hk.at Y) (hk.at hy);have bf:=Ja y hp;have bh:=Ja y hq;go_enter func203,ntmps203
 go_wp2_with (go_at_call 204;refine O.mono ?_;rintro e X ⟨rfl,M⟩)
 go_ret
 exact⟨rfl,M⟩
def Ktn (n:Nat)(g:Nat->Nat):List Int:=(List.range n).map fun i=>(g i:Int)
theorem Kwc n g:(Ktn n g).length=n:=by simp[Ktn]
theorem Kr7.ints {w b n g}(h:Kr7 w b n g):Kc w (some ⟨b,0,none⟩) (Ktn n g):=by
 refine .inr ⟨b,0,rfl,h.lt,fun j v y=>?_⟩;have H:j<n:=by
  have:=(Ob9.1 y).1;simpa [Ktn] using this
 simp[Ktn,List.getElem?_range H]at y;subst y;have:=h.cell j H;rw[Od0];exact this
structure Qb7 (ks:List Krv) (cs:List (List V)) (n:Nat) (g:Nat->Nat):Prop where
 arr:Arr 0 n (fun x=>x) g
 srt:Srt (fun i j=>Ks6 ks (Kr4 cs i) (Kr4 cs j)) 0 n g
def Kzr (w w':World)(hs:List (Option Addr×Nat))(k:Nat):Prop:=∀ j,j<k->∀ b o,(Yo hs j).1=some ⟨b,o,none⟩->w.heap.size<=b/\b<w'.heap.size
theorem Kvu sb kb ko kc ks H cp hs cs n w(hK:Kw7 w sb kb ko kc ks)(hC:Qd w H hs cs)(hk:Qag ks cs n)(ho:Kse fun i j=>Ks6 ks (Kr4 cs i) (Kr4 cs j)):
  Calls prog 154 #[.pointer (some ⟨sb,0,none⟩),.slice (some ⟨H,0,none⟩) cs.length cp] w fun e w'=>Below w.heap.size w w'/\∃ bk g K,e=.returned (.slice (some ⟨bk,0,none⟩) cs.length cs.length)/\w.heap.size<=bk/\Qb7 ks cs n g/\Qd w' bk K (cs.map (Yq (Ktn n g)))/\Kzr w w' K cs.length:=by
 have cf:∀ W,(Instr.makeSlice 22 (.int .i64 (n:Int)) (.int .i64 (n:Int))).run prog W=.ok (.slice (some ⟨W.heap.size,0,none⟩) n n) (W.alloc (.cells (madeCells #[.int .i64 0] n) 3)):=
  fun W=>run_make_row' 22 3 (.int .i64 0) 8 zK Zw rfl .i64 .i64 n (by have:=hk.many;omega) (by have:=hk.many;omega) W
 have h0:=hC.row.cell (i:=0) hk.some_;rw[hk.len 0 hk.some_]at h0;have bZ:=hk.some_;have bM:∀ X,Below w.heap.size w X->Calls prog 55 #[.slice (some ⟨H,0,none⟩) cs.length cp] X fun e w'=>e=.returned (.int .i64 (n:Int))/\w'=X:=fun X bI=>Jlg H cs.length cp _ n _ X bZ (Ja bI h0);have bR:=zh bM;have hn:=hk.many;clear bM h0;go_enter func154,ntmps154
 go_wp2_with (go_at_call 55;refine(bR.out _ (Jc (Jc (Oa5 _ _) _) _)).mono ?_;rintro e X ⟨rfl,bI⟩;subst X)
 have bf:Below w.heap.size w (((w.alloc (.cells #[.pointer (some ⟨sb,0,none⟩)] 300)).alloc (.cells #[.slice (some ⟨H,0,none⟩) cs.length cp] 76))):=Jc (Jc (Oa5 _ _) _) _;have bB:(((w.alloc (.cells #[.pointer (some ⟨sb,0,none⟩)] 300)).alloc (.cells #[.slice (some ⟨H,0,none⟩) cs.length cp] 76))).cell? ⟨w.heap.size,0,none⟩=some (.pointer (some ⟨sb,0,none⟩)):=zS;have bj:(((w.alloc (.cells #[.pointer (some ⟨sb,0,none⟩)] 300)).alloc (.cells #[.slice (some ⟨H,0,none⟩) cs.length cp] 76))).cell? ⟨w.heap.size+1,0,none⟩=some (.slice (some ⟨H,0,none⟩) cs.length cp):=zS;have bA:(((w.alloc (.cells #[.pointer (some ⟨sb,0,none⟩)] 300)).alloc (.cells #[.slice (some ⟨H,0,none⟩) cs.length cp] 76))).heap.size=w.heap.size+1+1:=zS;generalize (w.alloc (.cells #[.pointer (some ⟨sb,0,none⟩)] 300)).alloc (.cells #[.slice (some ⟨H,0,none⟩) cs.length cp] 76)=M at *;obtain⟨b,hb⟩:∃ b,b=w.heap.size+1+1:=⟨_,rfl⟩;rw[<-hb]at bA |-;have ca:=zh hb;have Z:=zh bA;obtain⟨Y,bO⟩:∃ Y,Y=w.heap.size+1:=⟨_,rfl⟩;rw[<-bO]at bj |-;obtain⟨bi,bN⟩:∃ bi,bi=w.heap.size:=⟨_,rfl⟩;rw[<-bN]at bB |-;clear hb bA bN bO;go_loopw [12] (fun iv wr=>∃ t:Nat,iv=.int .i64 t/\t<=n/\Kr7 wr b n (fun k=>if k<t then k else 0)/\Below M.heap.size M wr) (fun iv _=>n-(intOf iv).toNat)
 case atStart=>
  refine⟨0,rfl,Ob7 _,?_,(Oa5 _ _).alloc (Oa2 _) _⟩;have I:=Ol3 M (.int .i64 0) n 3;rw[Z.out]at I;exact⟨I.lt,fun i hi=>by rw[I.cell hi];simp,fun i hi=>I.frozen i⟩
 case round=>
  rename_i iv
  obtain⟨t,rfl,ht,hR,U⟩:=hrel;by_cases bz:t<n
  ·have bY:(t:Int)<(n:Int):=zo;have ct:=hR.cell t bz;have cc:=hR.froz t bz;have bQ:=(hR.set bz t).congr (g:=fun k=>if k<t+1 then k else 0) (by
    funext k
    by_cases e:k=t
    ·rw[if_pos e,if_pos zo];omega
    rw[if_neg e];by_cases bC:k<t
    ·rw[if_pos bC,if_pos zo]
    rw[if_neg bC,if_neg zo])
   have bT:Hid _:=bQ;clear bQ;go_wp2;go_roundw
   case rel=>exact⟨t+1,zn,zo,bT.out,U.setCell (by have:=Z.out;simp;omega) _⟩
   case measure=>simp[intOf];omega
  have bY:¬ (t:Int)<(n:Int):=zo;obtain rfl:t=n:=zo;have bG:Kr7 wr b t (fun k=>k):=⟨hR.lt,fun i hi=>by have:=hR.cell i hi;simpa [hi] using this,hR.froz⟩;have bK:=Qbb M wr b bi Y sb kb ko kc ks H cp hs cs t (by have:=Z.out;omega) U bB bj (hK.below bf) (hC.below bf) hk;have bP:=Kys b t t t ⟨bi,0,none⟩ ⟨Y,0,none⟩ _ ho (fun k=>k) wr zo bG (fun i hi=>hi) bK (fun i j _ h _ _=>h);unfold Kta at bP;have bS:Hid (∀ y g,Kr7 y b t g->Ju (Ksy b) wr y->Qb7 ks cs t g->Below w.heap.size w y/\y.cell? ⟨Y,0,none⟩=some (.slice (some ⟨H,0,none⟩) cs.length cp)/\Calls prog 108 #[.slice (some ⟨H,0,none⟩) cs.length cp,.slice (some ⟨b,0,none⟩) t t] y fun e w'=>Below y.heap.size y w'/\e=.returned (.slice (some ⟨y.heap.size,0,none⟩) cs.length cs.length)/\∃ K,Qd w' y.heap.size K (cs.map (Yq (Ktn t g)))/\Kzr y w' K cs.length):=by
   intro y g bx br bV;have bJ:Below M.heap.size M y:=U.trans (br.below (fun k hk bX=>by simp only[Ksy]at bX;have:=Z.out;omega) U.size);have O:=Jb bf bJ;have bh:=Jzq H cp hs cs t (some ⟨b,0,none⟩) t (Ktn t g) y (hC.below O) hk.len bx.ints (fun m I=>by
    simp only[Ktn,Of0,Oj4]at I;obtain⟨i,hi,rfl⟩:=I;obtain⟨x,_,ci,e⟩:=bV.arr.at (k:=i) ⟨Ob7 _,hi⟩;right;omega) hk.few (by rw[Kwc];exact hn)
   rw[Kwc]at bh;exact⟨O,Ja bJ bj,bh⟩
  clear bK hR bG U bj bB bf;go_wp2_with (first|(go_at_call 202;refine bP.mono ?_;rintro e y ⟨rfl,g,bx,br,bD,bH⟩;obtain⟨O,cj,bh⟩:=bS.out y g bx br ⟨bD,bH⟩)|(go_at_call 108;refine bh.mono ?_;rintro e cb ⟨bW,rfl,K,bU,bE⟩))
  go_ret
  exact⟨Jb O bW,y.heap.size,g,K,rfl,O.size,⟨bD,bH⟩,bU,fun j bL b o e=>⟨Ob2 O.size (bE j bL b o e).1,(bE j bL b o e).2⟩⟩
def Ksq (ts:List Int)(cs:List (List V))(c:Nat):List UInt8:=Jav (ts.getD c 0) 0 (cs.getD c [])
def Kr3 (ts:List Int)(cs:List (List V))(k:Nat):List UInt8:=(List.range k).flatMap (Ksq ts cs)
def Ks8 (ts:List Int)(cs:List (List V))(k:Nat):List Nat:=(List.range k).map fun c=>(Ksq ts cs c).length
theorem Ksj ts cs k:Kr3 ts cs (k+1)=Kr3 ts cs k++Ksq ts cs k:=by simp[Kr3,List.range_succ]
theorem Kzp ts cs k:Ks8 ts cs (k+1)=Ks8 ts cs k++[(Ksq ts cs k).length]:=by simp[Ks8,List.range_succ]
theorem Kw1 ts cs k d:(Kr3 ts cs k).length<=(Kr3 ts cs (k+d)).length:=by
 induction d with
 |zero=>exact Oa2 _
 |succ d y=>rw[<-On5,Ksj,Oa8];omega
theorem Ktg ts cs k:(Ks8 ts cs k).length=k:=by simp[Ks8]
structure Kyh (ts:List Int) (cs:List (List V)) (n:Nat):Prop where
 len:cs.length=ts.length
 vals:∀ c,c<ts.length->(cs.getD c []).length=n
 ok:∀ c,c<ts.length->way (ts.getD c 0) 0=true/\Jdq (ts.getD c 0) (cs.getD c [])
 few:1<=ts.length/\ts.length<=1000
 text:(Kr3 ts cs ts.length).length<=1000000
def Qbw (w:World)(F:Nat->Prop)(d:Nat)(q wr:Addr)(n:Nat)(lens:List Nat)(r:DS×List Nat×Option Bool)(e:Ending)(w':World):Prop:=
 Ju F w w'/\∃ FD:Nat->Prop,Zb w' FD d (match r.2.2 with|none=>r.1|some _=>Jf4 r.1 r.2.1)/\(∀ k,FD k->F k\/w.heap.size<=k)/\(∀ k,FD k->k<w'.heap.size) /\
  match r.2.2 with
  |none=>∃ y H,e=.returned (.tuple #[.agg #[.int .i64 (n:Nat),y,H],.nilIface])/\(Jo w' w.heap.size 3 y (lens.map nv)/\∀ g,y.ownBlock=some g->¬ FD g)/\Jo w' w.heap.size 3 H (r.2.1.map nv)/\∀ g,H.ownBlock=some g->¬ FD g
  |some x=>∃ b,e=.returned (.tuple #[.agg #[.int .i64 0,.slice none 0 0,.slice none 0 0],.iface 156 (.pointer (some ⟨b,0,none⟩))])/\w.heap.size<=b/\Yu w' (.iface 156 (.pointer (some ⟨b,0,none⟩))) (if x then q else wr) none (some (-1))/\¬ FD b
theorem Ksm {w:World}{b:Nat}{x y z:Value}{t:TypeId}(h:w.heap[b]?=some (.cells #[x,y,z] t (0,0))):w.cell? ⟨b,0,none⟩=some x/\w.cell? ⟨b,1,none⟩=some y/\w.cell? ⟨b,2,none⟩=some z/\∀ i,w.frozen? ⟨b,i,none⟩=false:=
 ⟨by simp[World.cell?,h],by simp[World.cell?,h],by simp[World.cell?,h],fun i=>by simp[World.frozen?,h]⟩
theorem zaI {p:Prop}(h:p:=by
 rcases bk k hk with h|h
 ·rcases hh with rfl|rfl
  ·exact U.out.1 h
  exact U.out.2 h
 omega):p:=h
theorem Kza sb tb to_ tc ts bE cp hs cs n w F d D q qw(h0:w.cell? ⟨sb,0,none⟩=some (.slice (some ⟨tb,to_,none⟩) ts.length tc))(Y:w.cell? ⟨sb,3,none⟩=some (.pointer (some ⟨d,0,none⟩)))(cM:Kc w (some ⟨tb,to_,none⟩) ts)(hC:Qd w bE hs cs)(Z:Kyh ts cs n)(cf:Zb w F d D)(hF:∀ k,F k->k<w.heap.size)(hq:w.cell? ⟨6,0,none⟩=some (.iface 432 (.pointer (some q))))(hw:w.cell? ⟨7,0,none⟩=some (.iface 432 (.pointer (some qw))))(cJ:¬ F 6)(cK:¬ F 7)(cZ:D.pages.length+(Qu (Kr3 ts cs ts.length)).length<=950000):
  Calls prog 280 #[.pointer (some ⟨sb,0,none⟩),.slice (some ⟨bE,0,none⟩) cs.length cp] w (Qbw w F d q qw n (Ks8 ts cs ts.length) (Uy D (Qu (Kr3 ts cs ts.length)))):=by
 have cx:1<=cs.length:=by rw[Z.len];exact Z.few.1
 have c0:=hC.row.cell (i:=0) cx;rw[Z.vals 0 (by have:=Z.few;omega)]at c0;have cD:Hid (∀ X,Below w.heap.size w X->Calls prog 55 #[.slice (some ⟨bE,0,none⟩) cs.length cp] X fun e w'=>e=.returned (.int .i64 (n:Int))/\w'=X):=fun X ci=>Jlg bE cs.length cp _ n _ X cx (Ja ci c0);have bY:Hid (Zb w F d D/\∀ k,F k->k<w.heap.size):=⟨cf,hF⟩;have bh:=zh Z;have dv:=Z.few;clear c0 Z cf hF;go_enter func280,ntmps280
 go_upto_region 2 with(go_at_call 55;refine(cD.out _ (Jc (Oa5 _ _) _)).mono ?_;rintro e X ⟨rfl,ci⟩;subst X)
 have bJ:Below w.heap.size w ((w.alloc (.cells #[.int .i64 0,.slice none 0 0,.slice none 0 0] 359)).alloc (.cells #[.int .i64 (n:Nat),.slice none 0 0,.slice none 0 0] 359)):=Jc (Jc (Oa5 _ _) _) _;have z1:((w.alloc (.cells #[.int .i64 0,.slice none 0 0,.slice none 0 0] 359)).alloc (.cells #[.int .i64 (n:Nat),.slice none 0 0,.slice none 0 0] 359)).heap[w.heap.size]?=some (.cells #[.int .i64 0,.slice none 0 0,.slice none 0 0] 359 (0,0)):=by rw[Oa9 _ _ _ zS];exact heap_alloc_new _ _
 have z2:((w.alloc (.cells #[.int .i64 0,.slice none 0 0,.slice none 0 0] 359)).alloc (.cells #[.int .i64 (n:Nat),.slice none 0 0,.slice none 0 0] 359)).heap[w.heap.size+1]?=some (.cells #[.int .i64 (n:Nat),.slice none 0 0,.slice none 0 0] 359 (0,0)):=by have h:=heap_alloc_new (w.alloc (.cells #[.int .i64 0,.slice none 0 0,.slice none 0 0] 359)) (.cells #[.int .i64 (n:Nat),.slice none 0 0,.slice none 0 0] 359);rwa [show (w.alloc (.cells #[.int .i64 0,.slice none 0 0,.slice none 0 0] 359)).heap.size=w.heap.size+1 by simp]at h
 generalize (w.alloc (.cells #[.int .i64 0,.slice none 0 0,.slice none 0 0] 359)).alloc (.cells #[.int .i64 (n:Nat),.slice none 0 0,.slice none 0 0] 359)=di at *;obtain⟨y,bL⟩:∃ y,y=w.heap.size+1:=⟨_,rfl⟩;rw[<-bL]at z2 |-;obtain⟨rb,bP⟩:∃ rb,rb=w.heap.size:=⟨_,rfl⟩;rw[<-bP]at z1 |-;have O:Hid (y=w.heap.size+1/\rb=w.heap.size):=⟨bL,bP⟩;clear bL bP;have cH:=Ja bJ h0;go_wp2;go_loopw [7,22] (fun cA iv wr=>∃ (k:Nat) (bA:Value),cA=.string (Qw (Kr3 ts cs k))/\iv=.int .i64 k/\k<=ts.length/\wr.heap[rb]?=some (.cells #[.int .i64 0,.slice none 0 0,.slice none 0 0] 359 (0,0))/\wr.heap[y]?=some (.cells #[.int .i64 (n:Nat),bA,.slice none 0 0] 359 (0,0))/\Jo wr w.heap.size 3 bA ((Ks8 ts cs k).map nv)/\Hid (∀ g,bA.ownBlock=some g->g≠rb/\g≠y)/\Below w.heap.size w wr) (fun _ iv _=>ts.length-(intOf iv).toNat)
 case atStart=>exact⟨0,.slice none 0 0,rfl,rfl,Ob7 _,z1,z2,Jo.nil _ _ _,(fun g H=>by simp[Value.ownBlock]at H),bJ⟩
 case round=>
  rename_i cA iv
  clear z1 z2 bJ cH;obtain⟨k,bA,rfl,rfl,hk,z1,z2,bz,bD,K⟩:=hrel;by_cases bx:k<ts.length
  ·have cS:(k:Int)<(ts.length:Int):=zo;obtain⟨dA,dB,ca,dx,ct⟩:=Kc.at (Uh.below cM K) bx;simp at ca;obtain⟨rfl,rfl⟩:=ca;have cj:k<cs.length:=by rw[bh.out.len];exact bx
   have dw:(k:Int)<(cs.length:Int):=zo;have dj:=(hC.below K).row.cell cj;have cz:=(hC.below K).vals k cj;have cb:ts[k]=ts.getD k 0:=by rw[Oa0,Oa3 bx];rfl
   rw[cb]at ct;have cV:=Jtj (ts.getD k 0) (Yo hs k).1 (Yo hs k).2 (cs.getD k []) wr (by have:=(bh.out.ok k bx).2.1;unfold maxLen;omega) cz (bh.out.ok k bx).1 (bh.out.ok k bx).2;have dy:(Qw (Jav (ts.getD k 0) 0 (cs.getD k []))).size=(Ksq ts cs k).length:=by rw[Jb2];rfl
   have cE:Hid (Jav (ts.getD k 0) 0 (cs.getD k [])=Ksq ts cs k):=rfl;have cn:=Kw1 ts cs (k+1) (ts.length-(k+1));rw[show k+1+(ts.length-(k+1))=ts.length by omega,Ksj,Oa8]at cn;have cT:=bh.out.text;have du:(Qw (Kr3 ts cs k)).size+(Ksq ts cs k).length<=1000000:=by rw[Jb2];omega
   have cC:Hid (Qw (Kr3 ts cs k)++Qw (Ksq ts cs k)=Qw (Kr3 ts cs (k+1))):=by show _=_;rw[Ksj,Kyi]
   clear cb cz cn cT;generalize Jav (ts.getD k 0) 0 (cs.getD k [])=sg at *;generalize (Yo hs k).1=dC at *;generalize (Yo hs k).2=dD at *;generalize ts.getD k 0=ty at *;generalize (cs.getD k []).length=dE at *;obtain⟨_,g1,_,gf⟩:=Ksm z2;go_wp2_with (first|(go_at_call 65;refine cV.mono ?_;rintro e I ⟨rfl,bj⟩;have bH:=(bj.block rb (Jd z1)).trans z1;have bC:=(bj.block y (Jd z2)).trans z2;have bi:=Jaw bz bj;obtain⟨_,dm,_,dq⟩:=Ksm bC)|(at_builtin;go_must (refine Ks zR _ _ 22 3 _ 8 Zw zR zd zK zR w.heap.size _ _ zR (Jo.alloc bi _) ⟨I.heap.size,0,none⟩ 1 [nv (Ksq ts cs k).length] zR (by exact Ua I _ _) (by intro u cy;simp at cy;subst cy;rfl) (by simp[Ktg];omega) (by simp;have:=K.size;have:=bj.size;omega) ?_);intro sv' bV cc bI Y;obtain⟨a2,cF,rfl,_⟩:=cc.cells;have cB:bV.heap[y]?=some (.cells #[.int .i64 (n:Nat),bA,.slice none 0 0] 359 (0,0)):=(bI.block y (by have:=Jd bC;simp;omega) (fun e=>(bD.out y e.symm).2 rfl)).trans ((Oa9 I _ y (Jd bC)).trans bC);obtain⟨_,dp,_,cG⟩:=Ksm cB;have ds:=cG 1))
   go_roundw
   case rel=>
    have cW:bV.heap[rb]?=some (.cells #[.int .i64 0,.slice none 0 0,.slice none 0 0] 359 (0,0)):=(bI.block rb (by have:=Jd bH;simp;omega) (fun e=>(bD.out rb e.symm).1 rfl)).trans ((Oa9 I _ rb (Jd bH)).trans bH);have bM:y≠rb:=by have:=O.out;omega
    have cu:∀ g,(Value.slice a2 ((Ks8 ts cs k).map nv++[nv (Ksq ts cs k).length]).length cF).ownBlock=some g->g≠rb/\g≠y:=fun g H=>by
     rcases Y with Y|Y
     ·exact bD.out g (Y▸H)
     rw[Y]at H;have:=Jd bH;have:=Jd bC;simp at H;omega
    have cO:Below w.heap.size w bV:=Jy (Jc (Jb K bj) _) bI fun k hk=>(Je bz hk).1;refine⟨k+1,_,by rw[<-cC.out,cE.out],zn,zo,?_,?_,?_,cu,cO.setCell (by have:=O.out;simp;omega) _⟩
    ·rw[Oa4 _ _ _ _ (fun e=>bM e.symm)];exact cW
    ·rw[Jk cB];simp
    rw[Kzp,Ob8];exact Yd cc fun g H=>Oa4 _ _ _ _ (cu g H).2
   case measure=>simp[intOf];omega
  obtain rfl:k=ts.length:=zo;have cS:¬ (ts.length:Int)<(ts.length:Int):=zo;have hF:=bY.out.2;have bN:=Kkq d (Kr3 ts cs ts.length) wr F D (bY.out.1.below K) (fun k hk=>Oc2 (hF k hk) K.size) q qw (Ja K hq) (Ja K hw) cJ cK cZ bh.out.text;have dt:=Ja K Y;have U:Hid (¬ F y/\¬ F rb):=⟨fun h=>by have:=hF y h;have:=O.out;omega,fun h=>by have:=hF rb h;have:=O.out;omega⟩;have cP:=K.size;have bM:y≠rb:=by have:=O.out;omega
  have cX:rb≠y:=fun e=>bM e.symm;obtain⟨a1,c1,rfl,_⟩:=bz.cells;obtain⟨r,hr⟩:∃ r,Uy D (Qu (Kr3 ts cs ts.length))=r:=⟨_,rfl⟩;rw[hr]at bN;have bZ:=zh hr;clear hr;obtain⟨E,l,x⟩:=r;cases x with
  |none=>
   go_wp2_with (go_at_call 67;refine bN.mono ?_;rintro e I ⟨br,FD,bK,bk,bO,sv,rfl,bi,cN⟩;obtain⟨a2,c2,rfl,_⟩:=bi.cells;have bB:=(br.block rb (Jd z1) U.out.2).trans z1;have dh:=(br.block y (Jd z2) U.out.1).trans z2;obtain⟨dl,g1,g2,gf⟩:=Ksm dh;have dr:=gf 2;obtain⟨da,db,dc,bf⟩:=Ksm bB;have dd:=bf 0;have de:=bf 1;have df:=bf 2)
   have M:=((((Ju.refl (fun k=>k=y\/k=rb) I).set (.inl rfl) 2 (.slice a2 l.length c2)).set (.inr rfl) 0 (.int .i64 (n:Nat))).set (.inr rfl) 1 (.slice a1 (Ks8 ts cs ts.length).length c1)).set (.inr rfl) 2 (.slice a2 l.length c2);have bX:((((I.setCell ⟨y,2,none⟩ (.slice a2 l.length c2)).setCell ⟨rb,0,none⟩ (.int .i64 (n:Nat))).setCell ⟨rb,1,none⟩ (.slice a1 (Ks8 ts cs ts.length).length c1)).setCell ⟨rb,2,none⟩ (.slice a2 l.length c2)).heap[rb]?=some (.cells #[.int .i64 (n:Nat),.slice a1 (Ks8 ts cs ts.length).length c1,.slice a2 l.length c2] 359 (0,0)):=by
    have dg:(I.setCell ⟨y,2,none⟩ (.slice a2 l.length c2)).heap[rb]?=some (.cells #[.int .i64 0,.slice none 0 0,.slice none 0 0] 359 (0,0)):=by rw[Oa4 _ _ _ _ cX];exact bB
    have bS:=Jk dg 0 (.int .i64 (n:Nat));have bT:=Jk bS 1 (.slice a1 (Ks8 ts cs ts.length).length c1);have bU:=Jk bT 2 (.slice a2 l.length c2);rw[bU];simp
   generalize (((I.setCell ⟨y,2,none⟩ (.slice a2 l.length c2)).setCell ⟨rb,0,none⟩ (.int .i64 (n:Nat))).setCell ⟨rb,1,none⟩ (.slice a1 (Ks8 ts cs ts.length).length c1)).setCell ⟨rb,2,none⟩ (.slice a2 l.length c2)=X at *;obtain⟨bW,x1,x2,_⟩:=Ksm bX;refine bodyPost_ret (v:=.tuple #[.agg #[.int .i64 (n:Nat),.slice a1 (Ks8 ts cs ts.length).length c1,.slice a2 l.length c2],.nilIface]) (by simp[results,results280,go_sem,bW,x1,x2]) rfl ?_;rw[bZ.out];have cR:=Jd z2;have cY:=Jd z1;have cL:=O.out;have bQ:∀ k,FD k->¬ (k=y\/k=rb):=fun k hk hh=>by
    exact zaI
   have bR:∀ g,(Value.slice a1 (Ks8 ts cs ts.length).length c1).ownBlock=some g->w.heap.size<=g/\g<wr.heap.size:=fun g H=>by
    have:=Je bz (by simpa using H);exact this
   have bG:Ju (fun k=>F k\/k=y\/k=rb) wr X:=(br.mono fun k _ h=>.inl h).trans (M.mono fun k _ h=>.inr h);refine⟨(Ju.of_below K).trans' bG fun k hk hh=>hh.elim id (fun h=>zo),FD,bK.stands fun k hk hl=>M.block k hl (bQ k hk),fun k hk=>(bk k hk).imp id (fun h=>zo),fun k hk=>Oc2 (bO k hk) M.size,_,_,rfl,⟨?_,?_⟩,?_,?_⟩
   ·have:=Yd (w':=X) bz fun g H=>bG.block g (bR g (by simpa using H)).2 (fun hh=>by
     have cv:=bD.out g H;rcases hh with h|h|h
     ·have:=hF g h;have:=(bR g (by simpa using H)).1;omega
     ·exact cv.2 h
     ·exact cv.1 h)
    simpa using this
   ·intro g H cI;have⟨o1,o2⟩:=bR g H;rcases bk g cI with h|h
    ·have:=hF g h;omega
    omega
   ·have:=Jgl (Yd (w':=X) bi fun g H=>M.block g (Qk bi H) (fun hh=>by
     have:=(Je bi H).1;omega)) cP
    unfold Jo;simpa using this
   intro g H;exact cN g (by simpa using H)
  |some x=>
   go_wp2_with (go_at_call 67;refine bN.mono ?_;rintro e I ⟨br,FD,bK,bk,bO,b1,rfl,bj,cQ,cU⟩;have bB:=(br.block rb (Jd z1) U.out.2).trans z1;obtain⟨da,db,dc,bf⟩:=Ksm bB;have dd:=bf 0;have de:=bf 1;have df:=bf 2)
   have M:=(((Ju.refl (fun k=>k=y\/k=rb) I).set (.inr rfl) 0 (.int .i64 0)).set (.inr rfl) 1 (.slice none 0 0)).set (.inr rfl) 2 (.slice none 0 0);have bX:(((I.setCell ⟨rb,0,none⟩ (.int .i64 0)).setCell ⟨rb,1,none⟩ (.slice none 0 0)).setCell ⟨rb,2,none⟩ (.slice none 0 0)).heap[rb]?=some (.cells #[.int .i64 0,.slice none 0 0,.slice none 0 0] 359 (0,0)):=by
    have bS:=Jk bB 0 (.int .i64 0);have bT:=Jk bS 1 (.slice none 0 0);have bU:=Jk bT 2 (.slice none 0 0);rw[bU];simp
   generalize ((I.setCell ⟨rb,0,none⟩ (.int .i64 0)).setCell ⟨rb,1,none⟩ (.slice none 0 0)).setCell ⟨rb,2,none⟩ (.slice none 0 0)=X at *;obtain⟨bW,x1,x2,_⟩:=Ksm bX;refine bodyPost_ret (v:=.tuple #[.agg #[.int .i64 0,.slice none 0 0,.slice none 0 0],.iface 156 (.pointer (some ⟨b1,0,none⟩))]) (by simp[results,results280,go_sem,bW,x1,x2]) rfl ?_;rw[bZ.out];have cR:=Jd z2;have cY:=Jd z1;have cL:=O.out;have bQ:∀ k,FD k->¬ (k=y\/k=rb):=fun k hk hh=>by
    exact zaI
   have bG:Ju (fun k=>F k\/k=y\/k=rb) wr X:=(br.mono fun k _ h=>.inl h).trans (M.mono fun k _ h=>.inr h);exact⟨(Ju.of_below K).trans' bG fun k hk hh=>hh.elim id (fun h=>zo),FD,bK.stands fun k hk hl=>M.block k hl (bQ k hk),fun k hk=>(bk k hk).imp id (fun h=>zo),fun k hk=>Oc2 (bO k hk) M.size,b1,rfl,zo,Ki6 cQ M zo,cU⟩
theorem Kyh.seg {ts cs n c}(h:Kyh ts cs n)(y:c<ts.length)(hr:∀ v∈cs.getD c [],Jg v.n):Kje (Ksq ts cs c)/\Jbf (Ksq ts cs c)=some ((ts.getD c 0).toNat,0,cs.getD c [])/\(((ts.getD c 0).toNat:Nat):Int)=ts.getD c 0:=by
 have hp:Jev (ts.getD c 0) 0 (cs.getD c [])=(Ksq ts cs c,0):=by
  unfold Jev Ksq;rw[if_pos (by rw[Og5];exact⟨(h.ok c y).1,(Jfd _ _).2 (h.ok c y).2⟩),if_neg (fun x=>absurd x.1 zo)]
 obtain⟨_,_,_,ht,e,H⟩:=Kja hp;refine⟨fun t' I K M hh=>?_,Ki9 _ 0 Kj4 _ _ hp hr,ht⟩;rw[H]at hh;simp only[Oc9,Oj3]at hh;rw[<-hh.1.2.1,e];exact Ki5
def Kuk (ts:List Int)(cs:List (List V))(k:Nat):List UInt8:=(Kr3 ts cs ts.length).drop (Kr3 ts cs k).length
theorem Qbc ts cs k d:∃ r,Kr3 ts cs (k+d)=Kr3 ts cs k++r:=by
 induction d with
 |zero=>exact⟨[],zS⟩
 |succ d y=>obtain⟨r,hr⟩:=y;exact⟨r++Ksq ts cs (k+d),by rw[<-On5,Ksj,hr,Od8]⟩
theorem Kzn ts cs k(h:k<ts.length):Kuk ts cs k=Ksq ts cs k++Kuk ts cs (k+1):=by
 obtain⟨r,hr⟩:=Qbc ts cs (k+1) (ts.length-(k+1));rw[show k+1+(ts.length-(k+1))=ts.length by omega]at hr;unfold Kuk;rw[hr,List.drop_left,Ksj,Od8,List.drop_left]
theorem Kz2 ts cs:Kuk ts cs 0=Kr3 ts cs ts.length:=by simp[Kuk,Kr3]
def Qcm (n:Nat)(la:Option Addr)(y lc:Nat)(pa:Option Addr)(pl pc:Nat):Value:=.agg #[.int .i64 (n:Nat),.slice la y lc,.slice pa pl pc]
structure Qc5 (w wr:World) (g k:Nat) (ts:List Int) (cs:List (List V)) (n:Nat) (vb:Nat->Nat):Prop where
 row:wr.rowIs g 60 ts.length (fun j=>if j<k then .slice (some ⟨vb j,0,none⟩) n n else .slice none 0 0)
 low:w.heap.size<=g
 vals:∀ j,j<k->(w.heap.size<=vb j/\vb j<wr.heap.size/\vb j≠g)/\Jv wr (some ⟨vb j,0,none⟩) (cs.getD j [])
theorem Kx8 sb tb to_ tc ts cs n la lc pa l pc w F d D pg a0 a1 a2(h0:w.cell? ⟨sb,0,none⟩=some (.slice (some ⟨tb,to_,none⟩) ts.length tc))(cu:w.cell? ⟨sb,3,none⟩=some (.pointer (some ⟨d,0,none⟩)))(cy:Kc w (some ⟨tb,to_,none⟩) ts)(M:Kyh ts cs n)(hr:∀ c∈cs,∀ v∈c,Jg v.n)(bQ:Zb w F d D)(bT:Uh w la ((Ks8 ts cs ts.length).map nv))(cD:Uh w pa (l.map nv))(bU:l.length<=1000000)(bL:Uf D l=.inl (Kr3 ts cs ts.length))(bV:Kr3 ts cs ts.length≠[])(cE:w.cell? ⟨8,0,none⟩=some (.iface 432 (.pointer (some pg))))(cv:Jf0 w a0 a1 a2):
  Calls prog 244 #[.pointer (some ⟨sb,0,none⟩),Qcm n la ts.length lc pa l.length pc] w fun e w'=>Below w.heap.size w w'/\∃ g hs,e=.returned (.tuple #[.slice (some ⟨g,0,none⟩) cs.length cs.length,.nilIface])/\w.heap.size<=g/\Qd w' g hs cs/\Kzr w w' hs cs.length:=by
 have bE:Hid (Kyh ts cs n/\∀ c∈cs,∀ v∈c,Jg v.n):=⟨M,hr⟩;have cA:=M.few;have cf:Hid (∀ X,Below w.heap.size w X->Calls prog 114 #[.pointer (some ⟨d,0,none⟩),.slice pa l.length pc] X fun e w'=>e=.returned (.tuple #[.string (Qw (Kr3 ts cs ts.length)),.nilIface])/\Below X.heap.size X w'):=fun X bf=>by
  have:=Kag d pa pc l X F D (bQ.below bf) (cD.below bf) bU pg (Ja bf cE) (fun t ht=>by rw[bL]at ht;injection ht with ht;rw[<-ht];exact bV);rw[bL]at this;exact this.mono fun e w' h=>⟨h.2,h.1⟩
 have cc:Hid (∀ X,Calls prog 79 #[.int .i64 (ts.length:Int)] X fun e w'=>e=.returned (.slice (some ⟨X.heap.size,0,none⟩) ts.length ts.length)/\w'.rowIs X.heap.size 60 ts.length (fun _=>.slice none 0 0)/\Below X.heap.size X w'):=fun X=>
  (Jiz ts.length X cA.2).mono fun e w' h=>⟨h.1,by
   have:=h.2.1.row;rw[Od6]at this;exact this.congr fun j y=>by unfold Uq;rw[Oa0,Of3];split<;>rfl,h.2.2⟩
 have ci:Hid (∀ k,k<ts.length->∀ X,Below w.heap.size w X->Calls prog 115 #[.string (Qw (Ksq ts cs k)),.int .i64 (ts.getD k 0),.int .i64 (n:Int)] X fun e w'=>Below X.heap.size X w'/\∃ b,e=.returned (.tuple #[.slice (some ⟨b,0,none⟩) n n,.nilIface])/\X.heap.size<=b/\b<w'.heap.size/\Jv w' (some ⟨b,0,none⟩) (cs.getD k [])):=fun k hk X bf=>by
  have bS:k<cs.length:=by rw[M.len];exact hk
  obtain⟨cL,bW,cM⟩:=M.seg hk fun v hv=>hr (cs.getD k []) (by rw[Oa0,Oa3 bS];exact Ob3 bS) v hv;have hlen:(Ksq ts cs k).length<=maxLen:=by
   have bk:=Kw1 ts cs (k+1) (ts.length-(k+1));rw[show k+1+(ts.length-(k+1))=ts.length by omega,Ksj,Oa8]at bk;have:=M.text;unfold maxLen;omega
  refine(Jqz (Ksq ts cs k) cL (ts.getD k 0) n X hlen a0 a1 a2 (cv.below bf)).mono fun e w' h=>⟨h.1,?_⟩;rcases h.2 with⟨ty,da,vs,b,Y,bG,bi,bj,cj,bP⟩|⟨cn,_⟩
  ·rw[bW]at Y;simp only[Oc9,Oj3]at Y;obtain⟨_,_,rfl⟩:=Y;refine⟨b,by rw[bj,bi],cj,?_,bP.vals⟩;obtain⟨C,hC,_⟩:=bP;exact Jd hC
  exact absurd ⟨cM,M.vals k hk⟩ (cn _ _ _ bW)
 obtain⟨lb,lo,rfl,cY,_⟩:=bT.at (i:=0) (by rw[Oa6,Ktg];omega);clear M hr bL bV bU bQ;unfold Qcm;go_enter func244,ntmps244
 go_upto_region 1 with fail
 have bx:=Jc (Oa5 w.heap.size w) (.cells #[.int .i64 (n:Nat),.slice (some ⟨lb,lo,none⟩) ts.length lc,.slice pa l.length pc] 359);have z1:=heap_alloc_new w (.cells #[.int .i64 (n:Nat),.slice (some ⟨lb,lo,none⟩) ts.length lc,.slice pa l.length pc] 359);generalize w.alloc (.cells #[.int .i64 (n:Nat),.slice (some ⟨lb,lo,none⟩) ts.length lc,.slice pa l.length pc] 359)=cS at *;obtain⟨H,bI⟩:∃ H,H=w.heap.size:=⟨_,rfl⟩;rw[<-bI]at z1 |-;have cR:=zh bI;clear bI;have bN:=Ja bx cu;obtain⟨cQ,x1,x2,_⟩:=Ksm z1;go_region_held3 (fun X=>X.cell? ⟨sb,3,none⟩=some (.pointer (some ⟨d,0,none⟩))/\X.cell? ⟨H,2,none⟩=some (.slice pa l.length pc))
  (first|(exact⟨bN,x2⟩)|(exact br)|(go_split_ands;constructor<;>assumption))
  (first|(go_at_call 114;refine(cf.out _ (Jp bx 1)).mono ?_;rintro e bO ⟨rfl,bh⟩;have br:=And.intro (Ja (Jw bh) bN) (Ja (Jw bh) x2)))
 have bz:=Jb bx (Jw bh);have z2:bO.heap[H]?=some (.cells #[.int .i64 (n:Nat),.slice (some ⟨lb,lo,none⟩) ts.length lc,.slice pa l.length pc] 359 (0,0)):=((Jw bh).block H (Jd z1)).trans z1;have bB:=Ja bz h0;clear bN cQ x1 x2 br bh bx z1;go_wp2_with (go_at_call 79;refine(cc.out _).mono ?_;rintro e cT ⟨rfl,bM,bH⟩;have U:=(bH.block H (Jd z2)).trans z2;obtain⟨bD,bZ,ca,_⟩:=Ksm U)
 have bR:=Jb bz bH;have cB:=bz.size;obtain⟨g,bJ⟩:∃ g,g=bO.heap.size:=⟨_,rfl⟩;rw[<-bJ]at bM |-;have bA:w.heap.size<=g:=zo;have cb:Hid (H<g):=by show _<_;rw[bJ];exact Jd z2
 clear bJ bH bz z2 bB cB;go_loopw [6,35] (fun bX iv wr=>∃ (k:Nat) (bC:Nat->Nat),bX=.string (Qw (Kuk ts cs k))/\iv=.int .i64 k/\k<=ts.length/\wr.heap[H]?=some (.cells #[.int .i64 (n:Nat),.slice (some ⟨lb,lo,none⟩) ts.length lc,.slice pa l.length pc] 359 (0,0))/\Qc5 w wr g k ts cs n bC/\Below w.heap.size w wr) (fun _ iv _=>ts.length-(intOf iv).toNat)
 case atStart=>exact⟨0,fun _=>0,by rw[Kz2],rfl,Ob7 _,U,⟨bM.congr fun j y=>by rw[if_neg (Oe0 _)],bA,fun j y=>absurd y (Oe0 _)⟩,bR⟩
 case round=>
  rename_i bX iv
  clear U bD bZ ca bM bR;obtain⟨k,bC,rfl,rfl,hk,U,hI,O⟩:=hrel;by_cases K:k<ts.length
  ·have cC:(k:Int)<(ts.length:Int):=zo;obtain⟨di,dj,Y,cX,ct⟩:=Kc.at (Uh.below cy O) K;simp at Y;obtain⟨rfl,rfl⟩:=Y;obtain⟨dg,dh,bG,_,cl⟩:=(bT.below O).at (i:=k) (by rw[Oa6,Ktg];exact K);simp at bG;obtain⟨rfl,rfl⟩:=bG;have bi:((Ks8 ts cs ts.length).map nv)[k]'(by rw[Oa6,Ktg];exact K)=.int .i64 ((Ksq ts cs k).length:Nat):=(by simp[Ks8,nv]);rw[bi]at cl;have bj:ts[k]=ts.getD k 0:=by rw[Oa0,Oa3 K];rfl
   rw[bj]at ct;have cH:=ci.out k K;have Z:=Kzn ts cs k K;have x1:=Kkb (Kuk ts cs k) 0 (Ksq ts cs k).length;have x2:=Kkb (Kuk ts cs k) (Ksq ts cs k).length (Kuk ts cs k).length;rw[List.drop_zero,Z,List.take_left,<-Z]at x1;rw[Of2,Z,List.drop_left,<-Z]at x2;have dd:(Qw (Kuk ts cs k)).size=(Kuk ts cs k).length:=Jb2 _;have cZ:((Ksq ts cs k).length:Int)<=((Kuk ts cs k).length:Int):=by rw[Z,Oa8];omega
   have cW:¬ ((Kuk ts cs k).length:Int)<((Ksq ts cs k).length:Int):=zo;have bB:=Ja O h0;obtain⟨bD,bZ,ca,_⟩:=Ksm U;have cF:=hI.row.cell K;have db:=hI.row.frozen k;rw[if_neg (Oe3 k)]at cF;clear bi bj Z;generalize Ksq ts cs k=sg at *;generalize Kuk ts cs k=rs at *;generalize ts.getD k 0=ty at *;go_wp2_with fail
   go_region_held3 (fun X=>X.cell? ⟨sb,0,none⟩=some (.slice (some ⟨tb,to_,none⟩) ts.length tc)/\X.cell? ⟨tb,to_+k,none⟩=some (.int .i64 ty)/\X.cell? ⟨H,0,none⟩=some (.int .i64 (n:Nat)))
    (first|(exact⟨bB,ct,bD⟩)|(exact br)|(go_split_ands;refine⟨?_,?_,?_⟩<;>assumption))
    (first|(go_at_call 115;refine(cH _ (Jp O 1)).mono ?_;rintro e cU ⟨cz,bY,rfl,cI,cJ,cK⟩;have I:=Jw cz;have br:=And.intro (Ja I bB) (And.intro (Ja I ct) (Ja I bD));have bK:=hI.row.of_block (I.block g hI.row.lt);have cG:=bK.cell K;have dc:=bK.frozen k;rw[if_neg (Oe3 k)]at cG))
   go_wp2;go_roundw
   case rel=>
    have cV:=hI.row.lt;have df:=I.size;have de:wr.heap.size<=bY:=cI;refine⟨k+1,fun j=>if j=k then bY else bC j,rfl,zn,zo,?_,⟨(bK.set k _).congr fun j y=>?_,bA,fun j y=>?_⟩,(Jb O I).setCell (p:=⟨g,k,none⟩) bA _⟩
    ·rw[Oa4 _ _ _ _ (by have:=cb.out;simp;omega),I.block H (Jd U)];exact U
    ·by_cases e:j=k
     ·subst e;rw[if_pos (show j=j from rfl),if_pos (show j<j+1 from On2 _),if_pos rfl]
     rw[if_neg e];by_cases bk:j<k
     ·rw[if_pos bk,if_pos zo,if_neg e]
     rw[if_neg bk,if_neg zo]
    by_cases e:j=k
    ·subst e;simp only[if_true];exact⟨⟨by have:=O.size;omega,by simpa using cJ,zo⟩,cK.of_block zS fun b o e _=>by
      injection e with e;injection e with e;exact Oa4 _ _ _ _ (by simp only;omega)⟩
    rw[if_neg e];obtain⟨⟨cN,dl,cP⟩,cO⟩:=hI.vals j zo;exact⟨⟨cN,by simp;omega,cP⟩,(cO.below I).of_block zS fun b o e _=>by
     injection e with e;injection e with e;exact Oa4 _ _ _ _ (by simp only;omega)⟩
   case measure=>simp[intOf];omega
  obtain rfl:k=ts.length:=zo;have cC:¬ (ts.length:Int)<(ts.length:Int):=zo;go_wp2;go_ret2
  have hlen:=bE.out.1.len;have fin:∃ hs:List (Option Addr×Nat),Qd wr g hs cs/\Kzr w wr hs cs.length:=by
   refine⟨(List.range cs.length).map fun j=>(some ⟨bC j,0,none⟩,n),⟨?_,fun j y=>?_,fun j y=>?_⟩,fun j y b o e=>?_⟩
   ·rw[hlen];refine(Kua hI.row).congr fun j y=>?_;rw[if_pos y,bE.out.1.vals j y];simp[Yo,y]
   ·rw[hlen]at y;have:=(hI.vals j y).2;simpa [Yo,hlen,y] using this
   ·rw[hlen]at y;rw[bE.out.1.vals j y];simp[Yo,hlen,y]
   rw[hlen]at y;have:=(hI.vals j y).1;simp[Yo,hlen,y]at e;obtain⟨rfl,rfl⟩:=e;exact⟨this.1,this.2.1⟩
  obtain⟨hs,hC,cx⟩:=fin;exact⟨O,g,by rw[hlen];rfl,bA,hs,hC,cx⟩
attribute [local go_sem] Oc0
theorem Kw2 n(hn:1<=n)I H b off len cap g(bA:1<=g)(bS:g<=100000)(hlen:len<=100000)(bR:len<=cap)w(bj:w.cell? ⟨I,0,none⟩=some (.slice (some ⟨b,off,none⟩) len cap))(bi:w.cell? ⟨H,0,none⟩=some (.int .i64 (g:Int)))Fx(hF:Fx I/\Fx H)(bk:∀ k,Fx k->k<w.heap.size):
  Qcj Fence.wide n prog 281 #[.pointer (some ⟨I,0,none⟩),.pointer (some ⟨H,0,none⟩)] (fun x:Nat×Nat=>#[.slice (some ⟨b,off+x.1,none⟩) x.2 x.2]) (fun x _=>x.1+x.2<=len/\1<=x.2/\x.2<=g) (fun O x=>O++[x]=cks len g (O.length+1)) (KpB Fx) (fun y=>y=cks len g (ckN len g)) (fun O=>∃ k,k<=ckN len g/\O=cks len g k) (ckN len g) w:=by
 intro l J bQ W hW br bN bz h0;have bH:Hid (∀ s A,J s A->J s A.drew):=fun s A h=>br s A A.drew none h ⟨rfl,rfl,rfl,Oa2 _,fun _ _ _=>rfl⟩ (fun r e=>by cases e);have bK:=zh bz;have bL:=Ja hW bj;have bh:=Ja hW bi;have U:Hid ((Fx I/\Fx H)/\∀ k,Fx k->k<W.heap.size):=⟨hF,fun k hk=>Oc2 (bk k hk) hW.size⟩;clear bz hF bk bj bi br bN hW;refine callsIn_of_wp func281 rfl trivial ?_ rfl;simp only[ntmps281,Om3,List.length_cons,List.length_nil,Nat.reduceAdd,Nat.reduceSub,Ok9,Array.replicate_zero,Om4,Ol2,List.nil_append,List.cons_append];gi_wp2
 gi_loopw [4] (fun i wr=>∃ (k:Nat) (y:List (Nat×Nat)),k<=ckN len g/\i=.int .i64 ((k*g:Nat):Int)/\Hid (y=cks len g k)/\J y wr/\KpB Fx W wr)
  (fun i _=>len+100000-(intOf i).toNat)
 case atStart=>exact⟨0,[],Ob7 _,zS,rfl,h0,Oa2 _,fun _ _=>rfl⟩
 case round=>
  obtain⟨k,y,hk,rfl,K,bx,Y⟩:=hrel;have c1:wr.cell? ⟨I,0,none⟩=some (.slice (some ⟨b,off,none⟩) len cap):=by rw[Oc3 (w:=W) (Y.2 I U.out.1.1)];exact bL
  have c2:wr.cell? ⟨H,0,none⟩=some (.int .i64 (g:Int)):=by rw[Oc3 (w:=W) (Y.2 H U.out.1.2)];exact bh
  by_cases bD:k*g<len
  ·have bB:=Khi bA bD;have M:Hid (cks len g (k+1)=cks len g k++[(k*g,min g (len-k*g))]):=Jbj len g k;have bJ:Hid ((k+1)*g=k*g+g):=Of5 k g;have bG:y.length=k:=by have:=congrArg List.length K.out;rw[Jbp]at this;exact this
   generalize k*g=i at *;obtain⟨m,bE,Z⟩:∃ m:Nat,(i+m<=len/\1<=m/\m<=g)/\Hid (m=min g (len-i)):=⟨min g (len-i),zo,rfl⟩;rw[<-Z.out]at M;have bW:min (g:Int) ((len-i:Nat):Int)=(m:Int):=by have:=Z.out;omega
   have bX:((i:Int)+(m:Int)).toNat-i=m:=zo;obtain⟨fn,tmps,assign,body,hy,hR⟩:=bK.out y (i,m) wr.drew (bH.out _ _ bx) bE (by rw[bG,K.out,M.out]) zo;dsimp only at hy;clear bG;obtain⟨bT,bU,bV⟩:=bE;gi_wp2
   gi_region
   gi_wp2
   refine hR.mono ?_;rintro e bf (⟨rfl,bM,bP⟩|⟨rfl,bO⟩)
   ·have bC:KpB Fx W bf:=Y.trans bP;have c3:bf.cell? ⟨H,0,none⟩=some (.int .i64 (g:Int)):=by rw[Oc3 (w:=W) (bC.2 H U.out.1.2)];exact bh
    gi_wp2
    go_roundw
    case rel=>exact⟨k+1,y++[(i,m)],bB,by rw[bJ.out];go_num,by show _=_;rw[K.out,M.out],bM,bC⟩
    case measure=>simp[intOf];omega
   gi_wp2
   refine bodyPost_ret (results_none rfl _ _ _) rfl ?_;exact⟨⟨_,rfl⟩,.inr ⟨_,⟨k+1,bB,by rw[K.out,M.out]⟩,bO⟩⟩
  have bI:Hid (k=ckN len g):=by
   rcases Oc1 k (ckN len g)with h'|h'
   ·exact absurd (Jqs bA h') bD
   ·show k=_;omega
  gi_wp2
  go_end0
  exact⟨⟨_,rfl⟩,.inl ⟨y,by rw[K.out,bI.out],bx⟩⟩
theorem Kwo a(n c g:Nat)(y:1<=g)w:Calls prog 242 #[.slice a n c,.int .i64 (g:Int)] w fun e w'=>e=.returned (.func (.func 281) #[] #[.pointer (some ⟨w.heap.size,0,none⟩),.pointer (some ⟨w.heap.size+1,0,none⟩)])/\w'=(w.alloc (.cells #[.slice a n c] 301)).alloc (.cells #[.int .i64 (g:Int)] 3):=by
 have H:¬ (g:Int)<1:=zo;go_enter func242,ntmps242
 go_wp2;go_ret
 exact⟨rfl,rfl⟩
end
open Go.RowKit Go.Shelf
def Kt8 (D:DS)(q f:Int):DS:=⟨q,f,D.writes,D.lowest,D.pages⟩
theorem Kuq:∀ (ps:List (List UInt8))(D:DS),0<=D.writes->D.writes+ps.length<=4000000000000000000->(Uy D ps).2.2=none->(Uy D ps).1.writes=D.writes+ps.length/\Js (Uy D ps).1.pages=Js D.pages+ps.length
 |[],D,_,_,_=>by simp[Uy]
 |p::ps,D,h0,hb,h=>by
  have hw:wrap64 (D.writes+1)=D.writes+1:=by unfold wrap64;simp at hb;omega
  have K:(Zn D p).writes=D.writes+1:=hw;have I:=Jm8 D p;unfold Uy at h |-;split at h
  ·simp at h
  split at h
  ·simp at h
  rename_i y H
  rw[if_neg y,if_neg H];have M:=Kuq ps (Zn D p) zo (by simp at hb;omega) h;simp only[List.length_cons];omega
theorem Kv6:∀ (ps:List (List UInt8))(D:DS)(q f:Int),0<=D.writes->D.writes+ps.length<=4000000000000000000->(Uy D ps).2.2=none->((Js D.pages+ps.length:Nat):Int)<=q->D.writes+ps.length<f->Uy (Kt8 D q f) ps=(Kt8 (Uy D ps).1 q f,(Uy D ps).2.1,none)
 |[],D,q,f,_,_,_,_,_=>rfl
 |p::ps,D,q,f,h0,hb,h,hq,hf=>by
  have hw:wrap64 (D.writes+1)=D.writes+1:=by unfold wrap64;simp at hb;omega
  have M:(Zn D p).writes=D.writes+1:=hw;have K:=Jm8 D p;rw[List.length_cons]at hb hq hf;unfold Uy at h |-;split at h
  ·simp at h
  split at h
  ·simp at h
  rename_i y H
  have I:=Kv6 ps (Zn D p) q f zo zo h zo zo;have e:Zn (Kt8 D q f) p=Kt8 (Zn D p) q f:=rfl;rw[if_neg y,if_neg H,e,I,if_neg (by show ¬ q<=((Js D.pages:Nat):Int);omega),if_neg (by show ¬ wrap64 (D.writes+1)=f;omega)];rfl
theorem Kus:∀ (ts:List (List UInt8))(D:DS),0<=D.writes->D.writes+Jch ts<=4000000000000000000->(Jq D ts).2.2=none->(Jq D ts).1.writes=D.writes+Jch ts/\Js (Jq D ts).1.pages=Js D.pages+Jch ts
 |[],D,_,_,_=>by simp[Jq,Jch]
 |t::ts,D,h0,hb,h=>by
  rw[Ja1]at hb |-;have y:=Kuq (Qu t) D h0 zo;rcases hr:Uy D (Qu t)with⟨E,l,r⟩;rw[hr]at y;unfold Jq at h |-;rw[hr]at h |-;cases r with
  |some I=>simp at h
  |none=>
   have y:=y rfl;simp only at y h |-;have H:=Kus ts E zo zo h;omega
theorem Kut:∀ (ts:List (List UInt8))(D:DS)(q f:Int),0<=D.writes->D.writes+Jch ts<=4000000000000000000->(Jq D ts).2.2=none->((Js D.pages+Jch ts:Nat):Int)<=q->D.writes+Jch ts<f->Jq (Kt8 D q f) ts=(Kt8 (Jq D ts).1 q f,(Jq D ts).2.1,none)
 |[],D,q,f,_,_,_,_,_=>rfl
 |t::ts,D,q,f,h0,hb,h,hq,hf=>by
  rw[Ja1]at hb hq hf;have H:=Kuq (Qu t) D h0 zo;have y:=Kv6 (Qu t) D q f h0 zo;rcases hr:Uy D (Qu t)with⟨E,l,r⟩;rw[hr]at H y;unfold Jq at h |-;rw[hr]at h |-;cases r with
  |some I=>simp at h
  |none=>
   have H:=H rfl;have y:=y rfl zo zo;simp only at H y h |-;rw[y];simp only;rw[Kut ts E q f zo zo h zo zo]
theorem Ku8 {E T name ts hs rs g Q F q f}(h:Jbd (Ku Q F) [] name ts hs rs g=.ok E T)(hq:((Js E.pages:Nat):Int)<=q)(hf:((Js E.pages:Nat):Int)<f):Jbd (Ku q f) [] name ts hs rs g=.ok (Kt8 E q f) T:=by
 unfold Jbd at h |-;split at h
 ·rename_i y
  rw[if_pos y];split at h
  ·simp at h
  rename_i hn
  rw[if_neg hn];split at h
  ·simp at h
  rename_i X H
  split at h
  ·simp at h
  rename_i hl
  simp only[Sum.inr.injEq,Oj3]at h;obtain⟨rfl,rfl⟩:=h;have hp:=(Jtr y H).2.2.1;have K:rs.length<=200:=y.1.2.2.1;have h0:(Ku Q F).writes=0:=rfl;have M:Js (Ku Q F).pages=0:=rfl;have I:=Kus X (Ku Q F) zo zo hl;have e:=Kut X (Ku Q F) q f zo zo hl zo zo;rw[show Ku q f=Kt8 (Ku Q F) q f from rfl,e]
 simp at h
