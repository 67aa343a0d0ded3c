/- What is loaded is read: the rows of a table out of its segments. -/
import Derived.Test.YtkdojacdolidfaaGreatDoorXc
set_option maxHeartbeats 2000000
set_option maxRecDepth 100000
namespace Go.Proofs.YtkdojacdolidfaaGreatDoor
section
open Go.RowKit
def Jex (rs:List (List V))(m o p k:Nat):List (List V):=rs.mapIdx fun i r=>if i<o then r else if i<o+p then r.take k++List.replicate (m-k) Jf else List.replicate m Jf
theorem Jv4 rs m p:Jex rs m 0 p 0=List.replicate rs.length (List.replicate m Jf):=by
 apply Oi8;intro i;rw[Jex,Oh8,Of3];by_cases hi:i<rs.length
 ·rw[if_pos hi,Oa3 hi];simp
 rw[if_neg hi,Ob4 zo];rfl
theorem Kac rs m o p I K(hr:∀ r∈rs,r.length=m)(h:∀ i,i<rs.length->(i<o+p↔i<I)):Jex rs m o p m=Jex rs m I K 0:=by
 apply Oi8;intro i;rw[Jex,Jex,Oh8,Oh8];by_cases hi:i<rs.length
 ·rw[Oa3 hi];simp only[Option.map_some];have hl:=hr _ (Ob3 hi);have:=h i hi;by_cases y:i<o
  ·rw[if_pos y,if_pos zo]
  rw[if_neg y];by_cases H:i<o+p
  ·rw[if_pos H,if_pos zo];simp[<-hl]
  rw[if_neg H,if_neg zo];simp
 rw[Ob4 zo];rfl
theorem Kb8 rs m o p(h:rs.length<=o):Jex rs m o p 0=rs:=by
 apply Oi8;intro i;rw[Jex,Oh8];by_cases hi:i<rs.length
 ·rw[Oa3 hi];simp only[Option.map_some];rw[if_pos zo]
 rw[Ob4 zo];rfl
theorem Kh7 L c n u(y:L.length=c)(K:c<n):(L++List.replicate (n-c) Jf).set c u=L++[u]++List.replicate (n-(c+1)) Jf:=by
 obtain⟨d,H⟩:∃ d,n-c=d+1:=⟨n-c-1,zo⟩;have I:n-(c+1)=d:=zo;rw[H,I,List.replicate_succ,Ok4 _ _ zo,y,Oe1,List.set_cons_zero];simp
theorem Kam rs m o p k(hr:∀ r∈rs,r.length=m)(I:k<m)(ho:o+p<=rs.length):Ji6 (Jex rs m o p k) o k (Jaj (Uk rs (o,p)) k)=Jex rs m o p (k+1):=by
 have M:(Jaj (Uk rs (o,p)) k).length=p:=by simp[Jaj,Uk];omega
 apply Oi8;intro i;rw[Ji6,Oh8,Jex,Jex,Oh8,Oh8,M];by_cases hi:i<rs.length
 ·rw[Oa3 hi];simp only[Option.map_some];have hl:=hr _ (Ob3 hi);by_cases H:i<o
  ·rw[if_pos H,if_neg zo,if_pos H]
  rw[if_neg H,if_neg H];by_cases y:i<o+p
  ·rw[if_pos y,if_pos ⟨zo,y⟩,if_pos y];have hv:(Jaj (Uk rs (o,p)) k).getD (i-o) Jf=rs[i][k]:=by
    have O:(Uk rs (o,p))[i-o]?=some rs[i]:=by
     simp only[Uk];rw[Oh3 zo,Oh9,show o+(i-o)=i by omega,Oa3 hi]
    have K:(Jaj (Uk rs (o,p)) k)[i-o]?=some (rs[i].getD k Jf):=by
     simp only[Jaj,Ob1,O,Option.map_some]
    rw[Oa0,K];simp[hl,I]
   rw[hv,Kh7 _ k m _ zt I,Oc4 zo]
  rw[if_neg y,if_neg zo,if_neg y]
 rw[Ob4 zo];rfl
theorem Joo D rs m y ts x(hr:∀ r∈rs,r.length=m)(ho:x.1+x.2<=rs.length)(hv:∀ c,c<m->Us D (y.getD c []) (ts.getD c 0) x.2=.inl (Jaj (Uk rs x) c)):
  ∀ k,k<=m->Jil D y ts x (Jex rs m x.1 x.2 0) k=.inl (Jex rs m x.1 x.2 k)
 |0,_=>rfl
 |k+1,H=>by
  simp only[Jil,Joo D rs m y ts x hr ho hv k zo,hv k zo];exact congrArg _ (Kam rs m x.1 x.2 k hr zo ho)
theorem Jjr len g j(M:1<=g)(y:j<ckN len g):(Jaa len g j).1+(Jaa len g j).2<=len/\1<=(Jaa len g j).2/\∀ i,i<len->(i<(Jaa len g j).1+(Jaa len g j).2↔i<(Jaa len g (j+1)).1):=by
 have I:j*g<len:=by
  unfold ckN at y;have H:(j+1)*g<=(len+g-1) / g*g:=Om8 g y;have K:=Nat.div_mul_le_self (len+g-1) g;rw[Of5]at H;omega
 simp only[Jaa];rw[Of5];exact⟨zo,zo,fun i hi=>zo⟩
theorem Jxu len g(I:1<=g):len<=(Jaa len g (ckN len g)).1:=by
 simp only[Jaa,ckN];have h:=Nat.div_add_mod (len+g-1) g;have y:=Ol0 (len+g-1) (show g>0 by omega);have H:g*((len+g-1) / g)=(len+g-1) / g*g:=Nat.mul_comm _ _;omega
theorem Joa D rs ts y g(H:1<=g)(hr:∀ r∈rs,r.length=ts.length)(hv:∀ j c,j<ckN rs.length g->c<ts.length->Us D (y.getD (j*ts.length+c) []) (ts.getD c 0) (Jaa rs.length g j).2=.inl (Jaj (Uk rs (Jaa rs.length g j)) c)):
  ∀ k,k<=ckN rs.length g->∃ p,(Jkh D ts y (List.replicate rs.length (List.replicate ts.length Jf)) (cks rs.length g k)).1=.inl (Jex rs ts.length (Jaa rs.length g k).1 p 0)
 |0,_=>⟨0,by
  show Sum.inl _=Sum.inl _;rw[<-Jv4 rs ts.length 0];simp[Jaa]⟩
 |k+1,Z=>by
  obtain⟨p,U⟩:=Joa D rs ts y g H hr hv k zo;obtain⟨I,Y,K⟩:=Jjr rs.length g k H zo;rw[Jbj,Jm6];simp only[Jox];rw[U,Jme,Jbp];have O:Jex rs ts.length (Jaa rs.length g k).1 p 0=Jex rs ts.length (Jaa rs.length g k).1 (Jaa rs.length g k).2 0:=by
   apply Oi8;intro i;rw[Jex,Jex,Oh8,Oh8];cases rs[i]? with
   |none=>rfl
   |some r=>simp
  refine⟨0,?_⟩;simp only;rw[O,Joo D rs ts.length _ ts _ hr I (fun c M=>?_) ts.length (Oa2 _)]
  ·exact congrArg _ (Kac rs ts.length _ _ _ 0 hr K)
  rw[<-hv k c zo M];congr 1
  simp[List.getD_eq_getElem?_getD,List.getElem?_drop]
theorem Jov rows ts hs:∀ (k:Nat) (l:List (List UInt8)),Jeo rows ts hs k=.inl l->∀ c,c<k->l[c]?=some (Uo rows ts hs c).1/\(Uo rows ts hs c).2=0
 |0,l,h,c,I=>by omega
 |k+1,l,h,c,I=>by
  simp only[Jeo]at h;split at h
  ·simp at h
  rename_i H y
  split at h
  ·rename_i h0
   simp at h;subst h;have hlen:=Jjc rows ts hs k H y;by_cases e:c=k
   ·subst e;rw[Ob6 zo];simp[hlen,h0]
   rw[Ob0 zo];exact Jov rows ts hs k H y c zo
  simp at h
theorem Jpd rs ts hs len g:∀ (n:Nat) (T:List (List UInt8)),Jfg rs ts hs (cks len g n)=.inl T->∀ j c,j<n->c<ts.length->T[j*ts.length+c]?=some (Uo (Uk rs (Jaa len g j)) ts hs c).1/\(Uo (Uk rs (Jaa len g j)) ts hs c).2=0
 |0,T,h,j,c,M,_=>by omega
 |n+1,T,h,j,c,M,I=>by
  rw[Jbj,Juv]at h;simp only[Jiu]at h;split at h
  ·simp at h
  rename_i y H
  split at h
  ·rename_i l hl
   simp at h;subst h;have hlen:=(Jte rs ts hs _ y H).1;rw[Jbp]at hlen;by_cases e:j=n
   ·subst e;rw[Ob6 zo,hlen,Nat.add_sub_cancel_left];exact Jov _ ts hs _ l hl c I
   have K:(j+1)*ts.length<=n*ts.length:=Om8 _ zo;rw[Of5]at K;rw[Ob0 zo];exact Jpd rs ts hs len g n y H j c zo I
  simp at h
theorem Kjs {l:List Int}{c:Nat}(h:c<l.length):l.getD c 0∈l:=by
 rw[show l.getD c 0=l[c] by simp[h]];exact Ob3 _
theorem Kkg {name ts hs rs g T}(U:Jel name ts rs)(Y:hs.length=ts.length)(H:∀ x∈hs,Kjk x)(hp:Jfg rs ts hs (cks rs.length g (ckN rs.length g))=.inl T):∀ t∈T,Kje t:=by
 intro t ht t' Z bf bh hh;obtain⟨i,hi,rfl⟩:=Od5 ht;have y:=(Jte rs ts hs _ T hp).1;rw[Jbp]at y;have h0:0<ts.length:=U.2.1.1.1;have M:=Nat.div_add_mod i ts.length;have O:=Ol0 i h0;have hq:i / ts.length<ckN rs.length g:=(Nat.div_lt_iff_lt_mul h0).2 zo;obtain⟨q1,q2⟩:=Jpd rs ts hs rs.length g _ T hp _ _ hq O;rw[Nat.mul_comm,M,Oa3 hi,Oc9]at q1;have I:Jev (ts.getD (i % ts.length) 0) (hs.getD (i % ts.length) 0) (Jaj (Uk rs (Jaa rs.length g (i / ts.length))) (i % ts.length))=(T[i],0):=Prod.ext q1.symm q2;obtain⟨_,_,_,_,e,K⟩:=Kja I;rw[K]at hh;simp only[Oc9,Oj3]at hh;rw[<-hh.1.2.1,e];exact H _ (Kjs zo)
theorem Jqv E name ts hs rs g T y(Y:Jel name ts rs)(I:1<=g)(br:∀ r∈rs,∀ v∈r,Jg v.n)(bh:∀ x∈hs,Kkn x)(bD:hs.length=ts.length)(hp:Jfg rs ts hs (cks rs.length g (ckN rs.length g))=.inl T)(hl:y.length=T.length)(hh:∀ (i:Nat) (bf:i<y.length) (bC:i<T.length),Jan E y[i] T[i]):
  Jgp E ⟨name,ts,rs.length,g,y⟩=.inl rs:=by
 have hr:∀ r∈rs,r.length=ts.length:=fun r hr=>by
  obtain⟨i,hi,rfl⟩:=Od5 hr;exact(Y.2.2.2 i hi).1
 have hv:∀ j c,j<ckN rs.length g->c<ts.length->Us E (y.getD (j*ts.length+c) []) (ts.getD c 0) (Jaa rs.length g j).2=.inl (Jaj (Uk rs (Jaa rs.length g j)) c):=by
  intro j c K H;obtain⟨bi,h0⟩:=Jpd rs ts hs rs.length g _ T hp j c K H;obtain⟨bk,bj⟩:=Ob9.1 bi;have M:j*ts.length+c<y.length:=zo;have U:=(hh _ M bk).read;rw[bj]at U;obtain⟨bf,_,_⟩:=Jjr rs.length g j I K;have bB:(Uk rs (Jaa rs.length g j)).length=(Jaa rs.length g j).2:=by simp[Uk];omega
  have bz:=Ki9 (ts.getD c 0) (hs.getD c 0) (bh _ (Kjs zo)) (Jaj (Uk rs (Jaa rs.length g j)) c) (Uo (Uk rs (Jaa rs.length g j)) ts hs c).1 (by
   unfold Uo at h0 |-;exact Prod.ext rfl h0) (fun v hv=>by
    obtain⟨r,bA,rfl⟩:=Of0.1 hv;have O:r∈rs:=Oh7 (Om9 bA);have bx:=hr r O;have:r.getD c Jf=r[c]:=(by simp[bx,H]);rw[this];exact br r O _ (Ob3 _))
  unfold Us;rw[show y.getD (j*ts.length+c) []=y[j*ts.length+c] by simp[M],U];simp only[bz];have Z:Jnd (ts.getD c 0)=true:=by
   have:=Y.2.1.2 c H;simpa [H] using this
  unfold Jnd at Z;simp only[decide_eq_true_iff]at Z;rw[if_pos ⟨zo,by rw[<-bB];simp[Jaj]⟩]
 obtain⟨p,h⟩:=Joa E rs ts y g I hr hv (ckN rs.length g) (Oa2 _);unfold Jgp;simp only;rw[h,Kb8 rs ts.length _ _ (Jxu rs.length g I)]
theorem Jmw:∀ (ps:List (List UInt8))(D:DS),((Js D.pages:Nat):Int)<=D.quota->(Uy D ps).2.2=none->((Js (Uy D ps).1.pages:Nat):Int)<=D.quota
 |[],D,h,_=>by simpa [Uy] using h
 |p::ps,D,h,y=>by
  unfold Uy at y |-;by_cases H:D.quota<=((Js D.pages:Nat):Int)
  ·rw[if_pos H]at y;simp at y
  rw[if_neg H]at y |-;by_cases I:wrap64 (D.writes+1)=D.fail
  ·rw[if_pos I]at y;simp at y
  rw[if_neg I]at y |-;have:=Jmw ps (Zn D p) (by rw[Jm8];show _<=D.quota;omega) y;exact this
theorem Jh1:∀ (ts:List (List UInt8))(D:DS),((Js D.pages:Nat):Int)<=D.quota->(Jq D ts).2.2=none->((Js (Jq D ts).1.pages:Nat):Int)<=D.quota
 |[],D,h,_=>by simpa [Jq] using h
 |t::ts,D,h,y=>by
  have H:=Jmw (Qu t) D h;have I:=(Jc1 (Qu t) D).1;unfold Jq at y |-;rcases hr:Uy D (Qu t)with⟨E,l,r⟩;rw[hr]at y H I;cases r with
  |none=>
   have hq:E.quota=D.quota:=(I rfl).quota;have:=Jh1 ts E (by rw[hq];exact H rfl) y;rw[hq]at this;exact this
  |some x=>simp at y
theorem Jhk:∀ (ts:List (List UInt8))(D:DS),(Jq D ts).1.pages.length<=D.pages.length+Jch ts
 |[],D=>by simp[Jq,Jch]
 |t::ts,D=>by
  have y:=(Jrh (Qu t) D).1;unfold Jq;rcases hr:Uy D (Qu t)with⟨E,l,r⟩;rw[hr]at y;rw[Ja1];cases r with
  |none=>
   have:=Jhk ts E;simp only at y this |-;omega
  |some x=>
   simp only at y |-;rw[Jrz];omega
structure Jer (D:DS) (T:TS) (rs:List (List V)):Prop where
 cols:1<=T.types.length/\T.types.length<=6
 rows:T.rows<=200
 group:1<=T.group/\T.group<=64
 count:T.segs.length=ckN T.rows T.group*T.types.length
 texts:∃ X:List (List UInt8),X.length=T.segs.length/\(∀ t∈X,t≠[]/\t.length<=6100/\Kje t)/\(∀ (i:Nat) (h1:i<T.segs.length) (h2:i<X.length),Jan D T.segs[i] X[i])/\(∀ E:DS,(∀ (i:Nat) (h1:i<T.segs.length) (h2:i<X.length),Jan E T.segs[i] X[i])->Jgp E T=.inl rs)
theorem Jer.read {D T rs}(h:Jer D T rs):Jgp D T=.inl rs:=by
 obtain⟨X,_,_,y,H⟩:=h.texts;exact H D y
theorem Jer.keep {D E T rs}(h:Jer D T rs)(O:∀ i∈T.segs.flatten,pg E i=pg D i):Jer E T rs:=by
 obtain⟨X,y,H,I,K⟩:=h.texts;exact⟨h.cols,h.rows,h.group,h.count,X,y,H,fun i hi M=>(I i hi M).keep fun k U=>O k (List.mem_flatten.2 ⟨_,Ob3 hi,U⟩),K⟩
theorem Jer.seg {D T rs}(h:Jer D T rs):∀ l∈T.segs,∃ t,t≠[]/\t.length<=6100/\Jan D l t/\Kje t:=by
 intro l hl;obtain⟨X,K,H,I,M⟩:=h.texts;obtain⟨i,hi,rfl⟩:=Od5 hl;have y:=H _ (Ob3 (show i<X.length by omega));exact⟨_,y.1,y.2.1,I i hi zo,y.2.2⟩
theorem Jx9 {D l t}(h:Jan D l t)(ht:t≠[])(hl:t.length<=6100):l≠[]/\l.length<=1000:=by
 have I:=Jio t;have y:=h.1;have H:=Jy1 ht;refine⟨fun e=>H (Od3.1 ?_),zo⟩;rw[<-y,e];rfl
theorem Jer.inuse {D T rs}(h:Jer D T rs):∀ i∈T.segs.flatten,∃ p,pg D i=some p:=by
 intro i hi;obtain⟨l,hl,H⟩:=List.mem_flatten.1 hi;obtain⟨t,_,_,⟨K,y⟩,_⟩:=h.seg l hl;obtain⟨k,I,rfl⟩:=Od5 H;exact⟨_,y k I zo⟩
theorem Jer.ok {D T rs}(h:Jer D T rs):Jid D T:=by
 refine⟨h.cols,h.rows,h.group,h.count,fun l hl=>?_,fun l hl t ht=>?_⟩
 ·obtain⟨t,y,I,H,_⟩:=h.seg l hl;exact Jx9 H y I
 obtain⟨t',y,I,H,K⟩:=h.seg l hl;rw[H.read]at ht;simp at ht;rw[<-ht];exact⟨y,K⟩
structure Jbc (D:DS) (L:List (TS×List (List V))):Prop where
 tab:∀ x∈L,Jer D x.1 x.2
 nodup:(L.flatMap fun x=>x.1.segs.flatten).Nodup
 all:∀ i p,pg D i=some p->i∈L.flatMap fun x=>x.1.segs.flatten
 used:Js D.pages=(L.flatMap fun x=>x.1.segs.flatten).length
 writes:0<=D.writes
theorem Jbc.empty q f:Jbc (Ku q f) []:=
 ⟨zS,zS,fun i p h=>by simp[pg,Ku]at h,by simp[Ku,Js],by simp[Ku]⟩
theorem Jbc.same {D E L}(h:Jbc D L)(hs:Kft D E)(y:0<=E.writes):Jbc E L:=
 ⟨fun x H=>(h.tab x H).keep fun i _=>hs.pages i,h.nodup,fun i p hp=>h.all i p (by rw[<-hs.pages];exact hp),hs.used.trans h.used,y⟩
theorem Kg4 n g(H:1<=g):ckN n g<=n:=by
 unfold ckN;exact Nat.le_of_lt_succ ((Nat.div_lt_iff_lt_mul zo).2 (by
  have:n+1<=(n+1)*g:=On4 _ zo;rw[Of5]at this |-;have y:n<=n*g:=On4 _ zo;omega))
theorem Jtr {name ts hs rs}{g:Int}{T}(I:Jel name ts rs/\Je3 ts hs/\1<=g/\g<=64)(hp:Jfg rs ts hs (cks rs.length g.toNat (ckN rs.length g.toNat))=.inl T):
  T.length=ckN rs.length g.toNat*ts.length/\(∀ t∈T,t.length<=6100/\t≠[])/\Jch T<=660*rs.length/\(T=[]↔rs=[]):=by
 obtain⟨y,H⟩:=Jte rs ts hs _ T hp;rw[Jbp]at y;have O:=Joc T fun t ht=>(H t ht).1;have K:=Kg4 rs.length g.toNat zo;have M:ts.length<=6:=I.1.2.1.1.2;have Y:1<=ts.length:=I.1.2.1.1.1;have U:ckN rs.length g.toNat*ts.length<=rs.length*6:=Ol5 K M;refine⟨y,H,zo,⟨fun e=>?_,fun e=>?_⟩⟩
 ·subst e;have h0:ckN rs.length g.toNat=0:=by
   rcases Nat.mul_eq_zero.1 y.symm with h|h
   ·exact h
   omega
  have:=Jxu rs.length g.toNat zo;simp only[Jaa,h0]at this;exact Od3.1 zo
 subst e;have h0:ckN ([]:List (List V)).length g.toNat=0:=by unfold ckN;exact Op6 zt
 rw[h0]at y;exact Od3.1 zo
theorem Kjy {D E L Ts name ts hs rs g T}(Y:∀ x∈hs,Kjk x/\Kkn x)(H:Jbc D L)(bB:∀ r∈rs,∀ v∈r,Jg v.n)(bN:D.writes<=100000000000000000)(h:Jbd D Ts name ts hs rs g=.ok E T):
  Jbc E (L++[(T,rs)])/\T.name=name/\Js E.pages=Js D.pages+T.segs.flatten.length/\(T.segs.flatten=[]↔rs=[])/\E.quota=D.quota/\E.fail=D.fail/\E.pages.length<=D.pages.length+660*rs.length/\E.writes<=D.writes+660*rs.length/\(((Js D.pages:Nat):Int)<=D.quota->((Js E.pages:Nat):Int)<=D.quota)/\D.writes<=E.writes/\(Ub Ts name=Ts.length):=by
 unfold Jbd at h;split at h
 ·rename_i I
  split at h
  ·simp at h
  rename_i bM
  split at h
  ·simp at h
  rename_i X M
  split at h
  ·simp at h
  rename_i Z
  simp only[Sum.inr.injEq,Oj3]at h;obtain⟨rfl,rfl⟩:=h;obtain⟨bH,U,bP,bh⟩:=Jtr I M;have hl:=Jjv X D Z;have hq:=Jh1 X D;have bL:=Jhk X D;have bD:rs.length<=200:=I.1.2.2.1;have bG:=Jd9 X D H.writes zo;generalize bJ:(Jq D X).1=E at *;generalize hR:(Jq D X).2.1=R at *;have bK:=Kdk Ts name;have bO:=H.writes;refine⟨⟨?_,?_,?_,?_,zo⟩,rfl,hl.used,⟨fun e=>?_,fun e=>?_⟩,hl.quota,hl.fail,zo,zo,fun hh=>hq hh Z,bG.1.1,zo⟩
  ·intro x y;rcases Od2.1 y with y|y
   ·refine(H.tab x y).keep fun i hi=>hl.other i fun K=>?_;obtain⟨p,hp⟩:=(H.tab x y).inuse i hi;rw[hl.free i K]at hp;simp at hp
   simp at y;subst y;refine⟨⟨I.1.2.1.1.1,I.1.2.1.1.2⟩,bD,⟨by show 1<=g.toNat;omega,by show g.toNat<=64;omega⟩,by show R.length=_;rw[hl.len,bH],X,hl.len.symm,fun t ht=>⟨(U t ht).2,(U t ht).1,Kkg I.1 I.2.1.1 (fun x y=>(Y x y).1) M t ht⟩,fun i bj bI=>hl.segs i bj,fun bi bk=>Jqv bi name ts hs rs g.toNat X R I.1 zo bB (fun x y=>(Y x y).2) I.2.1.1 M hl.len bk⟩
  ·rw[Oe8];refine Op3.2 ⟨H.nodup,by simpa using hl.nodup,fun a br b hb e=>?_⟩;subst e;simp at hb;obtain⟨x,y,bz⟩:=Op5.1 br;obtain⟨p,hp⟩:=(H.tab x y).inuse a bz;have bA:a∈R.flatten:=by
    obtain⟨l,bC,bx⟩:=hb;exact List.mem_flatten.2 ⟨l,bC,bx⟩
   rw[hl.free a bA]at hp;simp at hp
  ·intro i p hp;rw[Oe8];by_cases K:i∈R.flatten
   ·exact Od2.2 (.inr (by simpa using K))
   rw[hl.other i K]at hp;exact Od2.2 (.inl (H.all i p hp))
  ·rw[hl.used,H.used,Oe8,Oa8];simp
  ·have O:X=[]:=by
    rcases X with _|⟨t,X⟩
    ·rfl
    ·exfalso;rcases R with _|⟨l,R⟩
     ·have:=hl.len;simp at this
     have bE:=hl.segs 0 zS;have bf:=U t zS;have:=(Jx9 bE bf.2 bf.1).1;simp at e;exact this (by simpa using e.1)
   exact bh.1 O
  have O:=bh.2 e;have hlen:=hl.len;rw[O]at hlen;have:R=[]:=Od3.1 (by simpa using hlen);show R.flatten=[];rw[this];rfl
 simp at h
theorem Jz8 {D E L Ts name ts hs rs g x}(H:Jbc D L)(bk:D.writes<=100000000000000000)(h:Jbd D Ts name ts hs rs g=.disk x E):
  Jbc E L/\Kft D E/\rs≠[]/\(x=true->D.quota<=((Js D.pages+660*rs.length:Nat):Int))/\(x=false->E.writes=D.fail/\D.writes<E.writes)/\E.pages.length<=D.pages.length+660*rs.length/\E.writes<=D.writes+660*rs.length/\D.writes<=E.writes:=by
 unfold Jbd at h;split at h
 ·rename_i K
  split at h
  ·simp at h
  split at h
  ·simp at h
  rename_i X Z
  split at h
  ·rename_i bh M
   simp only[Sum.inr.injEq,Sum.inl.injEq,Oj3]at h;obtain⟨rfl,rfl⟩:=h;obtain⟨bx,bz,bA,bf⟩:=Jtr K Z;obtain⟨I,U,Y⟩:=Jj4 X D bh M;have bj:rs.length<=200:=K.1.2.2.1;have O:=Jd9 X D H.writes zo;have y:=(Jdn (Jq D X).2.1 (Jq D X).1).2.2;have bi:=Jhk X D;have br:=H.writes;refine⟨H.same I (by rw[y];omega),I,fun e=>U (bf.2 e),fun e=>?_,fun e=>?_,by rw[Jt4];omega,by rw[y];omega,by rw[y];exact O.1.1⟩
   ·have:=Y e;omega
   subst e;rw[y];exact O.2.1 M
  simp at h
 simp at h
theorem Jla rows ts hs c:∀ (k:Nat),Jeo rows ts hs k=.inr c->c<k/\(Uo rows ts hs c).2≠0
 |0,h=>by simp[Jeo]at h
 |k+1,h=>by
  simp only[Jeo]at h;split at h
  ·rename_i y H
   simp at h;subst h;have:=Jla rows ts hs y k H;exact⟨zo,this.2⟩
  split at h
  ·simp at h
  rename_i h0
  simp at h;subst h;exact⟨zo,h0⟩
theorem Ju4 rs ts hs c:∀ (xs:List (Nat×Nat)),Jfg rs ts hs xs=.inr c->∃ x∈xs,c<ts.length/\(Uo (Uk rs x) ts hs c).2≠0:=by
 intro xs;have key:∀ (xs:List (Nat×Nat)) (T:List (List UInt8)),xs.foldl (Jiu rs ts hs) (.inl T)=.inr c->∃ x∈xs,c<ts.length/\(Uo (Uk rs x) ts hs c).2≠0:=by
  intro xs;induction xs with
  |nil=>intro T h;simp at h
  |cons x xs I=>
   intro T h;rw[List.foldl_cons]at h;simp only[Jiu]at h;split at h
   ·obtain⟨K,hy,M⟩:=I _ h;exact⟨K,by simp[hy],M⟩
   rename_i H O
   have hb:∀ y:List (Nat×Nat),y.foldl (Jiu rs ts hs) (.inr H)=.inr H:=by
    intro y;induction y with
    |nil=>rfl
    |cons K y I=>exact I
   rw[hb]at h;simp at h;subst h;exact⟨x,zS,Jla _ ts hs H _ O⟩
 exact key xs []
theorem Jy3 {D Ts name ts hs rs g c}(h:Jbd D Ts name ts hs rs g=.dict c):c<hs.length/\hs.getD c 0=1/\16<rs.length:=by
 unfold Jbd at h;split at h
 ·rename_i K
  split at h
  ·simp at h
  split at h
  ·rename_i y Y
   simp only[Sum.inr.injEq,Sum.inl.injEq]at h;subst h;obtain⟨x,bh,U,H⟩:=Ju4 rs ts hs y _ Y;obtain⟨j,O,rfl⟩:=Of0.1 bh;rw[Oj4]at O;obtain⟨bi,bj,_⟩:=Jjr rs.length g.toNat j zo O;have bf:=K.2.1.1;refine⟨zo,?_⟩;have I:=Jqm K.1 (rows:=Uk rs (Jaa rs.length g.toNat j)) (hs:=hs) (fun r hr=>Oh7 (Om9 hr)) (by simp only[Uk,Oc7,Of7,Jaa];omega) y U bf K.2.1.2;have bk:(Jaj (Uk rs (Jaa rs.length g.toNat j)) y).length<=rs.length:=by simp[Jaj,Uk];omega
   unfold Uo Jev at H I;split at H
   ·rename_i M
    rw[if_pos M]at I;split at H
    ·rename_i Z
     have u1:=Jk0 (Jz (Jaj (Uk rs (Jaa rs.length g.toNat j)) y)) [];have u2:=Zy (Jaj (Uk rs (Jaa rs.length g.toNat j)) y);simp only[List.length_nil,Od0]at u1;exact⟨Z.1,zo⟩
    exact absurd rfl H
   rename_i M
   rw[if_neg M]at I;simp at I
  split at h<;>simp at h
 simp at h
end
section
open Go.RowKit Tryz
theorem zaC {p:Prop}(h:p:=by
 go_wp2;go_ret
 refine⟨Qr ?_,Oa5 _ _⟩;cases b
 ·rfl
 exact absurd (congrArg List.length (K.out.1 rfl)) hl):p:=h
theorem Jqj a a2 cap Y xs y w(bi:xs.length<=maxLen)(bj:Jv w a xs)(hy:Jv w a2 y)b(hb:b=true↔xs=y):
  Calls prog 14 #[.slice a xs.length cap,.slice a2 y.length Y] w fun e w'=>e=.returned (.bool b)/\Below w.heap.size w w':=by
 unfold maxLen at bi;have K:=zh hb;clear hb;by_cases hl:xs.length=y.length
 ·have O:=zh hl;have Z:((xs.length:Int) != (y.length:Int))=false:=by simp[hl]
  clear hl;go_enter func14,ntmps14
  go_wp2;go_loopw [5] (fun i wr=>∃ k:Nat,k<=xs.length/\i=.int .i64 k/\(∃ m,wr=w.drewN m)/\Hid (∀ j (H:j<xs.length),j<k->xs[j]=y[j]'(O.out▸H))) (fun i _=>xs.length-(intOf i).toNat)
  case atStart=>exact⟨0,Ob7 _,rfl,⟨0,rfl⟩,fun j _ H=>absurd H (Oe0 _)⟩
  case round=>
   obtain⟨k,br,rfl,⟨m,rfl⟩,U⟩:=hrel;by_cases bf:k<xs.length
   ·have bh:k<y.length:=by have:=O.out;omega
    obtain⟨b1,bx,rfl,_,x1,x2,bA⟩:=bj.at bf;obtain⟨b2,bz,rfl,_,bB,bC,bD⟩:=hy.at bh;by_cases I:xs[k]=y[k]
    ·have hq:=Jql _ _ I;have M:=zh I;clear I;go_wp2;go_quiet (fail)
     go_wp2;go_roundw
     case rel=>
      refine⟨k+1,zo,zn,⟨_,rfl⟩,fun j H bk=>?_⟩;by_cases e:j=k
      ·subst e;exact M.out
      exact U.out j H zo
     case measure=>simp[intOf];omega
    have hq:=Jqe _ _ I;have M:=zh I;clear I;go_wp2;go_quiet (fail)
    go_wp2;go_ret
    refine⟨Qr ?_,Jp (Jp (Oa5 _ _) _) _⟩;cases b
    ·rfl
    exact absurd (by rw[List.getElem_of_eq (K.out.1 rfl)]) M.out
   go_wp2;go_ret
   exact⟨Qr (K.out.2 (Ka6 xs y O.out fun j H=>U.out j H zo)).symm,Jp (Oa5 _ _) _⟩
 have Z:((xs.length:Int) != (y.length:Int))=true:=by simp;omega
 go_enter func14,ntmps14
 exact zaC
theorem Kc2 (rs y:List (List V))(hl:rs.length=y.length)(h:∀ j (I:j<rs.length),rs[j]=y[j]'(hl▸I)):rs=y:=Oh4 hl fun i H _=>h i H
theorem Jn2 a a2 cap bj hs bz rs y w(bx:rs.length<=maxLen)(bf:∀ r∈rs,r.length<=maxLen)(bA:Zd w a hs rs)(hy:Zd w a2 bz y)b(hb:b=true↔rs=y):
  Calls prog 16 #[.slice a rs.length cap,.slice a2 y.length bj] w fun e w'=>e=.returned (.bool b)/\Below w.heap.size w w':=by
 unfold maxLen at bx;have K:=zh hb;have bi:=zh bf;clear hb bf;by_cases hl:rs.length=y.length
 ·have M:=zh hl;have bk:((rs.length:Int) != (y.length:Int))=false:=by simp[hl]
  clear hl;go_enter func16,ntmps16
  go_wp2;go_loopw [5] (fun i wr=>∃ k:Nat,k<=rs.length/\i=.int .i64 k/\Below w.heap.size w wr/\Hid (∀ j (H:j<rs.length),j<k->rs[j]=y[j]'(M.out▸H))) (fun i _=>rs.length-(intOf i).toNat)
  case atStart=>exact⟨0,Ob7 _,rfl,Oa5 _ _,fun j _ H=>absurd H (Oe0 _)⟩
  case round=>
   obtain⟨k,bL,rfl,I,Y⟩:=hrel;by_cases Z:k<rs.length
   ·have br:k<y.length:=by have:=M.out;omega
    obtain⟨b1,bM,bB,bD,rfl,bI,x1,bG⟩:=(bA.below I).at Z;obtain⟨b2,bN,bC,bE,rfl,bJ,bO,bH⟩:=(hy.below I).at br;obtain⟨bb,O⟩:∃ bb:Bool,bb=true↔rs[k]=y[k]:=⟨(open Classical in decide (rs[k]=y[k])),by open Classical in exact decide_eq_true_iff⟩;have bh:=Jqj bB bC bD bE rs[k] y[k] wr.drew (bi.out _ (Ob3 Z)) (bG.of_block (Oa2 _) fun _ _ _ _=>rfl) (bH.of_block (Oa2 _) fun _ _ _ _=>rfl) bb O;have U:=zh O;clear O;cases bb with
    |true=>
     go_wp2_with fail
     go_region_with (first|(go_at_call 14;refine bh.mono ?_;rintro e w' ⟨rfl,hb⟩))
     all_goals
      go_wp2;go_roundw
      case rel=>
       refine⟨k+1,zo,zn,Jb I (Jw hb),fun j H bK=>?_⟩;by_cases e:j=k
       ·subst e;exact U.out.1 zS
       exact Y.out j H zo
      case measure=>simp[intOf];omega
    |false=>
     go_wp2_with fail
     go_region_with (first|(go_at_call 14;refine bh.mono ?_;rintro e w' ⟨rfl,hb⟩))
     all_goals
      go_wp2;go_ret
      refine⟨Qr ?_,Jb I (Jw hb)⟩;cases b
      ·rfl
      exact absurd (U.out.2 (by rw[List.getElem_of_eq (K.out.1 rfl)])) zS
   go_wp2;go_ret
   exact⟨Qr (K.out.2 (Kc2 rs y M.out fun j H=>Y.out j H zo)).symm,I⟩
 have bk:((rs.length:Int) != (y.length:Int))=true:=by simp;omega
 go_enter func16,ntmps16
 exact zaC
theorem Jpb n:Jg (wrap64 n):=by
 unfold Jg wrap64;omega
def tOk (t:Int):Prop:=t=1\/t=2\/t=3
theorem Jvl a cap ns w(bD:ns.length<=maxLen)(bI:Kc w a ns):
  Calls prog 19 #[.slice a ns.length cap,.int .i64 6] w fun e w'=>∃ (ts:List Int) (sv:Value),e=.returned sv/\Jo w' w.heap.size 3 sv (ts.map iv)/\(1<=ts.length/\ts.length<=6)/\(∀ t∈ts,tOk t)/\Below w.heap.size w w':=by
 unfold maxLen at bD;go_enter func19,ntmps19
 go_wp2;go_loopw [5,6] (fun sv i wr=>∃ (k:Nat) (ts:List Int),k<=ns.length/\k<=6/\i=.int .i64 k/\Hid (ts.length=k)/\Hid (∀ t∈ts,tOk t)/\Jo wr w.heap.size 3 sv (ts.map iv)/\Below w.heap.size w wr) (fun _ i _=>6-(intOf i).toNat)
 case atStart=>exact⟨0,[],Ob7 _,Ob7 _,rfl,rfl,by intro t ht;simp at ht,Jo.nil _ _ _,Oa5 _ _⟩
 case round=>
  rename_i sv i
  obtain⟨k,ts,bN,bO,rfl,U,O,y,H⟩:=hrel;obtain⟨a1,c1,K,_⟩:=y.cells;rw[Oa6]at K;have bM:=H.size;have bP:ts.length<=6:=by have:=U.out;omega
  by_cases bf:k<ns.length/\k<6
  ·obtain⟨bi,bK⟩:=bf;obtain⟨b1,bR,rfl,bL,x1⟩:=Kc.at (bI.below H) bi;have br:=fun W=>Jfw (wrap64 (ns[k]-1)) 3 W (Jpb _) zd zd;have bx:=zh br;clear br;subst K;go_wp2_with (first|(go_at_call 8;go_must (refine(bx.out _).mono ?_);rintro e w1 ⟨⟨r,rfl,hr⟩,bQ⟩;subst w1)|(at_builtin;go_must (refine Ks zR _ _ 22 3 _ 8 Zw zR zd zK zR w.heap.size _ _ zR (Jo.alloc y _) ⟨wr.heap.size,0,none⟩ 1 [iv (1+(r:Int))] zR (by exact Ua wr _ _) (by intro u M;simp at M;subst M;rfl) (by simp only[List.length_cons,List.length_nil,Oa6];omega) zt ?_);intro sv' bJ I Y bA;obtain⟨a2,bz,bh,_⟩:=I.cells;subst bh))
   go_roundw
   case rel=>
    refine⟨k+1,ts++[1+(r:Int)],zo,zo,zn,by show _=_;rw[Oa8,U.out];rfl,?_,by simpa using I,Jy (Jc H _) Y (fun g Z=>(Je y Z).1)⟩;intro t ht;rcases Od2.1 ht with h|h
    ·exact O.out t h
    simp at h;subst h;unfold tOk;omega
   case measure=>simp[intOf];omega
  by_cases h0:ts.length=0
  ·have bH:ts=[]:=Od3.1 h0;subst bH;have bG:=K;subst bG;have bC:k=0:=by have:=U.out;simp at this;omega
   subst bC;by_cases bj:0<ns.length
   ·exact absurd ⟨bj,zo⟩ bf
   have bk:ns.length=0:=zo;have bE:=Od3.1 bk;subst bE;clear bf bj bk h0;simp at y;go_wp2_with (first|(at_builtin;go_must (refine Ks zR _ _ 22 3 _ 8 Zw zR zd zK zR w.heap.size _ [] zR (Jo.alloc (by exact y) _) ⟨wr.heap.size,0,none⟩ 1 [iv 1] zR (by exact Ua wr _ _) (by intro u M;simp at M;subst M;rfl) zS zt ?_);intro sv' bJ I Y bA;obtain⟨a2,bz,bh,_⟩:=I.cells;subst bh))
   go_ret
   exact⟨[1],_,rfl,by simpa using I,zS,by intro t ht;simp at ht;subst ht;exact .inl rfl,Jy (Jc H _) Y (fun g Z=>(Je y Z).1)⟩
  have hq:(((ts.length:Nat):Int)==0)=false:=by rw[beq_eq_false_iff_ne];omega
  by_cases bi:k<ns.length
  ·have bB:k=6:=zo;subst bB;subst K;go_wp2;go_ret
   exact⟨ts,_,rfl,y,zo,O.out,H⟩
  subst K;go_wp2;go_ret
  exact⟨ts,_,rfl,y,zo,O.out,H⟩
theorem Jpy t h(ht:tOk t)(h0:0<=h)(y:h<=3)(H:¬ (t=3/\h=3)):way t h=true:=by
 unfold way tOk at *;rw[decide_eq_true_eq];omega
structure Jfz (ts ns L:List Int) (k:Nat):Prop where
 len:L.length=k
 ok:∀ j (hj:j<L.length),way (ts.getD j 0) L[j]=true
 plain:∀ j (hj:j<L.length),ns.length<=j->L[j]=0
theorem Jfz.more {ts ns L k}(h:Jfz ts ns L k)v(hv:way (ts.getD k 0) v=true)(hp:ns.length<=k->v=0):Jfz ts ns (L++[v]) (k+1):=by
 have hl:=h.len;refine⟨by simp[hl],fun j y=>?_,fun j y H=>?_⟩
 ·by_cases e:j<L.length
  ·rw[Oi2 e];exact h.ok j e
  have:j=L.length:=by simp at y;omega
  subst this;rw[Ok8 (Oa2 _)];simpa [hl] using hv
 by_cases e:j<L.length
 ·rw[Oi2 e];exact h.plain j e H
 have:j=L.length:=by simp at y;omega
 subst this;rw[Ok8 (Oa2 _)];simpa using hp zo
theorem Jzt bz bA at_ a ct cap ts ns w(bS:ts.length<=6)(bE:∀ t∈ts,tOk t)(bD:∀ n∈ns,Jg n)(ht:Kc w at_ ts)(bM:Kc w a ns):
  Calls prog 23 #[.agg #[bz,.slice at_ ts.length ct,bA],.slice a ns.length cap] w fun e w'=>∃ (hs:List Int) (sv:Value),e=.returned sv/\Jo w' w.heap.size 3 sv (hs.map iv)/\Jfz ts ns hs ts.length/\Below w.heap.size w w':=by
 have bH:=zh bE;have bG:=zh bD;clear bE bD;have bJ:Below w.heap.size w (w.alloc (.cells #[bz,.slice at_ ts.length ct,bA] 25)):=(Oa5 _ _).alloc (Oa2 _) _;go_enter func23,ntmps23
 go_wp2;go_loopw [5,6] (fun sv i wr=>∃ (c:Nat) (L:List Int),c<=ts.length/\i=.int .i64 c/\Hid (Jfz ts ns L c)/\Jo wr (w.heap.size+1) 3 sv (L.map iv)/\Below (w.heap.size+1) (w.alloc (.cells #[bz,.slice at_ ts.length ct,bA] 25)) wr) (fun _ i _=>ts.length-(intOf i).toNat)
 case atStart=>exact⟨0,[],Ob7 _,rfl,⟨rfl,zS,zS⟩,Jo.nil _ _ _,Oa5 _ _⟩
 case round=>
  rename_i sv i
  obtain⟨c,L,bR,rfl,Y,I,M⟩:=hrel;obtain⟨a1,c1,br,_⟩:=I.cells;rw[Oa6]at br;have bK:=M.size;simp at bK;have bO:L.length<=6:=by have:=Y.out.len;omega
  have bj:Below w.heap.size w wr:=bJ.trans (M.mono (Nat.le_succ _));have bN:wr.cell? ⟨w.heap.size,1,none⟩=some (.slice at_ ts.length ct):=by rw[M.cell (p:=⟨w.heap.size,1,none⟩) zS];simp
  by_cases bk:c<ts.length
  ·obtain⟨b1,bU,rfl,bP,x1⟩:=Kc.at (ht.below bj) bk;have bf:Hid (ts.getD c 0=ts[c]):=by show _=_;simp[bk]
   have Z:=bH.out _ (Ob3 bk);unfold tOk at Z;subst br;by_cases bC:c<ns.length
   ·obtain⟨b2,bV,rfl,bQ,x2⟩:=Kc.at (bM.below bj) bC;have bL:=Jfw ns[c] 4 wr (bG.out _ (Ob3 bC)) zd zd;go_wp2_with fail
    refine bL.mono ?_;rintro e w1 ⟨⟨r,rfl,hr⟩,bT⟩;subst w1;by_cases bI:r=3
    ·subst bI;by_cases bx:ts[c]=3
     ·have hq:(ts[c]==3)=true:=by rw[beq_iff_eq];exact bx
      rw[bx]at x1;go_wp2_with (at_builtin;go_must (refine Ks zR _ _ 22 3 _ 8 Zw zR zd zK zR (w.heap.size+1) _ _ zR (Jo.alloc I _) ⟨wr.heap.size,0,none⟩ 1 [iv 2] zR (by exact Ua wr _ _) (by intro u H;simp at H;subst H;rfl) (by simp only[List.length_cons,List.length_nil,Oa6];omega) zt ?_);intro sv' bB y K bi;obtain⟨a2,bh,U,_⟩:=y.cells;subst U)
      go_roundw
      case rel=>exact⟨c+1,L++[2],zo,zn,Y.out.more 2 (by rw[bf.out];exact Jpy _ _ Z zo zo zo) (fun h=>zo),by simpa using y,(M.alloc zo _).grown K zt (fun g O=>(Je I O).1)⟩
      case measure=>simp[intOf];omega
     have hq:(ts[c]==3)=false:=by rw[beq_eq_false_iff_ne];exact bx
     go_wp2_with (at_builtin;go_must (refine Ks zR _ _ 22 3 _ 8 Zw zR zd zK zR (w.heap.size+1) _ _ zR (Jo.alloc I _) ⟨wr.heap.size,0,none⟩ 1 [iv 3] zR (by exact Ua wr _ _) (by intro u H;simp at H;subst H;rfl) (by simp only[List.length_cons,List.length_nil,Oa6];omega) zt ?_);intro sv' bB y K bi;obtain⟨a2,bh,U,_⟩:=y.cells;subst U)
     go_roundw
     case rel=>exact⟨c+1,L++[3],zo,zn,Y.out.more 3 (by rw[bf.out];exact Jpy _ _ Z zo zo zo) (fun h=>zo),by simpa using y,(M.alloc zo _).grown K zt (fun g O=>(Je I O).1)⟩
     case measure=>simp[intOf];omega
    have hq:((r:Int)==3)=false:=by rw[beq_eq_false_iff_ne];omega
    go_wp2_with (at_builtin;go_must (refine Ks zR _ _ 22 3 _ 8 Zw zR zd zK zR (w.heap.size+1) _ _ zR (Jo.alloc I _) ⟨wr.heap.size,0,none⟩ 1 [iv (r:Int)] zR (by exact Ua wr _ _) (by intro u H;simp at H;subst H;rfl) (by simp only[List.length_cons,List.length_nil,Oa6];omega) zt ?_);intro sv' bB y K bi;obtain⟨a2,bh,U,_⟩:=y.cells;subst U)
    go_roundw
    case rel=>exact⟨c+1,L++[(r:Int)],zo,zn,Y.out.more (r:Int) (by rw[bf.out];exact Jpy _ _ Z zo zo zo) (fun h=>zo),by simpa using y,(M.alloc zo _).grown K zt (fun g O=>(Je I O).1)⟩
    case measure=>simp[intOf];omega
   go_wp2_with (at_builtin;go_must (refine Ks zR _ _ 22 3 _ 8 Zw zR zd zK zR (w.heap.size+1) _ _ zR (Jo.alloc I _) ⟨wr.heap.size,0,none⟩ 1 [iv 0] zR (by exact Ua wr _ _) (by intro u H;simp at H;subst H;rfl) (by simp only[List.length_cons,List.length_nil,Oa6];omega) zt ?_);intro sv' bB y K bi;obtain⟨a2,bh,U,_⟩:=y.cells;subst U)
   go_roundw
   case rel=>exact⟨c+1,L++[0],zo,zn,Y.out.more 0 (by rw[bf.out];exact Jpy _ _ Z zo zo zo) (fun _=>rfl),by simpa using y,(M.alloc zo _).grown K zt (fun g O=>(Je I O).1)⟩
   case measure=>simp[intOf];omega
  obtain rfl:c=ts.length:=zo;subst br;go_wp2;go_ret
  exact⟨L,_,rfl,Jgl I (Nat.le_succ _),Y.out,bj⟩
def Kgs (ts:List Int)(r:List V):Prop:=r.length=ts.length/\∀ j (y:j<r.length),okB (ts.getD j 0) r[j].k r[j].n r[j].s=true/\Jg r[j].n
theorem Kgd t:okB t Jf.k Jf.n Jf.s=true:=by simp[okB,Jf]
theorem Kf0:Jg Jf.n:=by simp[Jg,Jf]
structure Jkr (w:World) (tb:Nat) (name:ByteArray) (tsv rv:Value) (bs:List Nat) (rs:List (List V)):Prop where
 cells:w.heap[tb]?=some (.cells #[.string name,tsv,rv] 25 (0,0))
 own:Jo w (tb+1) 31 rv (List.zipWith Jad bs rs)
 len:bs.length=rs.length
 rows:∀ (i:Nat) b r,bs[i]?=some b->rs[i]?=some r->Kv w b r []
 new:∀ b∈bs,tb<b/\rv.ownBlock≠some b
 nd:bs.Nodup
theorem Jkr.lt {w tb name y rv bs rs}(h:Jkr w tb name y rv bs rs):tb<w.heap.size:=Jd h.cells
theorem Jkr.below {w w' tb name y rv bs rs}(h:Jkr w tb name y rv bs rs)(hb:Below w.heap.size w w'):Jkr w' tb name y rv bs rs:=
 ⟨(hb.block _ h.lt).trans h.cells,h.own.below hb,h.len,fun i b r hi hr=>(h.rows i b r hi hr).of_block (hb.block _ (h.rows i b r hi hr).lt),h.new,h.nd⟩
theorem Jpz bs rs(h:bs.length=rs.length)b r:List.zipWith Jad (bs++[b]) (rs++[r])=List.zipWith Jad bs rs++[Jad b r]:=by
 rw[List.zipWith_append h];rfl
theorem Jkr.more {w w4 tb name U rv rv' bs rs}(h:Jkr w tb name U rv bs rs)rb r(hr:Kv w rb r [])(bx:tb<rb)(Z:rv.ownBlock≠some rb)(M:rb∉bs)o(bh:Jo w4 (tb+1) 31 rv' (List.zipWith Jad bs rs++[Jad rb r]))(bj:(w.alloc o).grownBy w4 rv.ownBlock)(hb:rv'.ownBlock=rv.ownBlock\/rv'.ownBlock=some (w.alloc o).heap.size):
  Jkr (w4.setCell ⟨tb,2,none⟩ rv') tb name U rv' (bs++[rb]) (rs++[r]):=by
 have O:∀ k,k<w.heap.size->rv.ownBlock≠some k->w4.heap[k]?=w.heap[k]?:=fun k br K=>(bj.block k zt (Oc5 K)).trans (Oa9 w o k br);have bz:w4.heap[tb]?=some (.cells #[.string name,U,rv] 25 (0,0)):=(O tb h.lt fun e=>by have:=(Je h.own e).1;omega).trans h.cells;have bf:∀ b,b<w.heap.size->rv.ownBlock≠some b->rv'.ownBlock≠some b:=fun b Y K e=>by
  rcases hb with I|I
  ·exact K (I▸e)
  rw[I]at e;simp at e;omega
 refine⟨by have:=Jk bz 2 rv';simpa using this,?_,by simp[h.len],?_,?_,Op3.2 ⟨h.nd,zS,fun a bi b hb e=>by rw[Oc6]at hb;exact M (hb▸e▸bi)⟩⟩
 ·rw[Jpz bs rs h.len];exact zba
 ·intro i b q hi hq;rcases Kec hi with⟨hl,hi⟩|⟨hl,rfl⟩
  ·rw[Ob0 (by rw[<-h.len];exact hl)]at hq;have H:=h.rows i b q hi hq;have M:=h.new b (Of6 hi);exact(H.of_block (O b H.lt M.2)).of_block (Oa4 _ _ _ _ zt)
  rw[hl,h.len,Ob6 (Oa2 _)]at hq;simp at hq;subst hq;exact(hr.of_block (O rb hr.lt Z)).of_block (Oa4 _ _ _ _ zt)
 intro b Y;rcases Od2.1 Y with y|y
 ·obtain⟨i,hi,e⟩:=Od5 y;have H:=h.rows i b (rs[i]'(by rw[<-h.len];exact hi)) (by rw[<-e];simp[hi]) (by simp[show i<rs.length by rw[<-h.len];exact hi]);exact⟨(h.new b y).1,bf b H.lt (h.new b y).2⟩
 simp at y;subst y;exact⟨bx,bf b hr.lt Z⟩
theorem Jya bs:∀ rs:List (List V),List.zipWith Je1 (List.zipWith (fun b (r:List V)=>((some ⟨b,0,none⟩:Option Addr),r.length)) bs rs) rs=List.zipWith Jad bs rs:=by
 induction bs with
 |nil=>intro rs;simp
 |cons b bs y=>
  intro rs;cases rs with
  |nil=>simp
  |cons r rs=>simp[Je1,Jad,y rs]
theorem Jyi bs rs(h:bs.length=rs.length){i:Nat}{x}(y:(List.zipWith (fun b (r:List V)=>((some ⟨b,0,none⟩:Option Addr),r.length)) bs rs)[i]?=some x):∃ b,bs[i]?=some b/\x.1=some ⟨b,0,none⟩:=by
 have hi:i<bs.length:=by
  rcases Oc1 i bs.length with H|H
  ·exact H
  rw[Ob4 zt]at y;simp at y
 have I:i<rs.length:=zo;rw[Ok5,Oa3 hi,Oa3 I]at y;simp at y;exact⟨bs[i],by simp[hi],by rw[<-y]⟩
theorem Jkr.out {w w' tb name O a n c q bs rs}(h:Jkr w tb name O (.slice a n c) bs rs)(hs:w.heap.size<=w'.heap.size)(hq:q<=tb)(H:∀ k,k≠q->w'.heap[k]?=w.heap[k]?):
  Zd w' a (List.zipWith (fun b (r:List V)=>((some ⟨b,0,none⟩:Option Addr),r.length)) bs rs) rs/\rs.length<=c/\(∀ b o,a=some ⟨b,o,none⟩->tb<b)/\∀ b∈bs,tb<b:=by
 have y:∀ b o,a=some ⟨b,o,none⟩->tb<b:=fun b o hb=>by have:=(Je h.own ((Jji h.own).2 b o hb)).1;omega
 refine⟨⟨by simp[h.len],?_,fun i x r K hr=>?_⟩,?_,y,fun b hb=>(h.new b hb).1⟩
 ·rw[Jya];exact(Jji h.own).1.of_block hs fun b o hb _=>H b (by have:=y b o hb;omega)
 ·obtain⟨b,hb,M⟩:=Jyi bs rs h.len K;rw[M];exact((h.rows i b r hb hr).of_block (H b (by have:=(h.new b (Of6 hb)).1;omega))).vals
 have hl:(List.zipWith Jad bs rs).length=rs.length:=by simp[h.len]
 rcases h.own.2 with⟨hv,h0⟩|⟨g,cap,U,hv,_,_,I,_⟩
 ·rw[hl]at h0;omega
 simp at hv;rw[hl]at I;omega
structure Jug (w w':World) (name:ByteArray) (ts:List Int) (rs:List (List V)) (v:Value):Prop where
 val:∃ ta tc ra rc bs,v=.agg #[.string name,.slice ta ts.length tc,.slice ra rs.length rc]/\Kc w' ta ts/\Zd w' ra (List.zipWith (fun b (r:List V)=>((some ⟨b,0,none⟩:Option Addr),r.length)) bs rs) rs/\rs.length<=rc/\(∀ b o,ta=some ⟨b,o,none⟩->w.heap.size<=b)/\(∀ b o,ra=some ⟨b,o,none⟩->w.heap.size<=b)/\∀ b∈bs,w.heap.size<=b
 types:(1<=ts.length/\ts.length<=6)/\∀ t∈ts,tOk t
 rows:∀ r∈rs,Kgs ts r
structure Kvl (w w':World) (name:ByteArray) (ts:List Int) (rs:List (List V)) (ta:Option Addr) (tc:Nat) (rv:Value) (bs:List Nat) (tb:Nat):Prop where
 tys:Jo w' w.heap.size 3 (.slice ta ts.length tc) (ts.map iv)
 tyl:∀ b o,ta=some ⟨b,o,none⟩->b<tb
 own:Jo w' (tb+1) 31 rv (List.zipWith Jad bs rs)
 len:bs.length=rs.length
 rows:∀ (i:Nat) b r,bs[i]?=some b->rs[i]?=some r->Kv w' b r []
 new:∀ b∈bs,tb<b/\rv.ownBlock≠some b
 nd:bs.Nodup
 low:w.heap.size<=tb
theorem Jkr.owned {w0 w w' q tb n name ts H tc rv bs rs}(h:Jkr w tb name (.slice H ts.length tc) rv bs rs)(hq:q<=tb)(I:∀ k,k≠q->w'.heap[k]?=w.heap[k]?)(ht:Jo w n 3 (.slice H ts.length tc) (ts.map iv))(Z:w0.heap.size<=n)(O:∀ b o,H=some ⟨b,o,none⟩->b≠q/\b<tb)(hl:w0.heap.size<=tb):Kvl w0 w' name ts rs H tc rv bs tb:=by
 have M:Jo w' n 3 (.slice H ts.length tc) (ts.map iv):=Yd ht fun g e=>I g (by
  cases H with
  |none=>cases e
  |some a=>
   obtain⟨_,y|⟨Y,cap,K,y,_⟩⟩:=ht
   ·cases y.1
   injection y with y;injection y with y;subst y;cases e
   exact(O _ _ rfl).1)
 refine⟨⟨M.1,M.2.imp id fun ⟨g,cap,K,a1,a2,U⟩=>⟨g,cap,K,a1,zo,U⟩⟩,fun b o e=>(O b o e).2,Yd h.own fun g e=>I g (by have:=(Je h.own e).1;omega),h.len,fun i b r hi hr=>(h.rows i b r hi hr).of_block (I b (by have:=(h.new b (Of6 hi)).1;omega)),h.new,h.nd,hl⟩
theorem Qay (P:List Int->Prop)(bW name:ByteArray)at_ ar(ct cr br:Nat)(ns:List Int)(xs:List (Option Addr×Nat))K w(hM:br<=200)(cb:∀ W,Below w.heap.size w W->Calls prog 19 #[.slice at_ ns.length ct,.int .i64 6] W fun e w'=>∃ (ts:List Int) (sv:Value),e=.returned sv/\Jo w' W.heap.size 3 sv (ts.map iv)/\(1<=ts.length/\ts.length<=6)/\(∀ t∈ts,tOk t)/\P ts/\Below W.heap.size W w')(cx:∀ r∈K,r.length<=maxLen)(cj:∀ r∈K,∀ v∈r,Jg v.k/\Jg v.n)(hy:Zd w ar xs K):
  Calls prog 5 #[.agg #[.string bW,.slice at_ ns.length ct,.slice ar K.length cr],.string name,.int .i64 (br:Int)] w fun e w'=>∃ ts rs v,e=.returned v/\Jug w w' name ts rs v/\(∃ I tc bV rc bs tb,v=.agg #[.string name,.slice I ts.length tc,.slice bV rs.length rc]/\Kvl w w' name ts rs I tc (.slice bV rs.length rc) bs tb)/\rs.length<=br/\P ts/\Below w.heap.size w w':=by
 have ca:Below w.heap.size w ((w.alloc (.cells #[.string bW,.slice at_ ns.length ct,.slice ar K.length cr] 25)).alloc (.cells #[.string ⟨#[]⟩,.slice none 0 0,.slice none 0 0] 25)):=((Oa5 _ _).alloc (Oa2 _) _).alloc zS _;have cE:=cb _ ca;have dO:=zh cx;have cI:=zh cj;clear cx cj cb;go_enter func5,ntmps5
 go_wp2_with (go_at_call 19;refine cE.mono ?_;rintro e w1 ⟨ts,fh,rfl,bK,dy,cC,cv,bI⟩;obtain⟨I,tc,cD,cA⟩:=bK.cells;rw[Oa6]at cD;subst cD)
 have dC:=bI.size;simp at dC;have cc:Below w.heap.size w w1:=ca.trans (bI.mono zt);have cH:∀ (X:World),Below w1.heap.size w1 X->X.cell? ⟨w.heap.size,2,none⟩=some (.slice ar K.length cr):=fun X db=>by
  rw[db.cell (p:=⟨w.heap.size,2,none⟩) zt,bI.cell (p:=⟨w.heap.size,2,none⟩) zt];simp
 have bX:=zh cH;have cB:∀ b o,I=some ⟨b,o,none⟩->w.heap.size+2<=b/\b<w1.heap.size:=fun b o hb=>by
  have:=Je bK ((Jji bK).2 b o hb);simp at this;omega
 have bA:=zh cB;have bZ:=zh cC;have cP:Hid (Jo w1 (w.heap.size+2) 3 (.slice I ts.length tc) (ts.map iv)):=(by simpa using bK:Jo w1 (w.heap.size+2) 3 (.slice I ts.length tc) (ts.map iv));have cM:=zh cv;clear cH cB cC cE cv;have du:Jkr (w1.alloc (.cells #[.string name,.slice I ts.length tc,.slice none 0 0] 25)) w1.heap.size name (.slice I ts.length tc) (.slice none 0 0) [] []:=
  ⟨heap_alloc_new _ _,Jo.nil _ _ _,rfl,fun i b r hi=>by simp at hi,fun b hb=>by simp at hb,List.nodup_nil⟩
 go_loopw [8] (fun i wr=>∃ (k:Nat) (rv:Value) (bs:List Nat) (rs:List (List V)),k<=K.length/\k<=br/\i=.int .i64 k/\rs.length<=k/\Hid (∀ r∈rs,Kgs ts r)/\Jkr wr w1.heap.size name (.slice I ts.length tc) rv bs rs/\Below w1.heap.size w1 wr) (fun i _=>br-(intOf i).toNat)
 case atStart=>exact⟨0,_,[],[],Ob7 _,Ob7 _,rfl,Oa2 _,by intro r hr;simp at hr,du,(Oa5 _ _).alloc (Oa2 _) _⟩
 case round=>
  rename_i i
  obtain⟨k,rv,bs,rs,bJ,fe,rfl,ff,bY,M,Z⟩:=hrel;obtain⟨y,bD⟩:∃ y,y=wr:=⟨_,rfl⟩;subst bD;have c2:=bX.out y Z;have cS:y.cell? ⟨w1.heap.size,1,none⟩=some (.slice I ts.length tc):=by simp[World.cell?,M.cells]
  have dR:y.cell? ⟨w1.heap.size,2,none⟩=some rv:=by simp[World.cell?,M.cells]
  have dd:=cc.trans (Z.mono zo);obtain⟨O,U,cy,_⟩:=M.own.cells;have bT:(List.zipWith Jad bs rs).length=rs.length:=by simp[M.len]
  rw[bT]at cy;have cQ:=zh bT;clear bT;subst cy;by_cases cn:k<K.length/\k<br
  ·obtain⟨bG,cX⟩:=cn;obtain⟨C,dp,dq⟩:=Jtn ts.length zo y;go_wp2;clear dp;go_loopw [10] (fun i wr=>∃ (c:Nat) (L:List V),c<=ts.length/\i=.int .i64 c/\Hid (L.length=c/\∀ j (bx:j<L.length),okB (ts.getD j 0) L[j].k L[j].n L[j].s=true/\Jg L[j].n)/\Kv wr y.heap.size (L++List.replicate (ts.length-c) Jf) []/\Below y.heap.size y wr) (fun i _=>ts.length-(intOf i).toNat)
   case atStart=>exact⟨0,[],Ob7 _,rfl,⟨rfl,fun j bx=>by simp at bx⟩,by simpa using dq,(Oa5 _ _).alloc (Oa2 _) _⟩
   case round=>
    rename_i fg
    obtain⟨c,L,fc,rfl,bh,bC,bk⟩:=hrel;have bQ:=Z.trans (bk.mono Z.size);have bH:=cc.trans (bQ.mono zo);have cT:=bX.out wr bQ;have cU:wr.cell? ⟨w1.heap.size,1,none⟩=some (.slice I ts.length tc):=by rw[bk.cell (p:=⟨w1.heap.size,1,none⟩) M.lt];exact cS
    obtain⟨b1,bM,bV,rc,dc,dW,dI,dB⟩:=hy.at bG;subst dc;have x1:=Ja bH dI;by_cases bB:c<ts.length
    ·obtain⟨bt,bU,dw,dY,dJ⟩:=Kc.at (cA.below bQ) bB;subst dw;by_cases ci:c<K[k].length
     ·obtain⟨b2,bz,hra,dX,dK,dL,dN⟩:=dB.at ci;subst hra;have z1:=Ja bH dK;have z2:=Ja bH dL;have dM:=Ja bH dN;have dZ:=bA.out bt bU rfl;have bD:=Z.size;have da:=M.lt;have cF:=bk.size;have cG:=cI.out _ (Ob3 bG) _ (Ob3 ci);have cJ:Hid (∀ W,Calls prog 20 #[K[k][c].val,.int .i64 ts[c]] W fun e w'=>(∃ u:V,e=.returned u.val/\okB ts[c] u.k u.n u.s=true/\Jg u.n)/\Below W.heap.size W w'):=fun W=>Jk8 K[k][c] ts[c] W (bZ.out _ (Ob3 bB)) cG.1 cG.2;have hlen:(L++List.replicate (ts.length-c) Jf).length=ts.length:=by rw[Oa8,bh.out.1,Od6];omega
      have cK:=zh hlen;clear hlen;go_wp2;refine wp_region_held_drew (S:=fun X=>X.cell? ⟨w.heap.size,2,none⟩=some (.slice (some ⟨b1,bM,none⟩) K.length cr)/\X.cell? ⟨b1,bM+k,none⟩=some (.slice (some ⟨b2,bz,none⟩) K[k].length rc)/\X.cell? ⟨b2,bz+c*3,none⟩=some (.int .i64 K[k][c].k)/\X.cell? ⟨b2,bz+c*3+1,none⟩=some (.int .i64 K[k][c].n)/\X.cell? ⟨b2,bz+c*3+2,none⟩=some (.string K[k][c].s)/\X.cell? ⟨w1.heap.size,1,none⟩=some (.slice (some ⟨bt,bU,none⟩) ts.length tc)/\X.cell? ⟨bt,bU+c,none⟩=some (.int .i64 ts[c])) zK ⟨cT,x1,z1,z2,dM,cU,dJ⟩ (fun H=>?_);refine tkj 0 rfl H ?_;refine tkj 1 rfl H ?_;refine tkj 2 rfl H ?_;refine tkj 3 rfl H ?_;refine tkj 4 rfl H ?_;refine tkj 5 rfl H ?_;refine tkj 6 rfl H ?_;refine tkj 7 rfl H ?_;refine tkj 8 rfl H ?_;refine tkj 9 rfl H ?_;refine tkj 10 rfl H ?_;refine tkj 11 rfl H ?_;refine tkj 12 rfl H ?_;refine tkj 13 rfl H ?_;refine tkj 14 rfl H ?_;refine tkn ?_;refine tkr 15 rfl fun bN hK=>?_;go_simp;refine(cJ.out _).mono ?_;rintro e bf ⟨⟨u,rfl,bL,dA⟩,bP⟩;go_simp;obtain⟨kk,_⟩:=Kx bP;refine hK.out _ _ ⟨(kk _ _ (by show w.heap.size<wr.heap.size;omega)).trans H.1,(kk _ _ (by show b1<wr.heap.size;omega)).trans H.2.1,(kk _ _ (by show b2<wr.heap.size;omega)).trans H.2.2.1,(kk _ _ (by show b2<wr.heap.size;omega)).trans H.2.2.2.1,(kk _ _ (by show b2<wr.heap.size;omega)).trans H.2.2.2.2.1,(kk _ _ (by show w1.heap.size<wr.heap.size;omega)).trans H.2.2.2.2.2.1,(kk _ _ (by show bt<wr.heap.size;omega)).trans H.2.2.2.2.2.2⟩ (fun bi=>?_);clear hK bN kk H;refine tkj 16 rfl bi ?_;refine tkn ?_;have dt:Kv bf y.heap.size (L++List.replicate (ts.length-c) Jf) []:=bC.of_block ((Jw bP).block _ bC.lt);obtain⟨old,⟨c0,cV⟩,⟨c1,cW⟩,⟨cR,bO⟩,bS⟩:=dt.put u c (by rw[cK.out];exact bB);rw[Jna L c ts.length u bh.out.1 bB]at bS;have cN:=zh bS;clear bS;refine tkr 17 rfl fun bN hK=>?_;go_simp;have Y:∀ (b o:Nat) (v:Value),b≠y.heap.size->bf.cell? ⟨b,o,none⟩=some v->(((bf.setCell ⟨y.heap.size,c*3,none⟩ (.int .i64 u.k)).setCell ⟨y.heap.size,c*3+1,none⟩ (.int .i64 u.n)).setCell ⟨y.heap.size,c*3+2,none⟩ (.string u.s)).cell? ⟨b,o,none⟩=some v:=fun b o v hb hv=>by
       exact zae
      refine hK.out _ _ ⟨Y _ _ _ zo bi.1,Y _ _ _ zo bi.2.1,Y _ _ _ zo bi.2.2.1,Y _ _ _ zo bi.2.2.2.1,Y _ _ _ zo bi.2.2.2.2.1,Y _ _ _ zo bi.2.2.2.2.2.1,Y _ _ _ zo bi.2.2.2.2.2.2⟩ (fun cY=>?_);clear hK bN Y bi cY c0 cV c1 cW cR bO;refine wpAnyH_done zK ?_ _;have df:Below y.heap.size y (((bf.setCell ⟨y.heap.size,c*3,none⟩ (.int .i64 u.k)).setCell ⟨y.heap.size,c*3+1,none⟩ (.int .i64 u.n)).setCell ⟨y.heap.size,c*3+2,none⟩ (.string u.s)):=
       (((bk.trans ((Jw bP).mono cF)).setCell (p:=⟨y.heap.size,c*3,none⟩) (Oa2 _) _).setCell (p:=⟨y.heap.size,c*3+1,none⟩) (Oa2 _) _).setCell (p:=⟨y.heap.size,c*3+2,none⟩) (Oa2 _) _
      generalize ((bf.setCell ⟨y.heap.size,c*3,none⟩ (.int .i64 u.k)).setCell ⟨y.heap.size,c*3+1,none⟩ (.int .i64 u.n)).setCell ⟨y.heap.size,c*3+2,none⟩ (.string u.s)=dH at *;go_wp2;go_roundw
      case rel=>
       refine⟨c+1,L++[u],zo,zn,⟨by rw[Oa8,bh.out.1];rfl,fun j bx=>?_⟩,cN.out,df⟩;by_cases e:j<L.length
       ·rw[Oi2 e];exact bh.out.2 j e
       have bR:j=L.length:=by simp at bx;omega
       subst bR;rw[Ok8 (Oa2 _)];have dl:ts.getD L.length 0=ts[c]:=by rw[bh.out.1];simp[bB]
       simp only[Oe1,List.getElem_cons_zero,dl];exact⟨bL,dA⟩
      case measure=>simp[intOf];omega
     have cO:Hid (L++List.replicate (ts.length-c) Jf=(L++[Jf])++List.replicate (ts.length-(c+1)) Jf):=by
      show _=_;obtain⟨d,dh⟩:∃ d,ts.length-c=d+1:=⟨ts.length-c-1,zo⟩;have di:ts.length-(c+1)=d:=zo;rw[dh,di,List.replicate_succ];simp
     go_wp2;go_roundw
     case rel=>
      refine⟨c+1,L++[Jf],zo,zn,⟨by rw[Oa8,bh.out.1];rfl,fun j bx=>?_⟩,by rw[<-cO.out];exact bC,bk⟩;by_cases e:j<L.length
      ·rw[Oi2 e];exact bh.out.2 j e
      have bR:j=L.length:=by simp at bx;omega
      subst bR;rw[Ok8 (Oa2 _)];simp only[Oe1,List.getElem_cons_zero];exact⟨Kgd _,Kf0⟩
     case measure=>simp[intOf];omega
    obtain rfl:c=ts.length:=zo;rw[Oe1,List.replicate_zero,Od7]at bC;have bj:=M.below bk;have da:=bj.lt;have bD:=Z.size;have cF:=bk.size;have bO:wr.cell? ⟨w1.heap.size,2,none⟩=some (.slice O rs.length U):=by simp[World.cell?,bj.cells]
    have dr:(Value.slice O rs.length U).ownBlock≠some y.heap.size:=fun e=>by have:=(Je M.own e).2;omega
    have cZ:=M.lt;have ds:y.heap.size∉bs:=fun dm=>by
     obtain⟨i,hi,e⟩:=Od5 dm;have:=(M.rows i _ (rs[i]'(by rw[<-M.len];exact hi)) (Oa3 hi) (Oa3 (by rw[<-M.len];exact hi))).lt;omega
    go_wp2_with (at_builtin;go_must (refine Ul zR _ _ 23 31 _ 24 Jip zR zd zK zR (w1.heap.size+1) _ _ zR (Jo.alloc bj.own _) ⟨wr.heap.size,0,none⟩ 1 [.slice (some ⟨y.heap.size,0,none⟩) ts.length ts.length] zR (by exact Ua wr _ _) (by intro u bL;simp at bL;subst bL;rfl) (by rw[cQ.out];simp only[List.length_cons,List.length_nil];omega) zt ?_);intro sv' bf q1 q2 dG;go_must (have cu:=bj.more y.heap.size L bC zo dr ds _ (rv':=sv') (w4:=bf) (by unfold Jad;rw[bh.out.1];exact q1) q2 dG);obtain⟨a2,dP,dv,_⟩:=q1.cells;subst dv;go_must (have dS:bf.cell? ⟨w1.heap.size,2,none⟩=some (.slice O rs.length U):=(by rw[q2.cell_far _ zt (fun e=>absurd (Je bj.own e.symm).1 zS)];exact(Jnf wr _ _ 2 zo).trans bO));go_must (have dT:bf.frozen? ⟨w1.heap.size,2,none⟩=false:=(by rw[q2.frozen_far _ zt (fun e=>absurd (Je bj.own e.symm).1 zS)];refine(Jh9 wr _ _ 2 zo).trans ?_;simp[World.frozen?,bj.cells])))
    have dg:Below w1.heap.size w1 bf:=((Z.trans (bk.mono bD)).alloc zo _).grown q2 zt (fun g dj=>by have:=(Je bj.own dj).1;omega);go_roundw
    case rel=>
     simp only[Oa8,Oj8,List.length_cons,List.length_nil,Od0]at cu;refine⟨k+1,_,bs++[y.heap.size],rs++[L],zo,zo,zn,by simp;omega,?_,cu,dg.setCell (p:=⟨w1.heap.size,2,none⟩) (Oa2 _) _⟩;intro r hr;rcases Od2.1 hr with h|h
     ·exact bY.out r h
     simp at h;subst h;exact bh.out
    case measure=>simp[intOf];omega
  have cZ:=M.lt;have fd:y.heap[w1.heap.size]?=some (.cells #[.string name,.slice I ts.length tc,.slice O rs.length U] 25 (0,0)):=M.cells;have dQ:y.cell? ⟨w1.heap.size,0,none⟩=some (.string name):=by simp[World.cell?,M.cells]
  have bE:y.heap[w.heap.size+1]?=some (.cells #[.string ⟨#[]⟩,.slice none 0 0,.slice none 0 0] 25 (0,0)):=by
   rw[Z.block _ zo,bI.block _ zS];have:=heap_alloc_new (w.alloc (.cells #[.string bW,.slice at_ ns.length ct,.slice ar K.length cr] 25)) (.cells #[.string ⟨#[]⟩,.slice none 0 0,.slice none 0 0] 25);rw[Oa7]at this;exact this
  have dV:=zc 0 bE;have g1:=zc 1 bE;have g2:=zc 2 bE;have dU:∀ o,y.frozen? ⟨w.heap.size+1,o,none⟩=false:=fun o=>by simp[World.frozen?,bE]
  by_cases bG:k<K.length;focus
   have cX:¬ k<br:=fun h=>cn ⟨bG,h⟩
  rotate_left 1;all_goals
   go_wp2;have Y:∀ k,k≠w.heap.size+1->(((y.setCell ⟨w.heap.size+1,0,none⟩ (.string name)).setCell ⟨w.heap.size+1,1,none⟩ (.slice I ts.length tc)).setCell ⟨w.heap.size+1,2,none⟩ (.slice O rs.length U)).heap[k]?=y.heap[k]?:=fun k bJ=>by
    rw[Oa4 _ _ _ _ bJ,Oa4 _ _ _ _ bJ,Oa4 _ _ _ _ bJ]
   have bD:=Z.size;have cz:y.heap.size<=(((y.setCell ⟨w.heap.size+1,0,none⟩ (.string name)).setCell ⟨w.heap.size+1,1,none⟩ (.slice I ts.length tc)).setCell ⟨w.heap.size+1,2,none⟩ (.slice O rs.length U)).heap.size:=by simp[World.setCell]
   have cf:=Jk (Jk (Jk bE 0 (.string name)) 1 (.slice I ts.length tc)) 2 (.slice O rs.length U);simp at cf;obtain⟨bM,bz,dD,dE⟩:=M.out (q:=w.heap.size+1) cz zo Y;have de:Below w.heap.size w (((y.setCell ⟨w.heap.size+1,0,none⟩ (.string name)).setCell ⟨w.heap.size+1,1,none⟩ (.slice I ts.length tc)).setCell ⟨w.heap.size+1,2,none⟩ (.slice O rs.length U)):=
    ((dd.setCell (p:=⟨w.heap.size+1,0,none⟩) zS _).setCell (p:=⟨w.heap.size+1,1,none⟩) zS _).setCell (p:=⟨w.heap.size+1,2,none⟩) zS _
   have dx:Kc (((y.setCell ⟨w.heap.size+1,0,none⟩ (.string name)).setCell ⟨w.heap.size+1,1,none⟩ (.slice I ts.length tc)).setCell ⟨w.heap.size+1,2,none⟩ (.slice O rs.length U)) I ts:=(cA.below Z).of_block cz fun b o hb _=>Y b (by have:=(bA.out b o hb).1;omega);have cL:=M.owned (w0:=w) (q:=w.heap.size+1) zo Y (cP.out.below Z) zS (fun b o hb=>⟨by have:=(bA.out b o hb).1;omega,(bA.out b o hb).2⟩) zo;generalize ((y.setCell ⟨w.heap.size+1,0,none⟩ (.string name)).setCell ⟨w.heap.size+1,1,none⟩ (.slice I ts.length tc)).setCell ⟨w.heap.size+1,2,none⟩ (.slice O rs.length U)=dH at *;refine bodyPost_ret (v:=.agg #[.string name,.slice I ts.length tc,.slice O rs.length U]) (by simp[results,results5,go_sem,World.cell?,cf]) rfl ⟨ts,rs,_,rfl,⟨⟨I,tc,O,U,bs,rfl,dx,bM,bz,fun b o hb=>by have:=(bA.out b o hb).1;omega,fun b o hb=>by have:=dD b o hb;omega,fun b hb=>by have:=dE b hb;omega⟩,⟨dy,bZ.out⟩,bY.out⟩,⟨I,tc,O,U,bs,w1.heap.size,rfl,cL⟩,zo,cM.out,de⟩
end
open Go.RowKit Go.Shelf Tryz
theorem Jen w:Calls prog 7 #[] w fun e w'=>e=.returned (.agg #[.int .i64 1048576,.int .i64 0])/\Below w.heap.size w w':=by
 go_enter func7,ntmps7
 go_wp2;exact bodyPost_ret (v:=.agg #[.int .i64 1048576,.int .i64 0]) (by simp[results,results7,go_sem]) rfl ⟨rfl,(Oa5 _ w).alloc (Oa2 _) _⟩
structure Uw (w:World) (name:ByteArray) (at_ ar:Option Addr) (cr:Nat) (ts:List Int) (xs:List (Option Addr×Nat)) (rs:List (List V)):Prop where
 tab:Jel name ts rs
 tok:∀ t∈ts,tOk t
 vals:∀ r∈rs,∀ v∈r,Jg v.n
 types:Kc w at_ ts
 rows:Zd w ar xs rs
 cap:rs.length<=cr
theorem Uw.below {w w' name at_ ar cr ts xs rs}(h:Uw w name at_ ar cr ts xs rs)(hb:Below w.heap.size w w'):Uw w' name at_ ar cr ts xs rs:=
 ⟨h.tab,h.tok,h.vals,h.types.below hb,h.rows.below hb,h.cap⟩
theorem Uw.arg {w name at_ ar cr ts xs rs}(h:Uw w name at_ ar cr ts xs rs){y hs}(hh:Kc w y hs)(hl:hs.length<=6):Kct w name at_ ar y cr ts hs xs rs:=by
 have H:=h.tab.1.2;have I:=h.tab.2.1.1.2;have K:=h.tab.2.2.1;refine⟨by unfold maxLen;omega,by unfold maxLen;omega,by unfold maxLen;omega,fun r hr=>?_,by unfold maxLen;omega,h.cap,h.types,hh,h.rows⟩;obtain⟨i,hi,rfl⟩:=Od5 hr;have:=(h.tab.2.2.2 i hi).1;unfold maxLen;omega
theorem Kck {D L Ts name ts hs rs g}(H:Jbc D L)(y:Jel name ts rs)(K:Je3 ts hs)(I:1<=g/\g<=64)(Z:Ub Ts name=Ts.length)(Y:Ts.length<6)(hq:D.quota=1048576)(U:D.fail=0)(bh:Js D.pages<=200000)(bi:D.writes<=1000000000):
  (∃ c,Jbd D Ts name ts hs rs g=.dict c)\/∃ E T,Jbd D Ts name ts hs rs g=.ok E T:=by
 have bf:rs.length<=200:=y.2.2.1;rcases hr:Jbd D Ts name ts hs rs g with _|_|c|⟨x,E⟩|⟨E,T⟩
 ·unfold Jbd at hr;rw[if_pos ⟨y,K,I⟩]at hr;split at hr
  ·simp at hr
  split at hr
  ·simp at hr
  split at hr<;>simp at hr
 ·unfold Jbd at hr;rw[if_pos ⟨y,K,I⟩,if_neg zo]at hr;split at hr
  ·simp at hr
  split at hr<;>simp at hr
 ·exact .inl ⟨c,rfl⟩
 ·exfalso;obtain⟨_,_,_,M,O,_⟩:=Jz8 H zo hr;have:=H.writes;cases x with
  |true=>have:=M rfl;omega
  |false=>have:=O rfl;omega
 exact .inr ⟨E,T,rfl⟩
theorem Jvv {ts hs}(h:Jfz ts [] hs ts.length):Je3 ts hs/\∀ c,hs.getD c 0=0:=by
 refine⟨⟨h.len,h.ok⟩,fun c=>?_⟩;by_cases y:c<hs.length
 ·have:=h.plain c y zS;simpa [y] using this
 simp[List.getD_eq_getElem?_getD,List.getElem?_eq_none (Nat.le_of_not_lt y)]
theorem Jtl {D E Ts name ts hs rs g T}(h:Jbd D Ts name ts hs rs g=.ok E T):T.types=ts:=by
 unfold Jbd at h;split at h
 ·split at h
  ·simp at h
  split at h
  ·simp at h
  split at h
  ·simp at h
  cases h
  rfl
 simp at h
def Kj (H:Nat->Prop)(w:World)(st:Nat)(D:DS)(L:List (TS×List (List V)))(name:ByteArray)(ts:List Int)(rs:List (List V))(w':World):Prop:=
 ∃ (y:Nat->Prop) (E:DS) (T:TS),Sto y w' st E ((L++[(T,rs)]).map Prod.fst)/\Jbc E (L++[(T,rs)])/\(T.name=name/\T.types=ts)/\E.quota=D.quota/\E.fail=D.fail/\E.pages.length<=D.pages.length+660*rs.length/\E.writes<=D.writes+660*rs.length/\Js E.pages=Js D.pages+T.segs.flatten.length/\(T.segs.flatten=[]↔rs=[])/\(∀ k,H k->y k)/\(∀ k,y k->H k\/w.heap.size<=k)
theorem Jxk y st D L name at_ ar I ct cr ch ts hs xs rs g w(bH:Sto y w st D (L.map Prod.fst))(K:Jbc D L)(hR:Uw w name at_ ar cr ts xs rs)(hh:Kc w I hs)(hI:Jfz ts [] hs ts.length)(bM:1<=g/\g<=64)(bR:Ub (L.map Prod.fst) name=L.length)(bL:L.length<6)(hq:D.quota=1048576)(bK:D.fail=0)(hp:D.pages.length<=200000)(bT:D.writes<=1000000000)(bD:∀ b o,at_=some ⟨b,o,none⟩->¬ y b)a0 a1 a2 bh q wr pg pl ex bf w0(bG:Jax w0 a0 a1 a2 bh q wr pg pl ex bf)(bI:Below w0.heap.size w0 w)(bE:∀ k,y k->w0.heap.size<=k):
  Calls prog 22 #[.pointer (some ⟨st,0,none⟩),Jvc name at_ ar ct cr ts rs,.slice I hs.length ch,.int .i64 g] w fun e w'=>e=.returned (Jb6 0)/\Ju y w w'/\Kj y w st D L name ts rs w':=by
 obtain⟨U,Y⟩:=Jvv hI;have Z:∀ x∈hs,x=0:=fun x H=>by
  obtain⟨i,hi,rfl⟩:=Od5 H;have:=Y i;simpa [hi] using this
 have bO:hs.length<=6:=by rw[U.1];exact hR.tab.2.1.1.2
 have bS:∃ E T,Jbd D (L.map Prod.fst) name ts hs rs g=.ok E T:=by
  rcases Kck K hR.tab U bM (Ts:=L.map Prod.fst) (by rw[bR];simp) (by simpa using bL) hq bK (Ob2 (Kad _) hp) bT with⟨c,bJ⟩|h
  ·have:=(Jy3 bJ).2.1;rw[Y c]at this;simp at this
  exact h
 obtain⟨E,T,hr⟩:=bS;refine(Jyt y st D (L.map Prod.fst) name at_ ar I ct cr ch ts hs xs rs g w bH (hR.arg hh bO) bD zo a0 a1 a2 bh q wr pg pl ex bf w0 bG bI bE (fun x H=>by rw[Z x H];exact Kvw) ⟨E,T,hr⟩).mono fun e w' ⟨M,bN,bi,O,bP,bQ⟩=>?_;rw[hr]at M O;obtain⟨bj,bk,br,bx,bz,bA,bB,bC,_⟩:=Kjy (fun x H=>by rw[Z x H];exact⟨Ki5,Kj4⟩) K hR.vals zo hr;exact⟨M,bN,bi,E,T,by simpa [Ja0.ts,Ja0.d] using O,bj,⟨bk,Jtl hr⟩,bz,bA,bB,bC,br,bx,bP,bQ⟩
theorem Jfn {I w K y O st D L name ts rs fa}(h:Kj I K st D L name ts rs y)(bD:w.heap.size<=K.heap.size)(hs:y.heap.size<=O.heap.size)(bA:∀ k,k<y.heap.size->k≠fa->O.heap[k]?=y.heap[k]?)(bB:¬ I fa)(bC:fa<K.heap.size\/y.heap.size<=fa):Kj I w st D L name ts rs O:=by
 obtain⟨Y,E,T,M,bf,bh,bi,bj,bk,br,bx,bz,Z,U⟩:=h;refine⟨Y,E,T,M.stands hs fun k H=>bA k (M.lt k H) fun e=>?_,bf,bh,bi,bj,bk,br,bx,bz,Z,fun k H=>(U k H).imp_right fun a=>zo⟩;subst e;have:=M.lt k H;rcases U k H with a|a
 ·exact bB a
 omega
theorem Ku0 {P H I Q S fuel n K a w}(T:Act->Array Bool->Act->World->Prop)(ht:∀ l y X,T a l y X->wpAnyH P H I Q S n l y X)(h:(∀ l y X,T a l y X->wpAnyH P H I Q S n l y X)->wpAnyH P H I Q S fuel K a w):wpAnyH P H I Q S fuel K a w:=h ht
structure Qcs (w:World) (fa:Nat) (G:World->Prop) (X:World):Prop where
 z:X.heap[fa]?=some (.cells #[.int .i64 0,.int .i64 0,.int .i64 0,.int .i64 0,.int .i64 0] 51 (0,0))
 low:Below w.heap.size w X
 new:w.heap.size<=fa
 fin:∀ wx,X.heap.size<=wx.heap.size->(∀ k,k<X.heap.size->k≠fa->wx.heap[k]?=X.heap[k]?)->G wx
theorem Qcs.store {w fa G X}(h:Qcs w fa G X)a b c d e:(((((X.setCell ⟨fa,0,none⟩ (.int .i64 a)).setCell ⟨fa,1,none⟩ (.int .i64 b)).setCell ⟨fa,2,none⟩ (.int .i64 c)).setCell ⟨fa,3,none⟩ (.int .i64 d)).setCell ⟨fa,4,none⟩ (.int .i64 e)).heap[fa]?=some (.cells #[.int .i64 a,.int .i64 b,.int .i64 c,.int .i64 d,.int .i64 e] 51 (0,0))/\Below w.heap.size w (((((X.setCell ⟨fa,0,none⟩ (.int .i64 a)).setCell ⟨fa,1,none⟩ (.int .i64 b)).setCell ⟨fa,2,none⟩ (.int .i64 c)).setCell ⟨fa,3,none⟩ (.int .i64 d)).setCell ⟨fa,4,none⟩ (.int .i64 e))/\G (((((X.setCell ⟨fa,0,none⟩ (.int .i64 a)).setCell ⟨fa,1,none⟩ (.int .i64 b)).setCell ⟨fa,2,none⟩ (.int .i64 c)).setCell ⟨fa,3,none⟩ (.int .i64 d)).setCell ⟨fa,4,none⟩ (.int .i64 e)):=by
 have y:=Jk (Jk (Jk (Jk (Jk h.z 0 (.int .i64 a)) 1 (.int .i64 b)) 2 (.int .i64 c)) 3 (.int .i64 d)) 4 (.int .i64 e);simp only[Oa1,List.set_cons_zero,List.set_cons_succ]at y;exact⟨y,Um h.low h.new _ _ _ _ _,h.fin _ (by rw[Jg2];exact Oa2 _) fun k _ H=>Zh _ _ _ _ _ _ _ k H⟩
structure TbX where
 name:ByteArray
 at_:Option Addr
 ct:Nat
 ar:Option Addr
 cr:Nat
 ts:List Int
 xs:List (Option Addr×Nat)
 rs:List (List V)
def Qbj (w:World)(b:Nat)(L:List TbX):Prop:=∀ (i:Nat) (t:TbX),L[i]?=some t->w.cell? ⟨b,i*3,none⟩=some (.string t.name)/\w.cell? ⟨b,i*3+1,none⟩=some (.slice t.at_ t.ts.length t.ct)/\w.cell? ⟨b,i*3+2,none⟩=some (.slice t.ar t.rs.length t.cr)
def Ksk (L:List TbX)(i:Nat):Nat:=((L.take i).map fun t=>t.rs.length).sum
theorem Kxy {L i t}(h:L[i]?=some t):Ksk L (i+1)=Ksk L i+t.rs.length:=by
 unfold Ksk;rw[Oi7,h];simp
theorem Kz6 L i:Ksk L i<=Ksk L L.length:=by
 have h:Ksk L L.length=Ksk L i+((L.drop i).map fun t=>t.rs.length).sum:=by
  unfold Ksk;rw[Of2,<-List.sum_append,<-Ob8,Ok3]
 omega
def Ks2 (w:World)(st:Nat)(L:List TbX)(i:Nat)(H:World):Prop:=∃ (y:Nat->Prop) (D:DS) (S:List (TS×List (List V))),Sto y H st D (S.map Prod.fst)/\Jbc D S/\S.length=i/\(∀ (j:Nat) t s,L[j]?=some t->S[j]?=some s->s.1.name=t.name/\s.1.types=t.ts/\s.2=t.rs)/\D.quota=1048576/\D.fail=0/\D.pages.length<=660*Ksk L i/\D.writes<=660*Ksk L i/\(∀ k,y k->w.heap.size<=k)
theorem Ks2.below {w st L i y H}(h:Ks2 w st L i y)(hb:Below y.heap.size y H):Ks2 w st L i H:=by
 obtain⟨I,D,S,K,M⟩:=h;exact⟨I,D,S,K.below hb,M⟩
theorem Ks2.next {H:Nat->Prop}{w w'}{st:Nat}{L:List TbX}{i:Nat}{t:TbX}{D:DS}{S:List (TS×List (List V))}(ht:L[i]?=some t)(hl:S.length=i)(br:∀ (j:Nat) t s,L[j]?=some t->S[j]?=some s->s.1.name=t.name/\s.1.types=t.ts/\s.2=t.rs)(hq:D.quota=1048576)(bh:D.fail=0)(hp:D.pages.length<=660*Ksk L i)(bA:D.writes<=660*Ksk L i)(hM:∀ k,H k->w.heap.size<=k)(h:Kj H w st D S t.name t.ts t.rs w'):Ks2 w st L (i+1) w':=by
 obtain⟨I,E,T,K,O,⟨U,Y⟩,Z,bf,bx,bz,_,_,_,M⟩:=h;have hr:=Kxy ht;refine⟨I,E,S++[(T,t.rs)],K,O,by rw[Oa8,hl];rfl,fun j u s y hs=>?_,Z.trans hq,bf.trans bh,by rw[hr];omega,by rw[hr];omega,fun k bk=>(M k bk).elim (hM k) id⟩;by_cases bi:j<S.length
 ·rw[Ob0 bi]at hs;exact br j u s y hs
 have bj:j=i:=by
  have:=(Ob9.1 hs).1;rw[Oa8]at this;have:j<S.length+1:=this;omega
 subst bj;rw[ht]at y;cases y
 rw[Ob6 zo,hl,Oe1]at hs;cases hs
 exact⟨U,Y,rfl⟩
theorem Qbo b cap L w(hR:∀ t∈L,Uw w t.name t.at_ t.ar t.cr t.ts t.xs t.rs)(bK:Qbj w b L)(dQ:b<w.heap.size)(cc:(L.map TbX.name).Nodup)(cQ:L.length<=6)(cV:Ksk L L.length<=300)a0 a1 a2 db q dc pg pl ex da(cI:Jax w a0 a1 a2 db q dc pg pl ex da):
  Calls prog 6 #[.agg #[.int .i64 1048576,.int .i64 0],.slice (some ⟨b,0,none⟩) L.length cap] w fun e w'=>Below w.heap.size w w'/\∃ st,e=.returned (.pointer (some ⟨st,0,none⟩))/\Ks2 w st L L.length w':=by
 have cM:Below w.heap.size w (w.alloc (.cells #[.int .i64 1048576,.int .i64 0] 37)):=(Oa5 _ w).alloc (Oa2 _) _;have cT:=Kfq 1048576 0 (w.alloc (.cells #[.int .i64 1048576,.int .i64 0] 37));have bN:Hid ((∀ t∈L,Uw w t.name t.at_ t.ar t.cr t.ts t.xs t.rs)/\Qbj w b L/\(L.map TbX.name).Nodup/\L.length<=6/\Ksk L L.length<=300):=⟨hR,bK,cc,cQ,cV⟩;have df:=zh cI;clear hR bK cc cQ cV cI;go_enter func6,ntmps6
 go_upto_region 3 with(first|(go_at_call 21;refine cT.mono ?_;rintro e cn ⟨cN,st,M,rfl,bV,hM⟩))
 have cH:Ks2 w st L 0 cn:=⟨M,_,[],bV,Jbc.empty _ _,rfl,fun j t s _ hs=>by simp at hs,rfl,rfl,by simp[Ku],by simp[Ku,Ksk],fun k bz=>by have:=hM k bz;simp at this;omega⟩;have ci:Hid (Below w.heap.size w cn/\Ks2 w st L 0 cn):=⟨Jb cM cN,cH⟩;obtain⟨dK,dh⟩:∃ p:Addr,Hid (p=⟨st,0,none⟩):=⟨_,rfl⟩;clear bV hM cT cH cN cM dh dK;go_loopw [6] (fun i wr=>∃ j:Nat,j<=L.length/\i=.int .i64 (j:Int)/\Below w.heap.size w wr/\Ks2 w st L j wr) (fun i _=>L.length-(intOf i).toNat)
 case atStart=>exact⟨0,Ob7 _,rfl,ci.out⟩
 case round=>
  obtain⟨j,dR,rfl,bi,hI⟩:=hrel;by_cases bM:j<L.length
  ·obtain⟨M,D,S,bV,cW,cX,cB,hq,br,hp,cZ,hM⟩:=hI;obtain⟨t,ht⟩:∃ t,L[j]?=some t:=⟨_,Oa3 bM⟩;have bG:Hid (Uw w t.name t.at_ t.ar t.cr t.ts t.xs t.rs):=bN.out.1 t (Of6 ht);obtain⟨c0,c1,c2⟩:=bN.out.2.1 j t ht;have cD:Hid (j<L.length/\L[j]?=some t):=⟨bM,ht⟩;have cF:Hid (wrap64 ((j:Int)+1)=((j+1:Nat):Int)):=by show _=_;have:=bN.out.2.2.2.1;unfold wrap64;omega
   have dD:=Kz6 L j;have dC:=bN.out.2.2.2.2;have cR:Ub (S.map Prod.fst) t.name=S.length:=by
    have:=Jvr (S.map Prod.fst) t.name (fun i hi e=>by
     rw[Oa6]at hi;have cA:i<L.length:=zo;have dj:=(cB i _ _ (Oa3 cA) (Oa3 hi)).1;rw[Od9]at e;have cc:=bN.out.2.2.1;have dl:(L.map TbX.name)[i]'(by rw[Oa6];exact cA)=(L.map TbX.name)[j]'(by rw[Oa6];exact bM):=by
      rw[Od9,Od9,<-dj,e];rw[Oa3 bM]at ht;rw[Oj6 ht]
     exact(List.pairwise_iff_getElem.1 cc) i j (by rw[Oa6];exact cA) (by rw[Oa6];exact bM) zo dl)
    rwa [Oa6]at this
   have bD:Hid (Jbc D S/\Ub (S.map Prod.fst) t.name=S.length/\S.length<6/\D.quota=1048576/\D.fail=0/\D.pages.length<=200000/\D.writes<=1000000000):=⟨cW,cR,by have:=bN.out.2.2.2.1;omega,hq,br,zo,zo⟩;have cE:Hid (∀ w',Kj M w st D S t.name t.ts t.rs w'->Ks2 w st L (j+1) w'):=fun w' h=>Ks2.next ht cX cB hq br hp cZ hM h;have bY:=zh bV;have bO:=zh hM;have cu:=Ja bi c0;have cv:=Ja bi c1;have cx:=Ja bi c2;obtain⟨name,at_,ct,ar,cr,ts,xs,rs⟩:=t;simp only at bG bD cE cu cv cx;have j1:(0:Int)<=(j:Int):=zo;have j2:(j:Int)<(L.length:Int):=zo;clear ht bM bV cW cX cB hq br hp cZ hM cR dD dC c0 c1 c2 ci;have cf:Hid (∀ X,Below wr.heap.size wr X->Calls prog 23 #[.agg #[.string name,.slice at_ ts.length ct,.slice ar rs.length cr],.slice none 0 0] X fun e bP=>Below X.heap.size X bP/\∃ (O:Option Addr) (ch:Nat) (hs:List Int),e=.returned (.slice O hs.length ch)/\Kc bP O hs/\Jfz ts [] hs ts.length):=fun X bT=>by
    have:=Jzt (.string name) (.slice ar rs.length cr) at_ none ct 0 ts [] X bG.out.tab.2.1.1.2 bG.out.tok zS (bG.out.types.below (Jb bi bT)) (.inl rfl);refine this.mono fun e bP ⟨hs,sv,dx,ho,hI,bk⟩=>?_;obtain⟨a,c,cY,dw⟩:=ho.cells;rw[Oa6]at cY;subst cY;exact⟨bk,a,c,hs,dx,dw,hI⟩
   have bX:Hid (∀ X O ch hs,Below wr.heap.size wr X->Kc X O hs->Jfz ts [] hs ts.length->Calls prog 22 #[.pointer (some ⟨st,0,none⟩),.agg #[.string name,.slice at_ ts.length ct,.slice ar rs.length cr],.slice O hs.length ch,.int .i64 64] X fun e bP=>e=.returned (Jb6 0)/\Ju M X bP/\Kj M X st D S name ts rs bP):=fun X O ch hs bT hI bJ=>
    Jxk M st D S name at_ ar O ct cr ch ts hs xs rs 64 X (bY.out.below bT) bD.out.1 (bG.out.below (Jb bi bT)) hI bJ zd bD.out.2.1 bD.out.2.2.1 bD.out.2.2.2.1 bD.out.2.2.2.2.1 bD.out.2.2.2.2.2.1 bD.out.2.2.2.2.2.2 (fun di o dv bf=>by
     have bZ:=bO.out di bf;rcases bG.out.types with h0|⟨b2,dS,cO,bM,_⟩
     ·have:=bG.out.tab.2.1.1.1;simp at h0;rw[h0]at this;simp at this
     rw[dv]at cO;simp at cO;try omega) a0 a1 a2 db q dc pg pl ex da w df.out (Jb bi bT) bO.out
   go_upto_region 5 with fail
   go_cut [7] from 20 to 30 (fun f bQ=>∃ fa:Nat,f=.pointer (some ⟨fa,0,none⟩)/\bQ.heap[fa]?=some (.cells #[.int .i64 0,.int .i64 (-1),.int .i64 (-1),.int .i64 (-1),.int .i64 (-1)] 51 (0,0))/\Below w.heap.size w bQ/\Kj M w st D S name ts rs bQ)
   case first=>
    have bC:¬ M b:=fun bf=>by have bZ:=bO.out b bf;omega
    refine wp_region_held_drew (S:=fun X=>X.cell? ⟨b,j*3,none⟩=some (.string name)/\X.cell? ⟨b,j*3+1,none⟩=some (.slice at_ ts.length ct)/\X.cell? ⟨b,j*3+2,none⟩=some (.slice ar rs.length cr)) zK ⟨cu,cv,cx⟩ (fun y=>?_);refine tkj 0 rfl y ?_;refine tkj 1 rfl y ?_;refine tkj 2 rfl y ?_;refine tkj 3 rfl y ?_;refine tkj 4 rfl y ?_;refine tkj 5 rfl y ?_;refine tkj 6 rfl y ?_;refine tkj 7 rfl y ?_;refine tkj 8 rfl y ?_;refine tkn ?_;have ca:Below wr.heap.size wr wr.drew:=⟨rfl,rfl,rfl,Oa2 _,fun _ _=>rfl⟩;refine Ku0 (n:=1) (fun a l cG X=>l=#[true,true,true,true,true,true,true,true,true,true,true,true,false]/\∃ fa hv,cG=((a.put (some 7) (.pointer (some ⟨fa,0,none⟩))).put (some 29) hv).put (some 30) (Jb6 0)/\Qcs w fa (Kj M w st D S name ts rs) X/\X.cell? ⟨b,j*3,none⟩=some (.string name)/\X.cell? ⟨b,j*3+1,none⟩=some (.slice at_ ts.length ct)/\X.cell? ⟨b,j*3+2,none⟩=some (.slice ar rs.length cr)) ?tail (fun cj=>?go)
    case tail=>
     rintro l cG X ⟨rfl,fa,hv,rfl,bK,cJ,cK,cL⟩;simp only[Act.put,Oa1,List.set_cons_zero,List.set_cons_succ];have Y:=bK.z;have dE:=zc 0 Y;have dG:=zc 1 Y;have dH:=zc 2 Y;have dI:=zc 3 Y;have dJ:=zc 4 Y;have dm:=Lib.frozen_of_heap Y 0;have dp:=Lib.frozen_of_heap Y 1;have dq:=Lib.frozen_of_heap Y 2;have dr:=Lib.frozen_of_heap Y 3;have ds:=Lib.frozen_of_heap Y 4;have dg:Hid _:=bK.store 0 (-1) (-1) (-1) (-1);have dB:b≠fa:=by have:=bK.new;omega
     have cb:∀ o u,X.cell? ⟨b,o,none⟩=some u->(((((X.setCell ⟨fa,0,none⟩ (.int .i64 0)).setCell ⟨fa,1,none⟩ (.int .i64 (-1))).setCell ⟨fa,2,none⟩ (.int .i64 (-1))).setCell ⟨fa,3,none⟩ (.int .i64 (-1))).setCell ⟨fa,4,none⟩ (.int .i64 (-1))).cell? ⟨b,o,none⟩=some u:=fun o u h=>by rw[<-h];simp only[World.cell?,Zh _ _ _ _ _ _ _ b dB]
     have de:Hid _:=And.intro (cb _ _ cJ) (And.intro (cb _ _ cK) (cb _ _ cL));clear Y bK cJ cK cL cb cf bX y;refine tkr 12 rfl fun K hK=>?_;go_simp;refine hK.out _ _ de.out (fun _=>?_);clear hK K dE dG dH dI dJ dm dp dq dr ds;refine wpAnyH_done zK ?_ _;go_wp2_with fail
     go_meet
     case rel=>exact⟨fa,rfl,dg.out⟩
    case go=>
     refine wpAnyH_ready (rs:=[9,11]) zK zS (AllReadyH.cons rfl (fun K hK=>?_) (AllReadyH.cons rfl (fun K hK=>?_) AllReadyH.nil))
     ·go_simp;refine(cf.out wr.drew ca).mono ?_;rintro e H ⟨bA,O,ch,hs,rfl,bS,bJ⟩;have bB:Below wr.heap.size wr H:=Jb ca bA;have bH:Hid (Kc H O hs/\Jfz ts [] hs ts.length):=⟨bS,bJ⟩;clear bS bJ;go_simp;refine hK.out _ _ ⟨Ja bA y.1,Ja bA y.2.1,Ja bA y.2.2⟩ (fun y=>?_);clear hK K;refine wpAnyH_ready (rs:=[10,11]) zK zS (AllReadyH.cons rfl (fun K hK=>?_) (AllReadyH.cons rfl (fun K hK=>?_) AllReadyH.nil))
      ·go_simp;refine(bX.out H O ch hs bB bH.out.1 bH.out.2).mono ?_;rintro e Z ⟨rfl,U,bE⟩;have bh:Hid (Kj M H st D S name ts rs Z/\Ju M H Z):=⟨bE,U⟩;clear bE;go_simp;refine hK.out _ _ ⟨U.cell y.1 bC,U.cell y.2.1 bC,U.cell y.2.2 bC⟩ (fun y=>?_);clear hK K U;refine tkr 11 rfl fun K hK=>?_;go_simp;have I:Below Z.heap.size Z (Z.alloc Ka):=(Oa5 _ Z).alloc (Oa2 _) Ka;refine hK.out _ _ ⟨Ja I y.1,Ja I y.2.1,Ja I y.2.2⟩ (fun y=>?_);clear hK K;have bj:=Jb bi bB;have bk:=bj.trans (bh.out.2.below (fun k bz bf=>by have:=bO.out k bf;omega) bj.size);exact cj _ _ _ ⟨zK,Z.heap.size,.slice O hs.length ch,zK,⟨heap_alloc_new Z Ka,Jb bk I,bk.size,fun bQ Y bz=>Jfn (fa:=Z.heap.size) bh.out.1 bj.size (Ob2 I.size Y) (fun k cS dA=>(bz k (Oc2 cS I.size) dA).trans (I.block k cS)) (fun bf=>by have bZ:=bY.out.lt _ bf;have dt:=bB.size;have du:=bh.out.2.size;omega) (.inr (Oa2 _))⟩,y⟩
      go_simp;have I:Below H.heap.size H (H.alloc Ka):=(Oa5 _ H).alloc (Oa2 _) Ka;have bx:(H.alloc Ka).heap[H.heap.size]?=some (.cells #[.int .i64 0,.int .i64 0,.int .i64 0,.int .i64 0,.int .i64 0] 51 (0,0)):=heap_alloc_new H Ka;refine hK.out _ _ ⟨Ja I y.1,Ja I y.2.1,Ja I y.2.2⟩ (fun y=>?_);clear hK K;obtain⟨fa,bL⟩:∃ fa,fa=H.heap.size:=⟨_,rfl⟩;rw[<-bL]at bx |-;have bR:=zh bL;clear bL;generalize H.alloc Ka=bI at I bx y |-;have bU:Below wr.heap.size wr bI:=Jb bB I;refine tkr 10 rfl fun K hK=>?_;go_simp;refine(bX.out bI O ch hs bU (bH.out.1.below I) bH.out.2).mono ?_;rintro e Z ⟨rfl,U,bE⟩;have bh:Hid (Kj M bI st D S name ts rs Z/\Ju M bI Z):=⟨bE,U⟩;clear bE;go_simp;refine hK.out _ _ ⟨U.cell y.1 bC,U.cell y.2.1 bC,U.cell y.2.2 bC⟩ (fun y=>?_);clear hK K U;have bW:¬ M fa:=fun bf=>by have bZ:=bY.out.lt _ bf;have dt:=ca.size;have du:=bB.size;have:=bR.out;omega
      have bj:=Jb bi bU;have bk:=bj.trans (bh.out.2.below (fun k bz bf=>by have:=bO.out k bf;omega) bj.size);exact cj _ _ _ ⟨zK,fa,.slice O hs.length ch,zK,⟨(bh.out.2.block _ (Jd bx) bW).trans bx,bk,by have:=bi.size;have:=bB.size;have:=bR.out;omega,fun bQ Y bz=>Jfn (fa:=fa) bh.out.1 bj.size Y bz bW (.inl (Jd bx))⟩,y⟩
     go_simp;have I:Below wr.drew.heap.size wr.drew ((wr.alloc Ka).drew):=(Oa5 _ wr.drew).alloc (Oa2 _) Ka;have bx:((wr.alloc Ka).drew).heap[wr.heap.size]?=some (.cells #[.int .i64 0,.int .i64 0,.int .i64 0,.int .i64 0,.int .i64 0] 51 (0,0)):=heap_alloc_new wr.drew Ka;refine hK.out _ _ ⟨Ja I y.1,Ja I y.2.1,Ja I y.2.2⟩ (fun y=>?_);clear hK K;obtain⟨fa,bL⟩:∃ fa,fa=wr.heap.size:=⟨_,rfl⟩;rw[<-bL]at bx |-;have bR:=zh bL;clear bL;generalize (wr.alloc Ka).drew=bI at I bx y |-;have bU:Below wr.heap.size wr bI:=Jb ca I;refine tkr 9 rfl fun K hK=>?_;go_simp;refine(cf.out bI bU).mono ?_;rintro e H ⟨bA,O,ch,hs,rfl,bS,bJ⟩;have bB:Below wr.heap.size wr H:=Jb bU bA;have cz:=(bA.block _ (Jd bx)).trans bx;have bH:Hid (Kc H O hs/\Jfz ts [] hs ts.length):=⟨bS,bJ⟩;clear bS bJ;go_simp;refine hK.out _ _ ⟨Ja bA y.1,Ja bA y.2.1,Ja bA y.2.2⟩ (fun y=>?_);clear hK K;refine tkr 10 rfl fun K hK=>?_;go_simp;refine(bX.out H O ch hs bB bH.out.1 bH.out.2).mono ?_;rintro e Z ⟨rfl,U,bE⟩;have bh:Hid (Kj M H st D S name ts rs Z/\Ju M H Z):=⟨bE,U⟩;clear bE;go_simp;refine hK.out _ _ ⟨U.cell y.1 bC,U.cell y.2.1 bC,U.cell y.2.2 bC⟩ (fun y=>?_);clear hK K U;have bW:¬ M fa:=fun bf=>by have bZ:=bY.out.lt _ bf;have:=bR.out;omega
     have bj:=Jb bi bB;have bk:=bj.trans (bh.out.2.below (fun k bz bf=>by have:=bO.out k bf;omega) bj.size);exact cj _ _ _ ⟨zK,fa,.slice O hs.length ch,zK,⟨(bh.out.2.block _ (Jd cz) bW).trans cz,bk,by have:=bi.size;have:=bR.out;omega,fun bQ Y bz=>Jfn (fa:=fa) bh.out.1 bj.size Y bz bW (.inl (Jd cz))⟩,y⟩
   case rest=>
    obtain⟨fa,rfl,br,cP,cU⟩:=hcut;have bh:=zh cU;have dL:=zc 0 br;have dM:=zc 1 br;have r2:=zc 2 br;have dN:=zc 3 br;have dO:=zc 4 br;have dy:fa<wc.heap.size:=Jd br;have dd:=zh cP;clear cU br cP cu cv cx;go_wp2_with fail
    go_region_held3 (fun X=>X.cell? ⟨fa,0,none⟩=some (.int .i64 0)/\X.cell? ⟨fa,1,none⟩=some (.int .i64 (-1))/\X.cell? ⟨fa,2,none⟩=some (.int .i64 (-1))/\X.cell? ⟨fa,3,none⟩=some (.int .i64 (-1))/\X.cell? ⟨fa,4,none⟩=some (.int .i64 (-1)))
     (first|go_keep|(go_split_ands;refine⟨?_,?_,?_,?_,?_⟩<;>(rw[(Kx cy).1 _ _ (by first|exact dy|assumption)];assumption)))
     (first|(go_at_call 13;refine(Jfu _).mono ?_;rintro e dP ⟨rfl,cy⟩;have bk:Below wc.heap.size wc dP:=(by first|exact Jw cy|exact cy)))
    clear dL dM r2 dN dO;go_wp2_with fail
    go_roundw
    case rel=>exact⟨j+1,cD.out.1,by rw[cF.out],Jb dd.out bk,(cE.out _ bh.out).below bk⟩
    case measure=>have:=cD.out.1;rw[cF.out];simp[intOf];omega
  obtain rfl:j=L.length:=zo;have cC:Hid (Below w.heap.size w wr/\Ks2 w st L L.length wr):=⟨bi,hI⟩;clear hI bi ci;go_wp2_with fail
  go_ret
  exact⟨cC.out.1,st,rfl,cC.out.2⟩
theorem Jl3 b name at_ ar ct cr ts xs rs w(h:Uw w name at_ ar cr ts xs rs)(c0:w.cell? ⟨b,0,none⟩=some (.string name))(c1:w.cell? ⟨b,1,none⟩=some (.slice at_ ts.length ct))(c2:w.cell? ⟨b,2,none⟩=some (.slice ar rs.length cr))a0 a1 a2 H q wr pg pl ex y(I:Jax w a0 a1 a2 H q wr pg pl ex y):
  Calls prog 6 #[.agg #[.int .i64 1048576,.int .i64 0],.slice (some ⟨b,0,none⟩) 1 1] w fun e w'=>Below w.heap.size w w'/\∃ (st:Nat),e=.returned (.pointer (some ⟨st,0,none⟩))/\Ks2 w st [⟨name,at_,ct,ar,cr,ts,xs,rs⟩] 1 w':=by
 have K:=h.tab.2.2.1;refine Qbo b 1 [⟨name,at_,ct,ar,cr,ts,xs,rs⟩] w (fun t ht=>?_) (fun i t hi=>?_) (Jm c0) zS zS (by simp[Ksk];omega) a0 a1 a2 H q wr pg pl ex y I
 ·rw[Oc6]at ht;subst ht;exact h
 match i,hi with
 |0,hi=>
  cases hi
  exact⟨c0,c1,c2⟩
theorem Jxy {W O I U name t v}(h0:W.heap[O]?=some (.cells #[.int .i64 t] 3 (0,0)))(H:W.heap[I]?=some (.cells #[.int .i64 v.k,.int .i64 v.n,.string v.s] 33 (0,0)))(Y:W.heap[U]?=some (.cells #[.slice (some ⟨I,0,none⟩) 1 1] 31 (0,0)))(ht:1<=t/\t<=3)(Z:1<=name.size/\name.size<=20)(hv:okB t v.k v.n v.s=true)(hi:Jg v.n):Uw W name (some ⟨O,0,none⟩) (some ⟨U,0,none⟩) 1 [t] [(some ⟨I,0,none⟩,1)] [[v]]:=by
 refine⟨⟨Z,⟨⟨zS,zS⟩,fun j K=>?_⟩,zS,fun i hi=>?_⟩,fun u y=>?_,fun r hr u y=>?_,.inr ⟨O,0,rfl,Jd h0,fun i u y=>?_⟩,⟨rfl,.inr ⟨U,0,rfl,Jd Y,fun i u y=>?_⟩,fun i x r M hr=>?_⟩,zS⟩
 ·have:j=0:=by simp at K;omega
  subst this;simp[Jnd,ht.1,ht.2]
 ·have:i=0:=by simp at hi;omega
  subst this;refine⟨rfl,fun j K=>?_⟩;have:j=0:=by simp at K;omega
  subst this;simpa using hv
 ·simp at y;subst y;unfold tOk;omega
 ·simp at hr;subst hr;simp at y;subst y;exact hi
 ·rcases i with _|i
  ·simp at y;subst y;simp[World.cell?,h0,iv]
  simp at y
 ·rcases i with _|i
  ·simp at y;subst y;simp[World.cell?,Y,Je1]
  simp at y
 rcases i with _|i
 ·simp at M hr;subst M hr;refine .inr ⟨I,0,rfl,Jd H,fun j u y=>?_⟩;rcases j with _|j
  ·simp at y;subst y;exact⟨by simp[World.cell?,H],by simp[World.cell?,H],by simp[World.cell?,H]⟩
  simp at y
 simp at M
def Jqc (w H:World)(st:Nat)(name:ByteArray)(rs:List (List V)):Prop:=Below w.heap.size w H/\∃ (y:Nat->Prop) (E:DS) (T:TS),Sto y H st E [T]/\Jbc E [(T,rs)]/\T.name=name/\E.quota=1048576/\E.fail=0/\E.pages.length<=660*rs.length/\E.writes<=660*rs.length/\(∀ k,y k->w.heap.size<=k)
theorem Ks2.one {w U st t}(h:Ks2 w st [t] 1 U):∃ (y:Nat->Prop) (E:DS) (T:TS),Sto y U st E [T]/\Jbc E [(T,t.rs)]/\(T.name=t.name/\T.types=t.ts)/\E.quota=1048576/\E.fail=0/\E.pages.length<=660*t.rs.length/\E.writes<=660*t.rs.length/\(∀ k,y k->w.heap.size<=k):=by
 obtain⟨y,E,S,Y,Z,bf,bh,bi,bj,M,O,bk⟩:=h;match S,bf with
 |[(T,r)],_=>
  obtain⟨H,I,K⟩:=bh 0 t (T,r) rfl rfl;simp only at H I K;subst K;have hr:Ksk [t] 1=t.rs.length:=by simp[Ksk]
  rw[hr]at M O;exact⟨y,E,T,Y,Z,⟨H,I⟩,bi,bj,M,O,bk⟩
theorem Jwr {w X y st t}(h:Ks2 X st [t] 1 y)(hb:Below w.heap.size w X)(bh:Below X.heap.size X y):Jqc w y st t.name t.rs:=by
 obtain⟨H,E,T,I,K,M,O,U,Y,Z,bf⟩:=h.one;exact⟨Jb hb bh,H,E,T,I,K,M.1,O,U,Y,Z,fun k bi=>Ob2 hb.size (bf k bi)⟩
theorem Jrp {E T name rs}(h:Jbc E [(T,rs)])(I:T.name=name):Jf8 E [T] name=some (.inl rs)/\∀ y∈[T],Jid E y:=by
 have ht:=h.tab (T,rs) zS;refine⟨?_,fun y H=>by simp at H;subst H;exact ht.ok⟩;unfold Jf8;simp[Ub,I,ht.read]
abbrev Yh:ByteArray:=⟨#[111,110,101]⟩
abbrev Za:V:=⟨1,41,⟨#[]⟩⟩
theorem Kev w a0 a1 a2 bB q wr pg pl ex bA(bJ:Jax w a0 a1 a2 bB q wr pg pl ex bA):
  Calls prog 17 #[] w fun e w'=>e=.returned (.bool true)/\Below w.heap.size w w':=by
 have bD:=zh bJ;clear bJ;go_enter func17,ntmps17
 go_upto_region 2 with fail
 obtain⟨W,U⟩:∃ W,W=((((w.alloc (.cells #[.int .i64 1] 3)).alloc (.cells #[.int .i64 1,.int .i64 41,.string ⟨#[]⟩] 33)).alloc (.cells #[.slice (some ⟨w.heap.size+1,0,none⟩) 1 1] 31)).alloc (.cells #[.string ⟨#[111,110,101]⟩,.slice (some ⟨w.heap.size,0,none⟩) 1 1,.slice (some ⟨w.heap.size+1+1,0,none⟩) 1 1] 25)):=⟨_,rfl⟩;rw[<-U];have bL:Below w.heap.size w W:=by rw[U];exact((((Oa5 _ w).alloc (Oa2 _) _).alloc zS _).alloc zt _).alloc zt _
 have bf:W.heap[w.heap.size+1+1+1]?=some (.cells #[.string ⟨#[111,110,101]⟩,.slice (some ⟨w.heap.size,0,none⟩) 1 1,.slice (some ⟨w.heap.size+1+1,0,none⟩) 1 1] 25 (0,0)):=by rw[U];exact Jb4 _ _ _ zS
 have bH:W.heap[w.heap.size+1+1]?=some (.cells #[.slice (some ⟨w.heap.size+1,0,none⟩) 1 1] 31 (0,0)):=by rw[U,Oa9 _ _ _ zS];exact Jb4 _ _ _ zS
 have bG:W.heap[w.heap.size+1]?=some (.cells #[.int .i64 1,.int .i64 41,.string ⟨#[]⟩] 33 (0,0)):=by rw[U,Oa9 _ _ _ zS,Oa9 _ _ _ zS];exact Jb4 _ _ _ zS
 have bE:W.heap[w.heap.size]?=some (.cells #[.int .i64 1] 3 (0,0)):=by rw[U,Oa9 _ _ _ zt,Oa9 _ _ _ zt,Oa9 _ _ _ zS];exact Jb4 _ _ _ rfl
 have bY:Hid (Uw W Yh (some ⟨w.heap.size,0,none⟩) (some ⟨w.heap.size+1+1,0,none⟩) 1 [1] [(some ⟨w.heap.size+1,0,none⟩,1)] [[Za]]):=Jxy (v:=Za) bE bG bH zd zd (by simp[okB,okK]) (by simp[Jg]);have bV:=zc 0 bf;have q1:=zc 1 bf;have q2:=zc 2 bf;clear U bE bG bH bf;have bC:Hid (∀ X b,Below W.heap.size W X->X.heap[b]?=some (.cells #[.string ⟨#[111,110,101]⟩,.slice (some ⟨w.heap.size,0,none⟩) 1 1,.slice (some ⟨w.heap.size+1+1,0,none⟩) 1 1] 25 (0,0))->Calls prog 6 #[.agg #[.int .i64 1048576,.int .i64 0],.slice (some ⟨b,0,none⟩) 1 1] X fun e bi=>∃ st,e=.returned (.pointer (some ⟨st,0,none⟩))/\Jqc w bi st Yh [[Za]]/\Below X.heap.size X bi):=fun X b bj hb=>
  (Jl3 b Yh (some ⟨w.heap.size,0,none⟩) (some ⟨w.heap.size+1+1,0,none⟩) 1 1 [1] [(some ⟨w.heap.size+1,0,none⟩,1)] [[Za]] X (bY.out.below bj) (by simp[World.cell?,hb]) (by simp[World.cell?,hb]) (by simp[World.cell?,hb]) a0 a1 a2 bB q wr pg pl ex bA (bD.out.below (Jb bL bj))).mono fun e bi ⟨bN,st,cf,hl⟩=>⟨st,cf,Jwr hl (Jb bL bj) bN,bN⟩
 go_cut [2] from 10 to 13 (fun s cy=>∃ st:Nat,s=.pointer (some ⟨st,0,none⟩)/\Jqc w cy st Yh [[Za]])
 case first=>
  refine wp_region_held_drew (S:=fun X=>X.cell? ⟨w.heap.size+1+1+1,0,none⟩=some (.string ⟨#[111,110,101]⟩)/\X.cell? ⟨w.heap.size+1+1+1,1,none⟩=some (.slice (some ⟨w.heap.size,0,none⟩) 1 1)/\X.cell? ⟨w.heap.size+1+1+1,2,none⟩=some (.slice (some ⟨w.heap.size+1+1,0,none⟩) 1 1)) zK ⟨bV,q1,q2⟩ (fun y=>?_);refine tkj 1 rfl y ?_;refine tkn ?_;have bO:Below W.heap.size W W.drew:=⟨rfl,rfl,rfl,Oa2 _,fun _ _=>rfl⟩;refine wpAnyH_ready (rs:=[0,2]) zK zS (AllReadyH.cons rfl (fun I hK=>?_) (AllReadyH.cons rfl (fun I hK=>?_) AllReadyH.nil));focus
   go_simp;refine(Jen _).mono ?_;rintro e H ⟨rfl,K⟩;have br:Below W.heap.size W H:=Jb bO K;go_simp;refine hK.out _ _ ⟨Ja K y.1,Ja K y.2.1,Ja K y.2.2⟩ (fun y=>?_);clear hK I;refine tkr 2 rfl fun I hK=>?_;go_simp;have M:Below H.heap.size H (H.alloc (.cells #[.string ⟨#[111,110,101]⟩,.slice (some ⟨w.heap.size,0,none⟩) 1 1,.slice (some ⟨w.heap.size+1+1,0,none⟩) 1 1] 25)):=(Oa5 _ _).alloc (Oa2 _) _;have bh:=heap_alloc_new H (.cells #[.string ⟨#[111,110,101]⟩,.slice (some ⟨w.heap.size,0,none⟩) 1 1,.slice (some ⟨w.heap.size+1+1,0,none⟩) 1 1] 25);refine hK.out _ _ ⟨Ja M y.1,Ja M y.2.1,Ja M y.2.2⟩ (fun y=>?_);clear hK I;refine tkr 3 rfl fun I hK=>?_;go_simp;refine(bC.out _ _ (Jb br M) bh).mono ?_
  rotate_left 1;focus
   go_simp;have M:Below W.heap.size W ((W.alloc (.cells #[.string ⟨#[111,110,101]⟩,.slice (some ⟨w.heap.size,0,none⟩) 1 1,.slice (some ⟨w.heap.size+1+1,0,none⟩) 1 1] 25)).drew):=Jb bO ((Oa5 _ W.drew).alloc (Oa2 _) (.cells #[.string ⟨#[111,110,101]⟩,.slice (some ⟨w.heap.size,0,none⟩) 1 1,.slice (some ⟨w.heap.size+1+1,0,none⟩) 1 1] 25));have bh:((W.alloc (.cells #[.string ⟨#[111,110,101]⟩,.slice (some ⟨w.heap.size,0,none⟩) 1 1,.slice (some ⟨w.heap.size+1+1,0,none⟩) 1 1] 25)).drew).heap[W.heap.size]?=_:=heap_alloc_new W (.cells #[.string ⟨#[111,110,101]⟩,.slice (some ⟨w.heap.size,0,none⟩) 1 1,.slice (some ⟨w.heap.size+1+1,0,none⟩) 1 1] 25);refine hK.out _ _ ⟨Ja M bV,Ja M q1,Ja M q2⟩ (fun y=>?_);clear hK I;refine tkr 0 rfl fun I hK=>?_;go_simp;refine(Jen _).mono ?_;rintro e H ⟨rfl,K⟩;have br:Below W.heap.size W H:=Jb M K;have cc:H.heap[W.heap.size]?=_:=(K.block _ (Jd bh)).trans bh;go_simp;refine hK.out _ _ ⟨Ja K y.1,Ja K y.2.1,Ja K y.2.2⟩ (fun y=>?_);clear hK I;refine tkr 3 rfl fun I hK=>?_;go_simp;refine(bC.out _ _ br cc).mono ?_
  all_goals
   rintro e ca ⟨st,rfl,bS,bz⟩;have bX:=zh bS;clear bS;go_simp;refine hK.out _ _ ⟨Ja bz y.1,Ja bz y.2.1,Ja bz y.2.2⟩ (fun y=>?_);clear hK I;refine tkj 4 rfl y ?_;refine tkn ?_;refine wpAnyH_done zK ?_ _;go_wp2_with fail
   go_meet
   case rel=>exact⟨st,rfl,bX.out⟩
 case rest=>
  obtain⟨st,rfl,bM,bZ,E,T,bU,bT,ci,_⟩:=hcut;obtain⟨bx,bQ⟩:=Jrp bT ci;have bR:=Kz1 bZ st E [T] Yh wc bU bQ a0 a1 a2 bB q wr pg pl ex bA (bD.out.below bM) bx;rw[bx]at bR;clear bU bT bx bQ;go_wp2_with (first|(go_at_call 28;refine bR.mono ?_;rintro e H ⟨K,g,bs,rfl,bP⟩;have Z:=zh bP;clear bP))
  obtain⟨b1,rfl⟩:∃ b1,bs=[b1]:=by
   have:=Z.out.len;match bs,this with
   |[x],_=>exact⟨x,rfl⟩
  have bI:H.cell? ⟨g,0,none⟩=some (.slice (some ⟨b1,0,none⟩) 1 1):=Z.out.outer.cell (i:=0) zS;have bW:H.cell? ⟨b1,1,none⟩=some (.int .i64 41):=by
   rcases(Z.out.rows 0 b1 [Za] rfl rfl).vals with h|⟨cA,cC,bK,_,hv⟩
   ·simp at h
   simp at bK;obtain⟨rfl,rfl⟩:=bK;have:=(hv 0 Za rfl).2.1;simpa using this
  have cB:=Jjl 0;have bk:Below H.heap.size H (H.alloc (.cells #[.int .i64 0,.int .i64 (-1),.int .i64 (-1),.int .i64 (-1),.int .i64 (-1)] 51)):=(Oa5 _ _).alloc (Oa2 _) _;have Y:=heap_alloc_new H (.cells #[.int .i64 0,.int .i64 (-1),.int .i64 (-1),.int .i64 (-1),.int .i64 (-1)] 51);have cb:=Ja bk bI;have cx:=Ja bk bW;generalize H.alloc (.cells #[.int .i64 0,.int .i64 (-1),.int .i64 (-1),.int .i64 (-1),.int .i64 (-1)] 51)=ca at *;have cj:=zc 0 Y;have cn:=zc 1 Y;have r2:=zc 2 Y;have cu:=zc 3 Y;have cv:=zc 4 Y;clear bI bW Y Z;refine wp_region_held_drew (S:=fun X=>X.cell? ⟨H.heap.size,0,none⟩=some (.int .i64 0)/\X.cell? ⟨H.heap.size,1,none⟩=some (.int .i64 (-1))/\X.cell? ⟨H.heap.size,2,none⟩=some (.int .i64 (-1))/\X.cell? ⟨H.heap.size,3,none⟩=some (.int .i64 (-1))/\X.cell? ⟨H.heap.size,4,none⟩=some (.int .i64 (-1))/\X.cell? ⟨g,0,none⟩=some (.slice (some ⟨b1,0,none⟩) 1 1)/\X.cell? ⟨b1,1,none⟩=some (.int .i64 41)) zK ⟨cj,cn,r2,cu,cv,cb,cx⟩ (fun y=>?_);refine tkj 0 rfl y ?_;refine tkn ?_;refine tkr 1 rfl fun I hK=>?_;go_simp;refine(Jfu _).mono ?_;rintro e cz ⟨rfl,O⟩;go_simp;refine hK.out _ _ ⟨Ja O y.1,Ja O y.2.1,Ja O y.2.2.1,Ja O y.2.2.2.1,Ja O y.2.2.2.2.1,Ja O y.2.2.2.2.2.1,Ja O y.2.2.2.2.2.2⟩ (fun y=>?_);clear hK I;refine tkj 2 rfl y ?_;refine tkj 3 rfl y ?_;refine tkn ?_;refine tkj 4 rfl y ?_;refine tkj 5 rfl y ?_;refine tkj 6 rfl y ?_;refine tkj 7 rfl y ?_;refine tkj 8 rfl y ?_;refine tkn ?_;refine tkj 9 rfl y ?_;refine tkj 10 rfl y ?_;refine tkj 11 rfl y ?_;refine tkj 12 rfl y ?_;refine tkj 13 rfl y ?_;refine tkj 14 rfl y ?_;refine tkj 15 rfl y ?_;refine tkn ?_;refine tkj 16 rfl y ?_;refine tkj 17 rfl y ?_;refine tkj 18 rfl y ?_;refine tkj 19 rfl y ?_;refine tkj 20 rfl y ?_;refine tkj 21 rfl y ?_;refine tkj 22 rfl y ?_;refine tkj 23 rfl y ?_;refine tkj 24 rfl y ?_;refine tkn ?_;refine wpAnyH_done zK ?_ _;go_wp2;go_ret
  exact⟨rfl,Jb (Jb bM (Jb K bk)) (Jw O)⟩
attribute [local go_sem] Oc0
theorem Kw2 n(bZ:1<=n)I H b off len cap g(bB:1<=g)(bU:g<=100000)(hlen:len<=100000)(bT:len<=cap)w(bk:w.cell? ⟨I,0,none⟩=some (.slice (some ⟨b,off,none⟩) len cap))(bj:w.cell? ⟨H,0,none⟩=some (.int .i64 (g:Int)))Fx(hF:Fx I/\Fx H)(br:∀ k,Fx k->k<w.heap.size):
  Qdf Fence.wide n prog 282 #[.pointer (some ⟨I,0,none⟩),.pointer (some ⟨H,0,none⟩)] (fun x:Nat×Nat=>#[.slice (some ⟨b,off+x.1,none⟩) x.2 x.2]) (fun x _=>x.1+x.2<=len/\1<=x.2/\x.2<=g) (fun U x=>U++[x]=cks len g (U.length+1)) (KpB Fx) (fun y=>y=cks len g (ckN len g)) (fun U=>∃ k,k<=ckN len g/\U=cks len g k) (ckN len g) w:=by
 intro l J bS W O bx bP bA h0;have bJ:Hid (∀ s A,J s A->J s A.drew):=fun s A h=>bx s A A.drew none h ⟨rfl,rfl,rfl,Oa2 _,fun _ _ _=>rfl⟩ (fun r e=>by cases e);have bM:=zh bA;have bN:=Ja O bk;have bi:=Ja O bj;have Y:Hid ((Fx I/\Fx H)/\∀ k,Fx k->k<W.heap.size):=⟨hF,fun k bC=>Oc2 (br k bC) O.size⟩;clear bA hF br bk bj bx bP O;refine callsIn_of_wp func282 rfl trivial ?_ rfl;simp only[ntmps282,Om3,List.length_cons,List.length_nil,Nat.reduceAdd,Nat.reduceSub,Ok9,Array.replicate_zero,Om4,Ol2,List.nil_append,List.cons_append];gi_wp2
 gi_loopw [4] (fun i wr=>∃ (k:Nat) (y:List (Nat×Nat)),k<=ckN len g/\i=.int .i64 ((k*g:Nat):Int)/\Hid (y=cks len g k)/\J y wr/\KpB Fx W wr)
  (fun i _=>len+100000-(intOf i).toNat)
 case atStart=>exact⟨0,[],Ob7 _,zS,rfl,h0,Oa2 _,fun _ _=>rfl⟩
 case round=>
  obtain⟨k,y,bC,rfl,K,bz,Z⟩:=hrel;have c1:wr.cell? ⟨I,0,none⟩=some (.slice (some ⟨b,off,none⟩) len cap):=by rw[Oc3 (w:=W) (Z.2 I Y.out.1.1)];exact bN
  have c2:wr.cell? ⟨H,0,none⟩=some (.int .i64 (g:Int)):=by rw[Oc3 (w:=W) (Z.2 H Y.out.1.2)];exact bi
  by_cases bG:k*g<len
  ·have bD:=Khi bB bG;have M:Hid (cks len g (k+1)=cks len g k++[(k*g,min g (len-k*g))]):=Jbj len g k;have bL:Hid ((k+1)*g=k*g+g):=Of5 k g;have bI:y.length=k:=by have:=congrArg List.length K.out;rw[Jbp]at this;exact this
   generalize k*g=i at *;obtain⟨m,bH,bf⟩:∃ m:Nat,(i+m<=len/\1<=m/\m<=g)/\Hid (m=min g (len-i)):=⟨min g (len-i),zo,rfl⟩;rw[<-bf.out]at M;have bY:min (g:Int) ((len-i:Nat):Int)=(m:Int):=by have:=bf.out;omega
   have ca:((i:Int)+(m:Int)).toNat-i=m:=zo;obtain⟨fn,tmps,assign,body,hy,hR⟩:=bM.out y (i,m) wr.drew (bJ.out _ _ bz) bH (by rw[bI,K.out,M.out]) zo;dsimp only at hy;clear bI;obtain⟨bV,bW,bX⟩:=bH;gi_wp2
   gi_region
   gi_wp2
   refine hR.mono ?_;rintro e bh (⟨rfl,bO,bR⟩|⟨rfl,bQ⟩)
   ·have bE:KpB Fx W bh:=Z.trans bR;have c3:bh.cell? ⟨H,0,none⟩=some (.int .i64 (g:Int)):=by rw[Oc3 (w:=W) (bE.2 H Y.out.1.2)];exact bi
    gi_wp2
    go_roundw
    case rel=>exact⟨k+1,y++[(i,m)],bD,by rw[bL.out];go_num,by show _=_;rw[K.out,M.out],bO,bE⟩
    case measure=>simp[intOf];omega
   gi_wp2
   refine bodyPost_ret (results_none rfl _ _ _) rfl ?_;exact⟨⟨_,rfl⟩,.inr ⟨_,⟨k+1,bD,by rw[K.out,M.out]⟩,bQ⟩⟩
  have bK:Hid (k=ckN len g):=by
   rcases Oc1 k (ckN len g)with h'|h'
   ·exact absurd (Jqs bB h') bG
   ·show k=_;omega
  gi_wp2
  go_end0
  exact⟨⟨_,rfl⟩,.inl ⟨y,by rw[K.out,bK.out],bz⟩⟩
theorem Kw3 a(n c g:Nat)(y:1<=g)w:Calls prog 243 #[.slice a n c,.int .i64 (g:Int)] w fun e w'=>e=.returned (.func (.func 282) #[] #[.pointer (some ⟨w.heap.size,0,none⟩),.pointer (some ⟨w.heap.size+1,0,none⟩)])/\w'=(w.alloc (.cells #[.slice a n c] 303)).alloc (.cells #[.int .i64 (g:Int)] 3):=by
 have H:¬ (g:Int)<1:=zo;go_enter func243,ntmps243
 go_wp2;go_ret
 exact⟨rfl,rfl⟩
