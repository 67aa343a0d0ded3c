/- The law's own words for an expression: what it is worth on a row. -/
import Derived.Test.YtnlnlamdilifcaaGreatDoorXp
import Derived.Test.YtnlnlamdilifcaaGreatDoorGf
set_option maxHeartbeats 2000000
set_option maxRecDepth 100000
namespace Go.Proofs.YtnlnlamdilifcaaGreatDoor
section
open Go.RowKit Go.Shelf
attribute [local go_sem] Oc0
attribute [local go_sem] Jdy
attribute [local go_sem] Oc0
end
section
open Go.RowKit
def Jex (rs:List (List V))(m o p k:Nat):List (List V):=rs.mapIdx fun i r=>if i<o then r else if i<o+p then r.take k++List.replicate (m-k) Jf else List.replicate m Jf
theorem Jv4 rs m p:Jex rs m 0 p 0=List.replicate rs.length (List.replicate m Jf):=by
 apply Oi8;intro i;rw[Jex,Oh8,Of3];by_cases hi:i<rs.length
 ·rw[if_pos hi,Oa3 hi];simp
 rw[if_neg hi,Ob4 zo];rfl
theorem Kac rs m o p I K(hr:∀ r∈rs,r.length=m)(h:∀ i,i<rs.length->(i<o+p↔i<I)):Jex rs m o p m=Jex rs m I K 0:=by
 apply Oi8;intro i;rw[Jex,Jex,Oh8,Oh8];by_cases hi:i<rs.length
 ·rw[Oa3 hi];simp only[Option.map_some];have hl:=hr _ (Ob3 hi);have:=h i hi;by_cases y:i<o
  ·rw[if_pos y,if_pos zo]
  rw[if_neg y];by_cases H:i<o+p
  ·rw[if_pos H,if_pos zo];simp[<-hl]
  rw[if_neg H,if_neg zo];simp
 rw[Ob4 zo];rfl
theorem Kb8 rs m o p(h:rs.length<=o):Jex rs m o p 0=rs:=by
 apply Oi8;intro i;rw[Jex,Oh8];by_cases hi:i<rs.length
 ·rw[Oa3 hi];simp only[Option.map_some];rw[if_pos zo]
 rw[Ob4 zo];rfl
theorem Kh7 L c n u(y:L.length=c)(K:c<n):(L++List.replicate (n-c) Jf).set c u=L++[u]++List.replicate (n-(c+1)) Jf:=by
 obtain⟨d,H⟩:∃ d,n-c=d+1:=⟨n-c-1,zo⟩;have I:n-(c+1)=d:=zo;rw[H,I,List.replicate_succ,Ok4 _ _ zo,y,Oe1,List.set_cons_zero];simp
theorem Kam rs m o p k(hr:∀ r∈rs,r.length=m)(I:k<m)(ho:o+p<=rs.length):Ji6 (Jex rs m o p k) o k (Jaj (Uk rs (o,p)) k)=Jex rs m o p (k+1):=by
 have M:(Jaj (Uk rs (o,p)) k).length=p:=by simp[Jaj,Uk];omega
 apply Oi8;intro i;rw[Ji6,Oh8,Jex,Jex,Oh8,Oh8,M];by_cases hi:i<rs.length
 ·rw[Oa3 hi];simp only[Option.map_some];have hl:=hr _ (Ob3 hi);by_cases H:i<o
  ·rw[if_pos H,if_neg zo,if_pos H]
  rw[if_neg H,if_neg H];by_cases y:i<o+p
  ·rw[if_pos y,if_pos ⟨zo,y⟩,if_pos y];have hv:(Jaj (Uk rs (o,p)) k).getD (i-o) Jf=rs[i][k]:=by
    have O:(Uk rs (o,p))[i-o]?=some rs[i]:=by
     simp only[Uk];rw[Oh3 zo,Oh9,show o+(i-o)=i by omega,Oa3 hi]
    have K:(Jaj (Uk rs (o,p)) k)[i-o]?=some (rs[i].getD k Jf):=by
     simp only[Jaj,Ob1,O,Option.map_some]
    rw[Oa0,K];simp[hl,I]
   rw[hv,Kh7 _ k m _ zt I,Oc4 zo]
  rw[if_neg y,if_neg zo,if_neg y]
 rw[Ob4 zo];rfl
theorem Joo D rs m y ts x(hr:∀ r∈rs,r.length=m)(ho:x.1+x.2<=rs.length)(hv:∀ c,c<m->Us D (y.getD c []) (ts.getD c 0) x.2=.inl (Jaj (Uk rs x) c)):
  ∀ k,k<=m->Jil D y ts x (Jex rs m x.1 x.2 0) k=.inl (Jex rs m x.1 x.2 k)
 |0,_=>rfl
 |k+1,H=>by
  simp only[Jil,Joo D rs m y ts x hr ho hv k zo,hv k zo];exact congrArg _ (Kam rs m x.1 x.2 k hr zo ho)
theorem Jjr len g j(M:1<=g)(y:j<ckN len g):(Jaa len g j).1+(Jaa len g j).2<=len/\1<=(Jaa len g j).2/\∀ i,i<len->(i<(Jaa len g j).1+(Jaa len g j).2↔i<(Jaa len g (j+1)).1):=by
 have I:j*g<len:=by
  unfold ckN at y;have H:(j+1)*g<=(len+g-1) / g*g:=Om8 g y;have K:=Nat.div_mul_le_self (len+g-1) g;rw[Of5]at H;omega
 simp only[Jaa];rw[Of5];exact⟨zo,zo,fun i hi=>zo⟩
theorem Jxu len g(I:1<=g):len<=(Jaa len g (ckN len g)).1:=by
 simp only[Jaa,ckN];have h:=Nat.div_add_mod (len+g-1) g;have y:=Ol0 (len+g-1) (show g>0 by omega);have H:g*((len+g-1) / g)=(len+g-1) / g*g:=Nat.mul_comm _ _;omega
theorem Joa D rs ts y g(H:1<=g)(hr:∀ r∈rs,r.length=ts.length)(hv:∀ j c,j<ckN rs.length g->c<ts.length->Us D (y.getD (j*ts.length+c) []) (ts.getD c 0) (Jaa rs.length g j).2=.inl (Jaj (Uk rs (Jaa rs.length g j)) c)):
  ∀ k,k<=ckN rs.length g->∃ p,(Jkh D ts y (List.replicate rs.length (List.replicate ts.length Jf)) (cks rs.length g k)).1=.inl (Jex rs ts.length (Jaa rs.length g k).1 p 0)
 |0,_=>⟨0,by
  show Sum.inl _=Sum.inl _;rw[<-Jv4 rs ts.length 0];simp[Jaa]⟩
 |k+1,Z=>by
  obtain⟨p,U⟩:=Joa D rs ts y g H hr hv k zo;obtain⟨I,Y,K⟩:=Jjr rs.length g k H zo;rw[Jbj,Jm6];simp only[Jox];rw[U,Jme,Jbp];have O:Jex rs ts.length (Jaa rs.length g k).1 p 0=Jex rs ts.length (Jaa rs.length g k).1 (Jaa rs.length g k).2 0:=by
   apply Oi8;intro i;rw[Jex,Jex,Oh8,Oh8];cases rs[i]? with
   |none=>rfl
   |some r=>simp
  refine⟨0,?_⟩;simp only;rw[O,Joo D rs ts.length _ ts _ hr I (fun c M=>?_) ts.length (Oa2 _)]
  ·exact congrArg _ (Kac rs ts.length _ _ _ 0 hr K)
  rw[<-hv k c zo M];congr 1
  simp[List.getD_eq_getElem?_getD,List.getElem?_drop]
theorem Jov rows ts hs:∀ (k:Nat) (l:List (List UInt8)),Jeo rows ts hs k=.inl l->∀ c,c<k->l[c]?=some (Uo rows ts hs c).1/\(Uo rows ts hs c).2=0
 |0,l,h,c,I=>by omega
 |k+1,l,h,c,I=>by
  simp only[Jeo]at h;split at h
  ·simp at h
  rename_i H y
  split at h
  ·rename_i h0
   simp at h;subst h;have hlen:=Jjc rows ts hs k H y;by_cases e:c=k
   ·subst e;rw[Ob6 zo];simp[hlen,h0]
   rw[Ob0 zo];exact Jov rows ts hs k H y c zo
  simp at h
theorem Jpd rs ts hs len g:∀ (n:Nat) (T:List (List UInt8)),Jfg rs ts hs (cks len g n)=.inl T->∀ j c,j<n->c<ts.length->T[j*ts.length+c]?=some (Uo (Uk rs (Jaa len g j)) ts hs c).1/\(Uo (Uk rs (Jaa len g j)) ts hs c).2=0
 |0,T,h,j,c,M,_=>by omega
 |n+1,T,h,j,c,M,I=>by
  rw[Jbj,Juv]at h;simp only[Jiu]at h;split at h
  ·simp at h
  rename_i y H
  split at h
  ·rename_i l hl
   simp at h;subst h;have hlen:=(Jte rs ts hs _ y H).1;rw[Jbp]at hlen;by_cases e:j=n
   ·subst e;rw[Ob6 zo,hlen,Nat.add_sub_cancel_left];exact Jov _ ts hs _ l hl c I
   have K:(j+1)*ts.length<=n*ts.length:=Om8 _ zo;rw[Of5]at K;rw[Ob0 zo];exact Jpd rs ts hs len g n y H j c zo I
  simp at h
theorem Kjs {l:List Int}{c:Nat}(h:c<l.length):l.getD c 0∈l:=by
 rw[show l.getD c 0=l[c] by simp[h]];exact Ob3 _
theorem Kkg {name ts hs rs g T}(U:Jel name ts rs)(Z:hs.length=ts.length)(hW:∀ x∈hs,Kjk x)(hp:Jfg rs ts hs (cks rs.length g (ckN rs.length g))=.inl T):∀ t∈T,Kje t:=by
 intro t ht t' bf bh bi hh;obtain⟨i,hi,rfl⟩:=Od5 ht;have H:=(Jte rs ts hs _ T hp).1;rw[Jbp]at H;have h0:0<ts.length:=U.2.1.1.1;have M:=Nat.div_add_mod i ts.length;have O:=Ol0 i h0;have hq:i / ts.length<ckN rs.length g:=(Nat.div_lt_iff_lt_mul h0).2 zo;obtain⟨y,Y⟩:=Jpd rs ts hs rs.length g _ T hp _ _ hq O;rw[Nat.mul_comm,M,Oa3 hi,Oc9]at y;have I:Jev (ts.getD (i % ts.length) 0) (hs.getD (i % ts.length) 0) (Jaj (Uk rs (Jaa rs.length g (i / ts.length))) (i % ts.length))=(T[i],0):=Prod.ext y.symm Y;obtain⟨_,_,_,_,e,K⟩:=Kja I;rw[K]at hh;simp only[Oc9,Oj3]at hh;rw[<-hh.1.2.1,e];exact hW _ (Kjs zo)
theorem Jqv E name ts hs rs g T y(Y:Jel name ts rs)(I:1<=g)(br:∀ r∈rs,∀ v∈r,Jg v.n)(bh:∀ x∈hs,Kkn x)(bD:hs.length=ts.length)(hp:Jfg rs ts hs (cks rs.length g (ckN rs.length g))=.inl T)(hl:y.length=T.length)(hh:∀ (i:Nat) (bf:i<y.length) (bC:i<T.length),Jan E y[i] T[i]):
  Jgp E ⟨name,ts,rs.length,g,y⟩=.inl rs:=by
 have hr:∀ r∈rs,r.length=ts.length:=fun r hr=>by
  obtain⟨i,hi,rfl⟩:=Od5 hr;exact(Y.2.2.2 i hi).1
 have hv:∀ j c,j<ckN rs.length g->c<ts.length->Us E (y.getD (j*ts.length+c) []) (ts.getD c 0) (Jaa rs.length g j).2=.inl (Jaj (Uk rs (Jaa rs.length g j)) c):=by
  intro j c K H;obtain⟨bi,h0⟩:=Jpd rs ts hs rs.length g _ T hp j c K H;obtain⟨bk,bj⟩:=Ob9.1 bi;have M:j*ts.length+c<y.length:=zo;have U:=(hh _ M bk).read;rw[bj]at U;obtain⟨bf,_,_⟩:=Jjr rs.length g j I K;have bB:(Uk rs (Jaa rs.length g j)).length=(Jaa rs.length g j).2:=by simp[Uk];omega
  have bz:=Ki9 (ts.getD c 0) (hs.getD c 0) (bh _ (Kjs zo)) (Jaj (Uk rs (Jaa rs.length g j)) c) (Uo (Uk rs (Jaa rs.length g j)) ts hs c).1 (by
   unfold Uo at h0 |-;exact Prod.ext rfl h0) (fun v hv=>by
    obtain⟨r,bA,rfl⟩:=Of0.1 hv;have O:r∈rs:=Oh7 (Om9 bA);have bx:=hr r O;have:r.getD c Jf=r[c]:=(by simp[bx,H]);rw[this];exact br r O _ (Ob3 _))
  unfold Us;rw[show y.getD (j*ts.length+c) []=y[j*ts.length+c] by simp[M],U];simp only[bz];have Z:Jnd (ts.getD c 0)=true:=by
   have:=Y.2.1.2 c H;simpa [H] using this
  unfold Jnd at Z;simp only[decide_eq_true_iff]at Z;rw[if_pos ⟨zo,by rw[<-bB];simp[Jaj]⟩]
 obtain⟨p,h⟩:=Joa E rs ts y g I hr hv (ckN rs.length g) (Oa2 _);unfold Jgp;simp only;rw[h,Kb8 rs ts.length _ _ (Jxu rs.length g I)]
theorem Jmw:∀ (ps:List (List UInt8))(D:DS),((Js D.pages:Nat):Int)<=D.quota->(Uy D ps).2.2=none->((Js (Uy D ps).1.pages:Nat):Int)<=D.quota
 |[],D,h,_=>by simpa [Uy] using h
 |p::ps,D,h,y=>by
  unfold Uy at y |-;by_cases H:D.quota<=((Js D.pages:Nat):Int)
  ·rw[if_pos H]at y;simp at y
  rw[if_neg H]at y |-;by_cases I:wrap64 (D.writes+1)=D.fail
  ·rw[if_pos I]at y;simp at y
  rw[if_neg I]at y |-;have:=Jmw ps (Zn D p) (by rw[Jm8];show _<=D.quota;omega) y;exact this
theorem Jh1:∀ (ts:List (List UInt8))(D:DS),((Js D.pages:Nat):Int)<=D.quota->(Jq D ts).2.2=none->((Js (Jq D ts).1.pages:Nat):Int)<=D.quota
 |[],D,h,_=>by simpa [Jq] using h
 |t::ts,D,h,y=>by
  have H:=Jmw (Qu t) D h;have I:=(Jc1 (Qu t) D).1;unfold Jq at y |-;rcases hr:Uy D (Qu t)with⟨E,l,r⟩;rw[hr]at y H I;cases r with
  |none=>
   have hq:E.quota=D.quota:=(I rfl).quota;have:=Jh1 ts E (by rw[hq];exact H rfl) y;rw[hq]at this;exact this
  |some x=>simp at y
theorem Jhk:∀ (ts:List (List UInt8))(D:DS),(Jq D ts).1.pages.length<=D.pages.length+Jch ts
 |[],D=>by simp[Jq,Jch]
 |t::ts,D=>by
  have y:=(Jrh (Qu t) D).1;unfold Jq;rcases hr:Uy D (Qu t)with⟨E,l,r⟩;rw[hr]at y;rw[Ja1];cases r with
  |none=>
   have:=Jhk ts E;simp only at y this |-;omega
  |some x=>
   simp only at y |-;rw[Jrz];omega
structure Jer (D:DS) (T:TS) (rs:List (List V)):Prop where
 cols:1<=T.types.length/\T.types.length<=6
 rows:T.rows<=200
 group:1<=T.group/\T.group<=64
 count:T.segs.length=ckN T.rows T.group*T.types.length
 texts:∃ X:List (List UInt8),X.length=T.segs.length/\(∀ t∈X,t≠[]/\t.length<=6100/\Kje t)/\(∀ (i:Nat) (h1:i<T.segs.length) (h2:i<X.length),Jan D T.segs[i] X[i])/\(∀ E:DS,(∀ (i:Nat) (h1:i<T.segs.length) (h2:i<X.length),Jan E T.segs[i] X[i])->Jgp E T=.inl rs)
theorem Jer.read {D T rs}(h:Jer D T rs):Jgp D T=.inl rs:=by
 obtain⟨X,_,_,y,H⟩:=h.texts;exact H D y
theorem Jer.keep {D E T rs}(h:Jer D T rs)(O:∀ i∈T.segs.flatten,pg E i=pg D i):Jer E T rs:=by
 obtain⟨X,y,H,I,K⟩:=h.texts;exact⟨h.cols,h.rows,h.group,h.count,X,y,H,fun i hi M=>(I i hi M).keep fun k U=>O k (List.mem_flatten.2 ⟨_,Ob3 hi,U⟩),K⟩
theorem Jer.seg {D T rs}(h:Jer D T rs):∀ l∈T.segs,∃ t,t≠[]/\t.length<=6100/\Jan D l t/\Kje t:=by
 intro l hl;obtain⟨X,K,H,I,M⟩:=h.texts;obtain⟨i,hi,rfl⟩:=Od5 hl;have y:=H _ (Ob3 (show i<X.length by omega));exact⟨_,y.1,y.2.1,I i hi zo,y.2.2⟩
theorem Jx9 {D l t}(h:Jan D l t)(ht:t≠[])(hl:t.length<=6100):l≠[]/\l.length<=1000:=by
 have I:=Jio t;have y:=h.1;have H:=Jy1 ht;refine⟨fun e=>H (Od3.1 ?_),zo⟩;rw[<-y,e];rfl
theorem Jer.inuse {D T rs}(h:Jer D T rs):∀ i∈T.segs.flatten,∃ p,pg D i=some p:=by
 intro i hi;obtain⟨l,hl,H⟩:=List.mem_flatten.1 hi;obtain⟨t,_,_,⟨K,y⟩,_⟩:=h.seg l hl;obtain⟨k,I,rfl⟩:=Od5 H;exact⟨_,y k I zo⟩
theorem Jer.ok {D T rs}(h:Jer D T rs):Jid D T:=by
 refine⟨h.cols,h.rows,h.group,h.count,fun l hl=>?_,fun l hl t ht=>?_⟩
 ·obtain⟨t,H,I,y,_⟩:=h.seg l hl;exact Jx9 y H I
 obtain⟨t',H,I,y,K⟩:=h.seg l hl;rw[y.read]at ht;simp at ht;rw[<-ht];exact K
structure Jbc (D:DS) (L:List (TS×List (List V))):Prop where
 tab:∀ x∈L,Jer D x.1 x.2
 nodup:(L.flatMap fun x=>x.1.segs.flatten).Nodup
 all:∀ i p,pg D i=some p->i∈L.flatMap fun x=>x.1.segs.flatten
 used:Js D.pages=(L.flatMap fun x=>x.1.segs.flatten).length
 writes:0<=D.writes
theorem Jbc.empty q f:Jbc (Ku q f) []:=
 ⟨zS,zS,fun i p h=>by simp[pg,Ku]at h,by simp[Ku,Js],by simp[Ku]⟩
theorem Jbc.same {D E L}(h:Jbc D L)(hs:Kft D E)(y:0<=E.writes):Jbc E L:=
 ⟨fun x H=>(h.tab x H).keep fun i _=>hs.pages i,h.nodup,fun i p hp=>h.all i p (by rw[<-hs.pages];exact hp),hs.used.trans h.used,y⟩
theorem Kg4 n g(H:1<=g):ckN n g<=n:=by
 unfold ckN;exact Nat.le_of_lt_succ ((Nat.div_lt_iff_lt_mul zo).2 (by
  have:n+1<=(n+1)*g:=On4 _ zo;rw[Of5]at this |-;have y:n<=n*g:=On4 _ zo;omega))
theorem Jtr {name ts hs rs}{g:Int}{T}(I:Jel name ts rs/\Je3 ts hs/\1<=g/\g<=64)(hp:Jfg rs ts hs (cks rs.length g.toNat (ckN rs.length g.toNat))=.inl T):
  T.length=ckN rs.length g.toNat*ts.length/\(∀ t∈T,t.length<=6100/\t≠[])/\Jch T<=660*rs.length/\(T=[]↔rs=[]):=by
 obtain⟨y,H⟩:=Jte rs ts hs _ T hp;rw[Jbp]at y;have O:=Joc T fun t ht=>(H t ht).1;have K:=Kg4 rs.length g.toNat zo;have M:ts.length<=6:=I.1.2.1.1.2;have Y:1<=ts.length:=I.1.2.1.1.1;have U:ckN rs.length g.toNat*ts.length<=rs.length*6:=Ol5 K M;refine⟨y,H,zo,⟨fun e=>?_,fun e=>?_⟩⟩
 ·subst e;have h0:ckN rs.length g.toNat=0:=by
   rcases Nat.mul_eq_zero.1 y.symm with h|h
   ·exact h
   omega
  have:=Jxu rs.length g.toNat zo;simp only[Jaa,h0]at this;exact Od3.1 zo
 subst e;have h0:ckN ([]:List (List V)).length g.toNat=0:=by unfold ckN;exact Op6 zt
 rw[h0]at y;exact Od3.1 zo
theorem Kjy {D E L Ts name ts hs rs g T}(hW:∀ x∈hs,Kjk x/\Kkn x)(H:Jbc D L)(bA:∀ r∈rs,∀ v∈r,Jg v.n)(bM:D.writes<=100000000000000000)(h:Jbd D Ts name ts hs rs g=.ok E T):
  Jbc E (L++[(T,rs)])/\T.name=name/\Js E.pages=Js D.pages+T.segs.flatten.length/\(T.segs.flatten=[]↔rs=[])/\E.quota=D.quota/\E.fail=D.fail/\E.pages.length<=D.pages.length+660*rs.length/\E.writes<=D.writes+660*rs.length/\(((Js D.pages:Nat):Int)<=D.quota->((Js E.pages:Nat):Int)<=D.quota)/\D.writes<=E.writes/\(Ub Ts name=Ts.length):=by
 unfold Jbd at h;split at h
 ·rename_i I
  split at h
  ·simp at h
  rename_i bL
  split at h
  ·simp at h
  rename_i X M
  split at h
  ·simp at h
  rename_i Y
  simp only[Sum.inr.injEq,Oj3]at h;obtain⟨rfl,rfl⟩:=h;obtain⟨bG,U,bO,bf⟩:=Jtr I M;have hl:=Jjv X D Y;have hq:=Jh1 X D;have bK:=Jhk X D;have bC:rs.length<=200:=I.1.2.2.1;have bE:=Jd9 X D H.writes zo;generalize bI:(Jq D X).1=E at *;generalize hR:(Jq D X).2.1=R at *;have bJ:=Kdk Ts name;have bN:=H.writes;refine⟨⟨?_,?_,?_,?_,zo⟩,rfl,hl.used,⟨fun e=>?_,fun e=>?_⟩,hl.quota,hl.fail,zo,zo,fun hh=>hq hh Y,bE.1.1,zo⟩
  ·intro x y;rcases Od2.1 y with y|y
   ·refine(H.tab x y).keep fun i hi=>hl.other i fun K=>?_;obtain⟨p,hp⟩:=(H.tab x y).inuse i hi;rw[hl.free i K]at hp;simp at hp
   simp at y;subst y;refine⟨⟨I.1.2.1.1.1,I.1.2.1.1.2⟩,bC,⟨by show 1<=g.toNat;omega,by show g.toNat<=64;omega⟩,by show R.length=_;rw[hl.len,bG],X,hl.len.symm,fun t ht=>⟨(U t ht).2,(U t ht).1,Kkg I.1 I.2.1.1 (fun x y=>(hW x y).1) M t ht⟩,fun i bi bH=>hl.segs i bi,fun bh bj=>Jqv bh name ts hs rs g.toNat X R I.1 zo bA (fun x y=>(hW x y).2) I.2.1.1 M hl.len bj⟩
  ·rw[Oe8];refine Op3.2 ⟨H.nodup,by simpa using hl.nodup,fun a bk b hb e=>?_⟩;subst e;simp at hb;obtain⟨x,y,bx⟩:=Op5.1 bk;obtain⟨p,hp⟩:=(H.tab x y).inuse a bx;have bz:a∈R.flatten:=by
    obtain⟨l,bB,br⟩:=hb;exact List.mem_flatten.2 ⟨l,bB,br⟩
   rw[hl.free a bz]at hp;simp at hp
  ·intro i p hp;rw[Oe8];by_cases K:i∈R.flatten
   ·exact Od2.2 (.inr (by simpa using K))
   rw[hl.other i K]at hp;exact Od2.2 (.inl (H.all i p hp))
  ·rw[hl.used,H.used,Oe8,Oa8];simp
  ·have O:X=[]:=by
    rcases X with _|⟨t,X⟩
    ·rfl
    ·exfalso;rcases R with _|⟨l,R⟩
     ·have:=hl.len;simp at this
     have bD:=hl.segs 0 zS;have Z:=U t zS;have:=(Jx9 bD Z.2 Z.1).1;simp at e;exact this (by simpa using e.1)
   exact bf.1 O
  have O:=bf.2 e;have hlen:=hl.len;rw[O]at hlen;have:R=[]:=Od3.1 (by simpa using hlen);show R.flatten=[];rw[this];rfl
 simp at h
theorem Kge {D E L Ts name ts hs rs g T}(y:Jbc D L)(H:∀ r∈rs,∀ v∈r,Jg v.n)(I:D.writes<=100000000000000000)(h:Jbd D Ts name ts hs rs g=.ok E T):
  Jbc E (L++[(T,rs)])/\T.name=name/\Js E.pages=Js D.pages+T.segs.flatten.length/\(T.segs.flatten=[]↔rs=[])/\E.quota=D.quota/\E.fail=D.fail/\E.pages.length<=D.pages.length+660*rs.length/\E.writes<=D.writes+660*rs.length/\(((Js D.pages:Nat):Int)<=D.quota->((Js E.pages:Nat):Int)<=D.quota)/\D.writes<=E.writes/\(Ub Ts name=Ts.length):=
 Kjy (fun x _=>⟨Kjm x,Kjx x⟩) y H I h
theorem Jz8 {D E L Ts name ts hs rs g x}(H:Jbc D L)(bk:D.writes<=100000000000000000)(h:Jbd D Ts name ts hs rs g=.disk x E):
  Jbc E L/\Kft D E/\rs≠[]/\(x=true->D.quota<=((Js D.pages+660*rs.length:Nat):Int))/\(x=false->E.writes=D.fail/\D.writes<E.writes)/\E.pages.length<=D.pages.length+660*rs.length/\E.writes<=D.writes+660*rs.length/\D.writes<=E.writes:=by
 unfold Jbd at h;split at h
 ·rename_i K
  split at h
  ·simp at h
  split at h
  ·simp at h
  rename_i X Z
  split at h
  ·rename_i bh M
   simp only[Sum.inr.injEq,Sum.inl.injEq,Oj3]at h;obtain⟨rfl,rfl⟩:=h;obtain⟨bx,bz,bA,bf⟩:=Jtr K Z;obtain⟨I,U,Y⟩:=Jj4 X D bh M;have bj:rs.length<=200:=K.1.2.2.1;have O:=Jd9 X D H.writes zo;have y:=(Jdn (Jq D X).2.1 (Jq D X).1).2.2;have bi:=Jhk X D;have br:=H.writes;refine⟨H.same I (by rw[y];omega),I,fun e=>U (bf.2 e),fun e=>?_,fun e=>?_,by rw[Jt4];omega,by rw[y];omega,by rw[y];exact O.1.1⟩
   ·have:=Y e;omega
   subst e;rw[y];exact O.2.1 M
  simp at h
 simp at h
theorem Jla rows ts hs c:∀ (k:Nat),Jeo rows ts hs k=.inr c->c<k/\(Uo rows ts hs c).2≠0
 |0,h=>by simp[Jeo]at h
 |k+1,h=>by
  simp only[Jeo]at h;split at h
  ·rename_i y H
   simp at h;subst h;have:=Jla rows ts hs y k H;exact⟨zo,this.2⟩
  split at h
  ·simp at h
  rename_i h0
  simp at h;subst h;exact⟨zo,h0⟩
theorem Ju4 rs ts hs c:∀ (xs:List (Nat×Nat)),Jfg rs ts hs xs=.inr c->∃ x∈xs,c<ts.length/\(Uo (Uk rs x) ts hs c).2≠0:=by
 intro xs;have key:∀ (xs:List (Nat×Nat)) (T:List (List UInt8)),xs.foldl (Jiu rs ts hs) (.inl T)=.inr c->∃ x∈xs,c<ts.length/\(Uo (Uk rs x) ts hs c).2≠0:=by
  intro xs;induction xs with
  |nil=>intro T h;simp at h
  |cons x xs I=>
   intro T h;rw[List.foldl_cons]at h;simp only[Jiu]at h;split at h
   ·obtain⟨K,hy,M⟩:=I _ h;exact⟨K,by simp[hy],M⟩
   rename_i H O
   have hb:∀ y:List (Nat×Nat),y.foldl (Jiu rs ts hs) (.inr H)=.inr H:=by
    intro y;induction y with
    |nil=>rfl
    |cons K y I=>exact I
   rw[hb]at h;simp at h;subst h;exact⟨x,zS,Jla _ ts hs H _ O⟩
 exact key xs []
theorem Jy3 {D Ts name ts hs rs g c}(h:Jbd D Ts name ts hs rs g=.dict c):c<hs.length/\hs.getD c 0=1/\16<rs.length:=by
 unfold Jbd at h;split at h
 ·rename_i K
  split at h
  ·simp at h
  split at h
  ·rename_i y Y
   simp only[Sum.inr.injEq,Sum.inl.injEq]at h;subst h;obtain⟨x,bh,U,H⟩:=Ju4 rs ts hs y _ Y;obtain⟨j,O,rfl⟩:=Of0.1 bh;rw[Oj4]at O;obtain⟨bi,bj,_⟩:=Jjr rs.length g.toNat j zo O;have bf:=K.2.1.1;refine⟨zo,?_⟩;have I:=Jqm K.1 (rows:=Uk rs (Jaa rs.length g.toNat j)) (hs:=hs) (fun r hr=>Oh7 (Om9 hr)) (by simp only[Uk,Oc7,Of7,Jaa];omega) y U bf K.2.1.2;have bk:(Jaj (Uk rs (Jaa rs.length g.toNat j)) y).length<=rs.length:=by simp[Jaj,Uk];omega
   unfold Uo Jev at H I;split at H
   ·rename_i M
    rw[if_pos M]at I;split at H
    ·rename_i Z
     have u1:=Jk0 (Jz (Jaj (Uk rs (Jaa rs.length g.toNat j)) y)) [];have u2:=Zy (Jaj (Uk rs (Jaa rs.length g.toNat j)) y);simp only[List.length_nil,Od0]at u1;exact⟨Z.1,zo⟩
    exact absurd rfl H
   rename_i M
   rw[if_neg M]at I;simp at I
  split at h<;>simp at h
 simp at h
end
section
open Go.RowKit Go.Shelf Tryz
theorem Jen w:Cq 7 #[] w fun e w'=>e=.returned (.agg #[Iq 1048576,iZ])/\Bq w w':=by
 go_enter func7,ntmps7
 go_wp2;exact bodyPost_ret (v:=.agg #[Iq 1048576,iZ]) (by simp[results,results7,go_sem]) rfl ⟨rfl,(Oa5 _ w).alloc (Oa2 _) _⟩
structure Uw (w:World) (name:ByteArray) (at_ ar:Option Addr) (cr:Nat) (ts:List Int) (xs:List (Option Addr×Nat)) (rs:List (List V)):Prop where
 tab:Jel name ts rs
 tok:∀ t∈ts,tOk t
 vals:∀ r∈rs,∀ v∈r,Jg v.n
 types:Kc w at_ ts
 rows:Zd w ar xs rs
 cap:rs.length<=cr
theorem Uw.below {w w' name at_ ar cr ts xs rs}(h:Uw w name at_ ar cr ts xs rs)(hb:Bq w w'):Uw w' name at_ ar cr ts xs rs:=
 ⟨h.tab,h.tok,h.vals,h.types.below hb,h.rows.below hb,h.cap⟩
theorem Uw.arg {w name at_ ar cr ts xs rs}(h:Uw w name at_ ar cr ts xs rs){y hs}(hh:Kc w y hs)(hl:hs.length<=6):Kct w name at_ ar y cr ts hs xs rs:=by
 have H:=h.tab.1.2;have I:=h.tab.2.1.1.2;have K:=h.tab.2.2.1;refine⟨by unfold maxLen;omega,by unfold maxLen;omega,by unfold maxLen;omega,fun r hr=>?_,by unfold maxLen;omega,h.cap,h.types,hh,h.rows⟩;obtain⟨i,hi,rfl⟩:=Od5 hr;have:=(h.tab.2.2.2 i hi).1;unfold maxLen;omega
theorem Kck {D L Ts name ts hs rs g}(H:Jbc D L)(y:Jel name ts rs)(K:Je3 ts hs)(I:1<=g/\g<=64)(Z:Ub Ts name=Ts.length)(Y:Ts.length<6)(hq:D.quota=1048576)(U:D.fail=0)(bh:Js D.pages<=200000)(bi:D.writes<=1000000000):
  (∃ c,Jbd D Ts name ts hs rs g=.dict c)\/∃ E T,Jbd D Ts name ts hs rs g=.ok E T:=by
 have bf:rs.length<=200:=y.2.2.1;rcases hr:Jbd D Ts name ts hs rs g with _|_|c|⟨x,E⟩|⟨E,T⟩
 ·unfold Jbd at hr;rw[if_pos ⟨y,K,I⟩]at hr;split at hr
  ·simp at hr
  split at hr
  ·simp at hr
  split at hr<;>simp at hr
 ·unfold Jbd at hr;rw[if_pos ⟨y,K,I⟩,if_neg zo]at hr;split at hr
  ·simp at hr
  split at hr<;>simp at hr
 ·exact .inl ⟨c,rfl⟩
 ·exfalso;obtain⟨_,_,_,M,O,_⟩:=Jz8 H zo hr;have:=H.writes;cases x with
  |true=>have:=M rfl;omega
  |false=>have:=O rfl;omega
 exact .inr ⟨E,T,rfl⟩
theorem Jvv {ts hs}(h:Jfz ts [] hs ts.length):Je3 ts hs/\∀ c,hs.getD c 0=0:=by
 refine⟨⟨h.len,h.ok⟩,fun c=>?_⟩;by_cases y:c<hs.length
 ·have:=h.plain c y zS;simpa [y] using this
 simp[List.getD_eq_getElem?_getD,List.getElem?_eq_none (Nat.le_of_not_lt y)]
theorem Jtl {D E Ts name ts hs rs g T}(h:Jbd D Ts name ts hs rs g=.ok E T):T.types=ts:=by
 unfold Jbd at h;split at h
 ·split at h
  ·simp at h
  split at h
  ·simp at h
  split at h
  ·simp at h
  cases h
  rfl
 simp at h
def Kj (H:Nat->Prop)(w:World)(st:Nat)(D:DS)(L:List (TS×List (List V)))(name:ByteArray)(ts:List Int)(rs:List (List V))(P:DS->TS->Prop)(w':World):Prop:=
 ∃ (y:Nat->Prop) (E:DS) (T:TS),Sto y w' st E ((L++[(T,rs)]).map Prod.fst)/\Jbc E (L++[(T,rs)])/\(T.name=name/\T.types=ts)/\E.quota=D.quota/\E.fail=D.fail/\E.pages.length<=D.pages.length+660*rs.length/\E.writes<=D.writes+660*rs.length/\Js E.pages=Js D.pages+T.segs.flatten.length/\(T.segs.flatten=[]↔rs=[])/\(∀ k,H k->y k)/\(∀ k,y k->H k\/w.heap.size<=k)/\P E T
theorem Jxk y st D L name at_ ar I ct cr ch ts hs xs rs g w(bE:Sto y w st D (L.map Prod.fst))(bD:Jbc D L)(hR:Uw w name at_ ar cr ts xs rs)(hh:Kc w I hs)(hI:Jfz ts [] hs ts.length)(P:DS->TS->Prop)(bL:∃ E T,Jbd D (L.map Prod.fst) name ts hs rs g=.ok E T/\P E T)(hp:D.pages.length<=200000)(bO:D.writes<=1000000000)(bz:∀ b o,at_=some (Ar b o)->¬ y b)a0 a1 a2 U q wr pg pl ex ta w0(bB:Jax w0 a0 a1 a2 U q wr pg pl ex ta)(bG:Bq w0 w)(bA:∀ k,y k->w0.heap.size<=k):
  Cq 8 #[Pq st,Jvc name at_ ar ct cr ts rs,.slice I hs.length ch,Iq g] w fun e w'=>e=.returned (Jb6 0)/\Ju y w w'/\Kj y w st D L name ts rs P w':=by
 obtain⟨bM,bN⟩:=Jvv hI;have O:∀ x∈hs,x=0:=fun x H=>by
  obtain⟨i,hi,rfl⟩:=Od5 H;have:=bN i;simpa [hi] using this
 have bI:hs.length<=6:=by rw[bM.1];exact hR.tab.2.1.1.2
 obtain⟨E,T,hr,bC⟩:=bL;refine(Jyt y st D (L.map Prod.fst) name at_ ar I ct cr ch ts hs xs rs g w bE (hR.arg hh bI) bz zo a0 a1 a2 U q wr pg pl ex ta w0 bB bG bA (fun x H=>by rw[O x H];exact Kvv) ⟨E,T,hr⟩).mono fun e w' ⟨K,bH,Y,M,bJ,bK⟩=>?_;rw[hr]at K M;obtain⟨Z,bf,bh,bi,bj,bk,br,bx,_⟩:=Kjy (fun x H=>by rw[O x H];exact⟨Ki5,Kj4⟩) bD hR.vals zo hr;exact⟨K,bH,Y,E,T,by simpa [Ja0.ts,Ja0.d] using M,Z,⟨bf,Jtl hr⟩,bj,bk,br,bx,bh,bi,bJ,bK,bC⟩
theorem Jfn {I w K y O st D L name ts rs}{P:DS->TS->Prop}{fa}(h:Kj I K st D L name ts rs P y)(bE:w.heap.size<=K.heap.size)(hs:y.heap.size<=O.heap.size)(bB:∀ k,k<y.heap.size->k≠fa->O.heap[k]?=y.heap[k]?)(bC:¬ I fa)(bD:fa<K.heap.size\/y.heap.size<=fa):Kj I w st D L name ts rs P O:=by
 obtain⟨Y,E,T,M,bh,bi,bj,bk,br,bx,bz,bA,Z,U,bf⟩:=h;refine⟨Y,E,T,M.stands hs fun k H=>bB k (M.lt k H) fun e=>?_,bh,bi,bj,bk,br,bx,bz,bA,Z,fun k H=>(U k H).imp_right fun a=>zo,bf⟩;subst e;have:=M.lt k H;rcases U k H with a|a
 ·exact bC a
 omega
theorem Ks2 {P y H Q S fuel n I a w}(T:Act->Array Bool->Act->World->Prop)(ht:∀ l a' X,T a l a' X->wpAnyH P y H Q S n l a' X)(h:(∀ l a' X,T a l a' X->wpAnyH P y H Q S n l a' X)->wpAnyH P y H Q S fuel I a w):wpAnyH P y H Q S fuel I a w:=h ht
structure Qct (w:World) (fa:Nat) (G:World->Prop) (X:World):Prop where
 z:X.heap[fa]?=some (.cells #[iZ,iZ,iZ,iZ,iZ] 39 (0,0))
 low:Bq w X
 new:w.heap.size<=fa
 fin:∀ wx,X.heap.size<=wx.heap.size->(∀ k,k<X.heap.size->k≠fa->wx.heap[k]?=X.heap[k]?)->G wx
theorem Qct.store {w fa G X}(h:Qct w fa G X)a b c d e:(((((X.setCell (Aq fa) (Iq a)).setCell (Ar fa 1) (Iq b)).setCell (Ar fa 2) (Iq c)).setCell (Ar fa 3) (Iq d)).setCell (Ar fa 4) (Iq e)).heap[fa]?=some (.cells #[Iq a,Iq b,Iq c,Iq d,Iq e] 39 (0,0))/\Bq w (((((X.setCell (Aq fa) (Iq a)).setCell (Ar fa 1) (Iq b)).setCell (Ar fa 2) (Iq c)).setCell (Ar fa 3) (Iq d)).setCell (Ar fa 4) (Iq e))/\G (((((X.setCell (Aq fa) (Iq a)).setCell (Ar fa 1) (Iq b)).setCell (Ar fa 2) (Iq c)).setCell (Ar fa 3) (Iq d)).setCell (Ar fa 4) (Iq e)):=by
 have y:=Jk (Jk (Jk (Jk (Jk h.z 0 (Iq a)) 1 (Iq b)) 2 (Iq c)) 3 (Iq d)) 4 (Iq e);simp only[Oa1,List.set_cons_zero,List.set_cons_succ]at y;exact⟨y,Um h.low h.new _ _ _ _ _,h.fin _ (by rw[Jg2];exact Oa2 _) fun k _ H=>Zh _ _ _ _ _ _ _ k H⟩
structure TbX where
 name:ByteArray
 at_:Option Addr
 ct:Nat
 ar:Option Addr
 cr:Nat
 ts:List Int
 xs:List (Option Addr×Nat)
 rs:List (List V)
def Kyc (w:World)(b:Nat)(L:List TbX):Prop:=∀ (i:Nat) (t:TbX),L[i]?=some t->w.cell? (Ar b (i*3))=some (.string t.name)/\w.cell? (Ar b (i*3+1))=some (.slice t.at_ t.ts.length t.ct)/\w.cell? (Ar b (i*3+2))=some (.slice t.ar t.rs.length t.cr)
def Ksf (L:List TbX)(i:Nat):Nat:=((L.take i).map fun t=>t.rs.length).sum
theorem Kxa {L i t}(h:L[i]?=some t):Ksf L (i+1)=Ksf L i+t.rs.length:=by
 unfold Ksf;rw[Oi7,h];simp
theorem Qah L i:Ksf L i<=Ksf L L.length:=by
 have h:Ksf L L.length=Ksf L i+((L.drop i).map fun t=>t.rs.length).sum:=by
  unfold Ksf;rw[Of2,<-List.sum_append,<-Ob8,Ok3]
 omega
def Ks5 (Φ:Nat->DS->List (TS×List (List V))->Prop)(w:World)(st:Nat)(L:List TbX)(i:Nat)(H:World):Prop:=∃ (y:Nat->Prop) (D:DS) (S:List (TS×List (List V))),Sto y H st D (S.map Prod.fst)/\Jbc D S/\S.length=i/\(∀ (j:Nat) t s,L[j]?=some t->S[j]?=some s->s.1.name=t.name/\s.1.types=t.ts/\s.2=t.rs)/\Φ i D S/\D.pages.length<=660*Ksf L i/\D.writes<=660*Ksf L i/\(∀ k,y k->w.heap.size<=k)
abbrev Kzf (w:World)(st:Nat)(L:List TbX)(i:Nat)(y:World):Prop:=Ks5 (fun _ D _=>D.quota=1048576/\D.fail=0) w st L i y
theorem Ks5.below {Φ w st L i y H}(h:Ks5 Φ w st L i y)(hb:Bq y H):Ks5 Φ w st L i H:=by
 obtain⟨I,D,S,K,M⟩:=h;exact⟨I,D,S,K.below hb,M⟩
theorem Ks5.next {Φ:Nat->DS->List (TS×List (List V))->Prop}{H:Nat->Prop}{w w'}{st:Nat}{L:List TbX}{i:Nat}{t:TbX}{D:DS}{S:List (TS×List (List V))}(ht:L[i]?=some t)(hl:S.length=i)(bj:∀ (j:Nat) t s,L[j]?=some t->S[j]?=some s->s.1.name=t.name/\s.1.types=t.ts/\s.2=t.rs)(hp:D.pages.length<=660*Ksf L i)(bA:D.writes<=660*Ksf L i)(hM:∀ k,H k->w.heap.size<=k)(h:Kj H w st D S t.name t.ts t.rs (fun E T=>Φ (i+1) E (S++[(T,t.rs)])) w'):Ks5 Φ w st L (i+1) w':=by
 obtain⟨I,E,T,K,O,⟨U,Y⟩,bk,br,bx,bz,_,_,_,M,Z⟩:=h;have hr:=Kxa ht;refine⟨I,E,S++[(T,t.rs)],K,O,by rw[Oa8,hl];rfl,fun j u s y hs=>?_,Z,by rw[hr];omega,by rw[hr];omega,fun k bi=>(M k bi).elim (hM k) id⟩;by_cases bf:j<S.length
 ·rw[Ob0 bf]at hs;exact bj j u s y hs
 have bh:j=i:=by
  have:=(Ob9.1 hs).1;rw[Oa8]at this;have:j<S.length+1:=this;omega
 subst bh;rw[ht]at y;cases y
 rw[Ob6 zo,hl,Oe1]at hs;cases hs
 exact⟨U,Y,rfl⟩
theorem Qc0 Φ bZ bJ b cap L w(hR:∀ t∈L,Uw w t.name t.at_ t.ar t.cr t.ts t.xs t.rs)(bK:Kyc w b L)(dS:b<w.heap.size)(cj:(L.map TbX.name).Nodup)(cU:L.length<=6)(da:Ksf L L.length<=300)(hΦ0:Φ 0 (Ku bZ bJ) [])(hΦ:∀ i t D S hs,L[i]?=some t->Φ i D S->Jbc D S->S.length=i->Ub (S.map Prod.fst) t.name=S.length->D.pages.length<=200000->D.writes<=1000000000->Jfz t.ts [] hs t.ts.length->∃ E T,Jbd D (S.map Prod.fst) t.name t.ts hs t.rs 64=.ok E T/\Φ (i+1) E (S++[(T,t.rs)]))a0 a1 a2 dd q de pg pl ex ta(cM:Jax w a0 a1 a2 dd q de pg pl ex ta):
  Cq 6 #[.agg #[Iq bZ,Iq bJ],Sq b L.length cap] w fun e w'=>Bq w w'/\∃ st,e=.returned (Pq st)/\Ks5 Φ w st L L.length w':=by
 have cQ:Bq w (w.alloc (.cells #[Iq bZ,Iq bJ] 34)):=(Oa5 _ w).alloc (Oa2 _) _;have cX:=Kfq bZ bJ (w.alloc (.cells #[Iq bZ,Iq bJ] 34));have bS:Hid ((∀ t∈L,Uw w t.name t.at_ t.ar t.cr t.ts t.xs t.rs)/\Kyc w b L/\(L.map TbX.name).Nodup/\L.length<=6/\Ksf L L.length<=300):=⟨hR,bK,cj,cU,da⟩;have HΦ:Hid _:=hΦ;have dh:=zh cM;clear hR bK cj cU da cM hΦ;go_enter func6,ntmps6
 go_upto_region 3 with(first|(go_at_call 23;refine cX.mono ?_;rintro e cx ⟨cR,st,O,rfl,bX,hM⟩))
 have cL:Ks5 Φ w st L 0 cx:=⟨O,_,[],bX,Jbc.empty _ _,rfl,fun j t s _ hs=>by simp at hs,hΦ0,by simp[Ku],by simp[Ku,Ksf],fun k bz=>by have:=hM k bz;simp at this;omega⟩;have cu:Hid (Bq w cx/\Ks5 Φ w st L 0 cx):=⟨Jb cQ cR,cL⟩;obtain⟨dL,dj⟩:∃ p:Addr,Hid (p=⟨st,0,none⟩):=⟨_,rfl⟩;clear bX hM cX cL cR cQ dj dL;go_loopw [6] (fun i wr=>∃ j:Nat,j<=L.length/\i=Iq (j:Int)/\Bq w wr/\Ks5 Φ w st L j wr) (fun i _=>L.length-(intOf i).toNat)
 case atStart=>exact⟨0,Ob7 _,rfl,cu.out⟩
 case round=>
  obtain⟨j,dT,rfl,bj,hI⟩:=hrel;by_cases bN:j<L.length
  ·obtain⟨O,D,S,bX,cE,cF,cG,cY,hp,dc,hM⟩:=hI;obtain⟨t,ht⟩:∃ t,L[j]?=some t:=⟨_,Oa3 bN⟩;have bG:Hid (Uw w t.name t.at_ t.ar t.cr t.ts t.xs t.rs):=bS.out.1 t (Of6 ht);obtain⟨c0,c1,c2⟩:=bS.out.2.1 j t ht;have cI:Hid (j<L.length/\L[j]?=some t):=⟨bN,ht⟩;have cK:Hid (wrap64 ((j:Int)+1)=((j+1:Nat):Int)):=by show _=_;have:=bS.out.2.2.2.1;unfold wrap64;omega
   have dE:=Qah L j;have dD:=bS.out.2.2.2.2;have cV:Ub (S.map Prod.fst) t.name=S.length:=by
    have:=Jvr (S.map Prod.fst) t.name (fun i hi e=>by
     rw[Oa6]at hi;have cD:i<L.length:=zo;have dm:=(cG i _ _ (Oa3 cD) (Oa3 hi)).1;rw[Od9]at e;have cj:=bS.out.2.2.1;have dp:(L.map TbX.name)[i]'(by rw[Oa6];exact cD)=(L.map TbX.name)[j]'(by rw[Oa6];exact bN):=by
      rw[Od9,Od9,<-dm,e];rw[Oa3 bN]at ht;rw[Oj6 ht]
     exact(List.pairwise_iff_getElem.1 cj) i j (by rw[Oa6];exact cD) (by rw[Oa6];exact bN) zo dp)
    rwa [Oa6]at this
   have bT:Hid (Jbc D S/\(∀ hs,Jfz t.ts [] hs t.ts.length->∃ E T,Jbd D (S.map Prod.fst) t.name t.ts hs t.rs 64=.ok E T/\Φ (j+1) E (S++[(T,t.rs)]))/\D.pages.length<=200000/\D.writes<=1000000000):=⟨cE,fun hs hh=>HΦ.out j t D S hs ht cY cE cF cV zo zo hh,zo,zo⟩;have cJ:Hid (∀ w',Kj O w st D S t.name t.ts t.rs (fun E T=>Φ (j+1) E (S++[(T,t.rs)])) w'->Ks5 Φ w st L (j+1) w'):=fun w' h=>Ks5.next ht cF cG hp dc hM h;have cb:=zh bX;have bO:=zh hM;have cy:=Ja bj c0;have cz:=Ja bj c1;have cA:=Ja bj c2;obtain⟨name,at_,ct,ar,cr,ts,xs,rs⟩:=t;simp only at bG bT cJ cy cz cA;have j1:(0:Int)<=(j:Int):=zo;have j2:(j:Int)<(L.length:Int):=zo;clear ht bN bX cE cF cG cY hp dc hM cV dE dD c0 c1 c2 cu;have cn:Hid (∀ X,Bq wr X->Cq 9 #[.agg #[.string name,.slice at_ ts.length ct,.slice ar rs.length cr],Sz] X fun e bP=>Bq X bP/\∃ (U:Option Addr) (ch:Nat) (hs:List Int),e=.returned (.slice U hs.length ch)/\Kc bP U hs/\Jfz ts [] hs ts.length):=fun X bV=>by
    have:=Jzt (.string name) (.slice ar rs.length cr) at_ none ct 0 ts [] X bG.out.tab.2.1.1.2 bG.out.tok zS (bG.out.types.below (Jb bj bV)) (.inl rfl);refine this.mono fun e bP ⟨hs,sv,dy,ho,hI,br⟩=>?_;obtain⟨a,c,db,dx⟩:=ho.cells;rw[Oa6]at db;subst db;exact⟨br,a,c,hs,dy,dx,hI⟩
   have ca:Hid (∀ X U ch hs,Bq wr X->Kc X U hs->Jfz ts [] hs ts.length->Cq 8 #[Pq st,.agg #[.string name,.slice at_ ts.length ct,.slice ar rs.length cr],.slice U hs.length ch,Iq 64] X fun e bP=>e=.returned (Jb6 0)/\Ju O X bP/\Kj O X st D S name ts rs (fun E T=>Φ (j+1) E (S++[(T,rs)])) bP):=fun X U ch hs bV hI bD=>
    Jxk O st D S name at_ ar U ct cr ch ts hs xs rs 64 X (cb.out.below bV) bT.out.1 (bG.out.below (Jb bj bV)) hI bD _ (bT.out.2.1 hs bD) bT.out.2.2.1 bT.out.2.2.2 (fun dl o dw bh=>by
     have cc:=bO.out dl bh;rcases bG.out.types with h0|⟨b2,dU,cS,bN,_⟩
     ·have:=bG.out.tab.2.1.1.1;simp at h0;rw[h0]at this;simp at this
     rw[dw]at cS;simp at cS;try omega) a0 a1 a2 dd q de pg pl ex ta w dh.out (Jb bj bV) bO.out
   go_upto_region 5 with fail
   go_cut [7] from 20 to 30 (fun f bQ=>∃ fa:Nat,f=Pq fa/\bQ.heap[fa]?=some (.cells #[iZ,iM,iM,iM,iM] 39 (0,0))/\Bq w bQ/\Kj O w st D S name ts rs (fun E T=>Φ (j+1) E (S++[(T,rs)])) bQ)
   case first=>
    have bC:¬ O b:=fun bh=>by have cc:=bO.out b bh;omega
    refine wp_region_held_drew (S:=fun X=>X.cell? (Ar b (j*3))=some (.string name)/\X.cell? (Ar b (j*3+1))=some (.slice at_ ts.length ct)/\X.cell? (Ar b (j*3+2))=some (.slice ar rs.length cr)) zK ⟨cy,cz,cA⟩ (fun y=>?_);refine tkj 0 rfl y ?_;refine tkj 1 rfl y ?_;refine tkj 2 rfl y ?_;refine tkj 3 rfl y ?_;refine tkj 4 rfl y ?_;refine tkj 5 rfl y ?_;refine tkj 6 rfl y ?_;refine tkj 7 rfl y ?_;refine tkj 8 rfl y ?_;refine tkn ?_;have cf:Bq wr wr.drew:=⟨rfl,rfl,rfl,Oa2 _,fun _ _=>rfl⟩;refine Ks2 (n:=1) (fun a l a' X=>l=#[true,true,true,true,true,true,true,true,true,true,true,true,false]/\∃ fa hv,a'=((a.put (some 7) (Pq fa)).put (some 29) hv).put (some 30) (Jb6 0)/\Qct w fa (Kj O w st D S name ts rs (fun E T=>Φ (j+1) E (S++[(T,rs)]))) X/\X.cell? (Ar b (j*3))=some (.string name)/\X.cell? (Ar b (j*3+1))=some (.slice at_ ts.length ct)/\X.cell? (Ar b (j*3+2))=some (.slice ar rs.length cr)) ?tail (fun cv=>?go)
    case tail=>
     rintro l a' X ⟨rfl,fa,hv,rfl,bK,cN,cO,cP⟩;simp only[Act.put,Oa1,List.set_cons_zero,List.set_cons_succ];have Z:=bK.z;have dG:=zc 0 Z;have dH:=zc 1 Z;have dI:=zc 2 Z;have dJ:=zc 3 Z;have dK:=zc 4 Z;have bJ:=Lib.frozen_of_heap Z 0;have dq:=Lib.frozen_of_heap Z 1;have dr:=Lib.frozen_of_heap Z 2;have ds:=Lib.frozen_of_heap Z 3;have dt:=Lib.frozen_of_heap Z 4;have di:Hid _:=bK.store 0 (-1) (-1) (-1) (-1);have dC:b≠fa:=by have:=bK.new;omega
     have ci:∀ o u,X.cell? (Ar b o)=some u->(((((X.setCell (Aq fa) iZ).setCell (Ar fa 1) iM).setCell (Ar fa 2) iM).setCell (Ar fa 3) iM).setCell (Ar fa 4) iM).cell? (Ar b o)=some u:=fun o u h=>by rw[<-h];simp only[World.cell?,Zh _ _ _ _ _ _ _ b dC]
     have dg:Hid _:=And.intro (ci _ _ cN) (And.intro (ci _ _ cO) (ci _ _ cP));clear Z bK cN cO cP ci cn ca y;refine tkr 12 rfl fun M hK=>?_;go_simp;refine hK.out _ _ dg.out (fun _=>?_);clear hK M dG dH dI dJ dK bJ dq dr ds dt;refine wpAnyH_done zK ?_ _;go_wp2_with fail
     go_meet
     case rel=>exact⟨fa,rfl,di.out⟩
    case go=>
     refine wpAnyH_ready (rs:=[9,11]) zK zS (AllReadyH.cons rfl (fun M hK=>?_) (AllReadyH.cons rfl (fun M hK=>?_) AllReadyH.nil))
     ·go_simp;refine(cn.out wr.drew cf).mono ?_;rintro e I ⟨bA,U,ch,hs,rfl,bU,bD⟩;have bB:Bq wr I:=Jb cf bA;have bH:Hid (Kc I U hs/\Jfz ts [] hs ts.length):=⟨bU,bD⟩;clear bU bD;go_simp;refine hK.out _ _ ⟨Ja bA y.1,Ja bA y.2.1,Ja bA y.2.2⟩ (fun y=>?_);clear hK M;refine wpAnyH_ready (rs:=[10,11]) zK zS (AllReadyH.cons rfl (fun M hK=>?_) (AllReadyH.cons rfl (fun M hK=>?_) AllReadyH.nil))
      ·go_simp;refine(ca.out I U ch hs bB bH.out.1 bH.out.2).mono ?_;rintro e bf ⟨rfl,Y,bE⟩;have bi:Hid (Kj O I st D S name ts rs (fun E T=>Φ (j+1) E (S++[(T,rs)])) bf/\Ju O I bf):=⟨bE,Y⟩;clear bE;go_simp;refine hK.out _ _ ⟨Y.cell y.1 bC,Y.cell y.2.1 bC,Y.cell y.2.2 bC⟩ (fun y=>?_);clear hK M Y;refine tkr 11 rfl fun M hK=>?_;go_simp;have K:Bq bf (bf.alloc Ka):=(Oa5 _ bf).alloc (Oa2 _) Ka;refine hK.out _ _ ⟨Ja K y.1,Ja K y.2.1,Ja K y.2.2⟩ (fun y=>?_);clear hK M;have bk:=Jb bj bB;have br:=bk.trans (bi.out.2.below (fun k bz bh=>by have:=bO.out k bh;omega) bk.size);exact cv _ _ _ ⟨zK,bf.heap.size,.slice U hs.length ch,zK,⟨heap_alloc_new bf Ka,Jb br K,br.size,fun bQ Z bz=>Jfn (fa:=bf.heap.size) bi.out.1 bk.size (Ob2 K.size Z) (fun k cW dB=>(bz k (Oc2 cW K.size) dB).trans (K.block k cW)) (fun bh=>by have cc:=cb.out.lt _ bh;have du:=bB.size;have dv:=bi.out.2.size;omega) (.inr (Oa2 _))⟩,y⟩
      go_simp;have K:Bq I (I.alloc Ka):=(Oa5 _ I).alloc (Oa2 _) Ka;have bx:(I.alloc Ka).heap[I.heap.size]?=some (.cells #[iZ,iZ,iZ,iZ,iZ] 39 (0,0)):=heap_alloc_new I Ka;refine hK.out _ _ ⟨Ja K y.1,Ja K y.2.1,Ja K y.2.2⟩ (fun y=>?_);clear hK M;obtain⟨fa,bM⟩:∃ fa,fa=I.heap.size:=⟨_,rfl⟩;rw[<-bM]at bx |-;have bR:=zh bM;clear bM;generalize I.alloc Ka=bI at K bx y |-;have bW:Bq wr bI:=Jb bB K;refine tkr 10 rfl fun M hK=>?_;go_simp;refine(ca.out bI U ch hs bW (bH.out.1.below K) bH.out.2).mono ?_;rintro e bf ⟨rfl,Y,bE⟩;have bi:Hid (Kj O bI st D S name ts rs (fun E T=>Φ (j+1) E (S++[(T,rs)])) bf/\Ju O bI bf):=⟨bE,Y⟩;clear bE;go_simp;refine hK.out _ _ ⟨Y.cell y.1 bC,Y.cell y.2.1 bC,Y.cell y.2.2 bC⟩ (fun y=>?_);clear hK M Y;have bY:¬ O fa:=fun bh=>by have cc:=cb.out.lt _ bh;have du:=cf.size;have dv:=bB.size;have:=bR.out;omega
      have bk:=Jb bj bW;have br:=bk.trans (bi.out.2.below (fun k bz bh=>by have:=bO.out k bh;omega) bk.size);exact cv _ _ _ ⟨zK,fa,.slice U hs.length ch,zK,⟨(bi.out.2.block _ (Jd bx) bY).trans bx,br,by have:=bj.size;have:=bB.size;have:=bR.out;omega,fun bQ Z bz=>Jfn (fa:=fa) bi.out.1 bk.size Z bz bY (.inl (Jd bx))⟩,y⟩
     go_simp;have K:Below wr.drew.heap.size wr.drew ((wr.alloc Ka).drew):=(Oa5 _ wr.drew).alloc (Oa2 _) Ka;have bx:((wr.alloc Ka).drew).heap[wr.heap.size]?=some (.cells #[iZ,iZ,iZ,iZ,iZ] 39 (0,0)):=heap_alloc_new wr.drew Ka;refine hK.out _ _ ⟨Ja K y.1,Ja K y.2.1,Ja K y.2.2⟩ (fun y=>?_);clear hK M;obtain⟨fa,bM⟩:∃ fa,fa=wr.heap.size:=⟨_,rfl⟩;rw[<-bM]at bx |-;have bR:=zh bM;clear bM;generalize (wr.alloc Ka).drew=bI at K bx y |-;have bW:Bq wr bI:=Jb cf K;refine tkr 9 rfl fun M hK=>?_;go_simp;refine(cn.out bI bW).mono ?_;rintro e I ⟨bA,U,ch,hs,rfl,bU,bD⟩;have bB:Bq wr I:=Jb bW bA;have cC:=(bA.block _ (Jd bx)).trans bx;have bH:Hid (Kc I U hs/\Jfz ts [] hs ts.length):=⟨bU,bD⟩;clear bU bD;go_simp;refine hK.out _ _ ⟨Ja bA y.1,Ja bA y.2.1,Ja bA y.2.2⟩ (fun y=>?_);clear hK M;refine tkr 10 rfl fun M hK=>?_;go_simp;refine(ca.out I U ch hs bB bH.out.1 bH.out.2).mono ?_;rintro e bf ⟨rfl,Y,bE⟩;have bi:Hid (Kj O I st D S name ts rs (fun E T=>Φ (j+1) E (S++[(T,rs)])) bf/\Ju O I bf):=⟨bE,Y⟩;clear bE;go_simp;refine hK.out _ _ ⟨Y.cell y.1 bC,Y.cell y.2.1 bC,Y.cell y.2.2 bC⟩ (fun y=>?_);clear hK M Y;have bY:¬ O fa:=fun bh=>by have cc:=cb.out.lt _ bh;have:=bR.out;omega
     have bk:=Jb bj bB;have br:=bk.trans (bi.out.2.below (fun k bz bh=>by have:=bO.out k bh;omega) bk.size);exact cv _ _ _ ⟨zK,fa,.slice U hs.length ch,zK,⟨(bi.out.2.block _ (Jd cC) bY).trans cC,br,by have:=bj.size;have:=bR.out;omega,fun bQ Z bz=>Jfn (fa:=fa) bi.out.1 bk.size Z bz bY (.inl (Jd cC))⟩,y⟩
   case rest=>
    obtain⟨fa,rfl,bL,cT,cZ⟩:=hcut;have bi:=zh cZ;have dM:=zc 0 bL;have dN:=zc 1 bL;have dO:=zc 2 bL;have dP:=zc 3 bL;have dQ:=zc 4 bL;have dA:fa<wc.heap.size:=Jd bL;have df:=zh cT;clear cZ bL cT cy cz cA;go_wp2_with fail
    go_region_held3 (fun X=>X.cell? (Aq fa)=some iZ /\X.cell? (Ar fa 1)=some iM /\X.cell? (Ar fa 2)=some iM /\X.cell? (Ar fa 3)=some iM /\X.cell? (Ar fa 4)=some iM)
     (first|go_keep|(go_split_ands;refine⟨?_,?_,?_,?_,?_⟩<;>(rw[(Kx cB).1 _ _ (by first|exact dA|assumption)];assumption)))
     (first|(go_at_call 10;refine(Jfu _).mono ?_;rintro e dR ⟨rfl,cB⟩;have br:Bq wc dR:=(by first|exact Jw cB|exact cB)))
    clear dM dN dO dP dQ;go_wp2_with fail
    go_roundw
    case rel=>exact⟨j+1,cI.out.1,by rw[cK.out],Jb df.out br,(cJ.out _ bi.out).below br⟩
    case measure=>have:=cI.out.1;rw[cK.out];simp[intOf];omega
  obtain rfl:j=L.length:=zo;have cH:Hid (Bq w wr/\Ks5 Φ w st L L.length wr):=⟨bj,hI⟩;clear hI bj cu;go_wp2_with fail
  go_ret
  exact⟨cH.out.1,st,rfl,cH.out.2⟩
theorem Qbx b cap L w(hR:∀ t∈L,Uw w t.name t.at_ t.ar t.cr t.ts t.xs t.rs)(U:Kyc w b L)(Y:b<w.heap.size)(bi:(L.map TbX.name).Nodup)(bh:L.length<=6)(bj:Ksf L L.length<=300)a0 a1 a2 K q M pg pl ex ta(O:Jax w a0 a1 a2 K q M pg pl ex ta):
  Cq 6 #[.agg #[Iq 1048576,iZ],Sq b L.length cap] w fun e w'=>Bq w w'/\∃ st,e=.returned (Pq st)/\Kzf w st L L.length w':=by
 refine Qc0 _ 1048576 0 b cap L w hR U Y bi bh bj ⟨rfl,rfl⟩ (fun i t D S hs ht hq y hl bf hp bk hI=>?_) a0 a1 a2 K q M pg pl ex ta O;obtain⟨hy,I⟩:=Jvv hI;have bx:=(Ob9.1 ht).1;rcases Kck y (hR t (Of6 ht)).tab hy (g:=64) zd (Ts:=S.map Prod.fst) (by rw[bf];simp) (by rw[Oa6];omega) hq.1 hq.2 (Ob2 (Kad _) hp) bk with⟨c,Z⟩|⟨E,T,h⟩
 ·have:=(Jy3 Z).2.1;rw[I c]at this;simp at this
 have H:=Kjy (fun x br=>?_) y (hR t (Of6 ht)).vals zo h
 ·exact⟨E,T,h,H.2.2.2.2.1.trans hq.1,H.2.2.2.2.2.1.trans hq.2⟩
 obtain⟨i,hi,rfl⟩:=Od5 br;have:=I i;rw[Oa0,Oa3 hi]at this;rw[show hs[i]=0 from this];exact⟨Ki5,Kj4⟩
theorem Jl3 b name at_ ar ct cr ts xs rs w(h:Uw w name at_ ar cr ts xs rs)(c0:w.cell? (Aq b)=some (.string name))(c1:w.cell? (Ar b 1)=some (.slice at_ ts.length ct))(c2:w.cell? (Ar b 2)=some (.slice ar rs.length cr))a0 a1 a2 y q wr pg pl ex ta(H:Jax w a0 a1 a2 y q wr pg pl ex ta):
  Cq 6 #[.agg #[Iq 1048576,iZ],Sq b 1 1] w fun e w'=>Bq w w'/\∃ (st:Nat),e=.returned (Pq st)/\Kzf w st [⟨name,at_,ct,ar,cr,ts,xs,rs⟩] 1 w':=by
 have hrs:=h.tab.2.2.1;refine Qbx b 1 [⟨name,at_,ct,ar,cr,ts,xs,rs⟩] w (fun t ht=>?_) (fun i t hi=>?_) (Jm c0) zS zS (by simp[Ksf];omega) a0 a1 a2 y q wr pg pl ex ta H
 ·rw[Oc6]at ht;subst ht;exact h
 match i,hi with
 |0,hi=>
  cases hi
  exact⟨c0,c1,c2⟩
theorem Jxy {W O I U name t v}(h0:W.heap[O]?=some (.cells #[Iq t] 3 (0,0)))(H:W.heap[I]?=some (.cells #[Iq v.k,Iq v.n,.string v.s] 65 (0,0)))(Y:W.heap[U]?=some (.cells #[Sq I 1 1] 63 (0,0)))(ht:1<=t/\t<=3)(Z:1<=name.size/\name.size<=20)(hv:okB t v.k v.n v.s=true)(hi:Jg v.n):Uw W name (some (Aq O)) (some (Aq U)) 1 [t] [(some (Aq I),1)] [[v]]:=by
 refine⟨⟨Z,⟨⟨zS,zS⟩,fun j K=>?_⟩,zS,fun i hi=>?_⟩,fun u y=>?_,fun r hr u y=>?_,.inr ⟨O,0,rfl,Jd h0,fun i u y=>?_⟩,⟨rfl,.inr ⟨U,0,rfl,Jd Y,fun i u y=>?_⟩,fun i x r M hr=>?_⟩,zS⟩
 ·have:j=0:=by simp at K;omega
  subst this;simp[Jnd,ht.1,ht.2]
 ·have:i=0:=by simp at hi;omega
  subst this;refine⟨rfl,fun j K=>?_⟩;have:j=0:=by simp at K;omega
  subst this;simpa using hv
 ·simp at y;subst y;unfold tOk;omega
 ·simp at hr;subst hr;simp at y;subst y;exact hi
 ·rcases i with _|i
  ·simp at y;subst y;simp[World.cell?,h0,iv]
  simp at y
 ·rcases i with _|i
  ·simp at y;subst y;simp[World.cell?,Y,Je1]
  simp at y
 rcases i with _|i
 ·simp at M hr;subst M hr;refine .inr ⟨I,0,rfl,Jd H,fun j u y=>?_⟩;rcases j with _|j
  ·simp at y;subst y;exact⟨by simp[World.cell?,H],by simp[World.cell?,H],by simp[World.cell?,H]⟩
  simp at y
 simp at M
def Jqc (w H:World)(st:Nat)(name:ByteArray)(rs:List (List V)):Prop:=Bq w H/\∃ (y:Nat->Prop) (E:DS) (T:TS),Sto y H st E [T]/\Jbc E [(T,rs)]/\T.name=name/\E.quota=1048576/\E.fail=0/\E.pages.length<=660*rs.length/\E.writes<=660*rs.length/\(∀ k,y k->w.heap.size<=k)
theorem Ks5.one {Φ w U st t}(h:Ks5 Φ w st [t] 1 U):∃ (y:Nat->Prop) (E:DS) (T:TS),Sto y U st E [T]/\Jbc E [(T,t.rs)]/\(T.name=t.name/\T.types=t.ts)/\Φ 1 E [(T,t.rs)]/\E.pages.length<=660*t.rs.length/\E.writes<=660*t.rs.length/\(∀ k,y k->w.heap.size<=k):=by
 obtain⟨y,E,S,Y,Z,bf,bh,bi,M,O,bj⟩:=h;match S,bf with
 |[(T,r)],_=>
  obtain⟨H,I,K⟩:=bh 0 t (T,r) rfl rfl;simp only at H I K;subst K;have hr:Ksf [t] 1=t.rs.length:=by simp[Ksf]
  rw[hr]at M O;exact⟨y,E,T,Y,Z,⟨H,I⟩,bi,M,O,bj⟩
theorem Jwr {w X y st t}(h:Kzf X st [t] 1 y)(hb:Bq w X)(bh:Bq X y):Jqc w y st t.name t.rs:=by
 obtain⟨H,E,T,I,K,M,⟨O,U⟩,Y,Z,bf⟩:=h.one;exact⟨Jb hb bh,H,E,T,I,K,M.1,O,U,Y,Z,fun k bi=>Ob2 hb.size (bf k bi)⟩
theorem Jrp {E T name rs}(h:Jbc E [(T,rs)])(I:T.name=name):Jf8 E [T] name=some (.inl rs)/\∀ y∈[T],Jid E y:=by
 have ht:=h.tab (T,rs) zS;refine⟨?_,fun y H=>by simp at H;subst H;exact ht.ok⟩;unfold Jf8;simp[Ub,I,ht.read]
abbrev Yh:ByteArray:=⟨#[111,110,101]⟩
abbrev Za:V:=⟨1,41,⟨#[]⟩⟩
theorem Kev w a0 a1 a2 bz q wr pg pl ex ta(bH:Jax w a0 a1 a2 bz q wr pg pl ex ta):
  Cq 20 #[] w fun e w'=>e=.returned (.bool true)/\Bq w w':=by
 have bB:=zh bH;clear bH;go_enter func20,ntmps20
 go_upto_region 2 with fail
 obtain⟨W,hW⟩:∃ W,W=((((w.alloc (.cells #[Iq 1] 3)).alloc (.cells #[Iq 1,Iq 41,.string ⟨#[]⟩] 65)).alloc (.cells #[Sq (w.heap.size+1) 1 1] 63)).alloc (.cells #[.string ⟨#[111,110,101]⟩,Sq w.heap.size 1 1,Sq (w.heap.size+1+1) 1 1] 25)):=⟨_,rfl⟩;rw[<-hW];have bJ:Bq w W:=by rw[hW];exact((((Oa5 _ w).alloc (Oa2 _) _).alloc zS _).alloc zt _).alloc zt _
 have Z:W.heap[w.heap.size+1+1+1]?=some (.cells #[.string ⟨#[111,110,101]⟩,Sq w.heap.size 1 1,Sq (w.heap.size+1+1) 1 1] 25 (0,0)):=by rw[hW];exact Jb4 _ _ _ zS
 have bE:W.heap[w.heap.size+1+1]?=some (.cells #[Sq (w.heap.size+1) 1 1] 63 (0,0)):=by rw[hW,Oa9 _ _ _ zS];exact Jb4 _ _ _ zS
 have bD:W.heap[w.heap.size+1]?=some (.cells #[Iq 1,Iq 41,.string ⟨#[]⟩] 65 (0,0)):=by rw[hW,Oa9 _ _ _ zS,Oa9 _ _ _ zS];exact Jb4 _ _ _ zS
 have bC:W.heap[w.heap.size]?=some (.cells #[Iq 1] 3 (0,0)):=by rw[hW,Oa9 _ _ _ zt,Oa9 _ _ _ zt,Oa9 _ _ _ zS];exact Jb4 _ _ _ rfl
 have bY:Hid (Uw W Yh (some (Aq w.heap.size)) (some (Aq (w.heap.size+1+1))) 1 [1] [(some (Aq (w.heap.size+1)),1)] [[Za]]):=Jxy (v:=Za) bC bD bE zd zd (by simp[okB,okK]) (by simp[Jg]);have bT:=zc 0 Z;have bU:=zc 1 Z;have bV:=zc 2 Z;clear hW bC bD bE Z;have bA:Hid (∀ X b,Bq W X->X.heap[b]?=some (.cells #[.string ⟨#[111,110,101]⟩,Sq w.heap.size 1 1,Sq (w.heap.size+1+1) 1 1] 25 (0,0))->Cq 6 #[.agg #[Iq 1048576,iZ],Sq b 1 1] X fun e bh=>∃ st,e=.returned (Pq st)/\Jqc w bh st Yh [[Za]]/\Bq X bh):=fun X b bi hb=>
  (Jl3 b Yh (some (Aq w.heap.size)) (some (Aq (w.heap.size+1+1))) 1 1 [1] [(some (Aq (w.heap.size+1)),1)] [[Za]] X (bY.out.below bi) (by simp[World.cell?,hb]) (by simp[World.cell?,hb]) (by simp[World.cell?,hb]) a0 a1 a2 bz q wr pg pl ex ta (bB.out.below (Jb bJ bi))).mono fun e bh ⟨bL,st,cf,hl⟩=>⟨st,cf,Jwr hl (Jb bJ bi) bL,bL⟩
 go_cut [2] from 10 to 13 (fun s cz=>∃ st:Nat,s=Pq st/\Jqc w cz st Yh [[Za]])
 case first=>
  refine wp_region_held_drew (S:=fun X=>X.cell? (Aq (w.heap.size+1+1+1))=some (.string ⟨#[111,110,101]⟩)/\X.cell? (Ar (w.heap.size+1+1+1) 1)=some (Sq w.heap.size 1 1)/\X.cell? (Ar (w.heap.size+1+1+1) 2)=some (Sq (w.heap.size+1+1) 1 1)) zK ⟨bT,bU,bV⟩ (fun y=>?_);refine tkj 1 rfl y ?_;refine tkn ?_;have bM:Bq W W.drew:=⟨rfl,rfl,rfl,Oa2 _,fun _ _=>rfl⟩;refine wpAnyH_ready (rs:=[0,2]) zK zS (AllReadyH.cons rfl (fun I hK=>?_) (AllReadyH.cons rfl (fun I hK=>?_) AllReadyH.nil));focus
   go_simp;refine(Jen _).mono ?_;rintro e H ⟨rfl,K⟩;have bk:Bq W H:=Jb bM K;go_simp;refine hK.out _ _ ⟨Ja K y.1,Ja K y.2.1,Ja K y.2.2⟩ (fun y=>?_);clear hK I;refine tkr 2 rfl fun I hK=>?_;go_simp;have M:Bq H (H.alloc (.cells #[.string ⟨#[111,110,101]⟩,Sq w.heap.size 1 1,Sq (w.heap.size+1+1) 1 1] 25)):=(Oa5 _ _).alloc (Oa2 _) _;have bf:=heap_alloc_new H (.cells #[.string ⟨#[111,110,101]⟩,Sq w.heap.size 1 1,Sq (w.heap.size+1+1) 1 1] 25);refine hK.out _ _ ⟨Ja M y.1,Ja M y.2.1,Ja M y.2.2⟩ (fun y=>?_);clear hK I;refine tkr 3 rfl fun I hK=>?_;go_simp;refine(bA.out _ _ (Jb bk M) bf).mono ?_
  rotate_left 1;focus
   go_simp;have M:Bq W ((W.alloc (.cells #[.string ⟨#[111,110,101]⟩,Sq w.heap.size 1 1,Sq (w.heap.size+1+1) 1 1] 25)).drew):=Jb bM ((Oa5 _ W.drew).alloc (Oa2 _) (.cells #[.string ⟨#[111,110,101]⟩,Sq w.heap.size 1 1,Sq (w.heap.size+1+1) 1 1] 25));have bf:((W.alloc (.cells #[.string ⟨#[111,110,101]⟩,Sq w.heap.size 1 1,Sq (w.heap.size+1+1) 1 1] 25)).drew).heap[W.heap.size]?=_:=heap_alloc_new W (.cells #[.string ⟨#[111,110,101]⟩,Sq w.heap.size 1 1,Sq (w.heap.size+1+1) 1 1] 25);refine hK.out _ _ ⟨Ja M bT,Ja M bU,Ja M bV⟩ (fun y=>?_);clear hK I;refine tkr 0 rfl fun I hK=>?_;go_simp;refine(Jen _).mono ?_;rintro e H ⟨rfl,K⟩;have bk:Bq W H:=Jb M K;have cc:H.heap[W.heap.size]?=_:=(K.block _ (Jd bf)).trans bf;go_simp;refine hK.out _ _ ⟨Ja K y.1,Ja K y.2.1,Ja K y.2.2⟩ (fun y=>?_);clear hK I;refine tkr 3 rfl fun I hK=>?_;go_simp;refine(bA.out _ _ bk cc).mono ?_
  all_goals
   rintro e ca ⟨st,rfl,bQ,bx⟩;have bX:=zh bQ;clear bQ;go_simp;refine hK.out _ _ ⟨Ja bx y.1,Ja bx y.2.1,Ja bx y.2.2⟩ (fun y=>?_);clear hK I;refine tkj 4 rfl y ?_;refine tkn ?_;refine wpAnyH_done zK ?_ _;go_wp2_with fail
   go_meet
   case rel=>exact⟨st,rfl,bX.out⟩
 case rest=>
  obtain⟨st,rfl,bK,bZ,E,T,bS,bR,ci,_⟩:=hcut;obtain⟨br,bO⟩:=Jrp bR ci;have bP:=Kz2 bZ st E [T] Yh wc bS bO a0 a1 a2 bz q wr pg pl ex ta (bB.out.below bK) br;rw[br]at bP;clear bS bR br bO;go_wp2_with (first|(go_at_call 17;refine bP.mono ?_;rintro e H ⟨K,g,bs,rfl,bN⟩;have Y:=zh bN;clear bN))
  obtain⟨b1,rfl⟩:∃ b1,bs=[b1]:=by
   have:=Y.out.len;match bs,this with
   |[x],_=>exact⟨x,rfl⟩
  have bG:H.cell? (Aq g)=some (Sq b1 1 1):=Y.out.outer.cell (i:=0) zS;have bW:H.cell? (Ar b1 1)=some (Iq 41):=by
   rcases(Y.out.rows 0 b1 [Za] rfl rfl).vals with h|⟨cB,cD,bI,_,hv⟩
   ·simp at h
   simp at bI;obtain⟨rfl,rfl⟩:=bI;have:=(hv 0 Za rfl).2.1;simpa using this
  have cC:=Jjl 0;have bj:Bq H (H.alloc (.cells #[iZ,iM,iM,iM,iM] 39)):=(Oa5 _ _).alloc (Oa2 _) _;have U:=heap_alloc_new H (.cells #[iZ,iM,iM,iM,iM] 39);have cb:=Ja bj bG;have cy:=Ja bj bW;generalize H.alloc (.cells #[iZ,iM,iM,iM,iM] 39)=ca at *;have cj:=zc 0 U;have cn:=zc 1 U;have cu:=zc 2 U;have cv:=zc 3 U;have cx:=zc 4 U;clear bG bW U Y;refine wp_region_held_drew (S:=fun X=>X.cell? (Aq H.heap.size)=some iZ /\X.cell? (Ar H.heap.size 1)=some iM /\X.cell? (Ar H.heap.size 2)=some iM /\X.cell? (Ar H.heap.size 3)=some iM /\X.cell? (Ar H.heap.size 4)=some iM /\X.cell? (Aq g)=some (Sq b1 1 1)/\X.cell? (Ar b1 1)=some (Iq 41)) zK ⟨cj,cn,cu,cv,cx,cb,cy⟩ (fun y=>?_);refine tkj 0 rfl y ?_;refine tkn ?_;refine tkr 1 rfl fun I hK=>?_;go_simp;refine(Jfu _).mono ?_;rintro e cA ⟨rfl,O⟩;go_simp;refine hK.out _ _ ⟨Ja O y.1,Ja O y.2.1,Ja O y.2.2.1,Ja O y.2.2.2.1,Ja O y.2.2.2.2.1,Ja O y.2.2.2.2.2.1,Ja O y.2.2.2.2.2.2⟩ (fun y=>?_);clear hK I;refine tkj 2 rfl y ?_;refine tkj 3 rfl y ?_;refine tkn ?_;refine tkj 4 rfl y ?_;refine tkj 5 rfl y ?_;refine tkj 6 rfl y ?_;refine tkj 7 rfl y ?_;refine tkj 8 rfl y ?_;refine tkn ?_;refine tkj 9 rfl y ?_;refine tkj 10 rfl y ?_;refine tkj 11 rfl y ?_;refine tkj 12 rfl y ?_;refine tkj 13 rfl y ?_;refine tkj 14 rfl y ?_;refine tkj 15 rfl y ?_;refine tkn ?_;refine tkj 16 rfl y ?_;refine tkj 17 rfl y ?_;refine tkj 18 rfl y ?_;refine tkj 19 rfl y ?_;refine tkj 20 rfl y ?_;refine tkj 21 rfl y ?_;refine tkj 22 rfl y ?_;refine tkj 23 rfl y ?_;refine tkj 24 rfl y ?_;refine tkn ?_;refine wpAnyH_done zK ?_ _;go_wp2;go_ret
  exact⟨rfl,Jb (Jb bK (Jb K bj)) (Jw O)⟩
theorem Jug.right {w w' name ts rs v}(h:Jug w w' name ts rs v)(hl:rs.length<=200)(Y:1<=name.size/\name.size<=20):∃ I K H rc xs,v=.agg #[.string name,.slice I ts.length K,.slice H rs.length rc]/\Uw w' name I H rc ts xs rs:=by
 obtain⟨I,K,H,rc,bs,hv,M,O,U,_⟩:=h.val;refine⟨I,K,H,rc,_,hv,⟨Y,⟨h.types.1,fun j y=>?_⟩,hl,fun i hi=>?_⟩,h.types.2,fun r hr u Z=>?_,M,O,U⟩
 ·have:=h.types.2 _ (Ob3 y);unfold tOk at this;unfold Jnd;simp only[decide_eq_true_iff];omega
 ·have:=h.rows _ (Ob3 hi);exact⟨this.1,fun j y=>(this.2 j y).1⟩
 have:=h.rows r hr;obtain⟨j,y,rfl⟩:=Od5 Z;exact(this.2 j y).2
end
section
open Go.RowKit
structure Ksk {α:Type} (P:α->Prop) (c:α->α->Int):Prop where
 neg:∀ x y,P x->P y->c y x=- c x y
 trans:∀ x y z,P x->P y->P z->c x y<=0->c y z<=0->c x z<=0
theorem Ksk.lex {α}{P:α->Prop}{c d:α->α->Int}(h:Ksk P c)(k:Ksk P d):Ksk P fun x y=>if c x y≠0 then c x y else d x y:=by
 refine⟨fun x y H hy=>?_,fun x y z H hy I=>?_⟩
 ·have O:=h.neg x y H hy;have U:=k.neg x y H hy;show (if c y x≠0 then c y x else d y x)=- (if c x y≠0 then c x y else d x y);by_cases e:c x y=0
  ·rw[if_neg zo,if_neg zo];exact U
  rw[if_pos zo,if_pos e];exact O
 have Z:=h.neg x y H hy;have bf:=h.neg y z hy I;have n3:=h.neg x z H I;have bh:=h.trans x y z H hy I;have bi:=h.trans z x y I H hy;have bj:=h.trans y z x hy I H;have bk:=h.trans z y x I hy H;have Y:=k.trans x y z H hy I;show (if c x y≠0 then c x y else d x y)<=0->(if c y z≠0 then c y z else d y z)<=0->(if c x z≠0 then c x z else d x z)<=0;by_cases M:c x y=0
 ·rw[if_neg zo];by_cases K:c y z=0
  ·rw[if_neg zo,if_neg zo];exact Y
  rw[if_pos K];intro a b;rw[if_pos zo];omega
 rw[if_pos M];by_cases K:c y z=0
 ·rw[if_neg zo];intro a b;rw[if_pos zo];omega
 rw[if_pos K];intro a b;rw[if_pos zo];omega
theorem Ksk.down {α}{P:α->Prop}{c:α->α->Int}(h:Ksk P c):Ksk P fun x y=>c y x:=
 ⟨fun x y H hy=>h.neg y x hy H,fun x y z H hy I a b=>h.trans z y x I hy H b a⟩
theorem Ksk.congr {α}{P:α->Prop}{c d:α->α->Int}(h:Ksk P c)(e:∀ x y,P x->P y->d x y=c x y):Ksk P d:=
 ⟨fun x y H hy=>by rw[e x y H hy,e y x hy H];exact h.neg x y H hy,fun x y z H hy I=>by rw[e x y H hy,e y z hy I,e x z H I];exact h.trans x y z H hy I⟩
theorem Ksk.pull {α β}{P:α->Prop}{c:α->α->Int}(h:Ksk P c)(f:β->α):Ksk (fun x=>P (f x)) fun x y=>c (f x) (f y):=
 ⟨fun x y=>h.neg (f x) (f y),fun x y z=>h.trans (f x) (f y) (f z)⟩
theorem Ksk.ordn {c P}(h:Ksk P c)(hp:∀ x,P x):Kse c:=⟨fun x y=>h.neg x y (hp x) (hp y),fun x y z=>h.trans x y z (hp x) (hp y) (hp z)⟩
theorem Ksk.mono {α}{P Q:α->Prop}{c:α->α->Int}(h:Ksk P c)(hq:∀ x,Q x->P x):Ksk Q c:=⟨fun x y a b=>h.neg x y (hq x a) (hq y b),fun x y z a b d=>h.trans x y z (hq x a) (hq y b) (hq z d)⟩
theorem Kx5:∀ x H:List UInt8,Lib.compareBytes H x=- Lib.compareBytes x H
 |[],[]=>rfl
 |_::_,[]=>rfl
 |[],_::_=>rfl
 |a::x,b::H=>by
  simp only[Lib.compareBytes,UInt8.lt_iff_toNat_lt];have I:=Kx5 x H;by_cases h:a.toNat<b.toNat
  ·have y:¬ b.toNat<a.toNat:=zo;simp[h,y]
  by_cases y:b.toNat<a.toNat
  ·simp[h,y]
  simp[h,y,I]
theorem Kvi:∀ x H z:List UInt8,Lib.compareBytes x H<=0->Lib.compareBytes H z<=0->Lib.compareBytes x z<=0
 |[],_,[]=>fun _ _=>by simp[Lib.compareBytes]
 |[],_,_::_=>fun _ _=>by simp[Lib.compareBytes]
 |_::_,[],_=>fun h _=>by simp[Lib.compareBytes]at h
 |_::_,_::_,[]=>fun _ h=>by simp[Lib.compareBytes]at h
 |a::x,b::H,c::z=>by
  simp only[Lib.compareBytes,UInt8.lt_iff_toNat_lt];have O:=Kvi x H z;by_cases K:a.toNat<b.toNat
  ·rw[if_pos K];by_cases I:b.toNat<c.toNat
   ·intro _ _;rw[if_pos zo];omega
   rw[if_neg I];by_cases y:c.toNat<b.toNat
   ·rw[if_pos y];intro _ h;omega
   intro _ _;rw[if_pos zo];omega
  rw[if_neg K];by_cases M:b.toNat<a.toNat
  ·rw[if_pos M];intro h;omega
  rw[if_neg M];by_cases I:b.toNat<c.toNat
  ·intro _ _;rw[if_pos zo];omega
  rw[if_neg I];by_cases y:c.toNat<b.toNat
  ·rw[if_pos y];intro _ h;omega
  rw[if_neg y,if_neg zo,if_neg zo];exact O
theorem Kvp:Ksk (fun _:V=>True) Jxt:=by
 refine⟨fun x y _ _=>?_,fun x y z _ _ _=>?_⟩
 ·unfold Jxt;have:=Kx5 x.s.data.toList y.s.data.toList;by_cases h:x.n<y.n
  ·rw[if_neg zo,if_pos h,if_pos h];rfl
  by_cases H:y.n<x.n
  ·rw[if_pos H,if_neg h,if_pos H]
  rw[if_neg H,if_neg h,if_neg h,if_neg H];exact this
 unfold Jxt;have:=Kvi x.s.data.toList y.s.data.toList z.s.data.toList;by_cases M:x.n<y.n
 ·rw[if_pos M];by_cases K:y.n<z.n
  ·intro _ _;rw[if_pos zo];omega
  rw[if_neg K];by_cases I:z.n<y.n
  ·rw[if_pos I];intro _ h;omega
  intro _ _;rw[if_pos zo];omega
 rw[if_neg M];by_cases H:y.n<x.n
 ·rw[if_pos H];intro h;omega
 rw[if_neg H];by_cases K:y.n<z.n
 ·intro _ _;rw[if_pos zo];omega
 rw[if_neg K];by_cases I:z.n<y.n
 ·rw[if_pos I];intro _ h;omega
 rw[if_neg I,if_neg zo,if_neg zo];exact this
def Kv2 (a b:V)(d:Bool):Int:=if a.beq b=true then 0 else if a.k=0 then -1 else if b.k=0 then 1 else if d=true then Jxt b a else Jxt a b
def OkT (t:Int)(v:V):Prop:=v=⟨0,0,⟨#[]⟩⟩\/(v.k=t/\t≠0)
def Qau (a b:V):Int:=(if a.k=0 then 0 else 1)-(if b.k=0 then 0 else 1)
theorem Qb3:Ksk (fun _:V=>True) Qau:=⟨fun x y _ _=>by unfold Qau;omega,fun x y z _ _ _ a b=>by unfold Qau at *;omega⟩
theorem Qaj a:Jxt a a=0:=by have:=Kvp.neg a a trivial trivial;omega
theorem Qbj t d:Ksk (OkT t) fun a b=>Kv2 a b d:=by
 have h:Ksk (OkT t) fun a b=>if Qau a b≠0 then Qau a b else (if d=true then Jxt b a else Jxt a b):=by
  refine(Qb3.lex ?_).mono fun _ _=>trivial;cases d
  ·exact Kvp.congr fun x H _ _=>by simp
  exact Kvp.down.congr fun x H _ _=>by simp
 refine h.congr fun x H K hy=>?_;unfold Kv2 Qau;by_cases e:x=H
 ·subst e;rw[if_pos ((V.beq_iff x x).2 rfl),if_neg zo];split<;>exact(Qaj x).symm
 rw[if_neg (fun hh=>e ((V.beq_iff x H).1 hh))];by_cases I:x.k=0
 ·rw[if_pos I];by_cases y:H.k=0
  ·exfalso;rcases K with K|K
   ·rcases hy with hy|hy
    ·exact e (K.trans hy.symm)
    omega
   omega
  rw[if_neg y,if_pos I,if_pos zo];rfl
 rw[if_neg I,if_neg I];by_cases y:H.k=0
 ·rw[if_pos y,if_pos y,if_pos zo];rfl
 rw[if_neg y,if_neg y];simp
def Ks7:List Krv->(Nat->V)->(Nat->V)->Int
 |[],_,_=>0
 |k::ks,r,s=>if Kv2 (r k.c) (s k.c) k.d≠0 then Kv2 (r k.c) (s k.c) k.d else Ks7 ks r s
theorem Kx4 (ts:Nat->Int):∀ ks:List Krv,Ksk (fun r:Nat->V=>∀ k∈ks,OkT (ts k.c) (r k.c)) (Ks7 ks)
 |[]=>⟨fun _ _ _ _=>rfl,fun _ _ _ _ _ _ _ _=>Int.le_refl 0⟩
 |k::ks=>by
  have H:=((Qbj (ts k.c) k.d).pull fun r:Nat->V=>r k.c).mono (Q:=fun r:Nat->V=>∀ y∈k::ks,OkT (ts y.c) (r y.c)) fun r h=>h k zS;exact H.lex ((Kx4 ts ks).mono fun r h y I=>h y (Og1 _ I))
def Kr5 (cs:List (List V))(i:Nat):Nat->V:=fun j=>(cs.getD j []).getD i ⟨0,0,⟨#[]⟩⟩
theorem Kx0 (ts:Nat->Int)ks cs(h:∀ k∈ks,∀ v∈cs.getD k.c [],OkT (ts k.c) v):Kse fun i j=>Ks7 ks (Kr5 cs i) (Kr5 cs j):=
 ((
  Kx4 ts ks).pull (Kr5 cs)).ordn fun i k y=>by
  unfold Kr5;rw[Oa0];cases e:(cs.getD k.c [])[i]? with
  |none=>exact .inl rfl
  |some v=>exact h k y v (Of6 e)
end
open Go.RowKit Go.Shelf Tryz
theorem zax {p:Prop}(h:p:=by
 unfold V.val at *;go_enter func246,ntmps246
 go_wp2;go_ret
 exact⟨rfl,Jc (Jc (Oa5 _ _) _) _⟩):p:=h
theorem zaL {p:Prop}(h:p:=by
 go_wp2_with (go_at_call 243;refine(M _).mono ?_;rintro e X ⟨rfl,K⟩)
 go_ret
 exact⟨rfl,Qx (Qx K)⟩):p:=h
theorem Kv5 a b d w:Cq 246 #[a.val,b.val,.bool d] w fun e w'=>e=.returned (Iq (Kv2 a b d))/\Bq w w':=by
 unfold Kv2;by_cases H:a=b
 ·have Y:=Jhz a b H;rw[if_pos ((V.beq_iff a b).2 H)];clear H;exact zax
 have Y:=Jh8 a b H;rw[if_neg (fun hh=>H ((V.beq_iff a b).1 hh))];clear H;by_cases y:a.k=0
 ·rw[if_pos y];have O:(a.k==0)=true:=by simp[y]
  have Z:=zh y;clear y;exact zax
 rw[if_neg y];have O:(a.k==0)=false:=by simp[y]
 clear y;by_cases I:b.k=0
 ·rw[if_pos I];have U:(b.k==0)=true:=by simp[I]
  clear I;exact zax
 rw[if_neg I];have U:(b.k==0)=false:=by simp[I]
 clear I;cases d
 ·have M:=fun X=>Kl5 a b X;unfold V.val at *;go_enter func246,ntmps246
  exact zaL
 have M:=fun X=>Kl5 b a X;unfold V.val at *;go_enter func246,ntmps246
 exact zaL
theorem Kxx {cs i j c}(y:cs.getD j []=c)(hi:i<c.length):Kr5 cs i j=c[i]:=by
 unfold Kr5;rw[y,Oa0,Oa3 hi];rfl
theorem Kt7 sb kb ko kc ks bj cp hs cs i bk ca bT H y w(bD:w.cell? (Ar sb 1)=some (Sr kb ko ks.length kc))(hK:Klj w kb ko ks)(cy:ks.length<=1000000)(hC:Qd w bj hs cs)(bO:Qd w bk bT H)(bM:∀ k∈ks,k.c<cs.length/\i<(cs.getD k.c []).length)(bN:∀ k∈ks,k.c<H.length/\y<(H.getD k.c []).length):
  Cq 209 #[Pq sb,Sq bj cs.length cp,Iq (i:Nat),Sq bk H.length ca,Iq (y:Nat)] w
   fun e w'=>e=.returned (Iq (Ks7 ks (Kr5 cs i) (Kr5 H y)))/\Bq w w':=by
 have bY:Hid (∀ k∈ks,(k.c<cs.length/\i<(cs.getD k.c []).length)/\k.c<H.length/\y<(H.getD k.c []).length):=fun k bD=>⟨bM k bD,bN k bD⟩;clear bM bN;go_enter func209,ntmps209
 go_wp2;go_loopw [19] (fun iv wr=>∃ t:Nat,iv=Iq t/\t<=ks.length/\Bq w wr/\Hid (Ks7 ks (Kr5 cs i) (Kr5 H y)=Ks7 (ks.drop t) (Kr5 cs i) (Kr5 H y))) (fun iv _=>ks.length-(intOf iv).toNat)
 case atStart=>exact⟨0,rfl,zo,Oa5 _ _,rfl⟩
 case round=>
  rename_i iv
  obtain⟨t,rfl,ht,Z,bi⟩:=hrel;by_cases bE:t<ks.length
  ·have cb:(t:Int)<(ks.length:Int):=zo;obtain⟨ky,bh⟩:∃ ky,ks[t]?=some ky:=⟨_,Oa3 bE⟩;obtain⟨⟨bU,bV⟩,bW,bX⟩:=bY.out ky (Of6 bh);obtain⟨cf,ci,cj,cn⟩:=hK.below Z t ky bh;have bS:ks.drop t=ky::ks.drop (t+1):=by rw[Oi1 bE];rw[Oa3 bE]at bh;simp at bh;rw[bh]
   have a0:=(hC.below Z).row.cell bU;have b0:=(bO.below Z).row.cell bW;obtain⟨M,O,bP,cC,a1,a2,bf⟩:=((hC.below Z).vals _ bU).at bV;obtain⟨I,K,bQ,cB,b1,b2,b3⟩:=((bO.below Z).vals _ bW).at bX;rw[bP]at a0;rw[bQ]at b0;have bK:(cs.getD ky.c [])[i]=Kr5 cs i ky.c:=(Kxx rfl bV).symm;have bL:(H.getD ky.c [])[y]=Kr5 H y ky.c:=(Kxx rfl bX).symm;rw[bK]at a1 a2 bf;rw[bL]at b1 b2 b3;have bx:Hid (Ks7 ks (Kr5 cs i) (Kr5 H y)=if Kv2 (Kr5 cs i ky.c) (Kr5 H y ky.c) ky.d≠0 then Kv2 (Kr5 cs i ky.c) (Kr5 H y ky.c) ky.d else Ks7 (ks.drop (t+1)) (Kr5 cs i) (Kr5 H y)):=by show _=_;rw[bi.out,bS];rfl
   generalize Kr5 cs i ky.c=v at *;generalize Kr5 H y ky.c=u at *;have bH:Hid (∀ X,Cq 246 #[v.val,u.val,.bool ky.d] X fun e w'=>e=.returned (Iq (Kv2 v u ky.d))/\Bq X w'):=fun X=>Kv5 v u ky.d X;have cu:=zh bi;clear bi bS bP bQ bK bL bh;generalize (cs.getD ky.c []).length=bz at *;generalize (H.getD ky.c []).length=bA at *;generalize Kv2 v u ky.d=o at *;have cz:(i:Int)<(bz:Int):=zo;have cA:(y:Int)<(bA:Int):=zo;have cv:(ky.c:Int)<(cs.length:Int):=zo;have cx:(ky.c:Int)<(H.length:Int):=zo;go_wp2_with fail
   have bG:(wr.alloc (.cells #[Iq (ky.c:Nat),Iq ky.o,.bool ky.d,Iq (ky.f:Nat)] 57)).cell? (Aq wr.heap.size)=some (Iq (ky.c:Nat)):=zS;have z2:(wr.alloc (.cells #[Iq (ky.c:Nat),Iq ky.o,.bool ky.d,Iq (ky.f:Nat)] 57)).cell? (Ar wr.heap.size 2)=some (.bool ky.d):=zS;have Y:=Jc (Oa5 wr.heap.size wr) (.cells #[Iq (ky.c:Nat),Iq ky.o,.bool ky.d,Iq (ky.f:Nat)] 57);have bR:=Jb Z Y;replace a0:=Ja Y a0;replace b0:=Ja Y b0;replace a1:=Ja Y a1;replace a2:=Ja Y a2;replace bf:=Ja Y bf;replace b1:=Ja Y b1;replace b2:=Ja Y b2;replace b3:=Ja Y b3;clear cf ci cj cn Y Z;generalize wr.alloc (.cells #[Iq (ky.c:Nat),Iq ky.o,.bool ky.d,Iq (ky.f:Nat)] 57)=bJ at *;generalize (Yo hs ky.c).2=c1 at *;generalize (Yo bT ky.c).2=c2 at *;generalize wr.heap.size=g at *;have bI:Hid (∀ X,Bq bJ X->_):=fun X U=>(show (fun X=>X.cell? (Aq g)=some (Iq (ky.c:Nat))/\X.cell? (Ar g 2)=some (.bool ky.d)/\X.cell? (Ar bj ky.c)=some (Sr M O bz c1)/\X.cell? (Ar bk ky.c)=some (Sr I K bA c2)/\X.cell? (Ar M (O+i*3))=some (Iq v.k)/\X.cell? (Ar M (O+i*3+1))=some (Iq v.n)/\X.cell? (Ar M (O+i*3+2))=some (.string v.s)/\X.cell? (Ar I (K+y*3))=some (Iq u.k)/\X.cell? (Ar I (K+y*3+1))=some (Iq u.n)/\X.cell? (Ar I (K+y*3+2))=some (.string u.s)) X from ⟨Ja U bG,Ja U z2,Ja U a0,Ja U b0,Ja U a1,Ja U a2,Ja U bf,Ja U b1,Ja U b2,Ja U b3⟩);by_cases ho:o=0
   ·have cc:(o != 0)=false:=(by simp[ho]);have bB:Hid (Ks7 ks (Kr5 cs i) (Kr5 H y)=Ks7 (ks.drop (t+1)) (Kr5 cs i) (Kr5 H y)):=by show _=_;rw[bx.out,if_neg (fun h=>h ho)]
    clear ho bx;go_region_held3 (fun X=>X.cell? (Aq g)=some (Iq (ky.c:Nat))/\X.cell? (Ar g 2)=some (.bool ky.d)/\X.cell? (Ar bj ky.c)=some (Sr M O bz c1)/\X.cell? (Ar bk ky.c)=some (Sr I K bA c2)/\X.cell? (Ar M (O+i*3))=some (Iq v.k)/\X.cell? (Ar M (O+i*3+1))=some (Iq v.n)/\X.cell? (Ar M (O+i*3+2))=some (.string v.s)/\X.cell? (Ar I (K+y*3))=some (Iq u.k)/\X.cell? (Ar I (K+y*3+1))=some (Iq u.n)/\X.cell? (Ar I (K+y*3+2))=some (.string u.s))
     (first|(exact⟨bG,z2,a0,b0,a1,a2,bf,b1,b2,b3⟩)|(exact bC)|(go_split_ands;refine⟨?_,?_,?_,?_,?_,?_,?_,?_,?_,?_⟩<;>assumption))
     (first|(go_at_call 246;refine(bH.out _).mono ?_;rintro e X ⟨rfl,br⟩;have bC:=bI.out X (Jw br)))
    go_wp2;go_roundw
    case rel=>exact⟨t+1,zn,zo,Jb bR (Jw br),bB.out⟩
    case measure=>simp[intOf];omega
   have cc:(o != 0)=true:=(by simp[ho]);have bB:Hid (Ks7 ks (Kr5 cs i) (Kr5 H y)=o):=by show _=_;rw[bx.out,if_pos ho]
   clear ho bx;go_region_held3 (fun X=>X.cell? (Aq g)=some (Iq (ky.c:Nat))/\X.cell? (Ar g 2)=some (.bool ky.d)/\X.cell? (Ar bj ky.c)=some (Sr M O bz c1)/\X.cell? (Ar bk ky.c)=some (Sr I K bA c2)/\X.cell? (Ar M (O+i*3))=some (Iq v.k)/\X.cell? (Ar M (O+i*3+1))=some (Iq v.n)/\X.cell? (Ar M (O+i*3+2))=some (.string v.s)/\X.cell? (Ar I (K+y*3))=some (Iq u.k)/\X.cell? (Ar I (K+y*3+1))=some (Iq u.n)/\X.cell? (Ar I (K+y*3+2))=some (.string u.s))
    (first|(exact⟨bG,z2,a0,b0,a1,a2,bf,b1,b2,b3⟩)|(exact bC)|(go_split_ands;refine⟨?_,?_,?_,?_,?_,?_,?_,?_,?_,?_⟩<;>assumption))
    (first|(go_at_call 246;refine(bH.out _).mono ?_;rintro e X ⟨rfl,br⟩;have bC:=bI.out X (Jw br)))
   go_wp2;go_ret
   exact⟨Yp bB.out.symm,Jb bR (Jw br)⟩
  have cb:¬ (t:Int)<(ks.length:Int):=zo;have bZ:Hid (Ks7 ks (Kr5 cs i) (Kr5 H y)=0):=by show _=_;rw[bi.out,List.drop_eq_nil_of_le zo];rfl
  clear bi;go_wp2;go_ret
  exact⟨Yp bZ.out.symm,Z⟩
structure Kx2 (w:World) (sb kb ko kc:Nat) (ks:List Krv):Prop where
 cell:w.cell? (Ar sb 1)=some (Sr kb ko ks.length kc)
 keys:Klj w kb ko ks
theorem Kx2.below {w w' sb kb ko kc ks}(h:Kx2 w sb kb ko kc ks)(hb:Bq w w'):Kx2 w' sb kb ko kc ks:=⟨Ja hb h.cell,h.keys.below hb⟩
structure Qa8 (ks:List Krv) (cs:List (List V)) (n:Nat):Prop where
 len:∀ j,j<cs.length->(cs.getD j []).length=n
 in_:∀ k∈ks,k.c<cs.length
 few:cs.length<=1000
 some_:1<=cs.length
 many:n<=100000
 keys:ks.length<=1000000
theorem Qa8.at {ks cs n i}(h:Qa8 ks cs n)(hi:i<n):∀ k∈ks,k.c<cs.length/\i<(cs.getD k.c []).length:=fun k y=>⟨h.in_ k y,by rw[h.len _ (h.in_ k y)];exact hi⟩
theorem Qbv w0 w b M O sb kb ko kc ks H cp hs cs n(hb:w0.heap.size<=b)(K:Bq w0 w)(hp:w0.cell? (Aq M)=some (Pq sb))(hq:w0.cell? (Aq O)=some (Sq H cs.length cp))(hK:Kx2 w0 sb kb ko kc ks)(hC:Qd w0 H hs cs)(I:Qa8 ks cs n):
  Kt6 w b n ⟨M,0,none⟩ ⟨O,0,none⟩ fun i j=>Ks7 ks (Kr5 cs i) (Kr5 cs j):=by
 intro W hW x bh bf hy;have y:Bq w0 W:=K.trans (hW.below (fun k I Z=>by simp only[Ksz]at Z;omega) K.size);have Y:=Kt7 sb kb ko kc ks H cp hs cs x H cp hs cs bh W (hK.below y).cell (hK.below y).keys I.keys (hC.below y) (hC.below y) (I.at bf) (I.at hy);have bi:=Ja y hp;have bj:=Ja y hq;go_enter func208,ntmps208
 go_wp2_with (go_at_call 209;refine Y.mono ?_;rintro e X ⟨rfl,U⟩)
 go_ret
 exact⟨rfl,U⟩
def Ktp (n:Nat)(g:Nat->Nat):List Int:=(List.range n).map fun i=>(g i:Int)
theorem Kv7 n g:(Ktp n g).length=n:=by simp[Ktp]
theorem Kr9.ints {w b n g}(h:Kr9 w b n g):Kc w (some (Aq b)) (Ktp n g):=by
 refine .inr ⟨b,0,rfl,h.lt,fun j v y=>?_⟩;have H:j<n:=by
  have:=(Ob9.1 y).1;simpa [Ktp] using this
 simp[Ktp,List.getElem?_range H]at y;subst y;have:=h.cell j H;rw[Od0];exact this
structure Qc4 (ks:List Krv) (cs:List (List V)) (n:Nat) (g:Nat->Nat):Prop where
 arr:Arr 0 n (fun x=>x) g
 srt:Srt (fun i j=>Ks7 ks (Kr5 cs i) (Kr5 cs j)) 0 n g
def Qaw (w w':World)(hs:List (Option Addr×Nat))(k:Nat):Prop:=∀ j,j<k->∀ b o,(Yo hs j).1=some (Ar b o)->w.heap.size<=b/\b<w'.heap.size
theorem Kvx sb kb ko kc ks H cp hs cs n w(hK:Kx2 w sb kb ko kc ks)(hC:Qd w H hs cs)(I:Qa8 ks cs n)(ho:Kse fun i j=>Ks7 ks (Kr5 cs i) (Kr5 cs j)):
  Cq 169 #[Pq sb,Sq H cs.length cp] w fun e w'=>Bq w w'/\∃ gb g M,e=.returned (Sq gb cs.length cs.length)/\w.heap.size<=gb/\Qc4 ks cs n g/\Qd w' gb M (cs.map (Yq (Ktp n g)))/\Qaw w w' M cs.length:=by
 have ci:∀ W,(Instr.makeSlice 22 (Iq (n:Int)) (Iq (n:Int))).run prog W=.ok (Sq W.heap.size n n) (W.alloc (.cells (madeCells #[iZ] n) 3)):=
  fun W=>run_make_row' 22 3 iZ 8 zK Zw rfl .i64 .i64 n (by have:=I.many;omega) (by have:=I.many;omega) W
 have h0:=hC.row.cell (i:=0) I.some_;rw[I.len 0 I.some_]at h0;have ca:=I.some_;have bM:∀ X,Bq w X->Cq 71 #[Sq H cs.length cp] X fun e w'=>e=.returned (Iq (n:Int))/\w'=X:=fun X bI=>Jlg H cs.length cp _ n _ X ca (Ja bI h0);have bR:=zh bM;have bZ:=I.many;clear bM h0;go_enter func169,ntmps169
 go_wp2_with (go_at_call 71;refine(bR.out _ (Jc (Jc (Oa5 _ _) _) _)).mono ?_;rintro e X ⟨rfl,bI⟩;subst X)
 have bh:Bq w (((w.alloc (.cells #[Pq sb] 322)).alloc (.cells #[Sq H cs.length cp] 84))):=Jc (Jc (Oa5 _ _) _) _;have bB:(((w.alloc (.cells #[Pq sb] 322)).alloc (.cells #[Sq H cs.length cp] 84))).cell? (Aq w.heap.size)=some (Pq sb):=zS;have bk:(((w.alloc (.cells #[Pq sb] 322)).alloc (.cells #[Sq H cs.length cp] 84))).cell? (Aq (w.heap.size+1))=some (Sq H cs.length cp):=zS;have bA:(((w.alloc (.cells #[Pq sb] 322)).alloc (.cells #[Sq H cs.length cp] 84))).heap.size=w.heap.size+1+1:=zS;generalize (w.alloc (.cells #[Pq sb] 322)).alloc (.cells #[Sq H cs.length cp] 84)=O at *;obtain⟨b,hb⟩:∃ b,b=w.heap.size+1+1:=⟨_,rfl⟩;rw[<-hb]at bA |-;have cb:=zh hb;have bf:=zh bA;obtain⟨Z,bO⟩:∃ Z,Z=w.heap.size+1:=⟨_,rfl⟩;rw[<-bO]at bk |-;obtain⟨bj,bN⟩:∃ bj,bj=w.heap.size:=⟨_,rfl⟩;rw[<-bN]at bB |-;clear hb bA bN bO;go_loopw [12] (fun iv wr=>∃ t:Nat,iv=Iq t/\t<=n/\Kr9 wr b n (fun k=>if k<t then k else 0)/\Bq O wr) (fun iv _=>n-(intOf iv).toNat)
 case atStart=>
  refine⟨0,rfl,Ob7 _,?_,(Oa5 _ _).alloc (Oa2 _) _⟩;have K:=Ol3 O iZ n 3;rw[bf.out]at K;exact⟨K.lt,fun i hi=>by rw[K.cell hi];simp,fun i hi=>K.frozen i⟩
 case round=>
  rename_i iv
  obtain⟨t,rfl,ht,hR,Y⟩:=hrel;by_cases bz:t<n
  ·have bY:(t:Int)<(n:Int):=zo;have ct:=hR.cell t bz;have cf:=hR.froz t bz;have bQ:=(hR.set bz t).congr (g:=fun k=>if k<t+1 then k else 0) (by
    funext k
    by_cases e:k=t
    ·rw[if_pos e,if_pos zo];omega
    rw[if_neg e];by_cases bC:k<t
    ·rw[if_pos bC,if_pos zo]
    rw[if_neg bC,if_neg zo])
   have bT:Hid _:=bQ;clear bQ;go_wp2;go_roundw
   case rel=>exact⟨t+1,zn,zo,bT.out,Y.setCell (by have:=bf.out;simp;omega) _⟩
   case measure=>simp[intOf];omega
  have bY:¬ (t:Int)<(n:Int):=zo;obtain rfl:t=n:=zo;have bG:Kr9 wr b t (fun k=>k):=⟨hR.lt,fun i hi=>by have:=hR.cell i hi;simpa [hi] using this,hR.froz⟩;have bK:=Qbv O wr b bj Z sb kb ko kc ks H cp hs cs t (by have:=bf.out;omega) Y bB bk (hK.below bh) (hC.below bh) I;have bP:=Kyg b t t t ⟨bj,0,none⟩ ⟨Z,0,none⟩ _ ho (fun k=>k) wr zo bG (fun i hi=>hi) bK (fun i j _ h _ _=>h);unfold Kte at bP;have bS:Hid (∀ y g,Kr9 y b t g->Ju (Ksz b) wr y->Qc4 ks cs t g->Bq w y/\y.cell? (Aq Z)=some (Sq H cs.length cp)/\Cq 125 #[Sq H cs.length cp,Sq b t t] y fun e w'=>Bq y w'/\e=.returned (Sq y.heap.size cs.length cs.length)/\∃ M,Qd w' y.heap.size M (cs.map (Yq (Ktp t g)))/\Qaw y w' M cs.length):=by
   intro y g bx br bV;have bJ:Bq O y:=Y.trans (br.below (fun k I bX=>by simp only[Ksz]at bX;have:=bf.out;omega) Y.size);have U:=Jb bh bJ;have bi:=Jzq H cp hs cs t (some (Aq b)) t (Ktp t g) y (hC.below U) I.len bx.ints (fun m K=>by
    simp only[Ktp,Of0,Oj4]at K;obtain⟨i,hi,rfl⟩:=K;obtain⟨x,_,cj,e⟩:=bV.arr.at (k:=i) ⟨Ob7 _,hi⟩;right;omega) I.few (by rw[Kv7];exact bZ)
   rw[Kv7]at bi;exact⟨U,Ja bJ bk,bi⟩
  clear bK hR bG Y bk bB bh;go_wp2_with (first|(go_at_call 207;refine bP.mono ?_;rintro e y ⟨rfl,g,bx,br,bD,bH⟩;obtain⟨U,cn,bi⟩:=bS.out y g bx br ⟨bD,bH⟩)|(go_at_call 125;refine bi.mono ?_;rintro e cc ⟨bW,rfl,M,bU,bE⟩))
  go_ret
  exact⟨Jb U bW,y.heap.size,g,M,rfl,U.size,⟨bD,bH⟩,bU,fun j bL b o e=>⟨Ob2 U.size (bE j bL b o e).1,(bE j bL b o e).2⟩⟩
def Ksq (ts:List Int)(cs:List (List V))(c:Nat):List UInt8:=Jav (ts.getD c 0) 0 (cs.getD c [])
def Kr4 (ts:List Int)(cs:List (List V))(k:Nat):List UInt8:=(List.range k).flatMap (Ksq ts cs)
def Ks9 (ts:List Int)(cs:List (List V))(k:Nat):List Nat:=(List.range k).map fun c=>(Ksq ts cs c).length
theorem Ksl ts cs k:Kr4 ts cs (k+1)=Kr4 ts cs k++Ksq ts cs k:=by simp[Kr4,List.range_succ]
theorem Kzs ts cs k:Ks9 ts cs (k+1)=Ks9 ts cs k++[(Ksq ts cs k).length]:=by simp[Ks9,List.range_succ]
theorem Kww ts cs k d:(Kr4 ts cs k).length<=(Kr4 ts cs (k+d)).length:=by
 induction d with
 |zero=>exact Oa2 _
 |succ d y=>rw[<-On5,Ksl,Oa8];omega
theorem Kti ts cs k:(Ks9 ts cs k).length=k:=by simp[Ks9]
structure Ky1 (ts:List Int) (cs:List (List V)) (n:Nat):Prop where
 len:cs.length=ts.length
 vals:∀ c,c<ts.length->(cs.getD c []).length=n
 ok:∀ c,c<ts.length->way (ts.getD c 0) 0=true/\Jdq (ts.getD c 0) (cs.getD c [])
 few:1<=ts.length/\ts.length<=1000
 text:(Kr4 ts cs ts.length).length<=1000000
def Qb8 (w:World)(F:Nat->Prop)(d:Nat)(q wr:Addr)(n:Nat)(lens:List Nat)(r:DS×List Nat×Option Bool)(e:Ending)(w':World):Prop:=
 Ju F w w'/\∃ FD:Nat->Prop,Zb w' FD d (match r.2.2 with|none=>r.1|some _=>Jf4 r.1 r.2.1)/\(∀ k,FD k->F k\/w.heap.size<=k)/\(∀ k,FD k->k<w'.heap.size) /\
  match r.2.2 with
  |none=>∃ y H,e=.returned (.tuple #[.agg #[Iq (n:Nat),y,H],.nilIface])/\(Jo w' w.heap.size 3 y (lens.map nv)/\∀ g,y.ownBlock=some g->¬ FD g)/\Jo w' w.heap.size 3 H (r.2.1.map nv)/\∀ g,H.ownBlock=some g->¬ FD g
  |some x=>∃ b,e=.returned (.tuple #[.agg #[iZ,Sz,Sz],Ip 149 b])/\w.heap.size<=b/\Yu w' (Ip 149 b) (if x then q else wr) none (some (-1))/\¬ FD b
theorem Ksm {w:World}{b:Nat}{x y z:Value}{t:TypeId}(h:w.heap[b]?=some (.cells #[x,y,z] t (0,0))):w.cell? (Aq b)=some x/\w.cell? (Ar b 1)=some y/\w.cell? (Ar b 2)=some z/\∀ i,w.frozen? ⟨b,i,none⟩=false:=
 ⟨by simp[World.cell?,h],by simp[World.cell?,h],by simp[World.cell?,h],fun i=>by simp[World.frozen?,h]⟩
theorem zaQ {p:Prop}(h:p:=by
 rcases bk k y with h|h
 ·rcases hh with rfl|rfl
  ·exact U.out.1 h
  exact U.out.2 h
 omega):p:=h
theorem Qao sb tb to_ tc ts bE cp hs cs n w F d D q qw(h0:w.cell? (Aq sb)=some (Sr tb to_ ts.length tc))(Y:w.cell? (Ar sb 3)=some (Pq d))(cM:Kc w (some (Ar tb to_)) ts)(hC:Qd w bE hs cs)(Z:Ky1 ts cs n)(cf:Zb w F d D)(hF:∀ k,F k->k<w.heap.size)(hq:w.cell? (Aq 5)=some (Ie 435 q))(da:w.cell? (Aq 6)=some (Ie 435 qw))(cJ:¬ F 5)(cK:¬ F 6)(cZ:D.pages.length+(Qu (Kr4 ts cs ts.length)).length<=950000):
  Cq 286 #[Pq sb,Sq bE cs.length cp] w (Qb8 w F d q qw n (Ks9 ts cs ts.length) (Uy D (Qu (Kr4 ts cs ts.length)))):=by
 have cx:1<=cs.length:=by rw[Z.len];exact Z.few.1
 have c0:=hC.row.cell (i:=0) cx;rw[Z.vals 0 (by have:=Z.few;omega)]at c0;have cD:Hid (∀ X,Bq w X->Cq 71 #[Sq bE cs.length cp] X fun e w'=>e=.returned (Iq (n:Int))/\w'=X):=fun X ci=>Jlg bE cs.length cp _ n _ X cx (Ja ci c0);have bY:Hid (Zb w F d D/\∀ k,F k->k<w.heap.size):=⟨cf,hF⟩;have bh:=zh Z;have dw:=Z.few;clear c0 Z cf hF;go_enter func286,ntmps286
 go_upto_region 2 with(go_at_call 71;refine(cD.out _ (Jc (Oa5 _ _) _)).mono ?_;rintro e X ⟨rfl,ci⟩;subst X)
 have bJ:Bq w ((w.alloc (.cells #[iZ,Sz,Sz] 370)).alloc (.cells #[Iq (n:Nat),Sz,Sz] 370)):=Jc (Jc (Oa5 _ _) _) _;have z1:((w.alloc (.cells #[iZ,Sz,Sz] 370)).alloc (.cells #[Iq (n:Nat),Sz,Sz] 370)).heap[w.heap.size]?=some (.cells #[iZ,Sz,Sz] 370 (0,0)):=by rw[Oa9 _ _ _ zS];exact heap_alloc_new _ _
 have z2:((w.alloc (.cells #[iZ,Sz,Sz] 370)).alloc (.cells #[Iq (n:Nat),Sz,Sz] 370)).heap[w.heap.size+1]?=some (.cells #[Iq (n:Nat),Sz,Sz] 370 (0,0)):=by have h:=heap_alloc_new (w.alloc (.cells #[iZ,Sz,Sz] 370)) (.cells #[Iq (n:Nat),Sz,Sz] 370);rwa [show (w.alloc (.cells #[iZ,Sz,Sz] 370)).heap.size=w.heap.size+1 by simp]at h
 generalize (w.alloc (.cells #[iZ,Sz,Sz] 370)).alloc (.cells #[Iq (n:Nat),Sz,Sz] 370)=dj at *;obtain⟨gb,bL⟩:∃ gb,gb=w.heap.size+1:=⟨_,rfl⟩;rw[<-bL]at z2 |-;obtain⟨rb,bP⟩:∃ rb,rb=w.heap.size:=⟨_,rfl⟩;rw[<-bP]at z1 |-;have O:Hid (gb=w.heap.size+1/\rb=w.heap.size):=⟨bL,bP⟩;clear bL bP;have cH:=Ja bJ h0;go_wp2;go_loopw [7,22] (fun cA iv wr=>∃ (k:Nat) (bA:Value),cA=.string (Qw (Kr4 ts cs k))/\iv=Iq k/\k<=ts.length/\wr.heap[rb]?=some (.cells #[iZ,Sz,Sz] 370 (0,0))/\wr.heap[gb]?=some (.cells #[Iq (n:Nat),bA,Sz] 370 (0,0))/\Jo wr w.heap.size 3 bA ((Ks9 ts cs k).map nv)/\Hid (∀ g,bA.ownBlock=some g->g≠rb/\g≠gb)/\Bq w wr) (fun _ iv _=>ts.length-(intOf iv).toNat)
 case atStart=>exact⟨0,Sz,rfl,rfl,Ob7 _,z1,z2,Jo.nil _ _ _,(fun g H=>by simp[Value.ownBlock]at H),bJ⟩
 case round=>
  rename_i cA iv
  clear z1 z2 bJ cH;obtain⟨k,bA,rfl,rfl,y,z1,z2,bz,bD,K⟩:=hrel;by_cases bx:k<ts.length
  ·have cS:(k:Int)<(ts.length:Int):=zo;obtain⟨dB,dC,ca,dy,ct⟩:=Kc.at (Uh.below cM K) bx;simp at ca;obtain⟨rfl,rfl⟩:=ca;have cj:k<cs.length:=by rw[bh.out.len];exact bx
   have dx:(k:Int)<(cs.length:Int):=zo;have dl:=(hC.below K).row.cell cj;have cz:=(hC.below K).vals k cj;have cb:ts[k]=ts.getD k 0:=by rw[Oa0,Oa3 bx];rfl
   rw[cb]at ct;have cV:=Jtj (ts.getD k 0) (Yo hs k).1 (Yo hs k).2 (cs.getD k []) wr (by have:=(bh.out.ok k bx).2.1;unfold maxLen;omega) cz (bh.out.ok k bx).1 (bh.out.ok k bx).2;have dA:(Qw (Jav (ts.getD k 0) 0 (cs.getD k []))).size=(Ksq ts cs k).length:=by rw[Jb2];rfl
   have cE:Hid (Jav (ts.getD k 0) 0 (cs.getD k [])=Ksq ts cs k):=rfl;have cn:=Kww ts cs (k+1) (ts.length-(k+1));rw[show k+1+(ts.length-(k+1))=ts.length by omega,Ksl,Oa8]at cn;have cT:=bh.out.text;have dv:(Qw (Kr4 ts cs k)).size+(Ksq ts cs k).length<=1000000:=by rw[Jb2];omega
   have cC:Hid (Qw (Kr4 ts cs k)++Qw (Ksq ts cs k)=Qw (Kr4 ts cs (k+1))):=by show _=_;rw[Ksl,Kya]
   clear cb cz cn cT;generalize Jav (ts.getD k 0) 0 (cs.getD k [])=sg at *;generalize (Yo hs k).1=dD at *;generalize (Yo hs k).2=dE at *;generalize ts.getD k 0=ty at *;generalize (cs.getD k []).length=dG at *;obtain⟨_,g1,_,gf⟩:=Ksm z2;go_wp2_with (first|(go_at_call 62;refine cV.mono ?_;rintro e I ⟨rfl,bj⟩;have bH:=(bj.block rb (Jd z1)).trans z1;have bC:=(bj.block gb (Jd z2)).trans z2;have bi:=Jaw bz bj;obtain⟨_,dp,_,dr⟩:=Ksm bC)|(at_builtin;go_must (refine Ks zR _ _ 22 3 _ 8 Zw zR zd zK zR w.heap.size _ _ zR (Jo.alloc bi _) ⟨I.heap.size,0,none⟩ 1 [nv (Ksq ts cs k).length] zR (by exact Ua I _ _) (by intro u cy;simp at cy;subst cy;rfl) (by simp[Kti];omega) (by simp;have:=K.size;have:=bj.size;omega) ?_);intro sv' bV cc bI Y;obtain⟨a2,cF,rfl,_⟩:=cc.cells;have cB:bV.heap[gb]?=some (.cells #[Iq (n:Nat),bA,Sz] 370 (0,0)):=(bI.block gb (by have:=Jd bC;simp;omega) (fun e=>(bD.out gb e.symm).2 rfl)).trans ((Oa9 I _ gb (Jd bC)).trans bC);obtain⟨_,dq,_,cG⟩:=Ksm cB;have dt:=cG 1))
   go_roundw
   case rel=>
    have cW:bV.heap[rb]?=some (.cells #[iZ,Sz,Sz] 370 (0,0)):=(bI.block rb (by have:=Jd bH;simp;omega) (fun e=>(bD.out rb e.symm).1 rfl)).trans ((Oa9 I _ rb (Jd bH)).trans bH);have bM:gb≠rb:=by have:=O.out;omega
    have cu:∀ g,(Value.slice a2 ((Ks9 ts cs k).map nv++[nv (Ksq ts cs k).length]).length cF).ownBlock=some g->g≠rb/\g≠gb:=fun g H=>by
     rcases Y with Y|Y
     ·exact bD.out g (Y▸H)
     rw[Y]at H;have:=Jd bH;have:=Jd bC;simp at H;omega
    have cO:Bq w bV:=Jy (Jc (Jb K bj) _) bI fun k y=>(Je bz y).1;refine⟨k+1,_,by rw[<-cC.out,cE.out],zn,zo,?_,?_,?_,cu,cO.setCell (by have:=O.out;simp;omega) _⟩
    ·rw[Oa4 _ _ _ _ (fun e=>bM e.symm)];exact cW
    ·rw[Jk cB];simp
    rw[Kzs,Ob8];exact Yd cc fun g H=>Oa4 _ _ _ _ (cu g H).2
   case measure=>simp[intOf];omega
  obtain rfl:k=ts.length:=zo;have cS:¬ (ts.length:Int)<(ts.length:Int):=zo;have hF:=bY.out.2;have bN:=Kkq d (Kr4 ts cs ts.length) wr F D (bY.out.1.below K) (fun k y=>Oc2 (hF k y) K.size) q qw (Ja K hq) (Ja K da) cJ cK cZ bh.out.text;have du:=Ja K Y;have U:Hid (¬ F gb/\¬ F rb):=⟨fun h=>by have:=hF gb h;have:=O.out;omega,fun h=>by have:=hF rb h;have:=O.out;omega⟩;have cP:=K.size;have bM:gb≠rb:=by have:=O.out;omega
  have cX:rb≠gb:=fun e=>bM e.symm;obtain⟨a1,c1,rfl,_⟩:=bz.cells;obtain⟨r,hr⟩:∃ r,Uy D (Qu (Kr4 ts cs ts.length))=r:=⟨_,rfl⟩;rw[hr]at bN;have bZ:=zh hr;clear hr;obtain⟨E,l,x⟩:=r;cases x with
  |none=>
   go_wp2_with (go_at_call 64;refine bN.mono ?_;rintro e I ⟨br,FD,bK,bk,bO,sv,rfl,bi,cN⟩;obtain⟨a2,c2,rfl,_⟩:=bi.cells;have bB:=(br.block rb (Jd z1) U.out.2).trans z1;have di:=(br.block gb (Jd z2) U.out.1).trans z2;obtain⟨dm,g1,g2,gf⟩:=Ksm di;have ds:=gf 2;obtain⟨db,dc,dd,bf⟩:=Ksm bB;have de:=bf 0;have df:=bf 1;have dg:=bf 2)
   have M:=((((Ju.refl (fun k=>k=gb\/k=rb) I).set (.inl rfl) 2 (.slice a2 l.length c2)).set (.inr rfl) 0 (Iq (n:Nat))).set (.inr rfl) 1 (.slice a1 (Ks9 ts cs ts.length).length c1)).set (.inr rfl) 2 (.slice a2 l.length c2);have bX:((((I.setCell (Ar gb 2) (.slice a2 l.length c2)).setCell (Aq rb) (Iq (n:Nat))).setCell (Ar rb 1) (.slice a1 (Ks9 ts cs ts.length).length c1)).setCell (Ar rb 2) (.slice a2 l.length c2)).heap[rb]?=some (.cells #[Iq (n:Nat),.slice a1 (Ks9 ts cs ts.length).length c1,.slice a2 l.length c2] 370 (0,0)):=by
    have dh:(I.setCell (Ar gb 2) (.slice a2 l.length c2)).heap[rb]?=some (.cells #[iZ,Sz,Sz] 370 (0,0)):=by rw[Oa4 _ _ _ _ cX];exact bB
    have bS:=Jk dh 0 (Iq (n:Nat));have bT:=Jk bS 1 (.slice a1 (Ks9 ts cs ts.length).length c1);have bU:=Jk bT 2 (.slice a2 l.length c2);rw[bU];simp
   generalize (((I.setCell (Ar gb 2) (.slice a2 l.length c2)).setCell (Aq rb) (Iq (n:Nat))).setCell (Ar rb 1) (.slice a1 (Ks9 ts cs ts.length).length c1)).setCell (Ar rb 2) (.slice a2 l.length c2)=X at *;obtain⟨bW,x1,x2,_⟩:=Ksm bX;refine bodyPost_ret (v:=.tuple #[.agg #[Iq (n:Nat),.slice a1 (Ks9 ts cs ts.length).length c1,.slice a2 l.length c2],.nilIface]) (by simp[results,results286,go_sem,bW,x1,x2]) rfl ?_;rw[bZ.out];have cR:=Jd z2;have cY:=Jd z1;have cL:=O.out;have bQ:∀ k,FD k->¬ (k=gb\/k=rb):=fun k y hh=>by
    exact zaQ
   have bR:∀ g,(Value.slice a1 (Ks9 ts cs ts.length).length c1).ownBlock=some g->w.heap.size<=g/\g<wr.heap.size:=fun g H=>by
    have:=Je bz (by simpa using H);exact this
   have bG:Ju (fun k=>F k\/k=gb\/k=rb) wr X:=(br.mono fun k _ h=>.inl h).trans (M.mono fun k _ h=>.inr h);refine⟨(Ju.of_below K).trans' bG fun k y hh=>hh.elim id (fun h=>zo),FD,bK.stands fun k y hl=>M.block k hl (bQ k y),fun k y=>(bk k y).imp id (fun h=>zo),fun k y=>Oc2 (bO k y) M.size,_,_,rfl,⟨?_,?_⟩,?_,?_⟩
   ·have:=Yd (w':=X) bz fun g H=>bG.block g (bR g (by simpa using H)).2 (fun hh=>by
     have cv:=bD.out g H;rcases hh with h|h|h
     ·have:=hF g h;have:=(bR g (by simpa using H)).1;omega
     ·exact cv.2 h
     ·exact cv.1 h)
    simpa using this
   ·intro g H cI;have⟨o1,o2⟩:=bR g H;rcases bk g cI with h|h
    ·have:=hF g h;omega
    omega
   ·have:=Jgl (Yd (w':=X) bi fun g H=>M.block g (Qk bi H) (fun hh=>by
     have:=(Je bi H).1;omega)) cP
    unfold Jo;simpa using this
   intro g H;exact cN g (by simpa using H)
  |some x=>
   go_wp2_with (go_at_call 64;refine bN.mono ?_;rintro e I ⟨br,FD,bK,bk,bO,b1,rfl,bj,cQ,cU⟩;have bB:=(br.block rb (Jd z1) U.out.2).trans z1;obtain⟨db,dc,dd,bf⟩:=Ksm bB;have de:=bf 0;have df:=bf 1;have dg:=bf 2)
   have M:=(((Ju.refl (fun k=>k=gb\/k=rb) I).set (.inr rfl) 0 iZ).set (.inr rfl) 1 Sz).set (.inr rfl) 2 Sz;have bX:(((I.setCell (Aq rb) iZ).setCell (Ar rb 1) Sz).setCell (Ar rb 2) Sz).heap[rb]?=some (.cells #[iZ,Sz,Sz] 370 (0,0)):=by
    have bS:=Jk bB 0 iZ;have bT:=Jk bS 1 Sz;have bU:=Jk bT 2 Sz;rw[bU];simp
   generalize ((I.setCell (Aq rb) iZ).setCell (Ar rb 1) Sz).setCell (Ar rb 2) Sz=X at *;obtain⟨bW,x1,x2,_⟩:=Ksm bX;refine bodyPost_ret (v:=.tuple #[.agg #[iZ,Sz,Sz],Ip 149 b1]) (by simp[results,results286,go_sem,bW,x1,x2]) rfl ?_;rw[bZ.out];have cR:=Jd z2;have cY:=Jd z1;have cL:=O.out;have bQ:∀ k,FD k->¬ (k=gb\/k=rb):=fun k y hh=>by
    exact zaQ
   have bG:Ju (fun k=>F k\/k=gb\/k=rb) wr X:=(br.mono fun k _ h=>.inl h).trans (M.mono fun k _ h=>.inr h);exact⟨(Ju.of_below K).trans' bG fun k y hh=>hh.elim id (fun h=>zo),FD,bK.stands fun k y hl=>M.block k hl (bQ k y),fun k y=>(bk k y).imp id (fun h=>zo),fun k y=>Oc2 (bO k y) M.size,b1,rfl,zo,Ki6 cQ M zo,cU⟩
theorem Ky1.seg {ts cs n c}(h:Ky1 ts cs n)(y:c<ts.length)(hr:∀ v∈cs.getD c [],Jg v.n):Kje (Ksq ts cs c)/\Jbf (Ksq ts cs c)=some ((ts.getD c 0).toNat,0,cs.getD c [])/\(((ts.getD c 0).toNat:Nat):Int)=ts.getD c 0:=by
 have hp:Jev (ts.getD c 0) 0 (cs.getD c [])=(Ksq ts cs c,0):=by
  unfold Jev Ksq;rw[if_pos (by rw[Og5];exact⟨(h.ok c y).1,(Jfd _ _).2 (h.ok c y).2⟩),if_neg (fun x=>absurd x.1 zo)]
 obtain⟨_,_,_,ht,e,H⟩:=Kja hp;refine⟨fun t' I K M hh=>?_,Ki9 _ 0 Kj4 _ _ hp hr,ht⟩;rw[H]at hh;simp only[Oc9,Oj3]at hh;rw[<-hh.1.2.1,e];exact Ki5
def Kue (ts:List Int)(cs:List (List V))(k:Nat):List UInt8:=(Kr4 ts cs ts.length).drop (Kr4 ts cs k).length
theorem Qba ts cs k d:∃ r,Kr4 ts cs (k+d)=Kr4 ts cs k++r:=by
 induction d with
 |zero=>exact⟨[],zS⟩
 |succ d y=>obtain⟨r,hr⟩:=y;exact⟨r++Ksq ts cs (k+d),by rw[<-On5,Ksl,hr,Od8]⟩
theorem Kz0 ts cs k(h:k<ts.length):Kue ts cs k=Ksq ts cs k++Kue ts cs (k+1):=by
 obtain⟨r,hr⟩:=Qba ts cs (k+1) (ts.length-(k+1));rw[show k+1+(ts.length-(k+1))=ts.length by omega]at hr;unfold Kue;rw[hr,List.drop_left,Ksl,Od8,List.drop_left]
theorem Kzo ts cs:Kue ts cs 0=Kr4 ts cs ts.length:=by simp[Kue,Kr4]
def Qc7 (n:Nat)(la:Option Addr)(y lc:Nat)(pa:Option Addr)(pl pc:Nat):Value:=.agg #[Iq (n:Nat),.slice la y lc,.slice pa pl pc]
structure Qdb (w wr:World) (g k:Nat) (ts:List Int) (cs:List (List V)) (n:Nat) (vb:Nat->Nat):Prop where
 row:wr.rowIs g 62 ts.length (fun j=>if j<k then Sq (vb j) n n else Sz)
 low:w.heap.size<=g
 vals:∀ j,j<k->(w.heap.size<=vb j/\vb j<wr.heap.size/\vb j≠g)/\Jv wr (some (Aq (vb j))) (cs.getD j [])
theorem Ky6 sb tb to_ tc ts cs n la lc pa l pc w F d D pg a0 a1 a2(h0:w.cell? (Aq sb)=some (Sr tb to_ ts.length tc))(cu:w.cell? (Ar sb 3)=some (Pq d))(cy:Kc w (some (Ar tb to_)) ts)(M:Ky1 ts cs n)(hr:∀ c∈cs,∀ v∈c,Jg v.n)(bQ:Zb w F d D)(bT:Uh w la ((Ks9 ts cs ts.length).map nv))(cD:Uh w pa (l.map nv))(bU:l.length<=1000000)(bV:Uf D l=.inl (Kr4 ts cs ts.length))(cE:w.cell? (Aq 7)=some (Ie 435 pg))(cv:Jf0 w a0 a1 a2):
  Cq 251 #[Pq sb,Qc7 n la ts.length lc pa l.length pc] w fun e w'=>Bq w w'/\∃ g hs,e=.returned (.tuple #[Sq g cs.length cs.length,.nilIface])/\w.heap.size<=g/\Qd w' g hs cs/\Qaw w w' hs cs.length:=by
 have bG:Hid (Ky1 ts cs n/\∀ c∈cs,∀ v∈c,Jg v.n):=⟨M,hr⟩;have cA:=M.few;have cf:Hid (∀ X,Bq w X->Cq 99 #[Pq d,.slice pa l.length pc] X fun e w'=>e=.returned (.tuple #[.string (Qw (Kr4 ts cs ts.length)),.nilIface])/\Bq X w'):=fun X bf=>by
  have:=Kag d pa pc l X F D (bQ.below bf) (cD.below bf) bU pg (Ja bf cE);rw[bV]at this;exact this.mono fun e w' h=>⟨h.2,h.1⟩
 have cc:Hid (∀ X,Cq 72 #[Iq (ts.length:Int)] X fun e w'=>e=.returned (Sq X.heap.size ts.length ts.length)/\w'.rowIs X.heap.size 62 ts.length (fun _=>Sz)/\Bq X w'):=fun X=>
  (Jiz ts.length X cA.2).mono fun e w' h=>⟨h.1,by
   have:=h.2.1.row;rw[Od6]at this;exact this.congr fun j y=>by unfold Uq;rw[Oa0,Of3];split<;>rfl,h.2.2⟩
 have ci:Hid (∀ k,k<ts.length->∀ X,Bq w X->Cq 100 #[.string (Qw (Ksq ts cs k)),Iq (ts.getD k 0),Iq (n:Int)] X fun e w'=>Bq X w'/\∃ b,e=.returned (.tuple #[Sq b n n,.nilIface])/\X.heap.size<=b/\b<w'.heap.size/\Jv w' (some (Aq b)) (cs.getD k [])):=fun k bB X bf=>by
  have bS:k<cs.length:=by rw[M.len];exact bB
  obtain⟨cL,bW,cM⟩:=M.seg bB fun v hv=>hr (cs.getD k []) (by rw[Oa0,Oa3 bS];exact Ob3 bS) v hv;have hlen:(Ksq ts cs k).length<=maxLen:=by
   have bk:=Kww ts cs (k+1) (ts.length-(k+1));rw[show k+1+(ts.length-(k+1))=ts.length by omega,Ksl,Oa8]at bk;have:=M.text;unfold maxLen;omega
  refine(Jqz (Ksq ts cs k) cL (ts.getD k 0) n X hlen a0 a1 a2 (cv.below bf)).mono fun e w' h=>⟨h.1,?_⟩;rcases h.2 with⟨ty,da,vs,b,Y,bH,bi,bj,cj,bP⟩|⟨cn,_⟩
  ·rw[bW]at Y;simp only[Oc9,Oj3]at Y;obtain⟨_,_,rfl⟩:=Y;refine⟨b,by rw[bj,bi],cj,?_,bP.vals⟩;obtain⟨C,hC,_⟩:=bP;exact Jd hC
  exact absurd ⟨cM,M.vals k bB⟩ (cn _ _ _ bW)
 obtain⟨lb,lo,rfl,cY,_⟩:=bT.at (i:=0) (by rw[Oa6,Kti];omega);clear M hr bV bU bQ;unfold Qc7;go_enter func251,ntmps251
 go_upto_region 1 with fail
 have bx:=Jc (Oa5 w.heap.size w) (.cells #[Iq (n:Nat),Sr lb lo ts.length lc,.slice pa l.length pc] 370);have z1:=heap_alloc_new w (.cells #[Iq (n:Nat),Sr lb lo ts.length lc,.slice pa l.length pc] 370);generalize w.alloc (.cells #[Iq (n:Nat),Sr lb lo ts.length lc,.slice pa l.length pc] 370)=cS at *;obtain⟨H,bJ⟩:∃ H,H=w.heap.size:=⟨_,rfl⟩;rw[<-bJ]at z1 |-;have cR:=zh bJ;clear bJ;have bN:=Ja bx cu;obtain⟨cQ,x1,x2,_⟩:=Ksm z1;go_region_held3 (fun X=>X.cell? (Ar sb 3)=some (Pq d)/\X.cell? (Ar H 2)=some (.slice pa l.length pc))
  (first|(exact⟨bN,x2⟩)|(exact br)|(go_split_ands;constructor<;>assumption))
  (first|(go_at_call 99;refine(cf.out _ (Jp bx 1)).mono ?_;rintro e bO ⟨rfl,bh⟩;have br:=And.intro (Ja (Jw bh) bN) (Ja (Jw bh) x2)))
 have bz:=Jb bx (Jw bh);have z2:bO.heap[H]?=some (.cells #[Iq (n:Nat),Sr lb lo ts.length lc,.slice pa l.length pc] 370 (0,0)):=((Jw bh).block H (Jd z1)).trans z1;have bC:=Ja bz h0;clear bN cQ x1 x2 br bh bx z1;go_wp2_with (go_at_call 72;refine(cc.out _).mono ?_;rintro e cT ⟨rfl,bM,bI⟩;have U:=(bI.block H (Jd z2)).trans z2;obtain⟨bE,bZ,ca,_⟩:=Ksm U)
 have bR:=Jb bz bI;have cB:=bz.size;obtain⟨g,bK⟩:∃ g,g=bO.heap.size:=⟨_,rfl⟩;rw[<-bK]at bM |-;have bA:w.heap.size<=g:=zo;have cb:Hid (H<g):=by show _<_;rw[bK];exact Jd z2
 clear bK bI bz z2 bC cB;go_loopw [6,35] (fun bX iv wr=>∃ (k:Nat) (bD:Nat->Nat),bX=.string (Qw (Kue ts cs k))/\iv=Iq k/\k<=ts.length/\wr.heap[H]?=some (.cells #[Iq (n:Nat),Sr lb lo ts.length lc,.slice pa l.length pc] 370 (0,0))/\Qdb w wr g k ts cs n bD/\Bq w wr) (fun _ iv _=>ts.length-(intOf iv).toNat)
 case atStart=>exact⟨0,fun _=>0,by rw[Kzo],rfl,Ob7 _,U,⟨bM.congr fun j y=>by rw[if_neg (Oe0 _)],bA,fun j y=>absurd y (Oe0 _)⟩,bR⟩
 case round=>
  rename_i bX iv
  clear U bE bZ ca bM bR;obtain⟨k,bD,rfl,rfl,bB,U,hI,O⟩:=hrel;by_cases K:k<ts.length
  ·have cC:(k:Int)<(ts.length:Int):=zo;obtain⟨di,dj,Y,cX,ct⟩:=Kc.at (Uh.below cy O) K;simp at Y;obtain⟨rfl,rfl⟩:=Y;obtain⟨dg,dh,bH,_,cl⟩:=(bT.below O).at (i:=k) (by rw[Oa6,Kti];exact K);simp at bH;obtain⟨rfl,rfl⟩:=bH;have bi:((Ks9 ts cs ts.length).map nv)[k]'(by rw[Oa6,Kti];exact K)=Iq ((Ksq ts cs k).length:Nat):=(by simp[Ks9,nv]);rw[bi]at cl;have bj:ts[k]=ts.getD k 0:=by rw[Oa0,Oa3 K];rfl
   rw[bj]at ct;have cH:=ci.out k K;have Z:=Kz0 ts cs k K;have x1:=Kkb (Kue ts cs k) 0 (Ksq ts cs k).length;have x2:=Kkb (Kue ts cs k) (Ksq ts cs k).length (Kue ts cs k).length;rw[List.drop_zero,Z,List.take_left,<-Z]at x1;rw[Of2,Z,List.drop_left,<-Z]at x2;have dd:(Qw (Kue ts cs k)).size=(Kue ts cs k).length:=Jb2 _;have cZ:((Ksq ts cs k).length:Int)<=((Kue ts cs k).length:Int):=by rw[Z,Oa8];omega
   have cW:¬ ((Kue ts cs k).length:Int)<((Ksq ts cs k).length:Int):=zo;have bC:=Ja O h0;obtain⟨bE,bZ,ca,_⟩:=Ksm U;have cF:=hI.row.cell K;have db:=hI.row.frozen k;rw[if_neg (Oe3 k)]at cF;clear bi bj Z;generalize Ksq ts cs k=sg at *;generalize Kue ts cs k=rs at *;generalize ts.getD k 0=ty at *;go_wp2_with fail
   go_region_held3 (fun X=>X.cell? (Aq sb)=some (Sr tb to_ ts.length tc)/\X.cell? (Ar tb (to_+k))=some (Iq ty)/\X.cell? (Aq H)=some (Iq (n:Nat)))
    (first|(exact⟨bC,ct,bE⟩)|(exact br)|(go_split_ands;refine⟨?_,?_,?_⟩<;>assumption))
    (first|(go_at_call 100;refine(cH _ (Jp O 1)).mono ?_;rintro e cU ⟨cz,bY,rfl,cI,cJ,cK⟩;have I:=Jw cz;have br:=And.intro (Ja I bC) (And.intro (Ja I ct) (Ja I bE));have bL:=hI.row.of_block (I.block g hI.row.lt);have cG:=bL.cell K;have dc:=bL.frozen k;rw[if_neg (Oe3 k)]at cG))
   go_wp2;go_roundw
   case rel=>
    have cV:=hI.row.lt;have df:=I.size;have de:wr.heap.size<=bY:=cI;refine⟨k+1,fun j=>if j=k then bY else bD j,rfl,zn,zo,?_,⟨(bL.set k _).congr fun j y=>?_,bA,fun j y=>?_⟩,(Jb O I).setCell (p:=Ar g k) bA _⟩
    ·rw[Oa4 _ _ _ _ (by have:=cb.out;simp;omega),I.block H (Jd U)];exact U
    ·by_cases e:j=k
     ·subst e;rw[if_pos (show j=j from rfl),if_pos (show j<j+1 from On2 _),if_pos rfl]
     rw[if_neg e];by_cases bk:j<k
     ·rw[if_pos bk,if_pos zo,if_neg e]
     rw[if_neg bk,if_neg zo]
    by_cases e:j=k
    ·subst e;simp only[if_true];exact⟨⟨by have:=O.size;omega,by simpa using cJ,zo⟩,cK.of_block zS fun b o e _=>by
      injection e with e;injection e with e;exact Oa4 _ _ _ _ (by simp only;omega)⟩
    rw[if_neg e];obtain⟨⟨cN,dl,cP⟩,cO⟩:=hI.vals j zo;exact⟨⟨cN,by simp;omega,cP⟩,(cO.below I).of_block zS fun b o e _=>by
     injection e with e;injection e with e;exact Oa4 _ _ _ _ (by simp only;omega)⟩
   case measure=>simp[intOf];omega
  obtain rfl:k=ts.length:=zo;have cC:¬ (ts.length:Int)<(ts.length:Int):=zo;go_wp2;go_ret2
  have hlen:=bG.out.1.len;have fin:∃ hs:List (Option Addr×Nat),Qd wr g hs cs/\Qaw w wr hs cs.length:=by
   refine⟨(List.range cs.length).map fun j=>(some (Aq (bD j)),n),⟨?_,fun j y=>?_,fun j y=>?_⟩,fun j y b o e=>?_⟩
   ·rw[hlen];refine(Kud hI.row).congr fun j y=>?_;rw[if_pos y,bG.out.1.vals j y];simp[Yo,y]
   ·rw[hlen]at y;have:=(hI.vals j y).2;simpa [Yo,hlen,y] using this
   ·rw[hlen]at y;rw[bG.out.1.vals j y];simp[Yo,hlen,y]
   rw[hlen]at y;have:=(hI.vals j y).1;simp[Yo,hlen,y]at e;obtain⟨rfl,rfl⟩:=e;exact⟨this.1,this.2.1⟩
  obtain⟨hs,hC,cx⟩:=fin;exact⟨O,g,by rw[hlen];rfl,bA,hs,hC,cx⟩
attribute [local go_sem] Oc0
theorem Kwy (n:Nat)(bY:1<=n)(I H b off len cap g:Nat)(bA:1<=g)(bT:g<=100000)(hlen:len<=100000)(bS:len<=cap)w(bj:w.cell? (Aq I)=some (Sr b off len cap))(bi:w.cell? (Aq H)=some (Iq (g:Int)))Fx(hF:Fx I/\Fx H)(bk:∀ k,Fx k->k<w.heap.size):
  Qc3 Fence.wide n prog 287 #[Pq I,Pq H] (fun x:Nat×Nat=>#[Sr b (off+x.1) x.2 x.2]) (fun x _=>x.1+x.2<=len/\1<=x.2/\x.2<=g) (fun O x=>O++[x]=cks len g (O.length+1)) (KpB Fx) (fun y=>y=cks len g (ckN len g)) (fun O=>∃ k,k<=ckN len g/\O=cks len g k) (ckN len g) w:=by
 intro l J bR W hW br bO bz h0;have bI:Hid (∀ s A,J s A->J s A.drew):=fun s A h=>br s A A.drew none h ⟨rfl,rfl,rfl,Oa2 _,fun _ _ _=>rfl⟩ (fun r e=>by cases e);have bL:=zh bz;have bM:=Ja hW bj;have bh:=Ja hW bi;have U:Hid ((Fx I/\Fx H)/\∀ k,Fx k->k<W.heap.size):=⟨hF,fun k bB=>Oc2 (bk k bB) hW.size⟩;clear bz hF bk bj bi br bO hW;refine callsIn_of_wp func287 rfl trivial ?_ rfl;simp only[ntmps287,Om3,List.length_cons,List.length_nil,Nat.reduceAdd,Nat.reduceSub,Ok9,Array.replicate_zero,Om4,Ol2,List.nil_append,List.cons_append];gi_wp2
 gi_loopw [4] (fun i wr=>∃ (k:Nat) (y:List (Nat×Nat)),k<=ckN len g/\i=Iq ((k*g:Nat):Int)/\Hid (y=cks len g k)/\J y wr/\KpB Fx W wr)
  (fun i _=>len+100000-(intOf i).toNat)
 case atStart=>exact⟨0,[],Ob7 _,zS,rfl,h0,Oa2 _,fun _ _=>rfl⟩
 case round=>
  obtain⟨k,y,bB,rfl,K,bx,Y⟩:=hrel;have c1:wr.cell? (Aq I)=some (Sr b off len cap):=by rw[Oc3 (w:=W) (Y.2 I U.out.1.1)];exact bM
  have c2:wr.cell? (Aq H)=some (Iq (g:Int)):=by rw[Oc3 (w:=W) (Y.2 H U.out.1.2)];exact bh
  by_cases bE:k*g<len
  ·have bC:=Khi bA bE;have M:Hid (cks len g (k+1)=cks len g k++[(k*g,min g (len-k*g))]):=Jbj len g k;have bK:Hid ((k+1)*g=k*g+g):=Of5 k g;have bH:y.length=k:=by have:=congrArg List.length K.out;rw[Jbp]at this;exact this
   generalize k*g=i at *;obtain⟨m,bG,Z⟩:∃ m:Nat,(i+m<=len/\1<=m/\m<=g)/\Hid (m=min g (len-i)):=⟨min g (len-i),zo,rfl⟩;rw[<-Z.out]at M;have bX:min (g:Int) ((len-i:Nat):Int)=(m:Int):=by have:=Z.out;omega
   have bZ:((i:Int)+(m:Int)).toNat-i=m:=zo;obtain⟨fn,tmps,assign,body,hy,hR⟩:=bL.out y (i,m) wr.drew (bI.out _ _ bx) bG (by rw[bH,K.out,M.out]) zo;dsimp only at hy;clear bH;obtain⟨bU,bV,bW⟩:=bG;gi_wp2
   gi_region
   gi_wp2
   refine hR.mono ?_;rintro e bf (⟨rfl,bN,bQ⟩|⟨rfl,bP⟩)
   ·have bD:KpB Fx W bf:=Y.trans bQ;have c3:bf.cell? (Aq H)=some (Iq (g:Int)):=by rw[Oc3 (w:=W) (bD.2 H U.out.1.2)];exact bh
    gi_wp2
    go_roundw
    case rel=>exact⟨k+1,y++[(i,m)],bC,by rw[bK.out];go_num,by show _=_;rw[K.out,M.out],bN,bD⟩
    case measure=>simp[intOf];omega
   gi_wp2
   refine bodyPost_ret (results_none rfl _ _ _) rfl ?_;exact⟨⟨_,rfl⟩,.inr ⟨_,⟨k+1,bC,by rw[K.out,M.out]⟩,bP⟩⟩
  have bJ:Hid (k=ckN len g):=by
   rcases Oc1 k (ckN len g)with h'|h'
   ·exact absurd (Jqs bA h') bE
   ·show k=_;omega
  gi_wp2
  go_end0
  exact⟨⟨_,rfl⟩,.inl ⟨y,by rw[K.out,bJ.out],bx⟩⟩
theorem Kw8 a(n c g:Nat)(y:1<=g)w:Cq 249 #[.slice a n c,Iq (g:Int)] w fun e w'=>e=.returned (.func (.func 287) #[] #[Pq w.heap.size,Pq (w.heap.size+1)])/\w'=(w.alloc (.cells #[.slice a n c] 323)).alloc (.cells #[Iq (g:Int)] 3):=by
 have H:¬ (g:Int)<1:=zo;go_enter func249,ntmps249
 go_wp2;go_ret
 exact⟨rfl,rfl⟩
theorem Kz5 O st D Ts name at_ ar H ct cr ch ts hs xs rs g w(h:Sto O w st D Ts)(bE:Kct w name at_ ar H cr ts hs xs rs)(bG:∀ b o,at_=some (Ar b o)->¬ O b)(bT:D.pages.length<=800000)a0 a1 a2 br q wr pg pl ex ta w0(bJ:Jax w0 a0 a1 a2 br q wr pg pl ex ta)(bM:Bq w0 w){c}(hr:Jbd D Ts name ts hs rs g=.dict c):
  Cq 8 #[Pq st,Jvc name at_ ar ct cr ts rs,.slice H hs.length ch,Iq g] w fun e w'=>Jy0 O w st D Ts (.dict c) e w':=by
 have bK:=h;have bi:=bJ.below bM;obtain⟨⟨d,s,F,G,sv,bs,bx,bz,bA,bB,bC,bD,bZ,ca,cb,bY,hM⟩,bS⟩:=h;obtain⟨W,hW⟩:∃ W,W=(w.alloc (Jln name at_ ar ct cr ts rs)).alloc Ka:=⟨_,rfl⟩;have y:Bq w W:=by rw[hW];exact((Oa5 _ w).alloc (Oa2 _) _).alloc zS _
 have I:Bq w W.drew:=⟨y.os,y.tape,y.output,y.size,y.block⟩;have bj:=bi.below I;have bH:=bE.below I;obtain⟨cc,bW,n3,cf,ci,cj,cn⟩:=Jim bi.m;have bh:=fun (M1:Nat->Prop) (bI:∀ k,M1 k->k<w.heap.size) (bU:¬ M1 st) (c nd col bX:Int) (P:World->Prop) K=>Ju9 st s name (.slice at_ ts.length ct) (.slice ar rs.length cr) at_ ar H ts.length ct rs.length cr hs.length ch rfl rfl g w M1 bI bU bx.field.2 c nd col bX P K;have bL:(w.alloc (.cells #[.string name,.slice at_ ts.length ct,.slice ar rs.length cr] 25)).alloc Ka=W:=hW.symm;rw[bL]at bh;unfold Jbd at hr;split at hr
 ·rename_i bk
  split at hr
  ·cases hr
  rename_i bV
  have bO:((g.toNat:Nat):Int)=g:=zo;have bP:Jqy W.drew s d F G D Ts sv bs name at_ ar H cr ts hs xs rs g.toNat:=
   ⟨bH,bk.1,bk.2.1,zo,zo,bz.below I,fun bf=>bV (.inl bf),zo,bA.below I,fun k bQ=>Oc2 (bS k (hM k (bQ.elim .inl fun a=>.inr (.inl a)))) I.size,bB,bC,bD,fun b o hb bf=>bG b o hb (hM b (.inl bf)),bT,fun x _=>Kvf x⟩
  rcases hp:Jfg rs ts hs (cks rs.length g.toNat (ckN rs.length g.toNat))with T|c'
  ·rw[hp]at hr;simp only at hr;split at hr<;>cases hr
  rw[hp]at hr;cases hr
  have K:=Kye s d F G D Ts sv bs name at_ ar H ct cr ch ts hs xs rs g.toNat W.drew bP a0 a1 a2 bj.e c hp;rw[bO]at K;refine(bh (fun _=>False) (fun _ h=>h.elim) id 2 (-1) (c:Int) (-1) (fun M=>Bq W M) (K.mono fun e M ⟨Y,b,Z,bN⟩=>⟨_,Z,Ju.of_below (Jw Y),Jw Y,?_⟩)).mono fun e w' ⟨Z,M,hp,_,bR⟩=>Kyv bK y hp bR _ rfl rfl e Z;have U:=bj.below Y;have:=Jj9 _ a1 (some (c:Int)) none M bN U.e.b1 a0 a1 a2 br q wr pg zS U.e U.m;rw[bW]at this;exact this
 cases hr
