/- A store's calls that tell: Tables, Used, Scan. -/
import Derived.Test.YtnlnlamdilifcaaGreatDoorTo
import Derived.Test.YtnlnlamdilifcaaGreatDoorAf
set_option maxHeartbeats 1000000
set_option maxRecDepth 100000
namespace Go.Proofs.YtnlnlamdilifcaaGreatDoor
section
open Go.RowKit Go.Shelf Tryz
def Jdu (w:World)(st d s:Nat):Prop:=w.heap[st]?=some (.cells #[Pq d,Pq s] 81 (0,0))
theorem Jdu.field {w st d s}(h:Jdu w st d s):w.cell? (Aq st)=some (Pq d)/\w.cell? (Ar st 1)=some (Pq s):=by
 unfold Jdu at h;simp[World.cell?,h]
theorem Qbn st w F s d D(H:Jdu w st d s)(y:Zb w F d D):
  Cq 12 #[Pq st] w fun e w'=>e=.returned (Iq ((Js D.pages:Nat):Int))/\w'=w:=by
 obtain⟨c0,_⟩:=H.field;have I:=Qay d w F D y;clear y H;go_enter func12,ntmps12
 go_wp2_with (go_at_call 27;refine I.mono ?_;rintro e K ⟨rfl,rfl⟩)
 go_ret
 exact⟨rfl,rfl⟩
def Jr7 (w:World)(r:Option (List (List V)⊕Nat))(e:Ending)(w':World):Prop:=
 Bq w w'/\match r with
  |none=>e=.returned (.tuple #[Sz,Jbz 4 (-1) (-1)])
  |some (.inl rs)=>∃ g bs,e=.returned (.tuple #[Sq g rs.length rs.length,Jb6 0])/\Jcu w' w.heap.size g bs rs
  |some (.inr j)=>e=.returned (.tuple #[Sz,Jbz 7 (-1) (j:Int)])
theorem Jhu rv v c nd row col pg w(hv:∃ ty x,v=.iface ty x)(hF:∀ W,Bq w W->Cq 24 #[v] W fun e w'=>e=.returned (Ko c nd row col pg)/\Bq W w'):
  Cq 29 #[rv,v] w fun e w'=>e=.returned (.tuple #[Sz,Ko c nd row col pg])/\Bq w w':=by
 obtain⟨ty,x,rfl⟩:=hv;have y:Bq w (w.alloc (.cells #[iZ,iZ,iZ,iZ,iZ] 39)):=(Oa5 _ _).alloc (Oa2 _) _;have I:=hF _ y;clear hF;go_enter func29,ntmps29
 go_wp2_with fail
 refine I.mono ?_;rintro e U ⟨rfl,H⟩;obtain⟨M,O⟩:=Kx H;have K:=Jb y H;go_wp2;exact bodyPost_ret (v:=.tuple #[Sz,Ko c nd row col pg]) (by simp[results,results29,go_sem,M]) rfl ⟨rfl,Um K (Oa2 _) _ _ _ _ _⟩
theorem zad {p:Prop}(h:p:=by rw[Oa4 _ _ _ _ (by show b≠w.heap.size;omega),Oa4 _ _ _ _ (by show b≠w.heap.size;omega),Oa4 _ _ _ _ (by show b≠w.heap.size;omega),Oa4 _ _ _ _ (by show b≠w.heap.size;omega),Oa4 _ _ _ _ (by show b≠w.heap.size;omega)]):p:=h
theorem Jz3 g bh cs n B w(U:Jar w B g bh cs)(bx:∀ i,i<cs.length->(cs.getD i []).length=n)(bi:1<=cs.length)(bj:cs.length<=1000)(bB:n<=10000):
  Cq 29 #[Sq g cs.length cs.length,.nilIface] w fun e w'=>Bq w w'/\∃ O bs,e=.returned (.tuple #[Sq O n n,Jb6 0])/\Jcu w' w.heap.size O bs (Qf n cs):=by
 have Y:Bq w (w.alloc (.cells #[iZ,iZ,iZ,iZ,iZ] 39)):=(Oa5 _ _).alloc (Oa2 _) _;have bE:=run_neq_nil_nil (P:=prog);have H:=U.below Y;have bf:=Jo4 g cs.length bh cs n _ (Kud H.row) H.len (fun i hi=>(H.own i hi).vals) bx bi bj bB;clear U H;go_enter func29,ntmps29
 go_wp2_with fail
 refine bf.mono ?_;rintro e w1 ⟨rfl,⟨I,bA⟩,Z⟩;clear bf;go_wp2_with fail
 refine(Jjq w1).mono ?_;rintro e bH ⟨rfl,K⟩;have bk:=Jb Y Z;obtain⟨bC,bG⟩:=Kx (Jb Z K);have br:=Jb bk K;have M:=bA.below K;rw[Oa7]at M;have bz:=M.from_;have low:∀ X:World,Jcu X (w.heap.size+1) (w.heap.size+1) I (Qf n cs)->Jcu X w.heap.size (w.heap.size+1) I (Qf n cs):=fun X y=>⟨y.len,y.outer,y.rows,⟨by have:=y.from_.1;omega,fun b hb=>⟨by have:=(y.from_.2 b hb).1;omega,(y.from_.2 b hb).2⟩⟩,y.nodup⟩;go_wp2;refine bodyPost_ret (v:=.tuple #[Sq (w.heap.size+1) n n,Jb6 0]) (by simp[results,results29,go_sem,bC]) rfl ⟨Um br (Oa2 _) _ _ _ _ _,?_⟩;refine⟨w.heap.size+1,I,rfl,?_⟩;refine low _ (M.of_blocks ?_ (fun b hb=>?_))
 ·rw[Oa4 _ _ _ _ (by show w.heap.size+1≠w.heap.size;omega),Oa4 _ _ _ _ (by show w.heap.size+1≠w.heap.size;omega),Oa4 _ _ _ _ (by show w.heap.size+1≠w.heap.size;omega),Oa4 _ _ _ _ (by show w.heap.size+1≠w.heap.size;omega),Oa4 _ _ _ _ (by show w.heap.size+1≠w.heap.size;omega)]
 have bD:=(bz.2 b hb).1;exact zad
theorem zam {p:Prop}(h:p:=by rw[Oa4 _ _ _ _ (by show y≠w.heap.size;omega),Oa4 _ _ _ _ (by show y≠w.heap.size;omega),Oa4 _ _ _ _ (by show y≠w.heap.size;omega),Oa4 _ _ _ _ (by show y≠w.heap.size;omega),Oa4 _ _ _ _ (by show y≠w.heap.size;omega)]):p:=h
theorem Kej st n w F G s d D Ts sv bs(bI:Jdu w st d s)(h:Jfl w G s d Ts sv bs)(bC:Zb w F d D)(bz:∀ T∈Ts,Jid D T)a0 a1 a2 et q wr pg(bx:Jf0 w a0 a1 a2)(U:Jkn w a0 a1 a2 et q wr pg):
  Cq 17 #[Pq st,.string n] w fun e w'=>Jr7 w (Jf8 D Ts n) e w':=by
 have M:Bq w (w.alloc (.cells #[iZ,iZ,iZ,iZ,iZ] 39)):=(Oa5 _ _).alloc (Oa2 _) _;have c1:=Ja M bI.field.2;have bH:=Jou n _ F G s d D Ts sv bs (h.below M) (bC.below M) bz a0 a1 a2 (bx.below M) et pg (U.below M).cp (U.below M).ct;obtain⟨_,_,_,bP,_,_,bQ⟩:=Jim U;have bN:=Keq D Ts n bz;clear h bC bz bI;go_enter func17,ntmps17
 go_wp2_with fail
 refine bH.mono ?_;clear bH;rintro e w1 ⟨Z,hp⟩;have bf:=Jb M Z;rcases bN with⟨hr,I⟩|⟨j,hr,I⟩|⟨cs,m,hr,I,bU,bM,bS,bA⟩
 ·rw[hr]at hp;simp only at hp;subst hp;have Y:=zh I;have bi:∀ W,Bq w1 W->Cq 24 #[Ie 435 et] W fun e w'=>e=.returned (Ko 4 (-1) (-1) (-1) (-1))/\Bq W w':=fun W hW=>by
   have O:=Jb bf hW;have:=Jj9 _ et none none W (.root et) (Kg O U.bt) a0 a1 a2 et q wr pg zS (bx.below O) (U.below O);rw[bP]at this;exact this
  have bj:=Jhu Sz _ 4 (-1) (-1) (-1) (-1) w1 ⟨_,_,rfl⟩ bi;clear hr I bi;go_wp2_with fail
  refine bj.mono ?_;rintro e bK ⟨rfl,H⟩;obtain⟨bk,bJ⟩:=Kx (Jb Z H);have bh:=Jb bf H;go_wp2;exact bodyPost_ret (v:=.tuple #[Sz,Jbz 4 (-1) (-1)]) (by simp[results,results17,go_sem,bk]) rfl ⟨Um bh (Oa2 _) _ _ _ _ _,by rw[Y.out]⟩
 ·rw[hr]at hp;obtain⟨b,rfl,bL,bB⟩:=hp;have Y:=zh I;have bi:∀ W,Bq w1 W->Cq 24 #[Ip 106 b] W fun e w'=>e=.returned (Ko 7 (-1) (-1) (-1) (j:Int))/\Bq W w':=fun W hW=>by
   have O:=Jb bf hW;have:=Jj9 _ pg (some (-1)) (some (j:Int)) W (bB.below hW) (Kg O U.bp) a0 a1 a2 et q wr pg zS (bx.below O) (U.below O);rw[bQ]at this;exact this
  have bj:=Jhu Sz _ 7 (-1) (-1) (-1) (j:Int) w1 ⟨_,_,rfl⟩ bi;clear hr I bi bB;go_wp2_with fail
  refine bj.mono ?_;rintro e bK ⟨rfl,H⟩;obtain⟨bk,bJ⟩:=Kx (Jb Z H);have bh:=Jb bf H;go_wp2;exact bodyPost_ret (v:=.tuple #[Sz,Jbz 7 (-1) (j:Int)]) (by simp[results,results17,go_sem,bk]) rfl ⟨Um bh (Oa2 _) _ _ _ _ _,by rw[Y.out]⟩
 rw[hr]at hp;obtain⟨g,bR,rfl,bE⟩:=hp;have Y:=zh I;have bj:=Jz3 g bR cs m _ w1 bE bA bM zo zo;clear hr I bA bE;go_wp2_with fail
 refine bj.mono ?_;rintro e bK ⟨H,y,br,rfl,bG⟩;obtain⟨bk,bJ⟩:=Kx (Jb Z H);have bh:=Jb bf H;have bD:=bG.from_;have bO:=Z.size;rw[Oa7]at bO;have low:∀ X:World,Jcu X w1.heap.size y br (Qf m cs)->Jcu X w.heap.size y br (Qf m cs):=fun X K=>⟨K.len,K.outer,K.rows,⟨by have:=K.from_.1;omega,fun b hb=>⟨by have:=(K.from_.2 b hb).1;omega,(K.from_.2 b hb).2⟩⟩,K.nodup⟩;go_wp2;refine bodyPost_ret (v:=.tuple #[Sq y m m,Jb6 0]) (by simp[results,results17,go_sem,bk]) rfl ⟨Um bh (Oa2 _) _ _ _ _ _,?_⟩;rw[Y.out];refine⟨y,br,by rw[Uu],?_⟩;refine low _ (bG.of_blocks ?_ (fun b hb=>?_))
 ·have bT:=bD.1;exact zam
 have bL:=(bD.2 b hb).1;exact zad
theorem Kzz st n w F G s d D Ts sv bs(bz:Jdu w st d s)(h:Jfl w G s d Ts sv bs)(bh:Zb w F d D)(Y:∀ T∈Ts,Jid D T)a0 a1 a2 et q wr pg(bE:Jf0 w a0 a1 a2)(br:Jkn w a0 a1 a2 et q wr pg){x}(M:Jf8 D Ts n=some (.inl x)):
  Cq 17 #[Pq st,.string n] w fun e w'=>Jr7 w (Jf8 D Ts n) e w':=by
 have I:Bq w (w.alloc (.cells #[iZ,iZ,iZ,iZ,iZ] 39)):=(Oa5 _ _).alloc (Oa2 _) _;have c1:=Ja I bz.field.2;have bx:=Jou n _ F G s d D Ts sv bs (h.below I) (bh.below I) Y a0 a1 a2 (bE.below I) et pg (br.below I).cp (br.below I).ct;have bG:=Keq D Ts n Y;clear h bh Y bz;go_enter func17,ntmps17
 go_wp2_with fail
 refine bx.mono ?_;clear bx;rintro e w1 ⟨U,hp⟩;have bB:=Jb I U;rcases bG with⟨hr,K⟩|⟨j,hr,K⟩|⟨cs,m,hr,K,bO,bD,bM,bf⟩
 ·rw[K]at M;cases M
 ·rw[K]at M;cases M
 rw[hr]at hp;obtain⟨g,bK,rfl,bj⟩:=hp;have bA:=zh K;have bH:=Jz3 g bK cs m _ w1 bj bf bD zo zo;clear hr K M bf bj;go_wp2_with fail
 refine bH.mono ?_;rintro e bQ ⟨Z,y,O,rfl,bk⟩;obtain⟨bJ,bP⟩:=Kx (Jb U Z);have bC:=Jb bB Z;have bi:=bk.from_;have bI:=U.size;rw[Oa7]at bI;have low:∀ X:World,Jcu X w1.heap.size y O (Qf m cs)->Jcu X w.heap.size y O (Qf m cs):=fun X H=>⟨H.len,H.outer,H.rows,⟨by have:=H.from_.1;omega,fun b hb=>⟨by have:=(H.from_.2 b hb).1;omega,(H.from_.2 b hb).2⟩⟩,H.nodup⟩;go_wp2;refine bodyPost_ret (v:=.tuple #[Sq y m m,Jb6 0]) (by simp[results,results17,go_sem,bJ]) rfl ⟨Um bC (Oa2 _) _ _ _ _ _,?_⟩;rw[bA.out];refine⟨y,O,by rw[Uu],?_⟩;refine low _ (bk.of_blocks ?_ (fun b hb=>?_))
 ·have bN:=bi.1;exact zam
 have bL:=(bi.2 b hb).1;exact zad
theorem Zh (W:World)(B:Nat)(H I K M O:Value)(k:Nat)(y:k≠B):(((((W.setCell (Aq B) H).setCell (Ar B 1) I).setCell (Ar B 2) K).setCell (Ar B 3) M).setCell (Ar B 4) O).heap[k]?=W.heap[k]?:=by
 rw[Oa4 _ _ _ _ y,Oa4 _ _ _ _ y,Oa4 _ _ _ _ y,Oa4 _ _ _ _ y,Oa4 _ _ _ _ y]
theorem Jg2 (W:World)(B:Nat)(y H I K M:Value):(((((W.setCell (Aq B) y).setCell (Ar B 1) H).setCell (Ar B 2) I).setCell (Ar B 3) K).setCell (Ar B 4) M).heap.size=W.heap.size:=by simp[World.setCell]
end
section
open Go.RowKit
theorem Jhi x rest:Jat x.length (x++rest)=some (x,rest):=by
 unfold Jat;rw[if_pos zS];simp
def Jg (n:Int):Prop:=-9223372036854775808<=n/\n<=9223372036854775807
theorem Ka1 u:∀ k,Jeh ((List.range k).map fun i=>UInt8.ofNat (u / 256 ^ i % 256))=u % 256 ^ k:=by
 intro k;induction k with
 |zero=>simp[Jeh,Nat.mod_one]
 |succ k y=>
  rw[Oj7,Ob8,Oe4,Oi4,Jlf,y];have H:u / 256 ^ k % 256<256:=Ol0 _ zd;have e:(UInt8.ofNat (u / 256 ^ k % 256)).toNat=u / 256 ^ k % 256:=by
   simp
  rw[e,Oa6,Op1,Nat.mod_pow_succ,Nat.mul_comm]
theorem Jza u(h:u<18446744073709551616):Jeh (le8 u)=u:=by
 unfold le8;rw[Ka1];have y:256 ^ 8=18446744073709551616:=zd;exact Oi5 zo
theorem Jsf n(h:Jg n):wrap64 ((u64 n:Nat):Int)=n:=by
 unfold Jg at h;unfold wrap64 u64;omega
theorem Jh5 n rest(h:Jg n):Jc7 (le8 (u64 n)++rest)=some (n,rest):=by
 have e:=Jhi (le8 (u64 n)) rest;rw[Jc4]at e;unfold Jc7;rw[e];simp only;rw[Jza _ (Jp3 n),Jsf n h]
theorem Jgf (n:Nat)(h:n<256):(low (n:Int)).toNat=n:=by
 unfold low;have e:((n:Int) % 256).toNat=n:=zo;rw[e];simp;omega
theorem Je8 (n:Nat)rest(h:n<256):Ur (low (n:Int)::rest)=some (n,rest):=by
 simp[Ur,Jgf n h]
def okT (t:Int)(v:V):Prop:=v.k=t/\okK v.k v.n v.s=true/\Jg v.n
theorem Jit s(h:s.toList.isEmpty=true):s=Qw []:=by
 rw[List.isEmpty_iff]at h;rw[<-Zf s,h]
theorem Jj3 t v rest(h:okT t v):Qz t (enc v.k v.n v.s++rest)=some (v,rest):=by
 obtain⟨I,y,hr⟩:=h;obtain⟨k,n,s⟩:=v;simp only at I y hr;subst I;unfold okK at y;simp only[decide_eq_true_eq]at y;rcases y with⟨rfl,hs⟩|⟨rfl,K,hs⟩|⟨rfl,rfl,hs⟩
 ·have:=Jit s hs;subst this;have e:enc 1 n (Qw [])=le8 (u64 n):=rfl;unfold Qz;rw[if_pos rfl];simp only[e,Jh5 n rest hr];rfl
 ·have:=Jit s hs;subst this;have e:enc 2 n (Qw [])=[low n]:=rfl;unfold Qz;rw[if_neg zd,if_pos rfl];simp only[e];rcases K with rfl|rfl
  ·rfl
  rfl
 have e:enc 3 0 s=low (s.size:Nat)::s.toList:=rfl;have hl:s.toList.length=s.size:=by rw[Og4,Array.length_toList];rfl
 unfold Qz;rw[if_neg zd,if_neg zd];simp only[e];have H:=Jhi s.toList rest;rw[hl]at H;unfold Jne;rw[List.cons_append,Je8 _ _ zo];simp only[H,Option.map_some,Zf]
theorem Jmy t:∀ (vs:List V) (rest:List UInt8),(∀ v∈vs,okT t v)->Yl t vs.length (Yv vs++rest)=some (vs,rest):=by
 intro vs;have key:∀ (n:Nat) (vs:List V) (rest:List UInt8),vs.length=n->(∀ v∈vs,okT t v)->Yl t n (Yv vs++rest)=some (vs,rest):=by
  intro n;induction n with
  |zero=>intro vs rest H _;rw[Od3]at H;subst H;rfl
  |succ n U=>
   intro vs rest H I;obtain⟨y,v,rfl⟩:∃ y v,vs=y++[v]:=⟨vs.dropLast,vs.getLast (by intro e;simp[e]at H),(List.dropLast_concat_getLast _).symm⟩;have O:y.length=n:=by simpa using H
   have K:=U y (enc v.k v.n v.s++rest) O fun u M=>I u (by simp[M]);have e:Yv (y++[v])++rest=Yv y++(enc v.k v.n v.s++rest):=by rw[Jjz,Od8]
   rw[e,Yl,K];simp only;rw[Jj3 t v rest (I v zS)];rfl
 intro rest I;exact key vs.length vs rest rfl I
theorem Jwf L j(I:j<L.length):Jn6 (Kk L) j=L.getD j false:=by
 have H:j / 8<(L.length+7) / 8:=zo;have e:((Kk L).getD (j / 8) 0).toNat=Jag L (j / 8):=by
  have hb:=Ji4 L (j / 8);simp[Kk,H];omega
 unfold Jn6;rw[e,Yx];have y:8*(j / 8)+j % 8=j:=zo;rw[y];have:j % 8<8:=Ol0 _ zd;simp[this]
theorem Kbi x i n:∀ b,(∀ k,k<b->Jn6 x (i+k)=n.testBit k)->Zc x i b=n % 2 ^ b:=by
 intro b;induction b with
 |zero=>intro _;simp[Zc,Nat.mod_one]
 |succ b y=>
  intro h;rw[Zc,y fun k H=>h k zo,h b zo,Nat.mod_pow_succ,On1];have I:n / 2 ^ b % 2<2:=Ol0 _ zd;generalize n / 2 ^ b % 2=m at *;have:m=0\/m=1:=zo;rcases this with rfl|rfl<;>simp
theorem Jct y ns rest(h:∀ n∈ns,n<2 ^ y):Yj y ns.length (Kk (Ue y ns)++rest)=some (ns,rest):=by
 have e:=Jhi (Kk (Ue y ns)) rest;rw[Qb,Jal]at e;unfold Yj;rw[e];simp only[Oc9,Oj3,and_true];apply Oh4
 ·simp
 intro i U K;have hi:i<ns.length:=K;rw[Od9,Oo7];have hb:Zc (Kk (Ue y ns)) (y*i) y=ns[i] % 2 ^ y:=by
  apply Kbi;intro k M;have I:=Jms y ns i k hi M;have O:y*i+k<(Ue y ns).length:=by
   rcases Oc1 (y*i+k) (Ue y ns).length with H|H
   ·exact H
   rw[Ob4 H]at I;simp at I
  rw[Jwf _ _ O,Oa0,I];rfl
 rw[hb,Oi5 (h _ (Ob3 hi))]
theorem Jt2 (d:List V)(v:V)(h:v∈d):d.getD (place d v) Jf=v:=by
 induction d with
 |nil=>simp at h
 |cons u d H=>
  by_cases e:u.beq v=true
  ·have:=(V.beq_iff u v).1 e;subst this;simp only[place,e,if_true];rfl
  have y:u≠v:=(V.beq_false u v).1 (by simpa using e);have:v∈d:=by rcases Of1.1 h with rfl|h;exact absurd rfl y;exact h
  simp only[place,e,Ol9,if_false];rw[List.getD_cons_succ];exact H this
theorem Jwb t xs rest(M:∀ v∈xs,okT t v)(O:(Ym [] xs).length<=16):Jdd t xs.length (Jds xs++rest)=some (xs,rest):=by
 have K:∀ v∈Ym [] xs,v∈xs:=fun v hv=>by
  rcases Jlj xs [] v hv with h|h
  ·simp at h
  exact h
 have I:∀ v∈xs,v∈Ym [] xs:=fun v hv=>Jr9 xs [] v hv;unfold Jds Jdd;generalize Ym [] xs=d at *;rw[List.cons_append,List.cons_append,Je8 _ _ zo];simp only;rw[Od8,Jmy t d _ fun v hv=>M v (K v hv)];simp only;have hp:∀ n∈xs.map (place d),n<d.length:=by
  intro n y;obtain⟨v,hv,rfl⟩:=Of0.1 y;exact Jfh d v (I v hv)
 have H:=Jct 4 (xs.map (place d)) rest fun n y=>by have:=hp n y;omega
 rw[Oa6]at H;rw[H];simp only;rw[if_pos hp,Oi6];simp only[Oc9,Oj3,and_true];conv=>rhs;rw[<-List.map_id xs]
 apply Oj9;intro v hv;exact Jt2 d v (I v hv)
theorem Jrl v l:l=List.replicate (Qe v l) v++l.drop (Qe v l):=by
 induction l with
 |nil=>simp[Qe]
 |cons u l y=>
  by_cases e:u.beq v=true
  ·have:=(V.beq_iff u v).1 e;subst this;simp only[Qe,e,if_true,List.replicate_succ,List.cons_append,List.drop_succ_cons];rw[<-y]
  simp[Qe,e]
theorem Jv0 t:∀ (N:Nat) (xs:List V) (rest:List UInt8),xs.length<=N->xs.length<=64->(∀ v∈xs,okT t v)->Jbh t xs.length (Yc xs++rest)=some (xs,rest):=by
 intro N;induction N with
 |zero=>
  intro xs rest H _ _;have:xs=[]:=Od3.1 zo;subst this;rw[Jgc];simp[Jb9]
 |succ N Z=>
  intro xs rest H M K;cases xs with
  |nil=>rw[Jgc];simp[Jb9]
  |cons v l=>
   have hp:=Jhn v l;have I:=Jjn v (v::l);have U:=Jrl v (v::l);rw[Je9];generalize Qe v (v::l)=n at *;rw[List.length_cons,Jay,List.cons_append,List.cons_append,Je8 _ _ zo];simp only[List.length_cons]at I;simp only[hp,I,and_self,dite_true];rw[Od8,Jj3 t v _ (K v zS)];simp only;have O:((v::l).drop n).length=l.length+1-n:=by rw[Of7,List.length_cons]
   simp only[List.length_cons]at H M;have y:=Z ((v::l).drop n) rest zo zo fun u Y=>K u (Oh7 Y);rw[O]at y;rw[y];simp only[Option.map_some];rw[<-U]
theorem Ju8 t least n(h:Jg n):Jbq t least (dif n least)=⟨t,n,⟨#[]⟩⟩:=by
 unfold Jg at h;unfold Jbq dif u64;rw[Oh5,Oh5];have e:wrap64 ((least % 18446744073709551616+(((n-least) % 18446744073709551616).toNat:Int)) % 18446744073709551616)=n:=by
  unfold wrap64;omega
 rw[e]
theorem Ken l:∀ m,m<=Yz m l/\∀ n∈l,n<=Yz m l:=by
 induction l with
 |nil=>intro m;simp[Yz]
 |cons x l I=>
  intro m;unfold Yz;by_cases H:m<x
  ·rw[if_pos H];have:=I x;refine⟨zo,fun n y=>?_⟩;rcases Of1.1 y with rfl|y
   ·exact this.1
   exact this.2 n y
  rw[if_neg H];have:=I m;refine⟨this.1,fun n y=>?_⟩;rcases Of1.1 y with rfl|y
  ·omega
  exact this.2 n y
theorem Kai n:n<2 ^ bitLen n:=by
 unfold bitLen;split
 ·rename_i h
  rw[h];decide
 exact Nat.lt_log2_self
theorem Jpm l:∀ m,Jg m->(∀ v∈l,Jg v.n)->Jg (Jn m l):=by
 induction l with
 |nil=>intro m y _;exact y
 |cons v l I=>
  intro m y h;unfold Jn;split
  ·exact I _ (h v zS) fun u H=>h u (by simp[H])
  exact I _ y fun u H=>h u (by simp[H])
theorem Kg5 t v(h:okT t v)(ht:t=1\/t=2):v=⟨t,v.n,⟨#[]⟩⟩:=by
 obtain⟨H,y,hr⟩:=h;obtain⟨k,n,s⟩:=v;simp only at H y hr;subst H;unfold okK at y;simp only[decide_eq_true_eq]at y;have hs:s.toList.isEmpty=true:=by
  rcases y with⟨_,hs⟩|⟨_,_,hs⟩|⟨e,_,_⟩
  ·exact hs
  ·exact hs
  omega
 rw[Jit s hs];rfl
theorem Jo2 t least xs(h:∀ v∈xs,okT t v)(ht:t=1\/t=2):(Uv xs least).map (Jbq t least)=xs:=by
 unfold Uv;rw[Oi6];conv=>rhs;rw[<-List.map_id xs]
 apply Oj9;intro v hv;have y:=h v hv;simp only[Function.comp,id];rw[Ju8 t least v.n y.2.2];exact(Kg5 t v y ht).symm
theorem Jqb t xs rest(h:∀ v∈xs,okT t v)(ht:t=1\/t=2):Ux t xs.length (Zz t xs++rest)=some (xs,rest):=by
 rcases ht with rfl|rfl
 ·cases xs with
  |nil=>rfl
  |cons v l=>
   have y:∀ u∈(v::l),Jg u.n:=fun u bh=>(h u bh).2.2;have Z:Jg (Jn v.n (v::l)):=Jpm _ _ (y v zS) y;have M:Zz 1 (v::l)=le8 (u64 (Jn v.n (v::l)))++[low (bitLen (Yz (dif v.n (Jn v.n (v::l))) (Uv l (Jn v.n (v::l)))):Nat)]++Kk (Ue (bitLen (Yz (dif v.n (Jn v.n (v::l))) (Uv l (Jn v.n (v::l))))) (Uv (v::l) (Jn v.n (v::l)))):=rfl;rw[M];clear M;generalize Jn v.n (v::l)=least at *;have O:=Ken (Uv l least) (dif v.n least);have bf:Yz (dif v.n least) (Uv l least)<18446744073709551616:=Jk2 _ _ _ (Jp3 _) (Jkx l least);have bi:=Jf7 _ bf;have bk:=Kai (Yz (dif v.n least) (Uv l least));generalize Yz (dif v.n least) (Uv l least)=U at *;generalize bitLen U=Y at *;unfold Ux;rw[if_neg zd,if_neg zS,Od8,Od8,Jh5 least _ Z];simp only;rw[List.cons_append,List.nil_append,Je8 Y _ zo];simp only[bi,if_true];have H:=Jct Y (Uv (v::l) least) rest (by
    intro n y;have:n<=U:=by
     unfold Uv at y;rw[Oe4]at y;rcases Of1.1 y with rfl|y
     ·exact O.1
     exact O.2 n y
    omega)
   have I:(Uv (v::l) least).length=(v::l).length:=by unfold Uv;simp
   rw[I]at H;rw[H,Option.map_some,Jo2 1 least _ h (.inl rfl)]
 unfold Zz Ux;rw[if_pos rfl,if_pos rfl];have H:=Jct 1 (Uv xs 0) rest (by
  intro n y;obtain⟨v,hv,rfl⟩:=Of0.1 y;obtain⟨bj,K,_⟩:=h v hv;unfold okK at K;simp only[decide_eq_true_eq]at K;have:v.n=0\/v.n=1:=by
   rcases K with⟨e,_⟩|⟨_,y,_⟩|⟨e,_,_⟩
   ·omega
   ·exact y
   omega
  unfold dif u64;omega)
 have I:(Uv xs 0).length=xs.length:=by unfold Uv;simp
 rw[I]at H;rw[H,Option.map_some,Jo2 2 0 _ h (.inr rfl)]
theorem Jwd xs(h:∀ v∈xs,v.k=0->v=Jf):Ys (xs.map Qt) (Jz xs)=xs:=by
 induction xs with
 |nil=>rfl
 |cons v xs O=>
  have K:=O fun u M=>h u (Og1 _ M);by_cases y:v.k=0
  ·have H:Qt v=0:=(by simp[Qt,y]);have I:Jz (v::xs)=Jz xs:=(by simp[Jz,y]);rw[Oe4,H,I,Ys,if_neg zd,K,h v zS y]
  have H:Qt v=1:=by simp[Qt,y]
  have I:Jz (v::xs)=v::Jz xs:=by simp[Jz,y]
  rw[Oe4,H,I,Ys,if_pos rfl];simp only[List.headD_cons,List.tail_cons,K]
theorem Jyx xs:Qs (xs.map Qt)=(Jz xs).length:=by
 induction xs with
 |nil=>rfl
 |cons v xs K=>
  by_cases y:v.k=0
  ·have H:Qt v=0:=(by simp[Qt,y]);have I:Jz (v::xs)=Jz xs:=(by simp[Jz,y]);rw[Oe4,H,I,Qs,if_neg zd,K];omega
  have H:Qt v=1:=by simp[Qt,y]
  have I:Jz (v::xs)=v::Jz xs:=by simp[Jz,y]
  rw[Oe4,H,I,Qs,if_pos rfl,K,List.length_cons];omega
theorem Jut {t xs}(h:Jdq t xs)(ht:1<=t):∀ v∈xs,v.k=0->v=Jf:=by
 intro v hv H;obtain⟨j,y,rfl⟩:=Od5 hv;have:=h.2 j y;unfold okB at this;simp only[decide_eq_true_eq]at this;generalize xs[j]=v at *;rcases this with⟨_,I,hs⟩|⟨e,_⟩
 ·exact V.ext' H I (Jit _ hs)
 omega
theorem Jvg {t xs}(h:Jdq t xs)(hr:∀ v∈xs,Jg v.n):∀ v∈Jz xs,okT t v:=by
 intro v hv;unfold Jz at hv;rw[Om0]at hv;obtain⟨hv,y⟩:=hv;have K:=hr v hv;obtain⟨j,H,rfl⟩:=Od5 hv;have:=h.2 j H;unfold okB at this;simp only[decide_eq_true_eq]at this;rcases this with⟨e,_,_⟩|⟨e,I⟩
 ·rw[e]at y;simp at y
 exact⟨e,I,K⟩
def Kkn (y:Int):Prop:=∀ (t:Int) (vs:List V),way t y=true->vs.length<=64->¬ (y=1/\16<(Ym [] vs).length)->(∀ v∈vs,okT t v)->Jce t y vs.length (Jdt t y vs++[])=some (vs,[])
theorem Kj4:Kkn 0:=fun t vs _ _ _ h=>Jmy t vs [] h
theorem Kjx y:Kkn y:=by
 intro t vs I hl M H;unfold way at I;simp only[decide_eq_true_eq]at I;have K:y=0\/y=1\/y=2\/y=3:=zo;rcases K with rfl|rfl|rfl|rfl
 ·exact Jmy t _ [] H
 ·exact Jwb t _ [] H zo
 ·exact Jv0 t _ _ [] (Oa2 _) zo H
 exact Jqb t _ [] H zo
theorem Kja {t y xs bs}(h:Jev t y xs=(bs,0)):way t y=true/\Jdq t xs/\¬ (y=1/\16<(Ym [] (Jz xs)).length)/\((t.toNat:Nat):Int)=t/\((y.toNat:Nat):Int)=y/\Jf2 bs=some ((t.toNat,y.toNat,xs.length),Kk (xs.map fun v=>v.k != 0)++Jdt t y (Jz xs)):=by
 unfold Jev at h;by_cases hb:(way t y&&Jfr t xs)=true
 ·rw[if_pos hb]at h;by_cases K:y=1/\16<(Ym [] (Jz xs)).length
  ·rw[if_pos K]at h;simp at h
  rw[if_neg K]at h;simp only[Oj3,and_true]at h;rw[Og5]at hb;obtain⟨U,M⟩:=hb;rw[Jfd]at M;have O:=U;unfold way at O;simp only[decide_eq_true_eq]at O;obtain⟨br,bx,bi,bj,bk⟩:=O;have Y:=M.1;have I:((t.toNat:Nat):Int)=t:=zo;have H:((y.toNat:Nat):Int)=y:=zo;refine⟨U,M,K,I,H,?_⟩;rw[<-h];have e:Jav t y xs=low t::low y::low (xs.length:Nat)::(Kk (xs.map fun v=>v.k != 0)++Jdt t y (Jz xs)):=rfl;rw[e];have Z:(low t).toNat=t.toNat:=by rw[<-I,Jgf _ zo];omega
  have bf:(low y).toNat=y.toNat:=by rw[<-H,Jgf _ zo];omega
  have bh:(low (xs.length:Nat)).toNat=xs.length:=Jgf _ zo;simp only[Jf2];rw[Z,bf,bh,I,H,if_pos ⟨U,Y⟩]
 rw[if_neg hb]at h;simp at h
theorem Ki9 t y(U:Kkn y)xs bs(h:Jev t y xs=(bs,0))(hr:∀ v∈xs,Jg v.n):Jbf bs=some (t.toNat,y.toNat,xs):=by
 obtain⟨O,H,bf,Z,Y,bh⟩:=Kja h;have M:=O;unfold way at M;simp only[decide_eq_true_eq]at M;have bx:=H.1;have bi:=Jvg H hr;have bk:=Jut H zo;have bz:=Zy xs;have I:=U t (Jz xs) O zo bf bi;rw[Od7]at I;have K:=Jct 1 (xs.map Qt) (Jdt t y (Jz xs)) (by
  intro n bj;obtain⟨v,_,rfl⟩:=Of0.1 bj;unfold Qt;split<;>decide)
 rw[Jrg,Oa6]at K;have br:Ug t y xs.length (Kk (xs.map fun v=>v.k != 0)++Jdt t y (Jz xs))=some (xs,[]):=by
  unfold Ug;rw[K];simp only;rw[Jyx,I,Option.map_some,Jwd xs bk]
 unfold Jbf;rw[bh];simp only;rw[Z,Y,br];simp only;rw[if_pos h]
end
open Go.RowKit Tryz
theorem Jfw (c:Int)(n:Nat)w(H:Jg c)(K:0<n)(M:n<=4611686018427387904):
  Cq 14 #[Iq c,Iq n] w fun e w'=>(∃ r:Nat,e=.returned (Iq r)/\r<n)/\w'=w:=by
 unfold Jg at H;have y:¬ ((n:Int)=0):=zo;by_cases h0:c<0
 ·go_enter func14,ntmps14
  go_wp2;go_ret
  have I:=Int.emod_nonneg (-(c+1)) y;have hl:=Int.emod_lt_of_pos (-(c+1)) (show (0:Int)<n by omega);have e:-((c+1).tmod n)=(((-(c+1)) % (n:Int)).toNat:Int):=by
   rw[<-Int.neg_tmod,Int.tmod_eq_emod_of_nonneg zo];omega
  refine⟨⟨((-(c+1)) % (n:Int)).toNat,?_,zo⟩,rfl⟩;rw[<-e];rfl
 go_enter func14,ntmps14
 go_wp2;go_ret
 have I:=Int.emod_nonneg c y;have hl:=Int.emod_lt_of_pos c (show (0:Int)<n by omega);have e:c % (n:Int)=((c % (n:Int)).toNat:Int):=zo;refine⟨⟨(c % (n:Int)).toNat,?_,zo⟩,rfl⟩;rw[<-e];rfl
theorem Jfu w:Cq 10 #[] w fun e w'=>e=.returned (Jb6 0)/\Bq w w':=by
 go_enter func10,ntmps10
 go_wp2;exact bodyPost_ret (v:=Jb6 0) (by simp[results,results10,go_sem]) rfl ⟨rfl,(Oa5 _ _).alloc (Oa2 _) _⟩
theorem Kb1 n:bits .and .i64 n 1=n % 2:=by
 have y:(BitVec.ofInt 64 1).toNat=2 ^ 1-1:=zd;have key:(BitVec.ofInt 64 n &&& BitVec.ofInt 64 1).toNat=(n % ((2 ^ 64:Nat):Int)).toNat % 2 ^ 1:=by
  rw[BitVec.toNat_and,Ok6,y,Nat.and_two_pow_sub_one_eq_mod]
 show IntKind.i64.wrap ((BitVec.ofInt 64 n &&& BitVec.ofInt 64 1).toNat:Nat)=n % 2;rw[key,Od4];omega
theorem Jx5 n:okB 2 2 (n % 2) ⟨#[]⟩=true:=by
 have:n % 2=0\/n % 2=1:=zo;rcases this with e|e<;>simp[okB,okK,e]
theorem Jyh n:Jg (n % 2):=by unfold Jg;omega
theorem zan {p:Prop}(h:p:=by
 go_wp2_with fail
 refine bodyPost_ret (v:=.agg #[Iq 2,Iq (n % 2),.string ⟨#[]⟩]) (by simp[results,results18,go_sem]) rfl ⟨⟨⟨2,n % 2,⟨#[]⟩⟩,rfl,Jx5 n,Jyh n⟩,((Oa5 _ _).alloc (Oa2 _) _).alloc zS _⟩):p:=h
theorem zaq {p:Prop}(h:p:=by
 go_wp2_with fail
 refine bodyPost_ret (v:=.agg #[Iq 1,Iq n,.string ⟨#[]⟩]) (by simp[results,results18,go_sem]) rfl ⟨⟨⟨1,n,⟨#[]⟩⟩,rfl,by simp[okB,okK],H⟩,((Oa5 _ _).alloc (Oa2 _) _).alloc zS _⟩):p:=h
theorem zav {p:Prop}(h:p:=by
 go_wp2_with fail
 refine bodyPost_ret (v:=.agg #[iZ,iZ,.string ⟨#[]⟩]) (by simp[results,results18,go_sem]) rfl ⟨⟨⟨0,0,⟨#[]⟩⟩,rfl,K,y⟩,((Oa5 _ _).alloc (Oa2 _) _).alloc zS _⟩):p:=h
theorem Jk8 (v:V)(t:Int)w(ht:t=1\/t=2\/t=3)(I:Jg v.k)(H:Jg v.n):
  Cq 18 #[v.val,Iq t] w fun e w'=>(∃ u:V,e=.returned u.val/\okB t u.k u.n u.s=true/\Jg u.n)/\Bq w w':=by
 have K:okB t 0 0 (Qw [])=true:=by simp[okB,Qw]
 have y:Jg 0:=by unfold Jg;omega
 have Y:Bq w ((w.alloc (.cells #[Iq v.k,Iq v.n,.string v.s] 65)).alloc (.cells #[iZ,iZ,.string ⟨#[]⟩] 65)):=((Oa5 _ _).alloc (Oa2 _) _).alloc zS _;obtain⟨k,n,s⟩:=v;simp only at I H Y;by_cases h0:k=0
 ·subst h0;go_enter func18,ntmps18
  exact zav
 have Z:(k==0)=false:=by simpa using h0
 have bh:=Kb1 n;go_enter func18,ntmps18
 go_wp2_with fail
 refine(Jfw k 7 _ I zd zd).mono ?_;rintro e w1 ⟨⟨r,rfl,hr⟩,rfl⟩;by_cases U:r=6
 ·subst U;exact zav
 have bf:((r:Int)==6)=false:=by rw[beq_eq_false_iff_ne];omega
 by_cases M:s.size<=40
 ·have O:¬ ((40:Int)<(s.size:Int)):=zo;rcases ht with rfl|rfl|rfl
  ·exact zaq
  ·exact zan
  go_wp2_with fail
  refine bodyPost_ret (v:=.agg #[Iq 3,iZ,.string s]) (by simp[results,results18,go_sem]) rfl ⟨⟨⟨3,0,s⟩,rfl,by simp[okB,okK,M],y⟩,((Oa5 _ _).alloc (Oa2 _) _).alloc zS _⟩
 have O:((40:Int)<(s.size:Int)):=zo;have bi:¬ ((s.size:Int)<40):=zo;rcases ht with rfl|rfl|rfl
 ·exact zaq
 ·exact zan
 go_wp2_with fail
 refine bodyPost_ret (v:=.agg #[Iq 3,iZ,.string (s.extract 0 40)]) (by simp[results,results18,go_sem]) rfl ⟨⟨⟨3,0,s.extract 0 40⟩,rfl,by simp[okB,okK];omega,y⟩,((Oa5 _ _).alloc (Oa2 _) _).alloc zS _⟩
theorem Kz7 {bs t y vs}(h:Jbf bs=some (t,y,vs)):3<=bs.length/\(bs.getD 1 0).toNat=y/\Jev t y vs=(bs,0)/\vs.length<=64:=by
 unfold Jbf at h;cases hh:Jf2 bs with
 |none=>rw[hh]at h;simp at h
 |some x=>
  obtain⟨⟨t',H,n⟩,r⟩:=x;rw[hh]at h;simp only at h;cases hv:Ug (t':Int) (H:Int) n r with
  |none=>rw[hv]at h;simp at h
  |some I=>
   obtain⟨O,M⟩:=I;rw[hv]at h;simp only at h;split at h
   ·rename_i hp
    simp only[Oc9,Oj3]at h;obtain⟨rfl,rfl,rfl⟩:=h;have hl:=Jn0 hv;have K:=(Jum hh).2;refine⟨?_,?_,hp,zo⟩
    ·match bs,hh with
     |b0::b1::b2::rest,_=>simp
    match bs,hh with
    |b0::b1::b2::rest,hh=>
     simp only[Jf2]at hh;split at hh
     ·simp at hh;simpa using hh.1.2.1
     simp at hh
   simp at h
