/- A store's calls that tell: Tables, Used, Scan. -/
import Derived.Test.YtkdojacdolidfaaGreatDoorTt
import Derived.Test.YtkdojacdolidfaaGreatDoorOf
set_option maxHeartbeats 4000000
set_option maxRecDepth 100000
namespace Go.Proofs.YtkdojacdolidfaaGreatDoor
section
open Go.RowKit Go.Shelf Tryz
def Jdu (w:World)(st d s:Nat):Prop:=w.heap[st]?=some (.cells #[.pointer (some ⟨d,0,none⟩),.pointer (some ⟨s,0,none⟩)] 76 (0,0))
theorem Jdu.field {w st d s}(h:Jdu w st d s):w.cell? ⟨st,0,none⟩=some (.pointer (some ⟨d,0,none⟩))/\w.cell? ⟨st,1,none⟩=some (.pointer (some ⟨s,0,none⟩)):=by
 unfold Jdu at h;simp[World.cell?,h]
theorem Qaz st w F s d D(H:Jdu w st d s)(y:Zb w F d D):
  Calls prog 9 #[.pointer (some ⟨st,0,none⟩)] w fun e w'=>e=.returned (.int .i64 ((Js D.pages:Nat):Int))/\w'=w:=by
 obtain⟨c0,_⟩:=H.field;have I:=Qab d w F D y;clear y H;go_enter func9,ntmps9
 go_wp2_with (go_at_call 24;refine I.mono ?_;rintro e K ⟨rfl,rfl⟩)
 go_ret
 exact⟨rfl,rfl⟩
def Jr7 (w:World)(r:Option (List (List V)⊕Nat))(e:Ending)(w':World):Prop:=
 Below w.heap.size w w'/\match r with
  |none=>e=.returned (.tuple #[.slice none 0 0,Jbz 4 (-1) (-1)])
  |some (.inl rs)=>∃ g bs,e=.returned (.tuple #[.slice (some ⟨g,0,none⟩) rs.length rs.length,Jb6 0])/\Jcu w' w.heap.size g bs rs
  |some (.inr j)=>e=.returned (.tuple #[.slice none 0 0,Jbz 7 (-1) (j:Int)])
theorem zal {p:Prop}(h:p:=by rw[Oa4 _ _ _ _ (by show b≠w.heap.size;omega),Oa4 _ _ _ _ (by show b≠w.heap.size;omega),Oa4 _ _ _ _ (by show b≠w.heap.size;omega),Oa4 _ _ _ _ (by show b≠w.heap.size;omega),Oa4 _ _ _ _ (by show b≠w.heap.size;omega)]):p:=h
theorem Jz3 g bh cs n B w(U:Jar w B g bh cs)(bx:∀ i,i<cs.length->(cs.getD i []).length=n)(bi:1<=cs.length)(bj:cs.length<=1000)(bB:n<=10000):
  Calls prog 26 #[.slice (some ⟨g,0,none⟩) cs.length cs.length,.nilIface] w fun e w'=>Below w.heap.size w w'/\∃ O bs,e=.returned (.tuple #[.slice (some ⟨O,0,none⟩) n n,Jb6 0])/\Jcu w' w.heap.size O bs (Qf n cs):=by
 have Y:Below w.heap.size w (w.alloc (.cells #[.int .i64 0,.int .i64 0,.int .i64 0,.int .i64 0,.int .i64 0] 51)):=(Oa5 _ _).alloc (Oa2 _) _;have bE:=run_neq_nil_nil (P:=prog);have H:=U.below Y;have bf:=Jo4 g cs.length bh cs n _ (Kun H.row) H.len (fun i hi=>(H.own i hi).vals) bx bi bj bB;clear U H;go_enter func26,ntmps26
 go_wp2_with fail
 refine bf.mono ?_;rintro e w1 ⟨rfl,⟨I,bA⟩,Z⟩;clear bf;go_wp2_with fail
 refine(Jjq w1).mono ?_;rintro e bH ⟨rfl,K⟩;have bk:=Jb Y Z;obtain⟨bC,bG⟩:=Kx (Jb Z K);have br:=Jb bk K;have M:=bA.below K;rw[Oa7]at M;have bz:=M.from_;have low:∀ X:World,Jcu X (w.heap.size+1) (w.heap.size+1) I (Qf n cs)->Jcu X w.heap.size (w.heap.size+1) I (Qf n cs):=fun X y=>⟨y.len,y.outer,y.rows,⟨by have:=y.from_.1;omega,fun b hb=>⟨by have:=(y.from_.2 b hb).1;omega,(y.from_.2 b hb).2⟩⟩,y.nodup⟩;go_wp2;refine bodyPost_ret (v:=.tuple #[.slice (some ⟨w.heap.size+1,0,none⟩) n n,Jb6 0]) (by simp[results,results26,go_sem,bC]) rfl ⟨Um br (Oa2 _) _ _ _ _ _,?_⟩;refine⟨w.heap.size+1,I,rfl,?_⟩;refine low _ (M.of_blocks ?_ (fun b hb=>?_))
 ·rw[Oa4 _ _ _ _ (by show w.heap.size+1≠w.heap.size;omega),Oa4 _ _ _ _ (by show w.heap.size+1≠w.heap.size;omega),Oa4 _ _ _ _ (by show w.heap.size+1≠w.heap.size;omega),Oa4 _ _ _ _ (by show w.heap.size+1≠w.heap.size;omega),Oa4 _ _ _ _ (by show w.heap.size+1≠w.heap.size;omega)]
 have bD:=(bz.2 b hb).1;exact zal
theorem Qaf st n w F G s d D Ts sv bs(bz:Jdu w st d s)(h:Jfl w G s d Ts sv bs)(bh:Zb w F d D)(Y:∀ T∈Ts,Jid D T)a0 a1 a2 et q wr pg(bE:Jf0 w a0 a1 a2)(br:Jkn w a0 a1 a2 et q wr pg){x}(M:Jf8 D Ts n=some (.inl x)):
  Calls prog 28 #[.pointer (some ⟨st,0,none⟩),.string n] w fun e w'=>Jr7 w (Jf8 D Ts n) e w':=by
 have I:Below w.heap.size w (w.alloc (.cells #[.int .i64 0,.int .i64 0,.int .i64 0,.int .i64 0,.int .i64 0] 51)):=(Oa5 _ _).alloc (Oa2 _) _;have c1:=Ja I bz.field.2;have bx:=Jou n _ F G s d D Ts sv bs (h.below I) (bh.below I) Y a0 a1 a2 (bE.below I) et pg (br.below I).cp (br.below I).ct;have bG:=Keq D Ts n Y;clear h bh Y bz;go_enter func28,ntmps28
 go_wp2_with fail
 refine bx.mono ?_;clear bx;rintro e w1 ⟨U,hp⟩;have bB:=Jb I U;rcases bG with⟨hr,K⟩|⟨j,hr,K⟩|⟨cs,m,hr,K,bO,bD,bM,bf⟩
 ·rw[K]at M;cases M
 ·rw[K]at M;cases M
 rw[hr]at hp;obtain⟨g,bK,rfl,bj⟩:=hp;have bA:=zh K;have bH:=Jz3 g bK cs m _ w1 bj bf bD zo zo;clear hr K M bf bj;go_wp2_with fail
 refine bH.mono ?_;rintro e bQ ⟨Z,y,O,rfl,bk⟩;obtain⟨bJ,bP⟩:=Kx (Jb U Z);have bC:=Jb bB Z;have bi:=bk.from_;have bI:=U.size;rw[Oa7]at bI;have low:∀ X:World,Jcu X w1.heap.size y O (Qf m cs)->Jcu X w.heap.size y O (Qf m cs):=fun X H=>⟨H.len,H.outer,H.rows,⟨by have:=H.from_.1;omega,fun b hb=>⟨by have:=(H.from_.2 b hb).1;omega,(H.from_.2 b hb).2⟩⟩,H.nodup⟩;go_wp2;refine bodyPost_ret (v:=.tuple #[.slice (some ⟨y,0,none⟩) m m,Jb6 0]) (by simp[results,results28,go_sem,bJ]) rfl ⟨Um bC (Oa2 _) _ _ _ _ _,?_⟩;rw[bA.out];refine⟨y,O,by rw[Uu],?_⟩;refine low _ (bk.of_blocks ?_ (fun b hb=>?_))
 ·have bN:=bi.1;rw[Oa4 _ _ _ _ (by show y≠w.heap.size;omega),Oa4 _ _ _ _ (by show y≠w.heap.size;omega),Oa4 _ _ _ _ (by show y≠w.heap.size;omega),Oa4 _ _ _ _ (by show y≠w.heap.size;omega),Oa4 _ _ _ _ (by show y≠w.heap.size;omega)]
 have bL:=(bi.2 b hb).1;exact zal
theorem Zh (W:World)(B:Nat)(H I K M O:Value)(k:Nat)(y:k≠B):(((((W.setCell ⟨B,0,none⟩ H).setCell ⟨B,1,none⟩ I).setCell ⟨B,2,none⟩ K).setCell ⟨B,3,none⟩ M).setCell ⟨B,4,none⟩ O).heap[k]?=W.heap[k]?:=by
 rw[Oa4 _ _ _ _ y,Oa4 _ _ _ _ y,Oa4 _ _ _ _ y,Oa4 _ _ _ _ y,Oa4 _ _ _ _ y]
theorem Jg2 (W:World)(B:Nat)(y H I K M:Value):(((((W.setCell ⟨B,0,none⟩ y).setCell ⟨B,1,none⟩ H).setCell ⟨B,2,none⟩ I).setCell ⟨B,3,none⟩ K).setCell ⟨B,4,none⟩ M).heap.size=W.heap.size:=by simp[World.setCell]
end
section
open Go.RowKit
theorem Jhi x rest:Jat x.length (x++rest)=some (x,rest):=by
 unfold Jat;rw[if_pos zS];simp
def Jg (n:Int):Prop:=-9223372036854775808<=n/\n<=9223372036854775807
theorem Ka1 u:∀ k,Jeh ((List.range k).map fun i=>UInt8.ofNat (u / 256 ^ i % 256))=u % 256 ^ k:=by
 intro k;induction k with
 |zero=>simp[Jeh,Nat.mod_one]
 |succ k y=>
  rw[Oj7,Ob8,Oe4,Oi4,Jlf,y];have H:u / 256 ^ k % 256<256:=Ol0 _ zd;have e:(UInt8.ofNat (u / 256 ^ k % 256)).toNat=u / 256 ^ k % 256:=by
   simp
  rw[e,Oa6,Op1,Nat.mod_pow_succ,Nat.mul_comm]
theorem Jza u(h:u<18446744073709551616):Jeh (le8 u)=u:=by
 unfold le8;rw[Ka1];have y:256 ^ 8=18446744073709551616:=zd;exact Nat.mod_eq_of_lt zo
theorem Jsf n(h:Jg n):wrap64 ((u64 n:Nat):Int)=n:=by
 unfold Jg at h;unfold wrap64 u64;omega
theorem Jh5 n rest(h:Jg n):Jc7 (le8 (u64 n)++rest)=some (n,rest):=by
 have e:=Jhi (le8 (u64 n)) rest;rw[Jc4]at e;unfold Jc7;rw[e];simp only;rw[Jza _ (Jp3 n),Jsf n h]
theorem Jgf (n:Nat)(h:n<256):(low (n:Int)).toNat=n:=by
 unfold low;have e:((n:Int) % 256).toNat=n:=zo;rw[e];simp;omega
theorem Je8 (n:Nat)rest(h:n<256):Ur (low (n:Int)::rest)=some (n,rest):=by
 simp[Ur,Jgf n h]
def okT (t:Int)(v:V):Prop:=v.k=t/\okK v.k v.n v.s=true/\Jg v.n
theorem Jit s(h:s.toList.isEmpty=true):s=Qw []:=by
 rw[List.isEmpty_iff]at h;rw[<-Zf s,h]
theorem Jj3 t v rest(h:okT t v):Qz t (enc v.k v.n v.s++rest)=some (v,rest):=by
 obtain⟨I,y,hr⟩:=h;obtain⟨k,n,s⟩:=v;simp only at I y hr;subst I;unfold okK at y;simp only[decide_eq_true_eq]at y;rcases y with⟨rfl,hs⟩|⟨rfl,K,hs⟩|⟨rfl,rfl,hs⟩
 ·have:=Jit s hs;subst this;have e:enc 1 n (Qw [])=le8 (u64 n):=rfl;unfold Qz;rw[if_pos rfl];simp only[e,Jh5 n rest hr];rfl
 ·have:=Jit s hs;subst this;have e:enc 2 n (Qw [])=[low n]:=rfl;unfold Qz;rw[if_neg zd,if_pos rfl];simp only[e];rcases K with rfl|rfl
  ·rfl
  rfl
 have e:enc 3 0 s=low (s.size:Nat)::s.toList:=rfl;have hl:s.toList.length=s.size:=by rw[Og4,Array.length_toList];rfl
 unfold Qz;rw[if_neg zd,if_neg zd];simp only[e];have H:=Jhi s.toList rest;rw[hl]at H;unfold Jne;rw[List.cons_append,Je8 _ _ zo];simp only[H,Option.map_some,Zf]
theorem Jmy t:∀ (vs:List V) (rest:List UInt8),(∀ v∈vs,okT t v)->Yl t vs.length (Yv vs++rest)=some (vs,rest):=by
 intro vs;have key:∀ (n:Nat) (vs:List V) (rest:List UInt8),vs.length=n->(∀ v∈vs,okT t v)->Yl t n (Yv vs++rest)=some (vs,rest):=by
  intro n;induction n with
  |zero=>intro vs rest H _;rw[Od3]at H;subst H;rfl
  |succ n U=>
   intro vs rest H I;obtain⟨y,v,rfl⟩:∃ y v,vs=y++[v]:=⟨vs.dropLast,vs.getLast (by intro e;simp[e]at H),(List.dropLast_concat_getLast _).symm⟩;have O:y.length=n:=by simpa using H
   have K:=U y (enc v.k v.n v.s++rest) O fun u M=>I u (by simp[M]);have e:Yv (y++[v])++rest=Yv y++(enc v.k v.n v.s++rest):=by rw[Jjz,Od8]
   rw[e,Yl,K];simp only;rw[Jj3 t v rest (I v zS)];rfl
 intro rest I;exact key vs.length vs rest rfl I
theorem Jwf L j(I:j<L.length):Jn6 (Kk L) j=L.getD j false:=by
 have H:j / 8<(L.length+7) / 8:=zo;have e:((Kk L).getD (j / 8) 0).toNat=Jag L (j / 8):=by
  have hb:=Ji4 L (j / 8);simp[Kk,H];omega
 unfold Jn6;rw[e,Yx];have y:8*(j / 8)+j % 8=j:=zo;rw[y];have:j % 8<8:=Ol0 _ zd;simp[this]
theorem Kbi x i n:∀ b,(∀ k,k<b->Jn6 x (i+k)=n.testBit k)->Zc x i b=n % 2 ^ b:=by
 intro b;induction b with
 |zero=>intro _;simp[Zc,Nat.mod_one]
 |succ b y=>
  intro h;rw[Zc,y fun k H=>h k zo,h b zo,Nat.mod_pow_succ,On1];have I:n / 2 ^ b % 2<2:=Ol0 _ zd;generalize n / 2 ^ b % 2=m at *;have:m=0\/m=1:=zo;rcases this with rfl|rfl<;>simp
theorem Jct y ns rest(h:∀ n∈ns,n<2 ^ y):Yj y ns.length (Kk (Ue y ns)++rest)=some (ns,rest):=by
 have e:=Jhi (Kk (Ue y ns)) rest;rw[Qb,Jal]at e;unfold Yj;rw[e];simp only[Oc9,Oj3,and_true];apply Oh4
 ·simp
 intro i U K;have hi:i<ns.length:=K;rw[Od9,Oo7];have hb:Zc (Kk (Ue y ns)) (y*i) y=ns[i] % 2 ^ y:=by
  apply Kbi;intro k M;have I:=Jms y ns i k hi M;have O:y*i+k<(Ue y ns).length:=by
   rcases Oc1 (y*i+k) (Ue y ns).length with H|H
   ·exact H
   rw[Ob4 H]at I;simp at I
  rw[Jwf _ _ O,Oa0,I];rfl
 rw[hb,Nat.mod_eq_of_lt (h _ (Ob3 hi))]
theorem Jwd xs(h:∀ v∈xs,v.k=0->v=Jf):Ys (xs.map Qt) (Jz xs)=xs:=by
 induction xs with
 |nil=>rfl
 |cons v xs O=>
  have K:=O fun u M=>h u (Og1 _ M);by_cases y:v.k=0
  ·have H:Qt v=0:=(by simp[Qt,y]);have I:Jz (v::xs)=Jz xs:=(by simp[Jz,y]);rw[Oe4,H,I,Ys,if_neg zd,K,h v zS y]
  have H:Qt v=1:=by simp[Qt,y]
  have I:Jz (v::xs)=v::Jz xs:=by simp[Jz,y]
  rw[Oe4,H,I,Ys,if_pos rfl];simp only[List.headD_cons,List.tail_cons,K]
theorem Jyx xs:Qs (xs.map Qt)=(Jz xs).length:=by
 induction xs with
 |nil=>rfl
 |cons v xs K=>
  by_cases y:v.k=0
  ·have H:Qt v=0:=(by simp[Qt,y]);have I:Jz (v::xs)=Jz xs:=(by simp[Jz,y]);rw[Oe4,H,I,Qs,if_neg zd,K];omega
  have H:Qt v=1:=by simp[Qt,y]
  have I:Jz (v::xs)=v::Jz xs:=by simp[Jz,y]
  rw[Oe4,H,I,Qs,if_pos rfl,K,List.length_cons];omega
theorem Jut {t xs}(h:Jdq t xs)(ht:1<=t):∀ v∈xs,v.k=0->v=Jf:=by
 intro v hv H;obtain⟨j,y,rfl⟩:=Od5 hv;have:=h.2 j y;unfold okB at this;simp only[decide_eq_true_eq]at this;generalize xs[j]=v at *;rcases this with⟨_,I,hs⟩|⟨e,_⟩
 ·exact V.ext' H I (Jit _ hs)
 omega
theorem Jvg {t xs}(h:Jdq t xs)(hr:∀ v∈xs,Jg v.n):∀ v∈Jz xs,okT t v:=by
 intro v hv;unfold Jz at hv;rw[Om0]at hv;obtain⟨hv,y⟩:=hv;have K:=hr v hv;obtain⟨j,H,rfl⟩:=Od5 hv;have:=h.2 j H;unfold okB at this;simp only[decide_eq_true_eq]at this;rcases this with⟨e,_,_⟩|⟨e,I⟩
 ·rw[e]at y;simp at y
 exact⟨e,I,K⟩
def Kkn (y:Int):Prop:=∀ (t:Int) (vs:List V),way t y=true->vs.length<=64->¬ (y=1/\16<(Ym [] vs).length)->(∀ v∈vs,okT t v)->Jce t y vs.length (Jdt t y vs++[])=some (vs,[])
theorem Kj4:Kkn 0:=fun t vs _ _ _ h=>Jmy t vs [] h
theorem Kja {t y xs bs}(h:Jev t y xs=(bs,0)):way t y=true/\Jdq t xs/\¬ (y=1/\16<(Ym [] (Jz xs)).length)/\((t.toNat:Nat):Int)=t/\((y.toNat:Nat):Int)=y/\Jf2 bs=some ((t.toNat,y.toNat,xs.length),Kk (xs.map fun v=>v.k != 0)++Jdt t y (Jz xs)):=by
 unfold Jev at h;by_cases hb:(way t y&&Jfr t xs)=true
 ·rw[if_pos hb]at h;by_cases K:y=1/\16<(Ym [] (Jz xs)).length
  ·rw[if_pos K]at h;simp at h
  rw[if_neg K]at h;simp only[Oj3,and_true]at h;rw[Og5]at hb;obtain⟨U,M⟩:=hb;rw[Jfd]at M;have O:=U;unfold way at O;simp only[decide_eq_true_eq]at O;obtain⟨br,bx,bi,bj,bk⟩:=O;have Y:=M.1;have I:((t.toNat:Nat):Int)=t:=zo;have H:((y.toNat:Nat):Int)=y:=zo;refine⟨U,M,K,I,H,?_⟩;rw[<-h];have e:Jav t y xs=low t::low y::low (xs.length:Nat)::(Kk (xs.map fun v=>v.k != 0)++Jdt t y (Jz xs)):=rfl;rw[e];have Z:(low t).toNat=t.toNat:=by rw[<-I,Jgf _ zo];omega
  have bf:(low y).toNat=y.toNat:=by rw[<-H,Jgf _ zo];omega
  have bh:(low (xs.length:Nat)).toNat=xs.length:=Jgf _ zo;simp only[Jf2];rw[Z,bf,bh,I,H,if_pos ⟨U,Y⟩]
 rw[if_neg hb]at h;simp at h
theorem Ki9 t y(U:Kkn y)xs bs(h:Jev t y xs=(bs,0))(hr:∀ v∈xs,Jg v.n):Jbf bs=some (t.toNat,y.toNat,xs):=by
 obtain⟨O,H,bf,Z,Y,bh⟩:=Kja h;have M:=O;unfold way at M;simp only[decide_eq_true_eq]at M;have bx:=H.1;have bi:=Jvg H hr;have bk:=Jut H zo;have bz:=Zy xs;have I:=U t (Jz xs) O zo bf bi;rw[Od7]at I;have K:=Jct 1 (xs.map Qt) (Jdt t y (Jz xs)) (by
  intro n bj;obtain⟨v,_,rfl⟩:=Of0.1 bj;unfold Qt;split<;>decide)
 rw[Jrg,Oa6]at K;have br:Ug t y xs.length (Kk (xs.map fun v=>v.k != 0)++Jdt t y (Jz xs))=some (xs,[]):=by
  unfold Ug;rw[K];simp only;rw[Jyx,I,Option.map_some,Jwd xs bk]
 unfold Jbf;rw[bh];simp only;rw[Z,Y,br];simp only;rw[if_pos h]
end
section
open Go.RowKit Tryz
theorem Jfw (c:Int)(n:Nat)w(H:Jg c)(K:0<n)(M:n<=4611686018427387904):
  Calls prog 8 #[.int .i64 c,.int .i64 n] w fun e w'=>(∃ r:Nat,e=.returned (.int .i64 r)/\r<n)/\w'=w:=by
 unfold Jg at H;have y:¬ ((n:Int)=0):=zo;by_cases h0:c<0
 ·go_enter func8,ntmps8
  go_wp2;go_ret
  have I:=Int.emod_nonneg (-(c+1)) y;have hl:=Int.emod_lt_of_pos (-(c+1)) (show (0:Int)<n by omega);have e:-((c+1).tmod n)=(((-(c+1)) % (n:Int)).toNat:Int):=by
   rw[<-Int.neg_tmod,Int.tmod_eq_emod_of_nonneg zo];omega
  refine⟨⟨((-(c+1)) % (n:Int)).toNat,?_,zo⟩,rfl⟩;rw[<-e];rfl
 go_enter func8,ntmps8
 go_wp2;go_ret
 have I:=Int.emod_nonneg c y;have hl:=Int.emod_lt_of_pos c (show (0:Int)<n by omega);have e:c % (n:Int)=((c % (n:Int)).toNat:Int):=zo;refine⟨⟨(c % (n:Int)).toNat,?_,zo⟩,rfl⟩;rw[<-e];rfl
theorem Jfu w:Calls prog 13 #[] w fun e w'=>e=.returned (Jb6 0)/\Below w.heap.size w w':=by
 go_enter func13,ntmps13
 go_wp2;exact bodyPost_ret (v:=Jb6 0) (by simp[results,results13,go_sem]) rfl ⟨rfl,(Oa5 _ _).alloc (Oa2 _) _⟩
theorem Kb1 n:bits .and .i64 n 1=n % 2:=by
 have y:(BitVec.ofInt 64 1).toNat=2 ^ 1-1:=zd;have key:(BitVec.ofInt 64 n &&& BitVec.ofInt 64 1).toNat=(n % ((2 ^ 64:Nat):Int)).toNat % 2 ^ 1:=by
  rw[BitVec.toNat_and,Ok6,y,Nat.and_two_pow_sub_one_eq_mod]
 show IntKind.i64.wrap ((BitVec.ofInt 64 n &&& BitVec.ofInt 64 1).toNat:Nat)=n % 2;rw[key,Od4];omega
theorem Jx5 n:okB 2 2 (n % 2) ⟨#[]⟩=true:=by
 have:n % 2=0\/n % 2=1:=zo;rcases this with e|e<;>simp[okB,okK,e]
theorem Jyh n:Jg (n % 2):=by unfold Jg;omega
theorem zaj {p:Prop}(h:p:=by
 go_wp2_with fail
 refine bodyPost_ret (v:=.agg #[.int .i64 2,.int .i64 (n % 2),.string ⟨#[]⟩]) (by simp[results,results20,go_sem]) rfl ⟨⟨⟨2,n % 2,⟨#[]⟩⟩,rfl,Jx5 n,Jyh n⟩,((Oa5 _ _).alloc (Oa2 _) _).alloc zS _⟩):p:=h
theorem zak {p:Prop}(h:p:=by
 go_wp2_with fail
 refine bodyPost_ret (v:=.agg #[.int .i64 1,.int .i64 n,.string ⟨#[]⟩]) (by simp[results,results20,go_sem]) rfl ⟨⟨⟨1,n,⟨#[]⟩⟩,rfl,by simp[okB,okK],H⟩,((Oa5 _ _).alloc (Oa2 _) _).alloc zS _⟩):p:=h
theorem zan {p:Prop}(h:p:=by
 go_wp2_with fail
 refine bodyPost_ret (v:=.agg #[.int .i64 0,.int .i64 0,.string ⟨#[]⟩]) (by simp[results,results20,go_sem]) rfl ⟨⟨⟨0,0,⟨#[]⟩⟩,rfl,K,y⟩,((Oa5 _ _).alloc (Oa2 _) _).alloc zS _⟩):p:=h
theorem Jk8 (v:V)(t:Int)w(ht:t=1\/t=2\/t=3)(I:Jg v.k)(H:Jg v.n):
  Calls prog 20 #[v.val,.int .i64 t] w fun e w'=>(∃ u:V,e=.returned u.val/\okB t u.k u.n u.s=true/\Jg u.n)/\Below w.heap.size w w':=by
 have K:okB t 0 0 (Qw [])=true:=by simp[okB,Qw]
 have y:Jg 0:=by unfold Jg;omega
 have Y:Below w.heap.size w ((w.alloc (.cells #[.int .i64 v.k,.int .i64 v.n,.string v.s] 33)).alloc (.cells #[.int .i64 0,.int .i64 0,.string ⟨#[]⟩] 33)):=((Oa5 _ _).alloc (Oa2 _) _).alloc zS _;obtain⟨k,n,s⟩:=v;simp only at I H Y;by_cases h0:k=0
 ·subst h0;go_enter func20,ntmps20
  exact zan
 have Z:(k==0)=false:=by simpa using h0
 have bh:=Kb1 n;go_enter func20,ntmps20
 go_wp2_with fail
 refine(Jfw k 7 _ I zd zd).mono ?_;rintro e w1 ⟨⟨r,rfl,hr⟩,rfl⟩;by_cases U:r=6
 ·subst U;exact zan
 have bf:((r:Int)==6)=false:=by rw[beq_eq_false_iff_ne];omega
 by_cases M:s.size<=40
 ·have O:¬ ((40:Int)<(s.size:Int)):=zo;rcases ht with rfl|rfl|rfl
  ·exact zak
  ·exact zaj
  go_wp2_with fail
  refine bodyPost_ret (v:=.agg #[.int .i64 3,.int .i64 0,.string s]) (by simp[results,results20,go_sem]) rfl ⟨⟨⟨3,0,s⟩,rfl,by simp[okB,okK,M],y⟩,((Oa5 _ _).alloc (Oa2 _) _).alloc zS _⟩
 have O:((40:Int)<(s.size:Int)):=zo;have bi:¬ ((s.size:Int)<40):=zo;rcases ht with rfl|rfl|rfl
 ·exact zak
 ·exact zaj
 go_wp2_with fail
 refine bodyPost_ret (v:=.agg #[.int .i64 3,.int .i64 0,.string (s.extract 0 40)]) (by simp[results,results20,go_sem]) rfl ⟨⟨⟨3,0,s.extract 0 40⟩,rfl,by simp[okB,okK];omega,y⟩,((Oa5 _ _).alloc (Oa2 _) _).alloc zS _⟩
end
section
open Go.RowKit Go.Shelf Tryz
attribute [local go_sem] Oc0
abbrev Yo (hs:List (Option Addr×Nat))(j:Nat):Option Addr×Nat:=hs.getD j (none,0)
structure Qd (w:World) (g:Nat) (hs:List (Option Addr×Nat)) (cs:List (List V)):Prop where
 row:Kul w g 30 cs.length (fun j=>.slice (Yo hs j).1 (cs.getD j []).length (Yo hs j).2)
 vals:∀ j,j<cs.length->Jv w (Yo hs j).1 (cs.getD j [])
 cap:∀ j,j<cs.length->(cs.getD j []).length<=(Yo hs j).2
theorem Qd.below {w w' g hs cs}(h:Qd w g hs cs)(hb:Below w.heap.size w w'):Qd w' g hs cs:=
 ⟨h.row.of_block (hb.block _ h.row.lt),fun j y=>(h.vals j y).below hb,h.cap⟩
def Jbx (f t:Nat)(c:List V):List V:=(c.take t).drop f
theorem Jca {f t c}(y:t<=c.length):(Jbx f t c).length=t-f:=by
 unfold Jbx;rw[Of7,Oc7,Oj1 y]
abbrev Jkl (a:Option Addr)(f t:Nat):Option Addr:=if t=f then a else a.map (·.add (f*3))
theorem Jv.cut {w a c}(h:Jv w a c){f t}(K:f<=t)(ht:t<=c.length):Jv w (Jkl a f t) (Jbx f t c):=by
 by_cases e:t=f
 ·subst e;left;exact Od3.1 (by rw[Jca ht,Oe1])
 rcases h with h|⟨b,o,rfl,hb,h⟩
 ·subst h;simp at ht;omega
 unfold Jkl;rw[if_neg e];right;have H:(⟨b,o,none⟩:Addr).add (f*3)=⟨b,o+f*3,none⟩:=Op7 b o (f*3);refine⟨b,o+f*3,by simp[H],hb,fun i v hi=>?_⟩;unfold Jbx at hi;rw[Oh9]at hi;have I:f+i<t:=by
  rcases Oc1 (f+i) t with y|y
  ·exact y
  rw[List.getElem?_take_eq_none y]at hi;simp at hi
 rw[Oh3 I]at hi;have:=h (f+i) v hi;rw[Nat.add_mul,<-On5]at this;exact this
def Jnt (hs:List (Option Addr×Nat))(k f t:Nat):List (Option Addr×Nat):=(List.range k).map fun j=>(Jkl (Yo hs j).1 f t,t-f)
theorem zaO {p:Prop}(h:p:=by rw[Oa0,Ob1,Oa3 y];have:=M j y;rw[Oa0,Oa3 y]at this;exact Jca (by simp at this;omega)):p:=h
theorem Kdx g cap hs cs n f t w(hC:Qd w g hs cs)(M:∀ j,j<cs.length->(cs.getD j []).length=n)(bA:f<=t)(ht:t<=n)(bB:cs.length<=1000):
  Calls prog 114 #[.slice (some ⟨g,0,none⟩) cs.length cap,.int .i64 (f:Int),.int .i64 (t:Int)] w fun e w'=>Below w.heap.size w w'/\e=.returned (.slice (some ⟨w.heap.size,0,none⟩) cs.length cs.length)/\Qd w' w.heap.size (Jnt hs cs.length f t) (cs.map (Jbx f t)):=by
 have bj:=Jiz cs.length w bB;have bG:(f:Int)<=(t:Int):=zo;have bD:(0:Int)<=(f:Int):=zo;have bE:(0:Int)<=(t:Int):=zo;go_enter func114,ntmps114
 go_wp2_with (first|(go_at_call 80;refine bj.mono ?_;rintro e bC ⟨rfl,bi,bz⟩))
 have bk:=bi.row;rw[Od6]at bk;clear bj bi;go_loopw [15] (fun i wr=>∃ k:Nat,k<=cs.length/\i=.int .i64 (k:Int)/\wr.rowIs w.heap.size 30 cs.length (fun j=>if j<k then .slice (Jkl (Yo hs j).1 f t) (t-f) (t-f)else .slice none 0 0)/\Below w.heap.size w wr) (fun i _=>cs.length-(intOf i).toNat)
 case atStart=>
  refine⟨0,Ob7 _,rfl,bk.congr fun j y=>?_,bz⟩;rw[if_neg (Oe0 _)];unfold Uq;rw[Oa0,Of3];split<;>rfl
 case round=>
  obtain⟨k,bH,rfl,U,O⟩:=hrel;by_cases K:k<cs.length
  ·have x1:=Ja O (hC.row.cell K);rw[M k K]at x1;have Z:=hC.cap k K;rw[M k K]at Z;have c1:=U.cell K;have c2:=U.frozen k;simp only[Oe3,if_false]at c1;obtain⟨bf,ck,Y⟩:∃ bf ck,Yo hs k=(bf,ck):=⟨_,_,rfl⟩;rw[Y]at x1 Z;simp only at x1 Z;have bI:(t:Int)<=(ck:Int):=zo;have br:=zh Y;clear Y;go_wp2;go_roundw
   case rel=>
    refine⟨k+1,zo,zn,(U.set k _).congr fun j y=>?_,O.setCell (p:=⟨w.heap.size,k,none⟩) (Oa2 _) _⟩;have bx:=br.out;by_cases e:j=k
    ·subst e;rw[if_pos (show j=j from rfl),if_pos (show j<j+1 from On2 _),bx]
    rw[if_neg e];by_cases bh:j<k
    ·rw[if_pos bh,if_pos zo]
    rw[if_neg bh,if_neg zo]
   case measure=>simp[intOf];omega
  obtain rfl:k=cs.length:=zo;go_wp2;go_ret
  refine⟨O,rfl,⟨?_,fun j y=>?_,fun j y=>?_⟩⟩;all_goals unfold Jnt
  ·rw[Oa6];refine(Kun U).congr fun j y=>?_;rw[if_pos y];have H:Yo ((List.range cs.length).map fun j=>(Jkl (Yo hs j).1 f t,t-f)) j=(Jkl (Yo hs j).1 f t,t-f):=(by simp[Yo,y]);have I:((cs.map (Jbx f t)).getD j []).length=t-f:=by
    exact zaO
   rw[H,I]
  ·rw[Oa6]at y;have H:Yo ((List.range cs.length).map fun j=>(Jkl (Yo hs j).1 f t,t-f)) j=(Jkl (Yo hs j).1 f t,t-f):=(by simp[Yo,y]);have I:(cs.map (Jbx f t)).getD j []=Jbx f t (cs.getD j []):=by
    rw[Oa0,Ob1,Oa3 y,Oa0,Oa3 y];rfl
   rw[H,I];exact((hC.vals j y).below O).cut bA (by rw[M j y];exact ht)
  rw[Oa6]at y;have H:Yo ((List.range cs.length).map fun j=>(Jkl (Yo hs j).1 f t,t-f)) j=(Jkl (Yo hs j).1 f t,t-f):=by simp[Yo,y]
  have I:((cs.map (Jbx f t)).getD j []).length=t-f:=by
   exact zaO
  rw[H,I];exact Oa2 _
theorem Jqo (n:Nat)(K:n<=100000)W:∃ C,(Instr.makeSlice 30 (.int .i64 (n:Int)) (.int .i64 (n:Int))).run prog W=.ok (.slice (some ⟨W.heap.size,0,none⟩) n n) (W.alloc (.cells C 33))/\Kv (W.alloc (.cells C 33)) W.heap.size (List.replicate n Jf) []:=by
 exact zai
def Yq (ns:List Int)(c:List V):List V:=ns.map fun m=>if m=-1 then Jf else c.getD m.toNat Jf
theorem Ze ns c:(Yq ns c).length=ns.length:=by simp[Yq]
theorem Kcv (L:List V)(c n:Nat)(hl:L.length=n)(I:c<n)(h0:L[c]=Jf):L.take c++List.replicate (n-c) Jf=L.take (c+1)++List.replicate (n-(c+1)) Jf:=by
 obtain⟨d,y⟩:∃ d,n-c=d+1:=⟨n-c-1,zo⟩;have H:n-(c+1)=d:=zo;rw[y,H,List.replicate_succ,Jec L c zo,Od8,h0];rfl
theorem Jzq g cap hs cs n an cF ns w(hC:Qd w g hs cs)(cc:∀ j,j<cs.length->(cs.getD j []).length=n)(ci:Kc w an ns)(cb:∀ m∈ns,m=-1\/(0<=m/\m<(n:Int)))(cS:cs.length<=1000)(hl:ns.length<=100000):
  Calls prog 109 #[.slice (some ⟨g,0,none⟩) cs.length cap,.slice an ns.length cF] w fun e w'=>Below w.heap.size w w'/\e=.returned (.slice (some ⟨w.heap.size,0,none⟩) cs.length cs.length)/\∃ cv,Qd w' w.heap.size cv (cs.map (Yq ns))/\∀ j,j<cs.length->∀ b o,(Yo cv j).1=some ⟨b,o,none⟩->w.heap.size<=b/\b<w'.heap.size:=by
 have cj:=Jiz cs.length w cS;have ca:=hC.row.lt;have cA:=zh cb;have cB:=zh ci;have bU:=zh hC;clear cb ci hC;go_enter func109,ntmps109
 go_wp2_with (first|(go_at_call 80;refine cj.mono ?_;rintro e cV ⟨rfl,bZ,cL⟩))
 have cu:=bZ.row;rw[Od6]at cu;clear cj bZ;go_loopw [15] (fun i wr=>∃ (k:Nat) (bs:List Nat),k<=cs.length/\i=.int .i64 (k:Int)/\Hid (bs.length=k)/\wr.rowIs w.heap.size 30 cs.length (fun j=>if j<k then .slice (some ⟨bs.getD j 0,0,none⟩) ns.length ns.length else .slice none 0 0)/\Hid (∀ j b,bs[j]?=some b->Kv wr b (Yq ns (cs.getD j [])) []/\w.heap.size<b)/\Below w.heap.size w wr) (fun i _=>cs.length-(intOf i).toNat)
 case atStart=>
  refine⟨0,[],Ob7 _,rfl,rfl,cu.congr fun j H=>?_,fun j b h=>by simp at h,cL⟩;rw[if_neg (Oe0 _)];unfold Uq;rw[Oa0,Of3];split<;>rfl
 case round=>
  obtain⟨k,bs,db,rfl,br,O,bK,Z⟩:=hrel;obtain⟨y,bk⟩:∃ y,y=wr:=⟨_,rfl⟩;subst bk;have dc:=O.lt;by_cases bh:k<cs.length
  ·obtain⟨C,cN,bD⟩:=Jqo ns.length hl y;have x1:=Ja Z (bU.out.row.cell bh);rw[cc k bh]at x1;obtain⟨bN,ck,bX⟩:∃ bN ck,Yo hs k=(bN,ck):=⟨_,_,rfl⟩;have bG:=bU.out.vals k bh;rw[bX]at x1 bG;simp only at x1 bG;have bM:Hid (Jv w bN (cs.getD k [])/\(cs.getD k []).length=n):=⟨bG,cc k bh⟩;have c1:=O.cell bh;have c2:=O.frozen k;simp only[Oe3,if_false]at c1;clear bX bG;go_wp2;clear cN c1 c2;have bA:=Z.setCell (p:=⟨w.heap.size,k,none⟩) (Oa2 _) (.slice (some ⟨y.heap.size,0,none⟩) ns.length ns.length);have bj:(y.setCell ⟨w.heap.size,k,none⟩ (.slice (some ⟨y.heap.size,0,none⟩) ns.length ns.length)).heap.size=y.heap.size:=by simp[World.setCell]
   go_loopw [28] (fun i wr=>∃ c:Nat,c<=ns.length/\i=.int .i64 (c:Int)/\Kv wr y.heap.size ((Yq ns (cs.getD k [])).take c++List.replicate (ns.length-c) Jf) []/\wr.rowIs w.heap.size 30 cs.length (fun j=>if j=k then .slice (some ⟨y.heap.size,0,none⟩) ns.length ns.length else if j<k then .slice (some ⟨bs.getD j 0,0,none⟩) ns.length ns.length else .slice none 0 0)/\Hid (∀ x,x<y.heap.size->x≠w.heap.size->wr.heap[x]?=y.heap[x]?)/\y.heap.size<wr.heap.size/\Below w.heap.size w wr) (fun i _=>ns.length-(intOf i).toNat)
   case atStart=>
    obtain⟨cU,I,M⟩:=bD;rw[heap_alloc_new]at I;simp at I;subst I;refine⟨0,Ob7 _,rfl,⟨C,?_,by simpa using M⟩,(O.set k _).alloc _,fun x bR bS=>?_,by rw[Oa7,bj];omega,Jc bA _⟩
    ·have:=heap_alloc_new (y.setCell ⟨w.heap.size,k,none⟩ (.slice (some ⟨y.heap.size,0,none⟩) ns.length ns.length)) (.cells C 33);rw[bj]at this;exact this
    rw[Oa9 _ _ x (by rw[bj];exact bR),Oa4 _ _ _ _ bS]
   case round=>
    obtain⟨c,da,rfl,U,bx,bJ,cx,Y⟩:=hrel;have bI:=zh bx;by_cases bf:c<ns.length
    ·obtain⟨bn,df,rfl,cZ,cT⟩:=Kc.at (cB.out.below Y) bf;have cO:c<(Yq ns (cs.getD k [])).length:=by rw[Ze];exact bf
     by_cases bi:ns[c]=-1
     ·have cf:(ns[c] != -1)=false:=(by simp[bi]);have bV:=Kcv (Yq ns (cs.getD k [])) c ns.length (Ze _ _) bf (by simp[Yq,bi]);rw[bV]at U;have bL:=zh U;clear U bx O bD bA bj bV bi;go_wp2;go_roundw
      case rel=>exact⟨c+1,zo,zn,bL.out,bI.out,bJ,cx,Y⟩
      case measure=>simp[intOf];omega
     have cf:(ns[c] != -1)=true:=(by simp[bi]);have dd:=(cA.out _ (Ob3 bf)).resolve_left bi;obtain⟨u,cy⟩:∃ u:Nat,ns[c]=(u:Int):=⟨ns[c].toNat,zo⟩;have cR:u<n:=zo;rw[cy]at cT cf;have bQ:u<(cs.getD k []).length:=by rw[bM.out.2];exact cR
     obtain⟨b2,bH,cK,cY,z1,z2,bT⟩:=(bM.out.1.below Y).at bQ;subst cK;obtain⟨cW,de,bY,cX,_⟩:=bM.out.1.at bQ;simp only[Oc9,Oh2,and_true]at bY;obtain⟨rfl,rfl⟩:=bY;have bP:=bx.cell bh;simp only[if_true]at bP;have cn:(Yq ns (cs.getD k []))[c]=(cs.getD k [])[u]:=by
      simp only[Yq,Od9,cy];rw[if_neg zo,Int.toNat_natCast,Oa0 (l:=cs.getD k []),Oa3 bQ];rfl
     have hlen:((Yq ns (cs.getD k [])).take c++List.replicate (ns.length-c) Jf).length=ns.length:=by
      rw[Oa8,Oc7,Ze,Od6];omega
     obtain⟨old,⟨c0,cG⟩,⟨c1,I⟩,⟨c2,M⟩,bE⟩:=U.put (Yq ns (cs.getD k []))[c] c (by rw[hlen];exact bf);rw[Jk1 (Yq ns (cs.getD k [])) c ns.length (Ze _ _) bf,cn]at bE;have dh:wr.cell? ⟨g,k,none⟩=some (.slice (some ⟨b2,bH,none⟩) n ck):=by rw[Y.cell (p:=⟨g,k,none⟩) ca,<-Z.cell (p:=⟨g,k,none⟩) ca];exact x1
     generalize (cs.getD k [])[u]=v at z1 z2 bT bE;have cD:=zh bE;have bk:=Z.size;clear bE hlen cO bx O bD bA bj cn bi;go_wp2;refine wp_region_held_drew (S:=fun X=>X.cell? ⟨w.heap.size,k,none⟩=some (.slice (some ⟨y.heap.size,0,none⟩) ns.length ns.length)/\X.cell? ⟨b2,bH+u*3,none⟩=some (.int .i64 v.k)/\X.cell? ⟨b2,bH+u*3+1,none⟩=some (.int .i64 v.n)/\X.cell? ⟨b2,bH+u*3+2,none⟩=some (.string v.s)) zK ⟨bP,z1,z2,bT⟩ (fun K=>?_);refine tkj 0 rfl K ?_;refine tkj 1 rfl K ?_;refine tkj 2 rfl K ?_;refine tkj 3 rfl K ?_;refine tkj 4 rfl K ?_;refine tkj 5 rfl K ?_;refine tkj 6 rfl K ?_;refine tkj 7 rfl K ?_;refine tkj 8 rfl K ?_;refine tkj 9 rfl K ?_;refine tkn ?_;refine tkr 10 rfl fun cE hK=>?_;go_simp;have bz:∀ (b o:Nat) (u:Value),b≠y.heap.size->wr.cell? ⟨b,o,none⟩=some u->(((wr.setCell ⟨y.heap.size,c*3,none⟩ (.int .i64 v.k)).setCell ⟨y.heap.size,c*3+1,none⟩ (.int .i64 v.n)).setCell ⟨y.heap.size,c*3+2,none⟩ (.string v.s)).cell? ⟨b,o,none⟩=some u:=fun b o u hb hv=>by
      exact zae
     refine hK.out _ _ ⟨bz _ _ _ zo bP,bz _ _ _ zo z1,bz _ _ _ zo z2,bz _ _ _ zo bT⟩ (fun cJ=>?_);clear hK cE bz K cJ c0 cG c1 I c2 M;refine wpAnyH_done zK ?_ _;have cP:Hid ((((wr.setCell ⟨y.heap.size,c*3,none⟩ (.int .i64 v.k)).setCell ⟨y.heap.size,c*3+1,none⟩ (.int .i64 v.n)).setCell ⟨y.heap.size,c*3+2,none⟩ (.string v.s)).rowIs w.heap.size 30 cs.length (fun j=>if j=k then .slice (some ⟨y.heap.size,0,none⟩) ns.length ns.length else if j<k then .slice (some ⟨bs.getD j 0,0,none⟩) ns.length ns.length else .slice none 0 0)):=
      ((bI.out.setOther (a:=⟨y.heap.size,c*3,none⟩) (by show w.heap.size≠y.heap.size;omega) _).setOther (a:=⟨y.heap.size,c*3+1,none⟩) (by show w.heap.size≠y.heap.size;omega) _).setOther (a:=⟨y.heap.size,c*3+2,none⟩) (by show w.heap.size≠y.heap.size;omega) _
     have cM:Below w.heap.size w (((wr.setCell ⟨y.heap.size,c*3,none⟩ (.int .i64 v.k)).setCell ⟨y.heap.size,c*3+1,none⟩ (.int .i64 v.n)).setCell ⟨y.heap.size,c*3+2,none⟩ (.string v.s)):=
      ((Y.setCell (p:=⟨y.heap.size,c*3,none⟩) bk _).setCell (p:=⟨y.heap.size,c*3+1,none⟩) bk _).setCell (p:=⟨y.heap.size,c*3+2,none⟩) bk _
     have cC:Hid (∀ x,x<y.heap.size->x≠w.heap.size->(((wr.setCell ⟨y.heap.size,c*3,none⟩ (.int .i64 v.k)).setCell ⟨y.heap.size,c*3+1,none⟩ (.int .i64 v.n)).setCell ⟨y.heap.size,c*3+2,none⟩ (.string v.s)).heap[x]?=y.heap[x]?):=fun x bR bS=>by
      rw[Oa4 _ _ _ _ (by show x≠y.heap.size;omega),Oa4 _ _ _ _ (by show x≠y.heap.size;omega),Oa4 _ _ _ _ (by show x≠y.heap.size;omega)];exact bJ.out x bR bS
     have cQ:y.heap.size<(((wr.setCell ⟨y.heap.size,c*3,none⟩ (.int .i64 v.k)).setCell ⟨y.heap.size,c*3+1,none⟩ (.int .i64 v.n)).setCell ⟨y.heap.size,c*3+2,none⟩ (.string v.s)).heap.size:=by simp[World.setCell];exact cx
     generalize ((wr.setCell ⟨y.heap.size,c*3,none⟩ (.int .i64 v.k)).setCell ⟨y.heap.size,c*3+1,none⟩ (.int .i64 v.n)).setCell ⟨y.heap.size,c*3+2,none⟩ (.string v.s)=dg at *;go_wp2;go_roundw
     case rel=>exact⟨c+1,zo,zn,cD.out,cP.out,cC.out,cQ,cM.drew⟩
     case measure=>simp[intOf];omega
    obtain rfl:c=ns.length:=zo;rw[Oe1,List.replicate_zero,Od7,Oc8 (by rw[Ze];exact Oa2 _)]at U;have bL:=zh U;have bk:=Z.size;clear U bx O bD bA bj;go_wp2;go_roundw
    case rel=>
     refine⟨k+1,bs++[y.heap.size],zo,zn,by show _=_;rw[Oa8,br.out];rfl,bI.out.congr fun j H=>?_,fun j b hb=>?_,Y⟩
     ·have bC:=br.out;by_cases e:j=k
      ·subst e;simp[bC]
      by_cases bW:j<k
      ·have bO:j<k+1:=zo;simp[e,bW,bO,List.getElem?_append_left (show j<bs.length by omega)]
      have bO:¬ j<k+1:=zo;simp[e,bW,bO]
     by_cases e:j<bs.length
     ·rw[Ob0 e]at hb;obtain⟨cz,r2⟩:=bK.out j b hb;exact⟨cz.of_block (bJ.out b cz.lt zo),r2⟩
     have bC:=br.out;have H:j=k:=by
      have:=(Ob9.1 hb).1;simp at this;omega
     subst H;rw[<-bC,Ob6 (Oa2 _),Oe1]at hb;simp at hb;subst hb;exact⟨bL.out,zo⟩
    case measure=>simp[intOf];omega
  obtain rfl:k=cs.length:=zo;go_wp2;go_ret
  refine⟨Z,rfl,(List.range cs.length).map fun j=>((some ⟨bs.getD j 0,0,none⟩:Option Addr),ns.length),⟨?_,fun j H=>?_,fun j H=>?_⟩,fun j H b o e=>?_⟩
  ·rw[Oa6];refine(Kun O).congr fun j H=>?_;rw[if_pos H];have I:Yo ((List.range cs.length).map fun j=>((some ⟨bs.getD j 0,0,none⟩:Option Addr),ns.length)) j=(some ⟨bs.getD j 0,0,none⟩,ns.length):=by simp[Yo,H]
   have M:((cs.map (Yq ns)).getD j []).length=ns.length:=by
    rw[Oa0,Ob1,Oa3 H];exact Ze _ _
   rw[I,M]
  ·rw[Oa6]at H;have I:Yo ((List.range cs.length).map fun j=>((some ⟨bs.getD j 0,0,none⟩:Option Addr),ns.length)) j=(some ⟨bs.getD j 0,0,none⟩,ns.length):=by simp[Yo,H]
   have M:(cs.map (Yq ns)).getD j []=Yq ns (cs.getD j []):=by
    rw[Oa0,Ob1,Oa3 H,Oa0,Oa3 H];rfl
   rw[I,M];have bB:j<bs.length:=by rw[br.out];exact H
   have:=(bK.out j bs[j] (Oa3 bB)).1.vals;have cH:bs.getD j 0=bs[j]:=by rw[Oa0,Oa3 bB];rfl
   rw[cH];exact this
  ·rw[Oa6]at H;have I:Yo ((List.range cs.length).map fun j=>((some ⟨bs.getD j 0,0,none⟩:Option Addr),ns.length)) j=(some ⟨bs.getD j 0,0,none⟩,ns.length):=by simp[Yo,H]
   have M:((cs.map (Yq ns)).getD j []).length=ns.length:=by
    rw[Oa0,Ob1,Oa3 H];exact Ze _ _
   rw[I,M];exact Oa2 _
  have bC:=br.out;have bB:j<bs.length:=zo;have cI:(Yo ((List.range cs.length).map fun j=>((some ⟨bs.getD j 0,0,none⟩:Option Addr),ns.length)) j).1=some ⟨bs.getD j 0,0,none⟩:=by
   unfold Yo;rw[Oa0,Ob1,Oh6 H];rfl
  rw[cI]at e;cases e
  have:=bK.out j (bs.getD j 0) (by rw[Oa0,Oa3 bB];rfl);exact⟨Nat.le_of_lt this.2,this.1.lt⟩
end
section
open Go.RowKit
attribute [local go_sem] Oc0
def Zp (n:Int):Int:=if -9223372036854775808<=n/\n<=9223372036854775807 then n else 0
def Yn (n:Int):Int:=if -9223372036854775808<=n/\n<=9223372036854775807 then 0 else 10
def Kbr (a b:Int):Int:=if b=0 then 0 else Zp (a.tdiv b)
def Jq4 (a b:Int):Int:=if b=0 then 9 else Yn (a.tdiv b)
end
open Go.RowKit Go.Shelf Tryz
def KpB (Fx:Nat->Prop)(W y:World):Prop:=W.heap.size<=y.heap.size/\∀ k,Fx k->y.heap[k]?=W.heap[k]?
theorem KpB.trans {Fx A B C}(h:KpB Fx A B)(k:KpB Fx B C):KpB Fx A C:=⟨Ob2 h.1 k.1,fun i hi=>(k.2 i hi).trans (h.2 i hi)⟩
theorem KpB.of_below {Fx A B}(h:Below A.heap.size A B)(hF:∀ k,Fx k->k<A.heap.size):KpB Fx A B:=⟨h.size,fun k y=>h.block k (hF k y)⟩
def Jbo (g:Nat)(hs:List (Option Addr×Nat))(k:Nat)(F:Nat->Prop):Prop:=F g/\∀ j,j<k->∀ b o,(Yo hs j).1=some ⟨b,o,none⟩->F b
theorem Qd.kp {Fx W H g hs cs}(h:Qd W g hs cs)(y:KpB Fx W H)(hF:Jbo g hs cs.length Fx):Qd H g hs cs:=
 ⟨h.row.of_block (y.2 g hF.1),fun j I=>(h.vals j I).of_block y.1 fun b o e _=>y.2 b (hF.2 j I b o e),h.cap⟩
abbrev Bat:=Nat×Nat×Nat
def Kgp (B:Nat)(hs:List (Option Addr×Nat))(cols:List (List V))(N z:Nat)(x:Bat)(W:World):Prop:=x.1+x.2.1<=N/\(1<=x.2.1/\x.2.1<=z)/\B<=x.2.2/\Qd W x.2.2 (Jnt hs cols.length x.1 (x.1+x.2.1)) (cols.map (Jbx x.1 (x.1+x.2.1)))
theorem Jjx (n:Nat)(cy:1<=n)(I H g cap:Nat)hs cols(N z:Nat)(bM:1<=z)(cC:z<=100000)(cn:N<=100000)(bk:1<=cols.length)(cc:cols.length<=1000)w(hC:Qd w g hs cols)(bI:∀ j,j<cols.length->(cols.getD j []).length=N)(bB:w.cell? ⟨I,0,none⟩=some (.slice (some ⟨g,0,none⟩) cols.length cap))(bA:w.cell? ⟨H,0,none⟩=some (.int .i64 (z:Int)))Fx(hF:Fx I/\Fx H/\Jbo g hs cols.length Fx)(bC:∀ k,Fx k->k<w.heap.size):
  Kh4 Fence.wide n prog 141 #[.pointer (some ⟨I,0,none⟩),.pointer (some ⟨H,0,none⟩)] (fun x:Bat=>#[.int .i64 (x.1:Int),.slice (some ⟨x.2.2,0,none⟩) cols.length cols.length]) (Kgp w.heap.size hs cols N z) (KpB Fx) (fun y=>y.map (fun x=>(x.1,x.2.1))=cks N z (ckN N z)) (fun cf=>∃ k,k<=ckN N z/\cf.map (fun x=>(x.1,x.2.1))=cks N z k) (ckN N z) w:=by
 intro l J ci W O bD bU bG h0;have bE:∀ s A Y,Below A.heap.size A Y->J s A->J s Y:=fun s A Y hb h=>bD s A Y none h ⟨hb.os,hb.tape,hb.output,hb.size,fun k K _=>hb.block k K⟩ (fun r e=>by cases e);have bN:=zh bE;have bQ:=zh bG;have Z:Hid (Qd W g hs cols/\(∀ j,j<cols.length->(cols.getD j []).length=N)):=⟨hC.below O,bI⟩;have M:Hid ((Fx I/\Fx H/\Jbo g hs cols.length Fx)/\∀ k,Fx k->k<W.heap.size):=⟨hF,fun k K=>Oc2 (bC k K) O.size⟩;have bS:=Ja O bB;have bz:=Ja O bA;have cu:=O.size;clear bE bG hC bI hF bC bB bA bD bU;have bi:=Z.out.1.row.cell bk;rw[Z.out.2 0 bk]at bi;have hlen:=Jlg g cols.length cap (Yo hs 0).1 N (Yo hs 0).2 W bk bi;clear bi;refine callsIn_of_wp func141 rfl trivial ?_ rfl;simp only[ntmps141,Om3,List.length_cons,List.length_nil,Nat.reduceAdd,Nat.reduceSub,Ok9,Array.replicate_zero,Om4,Ol2,List.nil_append,List.cons_append];gi_wp2_with (refine⟨trivial,?_⟩;gi_at_call 56;refine(callsIn_wide.2 hlen).mono ?_;rintro e w' ⟨rfl,cb⟩;rw[cb])
 gi_loopw [5] (fun i wr=>∃ (k:Nat) (y:List Bat),k<=ckN N z/\i=.int .i64 ((k*z:Nat):Int)/\Hid (y.map (fun x=>(x.1,x.2.1))=cks N z k)/\J y wr/\KpB Fx W wr) (fun i _=>N+100000-(intOf i).toNat)
 case atStart=>exact⟨0,[],Ob7 _,zS,rfl,h0,Oa2 _,fun _ _=>rfl⟩
 case round=>
  obtain⟨k,y,K,rfl,bf,bj,U⟩:=hrel;have c1:wr.cell? ⟨I,0,none⟩=some (.slice (some ⟨g,0,none⟩) cols.length cap):=by rw[Oc3 (w:=W) (U.2 I M.out.1.1)];exact bS
  have c2:wr.cell? ⟨H,0,none⟩=some (.int .i64 (z:Int)):=by rw[Oc3 (w:=W) (U.2 H M.out.1.2.1)];exact bz
  by_cases bL:k*z<N
  ·have bJ:=Khi bM bL;have bh:Hid (cks N z (k+1)=cks N z k++[(k*z,min z (N-k*z))]):=Jbj N z k;have bP:Hid ((k+1)*z=k*z+z):=Of5 k z;have cB:y.length=k:=by have:=congrArg List.length bf.out;rw[Oa6,Jbp]at this;exact this
   generalize k*z=i at *;obtain⟨m,bY,br⟩:∃ m:Nat,(i+m<=N/\1<=m/\m<=z)/\Hid (m=min z (N-i)):=⟨min z (N-i),zo,rfl⟩;rw[<-br.out]at bh;obtain⟨cv,bZ,ca⟩:=bY;have cx:min ((i:Int)+(z:Int)) (N:Int)=(i:Int)+(m:Int):=by have:=br.out;omega
   have cz:IntKind.i64.wrap ((i:Int)+(z:Int))=(i:Int)+(z:Int):=by rw[Od4];omega
   have hcut:=Kdx g cap hs cols N i (i+m) wr (Z.out.1.kp U M.out.1.2.2) Z.out.2 zo zo cc;rw[Int.natCast_add]at hcut;have cA:W.heap.size<=wr.heap.size:=U.1;have cj:=bj;gi_wp2_with (refine⟨trivial,?_⟩;gi_at_call 114;refine(callsIn_wide.2 hcut).mono ?_;rintro e bR ⟨bH,rfl,bW⟩;obtain⟨fn,tmps,assign,body,hy,hR⟩:=bQ.out y (i,m,wr.heap.size) bR (bN.out _ _ _ bH bj) ⟨by show i+m<=N;omega,⟨bZ,ca⟩,by show w.heap.size<=wr.heap.size;omega,bW⟩ zo;dsimp only at hy)
   refine hR.mono ?_;rintro e bx (⟨rfl,bT,bX⟩|⟨rfl,bV⟩)
   ·have bK:KpB Fx W bx:=(U.trans (KpB.of_below bH (fun k K=>by have:=M.out.2 k K;omega))).trans bX;have c3:bx.cell? ⟨H,0,none⟩=some (.int .i64 (z:Int)):=by rw[Oc3 (w:=W) (bK.2 H M.out.1.2.1)];exact bz
    gi_wp2
    go_roundw
    case rel=>exact⟨k+1,y++[(i,m,wr.heap.size)],bJ,by rw[bP.out];go_num,by show _=_;rw[Ob8,bf.out,bh.out];rfl,bT,bK⟩
    case measure=>simp[intOf];omega
   gi_wp2
   refine bodyPost_ret (results_none rfl _ _ _) rfl ?_;exact⟨⟨_,rfl⟩,.inr ⟨_,⟨k+1,bJ,by rw[Ob8,bf.out,bh.out];rfl⟩,bV⟩⟩
  have bO:Hid (k=ckN N z):=by
   rcases Oc1 k (ckN N z)with h'|h'
   ·exact absurd (Jqs bM h') bL
   ·show k=_;omega
  gi_wp2
  go_end0
  exact⟨⟨_,rfl⟩,.inl ⟨y,by rw[bf.out,bO.out],bj⟩⟩
attribute [local go_sem] Oc0
theorem Jfy w a n cap c(h:n<=cap)ty:(Builtin.append_ #[30,30] ty #[.slice a n cap,.slice none 0 c]).run prog w=.ok (.slice a n cap) w:=by
 have y:(sizeOf 33).run prog w=.ok 3 w:=zK;cases a with
 |none=>simp[Builtin.append_,run_underlying underlying30,y,Builtin.lenOf,Builtin.firstCells,h,Result.andThen]
 |some H=>simp[Builtin.append_,run_underlying underlying30,y,Builtin.lenOf,Builtin.firstCells,storeCells,h,Result.andThen]
theorem Jju {w Y rest o a Q}(O:o.guard=none)s x(ho:o.op=.call {callee:=.builtin .append,args:=#[s,x],argTypes:=#[30,30]})B sv y(hs:a.eval s=sv)(H:Yt w B sv y)M c vs(K:a.eval x=.slice M vs.length c)(hv:Jv w M vs)(hlen:y.length+vs.length<=1000000)(bj:B<=w.heap.size)(h:∀ sv' w',Yt w' B sv' (y++vs)->w.grownBy w' sv.ownBlock->(sv'.ownBlock=sv.ownBlock\/sv'.ownBlock=some w.heap.size)->wpList prog Y Q rest (a.put o.dst sv') w'):
  wpList prog Y Q (o::rest) a w:=by
 cases M with
 |none=>
  have bz:vs=[]:=by
   rcases hv with hv|⟨b,bB,hb,_⟩
   ·exact hv
   simp at hb
  subst bz;refine wpList_plain O fun bD hK=>?_;have hr:(Builtin.append_ #[30,30] o.type #[sv,.slice none 0 c]).run prog w=.ok sv w:=by
   rcases H.2 with⟨I,_⟩|⟨g,cap,bE,I,_,_,br,_⟩
   ·rw[I];exact Jfy w none 0 0 c (Oa2 _) _
   rw[I];exact Jfy w _ _ cap c br _
  unfold Oper.wp execOp;simp only[List.length_nil]at K;simp only[ho,resolve,invoke,builtin,Sem.run_bind,Sem.run_pure,Result.andThen_ok,List.map_toArray,Oe4,Oi4,hs,K,hr];exact hK _ _ (h sv w (by rw[Od7];exact H) (World.grownBy.refl _ _) (.inl rfl))
 |some Z=>
  obtain⟨i,hi,bA,bx,bk⟩:=info_parts Jow;refine wpList_append_own_at w O s x 30 ho B 33 i _ 3 32 zK hi bA bx bk rfl zd sv y.length (y.flatMap V.cells) hs H Z vs.length c (vs.flatMap V.cells) K (Ja5 vs) ?_ ?_ ?_ ?_ bj ?_
  ·intro j u U;rcases hv with hv|⟨b,bB,hb,_,hv⟩
   ·subst hv;simp at U
   simp only[Oc9]at hb;subst hb;have:=Kem hv j u U;exact this
  ·exact Kap vs
  ·unfold maxLen;omega
  ·omega
  intro bC w' bf bh _ bi;refine h bC w' ?_ bh bi;unfold Yt;simpa using bf
def Jdi (cs y:List (List V))(k:Nat):List (List V):=(List.range cs.length).map fun j=>if j<k then cs.getD j []++y.getD j []else cs.getD j []
theorem Jf9 cs y k:(Jdi cs y k).length=cs.length:=by simp[Jdi]
theorem Jlm cs y k j(H:j<cs.length):(Jdi cs y k).getD j []=if j<k then cs.getD j []++y.getD j []else cs.getD j []:=by
 rw[Oa0];simp only[Jdi,Ob1,Oh6 H,Option.map_some,Option.getD_some]
theorem Kat cs y:Jdi cs y 0=cs:=by
 apply Oh4
 ·simp[Jdi]
 intro j I H;simp[Jdi,H]
theorem Jy5 cs y k(K:k<cs.length):(Jdi cs y k).set k ((Jdi cs y k).getD k []++y.getD k [])=Jdi cs y (k+1):=by
 apply Oh4
 ·simp[Jdi]
 intro j M I;have O:j<cs.length:=by simpa [Jdi] using I
 rw[List.getElem_set];by_cases e:k=j
 ·subst e;rw[if_pos rfl,Jlm cs y k k K,if_neg (Oe3 _)];simp[Jdi]
 rw[if_neg e];simp only[Jdi,Od9,Oo7];by_cases H:j<k
 ·rw[if_pos H,if_pos zo]
 rw[if_neg H,if_neg zo]
structure Kgu (w:World) (g:Nat) (hs:List (Option Addr×Nat)) (cs:List (List V)):Prop where
 lt:g<w.heap.size
 cell:∀ j,j<cs.length->w.cell? ⟨g,j,none⟩=some (.slice (Yo hs j).1 (cs.getD j []).length (Yo hs j).2)
 vals:∀ j,j<cs.length->Jv w (Yo hs j).1 (cs.getD j [])
theorem Qd.loose {w g hs cs}(h:Qd w g hs cs):Kgu w g hs cs:=⟨h.row.lt,fun _ y=>h.row.cell y,h.vals⟩
theorem Kb4 B g cap K cs g2 cv hs y w(cy:Jar w B g K cs)(bK:Kgu w g2 hs y)(hl:y.length=cs.length)(bN:∀ j,j<cs.length->(cs.getD j []).length+(y.getD j []).length<=1000000)(cx:B<=w.heap.size)(cI:cs.length<=1000)(bL:∀ j b,j<cs.length->(Uq K j).ownBlock=some b->b≠g2/\∀ k Y bE,k<y.length->(Yo hs k).1=some ⟨Y,bE,none⟩->b≠Y)(bQ:g≠g2/\∀ k Y bE,k<y.length->(Yo hs k).1=some ⟨Y,bE,none⟩->g≠Y):
  Calls prog 110 #[.slice (some ⟨g,0,none⟩) cs.length cap,.slice (some ⟨g2,0,none⟩) y.length cv] w fun e w'=>e=.returned (.tuple #[])/\(∃ cb,Jar w' B g cb (Jdi cs y cs.length)/\∀ j b,j<cs.length->(Uq cb j).ownBlock=some b->(Uq K j).ownBlock=some b\/w.heap.size<=b)/\Below B w w'/\w.heap.size<=w'.heap.size/\∀ x,x<w.heap.size->x≠g->(∀ j,j<cs.length->(Uq K j).ownBlock≠some x)->w'.heap[x]?=w.heap[x]?:=by
 have bA:=zh bK;have bH:=zh bL;have bI:=zh bQ;have cf:=zh bN;clear bK bL bQ bN;rw[hl];go_enter func110,ntmps110
 go_wp2;go_loopw [8] (fun i wr=>∃ (k:Nat) (M:List Value),k<=cs.length/\i=.int .i64 (k:Int)/\Jar wr B g M (Jdi cs y k)/\Hid ((∀ j,k<=j->Uq M j=Uq K j)/\∀ j b,j<cs.length->(Uq M j).ownBlock=some b->(Uq K j).ownBlock=some b\/w.heap.size<=b)/\Below B w wr/\Hid (w.heap.size<=wr.heap.size/\∀ x,x<w.heap.size->x≠g->(∀ j,j<cs.length->(Uq K j).ownBlock≠some x)->wr.heap[x]?=w.heap[x]?)) (fun i _=>cs.length-(intOf i).toNat)
 case atStart=>exact⟨0,K,Ob7 _,rfl,by rw[Kat];exact cy,⟨fun j _=>rfl,fun j b _ e=>.inl e⟩,Oa5 _ _,⟨Oa2 _,fun x _ _ _=>rfl⟩⟩
 case round=>
  obtain⟨k,M,cH,rfl,I,bj,bP,H⟩:=hrel;by_cases bh:k<cs.length
  ·have bf:k<(Jdi cs y k).length:=by rw[Jf9];exact bh
   have br:k<y.length:=zo;have cB:=bA.out.lt;have bM:wr.heap[g2]?=w.heap[g2]?:=H.out.2 g2 cB (Oc5 bI.out.1) (fun j O e=>(bH.out j g2 O e).1 rfl);have x1:=(Oc3 (a:=⟨g2,k,none⟩) bM).trans (bA.out.cell k br);obtain⟨bC,ck,Z⟩:∃ bC ck,Yo hs k=(bC,ck):=⟨_,_,rfl⟩;have bX:Jv wr bC (y.getD k []):=by
    have:=bA.out.vals k br;rw[Z]at this;refine this.of_block H.out.1 fun b o hb cz=>H.out.2 b cz ?_ ?_
    ·exact fun e=>bI.out.2 k b o br (by rw[Z];exact hb) e.symm
    exact fun j O e=>(bH.out j b O e).2 k b o br (by rw[Z];exact hb) rfl
   rw[Z]at x1;simp only at x1;obtain⟨vs,bz⟩:∃ vs,y.getD k []=vs:=⟨_,rfl⟩;rw[bz]at x1 bX;have cn:=zh bz;obtain⟨sv,bi⟩:∃ sv,Uq M k=sv:=⟨_,rfl⟩;have bB:=zh bi;obtain⟨U,bx⟩:∃ U,(Jdi cs y k).getD k []=U:=⟨_,rfl⟩;have cj:=zh bx;have ci:Hid (U.length+vs.length<=1000000):=by
    show _<=_;rw[<-bx,<-bz,Jlm cs y k k bh,if_neg (Oe3 _)];exact cf.out k bh
   have cc:=I.row.cell (i:=k) (by rw[I.len];exact bf);rw[bi]at cc;have cE:=I.row.frozen k;have bD:=I.own k bf;rw[bi,bx]at bD;have cu:Hid (∀ bk,wr.grownBy bk sv.ownBlock->bk.cell? ⟨g,k,none⟩=some sv/\bk.frozen? ⟨g,k,none⟩=false):=fun bk cA=>by
    have bS:=I.ne k bf;rw[bi]at bS;have hb:=cA.block g I.row.lt (fun e=>bS e.symm);exact⟨by rw[Oc3 hb];exact cc,by rw[Ol7 hb];exact cE⟩
   have bO:B<=wr.heap.size:=Ob2 cx H.out.1;clear Z bz bi bx bM;go_wp2_with (first|(at_builtin;refine Jju zR _ _ zR B _ U zR bD _ _ vs zR bX ci.out bO ?_;intro sv' bG q1 q2 ca;obtain⟨cJ,cK⟩:=cu.out bG q2;obtain⟨bJ,c5,bW,_⟩:=q1.vals;rw[Oa8]at bW;subst bW))
   go_roundw
   case rel=>
    have bU:(Uq K k).ownBlock=sv.ownBlock:=by rw[<-bj.out.1 k (Oa2 _),bB.out]
    have bT:=I.put (vs:=vs) (sv':=.slice bJ (U.length+vs.length) c5) bf (by rw[cj.out];exact q1) (by rw[bB.out];exact q2) (by rw[bB.out];exact ca);have bV:=Jy5 cs y k bh;rw[cn.out]at bV;rw[bV]at bT;have bR:k<M.length:=by rw[I.len];exact bf
    refine⟨k+1,_,zo,zn,bT,⟨fun j O=>?_,fun j b O e=>?_⟩,(bP.grown q2 bO (fun b hb=>(Je bD hb).1)).setCell (p:=⟨g,k,none⟩) I.low _,⟨?_,fun x cD bY bZ=>?_⟩⟩
    ·rw[Jem bR,if_neg zo];exact bj.out.1 j zo
    ·rw[Jem bR]at e;split at e
     ·rename_i cC
      subst cC;rcases ca with q|q
      ·rw[q]at e;exact .inl (bU.trans e)
      rw[q]at e;simp only[Oc9]at e;exact .inr (by have:=H.out.1;omega)
     exact bj.out.2 j b O e
    ·have cF:=H.out.1;have cG:=q2.size;have:(bG.setCell ⟨g,k,none⟩ (.slice bJ (U.length+vs.length) c5)).heap.size=bG.heap.size:=by simp[World.setCell]
     omega
    rw[Oa4 _ _ _ _ bY,q2.block x (by have:=H.out.1;omega) (fun e=>bZ k bh (by rw[bU];exact e.symm))];exact H.out.2 x cD bY bZ
   case measure=>simp[intOf];omega
  obtain rfl:k=cs.length:=zo;go_wp2;go_end0
  exact⟨rfl,⟨M,I,bj.out.2⟩,bP,H.out.1,H.out.2⟩
