/- How long segments are, how many a table has, and how many pages they take. -/
import Derived.Test.YtjbenncelbpbnaaGreatDoorMa
import Derived.Test.YtjbenncelbpbnaaGreatDoorAf
set_option maxHeartbeats 1000000
set_option maxRecDepth 100000
namespace Go.Proofs.YtjbenncelbpbnaaGreatDoor
section
open Go.RowKit Tryz
theorem Kgo xs(hn:xs.length<=64)(H:∀ v∈xs,good v.k v.s):(Jds xs).length<=6000:=by
 have y:=Jk0 xs [];have I:=Jgg (Ym [] xs) fun v hv=>by
  rcases Jlj xs [] v hv with h|h
  ·simp at h
  exact H v h
 unfold Jds;rw[Oa8,List.length_cons,Qb,Jal,Oa6];simp at y;omega
theorem Kan t xs(hn:xs.length<=64):(Zz t xs).length<=6000:=by
 unfold Zz;split
 ·rw[Qb,Jal];simp[Uv];omega
 cases xs with
 |nil=>simp[Jei]
 |cons v l=>
  unfold Jei;have y:=Jkx (v::l) (Jn v.n (v::l));have K:Uv (v::l) (Jn v.n (v::l))=dif v.n (Jn v.n (v::l))::Uv l (Jn v.n (v::l)):=rfl;rw[K]at y;have M:=Jk2 18446744073709551616 (Uv l (Jn v.n (v::l))) (dif v.n (Jn v.n (v::l))) (y _ Of4) fun n hn=>y n (Og1 _ hn);have H:=Jf7 _ M;rw[Oa8,Oa8,Jc4,Qb,Jal];have I:(Uv (v::l) (Jn v.n (v::l))).length=(v::l).length:=by simp[Uv]
  rw[I];have:bitLen (Yz (dif v.n (Jn v.n (v::l))) (Uv l (Jn v.n (v::l))))*(v::l).length<=64*64:=Ol5 H hn;simp only[List.length_cons,List.length_nil]at *;omega
theorem Kfy t H xs(hn:xs.length<=64)(y:∀ v∈xs,good v.k v.s):(Jdt t H xs).length<=6000:=by
 unfold Jdt;split
 ·have:=Jgg xs y;omega
 split
 ·exact Kgo xs hn y
 split
 ·have:=Jng _ xs (Oa2 _) y;omega
 exact Kan t xs hn
theorem zaM {p:Prop}(h:p:=by unfold Jav Kz;rw[Oa8,Oa8,Qb,Oa6];simp only[List.length_cons,List.length_nil];omega):p:=h
theorem Khf t y xs(h:Jdq t xs):(Jav t y xs).length<=6100/\Jav t y xs≠[]:=by
 have H:=Kfy t y (Jz xs) (Ob2 (Zy xs) h.1) (Jgz t xs h);have I:=h.1;refine⟨?_,by simp[Jav,Kz]⟩;exact zaM
theorem Jt7 {rows ts hs c}(h:(Uo rows ts hs c).2=0):(Uo rows ts hs c).1.length<=6100/\(Uo rows ts hs c).1≠[]:=by
 unfold Uo Jev at h |-;split at h
 ·rename_i hw
  rw[if_pos hw];split at h
  ·simp at h
  rename_i H
  rw[if_neg H];simp only[Og5]at hw;refine Khf _ _ _ ?_;have y:=hw.2;unfold Jfr at y;simp only[Og5,decide_eq_true_iff,List.all_eq_true]at y;exact⟨y.1,fun j I=>y.2 _ (Ob3 I)⟩
 simp at h
theorem Jrd rows ts hs:∀ (k:Nat) (l:List (List UInt8)),Jeo rows ts hs k=.inl l->∀ t∈l,t.length<=6100/\t≠[]
 |0,l,h=>by simp[Jeo]at h;subst h;simp
 |k+1,l,h=>by
  simp only[Jeo]at h;split at h
  ·simp at h
  rename_i I H
  split at h
  ·rename_i y
   simp at h;subst h;intro t ht;rcases Od2.1 ht with ht|ht
   ·exact Jrd rows ts hs k I H t ht
   simp at ht;subst ht;exact Jt7 y
  simp at h
theorem Jte rs ts hs xs T(h:Jfg rs ts hs xs=.inl T):T.length=xs.length*ts.length/\∀ t∈T,t.length<=6100/\t≠[]:=by
 have key:∀ (xs:List (Nat×Nat)) (y T:List (List UInt8)),xs.foldl (Jiu rs ts hs) (.inl y)=.inl T->(∀ t∈y,t.length<=6100/\t≠[])->T.length=y.length+xs.length*ts.length/\∀ t∈T,t.length<=6100/\t≠[]:=by
  intro xs;induction xs with
  |nil=>intro y T h h0;simp at h;subst h;exact⟨zS,h0⟩
  |cons x xs I=>
   intro y T h h0;rw[List.foldl_cons]at h;simp only[Jiu]at h;split at h
   ·rename_i l hl
    have:=I (y++l) T h (fun t ht=>by
     rcases Od2.1 ht with ht|ht
     ·exact h0 t ht
     exact Jrd _ ts hs _ l hl t ht)
    refine⟨?_,this.2⟩;rw[this.1,Oa8,Jjc _ ts hs _ l hl,List.length_cons,Of5];omega
   rename_i c K
   have hb:∀ H:List (Nat×Nat),H.foldl (Jiu rs ts hs) (.inr c)=.inr c:=by
    intro H;induction H with
    |nil=>rfl
    |cons M H I=>exact I
   rw[hb]at h;simp at h
 have:=key xs [] T h zS;simpa using this
theorem Joc:∀ (ts:List (List UInt8)),(∀ t∈ts,t.length<=6100)->Jch ts<=110*ts.length
 |[],_=>by simp[Jch]
 |t::ts,h=>by
  have y:=Jio t;have H:=h t zS;have I:=Joc ts fun t ht=>h t (by simp[ht]);rw[Ja1,List.length_cons];omega
theorem Jrj {w B sv ns}(h:Jo w B 3 sv (ns.map iv))(M:ns≠[]):∃ g c,sv=.slice (some ⟨g,0,none⟩) ns.length c/\B<=g/\g<w.heap.size/\Kc w (some ⟨g,0,none⟩) ns:=by
 obtain⟨a,c,y,I⟩:=h.cells;rw[Oa6]at y;subst y;rcases h.2 with⟨hv,h0⟩|⟨g,cap,O,hv,H,K,_⟩
 ·simp at h0;exact absurd h0 M
 simp at hv;obtain⟨rfl,rfl⟩:=hv;exact⟨g,c,rfl,H,Jd K,I⟩
theorem Jhe b o cap ns w(y:ns≠[])(hl:ns.length<=1000)(h:Kc w (some ⟨b,o,none⟩) ns):
  Calls prog 50 #[.slice (some ⟨b,o,none⟩) ns.length cap] w fun e w'=>Below w.heap.size w w'/\∃ g c,e=.returned (.slice (some ⟨g,0,none⟩) ns.length c)/\w.heap.size<=g/\g<w'.heap.size/\Kc w' (some ⟨g,0,none⟩) ns:=by
 have K:Below w.heap.size w (w.alloc (.cells #[] 3)):=(Oa5 _ w).alloc (Oa2 _) _;have O:Hid (∀ (j:Nat) (u:Value),(ns.map iv)[j]?=some u->(w.alloc (.cells #[] 3)).cell? ((⟨b,o,none⟩:Addr).add j)=some u):=fun j u H=>by
  rcases h.below K with h0|⟨bx,bB,M,_,bh⟩
  ·simp at h0;exact absurd h0 y
  simp at M;obtain⟨rfl,rfl⟩:=M;rw[Op7];exact bh j u H
 have Y:Hid (Jo (w.alloc (.cells #[] 3)) w.heap.size 3 (.slice (some ⟨w.heap.size,0,none⟩) 0 0) []):=
  ⟨rfl,.inr ⟨w.heap.size,0,#[],rfl,Oa2 _,heap_alloc_new _ _,Oa2 _,Ob7 _,rfl,rfl⟩⟩
 have U:=zh y;have bA:∀ W:World,(binOp .eql 22 (.slice (some ⟨b,o,none⟩) ns.length cap) (.slice none 0 0)).run prog W=.ok (.bool false) W:=fun W=>Lib.run_eql_slice_some_nil W _ _ _ underlying22;clear y h;go_enter func50,ntmps50
 go_wp2_with (at_builtin;go_must (refine Ul zR _ _ 22 3 _ 8 Zw zR zd zK zR w.heap.size _ [] zR (by exact Y.out) ⟨b,o,none⟩ cap (ns.map iv) (by simp[Act.eval]) (by exact O.out) (by intro u H;obtain⟨x,_,rfl⟩:=Of0.1 H;rfl) zt zS ?_);intro sv' br I Z bz)
 have bf:Below w.heap.size w br:=Jy (sv:=.slice (some ⟨w.heap.size,0,none⟩) 0 0) K Z (fun g bi=>by simp[Value.ownBlock]at bi;omega);rw[List.nil_append]at I;obtain⟨g,c,rfl,bj,bk,hI⟩:=Jrj I U.out;go_ret
 exact⟨bf,g,c,rfl,bj,bk,hI⟩
end
section
open Go.RowKit
theorem Jhi x rest:Jat x.length (x++rest)=some (x,rest):=by
 unfold Jat;rw[if_pos zS];simp
def Jg (n:Int):Prop:=-9223372036854775808<=n/\n<=9223372036854775807
theorem Ka1 u:∀ k,Jeh ((List.range k).map fun i=>UInt8.ofNat (u / 256 ^ i % 256))=u % 256 ^ k:=by
 intro k;induction k with
 |zero=>simp[Jeh,Nat.mod_one]
 |succ k y=>
  rw[Oj7,Ob8,Oe4,Oi4,Jlf,y];have H:u / 256 ^ k % 256<256:=Ol0 _ zd;have e:(UInt8.ofNat (u / 256 ^ k % 256)).toNat=u / 256 ^ k % 256:=by
   simp
  rw[e,Oa6,Op1,Nat.mod_pow_succ,Nat.mul_comm]
theorem Jza u(h:u<18446744073709551616):Jeh (le8 u)=u:=by
 unfold le8;rw[Ka1];have y:256 ^ 8=18446744073709551616:=zd;exact Nat.mod_eq_of_lt zo
theorem Jsf n(h:Jg n):wrap64 ((u64 n:Nat):Int)=n:=by
 unfold Jg at h;unfold wrap64 u64;omega
theorem Jh5 n rest(h:Jg n):Jc7 (le8 (u64 n)++rest)=some (n,rest):=by
 have e:=Jhi (le8 (u64 n)) rest;rw[Jc4]at e;unfold Jc7;rw[e];simp only;rw[Jza _ (Jp3 n),Jsf n h]
theorem Jgf (n:Nat)(h:n<256):(low (n:Int)).toNat=n:=by
 unfold low;have e:((n:Int) % 256).toNat=n:=zo;rw[e];simp;omega
theorem Je8 (n:Nat)rest(h:n<256):Ur (low (n:Int)::rest)=some (n,rest):=by
 simp[Ur,Jgf n h]
def okT (t:Int)(v:V):Prop:=v.k=t/\okK v.k v.n v.s=true/\Jg v.n
theorem Jit s(h:s.toList.isEmpty=true):s=Qw []:=by
 rw[List.isEmpty_iff]at h;rw[<-Zf s,h]
theorem Jj3 t v rest(h:okT t v):Qz t (enc v.k v.n v.s++rest)=some (v,rest):=by
 obtain⟨hk,y,hr⟩:=h;obtain⟨k,n,s⟩:=v;simp only at hk y hr;subst hk;unfold okK at y;simp only[decide_eq_true_eq]at y;rcases y with⟨rfl,hs⟩|⟨rfl,hn,hs⟩|⟨rfl,rfl,hs⟩
 ·have:=Jit s hs;subst this;have e:enc 1 n (Qw [])=le8 (u64 n):=rfl;unfold Qz;rw[if_pos rfl];simp only[e,Jh5 n rest hr];rfl
 ·have:=Jit s hs;subst this;have e:enc 2 n (Qw [])=[low n]:=rfl;unfold Qz;rw[if_neg zd,if_pos rfl];simp only[e];rcases hn with rfl|rfl
  ·rfl
  rfl
 have e:enc 3 0 s=low (s.size:Nat)::s.toList:=rfl;have hl:s.toList.length=s.size:=by rw[Og4,Array.length_toList];rfl
 unfold Qz;rw[if_neg zd,if_neg zd];simp only[e];have H:=Jhi s.toList rest;rw[hl]at H;unfold Jne;rw[List.cons_append,Je8 _ _ zo];simp only[H,Option.map_some,Zf]
theorem Jmy t:∀ (vs:List V) (rest:List UInt8),(∀ v∈vs,okT t v)->Yl t vs.length (Yv vs++rest)=some (vs,rest):=by
 intro vs;have key:∀ (n:Nat) (vs:List V) (rest:List UInt8),vs.length=n->(∀ v∈vs,okT t v)->Yl t n (Yv vs++rest)=some (vs,rest):=by
  intro n;induction n with
  |zero=>intro vs rest hn _;rw[Od3]at hn;subst hn;rfl
  |succ n O=>
   intro vs rest hn H;obtain⟨y,v,rfl⟩:∃ y v,vs=y++[v]:=⟨vs.dropLast,vs.getLast (by intro e;simp[e]at hn),(List.dropLast_concat_getLast _).symm⟩;have M:y.length=n:=by simpa using hn
   have I:=O y (enc v.k v.n v.s++rest) M fun u K=>H u (by simp[K]);have e:Yv (y++[v])++rest=Yv y++(enc v.k v.n v.s++rest):=by rw[Jjz,Od8]
   rw[e,Yl,I];simp only;rw[Jj3 t v rest (H v zS)];rfl
 intro rest H;exact key vs.length vs rest rfl H
theorem Jwf L j(I:j<L.length):Jn6 (Kk L) j=L.getD j false:=by
 have H:j / 8<(L.length+7) / 8:=zo;have e:((Kk L).getD (j / 8) 0).toNat=Jag L (j / 8):=by
  have hb:=Ji4 L (j / 8);simp[Kk,H];omega
 unfold Jn6;rw[e,Yx];have y:8*(j / 8)+j % 8=j:=zo;rw[y];have:j % 8<8:=Ol0 _ zd;simp[this]
theorem Kbi x i n:∀ b,(∀ k,k<b->Jn6 x (i+k)=n.testBit k)->Zc x i b=n % 2 ^ b:=by
 intro b;induction b with
 |zero=>intro _;simp[Zc,Nat.mod_one]
 |succ b y=>
  intro h;rw[Zc,y fun k hk=>h k zo,h b zo,Nat.mod_pow_succ,On1];have H:n / 2 ^ b % 2<2:=Ol0 _ zd;generalize n / 2 ^ b % 2=m at *;have:m=0\/m=1:=zo;rcases this with rfl|rfl<;>simp
theorem Jct y ns rest(h:∀ n∈ns,n<2 ^ y):Yj y ns.length (Kk (Ue y ns)++rest)=some (ns,rest):=by
 have e:=Jhi (Kk (Ue y ns)) rest;rw[Qb,Jal]at e;unfold Yj;rw[e];simp only[Oc9,Oj3,and_true];apply Oh4
 ·simp
 intro i O K;have hi:i<ns.length:=K;rw[Od9,Oo7];have hb:Zc (Kk (Ue y ns)) (y*i) y=ns[i] % 2 ^ y:=by
  apply Kbi;intro k hk;have I:=Jms y ns i k hi hk;have M:y*i+k<(Ue y ns).length:=by
   rcases Oc1 (y*i+k) (Ue y ns).length with H|H
   ·exact H
   rw[Ob4 H]at I;simp at I
  rw[Jwf _ _ M,Oa0,I];rfl
 rw[hb,Nat.mod_eq_of_lt (h _ (Ob3 hi))]
theorem Jwd xs(h:∀ v∈xs,v.k=0->v=Jf):Ys (xs.map Qt) (Jz xs)=xs:=by
 induction xs with
 |nil=>rfl
 |cons v xs M=>
  have I:=M fun u K=>h u (Og1 _ K);by_cases hk:v.k=0
  ·have y:Qt v=0:=(by simp[Qt,hk]);have H:Jz (v::xs)=Jz xs:=(by simp[Jz,hk]);rw[Oe4,y,H,Ys,if_neg zd,I,h v zS hk]
  have y:Qt v=1:=by simp[Qt,hk]
  have H:Jz (v::xs)=v::Jz xs:=by simp[Jz,hk]
  rw[Oe4,y,H,Ys,if_pos rfl];simp only[List.headD_cons,List.tail_cons,I]
theorem Jyx xs:Qs (xs.map Qt)=(Jz xs).length:=by
 induction xs with
 |nil=>rfl
 |cons v xs I=>
  by_cases hk:v.k=0
  ·have y:Qt v=0:=(by simp[Qt,hk]);have H:Jz (v::xs)=Jz xs:=(by simp[Jz,hk]);rw[Oe4,y,H,Qs,if_neg zd,I];omega
  have y:Qt v=1:=by simp[Qt,hk]
  have H:Jz (v::xs)=v::Jz xs:=by simp[Jz,hk]
  rw[Oe4,y,H,Qs,if_pos rfl,I,List.length_cons];omega
theorem Jut {t xs}(h:Jdq t xs)(ht:1<=t):∀ v∈xs,v.k=0->v=Jf:=by
 intro v hv hk;obtain⟨j,y,rfl⟩:=Od5 hv;have:=h.2 j y;unfold okB at this;simp only[decide_eq_true_eq]at this;generalize xs[j]=v at *;rcases this with⟨_,hn,hs⟩|⟨e,_⟩
 ·exact V.ext' hk hn (Jit _ hs)
 omega
theorem Jvg {t xs}(h:Jdq t xs)(hr:∀ v∈xs,Jg v.n):∀ v∈Jz xs,okT t v:=by
 intro v hv;unfold Jz at hv;rw[Om0]at hv;obtain⟨hv,hk⟩:=hv;have I:=hr v hv;obtain⟨j,y,rfl⟩:=Od5 hv;have:=h.2 j y;unfold okB at this;simp only[decide_eq_true_eq]at this;rcases this with⟨e,_,_⟩|⟨e,H⟩
 ·rw[e]at hk;simp at hk
 exact⟨e,H,I⟩
def Kkn (y:Int):Prop:=∀ (t:Int) (vs:List V),way t y=true->vs.length<=64->¬ (y=1/\16<(Ym [] vs).length)->(∀ v∈vs,okT t v)->Jce t y vs.length (Jdt t y vs++[])=some (vs,[])
theorem Kj4:Kkn 0:=fun t vs _ _ _ h=>Jmy t vs [] h
theorem Kja {t y xs bs}(h:Jev t y xs=(bs,0)):way t y=true/\Jdq t xs/\¬ (y=1/\16<(Ym [] (Jz xs)).length)/\((t.toNat:Nat):Int)=t/\((y.toNat:Nat):Int)=y/\Jf2 bs=some ((t.toNat,y.toNat,xs.length),Kk (xs.map fun v=>v.k != 0)++Jdt t y (Jz xs)):=by
 unfold Jev at h;by_cases hb:(way t y&&Jfr t xs)=true
 ·rw[if_pos hb]at h;by_cases K:y=1/\16<(Ym [] (Jz xs)).length
  ·rw[if_pos K]at h;simp at h
  rw[if_neg K]at h;simp only[Oj3,and_true]at h;rw[Og5]at hb;obtain⟨U,M⟩:=hb;rw[Jfd]at M;have O:=U;unfold way at O;simp only[decide_eq_true_eq]at O;obtain⟨br,bx,bi,bj,bk⟩:=O;have Y:=M.1;have I:((t.toNat:Nat):Int)=t:=zo;have H:((y.toNat:Nat):Int)=y:=zo;refine⟨U,M,K,I,H,?_⟩;rw[<-h];have e:Jav t y xs=low t::low y::low (xs.length:Nat)::(Kk (xs.map fun v=>v.k != 0)++Jdt t y (Jz xs)):=rfl;rw[e];have Z:(low t).toNat=t.toNat:=by rw[<-I,Jgf _ zo];omega
  have bf:(low y).toNat=y.toNat:=by rw[<-H,Jgf _ zo];omega
  have bh:(low (xs.length:Nat)).toNat=xs.length:=Jgf _ zo;simp only[Jf2];rw[Z,bf,bh,I,H,if_pos ⟨U,Y⟩]
 rw[if_neg hb]at h;simp at h
theorem Ki9 t y(O:Kkn y)xs bs(h:Jev t y xs=(bs,0))(hr:∀ v∈xs,Jg v.n):Jbf bs=some (t.toNat,y.toNat,xs):=by
 obtain⟨M,H,Z,Y,U,bf⟩:=Kja h;have K:=M;unfold way at K;simp only[decide_eq_true_eq]at K;have bk:=H.1;have bh:=Jvg H hr;have bi:=Jut H zo;have br:=Zy xs;have I:=O t (Jz xs) M zo Z bh;rw[Od7]at I;have hf:=Jct 1 (xs.map Qt) (Jdt t y (Jz xs)) (by
  intro n hn;obtain⟨v,_,rfl⟩:=Of0.1 hn;unfold Qt;split<;>decide)
 rw[Jrg,Oa6]at hf;have bj:Ug t y xs.length (Kk (xs.map fun v=>v.k != 0)++Jdt t y (Jz xs))=some (xs,[]):=by
  unfold Ug;rw[hf];simp only;rw[Jyx,I,Option.map_some,Jwd xs bi]
 unfold Jbf;rw[bf];simp only;rw[Y,U,bj];simp only;rw[if_pos h]
end
open Go.RowKit Tryz
theorem Jfw (c:Int)(n:Nat)w(H:Jg c)(hn:0<n)(K:n<=4611686018427387904):
  Calls prog 9 #[.int .i64 c,.int .i64 n] w fun e w'=>(∃ r:Nat,e=.returned (.int .i64 r)/\r<n)/\w'=w:=by
 unfold Jg at H;have y:¬ ((n:Int)=0):=zo;by_cases h0:c<0
 ·go_enter func9,ntmps9
  go_wp2;go_ret
  have I:=Int.emod_nonneg (-(c+1)) y;have hl:=Int.emod_lt_of_pos (-(c+1)) (show (0:Int)<n by omega);have e:-((c+1).tmod n)=(((-(c+1)) % (n:Int)).toNat:Int):=by
   rw[<-Int.neg_tmod,Int.tmod_eq_emod_of_nonneg zo];omega
  refine⟨⟨((-(c+1)) % (n:Int)).toNat,?_,zo⟩,rfl⟩;rw[<-e];rfl
 go_enter func9,ntmps9
 go_wp2;go_ret
 have I:=Int.emod_nonneg c y;have hl:=Int.emod_lt_of_pos c (show (0:Int)<n by omega);have e:c % (n:Int)=((c % (n:Int)).toNat:Int):=zo;refine⟨⟨(c % (n:Int)).toNat,?_,zo⟩,rfl⟩;rw[<-e];rfl
theorem Jfu w:Calls prog 15 #[] w fun e w'=>e=.returned (Jb6 0)/\Below w.heap.size w w':=by
 go_enter func15,ntmps15
 go_wp2;exact bodyPost_ret (v:=Jb6 0) (by simp[results,results15,go_sem]) rfl ⟨rfl,(Oa5 _ _).alloc (Oa2 _) _⟩
theorem Kb1 n:bits .and .i64 n 1=n % 2:=by
 have y:(BitVec.ofInt 64 1).toNat=2 ^ 1-1:=zd;have key:(BitVec.ofInt 64 n &&& BitVec.ofInt 64 1).toNat=(n % ((2 ^ 64:Nat):Int)).toNat % 2 ^ 1:=by
  rw[BitVec.toNat_and,Ok6,y,Nat.and_two_pow_sub_one_eq_mod]
 show IntKind.i64.wrap ((BitVec.ofInt 64 n &&& BitVec.ofInt 64 1).toNat:Nat)=n % 2;rw[key,Od4];omega
theorem Jx5 n:okB 2 2 (n % 2) ⟨#[]⟩=true:=by
 have:n % 2=0\/n % 2=1:=zo;rcases this with e|e<;>simp[okB,okK,e]
theorem Jyh n:Jg (n % 2):=by unfold Jg;omega
theorem zaj {p:Prop}(h:p:=by
 go_wp2_with fail
 refine bodyPost_ret (v:=.agg #[.int .i64 2,.int .i64 (n % 2),.string ⟨#[]⟩]) (by simp[results,results19,go_sem]) rfl ⟨⟨⟨2,n % 2,⟨#[]⟩⟩,rfl,Jx5 n,Jyh n⟩,((Oa5 _ _).alloc (Oa2 _) _).alloc zS _⟩):p:=h
theorem zak {p:Prop}(h:p:=by
 go_wp2_with fail
 refine bodyPost_ret (v:=.agg #[.int .i64 1,.int .i64 n,.string ⟨#[]⟩]) (by simp[results,results19,go_sem]) rfl ⟨⟨⟨1,n,⟨#[]⟩⟩,rfl,by simp[okB,okK],hn⟩,((Oa5 _ _).alloc (Oa2 _) _).alloc zS _⟩):p:=h
theorem zan {p:Prop}(h:p:=by
 go_wp2_with fail
 refine bodyPost_ret (v:=.agg #[.int .i64 0,.int .i64 0,.string ⟨#[]⟩]) (by simp[results,results19,go_sem]) rfl ⟨⟨⟨0,0,⟨#[]⟩⟩,rfl,H,y⟩,((Oa5 _ _).alloc (Oa2 _) _).alloc zS _⟩):p:=h
theorem Jk8 (v:V)(t:Int)w(ht:t=1\/t=2\/t=3)(hk:Jg v.k)(hn:Jg v.n):
  Calls prog 19 #[v.val,.int .i64 t] w fun e w'=>(∃ u:V,e=.returned u.val/\okB t u.k u.n u.s=true/\Jg u.n)/\Below w.heap.size w w':=by
 have H:okB t 0 0 (Qw [])=true:=by simp[okB,Qw]
 have y:Jg 0:=by unfold Jg;omega
 have O:Below w.heap.size w ((w.alloc (.cells #[.int .i64 v.k,.int .i64 v.n,.string v.s] 59)).alloc (.cells #[.int .i64 0,.int .i64 0,.string ⟨#[]⟩] 59)):=((Oa5 _ _).alloc (Oa2 _) _).alloc zS _;obtain⟨k,n,s⟩:=v;simp only at hk hn O;by_cases h0:k=0
 ·subst h0;go_enter func19,ntmps19
  exact zan
 have U:(k==0)=false:=by simpa using h0
 have Z:=Kb1 n;go_enter func19,ntmps19
 go_wp2_with fail
 refine(Jfw k 7 _ hk zd zd).mono ?_;rintro e w1 ⟨⟨r,rfl,hr⟩,rfl⟩;by_cases M:r=6
 ·subst M;exact zan
 have Y:((r:Int)==6)=false:=by rw[beq_eq_false_iff_ne];omega
 by_cases I:s.size<=40
 ·have K:¬ ((40:Int)<(s.size:Int)):=zo;rcases ht with rfl|rfl|rfl
  ·exact zak
  ·exact zaj
  go_wp2_with fail
  refine bodyPost_ret (v:=.agg #[.int .i64 3,.int .i64 0,.string s]) (by simp[results,results19,go_sem]) rfl ⟨⟨⟨3,0,s⟩,rfl,by simp[okB,okK,I],y⟩,((Oa5 _ _).alloc (Oa2 _) _).alloc zS _⟩
 have K:((40:Int)<(s.size:Int)):=zo;have bf:¬ ((s.size:Int)<40):=zo;rcases ht with rfl|rfl|rfl
 ·exact zak
 ·exact zaj
 go_wp2_with fail
 refine bodyPost_ret (v:=.agg #[.int .i64 3,.int .i64 0,.string (s.extract 0 40)]) (by simp[results,results19,go_sem]) rfl ⟨⟨⟨3,0,s.extract 0 40⟩,rfl,by simp[okB,okK];omega,y⟩,((Oa5 _ _).alloc (Oa2 _) _).alloc zS _⟩
