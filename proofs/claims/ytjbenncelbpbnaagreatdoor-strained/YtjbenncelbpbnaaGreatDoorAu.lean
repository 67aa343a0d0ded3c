/- The program's heap of runs: which of three is ahead; sinking. -/
import Derived.Test.YtjbenncelbpbnaaGreatDoorAr
set_option maxHeartbeats 4000000
set_option maxRecDepth 100000
namespace Go.Proofs.YtjbenncelbpbnaaGreatDoor
open Go.RowKit Go.Shelf Tryz
def Ksb (c:Nat->Nat->Int)(n:Nat)(g:Nat->Nat)(i l:Nat):Nat:=if (decide (l<n)&&ltB c (g l) (g i))=true then l else i
theorem Qbr {c n g i l}(hi:i<n):Ksb c n g i l<n:=by
 unfold Ksb;split
 ·rename_i h;simp at h;exact h.1
 exact hi
theorem zaQ {p:Prop}(h:p:=by
 have bB:Hid _:=bh;clear bh;go_wp2;go_ret
 exact⟨by rw[bB.out];rfl,bL⟩):p:=h
theorem Kxl hb H sb n cap i l r f key P c w(h:Kr8 w hb H sb n cap f)(hi:i<n)(hl:l<=3000000)(bK:∀ j,j<n->P (f j))(bJ:Kur w (HpG hb H) sb P key c):
  Calls prog 246 #[.pointer (some ⟨hb,0,none⟩),.int .i64 (i:Nat),.int .i64 (l:Nat),.int .i64 (r:Nat)] w fun e w'=>e=.returned (.int .i64 (Ksb c n (fun j=>key (f j)) (Ksb c n (fun j=>key (f j)) i l) r:Nat))/\Below w.heap.size w w':=by
 have bI:=zh bJ;have bj:=zh bK;have O:Hid (∀ X,Below w.heap.size w X->Kr8 X hb H sb n cap f):=fun X bQ=>h.below bQ;have Z:Below w.heap.size w w:=Oa5 _ _;clear bJ bK h;go_enter func246,ntmps246
 obtain⟨M,s1,_⟩:=Kss (O.out w Z).st;unfold ahV at s1;have K:=(O.out w Z).cell i hi;have bR:(i:Int)<(n:Int):=zo;obtain⟨bz,bN⟩:∃ bz,(decide (l<n)&&ltB c (key (f l)) (key (f i)))=bz:=⟨_,rfl⟩;have bk:=zh bN;clear bN;go_upto_region 1 with fail
 go_cut [36] from 9 to 36 (fun v wx=>v=.bool bz/\Below w.heap.size w wx)
 case first=>
  by_cases I:l<n
  ·have bi:(l:Int)<(n:Int):=zo;have cl:=(O.out w Z).cell l I;have bD:=bI.out w.drew (Ju.of_below (Jp Z 1)) (f l) (f i) (bj.out l I) (bj.out i hi);go_region_held3 (fun X=>X.cell? ⟨hb,0,none⟩=some (.slice (some ⟨H,0,none⟩) n cap)/\X.cell? ⟨hb,1,none⟩=some (.func (.func 207) #[.pointer (some ⟨sb,0,none⟩)] #[])/\X.cell? ⟨H,l,none⟩=some (.pointer (some ⟨f l,0,none⟩))/\X.cell? ⟨H,i,none⟩=some (.pointer (some ⟨f i,0,none⟩)))
    (first|(exact⟨M,s1,cl,K⟩)|(exact bC)|(go_split_ands;refine⟨?_,?_,?_,?_⟩<;>assumption))
    (first|(go_at_call 207;refine bD.mono ?_;rintro e bP ⟨rfl,bE⟩;have y:=Jw bE;have bC:=And.intro (Ja y M) (And.intro (Ja y s1) (And.intro (Ja y cl) (Ja y K)))))
   go_wp2;go_meet
   case rel=>exact⟨by rw[<-bk.out,decide_eq_true I,Bool.true_and],Jb Z y⟩
  have bi:¬ (l:Int)<(n:Int):=zo;have bS:decide ((l:Int)<(n:Int))=false:=decide_eq_false bi;go_big_region
  all_goals go_wp2
  all_goals go_meet
  all_goals exact⟨by rw[<-bk.out,decide_eq_false I,Bool.false_and],Jp Z 1⟩
 case rest=>
 obtain⟨rfl,bG⟩:=hcut;clear M s1 K bR;generalize wc=bU at *;obtain⟨m,bf⟩:∃ m,m=Ksb c n (fun j=>key (f j)) i l:=⟨_,rfl⟩;have bM:m<n:=bf▸Qbr hi;have U:=zh bf;clear bf;have bf:=bM;clear bM;go_upto_if 36 with fail
 go_cut [1] from 9 to 37 (fun v wx=>v=.int .i64 (m:Nat)/\Below w.heap.size w wx)
 case first=>
  cases bz with
  |true=>
   have bH:m=l:=by rw[U.out];unfold Ksb;rw[if_pos bk.out]
   clear U;subst bH;go_wp2;go_meet
   case rel=>exact⟨rfl,bG⟩
  |false=>
   have bH:m=i:=by rw[U.out];unfold Ksb;rw[if_neg (by rw[bk.out];simp)]
   clear U;subst bH;go_wp2;go_meet
   case rel=>exact⟨rfl,bG⟩
 case rest=>
 clear bG;obtain⟨rfl,Y⟩:=hcut;generalize wc=bx at *;obtain⟨M,s1,_⟩:=Kss (O.out bx Y).st;unfold ahV at s1;have K:=(O.out bx Y).cell m bf;have bT:(m:Int)<(n:Int):=zo;obtain⟨bA,bO⟩:∃ bA,(decide (r<n)&&ltB c (key (f r)) (key (f m)))=bA:=⟨_,rfl⟩;have br:=zh bO;clear bO;go_upto_region 3 with fail
 go_cut [65] from 38 to 65 (fun v wx=>v=.bool bA/\Below w.heap.size w wx)
 case first=>
  by_cases I:r<n
  ·have bi:(r:Int)<(n:Int):=zo;have cl:=(O.out bx Y).cell r I;have bD:=bI.out bx.drew (Ju.of_below (Jp Y 1)) (f r) (f m) (bj.out r I) (bj.out m bf);go_region_held3 (fun X=>X.cell? ⟨hb,0,none⟩=some (.slice (some ⟨H,0,none⟩) n cap)/\X.cell? ⟨hb,1,none⟩=some (.func (.func 207) #[.pointer (some ⟨sb,0,none⟩)] #[])/\X.cell? ⟨H,r,none⟩=some (.pointer (some ⟨f r,0,none⟩))/\X.cell? ⟨H,m,none⟩=some (.pointer (some ⟨f m,0,none⟩)))
    (first|(exact⟨M,s1,cl,K⟩)|(exact bC)|(go_split_ands;refine⟨?_,?_,?_,?_⟩<;>assumption))
    (first|(go_at_call 207;refine bD.mono ?_;rintro e bP ⟨rfl,bE⟩;have y:=Jw bE;have bC:=And.intro (Ja y M) (And.intro (Ja y s1) (And.intro (Ja y cl) (Ja y K)))))
   go_wp2;go_meet
   case rel=>exact⟨by rw[<-br.out,decide_eq_true I,Bool.true_and],Jb Y y⟩
  have bi:¬ (r:Int)<(n:Int):=zo;have bS:decide ((r:Int)<(n:Int))=false:=decide_eq_false bi;go_big_region
  all_goals go_wp2
  all_goals go_meet
  all_goals exact⟨by rw[<-br.out,decide_eq_false I,Bool.false_and],Jp Y 1⟩
 case rest=>
 obtain⟨rfl,bL⟩:=hcut;clear M s1 K bT;generalize wc=bV at *;cases bA with
 |true=>
  have bh:Ksb c n (fun j=>key (f j)) (Ksb c n (fun j=>key (f j)) i l) r=r:=by rw[<-U.out];unfold Ksb;rw[if_pos br.out]
  exact zaQ
 |false=>
  have bh:Ksb c n (fun j=>key (f j)) (Ksb c n (fun j=>key (f j)) i l) r=m:=by rw[<-U.out];unfold Ksb;rw[if_neg (by rw[br.out];simp)]
  exact zaQ
theorem Kzl {c}(ho:Kse c){n g i}(Z:Inj n g)(hi:i<n):
  (Ksb c n g (Ksb c n g i (2*i+1)) (2*i+2)=i/\∀ j,0<j->j<n->(j-1) / 2=i->Lt c (g i) (g j)) \/
  ((
   Ksb c n g (Ksb c n g i (2*i+1)) (2*i+2)=2*i+1\/Ksb c n g (Ksb c n g i (2*i+1)) (2*i+2)=2*i+2)/\Ksb c n g (Ksb c n g i (2*i+1)) (2*i+2)<n/\Lt c (g (Ksb c n g (Ksb c n g i (2*i+1)) (2*i+2))) (g i) /\
   ∀ j,0<j->j<n->(j-1) / 2=i->j≠Ksb c n g (Ksb c n g i (2*i+1)) (2*i+2)->Lt c (g (Ksb c n g (Ksb c n g i (2*i+1)) (2*i+2))) (g j)):=by
 have M:∀ a b,a<n->b<n->a≠b->¬ Lt c (g a) (g b)->Lt c (g b) (g a):=fun a b bf hb bh h=>Lt.total ho (fun e=>bh (Z a b bf hb e)) h;by_cases H:2*i+1<n/\Lt c (g (2*i+1)) (g i)
 ·have U:Ksb c n g i (2*i+1)=2*i+1:=by unfold Ksb;rw[if_pos (by simp[H.1,Ksr.2 H.2])]
  rw[U];by_cases y:2*i+2<n/\Lt c (g (2*i+2)) (g (2*i+1))
  ·have I:Ksb c n g (2*i+1) (2*i+2)=2*i+2:=by unfold Ksb;rw[if_pos (by simp[y.1,Ksr.2 y.2])]
   rw[I];refine .inr ⟨.inr rfl,y.1,y.2.trans ho H.2,fun j a1 a2 O Y=>?_⟩;rw[show j=2*i+1 by omega];exact y.2
  have I:Ksb c n g (2*i+1) (2*i+2)=2*i+1:=by unfold Ksb;rw[if_neg (by rw[Og5,decide_eq_true_eq,Ksr];exact y)]
  rw[I];refine .inr ⟨.inl rfl,H.1,H.2,fun j a1 a2 O Y=>?_⟩;have K:j=2*i+2:=zo;subst K;exact M _ _ a2 H.1 zo fun h=>y ⟨a2,h⟩
 have U:Ksb c n g i (2*i+1)=i:=by unfold Ksb;rw[if_neg (by rw[Og5,decide_eq_true_eq,Ksr];exact H)]
 rw[U];by_cases y:2*i+2<n/\Lt c (g (2*i+2)) (g i)
 ·have I:Ksb c n g i (2*i+2)=2*i+2:=by unfold Ksb;rw[if_pos (by simp[y.1,Ksr.2 y.2])]
  rw[I];refine .inr ⟨.inr rfl,y.1,y.2,fun j a1 a2 O Y=>?_⟩;have K:j=2*i+1:=zo;subst K;exact y.2.trans ho (M _ _ a2 hi zo fun h=>H ⟨a2,h⟩)
 have I:Ksb c n g i (2*i+2)=i:=by unfold Ksb;rw[if_neg (by rw[Og5,decide_eq_true_eq,Ksr];exact y)]
 rw[I];refine .inl ⟨rfl,fun j a1 a2 O=>?_⟩;by_cases K:j=2*i+1
 ·subst K;exact M _ _ a2 hi zo fun h=>H ⟨a2,h⟩
 have K:j=2*i+2:=zo;subst K;exact M _ _ a2 hi zo fun h=>y ⟨a2,h⟩
theorem Kwm hb y sb cap f w(h:Kr8 w hb y sb 0 cap f):
  Calls prog 246 #[.pointer (some ⟨hb,0,none⟩),.int .i64 0,.int .i64 1,.int .i64 2] w fun e w'=>e=.returned (.int .i64 0)/\Below w.heap.size w w':=by
 obtain⟨H,s1,_⟩:=Kss h.st;go_enter func246,ntmps246
 go_wp2_with fail
 go_big_region
 all_goals go_wp2_with fail
 all_goals go_big_region
 all_goals go_wp2
 all_goals go_ret
 all_goals exact⟨rfl,Jp (Jp (Oa5 _ _) 1) 1⟩
theorem Kvr hb H sb n cap f key P c(ho:Kse c)w(h:Kr8 w hb H sb n cap f)(hn:n<=1000000)(bB:∀ j,j<n->P (f j))(bA:Kur w (HpG hb H) sb P key c)(bC:Kwn c n (fun j=>key (f j)) 0)(bk:Inj n (fun j=>key (f j))):
  Calls prog 210 #[.pointer (some ⟨hb,0,none⟩)] w fun e w'=>e=.returned (.tuple #[])/\Ju (HpG hb H) w w'/\∃ Y,Kr8 w' hb H sb n cap Y/\Arr 0 n f Y/\Hp c n (fun j=>key (Y j))/\Inj n (fun j=>key (Y j)):=by
 by_cases bG:n=0
 ·subst bG;have hf:=Kwm hb H sb cap f w h;go_enter func210,ntmps210
  go_wp2;go_loopw [2] (fun iv wr=>iv=.int .i64 0/\wr=w) (fun _ _=>1)
  case atStart=>exact⟨rfl,rfl⟩
  case round=>
   obtain⟨rfl,rfl⟩:=hrel;go_wp2_with (go_at_call 246;refine hf.mono ?_;rintro e bi ⟨rfl,K⟩)
   (try simp only[Exit.inBlock,Exit.then])
   refine bodyPost_ret (results_none rfl _ _ _) rfl ?_;exact⟨rfl,Ju.of_below K,f,h.below K,Arr.refl _ _ _,fun j bP bQ=>zo,bk⟩
 have bH:=zh bA;have bI:=zh bB;have br:Hid (Kwn c n (fun j=>key (f j)) 0/\Inj n (fun j=>key (f j))):=⟨bC,bk⟩;have bN:0<n:=zo;clear bA bB bC bk bG;go_enter func210,ntmps210
 go_wp2;go_loopw [2] (fun iv wr=>∃ (j:Nat) (y:Nat->Nat),iv=.int .i64 j/\j<n/\Kr8 wr hb H sb n cap y/\Ju (HpG hb H) w wr/\Hid (Arr 0 n f y/\Kwn c n (fun j=>key (y j)) j/\Inj n (fun j=>key (y j)))) (fun iv _=>n-(intOf iv).toNat)
 case atStart=>exact⟨0,f,rfl,bN,h,Ju.refl _ _,Arr.refl _ _ _,br.out.1,br.out.2⟩
 case round=>
  rename_i iv
  clear h;obtain⟨j,y,rfl,O,bj,hK,I⟩:=hrel;have Z:=Kxl hb H sb n cap j (2*j+1) (2*j+2) y key P c wr bj O zo (Kwp I.out.1 bI.out) (bH.out.keep hK);have M:=Kzl ho I.out.2.2 O;obtain⟨m,bD⟩:∃ m,Ksb c n (fun j=>key (y j)) (Ksb c n (fun j=>key (y j)) j (2*j+1)) (2*j+2)=m:=⟨_,rfl⟩;rw[bD]at M Z;have bx:((2*j+1:Nat):Int)=2*(j:Int)+1:=zo;have bz:((2*j+2:Nat):Int)=2*(j:Int)+2:=zo;rw[bx,bz]at Z;have bh:Hid _:=M;clear bD bx bz M;by_cases bE:m=j
  ·subst bE;have bL:((m:Int)==(m:Int))=true:=zS;go_wp2_with (go_at_call 246;refine Z.mono ?_;rintro e bi ⟨rfl,K⟩)
   (try simp only[Exit.inBlock,Exit.then])
   refine bodyPost_ret (results_none rfl _ _ _) rfl ?_;refine⟨rfl,hK.trans (Ju.of_below K),y,bj.below K,I.out.1,I.out.2.1.done ?_,I.out.2.2⟩;rcases bh.out with h|h
   ·exact h.2
   omega
  have bL:((m:Int)==(j:Int))=false:=by rw[beq_eq_false_iff_ne];omega
  have M:=bh.out.resolve_left (fun h=>bE h.1);have U:=M.2.1;have bR:=M.1;have bf:Hid _:=M;clear M bh;go_wp2_with (first|(go_at_call 246;refine Z.mono ?_;rintro e bi ⟨rfl,K⟩;have bM:=Ku6 hb H sb n cap j m y bi (bj.below K) O U zo)|(go_at_call 247;refine bM.mono ?_;rintro e bO ⟨rfl,bJ,bK⟩))
  go_roundw
  case rel=>
   refine⟨m,swp y j m,rfl,U,bJ,(hK.trans (Ju.of_below K)).trans bK,I.out.1.trans (Arr.swp ⟨Ob7 _,O⟩ ⟨Ob7 _,U⟩),?_,?_⟩
   ·rw[Ku2];exact I.out.2.1.step bf.out.1 U bf.out.2.2.1 bf.out.2.2.2
   rw[Ku2];exact I.out.2.2.swp O U zo
  case measure=>simp[intOf];omega
def HpP (w:World)(hb sb n:Nat)(f:Nat->Nat):Prop:=(n=0/\w.heap[hb]?=some (.cells #[.slice none 0 0,ahV sb] 364 (0,0)))\/∃ y cap,Kr8 w hb y sb n cap f
def HpF (w:World)(hb:Nat):Nat->Prop:=fun k=>k=hb\/∃ n c,w.cell? ⟨hb,0,none⟩=some (.slice (some ⟨k,0,none⟩) n c)
theorem Kr8.foot {w hb y sb n cap f}(h:Kr8 w hb y sb n cap f):∀ k,HpF w hb k↔HpG hb y k:=fun k=>by
 obtain⟨H,_,_⟩:=Kss h.st;unfold HpF;rw[H];constructor
 ·rintro(h|⟨K,I,h⟩)
  ·exact .inl h
  simp at h;exact .inr h.1.symm
 rintro(h|h)
 ·exact .inl h
 exact .inr ⟨n,cap,by simp[h]⟩
def Ksu (n:Nat)(f:Nat->Nat):List Value:=(List.range n).map fun i=>rpV (f i)
theorem Kth n f:(Ksu n f).length=n:=by simp[Ksu]
theorem Kwk {n f i}(hi:i<n):(Ksu n f)[i]?=some (rpV (f i)):=by simp[Ksu,List.getElem?_range hi]
theorem Kr8.own {w hb y sb n cap f}(h:Kr8 w hb y sb n cap f):Jo w 0 354 (.slice (some ⟨y,0,none⟩) n cap) (Ksu n f):=by
 obtain⟨H,I,M,K⟩:=h.row;unfold Jo;rw[Kth];refine⟨by rw[Kth];omega,.inr ⟨y,cap,H,rfl,Ob7 _,I,h.cap,K,zo,?_⟩⟩;rw[Nat.mul_one];have O:n<=H.toList.length:=by have:=h.cap;simp;omega
 refine Oi8 fun i=>?_;by_cases hi:i<n
 ·rw[Kwk hi,Oh3 hi];have:=h.cell i hi;simp[World.cell?,I]at this;simpa [rpV] using this
 rw[Ob4 zt,Ob4 (by rw[Kth];omega)]
theorem Kr8.of_own {w hb sb n sv f}(ho:Jo w 0 354 sv (Ksu n f))(hn:0<n)(Y:w.heap[hb]?=some (.cells #[sv,ahV sb] 364 (0,0)))(U:sv.ownBlock≠some hb):∃ H cap,sv=.slice (some ⟨H,0,none⟩) n cap/\Kr8 w hb H sb n cap f:=by
 unfold Jo at ho;rw[Kth]at ho;obtain⟨_,⟨_,h0⟩|⟨g,cap,I,rfl,_,y,K,M,Z,O⟩⟩:=ho
 ·omega
 refine⟨g,cap,rfl,Y,Jd y,fun i hi=>?_,fun i=>by simp[World.frozen?,y],fun e=>U (by simp[Value.ownBlock,e]),⟨I,y,zo,M⟩,K⟩;have:=Kwk (f:=f) hi;rw[<-O,Oh3 zo]at this;simp only[World.cell?,y];simpa [rpV] using this
theorem Kx7:(prog.info? 354).map (fun i=>(i.zero,i.size,i.bytes))=some (some (.pointer none),1,8):=zK
theorem Kyj hb sb n r f key P c(ho:Kse c)w(h:HpP w hb sb n f)(hn:n<=900000)(bE:∀ j,j<n->P (f j))(bN:P r)(bC:Kur w (HpF w hb) sb P key c)(bG:Hp c n (fun j=>key (f j)))(bD:Inj (n+1) (fun j=>key (if j=n then r else f j))):
  Calls prog 209 #[.pointer (some ⟨hb,0,none⟩),.pointer (some ⟨r,0,none⟩)] w fun e w'=>e=.returned (.tuple #[])/\Ju (HpF w hb) w w'/\∃ y cap Y,Kr8 w' hb y sb (n+1) cap Y/\Arr 0 (n+1) (fun j=>if j=n then r else f j) Y/\Hp c (n+1) (fun j=>key (Y j))/\(HpF w hb y\/w.heap.size<=y):=by
 obtain⟨sv,bA,bI,Z,bH⟩:∃ sv,w.heap[hb]?=some (.cells #[sv,ahV sb] 364 (0,0))/\Jo w 0 354 sv (Ksu n f)/\sv.ownBlock≠some hb/\∀ g,sv.ownBlock=some g->HpF w hb g:=by
  rcases h with⟨rfl,hs⟩|⟨y,cap,K⟩
  ·exact⟨_,hs,Jo.nil _ _ _,by simp[Value.ownBlock],fun g I=>by simp[Value.ownBlock]at I⟩
  exact⟨_,K.st,K.own,fun e=>K.ne (by simpa [Value.ownBlock] using e),fun g I=>(K.foot g).2 (.inr (by simpa [Value.ownBlock] using I.symm))⟩
 obtain⟨bV,s1,bR⟩:=Kss bA;have bW:=bR 0;have U:Hid (Jo w 0 354 sv (Ksu n f)/\sv.ownBlock≠some hb/\∀ g,sv.ownBlock=some g->HpF w hb g):=⟨bI,Z,bH⟩;have bO:=Jd bA;clear h bI Z bH;go_enter func209,ntmps209
 go_upto_region 1 with(at_builtin;go_must (refine Ks zR _ _ 301 354 _ 8 Kx7 zR zd zK zR 0 _ _ zR (Jo.alloc U.out.1 _) ⟨w.heap.size,0,none⟩ 1 [.pointer (some ⟨r,0,none⟩)] zR (by exact Ua w _ _) (by intro u bJ;simp at bJ;subst bJ;rfl) (by rw[Kth];simp;omega) zS ?_);intro sv' w1 bj O H;obtain⟨a2,M,rfl,_⟩:=bj.cells;have z1:w1.heap[hb]?=some (.cells #[sv,ahV sb] 364 (0,0)):=(O.block hb zt (fun e=>U.out.2.1 e.symm)).trans ((Oa9 w _ hb bO).trans bA);obtain⟨bX,bY,bS⟩:=Kss z1;have bZ:=bS 0)
 have bk:∀ k,k≠hb->(w1.setCell ⟨hb,0,none⟩ (.slice a2 ((Ksu n f).length+1) M)).heap[k]?=w1.heap[k]?:=fun k hk=>Oa4 _ _ _ _ hk;have bB:Ksu (n+1) (fun j=>if j=n then r else f j)=Ksu n f++[.pointer (some ⟨r,0,none⟩)]:=by
  unfold Ksu;rw[Oj7,Ob8];congr 1
  ·refine Oj9 fun j bz=>?_;show rpV (if j=n then r else f j)=rpV (f j);rw[if_neg (by have:=Oj4.1 bz;omega)]
  simp[rpV]
 have br:(Value.slice a2 ((Ksu n f).length+1) M).ownBlock≠some hb:=fun e=>by
  rcases H with H|H
  ·exact U.out.2.1 (H.symm.trans (by simpa using e))
  have:=H.symm.trans (by simpa using e);simp at this;omega
 obtain⟨y,cap,bf,K⟩:=Kr8.of_own (w:=w1.setCell ⟨hb,0,none⟩ (.slice a2 ((Ksu n f).length+1) M)) (hb:=hb) (sb:=sb) (n:=n+1) (sv:=.slice a2 ((Ksu n f).length+1) M) (f:=fun j=>if j=n then r else f j) (by
  rw[bB];have:=Yd (w':=w1.setCell ⟨hb,0,none⟩ (.slice a2 ((Ksu n f).length+1) M)) bj fun g I=>bk g fun e=>br (by subst e;simpa using I);simpa using this) zo (by rw[Jk z1];simp) br
 have bx:HpF w hb y\/w.heap.size<=y:=by
  have e:(Value.slice a2 ((Ksu n f).length+1) M).ownBlock=some y:=by rw[bf];rfl
  rcases H with H|H
  ·exact .inl (U.out.2.2 y (H.symm.trans (by simpa using e)))
  have:=H.symm.trans (by simpa using e);simp at this;exact .inr zo
 have bh:Ju (HpF w hb) w (w1.setCell ⟨hb,0,none⟩ (.slice a2 ((Ksu n f).length+1) M)):=by
  refine Ju.set (b:=hb) ?_ (.inl rfl) 0 _;exact⟨O.os,O.tape,O.output,Ob2 zS O.size,fun k hk Z=>(O.block k zt fun e=>Z (U.out.2.2 k e.symm)).trans (Oa9 w _ k hk)⟩
 rw[bf]at K bh |-;rw[bf]at bk;clear bf bj O H br bB;generalize w1.setCell ⟨hb,0,none⟩ (.slice (some ⟨y,0,none⟩) (n+1) cap)=X at *;obtain⟨ca,x1,_⟩:=Kss K.st;have bQ:=Kx5 hb y sb (n+1) cap n (fun j=>if j=n then r else f j) key P c ho X K zo zo (fun j bz=>by
  by_cases e:j=n
  ·rw[if_pos e];exact bN
  rw[if_neg e];exact bE j zo) (fun W hW=>bC W (bh.trans' hW fun i hi I=>by
  rcases I with rfl|rfl
  ·exact .inl rfl
  exact bx.resolve_right zo)) (bG.up fun j bz=>by rw[if_neg zo]) bD
 have bi:Hid (Ju (HpF w hb) w X/\(HpF w hb y\/w.heap.size<=y)):=⟨bh,bx⟩;have bU:IntKind.i64.wrap (n:Int)=(n:Int):=by rw[Od4];omega
 clear bC bE bG bD bh bx bk;go_wp2_with (go_at_call 245;refine bQ.mono ?_;rintro e bT ⟨rfl,bM,Y,bL,bK,bP,_⟩)
 go_end0
 refine⟨rfl,bi.out.1.trans' bM fun i hi I=>?_,y,cap,Y,bL,bK,bP,bi.out.2⟩;rcases I with rfl|rfl
 ·exact .inl rfl
 exact bi.out.2.resolve_right zo
theorem Kz7 hb y sb n cap f key P c(ho:Kse c)w(h:Kr8 w hb y sb (n+1) cap f)(hn:n<=900000)(bA:∀ j,j<n->P (if j=0 then f n else f j))(br:Kur w (HpG hb y) sb P key c)(bB:∀ j,0<j->j<n->(j-1) / 2≠0->Lt c (key (f ((j-1) / 2))) (key (f j)))(bz:Inj n (fun j=>key (if j=0 then f n else f j))):
  Calls prog 211 #[.pointer (some ⟨hb,0,none⟩)] w fun e w'=>e=.returned (.tuple #[])/\Ju (HpG hb y) w w'/\∃ I,Kr8 w' hb y sb n cap I/\Arr 0 n (fun j=>if j=0 then f n else f j) I/\Hp c n (fun j=>key (I j))/\Inj n (fun j=>key (I j)):=by
 obtain⟨cb,s1,bS⟩:=Kss h.st;have cc:=bS 0;have c0:=h.cell 0 zo;have bU:=h.cell n zo;have bW:=h.froz 0;have fn:=h.froz n;have bY:(n:Int)<((n+1:Nat):Int):=zo;have bZ:IntKind.i64.wrap (n:Int)=(n:Int):=by rw[Od4];omega
 have bH:=h.ne;have bG:hb≠y:=fun e=>bH e.symm;have bX:(n:Int)<=(cap:Int):=by have:=h.cap;omega
 have fin:∀ X,X.heap[hb]?=some (.cells #[.slice (some ⟨y,0,none⟩) n cap,ahV sb] 364 (0,0))->(∃ v,X.heap[y]?=((w.setCell ⟨y,0,none⟩ (.pointer (some ⟨f n,0,none⟩))).setCell ⟨y,n,none⟩ v).heap[y]?)->Ju (HpG hb y) w X ->
   Kr8 X hb y sb n cap (fun j=>if j=0 then f n else f j)/\Calls prog 210 #[.pointer (some ⟨hb,0,none⟩)] X fun e w'=>e=.returned (.tuple #[])/\Ju (HpG hb y) X w'/\∃ I,Kr8 w' hb y sb n cap I/\Arr 0 n (fun j=>if j=0 then f n else f j) I/\Hp c n (fun j=>key (I j))/\Inj n (fun j=>key (I j)):=by
  intro X bO ⟨v,bE⟩ hK;obtain⟨bV,bP,bQ,bR⟩:=h.row;have M:=Jk (Jk bP 0 (.pointer (some ⟨f n,0,none⟩))) n v;rw[<-bE]at M;have bx:Kr8 X hb y sb n cap (fun j=>if j=0 then f n else f j):=by
   refine⟨bO,Jd M,fun i hi=>?_,fun i=>by simp[World.frozen?,M],h.ne,⟨_,M,by simp;exact⟨bQ,bR⟩⟩,by have:=h.cap;omega⟩;rw[Oc3 (w:=(w.setCell ⟨y,0,none⟩ (.pointer (some ⟨f n,0,none⟩))).setCell ⟨y,n,none⟩ v) bE,Ob5 _ _ _ _ (by intro h;injection h with _ h;omega)];by_cases e:i=0
   ·subst e;rw[if_pos rfl];exact World.cell?_setCell_same _ _ _ (h.cell 0 zo)
   rw[if_neg e,Ob5 _ _ _ _ (by intro h;injection h with _ h;omega)];exact h.cell i zo
  refine⟨bx,Kvr hb y sb n cap _ key P c ho X bx zo (fun j bN=>?_) (br.keep hK) ⟨fun j bL bM bk=>?_,fun h0=>zo⟩ bz⟩
  ·exact bA j bN
  show Lt c (key (if (j-1) / 2=0 then f n else f ((j-1) / 2))) (key (if j=0 then f n else f j));rw[if_neg bk,if_neg zo];exact bB j bL bM bk
 have bi:Hid (∀ X,X.heap[hb]?=some (.cells #[.slice (some ⟨y,0,none⟩) n cap,ahV sb] 364 (0,0))->(∃ v,X.heap[y]?=((w.setCell ⟨y,0,none⟩ (.pointer (some ⟨f n,0,none⟩))).setCell ⟨y,n,none⟩ v).heap[y]?)->Ju (HpG hb y) w X ->
   Kr8 X hb y sb n cap (fun j=>if j=0 then f n else f j)/\Calls prog 210 #[.pointer (some ⟨hb,0,none⟩)] X fun e w'=>e=.returned (.tuple #[])/\Ju (HpG hb y) X w'/\∃ I,Kr8 w' hb y sb n cap I/\Arr 0 n (fun j=>if j=0 then f n else f j) I/\Hp c n (fun j=>key (I j))/\Inj n (fun j=>key (I j))):=fin
 have bJ:Hid (w.heap[hb]?=some (.cells #[.slice (some ⟨y,0,none⟩) (n+1) cap,ahV sb] 364 (0,0))):=h.st;have bC:∀ v,((((w.setCell ⟨y,0,none⟩ (.pointer (some ⟨f n,0,none⟩))).drew.setCell ⟨y,n,none⟩ v)).setCell ⟨hb,0,none⟩ (.slice (some ⟨y,0,none⟩) n cap)).heap[hb]?=some (.cells #[.slice (some ⟨y,0,none⟩) n cap,ahV sb] 364 (0,0)):=fun v=>by
  have bT:((w.setCell ⟨y,0,none⟩ (.pointer (some ⟨f n,0,none⟩))).drew.setCell ⟨y,n,none⟩ v).heap[hb]?=some (.cells #[.slice (some ⟨y,0,none⟩) (n+1) cap,ahV sb] 364 (0,0)):=(Oa4 _ _ _ _ bG).trans ((Oa4 w _ _ _ bG).trans bJ.out);rw[Jk bT];simp
 have bD:∀ v u,((((w.setCell ⟨y,0,none⟩ (.pointer (some ⟨f n,0,none⟩))).drew.setCell ⟨y,n,none⟩ v)).setCell ⟨hb,0,none⟩ u).heap[y]?=((w.setCell ⟨y,0,none⟩ (.pointer (some ⟨f n,0,none⟩))).setCell ⟨y,n,none⟩ v).heap[y]?:=fun v u=>Oa4 _ _ _ _ bH;have K:Hid ((∀ v,((((w.setCell ⟨y,0,none⟩ (.pointer (some ⟨f n,0,none⟩))).drew.setCell ⟨y,n,none⟩ v)).setCell ⟨hb,0,none⟩ (.slice (some ⟨y,0,none⟩) n cap)).heap[hb]?=some (.cells #[.slice (some ⟨y,0,none⟩) n cap,ahV sb] 364 (0,0)))/\∀ v u,((((w.setCell ⟨y,0,none⟩ (.pointer (some ⟨f n,0,none⟩))).drew.setCell ⟨y,n,none⟩ v)).setCell ⟨hb,0,none⟩ u).heap[y]?=((w.setCell ⟨y,0,none⟩ (.pointer (some ⟨f n,0,none⟩))).setCell ⟨y,n,none⟩ v).heap[y]?):=⟨bC,bD⟩;clear fin bC bD bA br bB bz h;have bj:∀ v,Ju (HpG hb y) w ((((w.setCell ⟨y,0,none⟩ (.pointer (some ⟨f n,0,none⟩))).drew.setCell ⟨y,n,none⟩ v)).setCell ⟨hb,0,none⟩ (.slice (some ⟨y,0,none⟩) n cap)):=fun v=>((((Ju.refl (HpG hb y) w).set (.inr rfl) 0 _).drew).set (.inr rfl) n v).set (.inl rfl) 0 _;have H:=zh bj;clear bj;by_cases bI:n=0
 ·subst bI;go_enter func211,ntmps211
  go_upto_region 1 with fail
  go_big_region
  all_goals go_upto_region 4 with fail
  all_goals
   obtain⟨_,bh⟩:=bi.out ((((w.setCell ⟨y,0,none⟩ (.pointer (some ⟨f 0,0,none⟩))).setCell ⟨y,0,none⟩ (.pointer none)).setCell ⟨hb,0,none⟩ (.slice (some ⟨y,0,none⟩) 0 cap)).drew) (K.out.1 _) ⟨_,K.out.2 _ _⟩ ⟨(H.out _).os,(H.out _).tape,(H.out _).output,(H.out _).size,(H.out _).block⟩;go_wp2_with (go_at_call 210;refine bh.mono ?_;rintro e bK ⟨rfl,Y,I,U,O,bf,Z⟩)
   go_end0
   exact⟨rfl,Ju.trans (b:=(((w.setCell ⟨y,0,none⟩ (.pointer (some ⟨f 0,0,none⟩))).setCell ⟨y,0,none⟩ (.pointer none)).setCell ⟨hb,0,none⟩ (.slice (some ⟨y,0,none⟩) 0 cap)).drew) ⟨(H.out _).os,(H.out _).tape,(H.out _).output,(H.out _).size,(H.out _).block⟩ Y,I,U,O,bf,Z⟩
 have ca:0≠n:=fun e=>bI e.symm;go_enter func211,ntmps211
 go_upto_region 1 with fail
 go_big_region
 all_goals go_upto_region 4 with fail
 all_goals
  obtain⟨_,bh⟩:=bi.out ((((w.setCell ⟨y,0,none⟩ (.pointer (some ⟨f n,0,none⟩))).setCell ⟨y,n,none⟩ (.pointer none)).setCell ⟨hb,0,none⟩ (.slice (some ⟨y,0,none⟩) n cap)).drew) (K.out.1 _) ⟨_,K.out.2 _ _⟩ ⟨(H.out _).os,(H.out _).tape,(H.out _).output,(H.out _).size,(H.out _).block⟩;go_wp2_with (go_at_call 210;refine bh.mono ?_;rintro e bK ⟨rfl,Y,I,U,O,bf,Z⟩)
  go_end0
  exact⟨rfl,Ju.trans (b:=(((w.setCell ⟨y,0,none⟩ (.pointer (some ⟨f n,0,none⟩))).setCell ⟨y,n,none⟩ (.pointer none)).setCell ⟨hb,0,none⟩ (.slice (some ⟨y,0,none⟩) n cap)).drew) ⟨(H.out _).os,(H.out _).tape,(H.out _).output,(H.out _).size,(H.out _).block⟩ Y,I,U,O,bf,Z⟩
