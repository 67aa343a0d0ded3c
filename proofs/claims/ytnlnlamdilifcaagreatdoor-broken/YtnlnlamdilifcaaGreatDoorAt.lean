/- Which of two runs is ahead; a run is added. -/
import Derived.Test.YtnlnlamdilifcaaGreatDoorAo
set_option maxHeartbeats 4000000
set_option maxRecDepth 100000
namespace Go.Proofs.YtnlnlamdilifcaaGreatDoor
open Go.RowKit Go.Shelf Tryz
def Kyu (ks:List Krv)(cs:Cs)(i j y H:Nat):Bool:=if Kr6 ks cs i j≠0 then decide (Kr6 ks cs i j<0)else decide (y<H)
structure Qa5 (w:World) (cs:Cs) (rb i p:Nat):Prop where
 c0:w.cell? (Aq rb)=some (Iq (p:Nat))
 held:∃ (N:Nat->Prop) (ids:List Nat) (hb:Nat) (hs:List (Option Addr×Nat)) (cap:Nat),ids.head?=some i/\w.cell? (Ar rb 2)=some (Sq hb cs.length cap)/\Qd w hb hs (Jba ids cs)/\N hb
theorem Ksp.atRow {w N ts cs rb R ba bc hv i}(h:Ksp w N ts cs rb R ba bc hv)(hi:R.held.head?=some i):Qa5 w cs rb i R.place:=by
 obtain⟨y,_,H,_⟩:=h.fields;rcases h.held with⟨e,_⟩|⟨_,hb,hs,cap,rfl,hC,I,_⟩
 ·rw[e]at hi;cases hi
 exact⟨y,N,R.held,hb,hs,cap,hi,H,hC,I⟩
theorem Kxk sb kb ko kc bi rb i j bD bE ts cs ks w(K:Sg ts cs ks)(hK:Kx2 w sb kb ko kc ks)(bH:Qa5 w cs bi i bD)(hb:Qa5 w cs rb j bE):
  Cq 212 #[Pq sb,Pq bi,Pq rb] w fun e w'=>e=.returned (.bool (Kyu ks cs i j bD bE))/\Bq w w':=by
 obtain⟨a0,_,H,bf,bJ,U,M,a2,bz,_⟩:=bH;obtain⟨b0,_,I,bh,bK,Y,eb,b2,bA,_⟩:=hb;have bk:0<H.length:=by cases H with|nil=>cases M|cons x l=>simp
 have br:0<I.length:=by cases I with|nil=>cases eb|cons x l=>simp
 have bB:H.getD 0 0=i:=by cases H with|nil=>cases M|cons x l=>simp at M;simp[M]
 have bC:I.getD 0 0=j:=by cases I with|nil=>cases eb|cons x l=>simp at eb;simp[eb]
 have bx:Hid (∀ X,Bq w X->Cq 209 #[Pq sb,Sq bf cs.length U,iZ,Sq bh cs.length Y,iZ] X fun e w'=>e=.returned (Iq (Kr6 ks cs i j))/\Bq X w'):=fun X Z=>by
  have:=Kt7 sb kb ko kc ks bf U bJ (Jba H cs) 0 bh Y bK (Jba I cs) 0 X (hK.below Z).cell (hK.below Z).keys K.nk (bz.below Z) (bA.below Z) (fun k O=>⟨by rw[Krw];exact K.keys k O,by rw[Kr0 H (K.keys k O)];exact bk⟩) (fun k O=>⟨by rw[Krw];exact K.keys k O,by rw[Kr0 I (K.keys k O)];exact br⟩);rw[Krw,Krw,Qbi K H I bk br,bB,bC]at this;exact this
 unfold Kyu;generalize Kr6 ks cs i j=o at *;clear bz bA bB bC M eb bk br hK;by_cases ho:o=0
 ·have bI:(o != 0)=false:=by simp[ho]
  rw[if_neg (fun h=>h ho)];clear ho;go_enter func212,ntmps212
  go_wp2_with fail
  go_region_held3 (fun X=>X.cell? (Ar bi 2)=some (Sq bf cs.length U)/\X.cell? (Ar rb 2)=some (Sq bh cs.length Y))
   (first|(exact⟨a2,b2⟩)|(exact bj)|(go_split_ands;constructor<;>assumption))
   (first|(go_at_call 209;refine(bx.out _ (Jp (Oa5 _ _) 1)).mono ?_;rintro e bG ⟨rfl,y⟩;have bj:=And.intro (Ja (Jw y) a2) (Ja (Jw y) b2)))
  have bL:=Ja (Jw y) a0;have bM:=Ja (Jw y) b0;go_wp2;go_quiet (fail)
  go_wp2;go_ret
  exact⟨Qr zS,Jp (Jw y) _⟩
 have bI:(o != 0)=true:=by simp[ho]
 rw[if_pos ho];clear ho;go_enter func212,ntmps212
 go_wp2_with fail
 go_region_held3 (fun X=>X.cell? (Ar bi 2)=some (Sq bf cs.length U)/\X.cell? (Ar rb 2)=some (Sq bh cs.length Y))
  (first|(exact⟨a2,b2⟩)|(exact bj)|(go_split_ands;constructor<;>assumption))
  (first|(go_at_call 209;refine(bx.out _ (Jp (Oa5 _ _) 1)).mono ?_;rintro e bG ⟨rfl,y⟩;have bj:=And.intro (Ja (Jw y) a2) (Ja (Jw y) b2)))
 go_wp2;go_ret
 exact⟨rfl,Jw y⟩
def rpV (r:Nat):Value:=Pq r
def ahV (sb:Nat):Value:=.func (.func 212) #[Pq sb] #[]
structure Ksa (w:World) (hb ag sb n cap:Nat) (f:Nat->Nat):Prop where
 st:w.heap[hb]?=some (.cells #[Sq ag n cap,ahV sb] 375 (0,0))
 lt:ag<w.heap.size
 cell:∀ i,i<n->w.cell? (Ar ag i)=some (Pq (f i))
 froz:∀ i,w.frozen? ⟨ag,i,none⟩=false
 ne:ag≠hb
 row:∃ cur:Array Value,w.heap[ag]?=some (.cells cur 365 (0,0))/\cur.size=cap/\cap<=maxLen
 cap:n<=cap
section
variable {w w':World} {hb ag sb n cap:Nat} {f g:Nat->Nat}
theorem Ksr {b x y t}(h:w.heap[b]?=some (.cells #[x,y] t (0,0))):w.cell? (Aq b)=some x/\w.cell? (Ar b 1)=some y/\∀ i,w.frozen? ⟨b,i,none⟩=false:=
 ⟨by simp[World.cell?,h],by simp[World.cell?,h],fun i=>by simp[World.frozen?,h]⟩
theorem Ksa.on (h:Ksa w hb ag sb n cap f)(hs:w.heap.size<=w'.heap.size)(I:w'.heap[hb]?=w.heap[hb]?)(y:w'.heap[ag]?=w.heap[ag]?):Ksa w' hb ag sb n cap f:=
 ⟨I.trans h.st,Oc2 h.lt hs,fun i hi=>by rw[Oc3 (w:=w) y];exact h.cell i hi,fun i=>by rw[Ol7 (w:=w) y];exact h.froz i,h.ne,by obtain⟨H,K,M⟩:=h.row;exact⟨H,y.trans K,M⟩,h.cap⟩
theorem Ksa.below (h:Ksa w hb ag sb n cap f)(y:Bq w w'):Ksa w' hb ag sb n cap f:=h.on y.size (y.block _ (Jd h.st)) (y.block _ h.lt)
theorem Ksa.congr (h:Ksa w hb ag sb n cap f)(e:∀ i,i<n->g i=f i):Ksa w hb ag sb n cap g:=⟨h.st,h.lt,fun i hi=>by rw[e i hi];exact h.cell i hi,h.froz,h.ne,h.row,h.cap⟩
theorem Ksa.set (h:Ksa w hb ag sb n cap f){i}(hi:i<n)x:Ksa (w.setCell (Ar ag i) (Pq x)) hb ag sb n cap (fun k=>if k=i then x else f k):=by
 refine⟨(Oa4 _ _ _ _ (fun e=>h.ne (show hb=ag from e).symm)).trans h.st,by simpa using h.lt,fun k I=>?_,fun k=>by rw[On9];exact h.froz k,h.ne,by obtain⟨K,y,H⟩:=h.row;exact⟨_,Jk y i _,by simpa using H⟩,h.cap⟩;by_cases e:k=i
 ·exact zaZ
 rw[if_neg e,Ob5 _ _ _ _ (by intro h;apply e;injection h with _ h;exact h.symm)];exact h.cell k I
theorem Ksa.swap (h:Ksa w hb ag sb n cap f){i j}(hi:i<n)(H:j<n)(I:i≠j):
  Ksa ((w.setCell (Ar ag i) (Pq (f j))).setCell (Ar ag j) (Pq (f i))) hb ag sb n cap (swp f i j):=by
 refine((h.set hi (f j)).set H (f i)).congr fun k _=>?_;unfold swp;by_cases y:k=j
 ·rw[if_pos y,if_neg zo,if_pos y]
 rw[if_neg y,if_neg y]
end
abbrev HpG (hb y:Nat):Nat->Prop:=fun k=>k=hb\/k=y
def Kuv (w:World)(G:Nat->Prop)(sb:Nat)(P:Nat->Prop)(key:Nat->Nat)(c:Nat->Nat->Int):Prop:=∀ W,Ju G w W->∀ r s,P r->P s ->
 Cq 212 #[Pq sb,Pq r,Pq s] W fun e w'=>e=.returned (.bool (ltB c (key r) (key s)))/\Bq W w'
theorem Kuv.keep {w w' G sb P key c}(h:Kuv w G sb P key c)(y:Ju G w w'):Kuv w' G sb P key c:=fun W hW=>h W (y.trans hW)
theorem Kvg hb y sb n cap i k f w(h:Ksa w hb y sb n cap f)(hi:i<n)(H:k<n)(I:i≠k):
  Cq 254 #[Pq hb,Iq (i:Nat),Iq (k:Nat)] w fun e w'=>e=.returned (.tuple #[])/\Ksa w' hb y sb n cap (swp f i k)/\Ju (HpG hb y) w w':=by
 obtain⟨bj,s1,bk⟩:=Ksr h.st;have O:=h.cell i hi;have ck:=h.cell k H;have U:=h.froz i;have Y:=h.froz k;have bf:(i:Int)<(n:Int):=zo;have bh:(k:Int)<(n:Int):=zo;have K:Hid _:=h.swap hi H I;have M:=h.ne;have Z:hb≠y:=fun e=>M e.symm;have bi:k≠i:=fun e=>I e.symm;generalize f i=x at *;generalize f k=br at *;clear h;go_enter func254,ntmps254
 go_wp2_with fail
 go_big_region
 all_goals go_wp2
 all_goals go_end0
 all_goals exact⟨rfl,K.out.on zS rfl rfl,(((Ju.refl _ _).set (.inr rfl) i _).set (.inr rfl) k _).drewN 1⟩
def Inj (n:Nat)(g:Nat->Nat):Prop:=∀ a b,a<n->b<n->g a=g b->a=b
theorem Inj.swp {n i k g}(h:Inj n g)(hi:i<n)(Z:k<n)(bi:i≠k):Inj n (swp g i k):=by
 have e:∀ a,a<n->∃ a',a'<n/\Go.Proofs.YtnlnlamdilifcaaGreatDoor.swp g i k a=g a'/\((a=i/\a'=k)\/(a=k/\a'=i)\/(a≠i/\a≠k/\a'=a)):=fun a I=>by
  by_cases y:a=i
  ·subst y;exact⟨k,Z,Ktx _ _,.inl ⟨rfl,rfl⟩⟩
  by_cases H:a=k
  ·subst H;exact⟨i,hi,Ku7 _ _ zo,.inr (.inl ⟨rfl,rfl⟩)⟩
  exact⟨a,I,Ks0 y H,.inr (.inr ⟨y,H,rfl⟩)⟩
 intro a b I hb K;obtain⟨a',U,O,bf⟩:=e a I;obtain⟨M,Y,eb,bh⟩:=e b hb;rw[O,eb]at K;have:=h a' M U Y K;omega
theorem Ku6 (key f:Nat->Nat)(i k:Nat):(fun j=>key (swp f i k j))=swp (fun j=>key (f j)) i k:=by
 funext j;unfold swp;split
 ·rfl
 split<;>rfl
theorem Kwv {n:Nat}{f y:Nat->Nat}{P:Nat->Prop}(h:Arr 0 n f y)(H:∀ j,j<n->P (f j)):∀ j,j<n->P (y j):=fun j I=>by
 obtain⟨t,_,K,e⟩:=h.at (k:=j) ⟨Ob7 _,I⟩;rw[e];exact H t K
theorem Ky5 hb H sb n cap i f key P c(ho:Kse c)w(h:Ksa w hb H sb n cap f)(hi:i<n)(bQ:n<=1000000)(bC:∀ j,j<n->P (f j))(bA:Kuv w (HpG hb H) sb P key c)(bD:Kw4 c n (fun j=>key (f j)) i)(bB:Inj n (fun j=>key (f j))):
  Cq 252 #[Pq hb,Iq (i:Nat)] w fun e w'=>e=.returned (.tuple #[])/\Ju (HpG hb H) w w'/\∃ Y,Ksa w' hb H sb n cap Y/\Arr 0 n f Y/\Hp c n (fun j=>key (Y j))/\Inj n (fun j=>key (Y j)):=by
 have bG:=zh bA;have bk:=zh bC;have bx:Hid (Kw4 c n (fun j=>key (f j)) i/\Inj n (fun j=>key (f j))):=⟨bD,bB⟩;clear bA bC bD bB;go_enter func252,ntmps252
 go_wp2;go_loopw [1] (fun iv wr=>∃ (j:Nat) (y:Nat->Nat),iv=Iq j/\j<n/\Ksa wr hb H sb n cap y/\Ju (HpG hb H) w wr/\Hid (Arr 0 n f y/\Kw4 c n (fun j=>key (y j)) j/\Inj n (fun j=>key (y j)))) (fun iv _=>(intOf iv).toNat)
 case atStart=>exact⟨i,f,rfl,hi,h,Ju.refl _ _,Arr.refl _ _ _,bx.out.1,bx.out.2⟩
 case round=>
  rename_i iv
  clear h;obtain⟨j,y,rfl,M,O,hK,K⟩:=hrel;by_cases h0:0<j
  ·have bI:(0:Int)<(j:Int):=zo;obtain⟨p,hp⟩:∃ p,p=(j-1) / 2:=⟨_,rfl⟩;have bO:((j:Int)-1).tdiv 2=(p:Int):=by
    rw[show (j:Int)-1=((j-1:Nat):Int) by omega,show (2:Int)=((2:Nat):Int) from rfl,<-Int.ofNat_tdiv];rw[hp]
   have bR:p<j:=zo;have br:=zh hp;clear hp;obtain⟨bh,s1,_⟩:=Ksr O.st;have U:=O.cell j M;have cp:=O.cell p zo;have bP:(j:Int)<(n:Int):=zo;have bS:(p:Int)<(n:Int):=zo;have Z:=bG.out wr.drew hK.drew (y j) (y p) (Kwv K.out.1 bk.out j M) (Kwv K.out.1 bk.out p zo);have bf:=fun X (bL:Ksa X hb H sb n cap y)=>Kvg hb H sb n cap j p y X bL M zo zo;have bH:Hid _:=bf;clear bf;unfold ahV at s1;by_cases hl:ltB c (key (y j)) (key (y p))=true
   ·rw[hl]at Z;go_wp2_with fail
    go_region_held3 (fun X=>X.cell? (Aq hb)=some (Sq H n cap)/\X.cell? (Ar hb 1)=some (.func (.func 212) #[Pq sb] #[])/\X.cell? (Ar H j)=some (Pq (y j))/\X.cell? (Ar H p)=some (Pq (y p)))
     (first|(exact⟨bh,s1,U,cp⟩)|(exact bi)|(go_split_ands;refine⟨?_,?_,?_,?_⟩<;>assumption))
     (first|(go_at_call 212;refine Z.mono ?_;rintro e bz ⟨rfl,bj⟩;have I:=Jw bj;have bi:=And.intro (Ja I bh) (And.intro (Ja I s1) (And.intro (Ja I U) (Ja I cp)))))
    have bf:=bH.out bz (O.below I);go_wp2_with (go_at_call 254;refine bf.mono ?_;rintro e bN ⟨rfl,bJ,bK⟩)
    go_roundw
    case rel=>
     have hp:=br.out;have bM:=K.out.2.1.step ho h0 M (by rw[<-hp];exact Kss.1 hl);refine⟨p,swp y j p,rfl,zo,bJ,(hK.trans (Ju.of_below I)).trans bK,K.out.1.trans (Arr.swp ⟨Ob7 _,M⟩ ⟨Ob7 _,zo⟩),?_,?_⟩
     ·rw[Ku6,hp];exact bM
     rw[Ku6];exact K.out.2.2.swp M zo zo
    case measure=>simp[intOf];omega
   have bE:ltB c (key (y j)) (key (y p))=false:=by simpa using hl
   rw[bE]at Z;go_wp2_with fail
   go_region_held3 (fun X=>X.cell? (Aq hb)=some (Sq H n cap)/\X.cell? (Ar hb 1)=some (.func (.func 212) #[Pq sb] #[])/\X.cell? (Ar H j)=some (Pq (y j))/\X.cell? (Ar H p)=some (Pq (y p)))
    (first|(exact⟨bh,s1,U,cp⟩)|(exact bi)|(go_split_ands;refine⟨?_,?_,?_,?_⟩<;>assumption))
    (first|(go_at_call 212;refine Z.mono ?_;rintro e bz ⟨rfl,bj⟩;have I:=Jw bj;have bi:=And.intro (Ja I bh) (And.intro (Ja I s1) (And.intro (Ja I U) (Ja I cp)))))
   go_wp2;(try simp only[Exit.inBlock,Exit.then])
   refine bodyPost_ret (results_none rfl _ _ _) rfl ?_;have hp:=br.out;refine⟨rfl,hK.trans (Ju.of_below I),y,O.below I,K.out.1,K.out.2.1.done (.inr ?_),K.out.2.2⟩;rw[<-hp];exact Lt.total ho (fun e=>by have:=K.out.2.2 j p M zo e;omega) (Ks3.1 bE)
  have bI:¬ (0:Int)<(j:Int):=zo;go_wp2;go_end0
  exact⟨rfl,hK,y,O,K.out.1,K.out.2.1.done (.inl zo),K.out.2.2⟩
def Ksc (c:Nat->Nat->Int)(n:Nat)(g:Nat->Nat)(i l:Nat):Nat:=if (decide (l<n)&&ltB c (g l) (g i))=true then l else i
theorem Qcl {c n g i l}(hi:i<n):Ksc c n g i l<n:=by
 unfold Ksc;split
 ·rename_i h;simp at h;exact h.1
 exact hi
theorem zba {p:Prop}(h:p:=by
 have bC:Hid _:=bh;clear bh;go_wp2;go_ret
 exact⟨by rw[bC.out];rfl,bM⟩):p:=h
theorem Kxf hb H sb n cap i l r f key P c w(h:Ksa w hb H sb n cap f)(hi:i<n)(hl:l<=3000000)(bL:∀ j,j<n->P (f j))(bK:Kuv w (HpG hb H) sb P key c):
  Cq 253 #[Pq hb,Iq (i:Nat),Iq (l:Nat),Iq (r:Nat)] w fun e w'=>e=.returned (Iq (Ksc c n (fun j=>key (f j)) (Ksc c n (fun j=>key (f j)) i l) r:Nat))/\Bq w w':=by
 have bJ:=zh bK;have bk:=zh bL;have O:Hid (∀ X,Bq w X->Ksa X hb H sb n cap f):=fun X bR=>h.below bR;have Z:Bq w w:=Oa5 _ _;clear bK bL h;go_enter func253,ntmps253
 obtain⟨M,s1,_⟩:=Ksr (O.out w Z).st;unfold ahV at s1;have K:=(O.out w Z).cell i hi;have bS:(i:Int)<(n:Int):=zo;obtain⟨bA,bO⟩:∃ bA,(decide (l<n)&&ltB c (key (f l)) (key (f i)))=bA:=⟨_,rfl⟩;have br:=zh bO;clear bO;go_upto_region 1 with fail
 go_cut [36] from 9 to 36 (fun v bj=>v=.bool bA/\Bq w bj)
 case first=>
  by_cases I:l<n
  ·have bi:(l:Int)<(n:Int):=zo;have cl:=(O.out w Z).cell l I;have bE:=bJ.out w.drew (Ju.of_below (Jp Z 1)) (f l) (f i) (bk.out l I) (bk.out i hi);go_region_held3 (fun X=>X.cell? (Aq hb)=some (Sq H n cap)/\X.cell? (Ar hb 1)=some (.func (.func 212) #[Pq sb] #[])/\X.cell? (Ar H l)=some (Pq (f l))/\X.cell? (Ar H i)=some (Pq (f i)))
    (first|(exact⟨M,s1,cl,K⟩)|(exact bD)|(go_split_ands;refine⟨?_,?_,?_,?_⟩<;>assumption))
    (first|(go_at_call 212;refine bE.mono ?_;rintro e bQ ⟨rfl,bG⟩;have y:=Jw bG;have bD:=And.intro (Ja y M) (And.intro (Ja y s1) (And.intro (Ja y cl) (Ja y K)))))
   go_wp2;go_meet
   case rel=>exact⟨by rw[<-br.out,decide_eq_true I,Bool.true_and],Jb Z y⟩
  have bi:¬ (l:Int)<(n:Int):=zo;have bT:decide ((l:Int)<(n:Int))=false:=decide_eq_false bi;go_big_region
  all_goals go_wp2
  all_goals go_meet
  all_goals exact⟨by rw[<-br.out,decide_eq_false I,Bool.false_and],Jp Z 1⟩
 case rest=>
 obtain⟨rfl,bH⟩:=hcut;clear M s1 K bS;generalize wc=bV at *;obtain⟨m,bf⟩:∃ m,m=Ksc c n (fun j=>key (f j)) i l:=⟨_,rfl⟩;have bN:m<n:=bf▸Qcl hi;have U:=zh bf;clear bf;have bf:=bN;clear bN;go_upto_if 36 with fail
 go_cut [1] from 9 to 37 (fun v bj=>v=Iq (m:Nat)/\Bq w bj)
 case first=>
  cases bA with
  |true=>
   have bI:m=l:=by rw[U.out];unfold Ksc;rw[if_pos br.out]
   clear U;subst bI;go_wp2;go_meet
   case rel=>exact⟨rfl,bH⟩
  |false=>
   have bI:m=i:=by rw[U.out];unfold Ksc;rw[if_neg (by rw[br.out];simp)]
   clear U;subst bI;go_wp2;go_meet
   case rel=>exact⟨rfl,bH⟩
 case rest=>
 clear bH;obtain⟨rfl,Y⟩:=hcut;generalize wc=bz at *;obtain⟨M,s1,_⟩:=Ksr (O.out bz Y).st;unfold ahV at s1;have K:=(O.out bz Y).cell m bf;have bU:(m:Int)<(n:Int):=zo;obtain⟨bB,bP⟩:∃ bB,(decide (r<n)&&ltB c (key (f r)) (key (f m)))=bB:=⟨_,rfl⟩;have bx:=zh bP;clear bP;go_upto_region 3 with fail
 go_cut [65] from 38 to 65 (fun v bj=>v=.bool bB/\Bq w bj)
 case first=>
  by_cases I:r<n
  ·have bi:(r:Int)<(n:Int):=zo;have cl:=(O.out bz Y).cell r I;have bE:=bJ.out bz.drew (Ju.of_below (Jp Y 1)) (f r) (f m) (bk.out r I) (bk.out m bf);go_region_held3 (fun X=>X.cell? (Aq hb)=some (Sq H n cap)/\X.cell? (Ar hb 1)=some (.func (.func 212) #[Pq sb] #[])/\X.cell? (Ar H r)=some (Pq (f r))/\X.cell? (Ar H m)=some (Pq (f m)))
    (first|(exact⟨M,s1,cl,K⟩)|(exact bD)|(go_split_ands;refine⟨?_,?_,?_,?_⟩<;>assumption))
    (first|(go_at_call 212;refine bE.mono ?_;rintro e bQ ⟨rfl,bG⟩;have y:=Jw bG;have bD:=And.intro (Ja y M) (And.intro (Ja y s1) (And.intro (Ja y cl) (Ja y K)))))
   go_wp2;go_meet
   case rel=>exact⟨by rw[<-bx.out,decide_eq_true I,Bool.true_and],Jb Y y⟩
  have bi:¬ (r:Int)<(n:Int):=zo;have bT:decide ((r:Int)<(n:Int))=false:=decide_eq_false bi;go_big_region
  all_goals go_wp2
  all_goals go_meet
  all_goals exact⟨by rw[<-bx.out,decide_eq_false I,Bool.false_and],Jp Y 1⟩
 case rest=>
 obtain⟨rfl,bM⟩:=hcut;clear M s1 K bU;generalize wc=bW at *;cases bB with
 |true=>
  have bh:Ksc c n (fun j=>key (f j)) (Ksc c n (fun j=>key (f j)) i l) r=r:=by rw[<-U.out];unfold Ksc;rw[if_pos bx.out]
  exact zba
 |false=>
  have bh:Ksc c n (fun j=>key (f j)) (Ksc c n (fun j=>key (f j)) i l) r=m:=by rw[<-U.out];unfold Ksc;rw[if_neg (by rw[bx.out];simp)]
  exact zba
theorem Kz4 {c}(ho:Kse c){n g i}(Z:Inj n g)(hi:i<n):
  (Ksc c n g (Ksc c n g i (2*i+1)) (2*i+2)=i/\∀ j,0<j->j<n->(j-1) / 2=i->Lt c (g i) (g j)) \/
  ((
   Ksc c n g (Ksc c n g i (2*i+1)) (2*i+2)=2*i+1\/Ksc c n g (Ksc c n g i (2*i+1)) (2*i+2)=2*i+2)/\Ksc c n g (Ksc c n g i (2*i+1)) (2*i+2)<n/\Lt c (g (Ksc c n g (Ksc c n g i (2*i+1)) (2*i+2))) (g i) /\
   ∀ j,0<j->j<n->(j-1) / 2=i->j≠Ksc c n g (Ksc c n g i (2*i+1)) (2*i+2)->Lt c (g (Ksc c n g (Ksc c n g i (2*i+1)) (2*i+2))) (g j)):=by
 have M:∀ a b,a<n->b<n->a≠b->¬ Lt c (g a) (g b)->Lt c (g b) (g a):=fun a b bf hb bh h=>Lt.total ho (fun e=>bh (Z a b bf hb e)) h;by_cases H:2*i+1<n/\Lt c (g (2*i+1)) (g i)
 ·have U:Ksc c n g i (2*i+1)=2*i+1:=by unfold Ksc;rw[if_pos (by simp[H.1,Kss.2 H.2])]
  rw[U];by_cases y:2*i+2<n/\Lt c (g (2*i+2)) (g (2*i+1))
  ·have I:Ksc c n g (2*i+1) (2*i+2)=2*i+2:=by unfold Ksc;rw[if_pos (by simp[y.1,Kss.2 y.2])]
   rw[I];refine .inr ⟨.inr rfl,y.1,y.2.trans ho H.2,fun j a1 a2 O Y=>?_⟩;rw[show j=2*i+1 by omega];exact y.2
  have I:Ksc c n g (2*i+1) (2*i+2)=2*i+1:=by unfold Ksc;rw[if_neg (by rw[Og5,decide_eq_true_eq,Kss];exact y)]
  rw[I];refine .inr ⟨.inl rfl,H.1,H.2,fun j a1 a2 O Y=>?_⟩;have K:j=2*i+2:=zo;subst K;exact M _ _ a2 H.1 zo fun h=>y ⟨a2,h⟩
 have U:Ksc c n g i (2*i+1)=i:=by unfold Ksc;rw[if_neg (by rw[Og5,decide_eq_true_eq,Kss];exact H)]
 rw[U];by_cases y:2*i+2<n/\Lt c (g (2*i+2)) (g i)
 ·have I:Ksc c n g i (2*i+2)=2*i+2:=by unfold Ksc;rw[if_pos (by simp[y.1,Kss.2 y.2])]
  rw[I];refine .inr ⟨.inr rfl,y.1,y.2,fun j a1 a2 O Y=>?_⟩;have K:j=2*i+1:=zo;subst K;exact y.2.trans ho (M _ _ a2 hi zo fun h=>H ⟨a2,h⟩)
 have I:Ksc c n g i (2*i+2)=i:=by unfold Ksc;rw[if_neg (by rw[Og5,decide_eq_true_eq,Kss];exact y)]
 rw[I];refine .inl ⟨rfl,fun j a1 a2 O=>?_⟩;by_cases K:j=2*i+1
 ·subst K;exact M _ _ a2 hi zo fun h=>H ⟨a2,h⟩
 have K:j=2*i+2:=zo;subst K;exact M _ _ a2 hi zo fun h=>y ⟨a2,h⟩
theorem Kwx hb y sb cap f w(h:Ksa w hb y sb 0 cap f):
  Cq 253 #[Pq hb,iZ,Iq 1,Iq 2] w fun e w'=>e=.returned iZ /\Bq w w':=by
 obtain⟨H,s1,_⟩:=Ksr h.st;go_enter func253,ntmps253
 go_wp2_with fail
 go_big_region
 all_goals go_wp2_with fail
 all_goals go_big_region
 all_goals go_wp2
 all_goals go_ret
 all_goals exact⟨rfl,Jp (Jp (Oa5 _ _) 1) 1⟩
theorem Kvu hb H sb n cap f key P c(ho:Kse c)w(h:Ksa w hb H sb n cap f)(bT:n<=1000000)(bB:∀ j,j<n->P (f j))(bA:Kuv w (HpG hb H) sb P key c)(bC:Kwt c n (fun j=>key (f j)) 0)(bk:Inj n (fun j=>key (f j))):
  Cq 215 #[Pq hb] w fun e w'=>e=.returned (.tuple #[])/\Ju (HpG hb H) w w'/\∃ Y,Ksa w' hb H sb n cap Y/\Arr 0 n f Y/\Hp c n (fun j=>key (Y j))/\Inj n (fun j=>key (Y j)):=by
 by_cases bG:n=0
 ·subst bG;have bL:=Kwx hb H sb cap f w h;go_enter func215,ntmps215
  go_wp2;go_loopw [2] (fun iv wr=>iv=iZ/\wr=w) (fun _ _=>1)
  case atStart=>exact⟨rfl,rfl⟩
  case round=>
   obtain⟨rfl,rfl⟩:=hrel;go_wp2_with (go_at_call 253;refine bL.mono ?_;rintro e bi ⟨rfl,K⟩)
   (try simp only[Exit.inBlock,Exit.then])
   refine bodyPost_ret (results_none rfl _ _ _) rfl ?_;exact⟨rfl,Ju.of_below K,f,h.below K,Arr.refl _ _ _,fun j bQ bR=>zo,bk⟩
 have bH:=zh bA;have bI:=zh bB;have br:Hid (Kwt c n (fun j=>key (f j)) 0/\Inj n (fun j=>key (f j))):=⟨bC,bk⟩;have bO:0<n:=zo;clear bA bB bC bk bG;go_enter func215,ntmps215
 go_wp2;go_loopw [2] (fun iv wr=>∃ (j:Nat) (y:Nat->Nat),iv=Iq j/\j<n/\Ksa wr hb H sb n cap y/\Ju (HpG hb H) w wr/\Hid (Arr 0 n f y/\Kwt c n (fun j=>key (y j)) j/\Inj n (fun j=>key (y j)))) (fun iv _=>n-(intOf iv).toNat)
 case atStart=>exact⟨0,f,rfl,bO,h,Ju.refl _ _,Arr.refl _ _ _,br.out.1,br.out.2⟩
 case round=>
  rename_i iv
  clear h;obtain⟨j,y,rfl,O,bj,hK,I⟩:=hrel;have Z:=Kxf hb H sb n cap j (2*j+1) (2*j+2) y key P c wr bj O zo (Kwv I.out.1 bI.out) (bH.out.keep hK);have M:=Kz4 ho I.out.2.2 O;obtain⟨m,bD⟩:∃ m,Ksc c n (fun j=>key (y j)) (Ksc c n (fun j=>key (y j)) j (2*j+1)) (2*j+2)=m:=⟨_,rfl⟩;rw[bD]at M Z;have bx:((2*j+1:Nat):Int)=2*(j:Int)+1:=zo;have bz:((2*j+2:Nat):Int)=2*(j:Int)+2:=zo;rw[bx,bz]at Z;have bh:Hid _:=M;clear bD bx bz M;by_cases bE:m=j
  ·subst bE;have bM:((m:Int)==(m:Int))=true:=zS;go_wp2_with (go_at_call 253;refine Z.mono ?_;rintro e bi ⟨rfl,K⟩)
   (try simp only[Exit.inBlock,Exit.then])
   refine bodyPost_ret (results_none rfl _ _ _) rfl ?_;refine⟨rfl,hK.trans (Ju.of_below K),y,bj.below K,I.out.1,I.out.2.1.done ?_,I.out.2.2⟩;rcases bh.out with h|h
   ·exact h.2
   omega
  have bM:((m:Int)==(j:Int))=false:=by rw[beq_eq_false_iff_ne];omega
  have M:=bh.out.resolve_left (fun h=>bE h.1);have U:=M.2.1;have bS:=M.1;have bf:Hid _:=M;clear M bh;go_wp2_with (first|(go_at_call 253;refine Z.mono ?_;rintro e bi ⟨rfl,K⟩;have bN:=Kvg hb H sb n cap j m y bi (bj.below K) O U zo)|(go_at_call 254;refine bN.mono ?_;rintro e bP ⟨rfl,bJ,bK⟩))
  go_roundw
  case rel=>
   refine⟨m,swp y j m,rfl,U,bJ,(hK.trans (Ju.of_below K)).trans bK,I.out.1.trans (Arr.swp ⟨Ob7 _,O⟩ ⟨Ob7 _,U⟩),?_,?_⟩
   ·rw[Ku6];exact I.out.2.1.step bf.out.1 U bf.out.2.2.1 bf.out.2.2.2
   rw[Ku6];exact I.out.2.2.swp O U zo
  case measure=>simp[intOf];omega
