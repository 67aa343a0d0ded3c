/- The program's heap of runs: one is put in, the first one is taken out. -/
import Derived.Test.YtnlnlamdilifcaaGreatDoorAt
set_option maxHeartbeats 4000000
set_option maxRecDepth 100000
namespace Go.Proofs.YtnlnlamdilifcaaGreatDoor
open Go.RowKit Go.Shelf Tryz
def HpP (w:World)(hb sb n:Nat)(f:Nat->Nat):Prop:=(n=0/\w.heap[hb]?=some (.cells #[Sz,ahV sb] 375 (0,0)))\/∃ y cap,Ksa w hb y sb n cap f
def HpF (w:World)(hb:Nat):Nat->Prop:=fun k=>k=hb\/∃ n c,w.cell? (Aq hb)=some (Sq k n c)
theorem Ksa.foot {w hb y sb n cap f}(h:Ksa w hb y sb n cap f):∀ k,HpF w hb k↔HpG hb y k:=fun k=>by
 obtain⟨H,_,_⟩:=Ksr h.st;unfold HpF;rw[H];constructor
 ·rintro(h|⟨K,I,h⟩)
  ·exact .inl h
  simp at h;exact .inr h.1.symm
 rintro(h|h)
 ·exact .inl h
 exact .inr ⟨n,cap,by simp[h]⟩
def Ksv (n:Nat)(f:Nat->Nat):List Value:=(List.range n).map fun i=>rpV (f i)
theorem Kth n f:(Ksv n f).length=n:=by simp[Ksv]
theorem Kwl {n f i}(hi:i<n):(Ksv n f)[i]?=some (rpV (f i)):=by simp[Ksv,List.getElem?_range hi]
theorem Ksa.own {w hb y sb n cap f}(h:Ksa w hb y sb n cap f):Jo w 0 365 (Sq y n cap) (Ksv n f):=by
 obtain⟨H,I,M,K⟩:=h.row;unfold Jo;rw[Kth];refine⟨by rw[Kth];omega,.inr ⟨y,cap,H,rfl,Ob7 _,I,h.cap,K,zo,?_⟩⟩;rw[Nat.mul_one];have O:n<=H.toList.length:=by have:=h.cap;simp;omega
 refine Oi8 fun i=>?_;by_cases hi:i<n
 ·rw[Kwl hi,Oh3 hi];have:=h.cell i hi;simp[World.cell?,I]at this;simpa [rpV] using this
 rw[Ob4 zt,Ob4 (by rw[Kth];omega)]
theorem Ksa.of_own {w hb sb n sv f}(ho:Jo w 0 365 sv (Ksv n f))(bf:0<n)(Y:w.heap[hb]?=some (.cells #[sv,ahV sb] 375 (0,0)))(U:sv.ownBlock≠some hb):∃ H cap,sv=Sq H n cap/\Ksa w hb H sb n cap f:=by
 unfold Jo at ho;rw[Kth]at ho;obtain⟨_,⟨_,h0⟩|⟨g,cap,I,rfl,_,y,K,M,Z,O⟩⟩:=ho
 ·omega
 refine⟨g,cap,rfl,Y,Jd y,fun i hi=>?_,fun i=>by simp[World.frozen?,y],fun e=>U (by simp[Value.ownBlock,e]),⟨I,y,zo,M⟩,K⟩;have:=Kwl (f:=f) hi;rw[<-O,Oh3 zo]at this;simp only[World.cell?,y];simpa [rpV] using this
theorem Kys:(prog.info? 365).map (fun i=>(i.zero,i.size,i.bytes))=some (some (.pointer none),1,8):=zK
theorem Kyf hb sb n r f key P c(ho:Kse c)w(h:HpP w hb sb n f)(bV:n<=900000)(bG:∀ j,j<n->P (f j))(bO:P r)(bD:Kuv w (HpF w hb) sb P key c)(bH:Hp c n (fun j=>key (f j)))(bE:Inj (n+1) (fun j=>key (if j=n then r else f j))):
  Cq 214 #[Pq hb,Pq r] w fun e w'=>e=.returned (.tuple #[])/\Ju (HpF w hb) w w'/\∃ y cap Y,Ksa w' hb y sb (n+1) cap Y/\Arr 0 (n+1) (fun j=>if j=n then r else f j) Y/\Hp c (n+1) (fun j=>key (Y j))/\(HpF w hb y\/w.heap.size<=y):=by
 obtain⟨sv,bB,bJ,Z,bI⟩:∃ sv,w.heap[hb]?=some (.cells #[sv,ahV sb] 375 (0,0))/\Jo w 0 365 sv (Ksv n f)/\sv.ownBlock≠some hb/\∀ g,sv.ownBlock=some g->HpF w hb g:=by
  rcases h with⟨rfl,hs⟩|⟨y,cap,K⟩
  ·exact⟨_,hs,Jo.nil _ _ _,by simp[Value.ownBlock],fun g I=>by simp[Value.ownBlock]at I⟩
  exact⟨_,K.st,K.own,fun e=>K.ne (by simpa [Value.ownBlock] using e),fun g I=>(K.foot g).2 (.inr (by simpa [Value.ownBlock] using I.symm))⟩
 obtain⟨bX,s1,bS⟩:=Ksr bB;have bY:=bS 0;have U:Hid (Jo w 0 365 sv (Ksv n f)/\sv.ownBlock≠some hb/\∀ g,sv.ownBlock=some g->HpF w hb g):=⟨bJ,Z,bI⟩;have bP:=Jd bB;clear h bJ Z bI;go_enter func214,ntmps214
 go_upto_region 1 with(at_builtin;go_must (refine Ks zR _ _ 323 365 _ 8 Kys zR zd zK zR 0 _ _ zR (Jo.alloc U.out.1 _) ⟨w.heap.size,0,none⟩ 1 [Pq r] zR (by exact Ua w _ _) (by intro u bK;simp at bK;subst bK;rfl) (by rw[Kth];simp;omega) zS ?_);intro sv' w1 bj O H;obtain⟨a2,M,rfl,_⟩:=bj.cells;have z1:w1.heap[hb]?=some (.cells #[sv,ahV sb] 375 (0,0)):=(O.block hb zt (fun e=>U.out.2.1 e.symm)).trans ((Oa9 w _ hb bP).trans bB);obtain⟨bZ,ca,bT⟩:=Ksr z1;have cb:=bT 0)
 have bk:∀ k,k≠hb->(w1.setCell (Aq hb) (.slice a2 ((Ksv n f).length+1) M)).heap[k]?=w1.heap[k]?:=fun k bA=>Oa4 _ _ _ _ bA;have bC:Ksv (n+1) (fun j=>if j=n then r else f j)=Ksv n f++[Pq r]:=by
  unfold Ksv;rw[Oj7,Ob8];congr 1
  ·refine Oj9 fun j bz=>?_;show rpV (if j=n then r else f j)=rpV (f j);rw[if_neg (by have:=Oj4.1 bz;omega)]
  simp[rpV]
 have br:(Value.slice a2 ((Ksv n f).length+1) M).ownBlock≠some hb:=fun e=>by
  rcases H with H|H
  ·exact U.out.2.1 (H.symm.trans (by simpa using e))
  have:=H.symm.trans (by simpa using e);simp at this;omega
 obtain⟨y,cap,bf,K⟩:=Ksa.of_own (w:=w1.setCell (Aq hb) (.slice a2 ((Ksv n f).length+1) M)) (hb:=hb) (sb:=sb) (n:=n+1) (sv:=.slice a2 ((Ksv n f).length+1) M) (f:=fun j=>if j=n then r else f j) (by
  rw[bC];have:=Yd (w':=w1.setCell (Aq hb) (.slice a2 ((Ksv n f).length+1) M)) bj fun g I=>bk g fun e=>br (by subst e;simpa using I);simpa using this) zo (by rw[Jk z1];simp) br
 have bx:HpF w hb y\/w.heap.size<=y:=by
  have e:(Value.slice a2 ((Ksv n f).length+1) M).ownBlock=some y:=by rw[bf];rfl
  rcases H with H|H
  ·exact .inl (U.out.2.2 y (H.symm.trans (by simpa using e)))
  have:=H.symm.trans (by simpa using e);simp at this;exact .inr zo
 have bh:Ju (HpF w hb) w (w1.setCell (Aq hb) (.slice a2 ((Ksv n f).length+1) M)):=by
  refine Ju.set (b:=hb) ?_ (.inl rfl) 0 _;exact⟨O.os,O.tape,O.output,Ob2 zS O.size,fun k bA Z=>(O.block k zt fun e=>Z (U.out.2.2 k e.symm)).trans (Oa9 w _ k bA)⟩
 rw[bf]at K bh |-;rw[bf]at bk;clear bf bj O H br bC;generalize w1.setCell (Aq hb) (Sq y (n+1) cap)=X at *;obtain⟨cc,x1,_⟩:=Ksr K.st;have bR:=Ky5 hb y sb (n+1) cap n (fun j=>if j=n then r else f j) key P c ho X K zo zo (fun j bz=>by
  by_cases e:j=n
  ·rw[if_pos e];exact bO
  rw[if_neg e];exact bG j zo) (fun W hW=>bD W (bh.trans' hW fun i hi I=>by
  rcases I with rfl|rfl
  ·exact .inl rfl
  exact bx.resolve_right zo)) (bH.up fun j bz=>by rw[if_neg zo]) bE
 have bi:Hid (Ju (HpF w hb) w X/\(HpF w hb y\/w.heap.size<=y)):=⟨bh,bx⟩;have bW:IntKind.i64.wrap (n:Int)=(n:Int):=by rw[Od4];omega
 clear bD bG bH bE bh bx bk;go_wp2_with (go_at_call 252;refine bR.mono ?_;rintro e bU ⟨rfl,bN,Y,bM,bL,bQ,_⟩)
 go_end0
 refine⟨rfl,bi.out.1.trans' bN fun i hi I=>?_,y,cap,Y,bM,bL,bQ,bi.out.2⟩;rcases I with rfl|rfl
 ·exact .inl rfl
 exact bi.out.2.resolve_right zo
theorem Kzm hb y sb n cap f key P c(ho:Kse c)w(h:Ksa w hb y sb (n+1) cap f)(bY:n<=900000)(bA:∀ j,j<n->P (if j=0 then f n else f j))(br:Kuv w (HpG hb y) sb P key c)(bB:∀ j,0<j->j<n->(j-1) / 2≠0->Lt c (key (f ((j-1) / 2))) (key (f j)))(bz:Inj n (fun j=>key (if j=0 then f n else f j))):
  Cq 216 #[Pq hb] w fun e w'=>e=.returned (.tuple #[])/\Ju (HpG hb y) w w'/\∃ I,Ksa w' hb y sb n cap I/\Arr 0 n (fun j=>if j=0 then f n else f j) I/\Hp c n (fun j=>key (I j))/\Inj n (fun j=>key (I j)):=by
 obtain⟨cc,s1,bS⟩:=Ksr h.st;have cf:=bS 0;have c0:=h.cell 0 zo;have bU:=h.cell n zo;have bW:=h.froz 0;have fn:=h.froz n;have bZ:(n:Int)<((n+1:Nat):Int):=zo;have ca:IntKind.i64.wrap (n:Int)=(n:Int):=by rw[Od4];omega
 have bH:=h.ne;have bG:hb≠y:=fun e=>bH e.symm;have bX:(n:Int)<=(cap:Int):=by have:=h.cap;omega
 have fin:∀ X,X.heap[hb]?=some (.cells #[Sq y n cap,ahV sb] 375 (0,0))->(∃ v,X.heap[y]?=((w.setCell (Aq y) (Pq (f n))).setCell (Ar y n) v).heap[y]?)->Ju (HpG hb y) w X ->
   Ksa X hb y sb n cap (fun j=>if j=0 then f n else f j)/\Cq 215 #[Pq hb] X fun e w'=>e=.returned (.tuple #[])/\Ju (HpG hb y) X w'/\∃ I,Ksa w' hb y sb n cap I/\Arr 0 n (fun j=>if j=0 then f n else f j) I/\Hp c n (fun j=>key (I j))/\Inj n (fun j=>key (I j)):=by
  intro X bO ⟨v,bE⟩ hK;obtain⟨bV,bP,bQ,bR⟩:=h.row;have M:=Jk (Jk bP 0 (Pq (f n))) n v;rw[<-bE]at M;have bx:Ksa X hb y sb n cap (fun j=>if j=0 then f n else f j):=by
   refine⟨bO,Jd M,fun i hi=>?_,fun i=>by simp[World.frozen?,M],h.ne,⟨_,M,by simp;exact⟨bQ,bR⟩⟩,by have:=h.cap;omega⟩;rw[Oc3 (w:=(w.setCell (Aq y) (Pq (f n))).setCell (Ar y n) v) bE,Ob5 _ _ _ _ (by intro h;injection h with _ h;omega)];by_cases e:i=0
   ·subst e;rw[if_pos rfl];exact World.cell?_setCell_same _ _ _ (h.cell 0 zo)
   rw[if_neg e,Ob5 _ _ _ _ (by intro h;injection h with _ h;omega)];exact h.cell i zo
  refine⟨bx,Kvu hb y sb n cap _ key P c ho X bx zo (fun j bN=>?_) (br.keep hK) ⟨fun j bL bM bk=>?_,fun h0=>zo⟩ bz⟩
  ·exact bA j bN
  show Lt c (key (if (j-1) / 2=0 then f n else f ((j-1) / 2))) (key (if j=0 then f n else f j));rw[if_neg bk,if_neg zo];exact bB j bL bM bk
 have bi:Hid (∀ X,X.heap[hb]?=some (.cells #[Sq y n cap,ahV sb] 375 (0,0))->(∃ v,X.heap[y]?=((w.setCell (Aq y) (Pq (f n))).setCell (Ar y n) v).heap[y]?)->Ju (HpG hb y) w X ->
   Ksa X hb y sb n cap (fun j=>if j=0 then f n else f j)/\Cq 215 #[Pq hb] X fun e w'=>e=.returned (.tuple #[])/\Ju (HpG hb y) X w'/\∃ I,Ksa w' hb y sb n cap I/\Arr 0 n (fun j=>if j=0 then f n else f j) I/\Hp c n (fun j=>key (I j))/\Inj n (fun j=>key (I j))):=fin
 have bJ:Hid (w.heap[hb]?=some (.cells #[Sq y (n+1) cap,ahV sb] 375 (0,0))):=h.st;have bC:∀ v,((((w.setCell (Aq y) (Pq (f n))).drew.setCell (Ar y n) v)).setCell (Aq hb) (Sq y n cap)).heap[hb]?=some (.cells #[Sq y n cap,ahV sb] 375 (0,0)):=fun v=>by
  have bT:((w.setCell (Aq y) (Pq (f n))).drew.setCell (Ar y n) v).heap[hb]?=some (.cells #[Sq y (n+1) cap,ahV sb] 375 (0,0)):=(Oa4 _ _ _ _ bG).trans ((Oa4 w _ _ _ bG).trans bJ.out);rw[Jk bT];simp
 have bD:∀ v u,((((w.setCell (Aq y) (Pq (f n))).drew.setCell (Ar y n) v)).setCell (Aq hb) u).heap[y]?=((w.setCell (Aq y) (Pq (f n))).setCell (Ar y n) v).heap[y]?:=fun v u=>Oa4 _ _ _ _ bH;have K:Hid ((∀ v,((((w.setCell (Aq y) (Pq (f n))).drew.setCell (Ar y n) v)).setCell (Aq hb) (Sq y n cap)).heap[hb]?=some (.cells #[Sq y n cap,ahV sb] 375 (0,0)))/\∀ v u,((((w.setCell (Aq y) (Pq (f n))).drew.setCell (Ar y n) v)).setCell (Aq hb) u).heap[y]?=((w.setCell (Aq y) (Pq (f n))).setCell (Ar y n) v).heap[y]?):=⟨bC,bD⟩;clear fin bC bD bA br bB bz h;have bj:∀ v,Ju (HpG hb y) w ((((w.setCell (Aq y) (Pq (f n))).drew.setCell (Ar y n) v)).setCell (Aq hb) (Sq y n cap)):=fun v=>((((Ju.refl (HpG hb y) w).set (.inr rfl) 0 _).drew).set (.inr rfl) n v).set (.inl rfl) 0 _;have H:=zh bj;clear bj;by_cases bI:n=0
 ·subst bI;go_enter func216,ntmps216
  go_upto_region 1 with fail
  go_big_region
  all_goals go_upto_region 4 with fail
  all_goals
   obtain⟨_,bh⟩:=bi.out ((((w.setCell (Aq y) (Pq (f 0))).setCell (Aq y) (.pointer none)).setCell (Aq hb) (Sq y 0 cap)).drew) (K.out.1 _) ⟨_,K.out.2 _ _⟩ ⟨(H.out _).os,(H.out _).tape,(H.out _).output,(H.out _).size,(H.out _).block⟩;go_wp2_with (go_at_call 215;refine bh.mono ?_;rintro e bK ⟨rfl,Y,I,U,O,bf,Z⟩)
   go_end0
   exact⟨rfl,Ju.trans (b:=(((w.setCell (Aq y) (Pq (f 0))).setCell (Aq y) (.pointer none)).setCell (Aq hb) (Sq y 0 cap)).drew) ⟨(H.out _).os,(H.out _).tape,(H.out _).output,(H.out _).size,(H.out _).block⟩ Y,I,U,O,bf,Z⟩
 have cb:0≠n:=fun e=>bI e.symm;go_enter func216,ntmps216
 go_upto_region 1 with fail
 go_big_region
 all_goals go_upto_region 4 with fail
 all_goals
  obtain⟨_,bh⟩:=bi.out ((((w.setCell (Aq y) (Pq (f n))).setCell (Ar y n) (.pointer none)).setCell (Aq hb) (Sq y n cap)).drew) (K.out.1 _) ⟨_,K.out.2 _ _⟩ ⟨(H.out _).os,(H.out _).tape,(H.out _).output,(H.out _).size,(H.out _).block⟩;go_wp2_with (go_at_call 215;refine bh.mono ?_;rintro e bK ⟨rfl,Y,I,U,O,bf,Z⟩)
  go_end0
  exact⟨rfl,Ju.trans (b:=(((w.setCell (Aq y) (Pq (f n))).setCell (Ar y n) (.pointer none)).setCell (Aq hb) (Sq y n cap)).drew) ⟨(H.out _).os,(H.out _).tape,(H.out _).output,(H.out _).size,(H.out _).block⟩ Y,I,U,O,bf,Z⟩
