/- The program's heap of runs: one is put in, the first one is taken out. -/
import Derived.Test.YtkdojacdolidfaaGreatDoorAt
set_option maxHeartbeats 4000000
set_option maxRecDepth 100000
namespace Go.Proofs.YtkdojacdolidfaaGreatDoor
open Go.RowKit Go.Shelf Tryz
def HpP (w:World)(hb sb n:Nat)(f:Nat->Nat):Prop:=(n=0/\w.heap[hb]?=some (.cells #[.slice none 0 0,ahV sb] 366 (0,0)))\/∃ y cap,Ksa w hb y sb n cap f
def HpF (w:World)(hb:Nat):Nat->Prop:=fun k=>k=hb\/∃ n c,w.cell? ⟨hb,0,none⟩=some (.slice (some ⟨k,0,none⟩) n c)
theorem Ksa.foot {w hb y sb n cap f}(h:Ksa w hb y sb n cap f):∀ k,HpF w hb k↔HpG hb y k:=fun k=>by
 obtain⟨H,_,_⟩:=Ksw h.st;unfold HpF;rw[H];constructor
 ·rintro(h|⟨K,I,h⟩)
  ·exact .inl h
  simp at h;exact .inr h.1.symm
 rintro(h|h)
 ·exact .inl h
 exact .inr ⟨n,cap,by simp[h]⟩
def Ksy (n:Nat)(f:Nat->Nat):List Value:=(List.range n).map fun i=>rpV (f i)
theorem Ktj n f:(Ksy n f).length=n:=by simp[Ksy]
theorem Kwj {n f i}(hi:i<n):(Ksy n f)[i]?=some (rpV (f i)):=by simp[Ksy,List.getElem?_range hi]
theorem Ksa.own {w hb y sb n cap f}(h:Ksa w hb y sb n cap f):Jo w 0 356 (.slice (some ⟨y,0,none⟩) n cap) (Ksy n f):=by
 obtain⟨H,I,M,K⟩:=h.row;unfold Jo;rw[Ktj];refine⟨by rw[Ktj];omega,.inr ⟨y,cap,H,rfl,Ob7 _,I,h.cap,K,zo,?_⟩⟩;rw[Nat.mul_one];have O:n<=H.toList.length:=by have:=h.cap;simp;omega
 refine Oi8 fun i=>?_;by_cases hi:i<n
 ·rw[Kwj hi,Oh3 hi];have:=h.cell i hi;simp[World.cell?,I]at this;simpa [rpV] using this
 rw[Ob4 zt,Ob4 (by rw[Ktj];omega)]
theorem Ksa.of_own {w hb sb n sv f}(ho:Jo w 0 356 sv (Ksy n f))(bf:0<n)(Y:w.heap[hb]?=some (.cells #[sv,ahV sb] 366 (0,0)))(U:sv.ownBlock≠some hb):∃ H cap,sv=.slice (some ⟨H,0,none⟩) n cap/\Ksa w hb H sb n cap f:=by
 unfold Jo at ho;rw[Ktj]at ho;obtain⟨_,⟨_,h0⟩|⟨g,cap,I,rfl,_,y,K,M,Z,O⟩⟩:=ho
 ·omega
 refine⟨g,cap,rfl,Y,Jd y,fun i hi=>?_,fun i=>by simp[World.frozen?,y],fun e=>U (by simp[Value.ownBlock,e]),⟨I,y,zo,M⟩,K⟩;have:=Kwj (f:=f) hi;rw[<-O,Oh3 zo]at this;simp only[World.cell?,y];simpa [rpV] using this
theorem Ky5:(prog.info? 356).map (fun i=>(i.zero,i.size,i.bytes))=some (some (.pointer none),1,8):=zK
theorem Ky2 hb sb n r f key P c(ho:Ksg c)w(h:HpP w hb sb n f)(bW:n<=900000)(bG:∀ j,j<n->P (f j))(bO:P r)(bD:Ku8 w (HpF w hb) sb P key c)(bH:Hp c n (fun j=>key (f j)))(bE:Inj (n+1) (fun j=>key (if j=n then r else f j))):
  Calls prog 210 #[.pointer (some ⟨hb,0,none⟩),.pointer (some ⟨r,0,none⟩)] w fun e w'=>e=.returned (.tuple #[])/\Ju (HpF w hb) w w'/\∃ y cap Y,Ksa w' hb y sb (n+1) cap Y/\Arr 0 (n+1) (fun j=>if j=n then r else f j) Y/\Hp c (n+1) (fun j=>key (Y j))/\(HpF w hb y\/w.heap.size<=y):=by
 obtain⟨sv,bB,bJ,Z,bI⟩:∃ sv,w.heap[hb]?=some (.cells #[sv,ahV sb] 366 (0,0))/\Jo w 0 356 sv (Ksy n f)/\sv.ownBlock≠some hb/\∀ g,sv.ownBlock=some g->HpF w hb g:=by
  rcases h with⟨rfl,hs⟩|⟨y,cap,K⟩
  ·exact⟨_,hs,Jo.nil _ _ _,by simp[Value.ownBlock],fun g I=>by simp[Value.ownBlock]at I⟩
  exact⟨_,K.st,K.own,fun e=>K.ne (by simpa [Value.ownBlock] using e),fun g I=>(K.foot g).2 (.inr (by simpa [Value.ownBlock] using I.symm))⟩
 obtain⟨bY,s1,bT⟩:=Ksw bB;have bZ:=bT 0;have U:Hid (Jo w 0 356 sv (Ksy n f)/\sv.ownBlock≠some hb/\∀ g,sv.ownBlock=some g->HpF w hb g):=⟨bJ,Z,bI⟩;have bQ:=Jd bB;clear h bJ Z bI;go_enter func210,ntmps210
 go_upto_region 1 with(at_builtin;go_must (refine Ks zR _ _ 303 356 _ 8 Ky5 zR zd zK zR 0 _ _ zR (Jo.alloc U.out.1 _) ⟨w.heap.size,0,none⟩ 1 [.pointer (some ⟨r,0,none⟩)] zR (by exact Ua w _ _) (by intro u bK;simp at bK;subst bK;rfl) (by rw[Ktj];simp;omega) zS ?_);intro sv' w1 bj O H;obtain⟨a2,M,rfl,_⟩:=bj.cells;have z1:w1.heap[hb]?=some (.cells #[sv,ahV sb] 366 (0,0)):=(O.block hb zt (fun e=>U.out.2.1 e.symm)).trans ((Oa9 w _ hb bQ).trans bB);obtain⟨ca,cb,bU⟩:=Ksw z1;have cc:=bU 0)
 have bk:∀ k,k≠hb->(w1.setCell ⟨hb,0,none⟩ (.slice a2 ((Ksy n f).length+1) M)).heap[k]?=w1.heap[k]?:=fun k bA=>Oa4 _ _ _ _ bA;have bC:Ksy (n+1) (fun j=>if j=n then r else f j)=Ksy n f++[.pointer (some ⟨r,0,none⟩)]:=by
  unfold Ksy;rw[Oj7,Ob8];congr 1
  ·refine Oj9 fun j bz=>?_;show rpV (if j=n then r else f j)=rpV (f j);rw[if_neg (by have:=Oj4.1 bz;omega)]
  simp[rpV]
 have br:(Value.slice a2 ((Ksy n f).length+1) M).ownBlock≠some hb:=fun e=>by
  rcases H with H|H
  ·exact U.out.2.1 (H.symm.trans (by simpa using e))
  have:=H.symm.trans (by simpa using e);simp at this;omega
 obtain⟨y,cap,bf,K⟩:=Ksa.of_own (w:=w1.setCell ⟨hb,0,none⟩ (.slice a2 ((Ksy n f).length+1) M)) (hb:=hb) (sb:=sb) (n:=n+1) (sv:=.slice a2 ((Ksy n f).length+1) M) (f:=fun j=>if j=n then r else f j) (by
  rw[bC];have:=Yd (w':=w1.setCell ⟨hb,0,none⟩ (.slice a2 ((Ksy n f).length+1) M)) bj fun g I=>bk g fun e=>br (by subst e;simpa using I);simpa using this) zo (by rw[Jk z1];simp) br
 have bx:HpF w hb y\/w.heap.size<=y:=by
  have e:(Value.slice a2 ((Ksy n f).length+1) M).ownBlock=some y:=by rw[bf];rfl
  rcases H with H|H
  ·exact .inl (U.out.2.2 y (H.symm.trans (by simpa using e)))
  have:=H.symm.trans (by simpa using e);simp at this;exact .inr zo
 have bh:Ju (HpF w hb) w (w1.setCell ⟨hb,0,none⟩ (.slice a2 ((Ksy n f).length+1) M)):=by
  refine Ju.set (b:=hb) ?_ (.inl rfl) 0 _;exact⟨O.os,O.tape,O.output,Ob2 zS O.size,fun k bA Z=>(O.block k zt fun e=>Z (U.out.2.2 k e.symm)).trans (Oa9 w _ k bA)⟩
 rw[bf]at K bh |-;rw[bf]at bk;clear bf bj O H br bC;generalize w1.setCell ⟨hb,0,none⟩ (.slice (some ⟨y,0,none⟩) (n+1) cap)=X at *;obtain⟨cf,x1,_⟩:=Ksw K.st;have bS:=Ky6 hb y sb (n+1) cap n (fun j=>if j=n then r else f j) key P c ho X K zo zo (fun j bz=>by
  by_cases e:j=n
  ·rw[if_pos e];exact bO
  rw[if_neg e];exact bG j zo) (fun W bP=>bD W (bh.trans' bP fun i hi I=>by
  rcases I with rfl|rfl
  ·exact .inl rfl
  exact bx.resolve_right zo)) (bH.up fun j bz=>by rw[if_neg zo]) bE
 have bi:Hid (Ju (HpF w hb) w X/\(HpF w hb y\/w.heap.size<=y)):=⟨bh,bx⟩;have bX:IntKind.i64.wrap (n:Int)=(n:Int):=by rw[Od4];omega
 clear bD bG bH bE bh bx bk;go_wp2_with (go_at_call 246;refine bS.mono ?_;rintro e bV ⟨rfl,bN,Y,bM,bL,bR,_⟩)
 go_end0
 refine⟨rfl,bi.out.1.trans' bN fun i hi I=>?_,y,cap,Y,bM,bL,bR,bi.out.2⟩;rcases I with rfl|rfl
 ·exact .inl rfl
 exact bi.out.2.resolve_right zo
theorem Kz8 hb y sb n cap f key P c(ho:Ksg c)w(h:Ksa w hb y sb (n+1) cap f)(bX:n<=900000)(bA:∀ j,j<n->P (if j=0 then f n else f j))(br:Ku8 w (HpG hb y) sb P key c)(bB:∀ j,0<j->j<n->(j-1) / 2≠0->Lt c (key (f ((j-1) / 2))) (key (f j)))(bz:Inj n (fun j=>key (if j=0 then f n else f j))):
  Calls prog 212 #[.pointer (some ⟨hb,0,none⟩)] w fun e w'=>e=.returned (.tuple #[])/\Ju (HpG hb y) w w'/\∃ I,Ksa w' hb y sb n cap I/\Arr 0 n (fun j=>if j=0 then f n else f j) I/\Hp c n (fun j=>key (I j))/\Inj n (fun j=>key (I j)):=by
 obtain⟨cb,s1,bR⟩:=Ksw h.st;have cc:=bR 0;have c0:=h.cell 0 zo;have bT:=h.cell n zo;have bV:=h.froz 0;have fn:=h.froz n;have bY:(n:Int)<((n+1:Nat):Int):=zo;have bZ:IntKind.i64.wrap (n:Int)=(n:Int):=by rw[Od4];omega
 have bH:=h.ne;have bG:hb≠y:=fun e=>bH e.symm;have bW:(n:Int)<=(cap:Int):=by have:=h.cap;omega
 have fin:∀ X,X.heap[hb]?=some (.cells #[.slice (some ⟨y,0,none⟩) n cap,ahV sb] 366 (0,0))->(∃ v,X.heap[y]?=((w.setCell ⟨y,0,none⟩ (.pointer (some ⟨f n,0,none⟩))).setCell ⟨y,n,none⟩ v).heap[y]?)->Ju (HpG hb y) w X ->
   Ksa X hb y sb n cap (fun j=>if j=0 then f n else f j)/\Calls prog 211 #[.pointer (some ⟨hb,0,none⟩)] X fun e w'=>e=.returned (.tuple #[])/\Ju (HpG hb y) X w'/\∃ I,Ksa w' hb y sb n cap I/\Arr 0 n (fun j=>if j=0 then f n else f j) I/\Hp c n (fun j=>key (I j))/\Inj n (fun j=>key (I j)):=by
  intro X bO ⟨v,bE⟩ hK;obtain⟨bU,bP,r2,bQ⟩:=h.row;have M:=Jk (Jk bP 0 (.pointer (some ⟨f n,0,none⟩))) n v;rw[<-bE]at M;have bx:Ksa X hb y sb n cap (fun j=>if j=0 then f n else f j):=by
   refine⟨bO,Jd M,fun i hi=>?_,fun i=>by simp[World.frozen?,M],h.ne,⟨_,M,by simp;exact⟨r2,bQ⟩⟩,by have:=h.cap;omega⟩;rw[Oc3 (w:=(w.setCell ⟨y,0,none⟩ (.pointer (some ⟨f n,0,none⟩))).setCell ⟨y,n,none⟩ v) bE,Ob5 _ _ _ _ (by intro h;injection h with _ h;omega)];by_cases e:i=0
   ·subst e;rw[if_pos rfl];exact World.cell?_setCell_same _ _ _ (h.cell 0 zo)
   rw[if_neg e,Ob5 _ _ _ _ (by intro h;injection h with _ h;omega)];exact h.cell i zo
  refine⟨bx,Kvq hb y sb n cap _ key P c ho X bx zo (fun j bN=>?_) (br.keep hK) ⟨fun j bL bM bk=>?_,fun h0=>zo⟩ bz⟩
  ·exact bA j bN
  show Lt c (key (if (j-1) / 2=0 then f n else f ((j-1) / 2))) (key (if j=0 then f n else f j));rw[if_neg bk,if_neg zo];exact bB j bL bM bk
 have bi:Hid (∀ X,X.heap[hb]?=some (.cells #[.slice (some ⟨y,0,none⟩) n cap,ahV sb] 366 (0,0))->(∃ v,X.heap[y]?=((w.setCell ⟨y,0,none⟩ (.pointer (some ⟨f n,0,none⟩))).setCell ⟨y,n,none⟩ v).heap[y]?)->Ju (HpG hb y) w X ->
   Ksa X hb y sb n cap (fun j=>if j=0 then f n else f j)/\Calls prog 211 #[.pointer (some ⟨hb,0,none⟩)] X fun e w'=>e=.returned (.tuple #[])/\Ju (HpG hb y) X w'/\∃ I,Ksa w' hb y sb n cap I/\Arr 0 n (fun j=>if j=0 then f n else f j) I/\Hp c n (fun j=>key (I j))/\Inj n (fun j=>key (I j))):=fin
 have bJ:Hid (w.heap[hb]?=some (.cells #[.slice (some ⟨y,0,none⟩) (n+1) cap,ahV sb] 366 (0,0))):=h.st;have bC:∀ v,((((w.setCell ⟨y,0,none⟩ (.pointer (some ⟨f n,0,none⟩))).drew.setCell ⟨y,n,none⟩ v)).setCell ⟨hb,0,none⟩ (.slice (some ⟨y,0,none⟩) n cap)).heap[hb]?=some (.cells #[.slice (some ⟨y,0,none⟩) n cap,ahV sb] 366 (0,0)):=fun v=>by
  have bS:((w.setCell ⟨y,0,none⟩ (.pointer (some ⟨f n,0,none⟩))).drew.setCell ⟨y,n,none⟩ v).heap[hb]?=some (.cells #[.slice (some ⟨y,0,none⟩) (n+1) cap,ahV sb] 366 (0,0)):=(Oa4 _ _ _ _ bG).trans ((Oa4 w _ _ _ bG).trans bJ.out);rw[Jk bS];simp
 have bD:∀ v u,((((w.setCell ⟨y,0,none⟩ (.pointer (some ⟨f n,0,none⟩))).drew.setCell ⟨y,n,none⟩ v)).setCell ⟨hb,0,none⟩ u).heap[y]?=((w.setCell ⟨y,0,none⟩ (.pointer (some ⟨f n,0,none⟩))).setCell ⟨y,n,none⟩ v).heap[y]?:=fun v u=>Oa4 _ _ _ _ bH;have K:Hid ((∀ v,((((w.setCell ⟨y,0,none⟩ (.pointer (some ⟨f n,0,none⟩))).drew.setCell ⟨y,n,none⟩ v)).setCell ⟨hb,0,none⟩ (.slice (some ⟨y,0,none⟩) n cap)).heap[hb]?=some (.cells #[.slice (some ⟨y,0,none⟩) n cap,ahV sb] 366 (0,0)))/\∀ v u,((((w.setCell ⟨y,0,none⟩ (.pointer (some ⟨f n,0,none⟩))).drew.setCell ⟨y,n,none⟩ v)).setCell ⟨hb,0,none⟩ u).heap[y]?=((w.setCell ⟨y,0,none⟩ (.pointer (some ⟨f n,0,none⟩))).setCell ⟨y,n,none⟩ v).heap[y]?):=⟨bC,bD⟩;clear fin bC bD bA br bB bz h;have bj:∀ v,Ju (HpG hb y) w ((((w.setCell ⟨y,0,none⟩ (.pointer (some ⟨f n,0,none⟩))).drew.setCell ⟨y,n,none⟩ v)).setCell ⟨hb,0,none⟩ (.slice (some ⟨y,0,none⟩) n cap)):=fun v=>((((Ju.refl (HpG hb y) w).set (.inr rfl) 0 _).drew).set (.inr rfl) n v).set (.inl rfl) 0 _;have H:=zh bj;clear bj;by_cases bI:n=0
 ·subst bI;go_enter func212,ntmps212
  go_upto_region 1 with fail
  go_big_region
  all_goals go_upto_region 4 with fail
  all_goals
   obtain⟨_,bh⟩:=bi.out ((((w.setCell ⟨y,0,none⟩ (.pointer (some ⟨f 0,0,none⟩))).setCell ⟨y,0,none⟩ (.pointer none)).setCell ⟨hb,0,none⟩ (.slice (some ⟨y,0,none⟩) 0 cap)).drew) (K.out.1 _) ⟨_,K.out.2 _ _⟩ ⟨(H.out _).os,(H.out _).tape,(H.out _).output,(H.out _).size,(H.out _).block⟩;go_wp2_with (go_at_call 211;refine bh.mono ?_;rintro e bK ⟨rfl,Y,I,U,O,bf,Z⟩)
   go_end0
   exact⟨rfl,Ju.trans (b:=(((w.setCell ⟨y,0,none⟩ (.pointer (some ⟨f 0,0,none⟩))).setCell ⟨y,0,none⟩ (.pointer none)).setCell ⟨hb,0,none⟩ (.slice (some ⟨y,0,none⟩) 0 cap)).drew) ⟨(H.out _).os,(H.out _).tape,(H.out _).output,(H.out _).size,(H.out _).block⟩ Y,I,U,O,bf,Z⟩
 have ca:0≠n:=fun e=>bI e.symm;go_enter func212,ntmps212
 go_upto_region 1 with fail
 go_big_region
 all_goals go_upto_region 4 with fail
 all_goals
  obtain⟨_,bh⟩:=bi.out ((((w.setCell ⟨y,0,none⟩ (.pointer (some ⟨f n,0,none⟩))).setCell ⟨y,n,none⟩ (.pointer none)).setCell ⟨hb,0,none⟩ (.slice (some ⟨y,0,none⟩) n cap)).drew) (K.out.1 _) ⟨_,K.out.2 _ _⟩ ⟨(H.out _).os,(H.out _).tape,(H.out _).output,(H.out _).size,(H.out _).block⟩;go_wp2_with (go_at_call 211;refine bh.mono ?_;rintro e bK ⟨rfl,Y,I,U,O,bf,Z⟩)
  go_end0
  exact⟨rfl,Ju.trans (b:=(((w.setCell ⟨y,0,none⟩ (.pointer (some ⟨f n,0,none⟩))).setCell ⟨y,n,none⟩ (.pointer none)).setCell ⟨hb,0,none⟩ (.slice (some ⟨y,0,none⟩) n cap)).drew) ⟨(H.out _).os,(H.out _).tape,(H.out _).output,(H.out _).size,(H.out _).block⟩ Y,I,U,O,bf,Z⟩
