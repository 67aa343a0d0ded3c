/- A column of rows; blank rows; a segment's values. -/
import Derived.Test.YtnlnlamdilifcaaGreatDoorKk
import Derived.Test.YtnlnlamdilifcaaGreatDoorTe
import Derived.Maps.OwnIn
set_option maxHeartbeats 2000000
set_option maxRecDepth 100000
namespace Go.Proofs.YtnlnlamdilifcaaGreatDoor
section
open Go.RowKit Tryz
def Jaj (rs:List (List V))(c:Nat):List V:=rs.map fun r=>r.getD c Jf
theorem Kj6 (rs:List (List V))(c k:Nat)(y:k<rs.length):Jaj (rs.take (k+1)) c=Jaj (rs.take k) c++[rs[k].getD c Jf]:=by
 unfold Jaj;rw[Oc4 y,Ob8];rfl
theorem Kj5 a cap hs rs c w(bj:rs.length<=1000)(br:Zd w a hs rs)(M:∀ r∈rs,c<r.length)(Y:∀ r∈rs,r.length<=1000):
  Cq 63 #[.slice a rs.length cap,Iq (c:Int)] w fun e w'=>∃ v,e=.returned v/\Jc9 w w' (Jaj rs c) v/\Bq w w':=by
 obtain⟨C,bi,bk⟩:=Jl9 rs.length bj w;have Z:=zh M;have bf:=zh Y;clear M Y;go_enter func63,ntmps63
 go_wp2;clear bi;go_loopw [13] (fun i wr=>∃ k:Nat,k<=rs.length/\i=Iq k/\Kv wr w.heap.size (Jaj (rs.take k) c++List.replicate (rs.length-k) Jf) []/\Bq w wr) (fun i _=>rs.length-(intOf i).toNat)
 case atStart=>exact⟨0,zo,rfl,by simpa [Jaj] using bk,(Oa5 _ _).alloc (Oa2 _) _⟩
 case round=>
  obtain⟨k,bD,rfl,U,H⟩:=hrel;by_cases y:k<rs.length
  ·obtain⟨b,o,bH,rc,rfl,hb,bx,hv⟩:=(br.below H).at y;have O:=Z.out _ (Ob3 y);have bE:=bf.out _ (Ob3 y);obtain⟨b2,bG,rfl,bC,x1,x2,bI⟩:=hv.at O;have I:(Jaj (rs.take k) c).length=k:=by simp[Jaj];omega
   have hlen:(Jaj (rs.take k) c++List.replicate (rs.length-k) Jf).length=rs.length:=by rw[Oa8,I,Od6];omega
   obtain⟨old,⟨c0,bz⟩,⟨c1,bA⟩,⟨c2,bB⟩,K⟩:=U.put rs[k][c] k (by rw[hlen];exact y);rw[Jna _ k rs.length _ I y]at K;have bh:Hid (Kv (((wr.setCell (Ar w.heap.size (k*3)) (Iq rs[k][c].k)).setCell (Ar w.heap.size (k*3+1)) (Iq rs[k][c].n)).setCell (Ar w.heap.size (k*3+2)) (.string rs[k][c].s)) w.heap.size (Jaj (rs.take (k+1)) c++List.replicate (rs.length-(k+1)) Jf) []):=by
    rw[Kj6 rs c k y];have:rs[k].getD c Jf=rs[k][c]:=(by simp[O]);rw[this];exact K
   clear K I hlen;go_wp2;go_roundw
   case rel=>exact⟨k+1,zo,zn,bh.out,((H.setCell (p:=Ar w.heap.size (k*3)) (Oa2 _) _).setCell (p:=Ar w.heap.size (k*3+1)) (Oa2 _) _).setCell (p:=Ar w.heap.size (k*3+2)) (Oa2 _) _⟩
   case measure=>simp[intOf];omega
  obtain rfl:k=rs.length:=zo;go_wp2;go_ret
  refine⟨_,rfl,⟨w.heap.size,?_,Oa2 _,by simpa using U⟩,H⟩;simp[Jaj]
def Us (D:DS)(l:List Nat)(typ:Int)(n:Nat):List V⊕Nat:=
 match Uf D l with
 |.inr j=>.inr j
 |.inl t=>match Jbf t with
  |some (ty,_,vs)=>if (ty:Int)=typ/\vs.length=n then .inl vs else .inr (l.getD 0 0)
  |none=>.inr (l.getD 0 0)
def Jl8 (w:World)(pg:Addr)(r:List V⊕Nat)(e:Ending)(w':World):Prop:=
 Bq w w'/\match r with
  |.inl vs=>∃ b,e=.returned (.tuple #[Sq b vs.length vs.length,.nilIface])/\w.heap.size<=b/\Kv w' b vs []
  |.inr j=>∃ b,e=.returned (.tuple #[Sz,Ip 149 b])/\w.heap.size<=b/\Yu w' (Ip 149 b) pg none (some (j:Int))
theorem Jsc D:∀ (l:List Nat) (t:List UInt8),Uf D l=.inl t->t.length<=56*l.length
 |[],t,h=>by simp[Uf]at h;subst h;simp
 |i::l,t,h=>by
  simp only[Uf]at h;split at h
  ·simp at h
  rename_i u y
  have H:u.length<=56:=by
   cases hp:D.pages.getD i none with
   |none=>rw[hp]at y;simp at y
   |some p=>rw[hp]at y;exact Jrf y
  split at h
  ·rename_i r hr
   have:=Jsc D l r hr;simp at h;subst h;simp;omega
  simp at h
theorem Jqz t(hW:Kje t)(typ:Int)(n:Nat)w(ht:t.length<=maxLen)a0 a1 a2(U:Jf0 w a0 a1 a2):
  Cq 100 #[.string (Qw t),Iq typ,Iq (n:Int)] w fun e w'=>Bq w w'/\((∃ ty H vs b,Jbf t=some (ty,H,vs)/\(ty:Int)=typ/\vs.length=n/\e=.returned (.tuple #[Sq b vs.length vs.length,.nilIface])/\w.heap.size<=b/\Kv w' b vs []) \/
   ((∀ ty H vs,Jbf t=some (ty,H,vs)->¬ ((ty:Int)=typ/\vs.length=n))/\e=.returned (.tuple #[Sz,Ie 435 a2]))):=by
 have Y:=Ki3 t hW w ht a0 a1 a2 U;clear hW;have bz:=run_neq_nil_nil (P:=prog);go_enter func100,ntmps100
 go_wp2_with (first|(go_at_call 134;refine Y.mono ?_))
 rintro e bx ⟨y,⟨hp,rfl⟩|⟨ty,H,vs,b,hp,rfl,bf,bi⟩⟩
 ·have c2:=Ja y U.c2;have I:=zh hp;clear hp Y;go_wp2;go_quiet (fail)
  go_wp2;go_ret2
  exact⟨Jp y _,.inr ⟨fun ty H vs h=>by rw[I.out]at h;simp at h,rfl⟩⟩
 have c2:=Ja y U.c2;have I:=zh hp;clear hp Y;by_cases ht:(ty:Int)=typ
 ·by_cases K:vs.length=n
  ·have Z:((ty:Int) != typ)=false:=(by simp[ht]);have bj:(((vs.length:Nat):Int) != (n:Int))=false:=(by simp[K]);have O:=zh ht;have M:=zh K;clear ht K;go_wp2;go_ret2
   exact⟨y,.inl ⟨ty,H,vs,b,I.out,O.out,M.out,rfl,bf,bi⟩⟩
  have Z:((ty:Int) != typ)=false:=by simp[ht]
  have bj:(((vs.length:Nat):Int) != (n:Int))=true:=by rw[bne_iff_ne];omega
  have M:=zh K;clear ht K;go_wp2;go_quiet (fail)
  go_wp2;go_ret2
  refine⟨Jp y _,.inr ⟨fun bk bh br h hh=>?_,rfl⟩⟩;rw[I.out]at h;simp at h;obtain⟨_,_,rfl⟩:=h;exact M.out hh.2
 have Z:((ty:Int) != typ)=true:=by rw[bne_iff_ne];exact ht
 have O:=zh ht;clear ht;go_wp2;go_quiet (fail)
 go_wp2;go_ret2
 refine⟨Jp y _,.inr ⟨fun bk bh br h hh=>?_,rfl⟩⟩;rw[I.out]at h;simp at h;obtain⟨rfl,_,_⟩:=h;exact O.out hh.1
theorem Jto (s d:Nat)a(cap:Nat)l(typ:Int)(n:Nat)w F D(h:Zb w F d D)(bP:w.cell? (Aq s)=some (Pq d))(hl:Uh w a (l.map nv))(bx:l≠[])(bI:l.length<=1000000)(bf:∀ t,Uf D l=.inl t->Kje t)a0 a1 a2(bG:Jf0 w a0 a1 a2)pg(bB:w.cell? (Aq 7)=some (Ie 435 pg)):
  Cq 73 #[Pq s,.slice a l.length cap,Iq typ,Iq (n:Int)] w fun e w'=>Jl8 w pg (Us D l typ n) e w':=by
 have M:=Kag d a cap l w F D h hl bI pg bB;have hlen:0<l.length:=Oi9.2 bx;have bO:=run_neq_nil_nil (P:=prog);cases hr:Uf D l with
 |inr j=>
  have K:Hid (Us D l typ n=.inr j):=by show _=_;simp[Us,hr]
  rw[hr]at M;clear hr bf;go_enter func73,ntmps73
  go_wp2_with (first|(go_at_call 99;refine M.mono ?_;rintro e bj ⟨y,b,rfl,Y,Z⟩))
  go_ret2
  rw[K.out];exact⟨y,b,rfl,Y,Z⟩
 |inl t=>
  have bQ:=Jsc D l t hr;have hW:=bf t hr;rw[hr]at M;have bh:Hid (∀ W:World,Bq w W->Cq 100 #[.string (Qw t),Iq typ,Iq (n:Int)] W fun e w'=>Bq W w'/\((∃ ty I vs b,Jbf t=some (ty,I,vs)/\(ty:Int)=typ/\vs.length=n/\e=.returned (.tuple #[Sq b vs.length vs.length,.nilIface])/\W.heap.size<=b/\Kv w' b vs []) \/
   ((∀ ty I vs,Jbf t=some (ty,I,vs)->¬ ((ty:Int)=typ/\vs.length=n))/\e=.returned (.tuple #[Sz,Ie 435 a2])))):=fun W hb=>Jqz t hW typ n W (by unfold maxLen;omega) a0 a1 a2 (bG.below hb)
  have bi:=zh hr;clear hW;rcases hl with hl|⟨b0,bK,rfl,bN,hl⟩
  ·simp at hl;exact absurd hl bx
  have bk:w.cell? (Ar b0 bK)=some (Iq ((l.getD 0 0:Nat):Int)):=by
   have:=hl 0 _ (by simp[hlen];rfl);rw[Nat.add_zero]at this;rw[this];simp[hlen,nv]
  obtain⟨O,U⟩:∃ O,Hid (l.getD 0 0=O):=⟨_,rfl⟩;rw[U.out]at bk;clear hr bf hl h;go_enter func73,ntmps73
  go_wp2_with (first|(go_at_call 99;refine M.mono ?_;rintro e bj ⟨y,rfl⟩)|(go_at_call 100;refine(bh.out bj y).mono ?_))
  rintro e bC ⟨br,⟨ty,I,vs,b,hp,ht,bz,rfl,Y,bH⟩|⟨bA,rfl⟩⟩
  ·have K:Hid (Us D l typ n=.inl vs):=by show _=_;simp only[Us,bi.out,hp];rw[if_pos ⟨ht,bz⟩]
   have H:=Jb y br;clear hp bh ht bz;go_wp2;go_ret2
   rw[K.out];exact⟨H,b,rfl,Ob2 y.size Y,bH⟩
  have K:Hid (Us D l typ n=.inr O):=by
   show _=_;simp only[Us,bi.out];cases hp:Jbf t with
   |none=>simp only;exact congrArg _ U.out
   |some x=>
    obtain⟨ty,I,vs⟩:=x;simp only;rw[if_neg (bA ty I vs hp),U.out]
  have H:=Jb y br;have bJ:=Jfv (O:Int) bC pg (Ja H bB);have bM:=Ja H bk;clear bA bh;go_wp2_with (first|(go_at_call 101;refine bJ.mono ?_;rintro e bL ⟨bD,b3,rfl,bE,Z⟩))
  go_ret2
  rw[K.out];exact⟨Jb H bD,b3,rfl,Ob2 H.size bE,Z⟩
end
open Go.RowKit Go.Shelf Tryz
attribute [local go_sem] Oc0
theorem Kiz {W y}(h:Bq W y):KeepsOthers W y:=⟨h.size,fun k _ H _=>(h.block k (Oe2.1 H).1).trans H⟩
theorem Kke a(len cap g:Nat)(y:1<=g)w:
  Cq 61 #[.slice a len cap,Iq (g:Int)] w fun e w'=>e=.returned (.func (.func 82) #[] #[Pq w.heap.size,Pq (w.heap.size+1)])/\w'=(w.alloc (.cells #[.slice a len cap] 23)).alloc (.cells #[Iq (g:Int)] 3):=by
 have H:∀ (fn:Fn) (first cap:Array Value) (w:World),(Instr.makeFunc fn first cap).run prog w=.ok (.func fn first cap) w:=fun _ _ _ _=>rfl;go_enter func61,ntmps61
 go_wp2;go_ret
 exact⟨rfl,rfl⟩
theorem Kj8 (n:Nat)(l y H:Nat)a(cap:Nat)(J:World->Prop)W(K:W.cell? (Aq y)=some (.slice a 0 cap))(h0:J W):
  CallsIn Fence.wide n prog 82 #[.func (.yield l) #[] #[],Pq y,Pq H] W fun e I=>(∃ v,e=.returned v)/\J I:=by
 refine callsIn_of_wp func82 rfl trivial ?_ rfl;simp only[ntmps82,Om3,List.length_cons,List.length_nil,Nat.reduceAdd,Nat.reduceSub,Ok9,Array.replicate_zero,Om4,Ol2,List.nil_append,List.cons_append];gi_wp2
 gi_loopw [4] (fun i wr=>i=iZ/\J wr/\wr.cell? (Aq y)=some (.slice a 0 cap)) (fun _ _=>0)
 case atStart=>exact⟨rfl,h0,K⟩
 case round=>
  obtain⟨rfl,M,O⟩:=hrel;gi_wp2
  go_end0
  exact⟨⟨_,rfl⟩,M⟩
def ckV (a:Option Addr)(x:Nat×Nat):Value:=match a with
 |some p=>Sr p.block (p.off+x.1) x.2 x.2
 |none=>Sz
theorem Kjw (n:Nat)(bB:1<=n)(H y:Nat)a(len cap g:Nat)(bk:1<=g)(br:g<=64)(hlen:len<=1000)(bi:len<=cap)(bC:len=0\/∃ b o,a=some (Ar b o))w(bA:H<w.heap.size)(bz:y<w.heap.size)(Y:w.cell? (Aq H)=some (.slice a len cap))(O:w.cell? (Aq y)=some (Iq (g:Int))):
  SeqStopsK Fence.wide n prog 82 #[Pq H,Pq y] (fun x:Ck len=>#[ckV a x.1]) (KpC H y) (fun bE=>bE.map Subtype.val=cks len g (ckN len g)) (fun bD=>∃ k,k<=ckN len g/\bD.map Subtype.val=cks len g k) (ckN len g) w:=fun l J M W hW Z _ bh h0=>by
 have K:=(hW.cell (p:=Aq H) bA).trans Y;have U:=(hW.cell (p:=Aq y) bz).trans O;have bf:∀ s W,J s W->J s W.drew:=fun s I h=>Z s I I.drew none h ⟨rfl,rfl,rfl,Oa2 _,fun _ _ _=>rfl⟩ (fun r e=>by cases e);rcases bC with h|⟨b,o,rfl⟩
 ·subst h;refine(Kj8 n l H y a cap (J []) W K h0).mono fun e I ⟨bj,bx⟩=>⟨bj,.inl ⟨[],?_,bx⟩⟩;have:ckN 0 g=0:=by unfold ckN;exact Op6 zo
  rw[this];rfl
 exact Kkd n bB l H y b o len cap g bk br hlen bi J M bh bf W K U h0
def Uo (rows:List (List V))(ts hs:List Int)(c:Nat):List UInt8×Int:=Jev (ts.getD c 0) (hs.getD c 0) (Jaj rows c)
def Jeo (rows:List (List V))(ts hs:List Int):Nat->List (List UInt8)⊕Nat
 |0=>.inl []
 |k+1=>match Jeo rows ts hs k with
  |.inr c=>.inr c
  |.inl l=>if (Uo rows ts hs k).2=0 then .inl (l++[(Uo rows ts hs k).1])else .inr k
theorem Jjc rows ts hs:∀ (k:Nat) (l:List (List UInt8)),Jeo rows ts hs k=.inl l->l.length=k
 |0,l,h=>by simp[Jeo]at h;subst h;rfl
 |k+1,l,h=>by
  simp only[Jeo]at h;split at h
  ·simp at h
  rename_i H y
  split at h
  ·simp at h;subst h;simp[Jjc rows ts hs k H y]
  simp at h
theorem Kkc rows ts hs c:∀ (k m:Nat),Jeo rows ts hs k=.inr c->k<=m->Jeo rows ts hs m=.inr c:=by
 intro k m h H;induction m with
 |zero=>
      have:k=0:=zo;subst this;exact h
 |succ m y=>
  by_cases e:k=m+1
  ·subst e;exact h
  simp only[Jeo,y zo]
def Uk (rs:List (List V))(x:Nat×Nat):List (List V):=(rs.drop x.1).take x.2
def Jiu (rs:List (List V))(ts hs:List Int)(y:List (List UInt8)⊕Nat)(x:Nat×Nat):List (List UInt8)⊕Nat:=
 match y with
 |.inr c=>.inr c
 |.inl T=>match Jeo (Uk rs x) ts hs ts.length with
  |.inl l=>.inl (T++l)
  |.inr c=>.inr c
def Jfg (rs:List (List V))(ts hs:List Int)(xs:List (Nat×Nat)):List (List UInt8)⊕Nat:=xs.foldl (Jiu rs ts hs) (.inl [])
theorem Juv rs ts hs xs x:Jfg rs ts hs (xs++[x])=Jiu rs ts hs (Jfg rs ts hs xs) x:=by simp[Jfg]
theorem Kkl rs ts hs xs y c(h:Jfg rs ts hs xs=.inr c):Jfg rs ts hs (xs++y)=.inr c:=by
 have key:∀ y:List (Nat×Nat),y.foldl (Jiu rs ts hs) (.inr c)=.inr c:=by
  intro y;induction y with
  |nil=>rfl
  |cons I y H=>exact H
 unfold Jfg at h |-;rw[Ol1,h,key]
theorem Jvd len g k m(h:k<=m):∃ y,cks len g m=cks len g k++y:=by
 obtain⟨d,rfl⟩:=Nat.exists_eq_add_of_le h;exact⟨(List.range d).map (fun i=>Jaa len g (k+i)),by simp[cks,List.range_add]⟩
theorem Zd.piece {w a hs rs}(h:Zd w a hs rs)(x:Ck rs.length):∃ a' I,ckV a x.1=.slice a' (Uk rs x.1).length x.1.2/\Zd w a' I (Uk rs x.1):=by
 obtain⟨⟨o,m⟩,K,M,O⟩:=x;simp only at K M O;have hl:(Uk rs (o,m)).length=m:=by unfold Uk;simp;omega
 rcases h.cells with H|⟨b,ob,rfl,hb,H⟩
 ·have:=congrArg List.length H;simp[h.len]at this;have:=Od3.2 this;omega
 refine⟨some (Ar b (ob+o)),(hs.drop o).take m,by simp[ckV,hl],⟨by simp[Uk,h.len],.inr ⟨b,ob+o,rfl,hb,fun i v hv=>?_⟩,fun i U r hy hr=>?_⟩⟩
 ·have hi:i<m:=by
   rcases Oc1 i m with y|y
   ·exact y
   ·rw[Ob4 (by simp[Uk];omega)]at hv;simp at hv
  rw[On5];refine H (o+i) v ?_;rw[Ok5]at hv |-;simp only[Uk,Oh3 hi,Oh9]at hv;exact hv
 have hi:i<m:=by
  rcases Oc1 i m with y|y
  ·exact y
  ·rw[Ob4 (by simp[Uk];omega)]at hr;simp at hr
 simp only[Uk,Oh3 hi,Oh9]at hy hr;exact h.rows (o+i) U r hy hr
