/- A column of rows; blank rows; a segment's values. -/
import Derived.Test.YtjbenncelbpbnaaGreatDoorKk
import Derived.Test.YtjbenncelbpbnaaGreatDoorTe
import Derived.Maps.OwnIn
set_option maxHeartbeats 2000000
set_option maxRecDepth 100000
namespace Go.Proofs.YtjbenncelbpbnaaGreatDoor
section
open Go.RowKit Tryz
def Jaj (rs:List (List V))(c:Nat):List V:=rs.map fun r=>r.getD c Jf
theorem Kj6 (rs:List (List V))(c k:Nat)(hk:k<rs.length):Jaj (rs.take (k+1)) c=Jaj (rs.take k) c++[rs[k].getD c Jf]:=by
 unfold Jaj;rw[Oc4 hk,Ob8];rfl
theorem Kj5 a cap hs rs c w(hn:rs.length<=1000)(bk:Zd w a hs rs)(M:∀ r∈rs,c<r.length)(Y:∀ r∈rs,r.length<=1000):
  Calls prog 66 #[.slice a rs.length cap,.int .i64 (c:Int)] w fun e w'=>∃ v,e=.returned v/\Jc9 w w' (Jaj rs c) v/\Below w.heap.size w w':=by
 obtain⟨C,bi,bj⟩:=Jl9 rs.length hn w;have Z:=zh M;have bf:=zh Y;clear M Y;go_enter func66,ntmps66
 go_wp2;clear bi;go_loopw [13] (fun i wr=>∃ k:Nat,k<=rs.length/\i=.int .i64 k/\Kv wr w.heap.size (Jaj (rs.take k) c++List.replicate (rs.length-k) Jf) []/\Below w.heap.size w wr) (fun i _=>rs.length-(intOf i).toNat)
 case atStart=>exact⟨0,zo,rfl,by simpa [Jaj] using bj,(Oa5 _ _).alloc (Oa2 _) _⟩
 case round=>
  obtain⟨k,hk,rfl,U,H⟩:=hrel;by_cases y:k<rs.length
  ·obtain⟨b,o,bE,rc,rfl,hb,br,hv⟩:=(bk.below H).at y;have O:=Z.out _ (Ob3 y);have bC:=bf.out _ (Ob3 y);obtain⟨b2,bD,rfl,bB,x1,x2,bG⟩:=hv.at O;have I:(Jaj (rs.take k) c).length=k:=by simp[Jaj];omega
   have hlen:(Jaj (rs.take k) c++List.replicate (rs.length-k) Jf).length=rs.length:=by rw[Oa8,I,Od6];omega
   obtain⟨old,⟨c0,bx⟩,⟨c1,bz⟩,⟨c2,bA⟩,K⟩:=U.put rs[k][c] k (by rw[hlen];exact y);rw[Jna _ k rs.length _ I y]at K;have bh:Hid (Kv (((wr.setCell ⟨w.heap.size,k*3,none⟩ (.int .i64 rs[k][c].k)).setCell ⟨w.heap.size,k*3+1,none⟩ (.int .i64 rs[k][c].n)).setCell ⟨w.heap.size,k*3+2,none⟩ (.string rs[k][c].s)) w.heap.size (Jaj (rs.take (k+1)) c++List.replicate (rs.length-(k+1)) Jf) []):=by
    rw[Kj6 rs c k y];have:rs[k].getD c Jf=rs[k][c]:=(by simp[O]);rw[this];exact K
   clear K I hlen;go_wp2;go_roundw
   case rel=>exact⟨k+1,zo,zn,bh.out,((H.setCell (p:=⟨w.heap.size,k*3,none⟩) (Oa2 _) _).setCell (p:=⟨w.heap.size,k*3+1,none⟩) (Oa2 _) _).setCell (p:=⟨w.heap.size,k*3+2,none⟩) (Oa2 _) _⟩
   case measure=>simp[intOf];omega
  obtain rfl:k=rs.length:=zo;go_wp2;go_ret
  refine⟨_,rfl,⟨w.heap.size,?_,Oa2 _,by simpa using U⟩,H⟩;simp[Jaj]
def Us (D:DS)(l:List Nat)(typ:Int)(n:Nat):List V⊕Nat:=
 match Uf D l with
 |.inr j=>.inr j
 |.inl t=>match Jbf t with
  |some (ty,_,vs)=>if (ty:Int)=typ/\vs.length=n then .inl vs else .inr (l.getD 0 0)
  |none=>.inr (l.getD 0 0)
def Jl8 (w:World)(pg:Addr)(r:List V⊕Nat)(e:Ending)(w':World):Prop:=
 Below w.heap.size w w'/\match r with
  |.inl vs=>∃ b,e=.returned (.tuple #[.slice (some ⟨b,0,none⟩) vs.length vs.length,.nilIface])/\w.heap.size<=b/\Kv w' b vs []
  |.inr j=>∃ b,e=.returned (.tuple #[.slice none 0 0,.iface 156 (.pointer (some ⟨b,0,none⟩))])/\w.heap.size<=b/\Yu w' (.iface 156 (.pointer (some ⟨b,0,none⟩))) pg none (some (j:Int))
theorem Jsc D:∀ (l:List Nat) (t:List UInt8),Uf D l=.inl t->t.length<=56*l.length
 |[],t,h=>by simp[Uf]at h;subst h;simp
 |i::l,t,h=>by
  simp only[Uf]at h;split at h
  ·simp at h
  rename_i u y
  have H:u.length<=56:=by
   cases hp:D.pages.getD i none with
   |none=>rw[hp]at y;simp at y
   |some p=>rw[hp]at y;exact Jrf y
  split at h
  ·rename_i r hr
   have:=Jsc D l r hr;simp at h;subst h;simp;omega
  simp at h
theorem Jqz t(hW:Kje t)(typ:Int)(n:Nat)w(ht:t.length<=maxLen)a0 a1 a2(O:Jf0 w a0 a1 a2):
  Calls prog 115 #[.string (Qw t),.int .i64 typ,.int .i64 (n:Int)] w fun e w'=>Below w.heap.size w w'/\((∃ ty H vs b,Jbf t=some (ty,H,vs)/\(ty:Int)=typ/\vs.length=n/\e=.returned (.tuple #[.slice (some ⟨b,0,none⟩) vs.length vs.length,.nilIface])/\w.heap.size<=b/\Kv w' b vs []) \/
   ((∀ ty H vs,Jbf t=some (ty,H,vs)->¬ ((ty:Int)=typ/\vs.length=n))/\e=.returned (.tuple #[.slice none 0 0,.iface 432 (.pointer (some a2))]))):=by
 have U:=Ki3 t hW w ht a0 a1 a2 O;clear hW;have bx:=run_neq_nil_nil (P:=prog);go_enter func115,ntmps115
 go_wp2_with (first|(go_at_call 162;refine U.mono ?_))
 rintro e br ⟨y,⟨hp,rfl⟩|⟨ty,H,vs,b,hp,rfl,Z,bh⟩⟩
 ·have c2:=Ja y O.c2;have I:=zh hp;clear hp U;go_wp2;go_quiet (fail)
  go_wp2;go_ret2
  exact⟨Jp y _,.inr ⟨fun ty H vs h=>by rw[I.out]at h;simp at h,rfl⟩⟩
 have c2:=Ja y O.c2;have I:=zh hp;clear hp U;by_cases ht:(ty:Int)=typ
 ·by_cases hn:vs.length=n
  ·have Y:((ty:Int) != typ)=false:=(by simp[ht]);have bi:(((vs.length:Nat):Int) != (n:Int))=false:=(by simp[hn]);have M:=zh ht;have K:=zh hn;clear ht hn;go_wp2;go_ret2
   exact⟨y,.inl ⟨ty,H,vs,b,I.out,M.out,K.out,rfl,Z,bh⟩⟩
  have Y:((ty:Int) != typ)=false:=by simp[ht]
  have bi:(((vs.length:Nat):Int) != (n:Int))=true:=by rw[bne_iff_ne];omega
  have K:=zh hn;clear ht hn;go_wp2;go_quiet (fail)
  go_wp2;go_ret2
  refine⟨Jp y _,.inr ⟨fun bj bf bk h hh=>?_,rfl⟩⟩;rw[I.out]at h;simp at h;obtain⟨_,_,rfl⟩:=h;exact K.out hh.2
 have Y:((ty:Int) != typ)=true:=by rw[bne_iff_ne];exact ht
 have M:=zh ht;clear ht;go_wp2;go_quiet (fail)
 go_wp2;go_ret2
 refine⟨Jp y _,.inr ⟨fun bj bf bk h hh=>?_,rfl⟩⟩;rw[I.out]at h;simp at h;obtain⟨rfl,_,_⟩:=h;exact M.out hh.1
theorem Jto (s d:Nat)a(cap:Nat)l(typ:Int)(n:Nat)w F D(h:Zb w F d D)(bO:w.cell? ⟨s,0,none⟩=some (.pointer (some ⟨d,0,none⟩)))(hl:Uh w a (l.map nv))(bx:l≠[])(bH:l.length<=1000000)(M:∀ t,Uf D l=.inl t->t≠[]/\Kje t)a0 a1 a2(bE:Jf0 w a0 a1 a2)pg(bA:w.cell? ⟨8,0,none⟩=some (.iface 432 (.pointer (some pg)))):
  Calls prog 80 #[.pointer (some ⟨s,0,none⟩),.slice a l.length cap,.int .i64 typ,.int .i64 (n:Int)] w fun e w'=>Jl8 w pg (Us D l typ n) e w':=by
 have O:=Kag d a cap l w F D h hl bH pg bA fun t ht=>(M t ht).1;have hlen:0<l.length:=Oi9.2 bx;have bN:=run_neq_nil_nil (P:=prog);cases hr:Uf D l with
 |inr j=>
  have K:Hid (Us D l typ n=.inr j):=by show _=_;simp[Us,hr]
  rw[hr]at O;clear hr M;go_enter func80,ntmps80
  go_wp2_with (first|(go_at_call 114;refine O.mono ?_;rintro e bj ⟨y,b,rfl,Z,bf⟩))
  go_ret2
  rw[K.out];exact⟨y,b,rfl,Z,bf⟩
 |inl t=>
  have bP:=Jsc D l t hr;have hW:=(M t hr).2;rw[hr]at O;have bh:Hid (∀ W:World,Below w.heap.size w W->Calls prog 115 #[.string (Qw t),.int .i64 typ,.int .i64 (n:Int)] W fun e w'=>Below W.heap.size W w'/\((∃ ty I vs b,Jbf t=some (ty,I,vs)/\(ty:Int)=typ/\vs.length=n/\e=.returned (.tuple #[.slice (some ⟨b,0,none⟩) vs.length vs.length,.nilIface])/\W.heap.size<=b/\Kv w' b vs []) \/
   ((∀ ty I vs,Jbf t=some (ty,I,vs)->¬ ((ty:Int)=typ/\vs.length=n))/\e=.returned (.tuple #[.slice none 0 0,.iface 432 (.pointer (some a2))])))):=fun W hb=>Jqz t hW typ n W (by unfold maxLen;omega) a0 a1 a2 (bE.below hb)
  have bi:=zh hr;clear hW;rcases hl with hl|⟨b0,bJ,rfl,bM,hl⟩
  ·simp at hl;exact absurd hl bx
  have bk:w.cell? ⟨b0,bJ,none⟩=some (.int .i64 ((l.getD 0 0:Nat):Int)):=by
   have:=hl 0 _ (by simp[hlen];rfl);rw[Nat.add_zero]at this;rw[this];simp[hlen,nv]
  obtain⟨U,Y⟩:∃ U,Hid (l.getD 0 0=U):=⟨_,rfl⟩;rw[Y.out]at bk;clear hr M hl h;go_enter func80,ntmps80
  go_wp2_with (first|(go_at_call 114;refine O.mono ?_;rintro e bj ⟨y,rfl⟩)|(go_at_call 115;refine(bh.out bj y).mono ?_))
  rintro e bB ⟨br,⟨ty,I,vs,b,hp,ht,hn,rfl,Z,bG⟩|⟨bz,rfl⟩⟩
  ·have K:Hid (Us D l typ n=.inl vs):=by show _=_;simp only[Us,bi.out,hp];rw[if_pos ⟨ht,hn⟩]
   have H:=Jb y br;clear hp bh ht hn;go_wp2;go_ret2
   rw[K.out];exact⟨H,b,rfl,Ob2 y.size Z,bG⟩
  have K:Hid (Us D l typ n=.inr U):=by
   show _=_;simp only[Us,bi.out];cases hp:Jbf t with
   |none=>simp only;exact congrArg _ Y.out
   |some x=>
    obtain⟨ty,I,vs⟩:=x;simp only;rw[if_neg (bz ty I vs hp),Y.out]
  have H:=Jb y br;have bI:=Jfv (U:Int) bB pg (Ja H bA);have bL:=Ja H bk;clear bz bh;go_wp2_with (first|(go_at_call 116;refine bI.mono ?_;rintro e bK ⟨bC,b3,rfl,bD,bf⟩))
  go_ret2
  rw[K.out];exact⟨Jb H bC,b3,rfl,Ob2 H.size bD,bf⟩
end
open Go.RowKit Go.Shelf Tryz
attribute [local go_sem] Oc0
theorem Kiz {W y}(h:Below W.heap.size W y):KeepsOthers W y:=⟨h.size,fun k _ hk _=>(h.block k (Oe2.1 hk).1).trans hk⟩
theorem Kke a(len cap g:Nat)(y:1<=g)w:
  Calls prog 64 #[.slice a len cap,.int .i64 (g:Int)] w fun e w'=>e=.returned (.func (.func 89) #[] #[.pointer (some ⟨w.heap.size,0,none⟩),.pointer (some ⟨w.heap.size+1,0,none⟩)])/\w'=(w.alloc (.cells #[.slice a len cap] 23)).alloc (.cells #[.int .i64 (g:Int)] 3):=by
 have H:∀ (fn:Fn) (first cap:Array Value) (w:World),(Instr.makeFunc fn first cap).run prog w=.ok (.func fn first cap) w:=fun _ _ _ _=>rfl;go_enter func64,ntmps64
 go_wp2;go_ret
 exact⟨rfl,rfl⟩
theorem Kj8 (n:Nat)(l y H:Nat)a(cap:Nat)(J:World->Prop)W(K:W.cell? ⟨y,0,none⟩=some (.slice a 0 cap))(h0:J W):
  CallsIn Fence.wide n prog 89 #[.func (.yield l) #[] #[],.pointer (some ⟨y,0,none⟩),.pointer (some ⟨H,0,none⟩)] W fun e I=>(∃ v,e=.returned v)/\J I:=by
 refine callsIn_of_wp func89 rfl trivial ?_ rfl;simp only[ntmps89,Om3,List.length_cons,List.length_nil,Nat.reduceAdd,Nat.reduceSub,Ok9,Array.replicate_zero,Om4,Ol2,List.nil_append,List.cons_append];gi_wp2
 gi_loopw [4] (fun i wr=>i=.int .i64 0/\J wr/\wr.cell? ⟨y,0,none⟩=some (.slice a 0 cap)) (fun _ _=>0)
 case atStart=>exact⟨rfl,h0,K⟩
 case round=>
  obtain⟨rfl,M,O⟩:=hrel;gi_wp2
  go_end0
  exact⟨⟨_,rfl⟩,M⟩
def ckV (a:Option Addr)(x:Nat×Nat):Value:=match a with
 |some p=>.slice (some ⟨p.block,p.off+x.1,none⟩) x.2 x.2
 |none=>.slice none 0 0
theorem Kjw n(hn:1<=n)H y a len cap g(bk:1<=g)(br:g<=64)(hlen:len<=1000)(bi:len<=cap)(bB:len=0\/∃ b o,a=some ⟨b,o,none⟩)w(bA:H<w.heap.size)(bz:y<w.heap.size)(Y:w.cell? ⟨H,0,none⟩=some (.slice a len cap))(O:w.cell? ⟨y,0,none⟩=some (.int .i64 (g:Int))):
  SeqStopsK Fence.wide n prog 89 #[.pointer (some ⟨H,0,none⟩),.pointer (some ⟨y,0,none⟩)] (fun x:Ck len=>#[ckV a x.1]) (KpC H y) (fun bD=>bD.map Subtype.val=cks len g (ckN len g)) (fun bC=>∃ k,k<=ckN len g/\bC.map Subtype.val=cks len g k) (ckN len g) w:=fun l J M W hW Z _ bh h0=>by
 have K:=(hW.cell (p:=⟨H,0,none⟩) bA).trans Y;have U:=(hW.cell (p:=⟨y,0,none⟩) bz).trans O;have bf:∀ s W,J s W->J s W.drew:=fun s I h=>Z s I I.drew none h ⟨rfl,rfl,rfl,Oa2 _,fun _ _ _=>rfl⟩ (fun r e=>by cases e);rcases bB with h|⟨b,o,rfl⟩
 ·subst h;refine(Kj8 n l H y a cap (J []) W K h0).mono fun e I ⟨bj,bx⟩=>⟨bj,.inl ⟨[],?_,bx⟩⟩;have:ckN 0 g=0:=by unfold ckN;exact Op6 zo
  rw[this];rfl
 exact Kkd n hn l H y b o len cap g bk br hlen bi J M bh bf W K U h0
def Uo (rows:List (List V))(ts hs:List Int)(c:Nat):List UInt8×Int:=Jev (ts.getD c 0) (hs.getD c 0) (Jaj rows c)
def Jeo (rows:List (List V))(ts hs:List Int):Nat->List (List UInt8)⊕Nat
 |0=>.inl []
 |k+1=>match Jeo rows ts hs k with
  |.inr c=>.inr c
  |.inl l=>if (Uo rows ts hs k).2=0 then .inl (l++[(Uo rows ts hs k).1])else .inr k
theorem Jjc rows ts hs:∀ (k:Nat) (l:List (List UInt8)),Jeo rows ts hs k=.inl l->l.length=k
 |0,l,h=>by simp[Jeo]at h;subst h;rfl
 |k+1,l,h=>by
  simp only[Jeo]at h;split at h
  ·simp at h
  rename_i H y
  split at h
  ·simp at h;subst h;simp[Jjc rows ts hs k H y]
  simp at h
theorem Kkc rows ts hs c:∀ (k m:Nat),Jeo rows ts hs k=.inr c->k<=m->Jeo rows ts hs m=.inr c:=by
 intro k m h H;induction m with
 |zero=>
      have:k=0:=zo;subst this;exact h
 |succ m y=>
  by_cases e:k=m+1
  ·subst e;exact h
  simp only[Jeo,y zo]
def Uk (rs:List (List V))(x:Nat×Nat):List (List V):=(rs.drop x.1).take x.2
def Jiu (rs:List (List V))(ts hs:List Int)(y:List (List UInt8)⊕Nat)(x:Nat×Nat):List (List UInt8)⊕Nat:=
 match y with
 |.inr c=>.inr c
 |.inl T=>match Jeo (Uk rs x) ts hs ts.length with
  |.inl l=>.inl (T++l)
  |.inr c=>.inr c
def Jfg (rs:List (List V))(ts hs:List Int)(xs:List (Nat×Nat)):List (List UInt8)⊕Nat:=xs.foldl (Jiu rs ts hs) (.inl [])
theorem Juv rs ts hs xs x:Jfg rs ts hs (xs++[x])=Jiu rs ts hs (Jfg rs ts hs xs) x:=by simp[Jfg]
theorem Kkl rs ts hs xs y c(h:Jfg rs ts hs xs=.inr c):Jfg rs ts hs (xs++y)=.inr c:=by
 have key:∀ y:List (Nat×Nat),y.foldl (Jiu rs ts hs) (.inr c)=.inr c:=by
  intro y;induction y with
  |nil=>rfl
  |cons I y H=>exact H
 unfold Jfg at h |-;rw[Ol1,h,key]
theorem Jvd len g k m(h:k<=m):∃ y,cks len g m=cks len g k++y:=by
 obtain⟨d,rfl⟩:=Nat.exists_eq_add_of_le h;exact⟨(List.range d).map (fun i=>Jaa len g (k+i)),by simp[cks,List.range_add]⟩
theorem Zd.piece {w a hs rs}(h:Zd w a hs rs)(x:Ck rs.length):∃ I K,ckV a x.1=.slice I (Uk rs x.1).length x.1.2/\Zd w I K (Uk rs x.1):=by
 obtain⟨⟨o,m⟩,M,O,U⟩:=x;simp only at M O U;have hl:(Uk rs (o,m)).length=m:=by unfold Uk;simp;omega
 rcases h.cells with H|⟨b,ob,rfl,hb,H⟩
 ·have:=congrArg List.length H;simp[h.len]at this;have:=Od3.2 this;omega
 refine⟨some ⟨b,ob+o,none⟩,(hs.drop o).take m,by simp[ckV,hl],⟨by simp[Uk,h.len],.inr ⟨b,ob+o,rfl,hb,fun i v hv=>?_⟩,fun i Y r hy hr=>?_⟩⟩
 ·have hi:i<m:=by
   rcases Oc1 i m with y|y
   ·exact y
   ·rw[Ob4 (by simp[Uk];omega)]at hv;simp at hv
  rw[On5];refine H (o+i) v ?_;rw[Ok5]at hv |-;simp only[Uk,Oh3 hi,Oh9]at hv;exact hv
 have hi:i<m:=by
  rcases Oc1 i m with y|y
  ·exact y
  ·rw[Ob4 (by simp[Uk];omega)]at hr;simp at hr
 simp only[Uk,Oh3 hi,Oh9]at hy hr;exact h.rows (o+i) Y r hy hr
