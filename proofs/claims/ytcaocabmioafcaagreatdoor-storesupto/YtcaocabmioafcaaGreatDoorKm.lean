/- A store's calls that tell: Tables, Used, Scan. -/
import Derived.Test.YtcaocabmioafcaaGreatDoorTo
import Derived.Test.YtcaocabmioafcaaGreatDoorKk
import Derived.Test.YtcaocabmioafcaaGreatDoorKa
import Derived.Test.YtcaocabmioafcaaGreatDoorDb
import Derived.Test.YtcaocabmioafcaaGreatDoorKe
import Derived.Test.YtcaocabmioafcaaGreatDoorEw
import Derived.Deep.RegionHeld3
set_option maxHeartbeats 2000000
set_option maxRecDepth 100000
namespace Go.Proofs.YtcaocabmioafcaaGreatDoor
section
open Go.RowKit Go.Shelf Tryz
def Jdu (w:World)(st d s:Nat):Prop:=w.heap[st]?=some (.cells #[.pointer (some ⟨d,0,none⟩),.pointer (some ⟨s,0,none⟩)] 102 (0,0))
theorem Jdu.field {w:World}{st d s:Nat}(h:Jdu w st d s):w.cell? ⟨st,0,none⟩=some (.pointer (some ⟨d,0,none⟩))∧w.cell? ⟨st,1,none⟩=some (.pointer (some ⟨s,0,none⟩)):=by
 unfold Jdu at h
 simp[World.cell?,h]
theorem Kx4 (st:Nat)(w:World)(F:Nat→Prop)(s d:Nat)(A:List TS)(sv:Value)(bs:List Nat)(H:Jdu w st d s)(h:Jfl w F s d A sv bs) :
  Calls prog 15 #[.pointer (some ⟨st,0,none⟩)] w fun e w'=>e=.returned (.slice (some ⟨w.heap.size,0,none⟩) A.length A.length)∧w'.rowIs w.heap.size 9 A.length (Kty A)∧Below w.heap.size w w':=by
 obtain⟨_,c1⟩:=H.field
 have J:=Kyc w F s d A sv bs h
 clear h H
 go_enter func15,ntmps15
 go_wp2_with (go_at_call 45;refine J.mono ?_;rintro e L ⟨rfl,K,I⟩)
 go_ret
 exact⟨rfl,K,I⟩
theorem Qar (st:Nat)(w:World)(F:Nat→Prop)(s d:Nat)(D:DS)(H:Jdu w st d s)(A:Zb w F d D) :
  Calls prog 19 #[.pointer (some ⟨st,0,none⟩)] w fun e w'=>e=.returned (.int .i64 ((Js D.pages:Nat):Int))∧w'=w:=by
 obtain⟨c0,_⟩:=H.field
 have I:=Kzv d w F D A
 clear A H
 go_enter func19,ntmps19
 go_wp2_with (go_at_call 46;refine I.mono ?_;rintro e J ⟨rfl,rfl⟩)
 go_ret
 exact⟨rfl,rfl⟩
def Jr7 (w:World)(r:Option (List (List V)⊕Nat))(e:Ending)(w':World):Prop:=
 Below w.heap.size w w'∧match r with
  |none=>e=.returned (.tuple #[.slice none 0 0,Jbz 4 (-1) (-1)])
  |some (.inl rs)=>∃ g bs,e=.returned (.tuple #[.slice (some ⟨g,0,none⟩) rs.length rs.length,fault 0])∧Jcu w' w.heap.size g bs rs
  |some (.inr j)=>e=.returned (.tuple #[.slice none 0 0,Jbz 7 (-1) (j:Int)])
theorem Jhu (M v:Value)(c nd row A pg:Int)(w:World)(L:∃ ty x,v=.iface ty x)(hF:∀ W,Below w.heap.size w W→Calls prog 39 #[v] W fun e w'=>e=.returned (Ko c nd row A pg)∧Below W.heap.size W w') :
  Calls prog 77 #[M,v] w fun e w'=>e=.returned (.tuple #[.slice none 0 0,Ko c nd row A pg])∧Below w.heap.size w w':=by
 obtain⟨ty,x,rfl⟩:=L
 have H:Below w.heap.size w (w.alloc (.cells #[.int .i64 0,.int .i64 0,.int .i64 0,.int .i64 0,.int .i64 0] 68)):=(Oa5 _ _).alloc (Oa2 _) _
 have J:=hF _ H
 clear hF
 go_enter func77,ntmps77
 go_wp2_with fail
 refine J.mono ?_
 rintro e O ⟨rfl,I⟩
 obtain⟨k1,N⟩:=Kx I
 have K:=Jb H I
 go_wp2
 exact bodyPost_ret (v:=.tuple #[.slice none 0 0,Ko c nd row A pg]) (by simp[results,results77,go_sem,k1]) rfl ⟨rfl,Um K (Oa2 _) _ _ _ _ _⟩
theorem Jz3 (g:Nat)(Y:List Value)(cs:List (List V))(n:Nat)(B:Nat)(w:World)(O:Jar w B g Y cs)(bf:∀ i,i<cs.length→(cs.getD i []).length=n)(Z:1≤cs.length)(ba:cs.length≤1000)(bj:n≤10000) :
  Calls prog 77 #[.slice (some ⟨g,0,none⟩) cs.length cs.length,.nilIface] w fun e w'=>Below w.heap.size w w'∧∃ N bs,e=.returned (.tuple #[.slice (some ⟨N,0,none⟩) n n,fault 0])∧Jcu w' w.heap.size N bs (Qf n cs):=by
 have R:Below w.heap.size w (w.alloc (.cells #[.int .i64 0,.int .i64 0,.int .i64 0,.int .i64 0,.int .i64 0] 68)):=(Oa5 _ _).alloc (Oa2 _) _
 have bl:=run_neq_nil_nil (P:=prog)
 have H:=O.below R
 have X:=Jo4 g cs.length Y cs n _ (Qbw H.row) H.len (fun i hi=>(H.own i hi).vals) bf Z ba bj
 clear O H
 go_enter func77,ntmps77
 go_wp2_with fail
 refine X.mono ?_
 rintro e w1 ⟨rfl,⟨K,bi⟩,U⟩
 clear X
 go_wp2_with fail
 refine(Jjq w1).mono ?_
 rintro e br ⟨rfl,L⟩
 have bb:=Jb R U
 obtain⟨k1,bn⟩:=Kx (Jb U L)
 have bc:=Jb bb L
 have M:=bi.below L
 rw[Oa7]at M
 have bh:=M.from_
 have low:∀ J:World,Jcu J (w.heap.size+1) (w.heap.size+1) K (Qf n cs)→Jcu J w.heap.size (w.heap.size+1) K (Qf n cs):=fun J A=>⟨A.len,A.outer,A.rows,⟨by have:=A.from_.1;omega,fun b I=>⟨by have:=(A.from_.2 b I).1;omega,(A.from_.2 b I).2⟩⟩,A.nodup⟩
 go_wp2
 refine bodyPost_ret (v:=.tuple #[.slice (some ⟨w.heap.size+1,0,none⟩) n n,fault 0]) (by simp[results,results77,go_sem,k1]) rfl ⟨Um bc (Oa2 _) _ _ _ _ _,?_⟩
 refine⟨w.heap.size+1,K,rfl,?_⟩
 refine low _ (M.of_blocks ?_ (fun b I=>?_))
 ·rw[Oa4 _ _ _ _ (by show w.heap.size+1≠w.heap.size;omega),Oa4 _ _ _ _ (by show w.heap.size+1≠w.heap.size;omega),Oa4 _ _ _ _ (by show w.heap.size+1≠w.heap.size;omega),Oa4 _ _ _ _ (by show w.heap.size+1≠w.heap.size;omega),Oa4 _ _ _ _ (by show w.heap.size+1≠w.heap.size;omega)]
 have bk:=(bh.2 b I).1
 rw[Oa4 _ _ _ _ (by show b≠w.heap.size;omega),Oa4 _ _ _ _ (by show b≠w.heap.size;omega),Oa4 _ _ _ _ (by show b≠w.heap.size;omega),Oa4 _ _ _ _ (by show b≠w.heap.size;omega),Oa4 _ _ _ _ (by show b≠w.heap.size;omega)]
theorem Kej (st:Nat)(n:ByteArray)(w:World)(F G:Nat→Prop)(s d:Nat)(D:DS)(H:List TS)(sv:Value)(bs:List Nat)(bD:Jdu w st d s)(h:Jfl w G s d H sv bs)(bx:Zb w F d D)(bn:∀ T∈H,Jid D T)(X Y Z et q wr pg:Addr)(bl:Jf0 w X Y Z)(O:Jkn w X Y Z et q wr pg) :
  Calls prog 47 #[.pointer (some ⟨st,0,none⟩),.string n] w fun e w'=>Jr7 w (Jf8 D H n) e w':=by
 have M:Below w.heap.size w (w.alloc (.cells #[.int .i64 0,.int .i64 0,.int .i64 0,.int .i64 0,.int .i64 0] 68)):=(Oa5 _ _).alloc (Oa2 _) _
 have c1:=Ja M bD.field.2
 have bC:=Jou n _ F G s d D H sv bs (h.below M) (bx.below M) bn X Y Z (bl.below M) et pg (O.below M).cp (O.below M).ct
 obtain⟨_,_,_,bL,_,_,bM⟩:=Jim O
 have bJ:=Keq D H n bn
 clear h bx bn bD
 go_enter func47,ntmps47
 go_wp2_with fail
 refine bC.mono ?_
 clear bC
 rintro e w1 ⟨ba,R⟩
 have bb:=Jb M ba
 rcases bJ with⟨J,K⟩|⟨j,J,K⟩|⟨cs,m,J,K,bQ,bI,bO,br⟩
 ·rw[J]at R
  simp only at R
  subst R
  have U:Hid (Jf8 D H n=none):=K
  have bf:∀ W,Below w1.heap.size w1 W→Calls prog 39 #[.iface 528 (.pointer (some et))] W fun e w'=>e=.returned (Ko 4 (-1) (-1) (-1) (-1))∧Below W.heap.size W w':=fun W hW=>by
   have N:=Jb bb hW
   have:=Jj9 _ et none none W (.root et) (Kg N O.bt) X Y Z et q wr pg (by simp) (bl.below N) (O.below N)
   rw[bL]at this
   exact this
  have bh:=Jhu (.slice none 0 0) _ 4 (-1) (-1) (-1) (-1) w1 ⟨_,_,rfl⟩ bf
  clear J K bf
  go_wp2_with fail
  refine bh.mono ?_
  rintro e bG ⟨rfl,I⟩
  obtain⟨k1,bE⟩:=Kx (Jb ba I)
  have bc:=Jb bb I
  go_wp2
  exact bodyPost_ret (v:=.tuple #[.slice none 0 0,Jbz 4 (-1) (-1)]) (by simp[results,results47,go_sem,k1]) rfl ⟨Um bc (Oa2 _) _ _ _ _ _,by rw[U.out]⟩
 ·rw[J]at R
  obtain⟨b,rfl,bH,bu⟩:=R
  have U:Hid (Jf8 D H n=some (.inr j)):=K
  have bf:∀ W,Below w1.heap.size w1 W→Calls prog 39 #[.iface 187 (.pointer (some ⟨b,0,none⟩))] W fun e w'=>e=.returned (Ko 7 (-1) (-1) (-1) (j:Int))∧Below W.heap.size W w':=fun W hW=>by
   have N:=Jb bb hW
   have:=Jj9 _ pg (some (-1)) (some (j:Int)) W (bu.below hW) (Kg N O.bp) X Y Z et q wr pg (by simp) (bl.below N) (O.below N)
   rw[bM]at this
   exact this
  have bh:=Jhu (.slice none 0 0) _ 7 (-1) (-1) (-1) (j:Int) w1 ⟨_,_,rfl⟩ bf
  clear J K bf bu
  go_wp2_with fail
  refine bh.mono ?_
  rintro e bG ⟨rfl,I⟩
  obtain⟨k1,bE⟩:=Kx (Jb ba I)
  have bc:=Jb bb I
  go_wp2
  exact bodyPost_ret (v:=.tuple #[.slice none 0 0,Jbz 7 (-1) (j:Int)]) (by simp[results,results47,go_sem,k1]) rfl ⟨Um bc (Oa2 _) _ _ _ _ _,by rw[U.out]⟩
 rw[J]at R
 obtain⟨g,bN,rfl,bA⟩:=R
 have U:Hid (Jf8 D H n=some (.inl (Qf m cs))):=K
 have bh:=Jz3 g bN cs m _ w1 bA br bI (by omega) (by omega)
 clear J K br bA
 go_wp2_with fail
 refine bh.mono ?_
 rintro e bG ⟨I,A,bk,rfl,bB⟩
 obtain⟨k1,bE⟩:=Kx (Jb ba I)
 have bc:=Jb bb I
 have bz:=bB.from_
 have bK:=ba.size
 rw[Oa7]at bK
 have low:∀ bj:World,Jcu bj w1.heap.size A bk (Qf m cs)→Jcu bj w.heap.size A bk (Qf m cs):=fun bj L=>⟨L.len,L.outer,L.rows,⟨by have:=L.from_.1;omega,fun b bi=>⟨by have:=(L.from_.2 b bi).1;omega,(L.from_.2 b bi).2⟩⟩,L.nodup⟩
 go_wp2
 refine bodyPost_ret (v:=.tuple #[.slice (some ⟨A,0,none⟩) m m,fault 0]) (by simp[results,results47,go_sem,k1]) rfl ⟨Um bc (Oa2 _) _ _ _ _ _,?_⟩
 rw[U.out]
 refine⟨A,bk,by rw[Uu],?_⟩
 refine low _ (bB.of_blocks ?_ (fun b bi=>?_))
 ·have bP:=bz.1
  rw[Oa4 _ _ _ _ (by show A≠w.heap.size;omega),Oa4 _ _ _ _ (by show A≠w.heap.size;omega),Oa4 _ _ _ _ (by show A≠w.heap.size;omega),Oa4 _ _ _ _ (by show A≠w.heap.size;omega),Oa4 _ _ _ _ (by show A≠w.heap.size;omega)]
 have bH:=(bz.2 b bi).1
 rw[Oa4 _ _ _ _ (by show b≠w.heap.size;omega),Oa4 _ _ _ _ (by show b≠w.heap.size;omega),Oa4 _ _ _ _ (by show b≠w.heap.size;omega),Oa4 _ _ _ _ (by show b≠w.heap.size;omega),Oa4 _ _ _ _ (by show b≠w.heap.size;omega)]
end
section
open Go.RowKit Go.Shelf Tryz
def Kzw (w:World)(F G:Nat→Prop)(s d:Nat)(D:DS)(A:List TS)(sv:Value)(bs:List Nat)(n:ByteArray)(e:Ending)(w':World):Prop:=
 Ju (fun k=>F k∨Jnr s sv k) w w'∧match A[Ub A n]? with
  |none=>e=.returned (Jbz 4 (-1) (-1))∧Below w.heap.size w w'
  |some T=>e=.returned (fault 0)∧Zb w' F d (Jcg D T.segs)∧∃ sv',sv'.ownBlock=sv.ownBlock∧Jfl w' G s d (A.eraseIdx (Ub A n)) sv' (bs.eraseIdx (Ub A n))
theorem Zh (W:World)(B:Nat)(A H I J K:Value)(k:Nat)(hk:k≠B):(((((W.setCell ⟨B,0,none⟩ A).setCell ⟨B,1,none⟩ H).setCell ⟨B,2,none⟩ I).setCell ⟨B,3,none⟩ J).setCell ⟨B,4,none⟩ K).heap[k]?=W.heap[k]?:=by
 rw[Oa4 _ _ _ _ hk,Oa4 _ _ _ _ hk,Oa4 _ _ _ _ hk,Oa4 _ _ _ _ hk,Oa4 _ _ _ _ hk]
theorem Jg2 (W:World)(B:Nat)(A H I J K:Value):(((((W.setCell ⟨B,0,none⟩ A).setCell ⟨B,1,none⟩ H).setCell ⟨B,2,none⟩ I).setCell ⟨B,3,none⟩ J).setCell ⟨B,4,none⟩ K).heap.size=W.heap.size:=by simp[World.setCell]
theorem Qaj (st:Nat)(n:ByteArray)(w:World)(F G:Nat→Prop)(s d:Nat)(D:DS)(A:List TS)(sv:Value)(bs:List Nat)(bk:Jdu w st d s)(h:Jfl w G s d A sv bs)(bh:Zb w F d D)(bx:∀ k,G k→¬ F k)(bK:¬ F s)(bI:∀ g,sv.ownBlock=some g→¬ F g)(bb:∀ k,F k∨G k→k<w.heap.size)(bj:∀ T∈A,T.segs.length≤1000000∧∀ l∈T.segs,l.length≤1000000)(X Y Z et q wr pg:Addr)(bG:Jf0 w X Y Z)(N:Jkn w X Y Z et q wr pg) :
  Calls prog 13 #[.pointer (some ⟨st,0,none⟩),.string n] w fun e w'=>Kzw w F G s d D A sv bs n e w':=by
 have I:Below w.heap.size w (w.alloc (.cells #[.int .i64 0,.int .i64 0,.int .i64 0,.int .i64 0,.int .i64 0] 68)):=(Oa5 _ _).alloc (Oa2 _) _
 have c1:=Ja I bk.field.2
 have O:=Kz0 n _ F G s d D A sv bs (h.below I) (bh.below I) bx bK bI bj et (N.below I).ct
 obtain⟨_,_,_,bM,_,_,bT⟩:=Jim N
 have bS:=Jd h.cells
 have bn:∀ g,sv.ownBlock=some g→g<w.heap.size:=fun g bH=>Qk h.own bH
 clear h bh bj bk
 go_enter func13,ntmps13
 go_wp2_with fail
 refine O.mono ?_
 clear O
 rintro e w1 ⟨M,R⟩
 cases hr:A[Ub A n]? with
 |none=>
  rw[hr]at R
  obtain⟨rfl,bc⟩:=R
  have U:Hid (A[Ub A n]?=none):=hr
  clear hr M
  have L:=Jb I bc
  go_wp2_with fail
  have bi:=Jj9 _ et none none w1 (.root et) (Kg L N.bt) X Y Z et q wr pg (by simp) (bG.below L) (N.below L)
  rw[bM]at bi
  refine bi.mono ?_
  rintro e K ⟨rfl,H⟩
  obtain⟨k1,bL⟩:=Kx (Jb bc H)
  have bC:=Jb L H
  go_wp2
  have bf:=fun bN bO bP bQ bR=>Um bC (Oa2 _) bN bO bP bQ bR
  exact bodyPost_ret (v:=Jbz 4 (-1) (-1)) (by simp[results,results13,go_sem,k1]) rfl ⟨.of_below (bf _ _ _ _ _),by rw[U.out];exact⟨rfl,bf _ _ _ _ _⟩⟩
 |some T=>
  rw[hr]at R
  obtain⟨rfl,bD,sv',bl,bA⟩:=R
  have U:Hid (A[Ub A n]?=some T):=hr
  clear hr
  go_wp2_with fail
  refine(Jjq w1).mono ?_
  rintro e K ⟨rfl,H⟩
  have bJ:¬ (F w.heap.size∨Jnr s sv w.heap.size):=by
   rintro(hF|hF|hF)
   ·have:=bb _ (.inl hF);omega
   ·omega
   have:=bn _ hF;omega
  have ba:K.heap[w.heap.size]?=(w.alloc (.cells #[.int .i64 0,.int .i64 0,.int .i64 0,.int .i64 0,.int .i64 0] 68)).heap[w.heap.size]?:=by
   have br:=M.block w.heap.size (by simp) bJ
   have bu:=M.size
   rw[Oa7]at bu
   exact(H.block _ (by omega)).trans br
  have k1:∀ o,K.cell? ⟨w.heap.size,o,none⟩=(w.alloc (.cells #[.int .i64 0,.int .i64 0,.int .i64 0,.int .i64 0,.int .i64 0] 68)).cell? ⟨w.heap.size,o,none⟩:=fun o=>Oc3 (a:=⟨w.heap.size,o,none⟩) ba
  have bL:∀ o,K.frozen? ⟨w.heap.size,o,none⟩=(w.alloc (.cells #[.int .i64 0,.int .i64 0,.int .i64 0,.int .i64 0,.int .i64 0] 68)).frozen? ⟨w.heap.size,o,none⟩:=fun o=>Ol7 (a:=⟨w.heap.size,o,none⟩) ba
  have bE:=bD.below H
  have bB:=bA.below H
  have J:Ju (fun k=>F k∨Jnr s sv k) w K:=(Ju.of_below I).trans (M.trans (Ju.of_below H))
  clear ba
  go_wp2
  refine bodyPost_ret (v:=fault 0) (by simp[results,results13,go_sem,k1]) rfl ⟨⟨J.os,J.tape,J.output,by rw[Jg2];exact J.size,fun k hk O=>(Zh _ _ _ _ _ _ _ k (by omega)).trans (J.block k hk O)⟩,?_⟩
  rw[U.out]
  refine⟨rfl,bE.stands fun k hF _=>Zh _ _ _ _ _ _ _ k (by have:=bb k (.inl hF);omega),sv',bl,bB.stands (by rw[Jg2];exact Oa2 _) fun k hk _=>Zh _ _ _ _ _ _ _ k ?_⟩
  rcases hk with bz|hk|hk
  ·have:=bb k (.inr bz);omega
  ·omega
  rw[bl]at hk
  have:=bn k hk
  omega
end
section
open Go.RowKit
theorem Jhi (x rest:List UInt8):Jat x.length (x++rest)=some (x,rest):=by
 unfold Jat
 rw[if_pos (by simp)]
 simp
def Jg (n:Int):Prop:=-9223372036854775808≤n∧n≤9223372036854775807
theorem Ka1 (u:Nat):∀ k,Jeh ((List.range k).map fun i=>UInt8.ofNat (u / 256 ^ i % 256))=u % 256 ^ k:=by
 intro k
 induction k with
 |zero=>simp[Jeh,Nat.mod_one]
 |succ k A=>
  rw[Oj7,Ob8,Oe4,Oi4,Jlf,A]
  have H:u / 256 ^ k % 256<256:=Ol0 _ (by decide)
  have e:(UInt8.ofNat (u / 256 ^ k % 256)).toNat=u / 256 ^ k % 256:=by
   simp
  rw[e,Oa6,List.length_range,Nat.mod_pow_succ,Nat.mul_comm]
theorem Jza (u:Nat)(h:u<18446744073709551616):Jeh (le8 u)=u:=by
 unfold le8
 rw[Ka1]
 have A:256 ^ 8=18446744073709551616:=by decide
 exact Oi5 (by omega)
theorem Jsf (n:Int)(h:Jg n):wrap64 ((u64 n:Nat):Int)=n:=by
 unfold Jg at h
 unfold wrap64 u64
 omega
theorem Jh5 (n:Int)(rest:List UInt8)(h:Jg n):Jc7 (le8 (u64 n)++rest)=some (n,rest):=by
 have e:=Jhi (le8 (u64 n)) rest
 rw[Jc4]at e
 unfold Jc7
 rw[e]
 simp only
 rw[Jza _ (Jp3 n),Jsf n h]
theorem Jgf (n:Nat)(h:n<256):(low (n:Int)).toNat=n:=by
 unfold low
 have e:((n:Int) % 256).toNat=n:=by omega
 rw[e]
 simp
 omega
theorem Je8 (n:Nat)(rest:List UInt8)(h:n<256):Ur (low (n:Int)::rest)=some (n,rest):=by
 simp[Ur,Jgf n h]
def okT (t:Int)(v:V):Prop:=v.k=t∧okK v.k v.n v.s=true∧Jg v.n
theorem Jit (s:ByteArray)(h:s.toList.isEmpty=true):s=Qw []:=by
 rw[List.isEmpty_iff]at h
 rw[←Zf s,h]
theorem Jj3 (t:Int)(v:V)(rest:List UInt8)(h:okT t v):Qz t (enc v.k v.n v.s++rest)=some (v,rest):=by
 obtain⟨hk,A,I⟩:=h
 obtain⟨k,n,s⟩:=v
 simp only at hk A I
 subst hk
 unfold okK at A
 simp only[decide_eq_true_eq]at A
 rcases A with⟨rfl,hs⟩|⟨rfl,K,hs⟩|⟨rfl,rfl,hs⟩
 ·have:=Jit s hs
  subst this
  have e:enc 1 n (Qw [])=le8 (u64 n):=rfl
  unfold Qz
  rw[if_pos rfl]
  simp only[e,Jh5 n rest I]
  rfl
 ·have:=Jit s hs
  subst this
  have e:enc 2 n (Qw [])=[low n]:=rfl
  unfold Qz
  rw[if_neg (by decide),if_pos rfl]
  simp only[e]
  rcases K with rfl|rfl
  ·rfl
  rfl
 have e:enc 3 0 s=low (s.size:Nat)::s.toList:=rfl
 have J:s.toList.length=s.size:=by rw[Og4,Array.length_toList];rfl
 unfold Qz
 rw[if_neg (by decide),if_neg (by decide)]
 simp only[e]
 have H:=Jhi s.toList rest
 rw[J]at H
 unfold Jne
 rw[List.cons_append,Je8 _ _ (by omega)]
 simp only[H,Option.map_some,Zf]
theorem Jmy (t:Int):∀ (vs:List V) (rest:List UInt8),(∀ v∈vs,okT t v)→Yl t vs.length (Yv vs++rest)=some (vs,rest):=by
 intro vs
 have N:∀ (n:Nat) (vs:List V) (rest:List UInt8),vs.length=n→(∀ v∈vs,okT t v)→Yl t n (Yv vs++rest)=some (vs,rest):=by
  intro n
  induction n with
  |zero=>intro vs rest H _;rw[Od3]at H;subst H;rfl
  |succ n M=>
   intro vs rest H I
   obtain⟨A,v,rfl⟩:∃ A v,vs=A++[v]:=⟨vs.dropLast,vs.getLast (by intro e;simp[e]at H),(List.dropLast_concat_getLast _).symm⟩
   have L:A.length=n:=by simpa using H
   have J:=M A (enc v.k v.n v.s++rest) L fun u K=>I u (by simp[K])
   have e:Yv (A++[v])++rest=Yv A++(enc v.k v.n v.s++rest):=by rw[Jjz,Od8]
   rw[e,Yl,J]
   simp only
   rw[Jj3 t v rest (I v (by simp))]
   rfl
 intro rest I
 exact N vs.length vs rest rfl I
theorem Jwf (A:List Bool)(j:Nat)(K:j<A.length):Jn6 (Kk A) j=A.getD j false:=by
 have I:j / 8<(A.length+7) / 8:=by omega
 have e:((Kk A).getD (j / 8) 0).toNat=Jag A (j / 8):=by
  have J:=Ji4 A (j / 8)
  simp[Kk,I]
  omega
 unfold Jn6
 rw[e,Yx]
 have H:8*(j / 8)+j % 8=j:=by omega
 rw[H]
 have:j % 8<8:=Ol0 _ (by decide)
 simp[this]
theorem Kbi (x:List UInt8)(i n:Nat):∀ b,(∀ k,k<b→Jn6 x (i+k)=n.testBit k)→Zc x i b=n % 2 ^ b:=by
 intro b
 induction b with
 |zero=>intro _;simp[Zc,Nat.mod_one]
 |succ b A=>
  intro h
  rw[Zc,A fun k hk=>h k (by omega),h b (by omega),Nat.mod_pow_succ,On1]
  have H:n / 2 ^ b % 2<2:=Ol0 _ (by decide)
  generalize n / 2 ^ b % 2=m at *
  have:m=0∨m=1:=by omega
  rcases this with rfl|rfl<;>simp
theorem Jct (A:Nat)(H:List Nat)(rest:List UInt8)(h:∀ n∈H,n<2 ^ A):Yj A H.length (Kk (Ue A H)++rest)=some (H,rest):=by
 have e:=Jhi (Kk (Ue A H)) rest
 rw[Qb,Jal]at e
 unfold Yj
 rw[e]
 simp only[Oc9,Oj3,and_true]
 apply Oh4
 ·simp
 intro i N K
 have hi:i<H.length:=K
 rw[Od9,List.getElem_range]
 have L:Zc (Kk (Ue A H)) (A*i) A=H[i] % 2 ^ A:=by
  apply Kbi
  intro k hk
  have J:=Jms A H i k hi hk
  have M:A*i+k<(Ue A H).length:=by
   rcases Oc1 (A*i+k) (Ue A H).length with I|I
   ·exact I
   rw[Ob4 I]at J;simp at J
  rw[Jwf _ _ M,Oa0,J]
  rfl
 rw[L,Oi5 (h _ (Ob3 hi))]
theorem Jt2 (d:List V)(v:V)(h:v∈d):d.getD (Qc d v) Jf=v:=by
 induction d with
 |nil=>simp at h
 |cons u d H=>
  by_cases e:u.beq v=true
  ·have:=(V.beq_iff u v).1 e
   subst this
   simp only[Qc,e,if_true]
   rfl
  have A:u≠v:=(V.beq_false u v).1 (by simpa using e)
  have:v∈d:=by rcases Of1.1 h with rfl|h;exact absurd rfl A;exact h
  simp only[Qc,e,Ol9,if_false]
  rw[List.getD_cons_succ]
  exact H this
theorem Jwb (t:Int)(xs:List V)(rest:List UInt8)(M:∀ v∈xs,okT t v)(N:(Ym [] xs).length≤16):Jdd t xs.length (Jds xs++rest)=some (xs,rest):=by
 have L:∀ v∈Ym [] xs,v∈xs:=fun v A=>by
  rcases Jlj xs [] v A with h|h
  ·simp at h
  exact h
 have J:∀ v∈xs,v∈Ym [] xs:=fun v A=>Jr9 xs [] v A
 unfold Jds Jdd
 generalize Ym [] xs=d at *
 rw[List.cons_append,List.cons_append,Je8 _ _ (by omega)]
 simp only
 rw[Od8,Jmy t d _ fun v A=>M v (L v A)]
 simp only
 have K:∀ n∈xs.map (Qc d),n<d.length:=by
  intro n H
  obtain⟨v,A,rfl⟩:=Of0.1 H
  exact Jfh d v (J v A)
 have I:=Jct 4 (xs.map (Qc d)) rest fun n H=>by have:=K n H;omega
 rw[Oa6]at I
 rw[I]
 simp only
 rw[if_pos K,Oi6]
 simp only[Oc9,Oj3,and_true]
 conv=>rhs;rw[←List.map_id xs]
 apply Oj9
 intro v A
 exact Jt2 d v (J v A)
theorem Jrl (v:V)(l:List V):l=List.replicate (Qe v l) v++l.drop (Qe v l):=by
 induction l with
 |nil=>simp[Qe]
 |cons u l A=>
  by_cases e:u.beq v=true
  ·have:=(V.beq_iff u v).1 e
   subst this
   simp only[Qe,e,if_true,List.replicate_succ,List.cons_append,List.drop_succ_cons]
   rw[←A]
  simp[Qe,e]
theorem Jv0 (t:Int):∀ (A:Nat) (xs:List V) (rest:List UInt8),xs.length≤A→xs.length≤64→(∀ v∈xs,okT t v)→Jbh t xs.length (Yc xs++rest)=some (xs,rest):=by
 intro A
 induction A with
 |zero=>
  intro xs rest I _ _
  have:xs=[]:=Od3.1 (by omega)
  subst this
  rw[Jgc]
  simp[Jb9]
 |succ A U=>
  intro xs rest I L K
  cases xs with
  |nil=>rw[Jgc];simp[Jb9]
  |cons v l=>
   have N:=Jhn v l
   have J:=Jjn v (v::l)
   have O:=Jrl v (v::l)
   rw[Je9]
   generalize Qe v (v::l)=n at *
   rw[List.length_cons,Jay,List.cons_append,List.cons_append,Je8 _ _ (by omega)]
   simp only[List.length_cons]at J
   simp only[N,J,and_self,dite_true]
   rw[Od8,Jj3 t v _ (K v (by simp))]
   simp only
   have M:((v::l).drop n).length=l.length+1-n:=by rw[Of7,List.length_cons]
   simp only[List.length_cons]at I L
   have H:=U ((v::l).drop n) rest (by omega) (by omega) fun u R=>K u (Oh7 R)
   rw[M]at H
   rw[H]
   simp only[Option.map_some]
   rw[←O]
theorem Ju8 (t A n:Int)(h:Jg n):Jbq t A (dif n A)=⟨t,n,⟨#[]⟩⟩:=by
 unfold Jg at h
 unfold Jbq dif u64
 rw[Oh5,Oh5]
 have e:wrap64 ((A % 18446744073709551616+(((n-A) % 18446744073709551616).toNat:Int)) % 18446744073709551616)=n:=by
  unfold wrap64
  omega
 rw[e]
theorem Ken (l:List Nat):∀ m,m≤Yz m l∧∀ n∈l,n≤Yz m l:=by
 induction l with
 |nil=>intro m;simp[Yz]
 |cons x l I=>
  intro m
  unfold Yz
  by_cases H:m<x
  ·rw[if_pos H]
   have:=I x
   refine⟨by omega,fun n A=>?_⟩
   rcases Of1.1 A with rfl|A
   ·exact this.1
   exact this.2 n A
  rw[if_neg H]
  have:=I m
  refine⟨this.1,fun n A=>?_⟩
  rcases Of1.1 A with rfl|A
  ·omega
  exact this.2 n A
theorem Kai (n:Nat):n<2 ^ bitLen n:=by
 unfold bitLen
 split
 ·rename_i h
  rw[h]
  decide
 exact Nat.lt_log2_self
theorem Jpm (l:List V):∀ m,Jg m→(∀ v∈l,Jg v.n)→Jg (Jn m l):=by
 induction l with
 |nil=>intro m A _;exact A
 |cons v l I=>
  intro m A h
  unfold Jn
  split
  ·exact I _ (h v (by simp)) fun u H=>h u (by simp[H])
  exact I _ A fun u H=>h u (by simp[H])
theorem Kg5 (t:Int)(v:V)(h:okT t v)(I:t=1∨t=2):v=⟨t,v.n,⟨#[]⟩⟩:=by
 obtain⟨hk,A,H⟩:=h
 obtain⟨k,n,s⟩:=v
 simp only at hk A H
 subst hk
 unfold okK at A
 simp only[decide_eq_true_eq]at A
 have hs:s.toList.isEmpty=true:=by
  rcases A with⟨_,hs⟩|⟨_,_,hs⟩|⟨e,_,_⟩
  ·exact hs
  ·exact hs
  omega
 rw[Jit s hs]
 rfl
theorem Jo2 (t A:Int)(xs:List V)(h:∀ v∈xs,okT t v)(I:t=1∨t=2):(Uv xs A).map (Jbq t A)=xs:=by
 unfold Uv
 rw[Oi6]
 conv=>rhs;rw[←List.map_id xs]
 apply Oj9
 intro v J
 have H:=h v J
 simp only[Function.comp,id]
 rw[Ju8 t A v.n H.2.2]
 exact(Kg5 t v H I).symm
theorem Jqb (t:Int)(xs:List V)(rest:List UInt8)(h:∀ v∈xs,okT t v)(X:t=1∨t=2):Ux t xs.length (Zz t xs++rest)=some (xs,rest):=by
 rcases X with rfl|rfl
 ·cases xs with
  |nil=>rfl
  |cons v l=>
   have H:∀ u∈(v::l),Jg u.n:=fun u Y=>(h u Y).2.2
   have R:Jg (Jn v.n (v::l)):=Jpm _ _ (H v (by simp)) H
   have L:Zz 1 (v::l)=le8 (u64 (Jn v.n (v::l)))++[low (bitLen (Yz (dif v.n (Jn v.n (v::l))) (Uv l (Jn v.n (v::l)))):Nat)]++Kk (Ue (bitLen (Yz (dif v.n (Jn v.n (v::l))) (Uv l (Jn v.n (v::l))))) (Uv (v::l) (Jn v.n (v::l)))):=rfl
   rw[L]
   clear L
   generalize Jn v.n (v::l)=A at *
   have M:=Ken (Uv l A) (dif v.n A)
   have U:Yz (dif v.n A) (Uv l A)<18446744073709551616:=Jk2 _ _ _ (Jp3 _) (Jkx l A)
   have hw:=Jf7 _ U
   have ba:=Kai (Yz (dif v.n A) (Uv l A))
   generalize Yz (dif v.n A) (Uv l A)=N at *
   generalize bitLen N=O at *
   unfold Ux
   rw[if_neg (by decide),if_neg (by simp),Od8,Od8,Jh5 A _ R]
   simp only
   rw[List.cons_append,List.nil_append,Je8 O _ (by omega)]
   simp only[hw,if_true]
   have I:=Jct O (Uv (v::l) A) rest (by
    intro n H
    have:n≤N:=by
     unfold Uv at H
     rw[Oe4]at H
     rcases Of1.1 H with rfl|H
     ·exact M.1
     exact M.2 n H
    omega)
   have J:(Uv (v::l) A).length=(v::l).length:=by unfold Uv;simp
   rw[J]at I
   rw[I,Option.map_some,Jo2 1 A _ h (.inl rfl)]
 unfold Zz Ux
 rw[if_pos rfl,if_pos rfl]
 have I:=Jct 1 (Uv xs 0) rest (by
  intro n H
  obtain⟨v,Z,rfl⟩:=Of0.1 H
  obtain⟨hk,K,_⟩:=h v Z
  unfold okK at K
  simp only[decide_eq_true_eq]at K
  have:v.n=0∨v.n=1:=by
   rcases K with⟨e,_⟩|⟨_,H,_⟩|⟨e,_,_⟩
   ·omega
   ·exact H
   omega
  unfold dif u64
  omega)
 have J:(Uv xs 0).length=xs.length:=by unfold Uv;simp
 rw[J]at I
 rw[I,Option.map_some,Jo2 2 0 _ h (.inr rfl)]
theorem Jwd (xs:List V)(h:∀ v∈xs,v.k=0→v=Jf):Ys (xs.map Qt) (Jz xs)=xs:=by
 induction xs with
 |nil=>rfl
 |cons v xs K=>
  have I:=K fun u J=>h u (Og1 _ J)
  by_cases hk:v.k=0
  ·have A:Qt v=0:=by simp[Qt,hk]
   have H:Jz (v::xs)=Jz xs:=by simp[Jz,hk]
   rw[Oe4,A,H,Ys,if_neg (by decide),I,h v (by simp) hk]
  have A:Qt v=1:=by simp[Qt,hk]
  have H:Jz (v::xs)=v::Jz xs:=by simp[Jz,hk]
  rw[Oe4,A,H,Ys,if_pos rfl]
  simp only[List.headD_cons,List.tail_cons,I]
theorem Jyx (xs:List V):Qs (xs.map Qt)=(Jz xs).length:=by
 induction xs with
 |nil=>rfl
 |cons v xs I=>
  by_cases hk:v.k=0
  ·have A:Qt v=0:=by simp[Qt,hk]
   have H:Jz (v::xs)=Jz xs:=by simp[Jz,hk]
   rw[Oe4,A,H,Qs,if_neg (by decide),I]
   omega
  have A:Qt v=1:=by simp[Qt,hk]
  have H:Jz (v::xs)=v::Jz xs:=by simp[Jz,hk]
  rw[Oe4,A,H,Qs,if_pos rfl,I,List.length_cons]
  omega
theorem Jut {t:Int}{xs:List V}(h:Jdq t xs)(J:1≤t):∀ v∈xs,v.k=0→v=Jf:=by
 intro v I hk
 obtain⟨j,A,rfl⟩:=Od5 I
 have:=h.2 j A
 unfold okB at this
 simp only[decide_eq_true_eq]at this
 generalize xs[j]=v at *
 rcases this with⟨_,H,hs⟩|⟨e,_⟩
 ·exact V.ext' hk H (Jit _ hs)
 omega
theorem Jvg {t:Int}{xs:List V}(h:Jdq t xs)(J:∀ v∈xs,Jg v.n):∀ v∈Jz xs,okT t v:=by
 intro v A
 unfold Jz at A
 rw[Om0]at A
 obtain⟨A,hk⟩:=A
 have K:=J v A
 obtain⟨j,H,rfl⟩:=Od5 A
 have:=h.2 j H
 unfold okB at this
 simp only[decide_eq_true_eq]at this
 rcases this with⟨e,_,_⟩|⟨e,I⟩
 ·rw[e]at hk;simp at hk
 exact⟨e,I,K⟩
def Kkn (A:Int):Prop:=∀ (t:Int) (vs:List V),way t A=true→vs.length≤64→¬ (A=1∧16<(Ym [] vs).length)→(∀ v∈vs,okT t v)→Jce t A vs.length (Jdt t A vs++[])=some (vs,[])
theorem Kjx (A:Int):Kkn A:=by
 intro t vs I L K H
 unfold way at I
 simp only[decide_eq_true_eq]at I
 have J:A=0∨A=1∨A=2∨A=3:=by omega
 rcases J with rfl|rfl|rfl|rfl
 ·exact Jmy t _ [] H
 ·exact Jwb t _ [] H (by omega)
 ·exact Jv0 t _ _ [] (Oa2 _) (by omega) H
 exact Jqb t _ [] H (by omega)
theorem Kja {t A:Int}{xs:List V}{bs:List UInt8}(h:Jev t A xs=(bs,0)):way t A=true∧Jdq t xs∧¬ (A=1∧16<(Ym [] (Jz xs)).length)∧((t.toNat:Nat):Int)=t∧((A.toNat:Nat):Int)=A∧Jf2 bs=some ((t.toNat,A.toNat,xs.length),Kk (xs.map fun v=>v.k != 0)++Jdt t A (Jz xs)):=by
 unfold Jev at h
 by_cases H:(way t A&&Jfr t xs)=true
 ·rw[if_pos H]at h
  by_cases K:A=1∧16<(Ym [] (Jz xs)).length
  ·rw[if_pos K]at h;simp at h
  rw[if_neg K]at h
  simp only[Oj3,and_true]at h
  rw[Og5]at H
  obtain⟨N,L⟩:=H
  rw[Jfd]at L
  have M:=N
  unfold way at M
  simp only[decide_eq_true_eq]at M
  obtain⟨bb,bc,Y,Z,ba⟩:=M
  have O:=L.1
  have J:((t.toNat:Nat):Int)=t:=by omega
  have I:((A.toNat:Nat):Int)=A:=by omega
  refine⟨N,L,K,J,I,?_⟩
  rw[←h]
  have e:Jav t A xs=low t::low A::low (xs.length:Nat)::(Kk (xs.map fun v=>v.k != 0)++Jdt t A (Jz xs)):=rfl
  rw[e]
  have R:(low t).toNat=t.toNat:=by rw[←J,Jgf _ (by omega)];omega
  have U:(low A).toNat=A.toNat:=by rw[←I,Jgf _ (by omega)];omega
  have X:(low (xs.length:Nat)).toNat=xs.length:=Jgf _ (by omega)
  simp only[Jf2]
  rw[R,U,X,J,I,if_pos ⟨N,O⟩]
 rw[if_neg H]at h;simp at h
theorem Ki9 (t A:Int)(M:Kkn A)(xs:List V)(bs:List UInt8)(h:Jev t A xs=(bs,0))(ba:∀ v∈xs,Jg v.n):Jbf bs=some (t.toNat,A.toNat,xs):=by
 obtain⟨L,H,R,O,N,U⟩:=Kja h
 have K:=L
 unfold way at K
 simp only[decide_eq_true_eq]at K
 have bc:=H.1
 have X:=Jvg H ba
 have Z:=Jut H (by omega)
 have bf:=Zy xs
 have I:=M t (Jz xs) L (by omega) R X
 rw[Od7]at I
 have J:=Jct 1 (xs.map Qt) (Jdt t A (Jz xs)) (by
  intro n Y
  obtain⟨v,_,rfl⟩:=Of0.1 Y
  unfold Qt
  split<;>decide)
 rw[Jrg,Oa6]at J
 have bb:Ug t A xs.length (Kk (xs.map fun v=>v.k != 0)++Jdt t A (Jz xs))=some (xs,[]):=by
  unfold Ug
  rw[J]
  simp only
  rw[Jyx,I,Option.map_some,Jwd xs Z]
 unfold Jbf
 rw[U]
 simp only
 rw[O,N,bb]
 simp only
 rw[if_pos h]
end
section
open Go.RowKit Tryz
theorem Kzk (xs:List V)(h:∀ v∈xs,v.n=0∨v.n=1):Ue 1 (Uv xs 0)=xs.map fun v=>v.n==1:=by
 have hd:∀ v∈xs,dif v.n 0=(if v.n=1 then 1 else 0):=by
  intro v hv
  unfold dif u64
  rcases h v hv with e|e<;>rw[e]<;>rfl
 rw[Jv6 _ (by
  intro n hn
  obtain⟨v,hv,rfl⟩:=Of0.1 hn
  rw[hd v hv];split<;>omega)]
 unfold Uv
 rw[Oi6]
 apply Oj9
 intro v hv
 simp only[Function.comp]
 rw[hd v hv]
 by_cases e:v.n=1<;>simp[e]
theorem Kul (a b:Nat)(h:a≤b):bitLen a≤bitLen b:=by
 by_cases h0:a=0
 ·subst h0;simp[bitLen]
 have h1:=(bitLen_spec a).2 h0
 have h2:=(bitLen_spec b).1
 have h3:2 ^ (bitLen a-1)<2 ^ bitLen b:=by omega
 have h4:=(Nat.pow_lt_pow_iff_right (by decide)).1 h3
 omega
theorem Kwu (l:List Nat):∀ m,bitLen (Yz m l)=Yz (bitLen m) (l.map bitLen):=by
 induction l with
 |nil=>intro m;rfl
 |cons n l ih=>
  intro m
  simp only[Yz,Oe4]
  rw[ih]
  congr 1
  by_cases h:m<n
  ·have:=Kul m n (by omega)
   rw[if_pos h]
   split
   ·rfl
   omega
  have:=Kul n m (by omega)
  rw[if_neg h,if_neg (by omega)]
theorem Kxy (D w:Nat)(h:0<D / 2 ^ w):w+1≤bitLen D:=by
 have h1:=bitLen_shift D w (by omega)
 have h2:1≤bitLen (D / 2 ^ w):=by unfold bitLen;split<;>omega
 omega
theorem Kyu (D w:Nat)(hw:w≤bitLen D)(h:D / 2 ^ w=0):w=bitLen D:=by
 have h0:D<2 ^ w:=(Nat.div_eq_zero_iff_lt (Nat.two_pow_pos w)).1 h
 by_cases hD:D=0
 ·subst hD;simp[bitLen]at hw ⊢;exact hw
 have h1:=(bitLen_spec D).2 hD
 have h3:2 ^ (bitLen D-1)<2 ^ w:=by omega
 have h4:=(Nat.pow_lt_pow_iff_right (by decide)).1 h3
 omega
theorem Kxn (t:Int)(a:Option Addr)(cap:Nat)(xs:List V)(w:World)(hn:xs.length≤64)(ht:t=2)(hx:Jv w a xs) :
  Calls prog 134 #[.int .i64 t,.slice a xs.length cap] w fun e w'=>e=.returned (.string (Qw (Kk (xs.map fun v=>v.n==1))))∧Below w.heap.size w w':=by
 have ht1:(t==2)=true:=by simp[ht]
 clear ht
 go_enter func134,ntmps134
 go_wp2
 go_loopw [5,6] (fun sv i wr=>∃ k:Nat,k≤xs.length∧i=.int .i64 k∧Jo wr w.heap.size 4 sv (((xs.take k).map fun v=>v.n==1).map Value.bool)∧Below w.heap.size w wr) (fun _ i _=>xs.length-(intOf i).toNat)
 case atStart=>exact⟨0,by omega,rfl,Jo.nil _ _ _,Oa5 _ _⟩
 case round=>
  obtain⟨k,hk,rfl,hown,hbw⟩:=hrel
  by_cases hlt:k<xs.length
  ·obtain⟨b1,o1,rfl,hb1,x1,x2,x3⟩:=(hx.below hbw).at hlt
   have hsn:((xs.take (k+1)).map fun v=>v.n==1).map Value.bool=((xs.take k).map fun v=>v.n==1).map Value.bool++[.bool (xs[k].n==1)]:=by
    rw[Oc4 hlt,Ob8,Ob8];rfl
   have hbl:(((xs.take k).map fun v=>v.n==1).map Value.bool).length≤64:=by rw[Oa6,Oa6,Oc7];omega
   have HSN:Hid _:=hsn
   clear hsn
   generalize ((xs.take k).map fun v=>v.n==1).map Value.bool=BL at *
   have hsw:=hbw.size
   go_wp2_with (at_builtin;go_must (refine Ks (by rfl) _ _ 193 4 _ 1 Ktf (by rfl) (by decide) (by kernel_rfl) (by rfl) w.heap.size _ _ (by rfl) (hown.alloc _) ⟨wr.heap.size,0,none⟩ 1 [.bool (xs[k].n==1)] (by rfl) (by exact Ua _ _ _) (by intro u hu;simp at hu;subst hu;rfl) (by simp only[List.length_cons,List.length_nil];omega) (by simp;omega) ?_);intro sv' w5 h1 h2 h3)
   go_roundw
   case rel=>
    refine⟨k+1,by omega,by go_num,?_,Jy (Jc hbw _) h2 fun k hk=>(Je hown hk).1⟩
    rw[HSN.out];exact h1
   case measure=>simp[intOf];omega
  have e:xs.take k=xs:=Oc8 (by omega)
  rw[e]at hown
  obtain⟨a5,cap5,rfl,hc5⟩:=hown.cells
  have hbl:(xs.map fun v=>v.n==1).length≤64:=by simpa using hn
  rw[Oa6]
  generalize hBL:(xs.map fun v=>v.n==1)=BL at *
  have HBL:Hid _:=hBL
  clear hBL
  go_wp2_with fail
  refine(Ksh a5 cap5 BL _ (by omega) hc5).mono ?_
  rintro e w6 ⟨rfl,hb6⟩
  go_wp2
  go_ret
  exact⟨by rw[HBL.out];rfl,Jb hbw hb6⟩
theorem Kxj (t:Int)(a:Option Addr)(cap:Nat)(xs:List V)(w:World)(hn:xs.length≤64)(ht:¬ t=2∧xs=[])  :
  Calls prog 134 #[.int .i64 t,.slice a xs.length cap] w fun e w'=>e=.returned (.string (Qw (Kk (xs.map fun v=>v.n==1))))∧Below w.heap.size w w':=by
 have ht1:(t==2)=false:=by simp[ht.1]
 have h0:xs.length=0:=by rw[ht.2];rfl
 have h01:((xs.length:Int)==0)=true:=by simp[h0]
 clear ht
 go_enter func134,ntmps134
 go_wp2
 go_loopw [5,6] (fun sv i wr=>∃ k:Nat,k≤xs.length∧i=.int .i64 k∧Jo wr w.heap.size 4 sv (((xs.take k).map fun v=>v.n==1).map Value.bool)∧Below w.heap.size w wr) (fun _ i _=>xs.length-(intOf i).toNat)
 case atStart=>exact⟨0,by omega,rfl,Jo.nil _ _ _,Oa5 _ _⟩
 case round=>
  obtain⟨k,hk,rfl,hown,hbw⟩:=hrel
  by_cases hlt:k<xs.length
  ·exfalso;omega
  have e:xs.take k=xs:=Oc8 (by omega)
  rw[e]at hown
  obtain⟨a5,cap5,rfl,hc5⟩:=hown.cells
  have hbl:(xs.map fun v=>v.n==1).length≤64:=by simpa using hn
  rw[Oa6]
  generalize hBL:(xs.map fun v=>v.n==1)=BL at *
  have HBL:Hid _:=hBL
  clear hBL
  go_wp2_with fail
  refine(Ksh a5 cap5 BL _ (by omega) hc5).mono ?_
  rintro e w6 ⟨rfl,hb6⟩
  go_wp2
  go_ret
  exact⟨by rw[HBL.out];rfl,Jb hbw hb6⟩
end
section
open Go.RowKit Tryz
theorem Ky9 (D k:Nat):((List.range (k+1)).map fun b=>D.testBit b)=((List.range k).map fun b=>D.testBit b)++[D / 2 ^ k % 2==1]:=by
 rw[Oj7,Ob8]
 simp only[Oe4,Oi4]
 rw[On1]
 congr 2
theorem Kxb (t:Int)(a:Option Addr)(cap:Nat)(v:V)(l:List V)(w:World)(hn:(v::l).length≤64)(ht:¬ t=2)(hx:Jv w a (v::l)) :
  Calls prog 134 #[.int .i64 t,.slice a (v::l).length cap] w fun e w'=>e=.returned (.string (Qw (Jei (v::l))))∧Below w.heap.size w w':=by
 have ht1:(t==2)=false:=by simp[ht]
 clear ht
 have hpe:Jei (v::l)=le8 (u64 (Jn v.n (v::l)))++[low (Yz 0 ((Uv (v::l) (Jn v.n (v::l))).map bitLen):Nat)]
    ++ Kk (Ue (Yz 0 ((Uv (v::l) (Jn v.n (v::l))).map bitLen)) (Uv (v::l) (Jn v.n (v::l)))):=by
  have e:Yz 0 ((Uv (v::l) (Jn v.n (v::l))).map bitLen)=bitLen (Yz (dif v.n (Jn v.n (v::l))) (Uv l (Jn v.n (v::l)))):=by
   rw[Kwu]
   show Yz 0 (bitLen _::(Uv l _).map bitLen)=_
   simp only[Yz]
   congr 1
   split<;>omega
  rw[e];rfl
 have HPE:Hid _:=hpe
 clear hpe
 have hlt1:(v::l).take 1=[v]:=rfl
 have hv0:(v::l)[0]?=some v:=rfl
 have hl0:0<(v::l).length:=by simp
 have hlf1:Jn v.n [v]=v.n:=by simp[Jn]
 generalize v::l=xs at *
 have HL1:Hid (Jn v.n (xs.take 1)=v.n):=by rw[hlt1];exact hlf1
 have hl1:((xs.length:Int)==0)=false:=by rw[beq_eq_false_iff_ne];omega
 obtain⟨b1,o1,rfl,hb1,z1,z2,z3⟩:=hx.at hl0
 rw[Oo9,Nat.add_zero]at z1 z2 z3
 have hv1:xs[0]=v:=by rw[Oa3 hl0]at hv0;exact Oj6 hv0
 rw[hv1]at z2
 clear hlt1 hlf1 hv0 hv1 z1 z3
 generalize v.n=M at *
 go_enter func134,ntmps134
 go_wp2
 go_loop [7,8] (fun q i=>∃ k:Nat,1≤k∧k≤xs.length∧i=.int .i64 k∧q=.int .i64 (Jn M (xs.take k))) (fun _ i=>xs.length-(intOf i).toNat)
 case atStart=>exact⟨1,by omega,by omega,rfl,by rw[HL1.out]⟩
 case round=>
  obtain⟨k,hk1,hk,rfl,rfl⟩:=hrel
  by_cases hlt:k<xs.length
  ·obtain⟨b2,o2,hbo,_,x1,x2,x3⟩:=hx.at hlt
   simp at hbo
   obtain⟨rfl,rfl⟩:=hbo
   have hts:=Jli (xs.take k) xs[k] M
   rw[←Oc4 hlt]at hts
   have HT:Hid _:=hts
   clear hts
   generalize Jn M (xs.take k)=q at *
   by_cases hc:xs[k].n<q
   ·have HT2:Hid (Jn M (xs.take (k+1))=xs[k].n):=by show _=_;rw[HT.out,if_pos hc]
    go_wp2
    go_round
    case rel=>exact⟨k+1,by omega,by omega,by go_num,by rw[HT2.out]⟩
    case measure=>simp[intOf];omega
   have HT2:Hid (Jn M (xs.take (k+1))=q):=by show _=_;rw[HT.out,if_neg hc]
   go_wp2
   go_round
   case rel=>exact⟨k+1,by omega,by omega,by go_num,by rw[HT2.out]⟩
   case measure=>simp[intOf];omega
  have e:xs.take k=xs:=Oc8 (by omega)
  rw[e]
  clear e
  generalize Jn M xs=q at *
  have hdl:(Uv xs q).length=xs.length:=by simp[Uv]
  have hdk:∀ j (hj:j<xs.length),(Uv xs q)[j]'(by rw[hdl];exact hj)=dif xs[j].n q:=by intro j hj;simp[Uv]
  have hdlt:=Jkx xs q
  generalize hDS:Uv xs q=ds at *
  have HDS:Hid (Uv xs q=ds):=hDS
  clear hDS
  have HWL:Hid (∀ n∈ds,bitLen n<65):=fun n hn=>by have:=Jf7 n (hdlt n hn);omega
  have HDL:Hid (ds.length=xs.length):=hdl
  have HDK:Hid (∀ j (hj:j<xs.length),ds[j]?=some (dif xs[j].n q)):=by
   intro j hj
   rw[Oa3 (by rw[hdl];exact hj),hdk j hj]
  have HDB:Hid (∀ n∈ds,n<18446744073709551616):=hdlt
  clear hdl hdk hdlt
  go_wp2
  go_loop [9,10] (fun wd i=>∃ j:Nat,j≤xs.length∧i=.int .i64 j∧wd=.int .i64 (Yz 0 ((ds.take j).map bitLen):Nat)) (fun _ i=>xs.length-(intOf i).toNat)
  case atStart=>exact⟨0,by omega,rfl,rfl⟩
  case round=>
   obtain⟨j,hj,rfl,rfl⟩:=hrel
   by_cases hlj:j<xs.length
   ·obtain⟨b2,o2,hbo,_,x1,x2,x3⟩:=hx.at hlj
    simp at hbo
    obtain⟨rfl,rfl⟩:=hbo
    have hdj:=HDK.out j hlj
    have hlj':j<ds.length:=by rw[HDL.out];exact hlj
    have hmem:ds[j]∈ds:=Ob3 hlj'
    have hdj2:ds[j]=dif xs[j].n q:=by rw[Oa3 hlj']at hdj;exact Oj6 hdj
    have hsn:(ds.take (j+1)).map bitLen=(ds.take j).map bitLen++[bitLen ds[j]]:=by rw[Oc4 hlj',Ob8];rfl
    have hmx:Yz 0 ((ds.take (j+1)).map bitLen)=if Yz 0 ((ds.take j).map bitLen)<bitLen ds[j]then bitLen ds[j]else Yz 0 ((ds.take j).map bitLen):=by rw[hsn,Jv8]
    have hwm:Yz 0 ((ds.take j).map bitLen)<65:=Jk2 65 _ 0 (by decide) fun n hn=>by
     obtain⟨y,hy,rfl⟩:=Of0.1 hn
     exact HWL.out y (Om9 hy)
    have hD65:=HWL.out _ hmem
    have hDlt:=HDB.out _ hmem
    rw[hdj2]at hmx hD65 hDlt
    have HMX:Hid _:=hmx
    have hwd:=Kdb xs[j].n q
    have HWD:Hid _:=hwd
    clear hmx hsn hdj hdj2 hmem hwd
    generalize Yz 0 ((ds.take j).map bitLen)=WM at *
    go_wp2
    rw[HWD.out]
    generalize dif xs[j].n q=D at *
    go_loop [11,12] (fun wc u=>∃ c:Nat,c≤bitLen D∧wc=.int .i64 c∧u=.int .u64 (D / 2 ^ c:Nat)) (fun _ u=>(intOf u).toNat)
    case atStart=>exact⟨0,by omega,rfl,by simp⟩
    case round=>
     obtain⟨c,hc,rfl,rfl⟩:=hrel
     have hle:D / 2 ^ c≤D:=Oo6 _ _
     have hst:=Kxy D c
     have hen:=Kyu D c hc
     have hdd:D / 2 ^ (c+1)=D / 2 ^ c / 2:=by rw[Nat.pow_succ,Nat.div_div_eq_div_mul]
     have HST:Hid _:=hst
     have HEN:Hid _:=hen
     have HDD:Hid _:=hdd
     clear hst hen hdd
     generalize D / 2 ^ c=U at *
     by_cases hU:0<U
     ·have HS2:=HST.out hU
      go_wp2
      go_round
      case rel=>exact⟨c+1,by omega,by go_num,by rw[HDD.out];go_num⟩
      case measure=>simp[intOf];omega
     have hce:c=bitLen D:=HEN.out (by omega)
     subst hce
     by_cases hgt:WM<bitLen D
     ·have HM2:Hid (Yz 0 ((ds.take (j+1)).map bitLen)=bitLen D):=by show _=_;rw[HMX.out,if_pos hgt]
      generalize bitLen D=c at *
      go_wp2
      go_round
      case rel=>exact⟨j+1,by omega,by go_num,by rw[HM2.out]⟩
      case measure=>simp[intOf];omega
     have HM2:Hid (Yz 0 ((ds.take (j+1)).map bitLen)=WM):=by show _=_;rw[HMX.out,if_neg hgt]
     generalize bitLen D=c at *
     go_wp2
     go_round
     case rel=>exact⟨j+1,by omega,by go_num,by rw[HM2.out]⟩
     case measure=>simp[intOf];omega
   have e:ds.take j=ds:=Oc8 (by rw[HDL.out];omega)
   rw[e]
   clear e
   have hwm:Yz 0 (ds.map bitLen)<65:=Jk2 65 _ 0 (by decide) fun n hn=>by
    obtain⟨y,hy,rfl⟩:=Of0.1 hn
    exact HWL.out y hy
   generalize Yz 0 (ds.map bitLen)=wd at *
   go_wp2
   go_loopw [5,13] (fun sv i wr=>∃ p:Nat,p≤xs.length∧i=.int .i64 p∧Jo wr w.heap.size 4 sv ((Ue wd (ds.take p)).map Value.bool)∧Below w.heap.size w wr) (fun _ i _=>xs.length-(intOf i).toNat)
   case atStart=>exact⟨0,by omega,rfl,Jo.nil _ _ _,Oa5 _ _⟩
   case round=>
    obtain⟨p,hp,rfl,hown,hbw⟩:=hrel
    rename World=>w1
    by_cases hlp:p<xs.length
    ·obtain⟨b2,o2,hbo,hb2,x1,x2,x3⟩:=(hx.below hbw).at hlp
     simp at hbo
     obtain⟨rfl,rfl⟩:=hbo
     have hdj:=HDK.out p hlp
     have hlp':p<ds.length:=by rw[HDL.out];exact hlp
     have hmem:ds[p]∈ds:=Ob3 hlp'
     have hdj2:ds[p]=dif xs[p].n q:=by rw[Oa3 hlp']at hdj;exact Oj6 hdj
     have hsn:Ue wd (ds.take (p+1))=Ue wd (ds.take p)++(List.range wd).map fun b=>ds[p].testBit b:=by rw[Oc4 hlp',Kuq]
     have hDlt:=HDB.out _ hmem
     rw[hdj2]at hsn hDlt
     have hbl:(Ue wd (ds.take p)).length≤5000:=by
      rw[Jal,Oc7]
      have:wd*min p ds.length≤64*64:=Ol5 (by omega) (by omega)
      omega
     have HSN:Hid _:=hsn
     have hwd2:=Kdb xs[p].n q
     have HWD:Hid _:=hwd2
     clear hsn hdj hdj2 hmem hwd2
     generalize Ue wd (ds.take p)=BL at *
     go_wp2
     rw[HWD.out]
     generalize dif xs[p].n q=D at *
     go_loopw [5,14,15] (fun sv u kk wr=>∃ c:Nat,c≤wd∧kk=.int .i64 c∧u=.int .u64 (D / 2 ^ c:Nat)∧Jo wr w.heap.size 4 sv ((BL++(List.range c).map fun b=>D.testBit b).map Value.bool)∧Below w.heap.size w wr) (fun _ _ kk _=>wd-(intOf kk).toNat)
     case atStart=>exact⟨0,by omega,rfl,by simp,by simpa using hown,hbw⟩
     case round=>
      clear hown hbw x1 x2 x3 hb2
      obtain⟨c,hc,rfl,rfl,hown,hbw⟩:=hrel
      have hsw:=hbw.size
      by_cases hlc:c<wd
      ·have hbs:=Ky9 D c
       have HBS:Hid _:=hbs
       have hle:D / 2 ^ c≤D:=Oo6 _ _
       have hdd:D / 2 ^ (c+1)=D / 2 ^ c / 2:=by rw[Nat.pow_succ,Nat.div_div_eq_div_mul]
       have HDD:Hid _:=hdd
       have hbl2:((BL++(List.range c).map fun b=>D.testBit b).map Value.bool).length≤6000:=by simp;omega
       clear hbs hdd
       generalize (List.range c).map (fun b=>D.testBit b)=RB at *
       generalize D / 2 ^ c=U at *
       go_wp2_with (at_builtin;go_must (refine Ks (by rfl) _ _ 193 4 _ 1 Ktf (by rfl) (by decide) (by kernel_rfl) (by rfl) w.heap.size _ _ (by rfl) (hown.alloc _) ⟨wr.heap.size,0,none⟩ 1 [.bool ((U:Int) % 2==1)] (by rfl) (by exact Ua _ _ _) (by intro u hu;simp at hu;subst hu;rfl) (by simp only[List.length_cons,List.length_nil];omega) (by simp;omega) ?_);intro sv' w5 h1 h2 h3)
       go_roundw
       case rel=>
        refine⟨c+1,by omega,by go_num,by rw[HDD.out];go_num,?_,Jy (Jc hbw _) h2 fun k hk=>(Je hown hk).1⟩
        have e1:((U:Int) % 2==1)=(U % 2==1):=by rw[On7];simp;omega
        rw[HBS.out,←Od8,Ob8]
        rw[e1]at h1
        exact h1
       case measure=>simp[intOf];omega
      have hce:c=wd:=by omega
      subst hce
      go_wp2
      go_roundw
      case rel=>exact⟨p+1,by omega,by go_num,by rw[HSN.out];exact hown,hbw⟩
      case measure=>simp[intOf];omega
    have e:ds.take p=ds:=Oc8 (by rw[HDL.out];omega)
    rw[e]at hown
    obtain⟨a5,cap5,rfl,hc5⟩:=hown.cells
    have hbl:(Ue wd ds).length≤5000:=by
     rw[Jal,HDL.out]
     have:wd*xs.length≤64*64:=Ol5 (by omega) hn
     omega
    have hpk:=Qb (Ue wd ds)
    have hz2:(Qw (Kk (Ue wd ds))).size≤1000:=by rw[Jb2,hpk];omega
    have hz3:(Qw (le8 (Go.Proofs.YtcaocabmioafcaaGreatDoor.u64 q))).size=8:=by rw[Jb2,Jc4]
    have hs1:=Ksv
    rw[Oa6]
    clear e hpk
    generalize Ue wd ds=BL at *
    go_wp2_with fail
    refine(Kv2 q _).mono ?_
    rintro e w5 ⟨rfl,hb5⟩
    generalize le8 (Go.Proofs.YtcaocabmioafcaaGreatDoor.u64 q)=L8 at *
    go_wp2_with fail
    refine(Kr3 _ _).mono ?_
    rintro e w6 ⟨rfl,hb6⟩
    have hc6:=(hc5.below hb5).below hb6
    go_wp2_with fail
    refine(Ksh a5 cap5 BL _ (by omega) hc6).mono ?_
    rintro e w7 ⟨rfl,hb7⟩
    go_wp2
    go_ret
    refine⟨?_,Jb hbw (Jb hb5 (Jb hb6 hb7))⟩
    rw[HPE.out,←Kr1,←Kr1]
    rfl
end
section
open Go.RowKit Tryz
theorem Qax (t:Int)(a:Option Addr)(cap n:Nat)(w:World)(s:ByteArray)
  (h:∀ W,Below w.heap.size w W→Calls prog 134 #[.int .i64 t,.slice a n cap] W fun e w'=>e=.returned (.string s)∧Below W.heap.size W w') :
  Calls prog 99 #[.int .i64 t,.int .i64 3,.slice a n cap] w fun e w'=>e=.returned (.string s)∧Below w.heap.size w w':=by
 have HS:Hid (∀ W,Below w.heap.size w W→Calls prog 134 #[.int .i64 t,.slice a n cap] W fun e w'=>e=.returned (.string s)∧Below W.heap.size W w'):=h
 clear h
 go_enter func99,ntmps99
 go_wp2_with fail
 refine(HS.out w (Oa5 _ _)).mono ?_
 rintro e w1 ⟨rfl,hb1⟩
 go_wp2
 go_ret
 exact⟨rfl,hb1⟩
theorem Kv8 (t how:Int)(a:Option Addr)(cap:Nat)(xs:List V)(w:World)(hh:how=0∨how=1∨how=2∨how=3)(hn:xs.length≤64)(hgd:∀ v∈xs,Ksq v.k v.s)(hb:t=2→∀ v∈xs,v.n=0∨v.n=1)(hx:Jv w a xs) :
  Calls prog 99 #[.int .i64 t,.int .i64 how,.slice a xs.length cap] w fun e w'=>e=.returned (.string (Qw (Jdt t how xs)))∧Below w.heap.size w w':=by
 rcases hh with rfl|rfl|rfl|rfl
 ·exact Kw2 t a cap xs w hn hgd hx
 ·exact Kxz t a cap xs w hn hgd hx
 ·exact Kyh t a cap xs w hn hgd hx
 refine Qax t a cap _ w _ fun W hW=>?_
 show Calls _ _ _ _ fun e w'=>e=.returned (.string (Qw (Zz t xs)))∧_
 unfold Zz
 by_cases ht:t=2
 ·rw[if_pos ht,Kzk xs (hb ht)]
  exact Kxn t a cap xs W hn ht (hx.below hW)
 rw[if_neg ht]
 cases xs with
 |nil=>exact Kxj t a cap [] W hn ⟨ht,rfl⟩
 |cons v l=>exact Kxb t a cap v l W hn ht (hx.below hW)
theorem Kzq (t:Int)(xs:List V)(h:Jdq t xs)(ht:t=2):∀ v∈Jz xs,v.n=0∨v.n=1:=by
 intro v hv
 obtain⟨hm,hk⟩:=Om0.1 hv
 obtain⟨j,hj,rfl⟩:=Od5 hm
 have:=h.2 j hj
 unfold okB okK at this
 simp at this hk
 omega
theorem Kyn (xs:List V)(hn:xs.length≤64)(hg:∀ v∈xs,Ksq v.k v.s):(Jds xs).length≤6000:=by
 have h1:=Jk0 xs []
 have h2:=Jgg (Ym [] xs) fun v hv=>by
  rcases Jlj xs [] v hv with h|h
  ·simp at h
  exact hg v h
 unfold Jds
 rw[Oa8,List.length_cons,Qb,Jal,Oa6]
 simp at h1
 omega
theorem Kwf (t:Int)(xs:List V)(hn:xs.length≤64):(Zz t xs).length≤6000:=by
 unfold Zz
 split
 ·rw[Qb,Jal];simp[Uv];omega
 cases xs with
 |nil=>simp[Jei]
 |cons v l=>
  unfold Jei
  have hlt0:=Jkx (v::l) (Jn v.n (v::l))
  have hds:Uv (v::l) (Jn v.n (v::l))=dif v.n (Jn v.n (v::l))::Uv l (Jn v.n (v::l)):=rfl
  rw[hds]at hlt0
  have hmx:=Jk2 18446744073709551616 (Uv l (Jn v.n (v::l))) (dif v.n (Jn v.n (v::l))) (hlt0 _ Of4) fun n hn=>hlt0 n (Og1 _ hn)
  have h64:=Jf7 _ hmx
  rw[Oa8,Oa8,Jc4,Qb,Jal]
  have hdl:(Uv (v::l) (Jn v.n (v::l))).length=(v::l).length:=by simp[Uv]
  rw[hdl]
  have:bitLen (Yz (dif v.n (Jn v.n (v::l))) (Uv l (Jn v.n (v::l))))*(v::l).length≤64*64:=Ol5 h64 hn
  simp only[List.length_cons,List.length_nil]at *
  omega
theorem Kyy (t how:Int)(xs:List V)(hn:xs.length≤64)(hg:∀ v∈xs,Ksq v.k v.s):(Jdt t how xs).length≤6000:=by
 unfold Jdt
 split
 ·have:=Jgg xs hg;omega
 split
 ·exact Kyn xs hn hg
 split
 ·have:=Jng _ xs (Oa2 _) hg;omega
 exact Kwf t xs hn
theorem Kzg (t how:Int)(a:Option Addr)(cap:Nat)(xs:List V)(w:World)(hbad:¬ (way t how=true∧xs.length≤64)) :
  Calls prog 65 #[.int .i64 t,.int .i64 how,.slice a xs.length cap] w fun e w'=>e=.returned (.tuple #[.string (Qw []),fault 1])∧Below w.heap.size w w':=by
 have hb0:Below w.heap.size w (w.alloc (.cells #[.int .i64 0,.int .i64 0,.int .i64 0,.int .i64 0,.int .i64 0] 68)):=(Oa5 _ _).alloc (Oa2 _) _
 cases hway:way t how
 case' true=>have h64:(64:Int)<(xs.length:Int):=by have:¬ xs.length≤64:=fun h=>hbad ⟨hway,h⟩;omega
 all_goals
  clear hbad
  go_enter func65,ntmps65
  go_wp2_with fail
  refine(Ku5 _ _ _).mono ?_
  rintro e w1 ⟨rfl,hw1⟩
  rw[hway]
  subst w1
  go_wp2_with fail
  refine(Kse _ _).mono ?_
  rintro e w2 ⟨rfl,hb2⟩
  obtain⟨k1,k2⟩:=Kx hb2
  have hb4:=Jb hb0 hb2
  go_wp2
  exact bodyPost_ret (v:=.tuple #[.string (Qw []),fault 1]) (by simp[results,results65,go_sem,k1];rfl) rfl ⟨rfl,Um hb4 (Oa2 _) _ _ _ _ _⟩
end
section
open Go.RowKit Tryz
theorem Kx6 (t how:Int)(a:Option Addr)(cap:Nat)(xs:List V)(w:World)(hx:Jv w a xs)(hway:way t how=true)(h64:xs.length≤64) :
  Calls prog 65 #[.int .i64 t,.int .i64 how,.slice a xs.length cap] w fun e w'=>e=.returned (.tuple #[.string (Qw (Jev t how xs).1),fault (Jev t how xs).2])∧Below w.heap.size w w':=by
 have hb0:Below w.heap.size w (w.alloc (.cells #[.int .i64 0,.int .i64 0,.int .i64 0,.int .i64 0,.int .i64 0] 68)):=(Oa5 _ _).alloc (Oa2 _) _
 have hhow:=Jo7 t how hway
 have HNO:Hid (¬ Jdq t xs→Jev t how xs=([],1)):=fun h=>by
  unfold Jev
  rw[if_neg]
  rw[Og5];exact fun e=>h ((Jfd t xs).1 e.2)
 have HDI:Hid (Jdq t xs→how=1→16<(Ym [] (Jz xs)).length→Jev t how xs=([],2)):=fun h h1 h2=>by
  unfold Jev
  rw[if_pos (by rw[Og5];exact⟨hway,(Jfd t xs).2 h⟩),if_pos ⟨h1,h2⟩]
 have HOK:Hid (Jdq t xs→¬ (how=1∧16<(Ym [] (Jz xs)).length)→Jev t how xs=(Jav t how xs,0)):=fun h h1=>by
  unfold Jev
  rw[if_pos (by rw[Og5];exact⟨hway,(Jfd t xs).2 h⟩),if_neg h1]
 generalize hw0:w.alloc (.cells #[.int .i64 0,.int .i64 0,.int .i64 0,.int .i64 0,.int .i64 0] 68)=w0 at *
 have hf0:∀ o,w0.frozen? ⟨w.heap.size,o,none⟩=false:=by intro o;rw[←hw0];simp
 have hcl:w.heap.size<w0.heap.size:=by rw[←hw0];simp
 have q0:w0.cell? ⟨w.heap.size,0,none⟩=some (.int .i64 0):=by rw[←hw0];simp
 have q1:w0.cell? ⟨w.heap.size,1,none⟩=some (.int .i64 0):=by rw[←hw0];simp
 have q2:w0.cell? ⟨w.heap.size,2,none⟩=some (.int .i64 0):=by rw[←hw0];simp
 have q3:w0.cell? ⟨w.heap.size,3,none⟩=some (.int .i64 0):=by rw[←hw0];simp
 have q4:w0.cell? ⟨w.heap.size,4,none⟩=some (.int .i64 0):=by rw[←hw0];simp
 go_enter func65,ntmps65
 go_wp2_with fail
 refine(Ku5 _ _ _).mono ?_
 rintro e w1 ⟨rfl,hw1⟩
 rw[hway]
 subst w1
 clear hw0
 go_wp2_with fail
 go_loopw [8,9,10,11] (fun okv th lv i wr=>∃ k:Nat,k≤xs.length∧i=.int .i64 k∧(∃ b:Bool,okv=.bool b)∧Jo wr w0.heap.size 4 th (((xs.take k).map fun v=>v.k != 0).map Value.bool)∧Yt wr w0.heap.size lv (Jz (xs.take k))∧(∀ x,th.ownBlock=some x→lv.ownBlock≠some x)∧Below w0.heap.size w0 wr∧Hid (∀ j (hj:j<xs.length),j<k→okB t xs[j].k xs[j].n xs[j].s=true)) (fun _ _ _ i _=>xs.length-(intOf i).toNat)
 case atStart=>exact⟨0,by omega,rfl,⟨_,rfl⟩,Jo.nil _ _ _,Yt.nil _ _,by simp[Value.ownBlock],Oa5 _ _,fun j _ hj=>absurd hj (Oe0 _)⟩
 case round=>
  obtain⟨k,hk,rfl,⟨b,rfl⟩,hth,hlv,hn3,hbw,hall⟩:=hrel
  have hs0:=hbw.size
  by_cases hlt:k<xs.length
  ·obtain⟨b1,o1,rfl,hb1,x1',x2',x3'⟩:=(hx.below hb0).at hlt
   have HC:Hid (∀ W,Below w0.heap.size w0 W→W.cell? ⟨b1,o1+k*3,none⟩=some (.int .i64 xs[k].k)∧W.cell? ⟨b1,o1+k*3+1,none⟩=some (.int .i64 xs[k].n)∧W.cell? ⟨b1,o1+k*3+2,none⟩=some (.string xs[k].s)):=fun W hW=>
    ⟨(Oc3 (w:=w0) (a:=⟨b1,_,none⟩) (hW.block b1 hb1)).trans x1',(Oc3 (w:=w0) (a:=⟨b1,_,none⟩) (hW.block b1 hb1)).trans x2',(Oc3 (w:=w0) (a:=⟨b1,_,none⟩) (hW.block b1 hb1)).trans x3'⟩
   clear x1' x2' x3'
   obtain⟨x1,x2,x3⟩:=HC.out _ hbw
   cases ho:okB t xs[k].k xs[k].n xs[k].s
   ·have HP:Hid (Jev t how xs=([],1)):=HNO.out fun h=>by have:=h.2 k hlt;rw[ho]at this;exact absurd this (by decide)
    go_wp2_with fail
    refine(Kwt _ _ _ _ _).mono ?_
    rintro e w2 ⟨rfl,hb2⟩
    rw[ho]
    go_wp2_with fail
    refine(Kse _ _).mono ?_
    rintro e w3 ⟨rfl,hb3⟩
    have hb03:=Jb hbw (Jb hb2 hb3)
    obtain⟨k1,k2⟩:=Kx hb03
    have hb4:=Jb hb0 hb03
    go_wp2
    refine bodyPost_ret (v:=.tuple #[.string (Qw []),fault 1]) (by simp[results,results65,go_sem,k1,q0,q1,q2,q3,q4,hcl];rfl) rfl ⟨?_,Um hb4 (Oa2 _) _ _ _ _ _⟩
    rw[HP.out]
   have hsn:((xs.take (k+1)).map fun v=>v.k != 0).map Value.bool=((xs.take k).map fun v=>v.k != 0).map Value.bool++[.bool (xs[k].k != 0)]:=by
    rw[Oc4 hlt,Ob8,Ob8];rfl
   have hts:=Jsh (xs.take k) xs[k]
   rw[←Oc4 hlt]at hts
   have hle:=Zy (xs.take k)
   have hle2:(xs.take k).length≤k:=List.length_take_le _ _
   have hhl:(Jz (xs.take k)).length≤64:=by omega
   have hbl:(((xs.take k).map fun v=>v.k != 0).map Value.bool).length≤64:=by rw[Oa6,Oa6,Oc7];omega
   have HSN:Hid _:=hsn
   have HTS:Hid _:=hts
   have HO:Hid (okB t xs[k].k xs[k].n xs[k].s=true):=ho
   clear hsn hts hle hle2
   generalize ((xs.take k).map fun v=>v.k != 0).map Value.bool=BL at *
   generalize Jz (xs.take k)=HL at *
   go_wp2_with fail
   refine(Kwt _ _ _ _ _).mono ?_
   rintro e w2 ⟨rfl,hb2⟩
   rw[ho]
   clear ho
   have hth2:=hth.below hb2
   have hlv2:=hlv.below hb2
   have hb02:=Jb hbw hb2
   have hs2:=hb02.size
   clear x1 x2 x3
   obtain⟨y1,y2,y3⟩:=HC.out _ hb02
   have hthB:=fun x hx=>(Je hth2 (g:=x) hx)
   have hlvB:=fun x hx=>(Je hlv2 (g:=x) hx)
   by_cases h0:xs[k].k=0
   ·have h0':(xs[k].k != 0)=false:=by simp[h0]
    have HT2:Hid (Jz (xs.take (k+1))=HL):=by show _=_;rw[HTS.out,if_pos h0]
    have H0:Hid (xs[k].k=0):=h0
    clear h0
    go_wp2_with (at_builtin;go_must (refine Ks (by rfl) _ _ 193 4 _ 1 Ktf (by rfl) (by decide) (by kernel_rfl) (by rfl) w0.heap.size _ _ (by rfl) (hth2.alloc _) ⟨w2.heap.size,0,none⟩ 1 [.bool false] (by rfl) (by exact Ua _ _ _) (by intro u hu;simp at hu;subst hu;rfl) (by simp only[List.length_cons,List.length_nil];omega) (by simp;omega) ?_);intro sv' w3 h1 h2 h3;have hb03:=Jy (Jc hb02 (.cells #[.bool false] 4)) h2 fun x hx=>(hthB x hx).1;obtain⟨z1,z2,z3⟩:=HC.out _ hb03)
    have hlv3:Yt w3 w0.heap.size u10 HL:=Jl (hlv2.alloc _) fun x hx=>h2.block x (by have:=(hlvB x hx).2;simp;omega) fun e=>hn3 x e.symm hx
    go_roundw
    case rel=>
     refine⟨k+1,by omega,by go_num,⟨_,rfl⟩,?_,by rw[HT2.out];exact hlv3,?_,hb03,?_⟩
     ·rw[HSN.out]
      have:(xs[k].k != 0)=false:=by simp[H0.out]
      rw[this];exact h1
     ·intro x hx e
      have hl:=(hlvB x e).2
      rcases h3 with e3|e3
      ·exact hn3 x (e3.symm.trans hx) e
      rw[e3]at hx;simp at hx;omega
     intro j hj hjk
     by_cases e:j=k
     ·subst e;exact HO.out
     exact hall.out j hj (by omega)
    case measure=>simp[intOf];omega
   have h0':(xs[k].k != 0)=true:=by simp[h0]
   have HT2:Hid (Jz (xs.take (k+1))=HL++[xs[k]]):=by show _=_;rw[HTS.out,if_neg h0]
   have H0:Hid (¬ xs[k].k=0):=h0
   clear h0
   go_wp2_with (first
    |(at_builtin;refine Ks (by rfl) _ _ 193 4 _ 1 Ktf (by rfl) (by decide) (by kernel_rfl) (by rfl) w0.heap.size _ _ (by rfl) (hth2.alloc _) ⟨w2.heap.size,0,none⟩ 1 [.bool true] (by rfl) (by exact Ua _ _ _) (by intro u hu;simp at hu;subst hu;rfl) (by simp only[List.length_cons,List.length_nil];omega) (by simp;omega) ?_;intro sv' w3 h1 h2 h3;have hb03:=Jy (Jc hb02 (.cells #[.bool true] 4)) h2 fun x hx=>(hthB x hx).1;obtain⟨z1,z2,z3⟩:=HC.out _ hb03;have hs3:=hb03.size;have hlv3:Yt w3 w0.heap.size u10 HL:=Jl (hlv2.alloc _) (fun x hx=>h2.block x (by have:=(hlvB x hx).2;simp;omega) fun e=>hn3 x e.symm hx))
    |(at_builtin;refine Jcj (by rfl) _ _ (by rfl) w0.heap.size _ _ (by rfl) (hlv3.alloc _) _ _ xs[k] (by rfl) (by refine⟨?_,?_,?_⟩<;>simp) (by omega) (by simp;omega) ?_;intro sv2 w4 g1 g2 g3))
   have hlv3B:=fun x hx=>(Je hlv3 (g:=x) hx)
   have hsvB:=fun x hx=>(Je h1 (g:=x) hx)
   have hdis:∀ x,sv'.ownBlock=some x→u10.ownBlock≠some x:=by
    intro x hx e
    have hl:=(hlvB x e).2
    rcases h3 with e3|e3
    ·exact hn3 x (e3.symm.trans hx) e
    rw[e3]at hx;simp at hx;omega
   go_roundw
   case rel=>
    refine⟨k+1,by omega,by go_num,⟨_,rfl⟩,?_,by rw[HT2.out];exact g1,?_,Jy (Jc hb03 _) g2 fun x hx=>(hlv3B x hx).1,?_⟩
    ·rw[HSN.out]
     have:(xs[k].k != 0)=true:=by simp[H0.out]
     rw[this]
     exact Jl (Jbm h1 _) fun x hx=>g2.block x (by have:=(hsvB x hx).2;simp;omega) fun e=>hdis x hx e.symm
    ·intro x hx e
     have hl:=(hsvB x hx).2
     rcases g3 with e3|e3
     ·exact hdis x hx (e3.symm.trans e)
     rw[e3]at e;simp at e;omega
    intro j hj hjk
    by_cases e:j=k
    ·subst e;exact HO.out
    exact hall.out j hj (by omega)
   case measure=>simp[intOf];omega
  have hok:Jdq t xs:=⟨h64,fun j hj=>hall.out j hj (by omega)⟩
  have e:xs.take k=xs:=Oc8 (by omega)
  rw[e]at hth hlv
  clear e
  obtain⟨a5,cap5,rfl,hc5⟩:=hth.cells
  obtain⟨a6,cap6,rfl,hv6⟩:=hlv.vals
  have hhl:(Jz xs).length≤64:=by have:=Zy xs;omega
  have hgd:=Jgz t xs hok
  have hbl2:=Kzq t xs hok
  have hbe:=Kyy t how (Jz xs) hhl hgd
  have hzb:(Qw (Jdt t how (Jz xs))).size≤6000:=by rw[Jb2];exact hbe
  have hbl:(xs.map fun v=>v.k != 0).length≤64:=by simpa using h64
  have hpk:=Qb (xs.map fun v=>v.k != 0)
  have hzp:(Qw (Kk (xs.map fun v=>v.k != 0))).size≤100:=by rw[Jb2,hpk];omega
  have hs1:=Ksv
  have hse:Qw (Jav t how xs)=Qw [low t]++Qw [low how]++Qw [low xs.length]++Qw (Kk (xs.map fun v=>v.k != 0))++Qw (Jdt t how (Jz xs)):=by
   unfold Jav Kz
   rw[Kr1,Kr1,Kr1,Kr1]
   simp
  have HSE:Hid _:=hse
  have hdi:=HDI.out hok
  have hokk:=HOK.out hok
  rw[Oa6]
  clear hse hbe hpk hth hlv hn3
  generalize (xs.map fun v=>v.k != 0)=BL at *
  generalize Jz xs=HL at *
  by_cases h1:how=1
  ·subst h1
   go_wp2_with fail
   refine(Ktq a6 cap6 HL _ hhl hv6).mono ?_
   rintro e w3 ⟨sv3,rfl,hown3,hb3⟩
   obtain⟨a7,cap7,rfl,_⟩:=hown3.vals
   clear hown3
   have hb03:=Jb hbw hb3
   by_cases h16:16<(Ym [] HL).length
   ·have HP:Hid (Jev t 1 xs=([],2)):=hdi trivial h16
    clear hdi hokk
    have h16':(16:Int)<((Ym [] HL).length:Int):=by omega
    generalize Ym [] HL=d at *
    go_wp2_with fail
    refine(Kse _ _).mono ?_
    rintro e w4 ⟨rfl,hb4⟩
    have hb04:=Jb hb03 hb4
    obtain⟨k1,k2⟩:=Kx hb04
    have hb4':=Jb hb0 hb04
    go_wp2
    refine bodyPost_ret (v:=.tuple #[.string (Qw []),fault 2]) (by simp[results,results65,go_sem,k1,q0,q1,q2,q3,q4,hcl];rfl) rfl ⟨?_,Um hb4' (Oa2 _) _ _ _ _ _⟩
    rw[HP.out]
   have HP:Hid (Jev t 1 xs=(Jav t 1 xs,0)):=hokk fun h=>h16 h.2
   clear hdi hokk
   have h16':((Ym [] HL).length:Int)≤(16:Int):=by omega
   generalize Ym [] HL=d at *
   replace hc5:=hc5.below hb3
   replace hv6:=hv6.below hb3
   go_wp2_with fail
   refine(Kr3 _ _).mono ?_
   rintro e w4 ⟨rfl,hb4⟩
   go_wp2_with fail
   refine(Kr3 _ _).mono ?_
   rintro e w5 ⟨rfl,hb5⟩
   go_wp2_with fail
   refine(Kr3 _ _).mono ?_
   rintro e w6 ⟨rfl,hb6⟩
   have hb46:=Jb hb4 (Jb hb5 hb6)
   go_wp2_with fail
   refine(Ksh a5 cap5 BL _ (by omega) (hc5.below hb46)).mono ?_
   rintro e w7 ⟨rfl,hb7⟩
   have hb47:=Jb hb46 hb7
   go_wp2_with fail
   refine(Kv8 t 1 a6 cap6 HL _ (.inr (.inl rfl)) hhl hgd hbl2 (hv6.below hb47)).mono ?_
   rintro e w8 ⟨rfl,hb8⟩
   go_wp2_with fail
   refine(Kta _).mono ?_
   rintro e w9 ⟨rfl,hb9⟩
   have hb09:=Jb hb03 (Jb hb47 (Jb hb8 hb9))
   obtain⟨k1,k2⟩:=Kx hb09
   have hb4':=Jb hb0 hb09
   generalize Jdt t 1 HL=BE at *
   go_wp2
   refine bodyPost_ret (v:=.tuple #[.string (Qw [low t]++Qw [low 1]++Qw [low xs.length]++Qw (Kk BL)++Qw BE),fault 0]) (by simp[results,results65,go_sem,k1,q0,q1,q2,q3,q4,hcl]) rfl ⟨?_,Um hb4' (Oa2 _) _ _ _ _ _⟩
   rw[HP.out]
   simp only
   rw[HSE.out]
  have HP:Hid (Jev t how xs=(Jav t how xs,0)):=hokk fun h=>h1 h.1
  have h1':(how==1)=false:=by simp[h1]
  have HH:Hid (how=0∨how=1∨how=2∨how=3):=hhow
  clear hdi hokk h1 hhow
  go_wp2_with fail
  refine(Kr3 _ _).mono ?_
  rintro e w4 ⟨rfl,hb4⟩
  go_wp2_with fail
  refine(Kr3 _ _).mono ?_
  rintro e w5 ⟨rfl,hb5⟩
  go_wp2_with fail
  refine(Kr3 _ _).mono ?_
  rintro e w6 ⟨rfl,hb6⟩
  have hb46:=Jb hb4 (Jb hb5 hb6)
  go_wp2_with fail
  refine(Ksh a5 cap5 BL _ (by omega) (hc5.below hb46)).mono ?_
  rintro e w7 ⟨rfl,hb7⟩
  have hb47:=Jb hb46 hb7
  go_wp2_with fail
  refine(Kv8 t how a6 cap6 HL _ HH.out hhl hgd hbl2 (hv6.below hb47)).mono ?_
  rintro e w8 ⟨rfl,hb8⟩
  go_wp2_with fail
  refine(Kta _).mono ?_
  rintro e w9 ⟨rfl,hb9⟩
  have hb09:=Jb hbw (Jb hb47 (Jb hb8 hb9))
  obtain⟨k1,k2⟩:=Kx hb09
  have hb4':=Jb hb0 hb09
  generalize Jdt t how HL=BE at *
  go_wp2
  refine bodyPost_ret (v:=.tuple #[.string (Qw [low t]++Qw [low how]++Qw [low xs.length]++Qw (Kk BL)++Qw BE),fault 0]) (by simp[results,results65,go_sem,k1,q0,q1,q2,q3,q4,hcl]) rfl ⟨?_,Um hb4' (Oa2 _) _ _ _ _ _⟩
  rw[HP.out]
  simp only
  rw[HSE.out]
theorem Kz1 (t how:Int)(a:Option Addr)(cap:Nat)(xs:List V)(w:World)(hx:Jv w a xs) :
  Calls prog 65 #[.int .i64 t,.int .i64 how,.slice a xs.length cap] w fun e w'=>e=.returned (.tuple #[.string (Qw (Jev t how xs).1),fault (Jev t how xs).2])∧Below w.heap.size w w':=by
 by_cases h:way t how=true∧xs.length≤64
 ·exact Kx6 t how a cap xs w hx h.1 h.2
 have e:Jev t how xs=([],1):=by
  unfold Jev
  rw[if_neg]
  rw[Og5]
  exact fun e=>h ⟨e.1,((Jfd t xs).1 e.2).1⟩
 rw[e]
 exact Kzg t how a cap xs w h
end
section
open Go.RowKit
theorem Jyf : (Tryz.prog.fieldsOf 68).toList.map (fun f => (f.name, f.type, f.offset)) = [("Code", 66, 0), ("Node", 3, 1), ("Row", 3, 2), ("Column", 3, 3), ("Page", 3, 4)] := by kernel_rfl
theorem Kef:Tryz.prog.underlying 68=some (.struct (Tryz.prog.fieldsOf 68)):=by kernel_rfl
theorem Kh3:Tryz.prog.stoodInHeld 68=false:=by kernel_rfl
end
section
open Go.RowKit Tryz
theorem Kx8 (a:Option Addr)(cap:Nat)(xs:List V)(w:World)(bM:xs.length≤4398046511103)(bL:Jv w a xs) :
  Calls prog 61 #[.slice a xs.length cap] w fun e w'=>e=.returned (.slice (some ⟨w.heap.size,0,none⟩) xs.length (xs.length+2))∧Kv w' w.heap.size (xs++[Kr9]++[Kr9]) []∧Below w.heap.size w w':=by
 obtain⟨i,hi,bB,bz,bk⟩:=info_parts Jow
 have bn:∀ W,(Instr.makeSlice 56 (.int .i64 ((xs.length:Int)+2)) (.int .i64 ((xs.length:Int)+2))).run prog W=.ok (.slice (some ⟨W.heap.size,0,none⟩) (xs.length+2) (xs.length+2)) (W.alloc (.cells (madeCells #[.int .i64 0,.int .i64 0,.string ⟨#[]⟩] ((xs.length+2)*3)) 55)):=by
  intro W
  have br:=run_make (P:=prog) W 56 55 i _ (by kernel_rfl) hi bB .i64 .i64 ((xs.length:Int)+2) ((xs.length:Int)+2) (by omega) (Int.le_refl _) (by rw[bk];omega) (by omega)
  have e:((xs.length:Int)+2).toNat=xs.length+2:=by omega
  rw[e,bz]at br
  exact br
 obtain⟨A,O⟩:∃ A,A=madeCells #[.int .i64 0,.int .i64 0,.string ⟨#[]⟩] ((xs.length+2)*3):=⟨_,rfl⟩
 have bG:A.size=(xs.length+2)*3:=by rw[O,size_madeCells]
 rw[←O]at bn
 clear O hi bB bz bk
 have R:Below w.heap.size w (w.alloc (.cells A 55)):=(Oa5 _ _).alloc (Oa2 _) _
 have bl:=Kyo (w.alloc (.cells A 55)) 3 w.heap.size (xs.length+2) (xs.length+2) a cap xs (bL.below R) A (heap_alloc_new w _) (by omega) (by omega)
 obtain⟨T,H⟩:∃ T,T=(w.alloc (.cells A 55)).setRow w.heap.size (xs.flatMap V.cells++A.toList.drop (xs.length*3)).toArray:=⟨_,rfl⟩
 have K:Kv T w.heap.size xs (A.toList.drop (xs.length*3)):=⟨_,by rw[H];exact setRow_heap _ _ A _ _ _ (heap_alloc_new w _),rfl⟩
 have bJ:Below w.heap.size w T:=by
  refine R.trans ⟨by rw[H];rfl,by rw[H];rfl,by rw[H];rfl,by rw[H];simp[World.setRow],fun k hk=>?_⟩
  rw[H]
  exact setRow_other _ _ _ _ (by omega)
 obtain⟨Y,Z,ba,L,M,N,bA⟩:∃ Y Z ba L M N,A.toList.drop (xs.length*3)=[Y,Z,ba,L,M,N]:=by
  have bK:(A.toList.drop (xs.length*3)).length=6:=by rw[Of7,Array.length_toList,bG];omega
  match A.toList.drop (xs.length*3),bK with
  |[Y,Z,ba,L,M,N],_=>exact⟨_,_,_,_,_,_,rfl⟩
 rw[bA]at K
 rw[←H]at bl
 clear H bA R
 go_enter func61,ntmps61
 go_wp2_with fail
 clear bl bn
 refine(Ksn 0 T).mono ?_
 rintro e bC ⟨rfl,bi⟩
 have I:=K.of_block (bi.block _ K.lt)
 have c0:=I.cell (j:=0) rfl
 have c1:=I.cell (j:=1) rfl
 have c2:=I.cell (j:=2) rfl
 rw[Nat.add_zero]at c0
 obtain⟨c0,bb⟩:=c0
 obtain⟨c1,bc⟩:=c1
 obtain⟨c2,bf⟩:=c2
 have bu:=I.set3 Kr9 xs.length rfl
 have bH:Below w.heap.size w (((bC.setCell ⟨w.heap.size,xs.length*3,none⟩ (.int .i64 (-7))).setCell ⟨w.heap.size,xs.length*3+1,none⟩ (.int .i64 0)).setCell ⟨w.heap.size,xs.length*3+2,none⟩ (.string ⟨#[109,97,114,107]⟩)):=
  (((Jb bJ bi).setCell (p:=⟨w.heap.size,xs.length*3,none⟩) (Oa2 _) _).setCell (p:=⟨w.heap.size,xs.length*3+1,none⟩) (Oa2 _) _).setCell (p:=⟨w.heap.size,xs.length*3+2,none⟩) (Oa2 _) _
 go_wp2_with fail
 generalize bh:(((bC.setCell ⟨w.heap.size,xs.length*3,none⟩ (.int .i64 (-7))).setCell ⟨w.heap.size,xs.length*3+1,none⟩ (.int .i64 0)).setCell ⟨w.heap.size,xs.length*3+2,none⟩ (.string ⟨#[109,97,114,107]⟩))=bD at *
 have X:Kv bD w.heap.size (xs++[Kr9]) [L,M,N]:=by rw[←bh];exact bu
 clear bu bh c0 c1 c2 bb bc bf I K
 refine(Ksn 0 bD).mono ?_
 rintro e w4 ⟨rfl,bj⟩
 have J:=X.of_block (bj.block _ X.lt)
 have U:(xs++[Kr9]).length=xs.length+1:=by simp
 have c0:=J.cell (j:=0) rfl
 have c1:=J.cell (j:=1) rfl
 have c2:=J.cell (j:=2) rfl
 rw[U]at c0 c1 c2
 rw[Nat.add_zero]at c0
 obtain⟨c0,bb⟩:=c0
 obtain⟨c1,bc⟩:=c1
 obtain⟨c2,bf⟩:=c2
 have bx:=J.set3 Kr9 (xs.length+1) U.symm
 have bE:Hid _:=bx
 have bI:=Jb bH bj
 clear U bx J X
 go_wp2
 go_ret
 refine⟨rfl,bE.out,((bI.setCell (p:=⟨w.heap.size,(xs.length+1)*3,none⟩) (Oa2 _) _).setCell (p:=⟨w.heap.size,(xs.length+1)*3+1,none⟩) (Oa2 _) _).setCell (p:=⟨w.heap.size,(xs.length+1)*3+2,none⟩) (Oa2 _) _⟩
theorem Kz2 (g:Nat)(a:Option Addr)(cap:Nat)(xs:List V)(w:World)(bU:xs.length≤4398046511103)(X:Kv w g (xs++[Kr9]++[Kr9]) [])(bH:Jv w a xs) :
  Calls prog 63 #[.slice (some ⟨g,0,none⟩) xs.length (xs.length+2),.slice a xs.length cap] w fun e w'=>e=.returned (.bool true)∧w.grownBy w' (some g):=by
 have bc:=X.lt
 have A:=X.vals
 have bG:Jv w (some ⟨g,0,none⟩) xs:=by
  rcases A with A|⟨b,o,e,bu,A⟩
  ·simp at A
  refine .inr ⟨b,o,e,bu,fun i v hi=>A i v ?_⟩
  have bz:i<xs.length:=by
   rcases Oc1 i xs.length with O|O
   ·exact O
   rw[Ob4 O]at hi;simp at hi
  rw[Od8,Ob0 bz];exact hi
 obtain⟨b1,o1,Y,_,J,m2,m3⟩:=A.at (i:=xs.length) (by simp)
 obtain⟨b2,o2,Z,_,K,L,M⟩:=A.at (i:=xs.length+1) (by simp)
 simp at Y Z
 obtain⟨rfl,rfl⟩:=Y
 obtain⟨rfl,rfl⟩:=Z
 have bh:(xs++[Kr9]++[Kr9])[xs.length]'(by simp)=Kr9:=by simp
 have bi:(xs++[Kr9]++[Kr9])[xs.length+1]'(by simp)=Kr9:=by simp
 rw[bh]at J m2 m3
 rw[bi]at K L M
 simp only[Kr9,Od0]at J m2 m3 K L M
 clear bh bi A
 have bC:∀ W,(binOp .eql 55 (.agg #[.int .i64 (-7),.int .i64 0,.string ⟨#[109,97,114,107]⟩]) (.agg #[.int .i64 (-7),.int .i64 0,.string ⟨#[109,97,114,107]⟩])).run prog W=.ok (.bool true) W:=Jhz Kr9 Kr9 rfl
 have bB:xs.length≤maxLen:=by unfold maxLen;omega
 go_enter func63,ntmps63
 go_wp2_with fail
 refine(Ktv (some ⟨g,0,none⟩) a _ _ xs xs w bB bG bH true ⟨fun _=>rfl,fun _=>rfl⟩).mono ?_
 rintro e w1 ⟨rfl,R⟩
 obtain⟨k1,bO⟩:=Kx R
 have bf:g<w1.heap.size:=by have:=R.size;omega
 rw[←k1 _ _ bc]at J m2 m3 K L M
 clear k1 bO
 go_wp2_with fail
 have bI:(0:Int)≤(xs.length:Int):=by omega
 have bJ:(xs.length:Int)<(xs.length:Int)+2:=by omega
 have bK:(0:Int)≤(xs.length:Int)+1:=by omega
 have bL:(xs.length:Int)+1<(xs.length:Int)+2:=by omega
 have bM:IntKind.i64.wrap ((xs.length:Int)+1)=(xs.length:Int)+1:=by rw[Od4];omega
 have bN:((xs.length:Int)+1).toNat=xs.length+1:=by omega
 go_region_held3 (fun W=>W.cell? ⟨g,xs.length*3,none⟩=some (.int .i64 (-7))∧W.cell? ⟨g,xs.length*3+1,none⟩=some (.int .i64 0)∧W.cell? ⟨g,xs.length*3+2,none⟩=some (.string ⟨#[109,97,114,107]⟩)∧W.cell? ⟨g,(xs.length+1)*3,none⟩=some (.int .i64 (-7))∧W.cell? ⟨g,(xs.length+1)*3+1,none⟩=some (.int .i64 0)∧W.cell? ⟨g,(xs.length+1)*3+2,none⟩=some (.string ⟨#[109,97,114,107]⟩))
  (first|go_keep|(go_split_ands;refine⟨?_,?_,?_,?_,?_,?_⟩<;>(rw[(Kx I).1 _ _ (by first|exact bf|assumption)];assumption)))
  (first|(go_at_call 32;refine(Ksn _ _).mono ?_;rintro e N ⟨rfl,I⟩;have bS:g<N.heap.size:=Oc2 (by first|exact bf|assumption) I.size;have U:Below w.heap.size w N:=(by first|exact Jb R (Jw I)|exact Jb U I)))
 clear I J m2 m3 K L M bI bJ bK bL bM bN bC
 have bD:Kv N g (xs++[Kr9]++[Kr9]) []:=X.of_block (U.block _ bc)
 have bx:w.grownBy N (some g):=Qq U
 go_wp2
 go_loopw [8] (fun i wr=>∃ (k:Nat) (H:List V),k≤xs.length∧i=.int .i64 k∧H.length=xs.length+2∧Kv wr g H []∧w.grownBy wr (some g)) (fun i _=>xs.length-(intOf i).toNat)
 case atStart=>exact⟨0,_,by omega,rfl,by simp,bD,bx⟩
 case round=>
  obtain⟨k,H,hk,rfl,bl,bj,bb⟩:=hrel
  by_cases bT:k<xs.length
  ·go_wp2_with fail
   refine(Ksn 0 _).mono ?_
   rintro e bV ⟨rfl,ba⟩
   have bE:=bj.of_block (ba.block _ bj.lt)
   have bA:k<H.length:=by omega
   have br:Hid (H.length=xs.length+2):=bl
   clear bl
   obtain⟨⟨⟨c0,bP⟩,⟨c1,bQ⟩,⟨c2,bR⟩⟩,bk⟩:=bE.at3 Kr9 k bA
   have bn:Hid _:=bk
   clear bk
   go_wp2
   go_roundw
   case rel=>
    refine⟨k+1,H.set k Kr9,by omega,by go_num,by rw[Of8];exact br.out,bn.out,?_⟩
    exact Ka4 (Ka4 (Ka4 (Ut bb (Qq ba)) _ _) _ _) _ _
   case measure=>simp[intOf];omega
  go_wp2
  go_ret
  exact⟨rfl,bb⟩
end
section
open Go.RowKit
end
end Go.Proofs.YtcaocabmioafcaaGreatDoor
