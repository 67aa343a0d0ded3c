/- A store's calls that tell: Tables, Used, Scan. -/
import Derived.Test.YtjbenncelbpbnaaGreatDoorTt
set_option maxHeartbeats 1000000
set_option maxRecDepth 100000
namespace Go.Proofs.YtjbenncelbpbnaaGreatDoor
open Go.RowKit Go.Shelf Tryz
def Jdu (w:World)(st d s:Nat):Prop:=w.heap[st]?=some (.cells #[.pointer (some ⟨d,0,none⟩),.pointer (some ⟨s,0,none⟩)] 74 (0,0))
theorem Jdu.field {w st d s}(h:Jdu w st d s):w.cell? ⟨st,0,none⟩=some (.pointer (some ⟨d,0,none⟩))/\w.cell? ⟨st,1,none⟩=some (.pointer (some ⟨s,0,none⟩)):=by
 unfold Jdu at h;simp[World.cell?,h]
theorem Qbg st w F s d D(H:Jdu w st d s)(y:Zb w F d D):
  Calls prog 8 #[.pointer (some ⟨st,0,none⟩)] w fun e w'=>e=.returned (.int .i64 ((Js D.pages:Nat):Int))/\w'=w:=by
 obtain⟨c0,_⟩:=H.field;have hn:=Kzd d w F D y;clear y H;go_enter func8,ntmps8
 go_wp2_with (go_at_call 23;refine hn.mono ?_;rintro e I ⟨rfl,rfl⟩)
 go_ret
 exact⟨rfl,rfl⟩
def Jr7 (w:World)(r:Option (List (List V)⊕Nat))(e:Ending)(w':World):Prop:=
 Below w.heap.size w w'/\match r with
  |none=>e=.returned (.tuple #[.slice none 0 0,Jbz 4 (-1) (-1)])
  |some (.inl rs)=>∃ g bs,e=.returned (.tuple #[.slice (some ⟨g,0,none⟩) rs.length rs.length,Jb6 0])/\Jcu w' w.heap.size g bs rs
  |some (.inr j)=>e=.returned (.tuple #[.slice none 0 0,Jbz 7 (-1) (j:Int)])
theorem Jhu rv v c nd row col pg w(hv:∃ ty x,v=.iface ty x)(hF:∀ W,Below w.heap.size w W->Calls prog 30 #[v] W fun e w'=>e=.returned (Ko c nd row col pg)/\Below W.heap.size W w'):
  Calls prog 25 #[rv,v] w fun e w'=>e=.returned (.tuple #[.slice none 0 0,Ko c nd row col pg])/\Below w.heap.size w w':=by
 obtain⟨ty,x,rfl⟩:=hv;have y:Below w.heap.size w (w.alloc (.cells #[.int .i64 0,.int .i64 0,.int .i64 0,.int .i64 0,.int .i64 0] 51)):=(Oa5 _ _).alloc (Oa2 _) _;have I:=hF _ y;clear hF;go_enter func25,ntmps25
 go_wp2_with fail
 refine I.mono ?_;rintro e U ⟨rfl,H⟩;obtain⟨M,O⟩:=Kx H;have K:=Jb y H;go_wp2;exact bodyPost_ret (v:=.tuple #[.slice none 0 0,Ko c nd row col pg]) (by simp[results,results25,go_sem,M]) rfl ⟨rfl,Um K (Oa2 _) _ _ _ _ _⟩
theorem zal {p:Prop}(h:p:=by rw[Oa4 _ _ _ _ (by show b≠w.heap.size;omega),Oa4 _ _ _ _ (by show b≠w.heap.size;omega),Oa4 _ _ _ _ (by show b≠w.heap.size;omega),Oa4 _ _ _ _ (by show b≠w.heap.size;omega),Oa4 _ _ _ _ (by show b≠w.heap.size;omega)]):p:=h
theorem Jz3 g bh cs n B w(U:Jar w B g bh cs)(bx:∀ i,i<cs.length->(cs.getD i []).length=n)(bi:1<=cs.length)(bj:cs.length<=1000)(hn:n<=10000):
  Calls prog 25 #[.slice (some ⟨g,0,none⟩) cs.length cs.length,.nilIface] w fun e w'=>Below w.heap.size w w'/\∃ O bs,e=.returned (.tuple #[.slice (some ⟨O,0,none⟩) n n,Jb6 0])/\Jcu w' w.heap.size O bs (Qf n cs):=by
 have Y:Below w.heap.size w (w.alloc (.cells #[.int .i64 0,.int .i64 0,.int .i64 0,.int .i64 0,.int .i64 0] 51)):=(Oa5 _ _).alloc (Oa2 _) _;have bD:=run_neq_nil_nil (P:=prog);have H:=U.below Y;have bf:=Jo4 g cs.length bh cs n _ (Kua H.row) H.len (fun i hi=>(H.own i hi).vals) bx bi bj hn;clear U H;go_enter func25,ntmps25
 go_wp2_with fail
 refine bf.mono ?_;rintro e w1 ⟨rfl,⟨I,bA⟩,Z⟩;clear bf;go_wp2_with fail
 refine(Jjq w1).mono ?_;rintro e bG ⟨rfl,K⟩;have bk:=Jb Y Z;obtain⟨bB,bE⟩:=Kx (Jb Z K);have br:=Jb bk K;have M:=bA.below K;rw[Oa7]at M;have bz:=M.from_;have low:∀ X:World,Jcu X (w.heap.size+1) (w.heap.size+1) I (Qf n cs)->Jcu X w.heap.size (w.heap.size+1) I (Qf n cs):=fun X y=>⟨y.len,y.outer,y.rows,⟨by have:=y.from_.1;omega,fun b hb=>⟨by have:=(y.from_.2 b hb).1;omega,(y.from_.2 b hb).2⟩⟩,y.nodup⟩;go_wp2;refine bodyPost_ret (v:=.tuple #[.slice (some ⟨w.heap.size+1,0,none⟩) n n,Jb6 0]) (by simp[results,results25,go_sem,bB]) rfl ⟨Um br (Oa2 _) _ _ _ _ _,?_⟩;refine⟨w.heap.size+1,I,rfl,?_⟩;refine low _ (M.of_blocks ?_ (fun b hb=>?_))
 ·rw[Oa4 _ _ _ _ (by show w.heap.size+1≠w.heap.size;omega),Oa4 _ _ _ _ (by show w.heap.size+1≠w.heap.size;omega),Oa4 _ _ _ _ (by show w.heap.size+1≠w.heap.size;omega),Oa4 _ _ _ _ (by show w.heap.size+1≠w.heap.size;omega),Oa4 _ _ _ _ (by show w.heap.size+1≠w.heap.size;omega)]
 have bC:=(bz.2 b hb).1;exact zal
theorem Kzs st n w F G s d D Ts sv bs(bx:Jdu w st d s)(h:Jfl w G s d Ts sv bs)(bh:Zb w F d D)(Y:∀ T∈Ts,Jid D T)a0 a1 a2 et q wr pg(bD:Jf0 w a0 a1 a2)(br:Jkn w a0 a1 a2 et q wr pg){x}(M:Jf8 D Ts n=some (.inl x)):
  Calls prog 27 #[.pointer (some ⟨st,0,none⟩),.string n] w fun e w'=>Jr7 w (Jf8 D Ts n) e w':=by
 have I:Below w.heap.size w (w.alloc (.cells #[.int .i64 0,.int .i64 0,.int .i64 0,.int .i64 0,.int .i64 0] 51)):=(Oa5 _ _).alloc (Oa2 _) _;have c1:=Ja I bx.field.2;have hn:=Jou n _ F G s d D Ts sv bs (h.below I) (bh.below I) Y a0 a1 a2 (bD.below I) et pg (br.below I).cp (br.below I).ct;have bE:=Keq D Ts n Y;clear h bh Y bx;go_enter func27,ntmps27
 go_wp2_with fail
 refine hn.mono ?_;clear hn;rintro e w1 ⟨U,hp⟩;have bA:=Jb I U;rcases bE with⟨hr,K⟩|⟨j,hr,K⟩|⟨cs,m,hr,K,bN,bC,bL,bf⟩
 ·rw[K]at M;cases M
 ·rw[K]at M;cases M
 rw[hr]at hp;obtain⟨g,bJ,rfl,bj⟩:=hp;have bz:=zh K;have bG:=Jz3 g bJ cs m _ w1 bj bf bC zo zo;clear hr K M bf bj;go_wp2_with fail
 refine bG.mono ?_;rintro e bP ⟨Z,y,O,rfl,bk⟩;obtain⟨bI,bO⟩:=Kx (Jb U Z);have bB:=Jb bA Z;have bi:=bk.from_;have bH:=U.size;rw[Oa7]at bH;have low:∀ X:World,Jcu X w1.heap.size y O (Qf m cs)->Jcu X w.heap.size y O (Qf m cs):=fun X H=>⟨H.len,H.outer,H.rows,⟨by have:=H.from_.1;omega,fun b hb=>⟨by have:=(H.from_.2 b hb).1;omega,(H.from_.2 b hb).2⟩⟩,H.nodup⟩;go_wp2;refine bodyPost_ret (v:=.tuple #[.slice (some ⟨y,0,none⟩) m m,Jb6 0]) (by simp[results,results27,go_sem,bI]) rfl ⟨Um bB (Oa2 _) _ _ _ _ _,?_⟩;rw[bz.out];refine⟨y,O,by rw[Uu],?_⟩;refine low _ (bk.of_blocks ?_ (fun b hb=>?_))
 ·have bM:=bi.1;rw[Oa4 _ _ _ _ (by show y≠w.heap.size;omega),Oa4 _ _ _ _ (by show y≠w.heap.size;omega),Oa4 _ _ _ _ (by show y≠w.heap.size;omega),Oa4 _ _ _ _ (by show y≠w.heap.size;omega),Oa4 _ _ _ _ (by show y≠w.heap.size;omega)]
 have bK:=(bi.2 b hb).1;exact zal
theorem Zh (W:World)(B:Nat)(y H I K M:Value)(k:Nat)(hk:k≠B):(((((W.setCell ⟨B,0,none⟩ y).setCell ⟨B,1,none⟩ H).setCell ⟨B,2,none⟩ I).setCell ⟨B,3,none⟩ K).setCell ⟨B,4,none⟩ M).heap[k]?=W.heap[k]?:=by
 rw[Oa4 _ _ _ _ hk,Oa4 _ _ _ _ hk,Oa4 _ _ _ _ hk,Oa4 _ _ _ _ hk,Oa4 _ _ _ _ hk]
theorem Jg2 (W:World)(B:Nat)(y H I K M:Value):(((((W.setCell ⟨B,0,none⟩ y).setCell ⟨B,1,none⟩ H).setCell ⟨B,2,none⟩ I).setCell ⟨B,3,none⟩ K).setCell ⟨B,4,none⟩ M).heap.size=W.heap.size:=by simp[World.setCell]
