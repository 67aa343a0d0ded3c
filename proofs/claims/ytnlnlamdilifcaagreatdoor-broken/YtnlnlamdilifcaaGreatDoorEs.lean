/- How many bits a number below 2^64 needs: math/bits.Len64, by Go's own text. -/
import Derived.Test.YtnlnlamdilifcaaGreatDoorEr
import Derived.Deep.RegionLaw
import Derived.Deep.AppendLies
import Derived.Deep.DrawnRows
set_option maxHeartbeats 2000000
set_option maxRecDepth 100000
namespace Go.Proofs.YtnlnlamdilifcaaGreatDoor
section
open Go.RowKit Tryz
theorem Je4 n m x(y:x<256)(H:m<=56)(h:bitLen n=m+bitLen x):wrap64 ((m:Int)+wrap64 ((bitLen (x % 256):Nat):Int))=((bitLen n:Nat):Int):=by
 rw[Oi5 y,h];have:=bitLen_le8 x y;generalize bitLen x=b at *;unfold wrap64;omega
theorem Kcl n(y:n<256):wrap64 (wrap64 ((bitLen (n % 256):Nat):Int))=((bitLen n:Nat):Int):=by
 rw[Oi5 y];have:=bitLen_le8 n y;generalize bitLen n=b at *;unfold wrap64;omega
theorem bl8 x(h:256<=x):bitLen x=8+bitLen (x / 256):=bitLen_shift x 8 zo
theorem Kig x(h:65536<=x):bitLen x=16+bitLen (x / 65536):=bitLen_shift x 16 zo
theorem Kin x(h:4294967296<=x):bitLen x=32+bitLen (x / 4294967296):=bitLen_shift x 32 zo
theorem Jy4 (n:Nat)w(Y:n<18446744073709551616):
  Cq 141 #[.int .u64 n] w fun e w'=>e=.returned (Iq (bitLen n:Nat))/\w'=w:=by
 have bf:=zh Y;clear Y;go_enter func141,ntmps141
 generalize U:ByteArray.mk _=T;have bh:T.size=256:=by rw[<-U];decide +kernel
 have all:∀ j:Fin 256,(T[j.val]?).map UInt8.toNat=some (bitLen j.val):=by rw[<-U];decide +kernel
 have bi:∀ (i:Nat) (h:i<T.size),T[i].toNat=bitLen i:=by
  intro i h;have:=all ⟨i,by rw[bh]at h;exact h⟩;simpa [h] using this
 clear U all;by_cases c1:4294967296<=n
 ·have Z:decide ((4294967296:Int)<=(n:Int))=true:=by simp;omega
  have b1:=Kin n c1;have M:=zh b1;clear b1;by_cases c2:65536<=n / 4294967296
  ·have O:decide ((65536:Int)<=(n:Int) / 4294967296)=true:=by simp;omega
   have I:Hid (bitLen (n / 4294967296)=16+bitLen (n / 4294967296 / 65536)):=Kig _ c2;by_cases c3:256<=n / 4294967296 / 65536
   ·have H:decide ((256:Int)<=(n:Int) / 4294967296 / 65536)=true:=by simp;omega
    have y:Hid (bitLen (n / 4294967296 / 65536)=8+bitLen (n / 4294967296 / 65536 / 256)):=bl8 _ c3;clear c1 c2 c3;go_wp
    go_ret
    exact⟨Yp (Je4 n 56 _ (by have:=bf.out;omega) zo (by rw[M.out,I.out,y.out];omega)),rfl⟩
   have H:decide ((256:Int)<=(n:Int) / 4294967296 / 65536)=false:=by simp;omega
   have y:Hid (n / 4294967296 / 65536<256):=by show _<_;omega
   clear c1 c2 c3;go_wp
   go_ret
   exact⟨Yp (Je4 n 48 _ y.out zo (by rw[M.out,I.out];omega)),rfl⟩
  have O:decide ((65536:Int)<=(n:Int) / 4294967296)=false:=by simp;omega
  by_cases c3:256<=n / 4294967296
  ·have H:decide ((256:Int)<=(n:Int) / 4294967296)=true:=by simp;omega
   have y:Hid (bitLen (n / 4294967296)=8+bitLen (n / 4294967296 / 256)):=bl8 _ c3;have K:Hid (n / 4294967296 / 256<256):=by show _<_;omega
   clear c1 c2 c3;go_wp
   go_ret
   exact⟨Yp (Je4 n 40 _ K.out zo (by rw[M.out,y.out];omega)),rfl⟩
  have H:decide ((256:Int)<=(n:Int) / 4294967296)=false:=by simp;omega
  have y:Hid (n / 4294967296<256):=by show _<_;omega
  clear c1 c2 c3;go_wp
  go_ret
  exact⟨Yp (Je4 n 32 _ y.out zo M.out),rfl⟩
 have Z:decide ((4294967296:Int)<=(n:Int))=false:=by simp;omega
 by_cases c2:65536<=n
 ·have O:decide ((65536:Int)<=(n:Int))=true:=by simp;omega
  have I:Hid (bitLen n=16+bitLen (n / 65536)):=Kig _ c2;by_cases c3:256<=n / 65536
  ·have H:decide ((256:Int)<=(n:Int) / 65536)=true:=by simp;omega
   have y:Hid (bitLen (n / 65536)=8+bitLen (n / 65536 / 256)):=bl8 _ c3;have K:Hid (n / 65536 / 256<256):=by show _<_;omega
   clear c1 c2 c3;go_wp
   go_ret
   exact⟨Yp (Je4 n 24 _ K.out zo (by rw[I.out,y.out];omega)),rfl⟩
  have H:decide ((256:Int)<=(n:Int) / 65536)=false:=by simp;omega
  have y:Hid (n / 65536<256):=by show _<_;omega
  clear c1 c2 c3;go_wp
  go_ret
  exact⟨Yp (Je4 n 16 _ y.out zo I.out),rfl⟩
 have O:decide ((65536:Int)<=(n:Int))=false:=by simp;omega
 by_cases c3:256<=n
 ·have H:decide ((256:Int)<=(n:Int))=true:=by simp;omega
  have y:Hid (bitLen n=8+bitLen (n / 256)):=bl8 _ c3;have K:Hid (n / 256<256):=by show _<_;omega
  clear c1 c2 c3;go_wp
  go_ret
  exact⟨Yp (Je4 n 8 _ K.out zo y.out),rfl⟩
 have H:decide ((256:Int)<=(n:Int))=false:=by simp;omega
 have y:Hid (n<256):=by show _<_;omega
 clear c1 c2 c3;go_wp
 go_ret
 exact⟨Yp (Kcl n y.out),rfl⟩
def WAt (w:World)(B g:Nat)(t:Int)(bs:List UInt8):Prop:=
 B<=g/\∃ sv,w.heap[g]?=some (.cells #[Iq t,sv] 201 (0,0))/\Jo w B 5 sv (bs.map bv)/\sv.ownBlock≠some g
def Ya (w:World)(g k:Nat):Prop:=k<w.heap.size/\k≠g/\∀ sv,w.cell? (Ar g 1)=some sv->sv.ownBlock≠some k
structure Ky (w w':World) (g:Nat):Prop where
 os:w'.os=w.os
 tape:w'.tape=w.tape
 output:w'.output=w.output
 size:w.heap.size<=w'.heap.size
 block:∀ k,Ya w g k->w'.heap[k]?=w.heap[k]?/\Ya w' g k
theorem Ky.refl w g:Ky w w g:=⟨rfl,rfl,rfl,Oa2 _,fun _ h=>⟨rfl,h⟩⟩
theorem Ky.trans {a b c g}(h:Ky a b g)(k:Ky b c g):Ky a c g:=
 ⟨k.os.trans h.os,k.tape.trans h.tape,k.output.trans h.output,Ob2 h.size k.size,fun i hi=>⟨((k.block i (h.block i hi).2).1).trans (h.block i hi).1,(k.block i (h.block i hi).2).2⟩⟩
theorem Ky.of_below {w w' g}(hb:Bq w w')(H:g<w.heap.size):Ky w w' g:=
 ⟨hb.os,hb.tape,hb.output,hb.size,fun k y=>⟨hb.block k y.1,by have:=hb.size;have:=y.1;omega,y.2.1,fun sv hs=>y.2.2 sv (by rw[<-hs];exact(Oc3 (w:=w) (hb.block g H)).symm)⟩⟩
theorem WAt.lt {w B g t bs}(h:WAt w B g t bs):g<w.heap.size:=by
 obtain⟨_,sv,H,_⟩:=h;exact zaA
theorem WAt.below {w w' B g t bs}(h:WAt w B g t bs)(hb:Bq w w'):WAt w' B g t bs:=by
 have hl:=h.lt;obtain⟨y,sv,H,ho,I⟩:=h;exact⟨y,sv,by rw[hb.block g hl];exact H,ho.below hb,I⟩
theorem WAt.cells {w B g t bs}(h:WAt w B g t bs):
  ∃ sv,w.cell? (Aq g)=some (Iq t)/\w.cell? (Ar g 1)=some sv/\w.frozen? ⟨g,1,none⟩=false/\Jo w B 5 sv (bs.map bv)/\sv.ownBlock≠some g:=by
 obtain⟨_,sv,y,ho,H⟩:=h;exact⟨sv,by simp[World.cell?,y],by simp[World.cell?,y],by simp[World.frozen?,y],ho,H⟩
theorem WAt.apart {w B g t bs}(h:WAt w B g t bs){k}(I:k<B)(hl:k<w.heap.size):Ya w g k:=by
 obtain⟨sv,_,y,_,ho,_⟩:=h.cells;have H:=h.1;refine⟨hl,zo,fun sv' hs e=>?_⟩;rw[y]at hs;cases hs
 have:=(Je ho e).1;omega
theorem WAt.step {w K w1 B g t bs bs' sv sv'}(h:WAt w B g t bs)(O:w.cell? (Ar g 1)=some sv)(hb:Bq w K)(H:K.grownBy w1 sv.ownBlock)(bB:Jo w1 B 5 sv' (bs'.map bv))(bj:sv'.ownBlock=sv.ownBlock\/sv'.ownBlock=some K.heap.size):
  WAt (w1.setCell (Ar g 1) sv') B g t bs'/\Ky w (w1.setCell (Ar g 1) sv') g:=by
 have hl:=h.lt;obtain⟨br,I,U,ho,Z⟩:=h;have bk:I=sv:=by simpa [World.cell?,U] using O
 subst bk;have bE:=hb.size;have bz:K.heap[g]?=some (.cells #[Iq t,I] 201 (0,0)):=by rw[hb.block g hl];exact U
 have bx:w1.heap[g]?=some (.cells #[Iq t,I] 201 (0,0)):=by rw[H.block g zo (Oc5 Z)];exact bz
 have bf:sv'.ownBlock≠some g:=by
  rcases bj with e|e
  ·rw[e];exact Z
  rw[e];intro M;simp at M;omega
 have bi:(w1.setCell (Ar g 1) sv').heap[g]?=some (.cells #[Iq t,sv'] 201 (0,0)):=by
  simp[World.setCell,Array.getElem?_modify,bx]
 have bh:∀ k,k≠g->(w1.setCell (Ar g 1) sv').heap[k]?=w1.heap[k]?:=fun k y=>Oa4 _ _ _ _ y;have bD:(w1.setCell (Ar g 1) sv').heap.size=w1.heap.size:=by simp[World.setCell]
 have bC:=H.size;refine⟨⟨br,sv',bi,?_,bf⟩,⟨H.os.trans hb.os,H.tape.trans hb.tape,H.output.trans hb.output,zo,?_⟩⟩
 ·exact Jl bB fun k y=>bh k fun e=>bf (by rw[y,e])
 intro k y;have Y:=y.2.2 I O;have bA:=y.1;refine⟨?_,zo,y.2.1,fun s hs=>?_⟩
 ·rw[bh k y.2.1,H.block k zo (Oc5 Y),hb.block k bA]
 have:s=sv':=by
  have e:(w1.setCell (Ar g 1) sv').cell? (Ar g 1)=some sv':=by simp[World.cell?,bi]
  rw[e]at hs;exact(Oj6 hs).symm
 subst this;rcases bj with e|e
 ·rw[e];exact Y
 rw[e];intro M;simp at M;omega
theorem Zk {w w' g a vs}(h:Jv w a vs)(y:Ky w w' g)(H:∀ b o,a=some (Ar b o)->Ya w g b):Jv w' a vs:=
 h.of_block y.size fun b o hb _=>(y.block b (H b o hb)).1
theorem Jwe {w w' g a vs}(h:Uh w a vs)(y:Ky w w' g)(H:∀ b o,a=some (Ar b o)->Ya w g b):Uh w' a vs:=
 h.of_block y.size fun b o hb _=>(y.block b (H b o hb)).1
theorem Jde {w w' g a}(H:Ky w w' g)(y:∀ b o,a=some (Ar b o)->Ya w g b):∀ b o,a=some (Ar b o)->Ya w' g b:=
 fun b o hb=>(H.block b (y b o hb)).2
theorem Jc2 {w w' B g t bs}(h:WAt w B g t bs)(hb:Bq w w'){k}(I:w.heap.size<=k)(H:k<w'.heap.size):Ya w' g k:=by
 have hl:=h.lt;obtain⟨sv,_,y,_,ho,_⟩:=h.cells;refine⟨H,zo,fun s hs e=>?_⟩;have:w'.cell? (Ar g 1)=some sv:=by rw[Oc3 (w:=w) (hb.block g hl)];exact y
 rw[this]at hs;cases hs
 have:=(Je ho e).2;omega
theorem Ua (w:World)(v:Value)(e:TypeId):∀ (j:Nat) (u:Value),[v][j]?=some u->(w.alloc (.cells #[v] e)).cell? ((⟨w.heap.size,0,none⟩:Addr).add j)=some u:=by
 intro j u y;cases j with
 |zero=>simp at y;subst y;simp[Addr.add]
 |succ j=>simp at y
theorem Jnf (w:World)(o:Obj)(b i:Nat)(h:b<w.heap.size):(w.alloc o).cell? (Ar b i)=w.cell? (Ar b i):=
 Oc3 (Oa9 w o b h)
theorem Jh9 (w:World)(o:Obj)(b i:Nat)(h:b<w.heap.size):(w.alloc o).frozen? ⟨b,i,none⟩=w.frozen? ⟨b,i,none⟩:=
 Ol7 (Oa9 w o b h)
theorem Kgh n:Value.int .u8 (n % 256)=bv (low n):=by
 unfold bv low;congr 1
 simp;omega
theorem Zq B g t n bs w(h:WAt w B g t bs)(hl:bs.length<=100000):
  Cq 106 #[Pq g,Iq n] w fun e w'=>e=.returned (.tuple #[])/\WAt w' B g t (bs++[low n])/\Ky w w' g:=by
 have Y:=h.lt;have U:=h.1;obtain⟨sv,c0,c1,c2,ho,I⟩:=h.cells;have hlen:(bs.map bv).length<=100000:=by simpa using hl
 go_enter func106,ntmps106
 go_wp2_with (at_builtin;go_must (refine Ks zR _ _ 199 5 _ 1 Jfa zR zd zK zR B sv _ zR (ho.alloc _) ⟨w.heap.size,0,none⟩ 1 [.int .u8 (n % 256)] zR (by exact Ua _ _ _) (by intro u K;simp at K;subst K;rfl) (by simp only[List.length_cons,List.length_nil];omega) zt ?_);intro sv' w1 y H M;obtain⟨a2,O,rfl,_⟩:=y.cells;have Z:=H.cell_far ⟨g,1,none⟩ zt (Oc5 I);have bf:=H.frozen_far ⟨g,1,none⟩ zt (Oc5 I))
 go_end0
 rw[Kgh]at y;have:=h.step (bs':=bs++[low n]) c1 ((Oa5 _ _).alloc (Oa2 _) _) H (by simpa using y) M;simp only[Oa8,Oa6,List.length_cons,List.length_nil]at this;exact⟨rfl,this⟩
theorem Jka B g t n bs w(h:WAt w B g t bs)(hl:bs.length<=100000):
  Cq 143 #[Pq g,Iq n] w fun e w'=>e=.returned (.tuple #[])/\WAt w' B g t (bs++le8 (u64 n))/\Ky w w' g:=by
 have U:IntKind.u64.wrap n=(u64 n:Int):=by rw[Oh5];unfold u64;omega
 have bL:=Jp3 n;generalize u64 n=y at *;go_enter func143,ntmps143
 go_wp2;go_loopw [5] (fun i wr=>∃ k:Nat,k<=8/\i=Iq k/\WAt wr B g t (bs++(List.range k).map fun i=>UInt8.ofNat (y / 256 ^ i % 256))/\Ky w wr g) (fun i _=>8-(intOf i).toNat)
 case atStart=>exact⟨0,zo,rfl,by simpa using h,Ky.refl _ _⟩
 case round=>
  obtain⟨k,bI,rfl,I,Z⟩:=hrel;by_cases bJ:k<8
  ·have Y:=I.lt;have bH:=I.1;obtain⟨sv,c0,c1,c2,ho,bf⟩:=I.cells;generalize K:bs++((List.range k).map fun i=>UInt8.ofNat (y / 256 ^ i % 256))=H at *;have hlen:(H.map bv).length<=100010:=by rw[<-K];simp;omega
   have bi:Hid _:=K;clear K;obtain⟨c,bz⟩:∃ c:Nat,c=8*k:=⟨_,rfl⟩;have bM:IntKind.i64.wrap (8*(k:Int))=(c:Int):=by rw[Od4];omega
   obtain⟨q,hq⟩:∃ q:Nat,q=y / 256 ^ k % 256:=⟨_,rfl⟩;have bN:IntKind.u8.wrap ((y:Int) / 2 ^ min c 64)=(q:Int):=by
    have e:min c 64=8*k:=zo;have bk:((2:Int) ^ (8*k))=((256 ^ k:Nat):Int):=by
     rw[Int.natCast_pow,Int.pow_mul];rfl
    rw[e,hq,bk,IntKind.wrap_u8];omega
   have bj:Hid (Value.int .u8 (q:Int)=bv (UInt8.ofNat (y / 256 ^ k % 256))):=by
    show Value.int .u8 (q:Int)=_;rw[hq];unfold bv;congr 1;simp
   clear bz hq;obtain⟨bG,bA,bC,bD,bE⟩:=info_parts Jfa;go_wp2_with fail
   go_region_law
    ((refine step_append_lies _ zR _ _ _ zR B 5 bG _ 1 1 zK bA bC bD bE rfl zo sv (H.map bv).length (H.map bv) zR ((World.ownsRow.drew (ho.alloc _)))
       ⟨wr.heap.size,0,none⟩ 1 1 [.int .u8 (q:Int)] zR zR (by exact Ua wr _ 5) (by intro u U;simp at U;subst U;rfl)
       zo (by unfold maxLen;omega) zo zt (wr.heap.size+1) zS ?_;intro br cap w1 bh M bx bK;have bO:w1.cell? (Ar g 1)=some sv:=(by rw[M.cell_far _ zt (Oc5 bf)];exact(Jnf wr _ g 1 Y).trans c1);have bP:w1.frozen? ⟨g,1,none⟩=false:=(by rw[M.frozen_far _ zt (Oc5 bf)];exact(Jh9 wr _ g 1 Y).trans c2)))
   all_goals
    go_wp2;go_roundw
    case rel=>
     rw[bj.out]at bh;have O:=I.step (bs':=H++[UInt8.ofNat (y / 256 ^ k % 256)]) (sv':=Sq br ((List.map bv H).length+1) cap) c1 (((Oa5 _ _).alloc (Oa2 _) _).drew) M (by simpa [Jo] using bh)
      (by
        rcases bx with e|e
        ·exact .inl e.symm
        right;simp[Value.ownBlock,e])
     simp only[Oa6]at O;refine⟨k+1,zo,zn,?_,Z.trans O.2⟩;rw[Oj7,Ob8,<-Od8,bi.out];exact O.1
    case measure=>simp[intOf];omega
  have bB:k=8:=zo;subst bB;go_wp2;go_end0
  exact⟨rfl,I,Z⟩
theorem Jo.form {w B e sv xs}(h:Jo w B e sv xs):∃ a ln c,sv=.slice a ln c:=by
 obtain⟨a,c,hv,_⟩:=h.cells;exact⟨a,_,c,hv⟩
theorem Jsr s:Lib.strCells s=s.toList.map bv:=by
 rw[Og4];rfl
theorem Jlc w B ty sv bs(H:Jo w B 5 sv (bs.map bv))(bh:bs≠[])s(hlen:bs.length+s.size<=1000000)(Z:B<=w.heap.size):
  ∃ sv' w',(Builtin.append_ #[199,9] ty #[sv,.string s]).run prog w=.ok sv' w'/\Jo w' B 5 sv' ((bs++s.toList).map bv)/\w.grownBy w' sv.ownBlock/\(sv'.ownBlock=sv.ownBlock\/sv'.ownBlock=some w.heap.size):=by
 obtain⟨i,hi,M,I,K⟩:=info_parts Jfa;have hl:(bs.map bv).length=bs.length:=zS;obtain⟨bj,w',hr,U,Y,_⟩:=Lib.run_append_own_string (P:=prog) w B 199 9 ty 5 i zK zK hi M I K sv _ _ H s (by unfold maxLen;omega) zo Z;refine⟨bj,w',hr,?_,Y,?_⟩
 ·unfold Jo;rw[Ob8,<-Jsr,Oa8,Lib.strCells_length];exact U
 rcases H.2 with⟨_,h0⟩|⟨g,cap,O,rfl,bk,bf,bz,br,bx,bA⟩
 ·rw[hl]at h0;exact absurd (Od3.1 h0) bh
 by_cases bi:(bs.map bv).length+s.size<=cap
 ·have y:=Lib.run_append_room_string (P:=prog) w 199 9 ty 5 i zK zK hi I g (bs.map bv).length cap O bf s bi zo;rw[hr]at y;injection y with e1 _;subst e1;exact .inl rfl
 have y:=Lib.run_append_grow_string (P:=prog) w 199 9 ty 5 i _ zK zK hi M ⟨g,0,none⟩ (bs.map bv).length cap (bs.map bv) (by rw[I,Nat.mul_one]) (World.ownsRow.cells H (g:=g) rfl) s zo zo (by rw[K];exact growslice_fits zo zo);rw[hr]at y;injection y with e1 _;subst e1;exact .inr rfl
theorem Jks {H o a w y Q E}(U:o.guard=none)sl x(ho:o.op=.call {callee:=.builtin .append,args:=#[sl,x],argTypes:=#[199,9]})B sv bs(hs:a.eval sl=sv)(Z:Jo w B 5 sv (bs.map bv))(Y:bs≠[])s(bh:a.eval x=.string s)(hlen:bs.length+s.size<=1000000)(O:B<=w.heap.size)(h:∀ sv' w',Jo w' B 5 sv' ((bs++s.toList).map bv)->w.grownBy w' sv.ownBlock->(sv'.ownBlock=sv.ownBlock\/sv'.ownBlock=some w.heap.size)->y (a.put o.dst sv') w'):
  if Region.wanted o (yielded H a.tmps)=true then Oper.wp prog o a w y Q else E:=by
 have bf:Region.wanted o (yielded H a.tmps)=true:=by simp[Region.wanted,U]
 rw[if_pos bf];obtain⟨bi,w',hr,I,K,M⟩:=Jlc w B o.type sv bs Z Y s hlen O;unfold Oper.wp execOp;simp only[ho,resolve,invoke,builtin,Og8,Sem.run_pure,Result.andThen_ok,List.map_toArray,Oe4,Oi4,hs,bh,hr];exact h bi w' I K M
theorem Khe (y n b A:Nat)(M:y<256)(Z:n<18446744073709551616):
  bits BinOp.or IntKind.u8 (y:Int) (bits BinOp.and IntKind.u64 ((n:Int) / 2 ^ b) 1 % 256*2 ^ (A % 8) % 256)=((y ||| ((if n.testBit b then 1 else 0) <<< (A % 8)):Nat):Int):=by
 have H:((n:Int) / 2 ^ b)=((n / 2 ^ b:Nat):Int):=zS;have U:n / 2 ^ b<18446744073709551616:=Nat.lt_of_le_of_lt (Oo6 _ _) Z;have I:bits BinOp.and IntKind.u64 ((n / 2 ^ b:Nat):Int) 1=((n / 2 ^ b % 2:Nat):Int):=by
  have:=u64_and_nat (n / 2 ^ b) 1 U zd;rw[Nat.and_one_is_mod]at this;exact this
 have K:n.testBit b=decide (n / 2 ^ b % 2=1):=On1;rw[H,I,K];have Y:n / 2 ^ b % 2<2:=Ol0 _ zd;have O:A % 8<8:=Ol0 _ zd;generalize n / 2 ^ b % 2=m at *;generalize A % 8=c at *;have key:∀ (m:Fin 2) (c:Fin 8),((m.val:Int) % (256:Int)*(2:Int) ^ c.val % (256:Int))=(((if decide (m.val=1)=true then 1 else 0) <<< c.val:Nat):Int)/\((if decide (m.val=1)=true then 1 else 0) <<< c.val:Nat)<256:=zd;have k:=key ⟨m,Y⟩ ⟨c,O⟩;simp only at k;rw[k.1];exact u8_or_nat y _ M k.2
theorem Jd4 (B g:Nat)(t:Int)bs(y:Nat)a(cap:Nat)ns w(h:WAt w B g t bs)(hl:bs.length<=50000)(cF:y<=64)(cA:ns.length<=64)(cD:∀ n∈ns,n<18446744073709551616)(cG:Uh w a (ns.map uv))(cJ:∀ b o,a=some (Ar b o)->Ya w g b):
  Cq 107 #[Pq g,Iq y,.slice a ns.length cap] w fun e w'=>e=.returned (.tuple #[])/\WAt w' B g t (bs++Kk (Ue y ns))/\Ky w w' g:=by
 have cN:y*ns.length<=64*64:=Ol5 cF cA;obtain⟨W,hW⟩:∃ W:Nat,W=y*ns.length:=⟨_,rfl⟩;have ci:(y:Int)*(ns.length:Int)=(W:Int):=by rw[hW];simp
 obtain⟨nb,bO⟩:∃ nb:Nat,nb=(W+7) / 8:=⟨_,rfl⟩;have cB:((W:Int)+7) / 8=(nb:Int):=zo;have bH:=Jal y ns;generalize bG:Ue y ns=L at *;have cz:∀ W,(Instr.makeSlice 199 (Iq (nb:Int)) (Iq (nb:Int))).run prog W=.ok (Sq W.heap.size nb nb) (W.alloc (.cells (madeCells #[.int .u8 0] nb) 5)):=
  fun W=>run_make_row' 199 5 (.int .u8 0) 1 zK Jfa rfl .i64 .i64 nb zo zo W
 have M:Hid (L.length=W):=by show _=_;rw[bH,hW]
 have bU:=zh bG;have bz:=zh hW;have Z:=zh bO;have cI:W<=4096:=zo;have cM:nb<=600:=zo;clear bG bH hW bO;go_enter func107,ntmps107
 go_wp2_with (go_at_call 136;refine(Jif _ _ zo zo).mono ?_;rintro e w' ⟨rfl,cO⟩;subst w')
 clear cz ci cB;go_loopw [7,19] (fun at_ i wr=>∃ k:Nat,k<=ns.length/\i=Iq k/\at_=Iq ((y*k:Nat):Int)/\wr.rowIs w.heap.size 5 nb (fun j=>.int .u8 (Jag (L.take (y*k)) j:Nat))/\Bq w wr) (fun _ i _=>ns.length-(intOf i).toNat)
 case atStart=>
  refine⟨0,zo,rfl,rfl,(Ol3 _ _ _ _).congr fun j _=>?_,(Oa5 _ _).alloc (Oa2 _) _⟩;simp[Jvq]
 case round=>
  obtain⟨k,cK,rfl,rfl,H,I⟩:=hrel;by_cases O:k<ns.length
  ·obtain⟨b1,cR,rfl,cj,x1⟩:=(cG.below I).at (i:=k) (by simpa using O);rw[Od9]at x1;unfold uv at x1;have bT:Hid (∀ b,b<y->L[y*k+b]?=some (ns[k].testBit b)):=by
    intro b hb;rw[<-bU.out];exact Jms y ns k b O hb
   have bQ:ns[k]<18446744073709551616:=cD _ (Ob3 O);have bV:=zh bQ;clear bQ;generalize ns[k]=n at *;have cL:y*k+y<=W:=by
    rw[bz.out,<-Nat.mul_succ];exact Nat.mul_le_mul_left _ O
   generalize bD:y*k=Y at *;have br:=zh bD;clear bD;go_wp2;go_loopw [7,24] (fun at_ i bS=>∃ b:Nat,b<=y/\i=Iq b/\at_=Iq ((Y+b:Nat):Int)/\bS.rowIs w.heap.size 5 nb (fun j=>.int .u8 (Jag (L.take (Y+b)) j:Nat))/\Bq w bS) (fun _ i _=>y-(intOf i).toNat)
   case atStart=>exact⟨0,zo,rfl,rfl,H,I⟩
   case round=>
    clear H I x1 cj;obtain⟨b,hb,rfl,rfl,H,I⟩:=hrel;by_cases cy:b<y
    ·have bJ:=bT.out b cy;generalize bC:Y+b=A at *;have cc:A<W:=zo;have bk:=zh bC;clear bC;have hq:A / 8<nb:=by rw[Z.out];omega
     have c1:=H.cell hq;have c2:=H.frozen (A / 8);have bK:=Ji4 (L.take A) (A / 8);have bR:∀ j,Jag (L.take (A+1)) j=if j=A / 8 then Jag (L.take A) j ||| ((if n.testBit b then 1 else 0) <<< (A % 8))else Jag (L.take A) j:=by
      intro j;have bE:A<L.length:=by rw[M.out];exact cc
      have cn:L[A]=n.testBit b:=by rw[Oa3 bE]at bJ;exact Oj6 bJ
      rw[Jss L A j bE,cn]
     have bW:Hid _:=bR;clear bR;generalize bI:Jag (L.take A) (A / 8)=bY at c1 bK;have bX:=zh bI;clear bI;go_wp2;go_region
     go_wp2;go_roundw
     case rel=>
      refine⟨b+1,zo,zn,?_,(H.set (A / 8) _).congr fun j K=>?_,(I.setCell (p:=Ar w.heap.size (A / 8)) (Oa2 _) _).drew⟩
      ·have:=bk.out;rw[<-this];go_num
      rw[<-On5,bk.out,bW.out j];by_cases e:j=A / 8
      ·rw[if_pos e,if_pos e,Khe bY n b A bK bV.out,e,bX.out]
      rw[if_neg e,if_neg e]
     case measure=>simp[intOf];omega
    have cu:b=y:=zo;subst cu;go_wp2;go_roundw
    case rel=>
     refine⟨k+1,zo,zn,?_,?_,I⟩
     ·have:=br.out;rw[Nat.mul_succ,this]
     rw[Nat.mul_succ,br.out];exact H
    case measure=>simp[intOf];omega
  have cx:k=ns.length:=zo;subst cx;have bL:L.take (y*ns.length)=L:=Oc8 (by rw[M.out,bz.out];exact Oa2 _);rw[bL]at H;clear bL;have U:=h.below I;have bM:=U.lt;have cH:=U.1;obtain⟨sv,c0,c1,c2,ho,bP⟩:=U.cells;have hlen:(bs.map bv).length<=50000:=by simpa using hl
  have bi:((Kk L).map bv).length=nb:=by rw[Oa6,Qb,M.out,<-Z.out]
  have bx:=zh bi;have cC:∀ j u,((Kk L).map bv)[j]?=some u->wr.cell? ((⟨w.heap.size,0,none⟩:Addr).add j)=some u:=by
   intro j u K;have bN:j<nb:=by
    rw[<-bi];rcases Oc1 j ((Kk L).map bv).length with bf|bf
    ·exact bf
    rw[Ob4 bf]at K;simp at K
   rw[Addr.add_mid,Od0,H.cell bN];have cv:j<(L.length+7) / 8:=by rw[M.out,<-Z.out];exact bN
   simp[Kk,cv,bv]at K;rw[<-K];have:=Ji4 L j;congr 2
   omega
  clear bi;have ca:∀ u∈(Kk L).map bv,u.oneCell'=true:=by
   intro u cE;obtain⟨x,_,rfl⟩:=Of0.1 cE;rfl
  generalize cf:(Kk L).map bv=bA at *;go_wp2_with (at_builtin;go_must (refine Ks zR _ _ 199 5 _ 1 Jfa zR zd zK zR B sv _ zR ho ⟨w.heap.size,0,none⟩ nb bA (by rw[bx.out];rfl) cC ca (by rw[bx.out];omega) zo ?_);intro sv' w1 bB bh cb;obtain⟨a2,bZ,rfl,_⟩:=bB.cells;have cP:=bh.cell_far ⟨g,1,none⟩ bM (Oc5 bP);have cQ:=bh.frozen_far ⟨g,1,none⟩ bM (Oc5 bP))
  go_end0
  have bj:=U.step (bs':=bs++Kk L) (sv':=.slice a2 (List.map bv bs++bA).length bZ) c1 (Oa5 _ _) bh (by rw[Ob8,cf];exact bB) cb;simp only[Oa8,Oa6]at bj;exact⟨rfl,bj.1,(Ky.of_below I h.lt).trans bj.2⟩
def enc (k n:Int)(s:ByteArray):List UInt8:=
 if k=1 then le8 (u64 n)else if k=2 then [low n]else if k=3 then low s.size::s.toList else []
def good (k:Int)(s:ByteArray):Prop:=k=1\/k=2\/(k=3/\s.size<=40)
theorem Kc5 k n s(h:good k s):(enc k n s).length<=41:=by
 rcases h with h|h|⟨h,hs⟩
 ·unfold enc;rw[if_pos h,Jc4];omega
 ·unfold enc;rw[if_neg zo,if_pos h];simp
 unfold enc;rw[if_neg zo,if_neg zo,if_pos h,Og4,List.length_cons,Array.length_toList];exact Nat.succ_le_succ hs
theorem zaV {p:Prop}(h:p:=by
 go_end0
 exact⟨rfl,I,(Ky.of_below ((Oa5 _ _).alloc (Oa2 _) _) y).trans H⟩):p:=h
theorem Jwu B g t n s bs w(h:WAt w B g t bs)(hl:bs.length<=50000):
  Cq 137 #[Pq g,.agg #[Iq 1,Iq n,.string s]] w fun e w'=>e=.returned (.tuple #[])/\WAt w' B g t (bs++le8 (u64 n))/\Ky w w' g:=by
 have y:=h.lt;go_enter func137,ntmps137
 go_wp2_with (go_at_call 143;refine(Jka B g t _ bs _ (h.below ((Oa5 _ _).alloc (Oa2 _) _)) zo).mono ?_;rintro e w' ⟨rfl,I,H⟩)
 exact zaV
theorem Jrq B g t n s bs w(h:WAt w B g t bs)(hl:bs.length<=50000):
  Cq 137 #[Pq g,.agg #[Iq 2,Iq n,.string s]] w fun e w'=>e=.returned (.tuple #[])/\WAt w' B g t (bs++[low n])/\Ky w w' g:=by
 have y:=h.lt;go_enter func137,ntmps137
 go_wp2_with (go_at_call 106;refine(Zq B g t _ bs _ (h.below ((Oa5 _ _).alloc (Oa2 _) _)) zo).mono ?_;rintro e w' ⟨rfl,I,H⟩)
 exact zaV
theorem Jsb B g t n s bs w(h:WAt w B g t bs)(hl:bs.length<=50000)(hs:s.size<=40):
  Cq 137 #[Pq g,.agg #[Iq 3,Iq n,.string s]] w fun e w'=>e=.returned (.tuple #[])/\WAt w' B g t (bs++low s.size::s.toList)/\Ky w w' g:=by
 have bi:=h.lt;have y:=h.below ((Oa5 _ _).alloc (Oa2 _) (.cells #[Iq 3,Iq n,.string s] 65));have bf:Ya (w.alloc (.cells #[Iq 3,Iq n,.string s] 65)) g w.heap.size:=Jc2 h ((Oa5 _ _).alloc (Oa2 _) _) (Oa2 _) zS;go_enter func137,ntmps137
 go_wp2_with (go_at_call 106;refine(Zq B g t _ bs _ y zo).mono ?_;rintro e w' ⟨rfl,H,M⟩)
 have K:=H.lt;have bj:=H.1;obtain⟨sv,c0,c1,c2,ho,O⟩:=H.cells;obtain⟨bh,bk⟩:=M.block _ bf;have c3:w'.cell? (Ar w.heap.size 2)=some (.string s):=by rw[Oc3 (w:=w.alloc _) bh];simp
 have br:w.heap.size≠g:=zo;go_region_law
  ((
   refine Jks zR _ _ zR B sv (bs++[low s.size]) zR (by exact ho) zS s zR zt zt ?_;intro sv' w1 I y Z;obtain⟨a2,ln,Y,rfl⟩:=I.form;have bx:w1.cell? (Ar g 1)=some sv:=(by rw[y.cell_far _ (by simpa using K) (Oc5 O)];exact c1);have bz:w1.frozen? ⟨g,1,none⟩=false:=(by rw[y.frozen_far _ (by simpa using K) (Oc5 O)];exact c2)))
 all_goals
  go_wp2;go_end0
  have U:=H.step (bs':=bs++low s.size::s.toList) (sv':=.slice a2 ln Y) c1 ((Oa5 _ _).drew) y (by simpa using I) Z;exact⟨rfl,U.1,((Ky.of_below ((Oa5 _ _).alloc (Oa2 _) _) bi).trans M).trans U.2⟩
theorem Jl0 (B g:Nat)(t:Int)(v:V)(bs:List UInt8)w(h:WAt w B g t bs)(hl:bs.length<=50000)(hv:good v.k v.s):
  Cq 137 #[Pq g,v.val] w fun e w'=>e=.returned (.tuple #[])/\WAt w' B g t (bs++enc v.k v.n v.s)/\Ky w w' g:=by
 obtain⟨k,n,s⟩:=v;rcases hv with y|y|⟨y,hs⟩
 ·simp only at y;subst y;exact Jwu B g t n s bs w h hl
 ·simp only at y;subst y;exact Jrq B g t n s bs w h hl
 simp only at y hs;subst y;exact Jsb B g t n s bs w h hl hs
def Yv (vs:List V):List UInt8:=vs.flatMap fun v=>enc v.k v.n v.s
theorem Jgg vs(h:∀ v∈vs,good v.k v.s):(Yv vs).length<=41*vs.length:=by
 induction vs with
 |nil=>simp[Yv]
 |cons v vs H=>
  have I:=Kc5 v.k v.n v.s (h v (Of4));have K:=H fun u y=>h u (Og1 _ y);unfold Yv at *;rw[Og7,Oa8,List.length_cons];omega
theorem Jjz vs v:Yv (vs++[v])=Yv vs++enc v.k v.n v.s:=by simp[Yv]
theorem Jk4 B g t a cap xs bs w(h:WAt w B g t bs)(hl:bs.length<=10000)(bD:xs.length<=64)(O:∀ v∈xs,good v.k v.s)(bz:Jv w a xs)(bi:∀ b o,a=some (Ar b o)->Ya w g b):
  Cq 108 #[Pq g,.slice a xs.length cap] w fun e w'=>e=.returned (.tuple #[])/\WAt w' B g t (bs++Yv xs)/\Ky w w' g:=by
 go_enter func108,ntmps108
 go_wp2;go_loopw [8] (fun i wr=>∃ k:Nat,k<=xs.length/\i=Iq k/\WAt wr B g t (bs++Yv (xs.take k))/\Ky w wr g) (fun i _=>xs.length-(intOf i).toNat)
 case atStart=>exact⟨0,zo,rfl,by simpa [Yv] using h,Ky.refl _ _⟩
 case round=>
  obtain⟨k,bC,rfl,y,H⟩:=hrel;by_cases I:k<xs.length
  ·have bA:=Zk bz H bi;obtain⟨b1,bE,rfl,bB,x1,x2,bG⟩:=bA.at I;have K:=Jjz (xs.take k) xs[k];rw[<-Oc4 I]at K;have bk:=Jgg (xs.take k) fun v hv=>O v (Om9 hv);have br:(xs.take k).length<=k:=List.length_take_le _ _;have U:=O _ (Ob3 I);have bf:Hid _:=K;have Z:=zh U;have hlen:(bs++Yv (xs.take k)).length<=50000:=by rw[Oa8];omega
   clear K U bk br;generalize M:bs++Yv (xs.take k)=bh at *;have Y:Hid _:=M;clear M;go_wp2_with (go_at_call 137;refine(Jl0 B g t xs[k] bh _ (y.below ((Oa5 _ _).alloc (Oa2 _) _)) hlen Z.out).mono ?_;rintro e w' ⟨rfl,bx,bj⟩)
   go_roundw
   case rel=>
    refine⟨k+1,zo,zn,?_,(H.trans (Ky.of_below ((Oa5 _ _).alloc (Oa2 _) _) y.lt)).trans bj⟩;rw[bf.out,<-Od8,Y.out];exact bx
   case measure=>simp[intOf];omega
  go_wp2;go_end0
  have e:xs.take k=xs:=Oc8 zo;rw[e]at y;exact⟨rfl,y,H⟩
end
section
open Go.RowKit
def Qt (v:V):Nat:=if v.k=0 then 0 else 1
theorem Jv6 ns(h:∀ n∈ns,n<=1):Ue 1 ns=ns.map fun n=>n==1:=by
 induction ns with
 |nil=>rfl
 |cons n ns H=>
  have e:Ue 1 (n::ns)=[n.testBit 0]++Ue 1 ns:=by simp[Ue,List.range_succ]
  rw[e,H fun m y=>h m (Og1 _ y)];have I:=h n Of4;have:n.testBit 0=(n==1):=by
   rw[Nat.testBit_zero];have:n=0\/n=1:=zo;rcases this with rfl|rfl<;>rfl
  rw[this];rfl
theorem Jrg (xs:List V):Ue 1 (xs.map Qt)=xs.map fun v=>v.k != 0:=by
 rw[Jv6 _ (by intro n y;obtain⟨v,_,rfl⟩:=Of0.1 y;unfold Qt;split<;>omega),Oi6];apply Oj9;intro v _;simp only[Function.comp,Qt];by_cases h:v.k=0<;>simp[h]
def Kz (t y:Int)(xs:List V):List UInt8:=[low t,low y,low xs.length]++Kk (xs.map fun v=>v.k != 0)
theorem Jg0 B g t bA a cap xs w(h:WAt w B g t [])(U:xs.length<=64)(bR:Jv w a xs)(bG:xs≠[]->∀ b o,a=some (Ar b o)->Ya w g b):
  Cq 86 #[Pq g,Iq bA,.slice a xs.length cap] w fun e w'=>e=.returned (.tuple #[])/\WAt w' B g t (Kz t bA xs)/\Ky w w' g:=by
 have bO:∀ W,(Instr.makeSlice 234 (Iq (xs.length:Int)) (Iq (xs.length:Int))).run Tryz.prog W=.ok (Sq W.heap.size xs.length xs.length) (W.alloc (.cells (madeCells #[.int .u64 0] xs.length) 235)):=
  fun W=>run_make_row' 234 235 (.int .u64 0) 8 zK Jiq rfl .i64 .i64 xs.length zo zo W
 obtain⟨bY,c0,_,_,_,_⟩:=h.cells;go_enter Tryz.func86,Tryz.ntmps86
 go_wp2_with fail
 refine(Zq B g t _ _ _ h zS).mono ?_;rintro e w1 ⟨rfl,bB,bk⟩;go_wp2_with fail
 refine(Zq B g t _ _ _ bB zS).mono ?_;rintro e bZ ⟨rfl,bC,br⟩;go_wp2_with fail
 refine(Zq B g t _ _ _ bC zS).mono ?_;rintro e H ⟨rfl,Y,bx⟩;go_wp2_with fail
 clear bO;have bj:=(bk.trans br).trans bx;have bS:Jv H a xs:=by
  by_cases bz:xs=[]
  ·exact .inl bz
  exact Zk bR bj (bG bz)
 clear bk br bx bB bC c0;go_loopw [27] (fun i wr=>∃ k:Nat,k<=xs.length/\i=Iq k/\wr.rowIs H.heap.size 235 xs.length (fun j=>uv (if j<k then (xs.map Qt)[j]?.getD 0 else 0))/\Bq H wr) (fun i _=>xs.length-(intOf i).toNat)
 case atStart=>exact⟨0,zo,rfl,Ol3 _ _ _ _,(Oa5 _ _).alloc (Oa2 _) _⟩
 case round=>
  obtain⟨k,bW,rfl,y,I⟩:=hrel;by_cases O:k<xs.length
  ·obtain⟨b1,bX,rfl,bV,x1,x2,cb⟩:=(bS.below I).at O;have c1:=y.cell O;have c2:=y.frozen k;have c3:=y.lt;have bi:(xs.map Qt)[k]?.getD 0=Qt xs[k]:=(by simp[O]);have Z:Hid _:=bi;clear bi;by_cases h0:xs[k].k=0
   ·have bE:(xs[k].k != 0)=false:=(by simp[h0]);have K:=zh h0;clear h0;go_wp2;go_roundw
    case rel=>
     refine⟨k+1,zo,zn,(y.alloc _).congr fun j bK=>?_,Jc I _⟩;by_cases e:j=k
     ·subst e;simp only[Oe3,if_false,On2,if_true];rw[Z.out];simp[Qt,K.out]
     have M:(j<k+1)=(j<k):=by rw[eq_iff_iff];omega
     simp only[M]
    case measure=>simp[intOf];omega
   have bE:(xs[k].k != 0)=true:=(by simp[h0]);have K:=zh h0;clear h0;go_wp2;go_roundw
   case rel=>
    refine⟨k+1,zo,zn,((y.set k _).alloc _).congr fun j bK=>?_,Jc (I.setCell (p:=Ar H.heap.size k) (Oa2 _) _) _⟩;by_cases e:j=k
    ·subst e;simp only[if_true,On2];rw[Z.out];simp[Qt,K.out,uv]
    have M:(j<k+1)=(j<k):=by rw[eq_iff_iff];omega
    simp only[e,M,if_false]
   case measure=>simp[intOf];omega
  have bM:k=xs.length:=zo;subst bM;have bP:Jo wr H.heap.size 235 (Sq H.heap.size xs.length xs.length) ((xs.map Qt).map uv):=
   Jhx y (Oa2 _) (by unfold maxLen;omega) _ zS (by
    intro i hi;have bJ:i<xs.length:=by simpa using hi
    simp[bJ])
  obtain⟨bT,bU,bf,bH⟩:=bP.cells;simp only[Oa6]at bf;injection bf with e5 e6 e7;subst e5;subst e7;have bI:(xs.map Qt).length=xs.length:=zS;have bQ:=Y.below I;have bN:=y.lt;go_wp2_with fail
  rw[<-bI];refine(Jd4 B g t _ 1 _ _ (xs.map Qt) _ bQ zS zo (by simpa using U) (by
   intro n U;obtain⟨v,_,rfl⟩:=Of0.1 U;unfold Qt;split<;>omega) bH (by
   intro b o bh;simp at bh;obtain⟨rfl,rfl⟩:=bh;exact Jc2 Y I (Oa2 _) bN)).mono ?_
  rintro e ca ⟨rfl,bD,bL⟩;go_wp2_with fail
  go_end0
  refine⟨rfl,?_,(bj.trans (Ky.of_below I Y.lt)).trans bL⟩;rw[Jrg]at bD;exact bD
def Jdx (v:V)(c:Nat):List V->List UInt8
 |[]=>low c::enc v.k v.n v.s
 |u::l=>if u.beq v then Jdx v (c+1) l else (low c::enc v.k v.n v.s)++Jdx u 1 l
def Yc:List V->List UInt8
 |[]=>[]
 |v::l=>Jdx v 1 l
theorem Jw2 l:∀ (v:V) (c:Nat),Jdx v c l=(low ((c+Qe v l:Nat):Int)::enc v.k v.n v.s)++Yc (l.drop (Qe v l)):=by
 induction l with
 |nil=>intro v c;simp[Jdx,Qe,Yc]
 |cons u l y=>
  intro v c;by_cases e:u.beq v=true
  ·simp only[Jdx,Qe,e,if_true,List.drop_succ_cons];rw[y v (c+1)];have:c+1+Qe v l=c+(Qe v l+1):=zo;rw[this]
  simp only[Jdx,Qe,e,if_false,Ol9];simp[Yc]
theorem Je9 v l:Yc (v::l)=(low ((Qe v (v::l):Nat):Int)::enc v.k v.n v.s)++Yc ((v::l).drop (Qe v (v::l))):=by
 have e:Qe v (v::l)=Qe v l+1:=by simp[Qe,(V.beq_iff v v).2 rfl]
 rw[e,List.drop_succ_cons];show Jdx v 1 l=_;rw[Jw2];have:1+Qe v l=Qe v l+1:=zo;rw[this]
theorem Jgc:Yc []=[]:=rfl
def Kgl:Value->Nat|.slice _ n _=>n|_=>0
theorem Jhn v l:1<=Qe v (v::l):=by simp[Qe,(V.beq_iff v v).2 rfl]
theorem Jzg {w b o vs}(h:Jv w (some (Ar b o)) vs)m:Jv w (some (Ar b (o+m*3))) (vs.drop m):=by
 rcases h with h|⟨H,I,e,hb,h⟩
 ·subst h;exact .inl zS
 simp at e;obtain⟨rfl,rfl⟩:=e;refine .inr ⟨b,o+m*3,rfl,hb,fun i v hv=>?_⟩;have:=h (m+i) v (by simpa using hv);have y:o+m*3+i*3=o+(m+i)*3:=zo;rw[y];exact this
theorem Jng:∀ (n:Nat)(xs:List V),xs.length<=n->(∀ v∈xs,good v.k v.s)->(Yc xs).length<=42*xs.length:=by
 intro n;induction n with
 |zero=>intro xs h _;have:xs=[]:=Od3.1 zo;subst this;simp[Yc]
 |succ n K=>
  intro xs h y;cases xs with
  |nil=>simp[Yc]
  |cons v l=>
   rw[Je9];have M:=Kc5 v.k v.n v.s (y v Of4);have O:=Jhn v l;have H:=K ((v::l).drop (Qe v (v::l))) (by rw[Of7];simp at h |-;omega) (fun u I=>y u (Oh7 I));rw[Oa8,List.length_cons];rw[Of7]at H;have U:=Jjn v (v::l);omega
theorem Jz0 B g t a cap xs bs w(h:WAt w B g t bs)(hl:bs.length<=10000)(cj:xs.length<=64)(bL:xs.length<=cap)(bz:∀ v∈xs,good v.k v.s)(bW:Jv w a xs)(bJ:∀ b o,a=some (Ar b o)->Ya w g b):
  Cq 110 #[Pq g,.slice a xs.length cap] w fun e w'=>e=.returned (.tuple #[])/\WAt w' B g t (bs++Yc xs)/\Ky w w' g:=by
 go_enter Tryz.func110,Tryz.ntmps110
 go_wp2;go_loopw [1] (fun sl wr=>∃ (rest:List V) (done:List UInt8) (a2:Option Addr) (y:Nat),sl=.slice a2 rest.length y/\rest.length<=xs.length/\rest.length<=y/\Hid (∀ v∈rest,good v.k v.s)/\Hid (bs++Yc xs=done++Yc rest)/\Jv wr a2 rest/\(∀ b o,a2=some (Ar b o)->Ya wr g b)/\WAt wr B g t done/\Ky w wr g) (fun sl _=>Kgl sl)
 case atStart=>exact⟨xs,bs,a,cap,rfl,Oa2 _,bL,bz,rfl,bW,bJ,h,Ky.refl _ _⟩
 case round=>
  obtain⟨rest,done,a2,y,rfl,cu,cn,bx,U,I,bj,bf,bC⟩:=hrel;cases rest with
  |nil=>
   go_wp2;go_end0
   have:=U.out;rw[Jgc,Od7]at this;rw[this];exact⟨rfl,bf,bC⟩
  |cons v l=>
   have bR:=Jhn v l;have bP:=Jjn v (v::l);have bQ:(v::l).length<=64:=zo;have bA:good v.k v.s:=bx.out v Of4;obtain⟨b2,H,rfl,cb,z1,z2,bh⟩:=I.at (i:=0) zS;simp only[List.getElem_cons_zero,Oo9,Nat.add_zero]at z1 z2 bh;have bk:=bj b2 H rfl;have bD:=Je9 v l;have bi:Hid _:=bD;have bE:=zh bA;have cf:done.length<=20000:=by
    have bI:=congrArg List.length U.out;rw[Oa8,Oa8]at bI;have ca:=Jng _ xs (Oa2 _) bz;omega
   clear bD bA;have cc:(0:Int)<((v::l).length:Int):=by rw[List.length_cons];omega
   have Z:=Jnq (some (Ar b2 H)) y v l wr bQ I;have bH:=zh I;generalize hR:v::l=R at *;have ci:0<R.length:=by rw[<-hR];simp
   have bZ:=zh hR;clear hR I;obtain⟨q,hq⟩:∃ q:Nat,q=Qe v R:=⟨_,rfl⟩;rw[<-hq]at Z bR bP bi;have bY:=zh hq;clear hq;have bG:=zh Z;clear Z;go_wp2_with fail
   refine bG.out.mono ?_;rintro e w1 ⟨rfl,br⟩;have bT:=bf.below br;go_wp2_with fail
   refine(Zq B g t _ _ _ bT zo).mono ?_;rintro e K ⟨rfl,bU,bN⟩;have bB:Ky wr K g:=(Ky.of_below br bf.lt).trans bN;have M:=(bB.block b2 bk).1;have cx:K.cell? (Ar b2 H)=some (Iq v.k):=by rw[Oc3 (w:=wr) M];exact z1
   have cy:K.cell? (Ar b2 (H+1))=some (Iq v.n):=by rw[Oc3 (w:=wr) M];exact z2
   have cz:K.cell? (Ar b2 (H+2))=some (.string v.s):=by rw[Oc3 (w:=wr) M];exact bh
   clear z1 z2 bh;go_wp2_with fail
   refine(Jl0 B g t v _ _ bU (by rw[Oa8,List.length_cons,List.length_nil];omega) bE.out).mono ?_;rintro e cv ⟨rfl,bV,bO⟩;have Y:=bB.trans bO;go_wp2;go_roundw
   case rel=>
    have bX:=Zk bH.out Y bj;have bM:bs++Yc xs=(done++[low (q:Int)]++enc v.k v.n v.s)++Yc (R.drop q):=by rw[U.out,bi.out];simp
    refine⟨R.drop q,done++[low (q:Int)]++enc v.k v.n v.s,_,y-q,by rw[Of7],by rw[Of7];omega,by rw[Of7];omega,fun u bS=>bx.out u (Oh7 bS),bM,?_,?_,bV,bC.trans Y⟩
    ·by_cases e:y=q
     ·have:R.drop q=[]:=List.drop_eq_nil_iff.2 zo;rw[this];exact Jv.nil _ _
     rw[if_neg e];exact Jzg bX q
    intro b o O;have bK:b=b2:=by
     split at O<;>simp at O<;>exact O.1.symm
    subst bK;exact(Y.block _ bk).2
   case measure=>simp[Kgl];omega
theorem Jn3 l:∀ (d:List V) (v:V),v∈d->v∈Ym d l:=by
 induction l with
 |nil=>intro d v h;exact h
 |cons u l y=>
  intro d v h;simp only[Ym];refine y _ v ?_;split
  ·exact h
  exact List.mem_append_left _ h
theorem Jr9 l:∀ (d:List V) (v:V),v∈l->v∈Ym d l:=by
 induction l with
 |nil=>intro d v h;simp at h
 |cons u l y=>
  intro d v h;simp only[Ym];rcases Of1.1 h with rfl|h
  ·refine Jn3 l _ v ?_;split
   ·rename_i hp
    have:=Jnx d v hp;rw[<-this];exact Ob3 hp
   exact List.mem_append_right _ zS
  exact y _ v h
theorem Jfh l v(h:v∈l):place l v<l.length:=by
 induction l with
 |nil=>simp at h
 |cons u l H=>
  by_cases e:u.beq v=true
  ·simp[place,e]
  have y:u≠v:=(V.beq_false u v).1 (by simpa using e);have:v∈l:=by rcases Of1.1 h with rfl|h;exact absurd rfl y;exact h
  simp[place,e];exact H this
theorem Jlj l:∀ (d:List V) (v:V),v∈Ym d l->v∈d\/v∈l:=by
 induction l with
 |nil=>intro d v h;exact .inl h
 |cons u l y=>
  intro d v h;simp only[Ym]at h;rcases y _ v h with h|h
  ·split at h
   ·exact .inl h
   rcases Od2.1 h with h|h
   ·exact .inl h
   right;simp at h;subst h;exact Of4
  exact .inr (Og1 _ h)
def Jds (xs:List V):List UInt8:=(low (Ym [] xs).length::Yv (Ym [] xs))++Kk (Ue 4 (xs.map (place (Ym [] xs))))
theorem Kfc d v(h:place d v<d.length):idx d v=(place d v:Int):=by unfold idx;rw[if_pos h]
theorem Jki B g t a cap xs bs w(h:WAt w B g t bs)(hl:bs.length<=1000)(Z:xs.length<=64)(bX:∀ v∈xs,good v.k v.s)(bN:Jv w a xs)(bS:∀ b o,a=some (Ar b o)->Ya w g b):
  Cq 109 #[Pq g,.slice a xs.length cap] w fun e w'=>e=.returned (.tuple #[])/\WAt w' B g t (bs++Jds xs)/\Ky w w' g:=by
 have ci:∀ W,(Instr.makeSlice 234 (Iq (xs.length:Int)) (Iq (xs.length:Int))).run Tryz.prog W=.ok (Sq W.heap.size xs.length xs.length) (W.alloc (.cells (madeCells #[.int .u64 0] xs.length) 235)):=
  fun W=>run_make_row' 234 235 (.int .u64 0) 8 zK Jiq rfl .i64 .i64 xs.length zo zo W
 have cj:=Jk0 xs [];have bk:∀ v∈Ym [] xs,good v.k v.s:=fun v hv=>by
  rcases Jlj xs [] v hv with h|h
  ·simp at h
  exact bX v h
 have bJ:∀ v∈xs,place (Ym [] xs) v<(Ym [] xs).length:=fun v hv=>Jfh _ _ (Jr9 xs [] v hv);have bD:Jds xs=(low (Ym [] xs).length::Yv (Ym [] xs))++Kk (Ue 4 (xs.map (place (Ym [] xs)))):=rfl;have bO:Hid _:=bD;clear bD;go_enter Tryz.func109,Tryz.ntmps109
 go_wp2_with fail
 refine(Jd8 a cap xs w Z bN).mono ?_;rintro e w1 ⟨sv,rfl,K,I⟩;obtain⟨a1,bB,rfl,bK⟩:=K.vals;have bh:∀ b o,a1=some (Ar b o)->Ya w1 g b:=by
  intro b o O;subst O;have:=Je K (g:=b) rfl;exact Jc2 h I this.1 this.2
 generalize Ym [] xs=d at *;have bU:d.length<=64:=by simp at cj;omega
 have bL:=h.below I;clear K;go_wp2_with fail
 refine(Zq B g t _ _ _ bL zo).mono ?_;rintro e cF ⟨rfl,bM,U⟩;have bz:=Zk bK U bh;have bi:=Jde U bh;go_wp2_with fail
 refine(Jk4 B g t a1 bB d _ _ bM (by rw[Oa8,List.length_cons,List.length_nil];omega) bU bk bz bi).mono ?_;rintro e y ⟨rfl,bA,br⟩;have bI:=U.trans br;have bH:=(Ky.of_below I h.lt).trans bI;have cn:=Zk bz br bi;have cy:=Zk bN bH bS;have cb:=Jgg d bk;have cc:(bs++[low d.length]++Yv d).length<=50000:=by simp only[Oa8,List.length_cons,List.length_nil];omega
 clear bK bz bh bi bL bM U br I bI bk cb;have bV:d.length<=maxLen:=by unfold maxLen;omega
 go_wp2_with fail
 clear ci;go_loopw [22] (fun i wr=>∃ k:Nat,k<=xs.length/\i=Iq k/\wr.rowIs y.heap.size 235 xs.length (fun j=>uv (if j<k then (xs.map (place d))[j]?.getD 0 else 0))/\Bq y wr) (fun i _=>xs.length-(intOf i).toNat)
 case atStart=>exact⟨0,zo,rfl,Ol3 _ _ _ _,(Oa5 _ _).alloc (Oa2 _) _⟩
 case round=>
  obtain⟨k,cC,rfl,M,H⟩:=hrel;by_cases Y:k<xs.length
  ·obtain⟨b1,cE,rfl,I,x1,x2,cH⟩:=(cy.below H).at Y;have c3:=M.lt;have hp:=bJ _ (Ob3 Y);have bG:=Kfc d xs[k] hp;have bE:(xs.map (place d))[k]?.getD 0=place d xs[k]:=(by simp[Y]);have bP:Hid _:=bE;have bQ:=zh bG;have cu:=(cn.below H).below ((Oa5 _ _).alloc (Oa2 _) (.cells #[Iq xs[k].k,Iq xs[k].n,.string xs[k].s] 65));have cD:place d xs[k]<=64:=zo;clear bE bG hp;go_wp2_with fail
   refine(Joy a1 bB d xs[k] _ bV cu).mono ?_;rintro e w4 ⟨rfl,bf⟩;rw[bQ.out];obtain⟨bj,bW⟩:=Kx bf;have bx:w4.rowIs y.heap.size 235 xs.length (fun j=>uv (if j<k then (xs.map (place d))[j]?.getD 0 else 0)):=(M.alloc _).of_block (bf.block _ (M.alloc _).lt);have c1:=bx.cell Y;have c2:=bx.frozen k;clear bj bW;generalize place d xs[k]=P at *;go_wp2;go_roundw
   case rel=>
    refine⟨k+1,zo,zn,(bx.set k _).congr fun j cB=>?_,(Jb H (Qx bf)).setCell (p:=Ar y.heap.size k) (Oa2 _) _⟩;by_cases e:j=k
    ·subst e;simp only[if_true,On2];rw[bP.out];rfl
    have bR:(j<k+1)=(j<k):=by rw[eq_iff_iff];omega
    simp only[e,bR,if_false]
   case measure=>simp[intOf];omega
  have ca:k=xs.length:=zo;subst ca;have K:Jo wr y.heap.size 235 (Sq y.heap.size xs.length xs.length) ((xs.map (place d)).map uv):=
   Jhx M (Oa2 _) (by unfold maxLen;omega) _ zS (by
    intro i hi;have bY:i<xs.length:=by simpa using hi
    simp[bY])
  obtain⟨cz,cA,bC,bj⟩:=K.cells;simp only[Oa6]at bC;injection bC with e5 e6 e7;subst e5;subst e7;have bT:(xs.map (place d)).length=xs.length:=zS;have cv:=bA.below H;have cf:=M.lt;go_wp2_with fail
  rw[<-bT];refine(Jd4 B g t _ 4 _ _ (xs.map (place d)) _ cv cc zo (by simpa using Z) (by
   intro n Z;obtain⟨v,hv,rfl⟩:=Of0.1 Z;have:=bJ v hv;omega) bj (by
   intro b o O;simp at O;obtain⟨rfl,rfl⟩:=O;exact Jc2 bA H (Oa2 _) cf)).mono ?_
  rintro e cG ⟨rfl,cx,bZ⟩;go_wp2_with fail
  go_end0
  refine⟨rfl,?_,(bH.trans (Ky.of_below H bA.lt)).trans bZ⟩;rw[bO.out];simpa using cx
def Jei:List V->List UInt8
 |[]=>[]
 |v::l=>
  le8 (u64 (Jn v.n (v::l)))++[low (bitLen (Yz (dif v.n (Jn v.n (v::l))) (Uv l (Jn v.n (v::l)))):Nat)]
   ++ Kk (Ue (bitLen (Yz (dif v.n (Jn v.n (v::l))) (Uv l (Jn v.n (v::l))))) (Uv (v::l) (Jn v.n (v::l))))
def Zz (t:Int)(xs:List V):List UInt8:=if t=2 then Kk (Ue 1 (Uv xs 0))else Jei xs
theorem Jkx xs q:∀ n∈Uv xs q,n<18446744073709551616:=by
 intro n y;obtain⟨v,_,rfl⟩:=Of0.1 y;exact Jp3 _
theorem Jf7 n(h:n<18446744073709551616):bitLen n<=64:=by
 unfold bitLen;split
 ·omega
 rename_i h0
 have:=(Nat.log2_lt h0).2 (show n<2 ^ 64 from h);omega
theorem Jq7 B g t a cap xs bs w(h:WAt w B g t bs)(hl:bs.length<=1000)(y:xs.length<=64)(Y:Jv w a xs):
  Cq 111 #[Pq g,.slice a xs.length cap] w fun e w'=>e=.returned (.tuple #[])/\WAt w' B g t (bs++Zz t xs)/\Ky w w' g:=by
 obtain⟨cn,c0,_,_,_,_⟩:=h.cells;unfold Zz;by_cases ht:t=2
 ·subst ht;rw[if_pos rfl];go_enter Tryz.func111,Tryz.ntmps111
  go_wp2_with fail
  refine(Jff a cap xs 0 w y Y).mono ?_;rintro e w1 ⟨sv,rfl,K,H⟩;have bj:=fun b hb=>Je K (g:=b) hb;obtain⟨a1,cc,rfl,bP⟩:=K.cells;rw[Oa6];have bV:=Jkx xs 0;have O:(Uv xs 0).length<=64:=by simpa [Uv] using y
  generalize I:Uv xs 0=M at *;have bK:=zh I;clear I;go_wp2_with fail
  refine(Jd4 B g 2 _ 1 _ _ M _ (h.below H) zo zo O bV bP (by
   intro b o bk;subst bk;have:=bj b rfl;exact Jc2 h H this.1 this.2)).mono ?_
  rintro e bH ⟨rfl,bW,bR⟩;go_wp2_with fail
  exact bodyPost_ret (v:=.tuple #[]) (by simp[results,Tryz.results111,go_sem]) rfl ⟨rfl,by rw[bK.out];exact bW,(Ky.of_below H h.lt).trans bR⟩
 rw[if_neg ht];have ci:(t==2)=false:=by simp[ht]
 cases xs with
 |nil=>
  go_enter Tryz.func111,Tryz.ntmps111
  go_wp2;exact bodyPost_ret (v:=.tuple #[]) (by simp[results,Tryz.results111,go_sem]) rfl ⟨rfl,by simpa [Jei] using h,Ky.refl _ _⟩
 |cons v l=>
  have bG:Jei (v::l)=le8 (u64 (Jn v.n (v::l)))++[low (bitLen (Yz (dif v.n (Jn v.n (v::l))) (Uv l (Jn v.n (v::l)))):Nat)]
   ++ Kk (Ue (bitLen (Yz (dif v.n (Jn v.n (v::l))) (Uv l (Jn v.n (v::l))))) (Uv (v::l) (Jn v.n (v::l)))):=rfl
  have bz:=Jkt a cap v l w y Y;generalize Jn v.n (v::l)=q at *;have Z:Hid _:=bG;clear bG;have br:=fun W bM bN=>Jff a cap (v::l) q W bM bN;have I:Uv (v::l) q=dif v.n q::Uv l q:=rfl;have U:=Jkx (v::l) q;rw[I]at Z U;have O:(dif v.n q::Uv l q).length<=64:=by simpa [Uv] using y
  have bE:Yz (dif v.n q) (Uv l q)<18446744073709551616:=Jk2 _ _ _ (U _ Of4) fun n y=>U n (Og1 _ y);have bO:=Jf7 _ bE;have hR:∃ R:List V,R=v::l:=⟨_,rfl⟩;obtain⟨R,hR⟩:=hR;have cf:((R.length:Int)==0)=false:=by rw[hR];simp;omega
  rw[<-hR]at Y y bz br I Z |-;clear hR;have bL:=zh bz;clear bz;generalize dif v.n q=bf at *;generalize Uv l q=M at *;have bJ:=zh br;clear br;go_enter Tryz.func111,Tryz.ntmps111
  go_wp2_with fail
  refine bL.out.mono ?_;rintro e w1 ⟨rfl,H⟩;go_wp2_with fail
  refine(bJ.out w1 y (Y.below H)).mono ?_;rintro e bH ⟨sv,rfl,K,bC⟩;have bj:=fun b hb=>Je K (g:=b) hb;rw[I]at K;obtain⟨a2,bA,rfl,bD⟩:=K.cells;rw[Oa6];go_wp2_with fail
  refine(Kf3 a2 bA bf M bH O bD).mono ?_;rintro e bI ⟨rfl,bi⟩;unfold uv;go_wp2_with fail
  refine(Jy4 _ bI bE).mono ?_;rintro e w4 ⟨rfl,cj⟩;subst w4;have bh:=Jb H (Jb bC bi);have bX:=h.below bh;have bQ:=bD.below bi;generalize bitLen (Yz bf M)=cb at *;go_wp2_with fail
  refine(Jka B g t q _ _ bX zo).mono ?_;rintro e cu ⟨rfl,bY,bS⟩;go_wp2_with fail
  refine(Zq B g t _ _ _ bY (by rw[Oa8,Jc4];omega)).mono ?_;rintro e cv ⟨rfl,bZ,bT⟩;have bx:=bS.trans bT;have bB:∀ b o,a2=some (Ar b o)->Ya bI g b:=by
   intro b o bk;subst bk;have:=bj b rfl;have s1:=H.size;have s2:=bC.size;have s3:=bi.size;exact Jc2 h bh zo zo
  go_wp2_with fail
  refine(Jd4 B g t _ cb a2 bA (bf::M) _ bZ (by simp only[Oa8,Jc4,List.length_cons,List.length_nil];omega) bO O U (Jwe bQ bx bB) (Jde bx bB)).mono ?_;rintro e cx ⟨rfl,ca,bU⟩;go_wp2_with fail
  go_end0
  refine⟨rfl,?_,((Ky.of_below bh h.lt).trans bx).trans bU⟩;rw[Z.out];simpa using ca
theorem Jgs g w:
  Cq 87 #[Pq g] w fun e w'=>e=.returned (.agg #[.func (.func 108) #[Pq g] #[],.func (.func 109) #[Pq g] #[],.func (.func 110) #[Pq g] #[],.func (.func 111) #[Pq g] #[]])/\Bq w w':=by
 have hone:∀ (W:World) (a:Addr) f x c,(store a (.func f x c)).run Tryz.prog W=match W.cell? a with
   | some _ => if W.frozen? a then .halt (.unsupported (.unsafePointer "a write to bytes that a string shares")) W else .ok () (W.setCell a (.func f x c))
   |none=>match W.farStore Tryz.prog a (.func f x c) (Mode.plain==.atomic)with
    |.ok (w',_)=>.ok () w'
    |.error h=>.halt h W:=fun W a f x c=>run_store Tryz.prog W a (.func f x c) .plain rfl
 go_enter Tryz.func87,Tryz.ntmps87
 go_wp2;exact bodyPost_ret (v:=.agg #[.func (.func 108) #[Pq g] #[],.func (.func 109) #[Pq g] #[],.func (.func 110) #[Pq g] #[],.func (.func 111) #[Pq g] #[]]) (by simp[results,Tryz.results87,go_sem]) rfl ⟨rfl,(Oa5 _ _).alloc (Oa2 _) _⟩
end
open Go.RowKit Go.Extern.Stop Go.Stop Go.Extern Tryz
theorem Kbo v a t w(h:∃ k,Zg w k v a)(y:∃ c t,w.heap[a.block]?=some (.cells c t (0,0)))(ht:∃ c u,w.heap[t.block]?=some (.cells c u (0,0)))r(hr:r=true↔a=t):
  Cq 75 #[v,Ie 435 t,.bool true] w fun e w'=>e=.returned (.bool r)/\w'=w:=by
 obtain⟨bG,ta,y⟩:=y;obtain⟨ct,bM,ht⟩:=ht;obtain⟨i,hi,I⟩:=Oe9.1 Khh;obtain⟨j,K,bf⟩:=Oe9.1 Kha;have Y:Hid ((binOp .eql 77 (Ie 435 a) (Ie 435 t)).run prog w=.ok (.bool r) w):=by
  show _=_;by_cases H:a=t
  ·rw[hr.2 H];subst H;exact run_eql_iface_ptr_same (P:=prog) w a underlying77 underlying435 hi I K
  have:r=false:=by cases r with
   |false=>rfl
   |true=>exact absurd (hr.1 rfl) H
  rw[this];exact run_eql_iface_ptr_other (P:=prog) w underlying77 underlying435 hi I K (by rw[bf];decide) H y ht
 have U:=zh h;obtain⟨bN,bP,rfl⟩:∃ ty x,v=.iface ty x:=by obtain⟨_,bk⟩:=h;exact bk.iface
 clear h hr y ht hi I K bf;go_enter func75,ntmps75
 go_wp2_with fail
 obtain⟨bA,bh⟩:=U.out;go_loopg [0] bA (fun k ev wr=>wr=w/\Zg w k ev a)
 case atStart=>exact⟨rfl,bh⟩
 case round=>
  obtain⟨bx,O⟩:=hrel;subst bx;clear U bh;rcases gk with _|n
  ·have bz:_=Value.iface 435 (Po a):=O;subst bz;clear O;have bB:=Kcw;have bD:=Jmp;have bO:=Jhb;have bJ:=Y.out;cases r with
   |true=>
    go_wp2_with fail
    go_ret
    exact⟨rfl,rfl⟩
   |false=>
    go_wp2_with fail
    go_ret
    exact⟨rfl,rfl⟩
  obtain⟨ty,off,bE,b,v,hW,br,Z,M⟩:=O;subst br;have bi:=zh M;have bj:Hid (Cq bE #[Pq b] wr fun e w'=>e=.returned v/\w'=wr):=hW.walk b v _ Z;obtain⟨bC,x1,rfl⟩:=M.iface;have bB:=hW.noIs;have bD:=hW.unwrap;have bL:=hW.meth;have bH:=hW.enter;have bI:=hW.eql;have bK:=run_eql_held_nil (P:=prog) wr 77 bC x1 zK;clear hW Z M Y;go_wp2_with fail
  refine bj.out.mono ?_;rintro e w' ⟨rfl,rfl⟩;go_wp2_with fail
  go_roundg n
  case measure=>exact On2 n
  case rel=>exact⟨by first|trivial|rfl,bi.out⟩
theorem Jci v a t w(h:∃ k,Zg w k v a)(H:∃ c t,w.heap[a.block]?=some (.cells c t (0,0)))(ht:∃ c u,w.heap[t.block]?=some (.cells c u (0,0)))r(hr:r=true↔a=t):
  Cq 54 #[v,Ie 435 t] w fun e w'=>e=.returned (.bool r)/\w'=w:=by
 have O:=@run_callFunc_extern prog 74 _ Extern.ReflectliteType.typeOf func74 zK zK zK zK;have M:=Kcb;have Y:=Jld;have K:=Jpv;have U:=Jhv;have y:=Kbo v a t w h H ht r hr;obtain⟨ty,x,rfl⟩:∃ ty x,v=.iface ty x:=by obtain⟨_,y⟩:=h;exact y.iface
 have I:=zh y;clear y hr H ht h;go_enter func54,ntmps54
 go_wp2_with fail
 refine I.out.mono ?_;rintro e w' ⟨rfl,rfl⟩;go_wp2_with fail
 go_ret
 exact⟨rfl,rfl⟩
