/- How many bits a number below 2^64 needs: math/bits.Len64, by Go's own text. -/
import Derived.Test.YtjbenncelbpbnaaGreatDoorEr
import Derived.Deep.RegionLaw
import Derived.Deep.AppendLies
import Derived.Deep.DrawnRows
set_option maxHeartbeats 1000000
set_option maxRecDepth 100000
namespace Go.Proofs.YtjbenncelbpbnaaGreatDoor
section
open Go.RowKit Tryz
def WAt (w:World)(B g:Nat)(t:Int)(bs:List UInt8):Prop:=
 B<=g/\∃ sv,w.heap[g]?=some (.cells #[.int .i64 t,sv] 199 (0,0))/\Jo w B 5 sv (bs.map bv)/\sv.ownBlock≠some g
def Ya (w:World)(g k:Nat):Prop:=k<w.heap.size/\k≠g/\∀ sv,w.cell? ⟨g,1,none⟩=some sv->sv.ownBlock≠some k
structure Ky (w w':World) (g:Nat):Prop where
 os:w'.os=w.os
 tape:w'.tape=w.tape
 output:w'.output=w.output
 size:w.heap.size<=w'.heap.size
 block:∀ k,Ya w g k->w'.heap[k]?=w.heap[k]?/\Ya w' g k
theorem Ky.refl w g:Ky w w g:=⟨rfl,rfl,rfl,Oa2 _,fun _ h=>⟨rfl,h⟩⟩
theorem Ky.trans {a b c g}(h:Ky a b g)(k:Ky b c g):Ky a c g:=
 ⟨k.os.trans h.os,k.tape.trans h.tape,k.output.trans h.output,Ob2 h.size k.size,fun i hi=>⟨((k.block i (h.block i hi).2).1).trans (h.block i hi).1,(k.block i (h.block i hi).2).2⟩⟩
theorem Ky.of_below {w w' g}(hb:Below w.heap.size w w')(y:g<w.heap.size):Ky w w' g:=
 ⟨hb.os,hb.tape,hb.output,hb.size,fun k hk=>⟨hb.block k hk.1,by have:=hb.size;have:=hk.1;omega,hk.2.1,fun sv hs=>hk.2.2 sv (by rw[<-hs];exact(Oc3 (w:=w) (hb.block g y)).symm)⟩⟩
theorem WAt.lt {w B g t bs}(h:WAt w B g t bs):g<w.heap.size:=by
 obtain⟨_,sv,H,_⟩:=h;exact zat
theorem WAt.below {w w' B g t bs}(h:WAt w B g t bs)(hb:Below w.heap.size w w'):WAt w' B g t bs:=by
 have hl:=h.lt;obtain⟨y,sv,H,ho,hn⟩:=h;exact⟨y,sv,by rw[hb.block g hl];exact H,ho.below hb,hn⟩
theorem WAt.cells {w B g t bs}(h:WAt w B g t bs):
  ∃ sv,w.cell? ⟨g,0,none⟩=some (.int .i64 t)/\w.cell? ⟨g,1,none⟩=some sv/\w.frozen? ⟨g,1,none⟩=false/\Jo w B 5 sv (bs.map bv)/\sv.ownBlock≠some g:=by
 obtain⟨_,sv,y,ho,hn⟩:=h;exact⟨sv,by simp[World.cell?,y],by simp[World.cell?,y],by simp[World.frozen?,y],ho,hn⟩
theorem WAt.apart {w B g t bs}(h:WAt w B g t bs){k}(hk:k<B)(hl:k<w.heap.size):Ya w g k:=by
 obtain⟨sv,_,y,_,ho,_⟩:=h.cells;have H:=h.1;refine⟨hl,zo,fun sv' hs e=>?_⟩;rw[y]at hs;cases hs
 have:=(Je ho e).1;omega
theorem WAt.step {w I w1 B g t bs bs' sv sv'}(h:WAt w B g t bs)(M:w.cell? ⟨g,1,none⟩=some sv)(hb:Below w.heap.size w I)(y:I.grownBy w1 sv.ownBlock)(bx:Jo w1 B 5 sv' (bs'.map bv))(hw:sv'.ownBlock=sv.ownBlock\/sv'.ownBlock=some I.heap.size):
  WAt (w1.setCell ⟨g,1,none⟩ sv') B g t bs'/\Ky w (w1.setCell ⟨g,1,none⟩ sv') g:=by
 have hl:=h.lt;obtain⟨bi,H,O,ho,hn⟩:=h;have bh:H=sv:=by simpa [World.cell?,O] using M
 subst bh;have bB:=hb.size;have bk:I.heap[g]?=some (.cells #[.int .i64 t,H] 199 (0,0)):=by rw[hb.block g hl];exact O
 have bj:w1.heap[g]?=some (.cells #[.int .i64 t,H] 199 (0,0)):=by rw[y.block g zo (Oc5 hn)];exact bk
 have Y:sv'.ownBlock≠some g:=by
  rcases hw with e|e
  ·rw[e];exact hn
  rw[e];intro K;simp at K;omega
 have bf:(w1.setCell ⟨g,1,none⟩ sv').heap[g]?=some (.cells #[.int .i64 t,sv'] 199 (0,0)):=by
  simp[World.setCell,Array.getElem?_modify,bj]
 have Z:∀ k,k≠g->(w1.setCell ⟨g,1,none⟩ sv').heap[k]?=w1.heap[k]?:=fun k hk=>Oa4 _ _ _ _ hk;have bA:(w1.setCell ⟨g,1,none⟩ sv').heap.size=w1.heap.size:=by simp[World.setCell]
 have bz:=y.size;refine⟨⟨bi,sv',bf,?_,Y⟩,⟨y.os.trans hb.os,y.tape.trans hb.tape,y.output.trans hb.output,zo,?_⟩⟩
 ·exact Jl bx fun k hk=>Z k fun e=>Y (by rw[hk,e])
 intro k hk;have U:=hk.2.2 H M;have br:=hk.1;refine⟨?_,zo,hk.2.1,fun s hs=>?_⟩
 ·rw[Z k hk.2.1,y.block k zo (Oc5 U),hb.block k br]
 have:s=sv':=by
  have e:(w1.setCell ⟨g,1,none⟩ sv').cell? ⟨g,1,none⟩=some sv':=by simp[World.cell?,bf]
  rw[e]at hs;exact(Oj6 hs).symm
 subst this;rcases hw with e|e
 ·rw[e];exact U
 rw[e];intro K;simp at K;omega
theorem Zk {w w' g a vs}(h:Jv w a vs)(hk:Ky w w' g)(y:∀ b o,a=some ⟨b,o,none⟩->Ya w g b):Jv w' a vs:=
 h.of_block hk.size fun b o hb _=>(hk.block b (y b o hb)).1
theorem Jde {w w':World}{g:Nat}{a:Option Addr}(hk:Ky w w' g)(y:∀ b o,a=some ⟨b,o,none⟩->Ya w g b):∀ b o,a=some ⟨b,o,none⟩->Ya w' g b:=
 fun b o hb=>(hk.block b (y b o hb)).2
theorem Jc2 {w w' B g t bs}(h:WAt w B g t bs)(hb:Below w.heap.size w w'){k}(hk:w.heap.size<=k)(H:k<w'.heap.size):Ya w' g k:=by
 have hl:=h.lt;obtain⟨sv,_,y,_,ho,_⟩:=h.cells;refine⟨H,zo,fun s hs e=>?_⟩;have:w'.cell? ⟨g,1,none⟩=some sv:=by rw[Oc3 (w:=w) (hb.block g hl)];exact y
 rw[this]at hs;cases hs
 have:=(Je ho e).2;omega
theorem Ua (w:World)(v:Value)(e:TypeId):∀ (j:Nat) (u:Value),[v][j]?=some u->(w.alloc (.cells #[v] e)).cell? ((⟨w.heap.size,0,none⟩:Addr).add j)=some u:=by
 intro j u y;cases j with
 |zero=>simp at y;subst y;simp[Addr.add]
 |succ j=>simp at y
theorem Jnf (w:World)(o:Obj)(b i:Nat)(h:b<w.heap.size):(w.alloc o).cell? ⟨b,i,none⟩=w.cell? ⟨b,i,none⟩:=
 Oc3 (Oa9 w o b h)
theorem Jh9 (w:World)(o:Obj)(b i:Nat)(h:b<w.heap.size):(w.alloc o).frozen? ⟨b,i,none⟩=w.frozen? ⟨b,i,none⟩:=
 Ol7 (Oa9 w o b h)
theorem Kgh n:Value.int .u8 (n % 256)=bv (low n):=by
 unfold bv low;congr 1
 simp;omega
theorem Zq B g t n bs w(h:WAt w B g t bs)(hl:bs.length<=100000):
  Calls prog 121 #[.pointer (some ⟨g,0,none⟩),.int .i64 n] w fun e w'=>e=.returned (.tuple #[])/\WAt w' B g t (bs++[low n])/\Ky w w' g:=by
 have U:=h.lt;have O:=h.1;obtain⟨sv,c0,c1,c2,ho,hn⟩:=h.cells;have hlen:(bs.map bv).length<=100000:=by simpa using hl
 go_enter func121,ntmps121
 go_wp2_with (at_builtin;go_must (refine Ks zR _ _ 197 5 _ 1 Jfa zR zd zK zR B sv _ zR (ho.alloc _) ⟨w.heap.size,0,none⟩ 1 [.int .u8 (n % 256)] zR (by exact Ua _ _ _) (by intro u I;simp at I;subst I;rfl) (by simp only[List.length_cons,List.length_nil];omega) zt ?_);intro sv' w1 y H K;obtain⟨a2,M,rfl,_⟩:=y.cells;have Y:=H.cell_far ⟨g,1,none⟩ zt (Oc5 hn);have Z:=H.frozen_far ⟨g,1,none⟩ zt (Oc5 hn))
 go_end0
 rw[Kgh]at y;have:=h.step (bs':=bs++[low n]) c1 ((Oa5 _ _).alloc (Oa2 _) _) H (by simpa using y) K;simp only[Oa8,Oa6,List.length_cons,List.length_nil]at this;exact⟨rfl,this⟩
theorem Jka B g t n bs w(h:WAt w B g t bs)(hl:bs.length<=100000):
  Calls prog 171 #[.pointer (some ⟨g,0,none⟩),.int .i64 n] w fun e w'=>e=.returned (.tuple #[])/\WAt w' B g t (bs++le8 (u64 n))/\Ky w w' g:=by
 have O:IntKind.u64.wrap n=(u64 n:Int):=by rw[Oh5];unfold u64;omega
 have bI:=Jp3 n;generalize u64 n=y at *;go_enter func171,ntmps171
 go_wp2;go_loopw [5] (fun i wr=>∃ k:Nat,k<=8/\i=.int .i64 k/\WAt wr B g t (bs++(List.range k).map fun i=>UInt8.ofNat (y / 256 ^ i % 256))/\Ky w wr g) (fun i _=>8-(intOf i).toNat)
 case atStart=>exact⟨0,zo,rfl,by simpa using h,Ky.refl _ _⟩
 case round=>
  obtain⟨k,hk,rfl,hw,Y⟩:=hrel;by_cases bG:k<8
  ·have U:=hw.lt;have bE:=hw.1;obtain⟨sv,c0,c1,c2,ho,hn⟩:=hw.cells;generalize I:bs++((List.range k).map fun i=>UInt8.ofNat (y / 256 ^ i % 256))=H at *;have hlen:(H.map bv).length<=100010:=by rw[<-I];simp;omega
   have bf:Hid _:=I;clear I;obtain⟨c,br⟩:∃ c:Nat,c=8*k:=⟨_,rfl⟩;have bJ:IntKind.i64.wrap (8*(k:Int))=(c:Int):=by rw[Od4];omega
   obtain⟨q,hq⟩:∃ q:Nat,q=y / 256 ^ k % 256:=⟨_,rfl⟩;have bK:IntKind.u8.wrap ((y:Int) / 2 ^ min c 64)=(q:Int):=by
    have e:min c 64=8*k:=zo;have bi:((2:Int) ^ (8*k))=((256 ^ k:Nat):Int):=by
     rw[Int.natCast_pow,Int.pow_mul];rfl
    rw[e,hq,bi,IntKind.wrap_u8];omega
   have bh:Hid (Value.int .u8 (q:Int)=bv (UInt8.ofNat (y / 256 ^ k % 256))):=by
    show Value.int .u8 (q:Int)=_;rw[hq];unfold bv;congr 1;simp
   clear br hq;obtain⟨bD,bx,bA,bB,bC⟩:=info_parts Jfa;go_wp2_with fail
   go_region_law
    ((refine step_append_lies _ zR _ _ _ zR B 5 bD _ 1 1 zK bx bA bB bC rfl zo sv (H.map bv).length (H.map bv) zR ((World.ownsRow.drew (ho.alloc _)))
       ⟨wr.heap.size,0,none⟩ 1 1 [.int .u8 (q:Int)] zR zR (by exact Ua wr _ 5) (by intro u O;simp at O;subst O;rfl)
       zo (by unfold maxLen;omega) zo zt (wr.heap.size+1) zS ?_;intro bj cap w1 Z K bk bH;have bL:w1.cell? ⟨g,1,none⟩=some sv:=(by rw[K.cell_far _ zt (Oc5 hn)];exact(Jnf wr _ g 1 U).trans c1);have bM:w1.frozen? ⟨g,1,none⟩=false:=(by rw[K.frozen_far _ zt (Oc5 hn)];exact(Jh9 wr _ g 1 U).trans c2)))
   all_goals
    go_wp2;go_roundw
    case rel=>
     rw[bh.out]at Z;have M:=hw.step (bs':=H++[UInt8.ofNat (y / 256 ^ k % 256)]) (sv':=.slice (some ⟨bj,0,none⟩) ((List.map bv H).length+1) cap) c1 (((Oa5 _ _).alloc (Oa2 _) _).drew) K (by simpa [Jo] using Z)
      (by
        rcases bk with e|e
        ·exact .inl e.symm
        right;simp[Value.ownBlock,e])
     simp only[Oa6]at M;refine⟨k+1,zo,zn,?_,Y.trans M.2⟩;rw[Oj7,Ob8,<-Od8,bf.out];exact M.1
    case measure=>simp[intOf];omega
  have bz:k=8:=zo;subst bz;go_wp2;go_end0
  exact⟨rfl,hw,Y⟩
theorem Jo.form {w B e sv xs}(h:Jo w B e sv xs):∃ a ln c,sv=.slice a ln c:=by
 obtain⟨a,c,hv,_⟩:=h.cells;exact⟨a,_,c,hv⟩
theorem Jsr s:Lib.strCells s=s.toList.map bv:=by
 rw[Og4];rfl
theorem Jlc w B ty sv bs(H:Jo w B 5 sv (bs.map bv))(bh:bs≠[])s(hlen:bs.length+s.size<=1000000)(Z:B<=w.heap.size):
  ∃ sv' w',(Builtin.append_ #[197,9] ty #[sv,.string s]).run prog w=.ok sv' w'/\Jo w' B 5 sv' ((bs++s.toList).map bv)/\w.grownBy w' sv.ownBlock/\(sv'.ownBlock=sv.ownBlock\/sv'.ownBlock=some w.heap.size):=by
 obtain⟨i,hi,M,I,K⟩:=info_parts Jfa;have hl:(bs.map bv).length=bs.length:=zS;obtain⟨bj,w',hr,U,Y,_⟩:=Lib.run_append_own_string (P:=prog) w B 197 9 ty 5 i zK zK hi M I K sv _ _ H s (by unfold maxLen;omega) zo Z;refine⟨bj,w',hr,?_,Y,?_⟩
 ·unfold Jo;rw[Ob8,<-Jsr,Oa8,Lib.strCells_length];exact U
 rcases H.2 with⟨_,h0⟩|⟨g,cap,O,rfl,bk,bf,bz,br,bx,bA⟩
 ·rw[hl]at h0;exact absurd (Od3.1 h0) bh
 by_cases bi:(bs.map bv).length+s.size<=cap
 ·have y:=Lib.run_append_room_string (P:=prog) w 197 9 ty 5 i zK zK hi I g (bs.map bv).length cap O bf s bi zo;rw[hr]at y;injection y with e1 _;subst e1;exact .inl rfl
 have y:=Lib.run_append_grow_string (P:=prog) w 197 9 ty 5 i _ zK zK hi M ⟨g,0,none⟩ (bs.map bv).length cap (bs.map bv) (by rw[I,Nat.mul_one]) (World.ownsRow.cells H (g:=g) rfl) s zo zo (by rw[K];exact growslice_fits zo zo);rw[hr]at y;injection y with e1 _;subst e1;exact .inr rfl
theorem Jks {H o a w y Q E}(U:o.guard=none)sl x(ho:o.op=.call {callee:=.builtin .append,args:=#[sl,x],argTypes:=#[197,9]})B sv bs(hs:a.eval sl=sv)(Z:Jo w B 5 sv (bs.map bv))(Y:bs≠[])s(bf:a.eval x=.string s)(hlen:bs.length+s.size<=1000000)(O:B<=w.heap.size)(h:∀ sv' w',Jo w' B 5 sv' ((bs++s.toList).map bv)->w.grownBy w' sv.ownBlock->(sv'.ownBlock=sv.ownBlock\/sv'.ownBlock=some w.heap.size)->y (a.put o.dst sv') w'):
  if Region.wanted o (yielded H a.tmps)=true then Oper.wp prog o a w y Q else E:=by
 have hw:Region.wanted o (yielded H a.tmps)=true:=by simp[Region.wanted,U]
 rw[if_pos hw];obtain⟨bh,w',hr,I,K,M⟩:=Jlc w B o.type sv bs Z Y s hlen O;unfold Oper.wp execOp;simp only[ho,resolve,invoke,builtin,Og8,Sem.run_pure,Result.andThen_ok,List.map_toArray,Oe4,Oi4,hs,bf,hr];exact h bh w' I K M
theorem Khe (y n b A:Nat)(M:y<256)(hn:n<18446744073709551616):
  bits BinOp.or IntKind.u8 (y:Int) (bits BinOp.and IntKind.u64 ((n:Int) / 2 ^ b) 1 % 256*2 ^ (A % 8) % 256)=((y ||| ((if n.testBit b then 1 else 0) <<< (A % 8)):Nat):Int):=by
 have H:((n:Int) / 2 ^ b)=((n / 2 ^ b:Nat):Int):=zS;have U:n / 2 ^ b<18446744073709551616:=Nat.lt_of_le_of_lt (Oo6 _ _) hn;have I:bits BinOp.and IntKind.u64 ((n / 2 ^ b:Nat):Int) 1=((n / 2 ^ b % 2:Nat):Int):=by
  have:=u64_and_nat (n / 2 ^ b) 1 U zd;rw[Nat.and_one_is_mod]at this;exact this
 have K:n.testBit b=decide (n / 2 ^ b % 2=1):=On1;rw[H,I,K];have Y:n / 2 ^ b % 2<2:=Ol0 _ zd;have O:A % 8<8:=Ol0 _ zd;generalize n / 2 ^ b % 2=m at *;generalize A % 8=c at *;have key:∀ (m:Fin 2) (c:Fin 8),((m.val:Int) % (256:Int)*(2:Int) ^ c.val % (256:Int))=(((if decide (m.val=1)=true then 1 else 0) <<< c.val:Nat):Int)/\((if decide (m.val=1)=true then 1 else 0) <<< c.val:Nat)<256:=zd;have k:=key ⟨m,Y⟩ ⟨c,O⟩;simp only at k;rw[k.1];exact u8_or_nat y _ M k.2
theorem Jd4 (B g:Nat)(t:Int)bs(y:Nat)a(cap:Nat)ns w(h:WAt w B g t bs)(hl:bs.length<=50000)(cE:y<=64)(hn:ns.length<=64)(cC:∀ n∈ns,n<18446744073709551616)(cF:Uh w a (ns.map uv))(cI:∀ b o,a=some ⟨b,o,none⟩->Ya w g b):
  Calls prog 122 #[.pointer (some ⟨g,0,none⟩),.int .i64 y,.slice a ns.length cap] w fun e w'=>e=.returned (.tuple #[])/\WAt w' B g t (bs++Kk (Ue y ns))/\Ky w w' g:=by
 have cL:y*ns.length<=64*64:=Ol5 cE hn;obtain⟨W,hW⟩:∃ W:Nat,W=y*ns.length:=⟨_,rfl⟩;have ci:(y:Int)*(ns.length:Int)=(W:Int):=by rw[hW];simp
 obtain⟨nb,bO⟩:∃ nb:Nat,nb=(W+7) / 8:=⟨_,rfl⟩;have cA:((W:Int)+7) / 8=(nb:Int):=zo;have bH:=Jal y ns;generalize bG:Ue y ns=L at *;have cz:∀ W,(Instr.makeSlice 197 (.int .i64 (nb:Int)) (.int .i64 (nb:Int))).run prog W=.ok (.slice (some ⟨W.heap.size,0,none⟩) nb nb) (W.alloc (.cells (madeCells #[.int .u8 0] nb) 5)):=
  fun W=>run_make_row' 197 5 (.int .u8 0) 1 zK Jfa rfl .i64 .i64 nb zo zo W
 have M:Hid (L.length=W):=by show _=_;rw[bH,hW]
 have bU:=zh bG;have bz:=zh hW;have Z:=zh bO;have cH:W<=4096:=zo;have cK:nb<=600:=zo;clear bG bH hW bO;go_enter func122,ntmps122
 go_wp2_with (go_at_call 164;refine(Jif _ _ zo zo).mono ?_;rintro e w' ⟨rfl,cM⟩;subst w')
 clear cz ci cA;go_loopw [7,19] (fun at_ i wr=>∃ k:Nat,k<=ns.length/\i=.int .i64 k/\at_=.int .i64 ((y*k:Nat):Int)/\wr.rowIs w.heap.size 5 nb (fun j=>.int .u8 (Jag (L.take (y*k)) j:Nat))/\Below w.heap.size w wr) (fun _ i _=>ns.length-(intOf i).toNat)
 case atStart=>
  refine⟨0,zo,rfl,rfl,(Ol3 _ _ _ _).congr fun j _=>?_,(Oa5 _ _).alloc (Oa2 _) _⟩;simp[Jvq]
 case round=>
  obtain⟨k,hk,rfl,rfl,H,I⟩:=hrel;by_cases O:k<ns.length
  ·obtain⟨b1,cP,rfl,cj,x1⟩:=(cF.below I).at (i:=k) (by simpa using O);rw[Od9]at x1;unfold uv at x1;have bT:Hid (∀ b,b<y->L[y*k+b]?=some (ns[k].testBit b)):=by
    intro b hb;rw[<-bU.out];exact Jms y ns k b O hb
   have bQ:ns[k]<18446744073709551616:=cC _ (Ob3 O);have bV:=zh bQ;clear bQ;generalize ns[k]=n at *;have cJ:y*k+y<=W:=by
    rw[bz.out,<-Nat.mul_succ];exact Nat.mul_le_mul_left _ O
   generalize bD:y*k=Y at *;have br:=zh bD;clear bD;go_wp2;go_loopw [7,24] (fun at_ i bS=>∃ b:Nat,b<=y/\i=.int .i64 b/\at_=.int .i64 ((Y+b:Nat):Int)/\bS.rowIs w.heap.size 5 nb (fun j=>.int .u8 (Jag (L.take (Y+b)) j:Nat))/\Below w.heap.size w bS) (fun _ i _=>y-(intOf i).toNat)
   case atStart=>exact⟨0,zo,rfl,rfl,H,I⟩
   case round=>
    clear H I x1 cj;obtain⟨b,hb,rfl,rfl,H,I⟩:=hrel;by_cases cy:b<y
    ·have bJ:=bT.out b cy;generalize bC:Y+b=A at *;have cc:A<W:=zo;have bk:=zh bC;clear bC;have hq:A / 8<nb:=by rw[Z.out];omega
     have c1:=H.cell hq;have c2:=H.frozen (A / 8);have bK:=Ji4 (L.take A) (A / 8);have bR:∀ j,Jag (L.take (A+1)) j=if j=A / 8 then Jag (L.take A) j ||| ((if n.testBit b then 1 else 0) <<< (A % 8))else Jag (L.take A) j:=by
      intro j;have bE:A<L.length:=by rw[M.out];exact cc
      have cn:L[A]=n.testBit b:=by rw[Oa3 bE]at bJ;exact Oj6 bJ
      rw[Jss L A j bE,cn]
     have bW:Hid _:=bR;clear bR;generalize bI:Jag (L.take A) (A / 8)=bY at c1 bK;have bX:=zh bI;clear bI;go_wp2;go_region
     go_wp2;go_roundw
     case rel=>
      refine⟨b+1,zo,zn,?_,(H.set (A / 8) _).congr fun j K=>?_,(I.setCell (p:=⟨w.heap.size,A / 8,none⟩) (Oa2 _) _).drew⟩
      ·have:=bk.out;rw[<-this];go_num
      rw[<-On5,bk.out,bW.out j];by_cases e:j=A / 8
      ·rw[if_pos e,if_pos e,Khe bY n b A bK bV.out,e,bX.out]
      rw[if_neg e,if_neg e]
     case measure=>simp[intOf];omega
    have cu:b=y:=zo;subst cu;go_wp2;go_roundw
    case rel=>
     refine⟨k+1,zo,zn,?_,?_,I⟩
     ·have:=br.out;rw[Nat.mul_succ,this]
     rw[Nat.mul_succ,br.out];exact H
    case measure=>simp[intOf];omega
  have cx:k=ns.length:=zo;subst cx;have bL:L.take (y*ns.length)=L:=Oc8 (by rw[M.out,bz.out];exact Oa2 _);rw[bL]at H;clear bL;have U:=h.below I;have bM:=U.lt;have cG:=U.1;obtain⟨sv,c0,c1,c2,ho,bP⟩:=U.cells;have hlen:(bs.map bv).length<=50000:=by simpa using hl
  have bi:((Kk L).map bv).length=nb:=by rw[Oa6,Qb,M.out,<-Z.out]
  have bx:=zh bi;have cB:∀ j u,((Kk L).map bv)[j]?=some u->wr.cell? ((⟨w.heap.size,0,none⟩:Addr).add j)=some u:=by
   intro j u K;have bN:j<nb:=by
    rw[<-bi];rcases Oc1 j ((Kk L).map bv).length with bf|bf
    ·exact bf
    rw[Ob4 bf]at K;simp at K
   rw[Addr.add_mid,Od0,H.cell bN];have cv:j<(L.length+7) / 8:=by rw[M.out,<-Z.out];exact bN
   simp[Kk,cv,bv]at K;rw[<-K];have:=Ji4 L j;congr 2
   omega
  clear bi;have ca:∀ u∈(Kk L).map bv,u.oneCell'=true:=by
   intro u cD;obtain⟨x,_,rfl⟩:=Of0.1 cD;rfl
  generalize cf:(Kk L).map bv=bA at *;go_wp2_with (at_builtin;go_must (refine Ks zR _ _ 197 5 _ 1 Jfa zR zd zK zR B sv _ zR ho ⟨w.heap.size,0,none⟩ nb bA (by rw[bx.out];rfl) cB ca (by rw[bx.out];omega) zo ?_);intro sv' w1 bB bh cb;obtain⟨a2,bZ,rfl,_⟩:=bB.cells;have cN:=bh.cell_far ⟨g,1,none⟩ bM (Oc5 bP);have cO:=bh.frozen_far ⟨g,1,none⟩ bM (Oc5 bP))
  go_end0
  have bj:=U.step (bs':=bs++Kk L) (sv':=.slice a2 (List.map bv bs++bA).length bZ) c1 (Oa5 _ _) bh (by rw[Ob8,cf];exact bB) cb;simp only[Oa8,Oa6]at bj;exact⟨rfl,bj.1,(Ky.of_below I h.lt).trans bj.2⟩
def enc (k n:Int)(s:ByteArray):List UInt8:=
 if k=1 then le8 (u64 n)else if k=2 then [low n]else if k=3 then low s.size::s.toList else []
def good (k:Int)(s:ByteArray):Prop:=k=1\/k=2\/(k=3/\s.size<=40)
theorem Kc5 k n s(h:good k s):(enc k n s).length<=41:=by
 rcases h with h|h|⟨h,hs⟩
 ·unfold enc;rw[if_pos h,Jc4];omega
 ·unfold enc;rw[if_neg zo,if_pos h];simp
 unfold enc;rw[if_neg zo,if_neg zo,if_pos h,Og4,List.length_cons,Array.length_toList];exact Nat.succ_le_succ hs
theorem zaN {p:Prop}(h:p:=by
 go_end0
 exact⟨rfl,hw,(Ky.of_below ((Oa5 _ _).alloc (Oa2 _) _) y).trans hk⟩):p:=h
theorem Jwu B g t n s bs w(h:WAt w B g t bs)(hl:bs.length<=50000):
  Calls prog 165 #[.pointer (some ⟨g,0,none⟩),.agg #[.int .i64 1,.int .i64 n,.string s]] w fun e w'=>e=.returned (.tuple #[])/\WAt w' B g t (bs++le8 (u64 n))/\Ky w w' g:=by
 have y:=h.lt;go_enter func165,ntmps165
 go_wp2_with (go_at_call 171;refine(Jka B g t _ bs _ (h.below ((Oa5 _ _).alloc (Oa2 _) _)) zo).mono ?_;rintro e w' ⟨rfl,hw,hk⟩)
 exact zaN
theorem Jrq B g t n s bs w(h:WAt w B g t bs)(hl:bs.length<=50000):
  Calls prog 165 #[.pointer (some ⟨g,0,none⟩),.agg #[.int .i64 2,.int .i64 n,.string s]] w fun e w'=>e=.returned (.tuple #[])/\WAt w' B g t (bs++[low n])/\Ky w w' g:=by
 have y:=h.lt;go_enter func165,ntmps165
 go_wp2_with (go_at_call 121;refine(Zq B g t _ bs _ (h.below ((Oa5 _ _).alloc (Oa2 _) _)) zo).mono ?_;rintro e w' ⟨rfl,hw,hk⟩)
 exact zaN
theorem Jsb B g t n s bs w(h:WAt w B g t bs)(hl:bs.length<=50000)(hs:s.size<=40):
  Calls prog 165 #[.pointer (some ⟨g,0,none⟩),.agg #[.int .i64 3,.int .i64 n,.string s]] w fun e w'=>e=.returned (.tuple #[])/\WAt w' B g t (bs++low s.size::s.toList)/\Ky w w' g:=by
 have Z:=h.lt;have y:=h.below ((Oa5 _ _).alloc (Oa2 _) (.cells #[.int .i64 3,.int .i64 n,.string s] 59));have U:Ya (w.alloc (.cells #[.int .i64 3,.int .i64 n,.string s] 59)) g w.heap.size:=Jc2 h ((Oa5 _ _).alloc (Oa2 _) _) (Oa2 _) zS;go_enter func165,ntmps165
 go_wp2_with (go_at_call 121;refine(Zq B g t _ bs _ y zo).mono ?_;rintro e w' ⟨rfl,hw,hk⟩)
 have I:=hw.lt;have bf:=hw.1;obtain⟨sv,c0,c1,c2,ho,hn⟩:=hw.cells;obtain⟨Y,bh⟩:=hk.block _ U;have c3:w'.cell? ⟨w.heap.size,2,none⟩=some (.string s):=by rw[Oc3 (w:=w.alloc _) Y];simp
 have bi:w.heap.size≠g:=zo;go_region_law
  ((
   refine Jks zR _ _ zR B sv (bs++[low s.size]) zR (by exact ho) zS s zR zt zt ?_;intro sv' w1 H y O;obtain⟨a2,ln,M,rfl⟩:=H.form;have bj:w1.cell? ⟨g,1,none⟩=some sv:=(by rw[y.cell_far _ (by simpa using I) (Oc5 hn)];exact c1);have bk:w1.frozen? ⟨g,1,none⟩=false:=(by rw[y.frozen_far _ (by simpa using I) (Oc5 hn)];exact c2)))
 all_goals
  go_wp2;go_end0
  have K:=hw.step (bs':=bs++low s.size::s.toList) (sv':=.slice a2 ln M) c1 ((Oa5 _ _).drew) y (by simpa using H) O;exact⟨rfl,K.1,((Ky.of_below ((Oa5 _ _).alloc (Oa2 _) _) Z).trans hk).trans K.2⟩
theorem Jl0 (B g:Nat)(t:Int)(v:V)(bs:List UInt8)w(h:WAt w B g t bs)(hl:bs.length<=50000)(hv:good v.k v.s):
  Calls prog 165 #[.pointer (some ⟨g,0,none⟩),v.val] w fun e w'=>e=.returned (.tuple #[])/\WAt w' B g t (bs++enc v.k v.n v.s)/\Ky w w' g:=by
 obtain⟨k,n,s⟩:=v;rcases hv with hk|hk|⟨hk,hs⟩
 ·simp only at hk;subst hk;exact Jwu B g t n s bs w h hl
 ·simp only at hk;subst hk;exact Jrq B g t n s bs w h hl
 simp only at hk hs;subst hk;exact Jsb B g t n s bs w h hl hs
def Yv (vs:List V):List UInt8:=vs.flatMap fun v=>enc v.k v.n v.s
theorem Jgg vs(h:∀ v∈vs,good v.k v.s):(Yv vs).length<=41*vs.length:=by
 induction vs with
 |nil=>simp[Yv]
 |cons v vs H=>
  have I:=Kc5 v.k v.n v.s (h v (Of4));have K:=H fun u y=>h u (Og1 _ y);unfold Yv at *;rw[Og7,Oa8,List.length_cons];omega
theorem Jjz vs v:Yv (vs++[v])=Yv vs++enc v.k v.n v.s:=by simp[Yv]
theorem Jk4 B g t a cap xs bs w(h:WAt w B g t bs)(hl:bs.length<=10000)(hn:xs.length<=64)(K:∀ v∈xs,good v.k v.s)(br:Jv w a xs)(bf:∀ b o,a=some ⟨b,o,none⟩->Ya w g b):
  Calls prog 123 #[.pointer (some ⟨g,0,none⟩),.slice a xs.length cap] w fun e w'=>e=.returned (.tuple #[])/\WAt w' B g t (bs++Yv xs)/\Ky w w' g:=by
 go_enter func123,ntmps123
 go_wp2;go_loopw [8] (fun i wr=>∃ k:Nat,k<=xs.length/\i=.int .i64 k/\WAt wr B g t (bs++Yv (xs.take k))/\Ky w wr g) (fun i _=>xs.length-(intOf i).toNat)
 case atStart=>exact⟨0,zo,rfl,by simpa [Yv] using h,Ky.refl _ _⟩
 case round=>
  obtain⟨k,hk,rfl,hw,y⟩:=hrel;by_cases H:k<xs.length
  ·have bx:=Zk br y bf;obtain⟨b1,bA,rfl,bz,x1,x2,bB⟩:=bx.at H;have hts:=Jjz (xs.take k) xs[k];rw[<-Oc4 H]at hts;have bi:=Jgg (xs.take k) fun v hv=>K v (Om9 hv);have bj:(xs.take k).length<=k:=List.length_take_le _ _;have M:=K _ (Ob3 H);have Y:Hid _:=hts;have U:=zh M;have hlen:(bs++Yv (xs.take k)).length<=50000:=by rw[Oa8];omega
   clear hts M bi bj;generalize I:bs++Yv (xs.take k)=Z at *;have O:Hid _:=I;clear I;go_wp2_with (go_at_call 165;refine(Jl0 B g t xs[k] Z _ (hw.below ((Oa5 _ _).alloc (Oa2 _) _)) hlen U.out).mono ?_;rintro e w' ⟨rfl,bk,bh⟩)
   go_roundw
   case rel=>
    refine⟨k+1,zo,zn,?_,(y.trans (Ky.of_below ((Oa5 _ _).alloc (Oa2 _) _) hw.lt)).trans bh⟩;rw[Y.out,<-Od8,O.out];exact bk
   case measure=>simp[intOf];omega
  go_wp2;go_end0
  have e:xs.take k=xs:=Oc8 zo;rw[e]at hw;exact⟨rfl,hw,y⟩
end
section
open Go.RowKit
def Qt (v:V):Nat:=if v.k=0 then 0 else 1
theorem Jv6 ns(h:∀ n∈ns,n<=1):Ue 1 ns=ns.map fun n=>n==1:=by
 induction ns with
 |nil=>rfl
 |cons n ns H=>
  have e:Ue 1 (n::ns)=[n.testBit 0]++Ue 1 ns:=by simp[Ue,List.range_succ]
  rw[e,H fun m y=>h m (Og1 _ y)];have hn:=h n Of4;have:n.testBit 0=(n==1):=by
   rw[Nat.testBit_zero];have:n=0\/n=1:=zo;rcases this with rfl|rfl<;>rfl
  rw[this];rfl
theorem Jrg (xs:List V):Ue 1 (xs.map Qt)=xs.map fun v=>v.k != 0:=by
 rw[Jv6 _ (by intro n hn;obtain⟨v,_,rfl⟩:=Of0.1 hn;unfold Qt;split<;>omega),Oi6];apply Oj9;intro v _;simp only[Function.comp,Qt];by_cases h:v.k=0<;>simp[h]
def Kz (t y:Int)(xs:List V):List UInt8:=[low t,low y,low xs.length]++Kk (xs.map fun v=>v.k != 0)
theorem Jg0 B g t bx a cap xs w(h:WAt w B g t [])(hn:xs.length<=64)(bP:Jv w a xs)(bD:xs≠[]->∀ b o,a=some ⟨b,o,none⟩->Ya w g b):
  Calls Tryz.prog 93 #[.pointer (some ⟨g,0,none⟩),.int .i64 bx,.slice a xs.length cap] w fun e w'=>e=.returned (.tuple #[])/\WAt w' B g t (Kz t bx xs)/\Ky w w' g:=by
 have bM:∀ W,(Instr.makeSlice 242 (.int .i64 (xs.length:Int)) (.int .i64 (xs.length:Int))).run Tryz.prog W=.ok (.slice (some ⟨W.heap.size,0,none⟩) xs.length xs.length) (W.alloc (.cells (madeCells #[.int .u64 0] xs.length) 243)):=
  fun W=>run_make_row' 242 243 (.int .u64 0) 8 zK Jiq rfl .i64 .i64 xs.length zo zo W
 obtain⟨bW,c0,_,_,_,_⟩:=h.cells;go_enter Tryz.func93,Tryz.ntmps93
 go_wp2_with fail
 refine(Zq B g t _ _ _ h zS).mono ?_;rintro e w1 ⟨rfl,bz,bi⟩;go_wp2_with fail
 refine(Zq B g t _ _ _ bz zS).mono ?_;rintro e bX ⟨rfl,bA,bj⟩;go_wp2_with fail
 refine(Zq B g t _ _ _ bA zS).mono ?_;rintro e H ⟨rfl,U,bk⟩;go_wp2_with fail
 clear bM;have hk:=(bi.trans bj).trans bk;have bQ:Jv H a xs:=by
  by_cases br:xs=[]
  ·exact .inl br
  exact Zk bP hk (bD br)
 clear bi bj bk bz bA c0;go_loopw [27] (fun i wr=>∃ k:Nat,k<=xs.length/\i=.int .i64 k/\wr.rowIs H.heap.size 243 xs.length (fun j=>uv (if j<k then (xs.map Qt)[j]?.getD 0 else 0))/\Below H.heap.size H wr) (fun i _=>xs.length-(intOf i).toNat)
 case atStart=>exact⟨0,zo,rfl,Ol3 _ _ _ _,(Oa5 _ _).alloc (Oa2 _) _⟩
 case round=>
  obtain⟨k,bU,rfl,y,I⟩:=hrel;by_cases O:k<xs.length
  ·obtain⟨b1,bV,rfl,bT,x1,x2,bZ⟩:=(bQ.below I).at O;have c1:=y.cell O;have c2:=y.frozen k;have c3:=y.lt;have bh:(xs.map Qt)[k]?.getD 0=Qt xs[k]:=(by simp[O]);have Y:Hid _:=bh;clear bh;by_cases h0:xs[k].k=0
   ·have bC:(xs[k].k != 0)=false:=(by simp[h0]);have K:=zh h0;clear h0;go_wp2;go_roundw
    case rel=>
     refine⟨k+1,zo,zn,(y.alloc _).congr fun j bI=>?_,Jc I _⟩;by_cases e:j=k
     ·subst e;simp only[Oe3,if_false,On2,if_true];rw[Y.out];simp[Qt,K.out]
     have M:(j<k+1)=(j<k):=by rw[eq_iff_iff];omega
     simp only[M]
    case measure=>simp[intOf];omega
   have bC:(xs[k].k != 0)=true:=(by simp[h0]);have K:=zh h0;clear h0;go_wp2;go_roundw
   case rel=>
    refine⟨k+1,zo,zn,((y.set k _).alloc _).congr fun j bI=>?_,Jc (I.setCell (p:=⟨H.heap.size,k,none⟩) (Oa2 _) _) _⟩;by_cases e:j=k
    ·subst e;simp only[if_true,On2];rw[Y.out];simp[Qt,K.out,uv]
    have M:(j<k+1)=(j<k):=by rw[eq_iff_iff];omega
    simp only[e,M,if_false]
   case measure=>simp[intOf];omega
  have bK:k=xs.length:=zo;subst bK;have bN:Jo wr H.heap.size 243 (.slice (some ⟨H.heap.size,0,none⟩) xs.length xs.length) ((xs.map Qt).map uv):=
   Jhx y (Oa2 _) (by unfold maxLen;omega) _ zS (by
    intro i hi;have bH:i<xs.length:=by simpa using hi
    simp[bH])
  obtain⟨bR,bS,Z,bE⟩:=bN.cells;simp only[Oa6]at Z;injection Z with e5 e6 e7;subst e5;subst e7;have bG:(xs.map Qt).length=xs.length:=zS;have bO:=U.below I;have bL:=y.lt;go_wp2_with fail
  rw[<-bG];refine(Jd4 B g t _ 1 _ _ (xs.map Qt) _ bO zS zo (by simpa using hn) (by
   intro n hn;obtain⟨v,_,rfl⟩:=Of0.1 hn;unfold Qt;split<;>omega) bE (by
   intro b o bf;simp at bf;obtain⟨rfl,rfl⟩:=bf;exact Jc2 U I (Oa2 _) bL)).mono ?_
  rintro e bY ⟨rfl,bB,bJ⟩;go_wp2_with fail
  go_end0
  refine⟨rfl,?_,(hk.trans (Ky.of_below I U.lt)).trans bJ⟩;rw[Jrg]at bB;exact bB
def Jdx (v:V)(c:Nat):List V->List UInt8
 |[]=>low c::enc v.k v.n v.s
 |u::l=>if u.beq v then Jdx v (c+1) l else (low c::enc v.k v.n v.s)++Jdx u 1 l
def Yc:List V->List UInt8
 |[]=>[]
 |v::l=>Jdx v 1 l
theorem Jw2 l:∀ (v:V) (c:Nat),Jdx v c l=(low ((c+Qe v l:Nat):Int)::enc v.k v.n v.s)++Yc (l.drop (Qe v l)):=by
 induction l with
 |nil=>intro v c;simp[Jdx,Qe,Yc]
 |cons u l y=>
  intro v c;by_cases e:u.beq v=true
  ·simp only[Jdx,Qe,e,if_true,List.drop_succ_cons];rw[y v (c+1)];have:c+1+Qe v l=c+(Qe v l+1):=zo;rw[this]
  simp only[Jdx,Qe,e,if_false,Bool.false_eq_true];simp[Yc]
theorem Je9 v l:Yc (v::l)=(low ((Qe v (v::l):Nat):Int)::enc v.k v.n v.s)++Yc ((v::l).drop (Qe v (v::l))):=by
 have e:Qe v (v::l)=Qe v l+1:=by simp[Qe,(V.beq_iff v v).2 rfl]
 rw[e,List.drop_succ_cons];show Jdx v 1 l=_;rw[Jw2];have:1+Qe v l=Qe v l+1:=zo;rw[this]
theorem Jhn v l:1<=Qe v (v::l):=by simp[Qe,(V.beq_iff v v).2 rfl]
theorem Jng:∀ (n:Nat)(xs:List V),xs.length<=n->(∀ v∈xs,good v.k v.s)->(Yc xs).length<=42*xs.length:=by
 intro n;induction n with
 |zero=>intro xs h _;have:xs=[]:=Od3.1 zo;subst this;simp[Yc]
 |succ n K=>
  intro xs h y;cases xs with
  |nil=>simp[Yc]
  |cons v l=>
   rw[Je9];have M:=Kc5 v.k v.n v.s (y v Of4);have O:=Jhn v l;have H:=K ((v::l).drop (Qe v (v::l))) (by rw[Of7];simp at h |-;omega) (fun u I=>y u (Oh7 I));rw[Oa8,List.length_cons];rw[Of7]at H;have U:=Jjn v (v::l);omega
theorem Jlj l:∀ (d:List V) (v:V),v∈Ym d l->v∈d\/v∈l:=by
 induction l with
 |nil=>intro d v h;exact .inl h
 |cons u l y=>
  intro d v h;simp only[Ym]at h;rcases y _ v h with h|h
  ·split at h
   ·exact .inl h
   rcases Od2.1 h with h|h
   ·exact .inl h
   right;simp at h;subst h;exact Of4
  exact .inr (Og1 _ h)
def Jds (xs:List V):List UInt8:=(low (Ym [] xs).length::Yv (Ym [] xs))++Kk (Ue 4 (xs.map (place (Ym [] xs))))
def Jei:List V->List UInt8
 |[]=>[]
 |v::l=>
  le8 (u64 (Jn v.n (v::l)))++[low (bitLen (Yz (dif v.n (Jn v.n (v::l))) (Uv l (Jn v.n (v::l)))):Nat)]
   ++ Kk (Ue (bitLen (Yz (dif v.n (Jn v.n (v::l))) (Uv l (Jn v.n (v::l))))) (Uv (v::l) (Jn v.n (v::l))))
def Zz (t:Int)(xs:List V):List UInt8:=if t=2 then Kk (Ue 1 (Uv xs 0))else Jei xs
theorem Jkx xs q:∀ n∈Uv xs q,n<18446744073709551616:=by
 intro n hn;obtain⟨v,_,rfl⟩:=Of0.1 hn;exact Jp3 _
theorem Jf7 n(h:n<18446744073709551616):bitLen n<=64:=by
 unfold bitLen;split
 ·omega
 rename_i h0
 have:=(Nat.log2_lt h0).2 (show n<2 ^ 64 from h);omega
theorem Jgs g w:
  Calls Tryz.prog 94 #[.pointer (some ⟨g,0,none⟩)] w fun e w'=>e=.returned (.agg #[.func (.func 123) #[.pointer (some ⟨g,0,none⟩)] #[],.func (.func 124) #[.pointer (some ⟨g,0,none⟩)] #[],.func (.func 125) #[.pointer (some ⟨g,0,none⟩)] #[],.func (.func 126) #[.pointer (some ⟨g,0,none⟩)] #[]])/\Below w.heap.size w w':=by
 have hone:∀ (W:World) (a:Addr) f x c,(store a (.func f x c)).run Tryz.prog W=match W.cell? a with
   | some _ => if W.frozen? a then .halt (.unsupported (.unsafePointer "a write to bytes that a string shares")) W else .ok () (W.setCell a (.func f x c))
   |none=>match W.farStore Tryz.prog a (.func f x c) (Mode.plain==.atomic)with
    |.ok (w',_)=>.ok () w'
    |.error h=>.halt h W:=fun W a f x c=>run_store Tryz.prog W a (.func f x c) .plain rfl
 go_enter Tryz.func94,Tryz.ntmps94
 go_wp2;exact bodyPost_ret (v:=.agg #[.func (.func 123) #[.pointer (some ⟨g,0,none⟩)] #[],.func (.func 124) #[.pointer (some ⟨g,0,none⟩)] #[],.func (.func 125) #[.pointer (some ⟨g,0,none⟩)] #[],.func (.func 126) #[.pointer (some ⟨g,0,none⟩)] #[]]) (by simp[results,Tryz.results94,go_sem]) rfl ⟨rfl,(Oa5 _ _).alloc (Oa2 _) _⟩
end
open Go.RowKit Go.Extern.Stop Go.Stop Go.Extern Tryz
theorem Kbo v a t w(h:∃ k,Zg w k v a)(y:∃ c t,w.heap[a.block]?=some (.cells c t (0,0)))(ht:∃ c u,w.heap[t.block]?=some (.cells c u (0,0)))r(hr:r=true↔a=t):
  Calls prog 82 #[v,.iface 432 (.pointer (some t)),.bool true] w fun e w'=>e=.returned (.bool r)/\w'=w:=by
 obtain⟨bG,bM,y⟩:=y;obtain⟨ct,bN,ht⟩:=ht;obtain⟨i,hi,I⟩:=Oe9.1 Khh;obtain⟨j,K,bf⟩:=Oe9.1 Kha;have Y:Hid ((binOp .eql 78 (.iface 432 (.pointer (some a))) (.iface 432 (.pointer (some t)))).run prog w=.ok (.bool r) w):=by
  show _=_;by_cases H:a=t
  ·rw[hr.2 H];subst H;exact run_eql_iface_ptr_same (P:=prog) w a underlying78 underlying432 hi I K
  have:r=false:=by cases r with
   |false=>rfl
   |true=>exact absurd (hr.1 rfl) H
  rw[this];exact run_eql_iface_ptr_other (P:=prog) w underlying78 underlying432 hi I K (by rw[bf];decide) H y ht
 have U:=zh h;obtain⟨bO,bQ,rfl⟩:∃ ty x,v=.iface ty x:=by obtain⟨_,bk⟩:=h;exact bk.iface
 clear h hr y ht hi I K bf;go_enter func82,ntmps82
 go_wp2_with fail
 obtain⟨bA,bh⟩:=U.out;go_loopg [0] bA (fun k ev wr=>wr=w/\Zg w k ev a)
 case atStart=>exact⟨rfl,bh⟩
 case round=>
  obtain⟨bx,O⟩:=hrel;subst bx;clear U bh;rcases gk with _|n
  ·have bz:_=Value.iface 432 (.pointer (some a)):=O;subst bz;clear O;have bB:=Kcw;have bD:=Jmp;have bP:=Jhb;have bJ:=Y.out;cases r with
   |true=>
    go_wp2_with fail
    go_ret
    exact⟨rfl,rfl⟩
   |false=>
    go_wp2_with fail
    go_ret
    exact⟨rfl,rfl⟩
  obtain⟨ty,off,bE,b,v,hW,br,Z,M⟩:=O;subst br;have bi:=zh M;have bj:Hid (Calls prog bE #[.pointer (some ⟨b,0,none⟩)] wr fun e w'=>e=.returned v/\w'=wr):=hW.walk b v _ Z;obtain⟨bC,x1,rfl⟩:=M.iface;have bB:=hW.noIs;have bD:=hW.unwrap;have bL:=hW.meth;have bH:=hW.enter;have bI:=hW.eql;have bK:=run_eql_held_nil (P:=prog) wr 78 bC x1 zK;clear hW Z M Y;go_wp2_with fail
  refine bj.out.mono ?_;rintro e w' ⟨rfl,rfl⟩;go_wp2_with fail
  go_roundg n
  case measure=>exact On2 n
  case rel=>exact⟨by first|trivial|rfl,bi.out⟩
theorem Jci v a t w(h:∃ k,Zg w k v a)(H:∃ c t,w.heap[a.block]?=some (.cells c t (0,0)))(ht:∃ c u,w.heap[t.block]?=some (.cells c u (0,0)))r(hr:r=true↔a=t):
  Calls prog 57 #[v,.iface 432 (.pointer (some t))] w fun e w'=>e=.returned (.bool r)/\w'=w:=by
 have O:=@run_callFunc_extern prog 81 _ Extern.ReflectliteType.typeOf func81 zK zK zK zK;have M:=Kcb;have Y:=Jld;have K:=Jpv;have U:=Jhv;have y:=Kbo v a t w h H ht r hr;obtain⟨ty,x,rfl⟩:∃ ty x,v=.iface ty x:=by obtain⟨_,y⟩:=h;exact y.iface
 have I:=zh y;clear y hr H ht h;go_enter func57,ntmps57
 go_wp2_with fail
 refine I.out.mono ?_;rintro e w' ⟨rfl,rfl⟩;go_wp2_with fail
 go_ret
 exact⟨rfl,rfl⟩
