/- The reader of a segment in memory, and its smallest steps: the next bytes are taken, or it gives up by a panic. -/
import Derived.Test.YtjbenncelbpbnaaGreatDoorKd
import Derived.Lib.ConvBytes
import Derived.Lib.Walk
import Derived.Test.YtjbenncelbpbnaaGreatDoorOf
set_option maxHeartbeats 4000000
set_option maxRecDepth 100000
namespace Go.Proofs.YtjbenncelbpbnaaGreatDoor
section
open Go.RowKit Tryz
structure RAt (w:World) (g:Nat) (t:Int) (bs:List UInt8) (a2:Addr):Prop where
 far:5<g
 cells:w.heap[g]?=some (.cells #[.int .i64 t,.string (Qw bs)] 370 (0,0))
 form:w.cell? ⟨5,0,none⟩=some (.iface 432 (.pointer (some a2)))
 len:bs.length<=maxLen
structure Jt (w w':World) (g:Nat):Prop where
 os:w'.os=w.os
 tape:w'.tape=w.tape
 output:w'.output=w.output
 size:w.heap.size<=w'.heap.size
 block:∀ k,k<w.heap.size->k≠g->w'.heap[k]?=w.heap[k]?
theorem Jt.refl w g:Jt w w g:=⟨rfl,rfl,rfl,Oa2 _,fun _ _ _=>rfl⟩
theorem Jt.trans {a b c g}(h:Jt a b g)(k:Jt b c g):Jt a c g:=
 ⟨k.os.trans h.os,k.tape.trans h.tape,k.output.trans h.output,Ob2 h.size k.size,fun i hi hn=>(k.block i (Oc2 hi h.size) hn).trans (h.block i hi hn)⟩
theorem Jt.of_below {w w'}(hb:Below w.heap.size w w')g:Jt w w' g:=⟨hb.os,hb.tape,hb.output,hb.size,fun k hk _=>hb.block k hk⟩
theorem Jt.below {w w' g B}(h:Jt w w' g)(y:B<=g)(hs:B<=w.heap.size):Below B w w':=
 ⟨h.os,h.tape,h.output,h.size,fun k hk=>h.block k zo zo⟩
theorem RAt.lt {w g t bs a2}(h:RAt w g t bs a2):g<w.heap.size:=Jd h.cells
theorem RAt.below {w w' g t bs a2}(h:RAt w g t bs a2)(hb:Below w.heap.size w w'):RAt w' g t bs a2:=
 ⟨h.far,by rw[hb.block g h.lt];exact h.cells,by rw[Oc3 (w:=w) (hb.block 5 (by have:=h.lt;have:=h.far;omega))];exact h.form,h.len⟩
theorem RAt.typ {w g t bs a2}(h:RAt w g t bs a2):w.cell? ⟨g,0,none⟩=some (.int .i64 t):=by simp[World.cell?,h.cells]
theorem RAt.left {w g t bs a2}(h:RAt w g t bs a2):w.cell? ⟨g,1,none⟩=some (.string (Qw bs)):=by simp[World.cell?,h.cells]
theorem RAt.thaw {w g t bs a2}(h:RAt w g t bs a2)i:w.frozen? ⟨g,i,none⟩=false:=by simp[World.frozen?,h.cells]
theorem zaO {p:Prop}(h:p:=by rw[Oc3 (w:=w) (Oa4 _ _ _ _ (by have:=h.far;show 5≠g;omega))];exact h.form):p:=h
theorem RAt.setLeft {w g t bs bs' a2}(h:RAt w g t bs a2)(hl:bs'.length<=maxLen):RAt (w.setCell ⟨g,1,none⟩ (.string (Qw bs'))) g t bs' a2:=by
 refine⟨h.far,?_,?_,hl⟩
 ·simp[World.setCell,Array.getElem?_modify,h.cells]
 exact zaO
theorem RAt.setTyp {w g t t' bs a2}(h:RAt w g t bs a2):RAt (w.setCell ⟨g,0,none⟩ (.int .i64 t')) g t' bs a2:=by
 refine⟨h.far,?_,?_,h.len⟩
 ·simp[World.setCell,Array.getElem?_modify,h.cells]
 exact zaO
theorem Jt.set w g i v:Jt w (w.setCell ⟨g,i,none⟩ v) g:=
 ⟨rfl,rfl,rfl,by simp[World.setCell],fun k _ hn=>Oa4 _ _ _ _ hn⟩
abbrev Jpu (a2:Addr):Ending:=.panicked [{v:=.iface 432 (.pointer (some a2)),recovered:=false}]
def Qg {α:Type}(w:World)(g:Nat)(t:Int)(a2:Addr)(r:Option (α×List UInt8))(R:α->Value->World->Prop)(e:Ending)(w':World):Prop:=
 Jt w w' g/\((r=none/\e=Jpu a2)\/∃ x rest v,r=some (x,rest)/\e=.returned v/\R x v w'/\RAt w' g t rest a2)
theorem Qg.up {α w w' g t a2}{r:Option (α×List UInt8)}{R:α->Value->World->Prop}(hk:Jt w w' g)(hr:r=none):Qg w g t a2 r R (Jpu a2) w':=⟨hk,.inl ⟨hr,rfl⟩⟩
theorem Qg.ok {α w w' g t a2}{r:Option (α×List UInt8)}{R:α->Value->World->Prop}{x:α}{rest v}(hk:Jt w w' g)(hr:r=some (x,rest))(hR:R x v w')(y:RAt w' g t rest a2):
  Qg w g t a2 r R (.returned v) w':=⟨hk,.inr ⟨x,rest,v,hr,rfl,hR,y⟩⟩
theorem Jep w:Calls prog 250 #[.bool true] w fun e w'=>e=.returned (.tuple #[])/\w'=w:=by
 have y:∀ (x:Bool) (w:World),(Op.unary .not (.bool x)).run prog w=.ok (.bool (!x)) w:=fun _ _=>rfl;go_enter func250,ntmps250
 go_wp2;go_end0
 exact⟨rfl,rfl⟩
theorem Jap a2 w(h:w.cell? ⟨5,0,none⟩=some (.iface 432 (.pointer (some a2)))):Calls prog 250 #[.bool false] w fun e w'=>e=Jpu a2/\w'=w:=by
 have y:∀ (x:Bool) (w:World),(Op.unary .not (.bool x)).run prog w=.ok (.bool (!x)) w:=fun _ _=>rfl;go_enter func250,ntmps250
 go_wp2;exact⟨rfl,rfl,rfl⟩
theorem Jj8 bs i j:(Qw bs).extract i j=Qw ((bs.take j).drop i):=by
 unfold Qw;rw[Om5];simp[List.extract_eq_take_drop,List.drop_take]
theorem Jud (n:Nat)(h:n<9223372036854775808):wrap64 (n:Int)=n:=by unfold wrap64;omega
def Jat (n:Nat)(bs:List UInt8):Option (List UInt8×List UInt8):=if n<=bs.length then some (bs.take n,bs.drop n)else none
theorem Jia (g:Nat)(t:Int)bs a2(n:Nat)w(h:RAt w g t bs a2):
  Calls prog 282 #[.pointer (some ⟨g,0,none⟩),.int .i64 n] w (Qg w g t a2 (Jat n bs) fun x v _=>v=.string (Qw x)):=by
 have c0:=h.typ;have c1:=h.left;have c2:=h.thaw 1;have hl:=h.len;have M:=Jb2 bs;by_cases I:n<=bs.length
 ·have K:((n:Int)<=((bs.length:Nat):Int)):=zo;go_enter func282,ntmps282
  go_wp2_with fail
  refine(Jep _).mono ?_;rintro e w' ⟨rfl,rfl⟩;go_wp2_with fail
  go_ret
  have y:=Jj8 bs 0 n;have H:=Jj8 bs n bs.length;rw[List.drop_zero]at y;rw[Of2]at H;rw[y,H];exact Qg.ok (Jt.set _ _ _ _) (by unfold Jat;rw[if_pos I]) rfl (h.setLeft zt)
 have K:¬ ((n:Int)<=((bs.length:Nat):Int)):=zo;go_enter func282,ntmps282
 go_wp2_with fail
 refine(Jap a2 _ h.form).mono ?_;rintro e w' ⟨rfl,rfl⟩;go_wp2_with fail
 exact⟨rfl,Qg.up (Jt.refl _ _) (by unfold Jat;rw[if_neg I])⟩
def Ur:List UInt8->Option (Nat×List UInt8)
 |[]=>none
 |b::r=>some (b.toNat,r)
theorem Jgx {bs rest n}(h:Ur bs=some (n,rest)):n<256:=by
 cases bs with
 |nil=>simp[Ur]at h
 |cons b r=>
  simp[Ur]at h;rw[<-h.1];exact b.toNat_lt
theorem Ja2 g t bs a2 w(h:RAt w g t bs a2):
  Calls prog 249 #[.pointer (some ⟨g,0,none⟩)] w (Qg w g t a2 (Ur bs) fun n v _=>v=.int .i64 (n:Int)):=by
 have y:=Jia g t bs a2 1 w h;simp only[Int.natCast_one]at y;go_enter func249,ntmps249
 go_wp2_with fail
 refine y.mono ?_;rintro e w1 ⟨hk,⟨hr,rfl⟩|⟨x,rest,v,hr,rfl,rfl,H⟩⟩
 ·go_wp2_with fail
  refine⟨rfl,Qg.up hk ?_⟩;cases bs with
  |nil=>rfl
  |cons b r=>simp[Jat]at hr
 cases bs with
 |nil=>simp[Jat]at hr
 |cons b r=>
  simp[Jat]at hr;obtain⟨rfl,rfl⟩:=hr;have I:(Qw [b]).size=1:=rfl;have K:(0:Int)<=0/\(0:Int)<(((Qw [b]).size:Nat):Int):=by rw[I];omega
  go_wp2_with fail
  go_ret
  refine Qg.ok hk rfl ?_ H;show Value.int .i64 (wrap64 (((Qw [b])[0]).toNat:Int))=.int .i64 (b.toNat:Int);have hb:=b.toNat_lt;have e:(Qw [b])[0]=b:=rfl;rw[e,Jud _ zo]
def Jeh:List UInt8->Nat
 |[]=>0
 |b::r=>b.toNat+256*Jeh r
theorem Kbv l:Jeh l<256 ^ l.length:=by
 induction l with
 |nil=>simp[Jeh]
 |cons b r y=>
  have hb:=b.toNat_lt;simp only[Jeh,List.length_cons,Nat.pow_succ];omega
theorem Jlf l(b:UInt8):Jeh (l++[b])=Jeh l+b.toNat*256 ^ l.length:=by
 induction l with
 |nil=>simp[Jeh]
 |cons c r y=>
  simp only[List.cons_append,Jeh,y,List.length_cons,Nat.pow_succ,Nat.mul_add];have:256*(b.toNat*256 ^ r.length)=b.toNat*(256 ^ r.length*256):=by rw[Nat.mul_comm 256,Nat.mul_assoc]
  omega
def Jc7 (bs:List UInt8):Option (Int×List UInt8):=
 match Jat 8 bs with
 |none=>none
 |some (x,rest)=>some (wrap64 (Jeh x:Int),rest)
theorem Jcr (q:Nat)(h:q<18446744073709551616):IntKind.u64.wrap (q:Int)=q:=by rw[Oh5];omega
theorem Jr4 n b k(hn:n<2 ^ k):n ||| (b <<< k)=n+b*2 ^ k:=by
 rw[Nat.or_comm,<-Nat.shiftLeft_add_eq_or_of_lt hn,Oo2];omega
theorem Jve k:256 ^ k=2 ^ (8*k):=by rw[Nat.pow_mul]
theorem Kf7 (n b k:Nat)(hk:k<8)(hn:n<256 ^ k)(hb:b<256):
  bits BinOp.or IntKind.u64 (n:Int) (IntKind.u64.wrap ((b:Int)*2 ^ (8*k)))=((n+b*256 ^ k:Nat):Int):=by
 have H:((b:Int)*2 ^ (8*k))=((b <<< (8*k):Nat):Int):=by rw[Oo2];simp
 have hp:256 ^ k<=256 ^ 7:=Nat.pow_le_pow_right zd zo;have K:256 ^ 7=72057594037927936:=zd;have y:b <<< (8*k)<18446744073709551616:=by
  rw[Oo2,<-Jve];have:b*256 ^ k<=255*256 ^ k:=Om8 _ zo;omega
 have I:=Jcr _ y;rw[H,I,u64_or_nat n _ zo y];congr 1
 rw[Jr4 n b (8*k) (by rw[<-Jve];exact hn),<-Jve]
theorem Jt3 x w:∃ cap I,(convert 9 197 (.string (Qw x))).run prog w=.ok (.slice (some ⟨w.heap.size,0,none⟩) x.length cap) I /\
  Uh I (some ⟨w.heap.size,0,none⟩) (x.map bv)/\Below w.heap.size w I:=by
 have h:=Lib.run_convert_string_bytes (P:=prog) w 9 197 5 (Qw x) underlying9 underlying197 underlying5;rw[Jb2]at h;refine⟨_,_,h,.inr ⟨_,_,rfl,by rw[Lib.bytesWorld_size];omega,?_⟩,rfl,rfl,rfl,by rw[Lib.bytesWorld_size];omega,fun k hk=>Lib.bytesWorld_at_old _ _ _ _ hk⟩;intro i v hi;have H:i<x.length:=by
  rcases Oc1 i x.length with y|y
  ·exact y
  rw[Ob4 (by simpa using y)]at hi;simp at hi
 have K:=Lib.bytesWorld_cell w 5 (Qw x) i (by rw[Jb2];exact H);rw[Ob1,Oa3 H]at hi;simp at hi;subst hi;rw[Od0,K];simp[Qw,bv,H]
theorem Jmh g t bs a2 w(h:RAt w g t bs a2):
  Calls prog 295 #[.pointer (some ⟨g,0,none⟩)] w (Qg w g t a2 (Jc7 bs) fun n v _=>v=.int .i64 n):=by
 have M:=Jia g t bs a2 8 w h;go_enter func295,ntmps295
 go_wp2_with fail
 refine M.mono ?_;rintro e w1 ⟨hk,⟨hr,rfl⟩|⟨x,rest,v,hr,rfl,rfl,O⟩⟩
 ·go_wp2_with fail
  exact⟨rfl,Qg.up hk (by unfold Jc7;rw[hr])⟩
 have bi:x.length=8:=by
  unfold Jat at hr;split at hr
  ·simp at hr;rw[<-hr.1];simp;omega
  ·simp at hr
 obtain⟨cap,bj,Z,Y,H⟩:=Jt3 x w1;rw[bi]at Z;go_wp2_with fail
 go_loopw [3,10] (fun n i wr=>∃ k:Nat,k<=8/\i=.int .i64 k/\n=.int .u64 (Jeh (x.take k):Int)/\wr=bj) (fun _ i _=>8-(intOf i).toNat)
 case atStart=>exact⟨0,zo,rfl,rfl,rfl⟩
 case round=>
  obtain⟨k,bz,rfl,rfl,rfl⟩:=hrel;by_cases bh:k<8
  ·have K:k<x.length:=zo;obtain⟨b1,bC,bk,br,c1⟩:=Y.at (i:=k) (by simpa using K);have I:=Kbv (x.take k);have y:=Jlf (x.take k) x[k];rw[<-Oc4 K]at y;have bf:(x.take k).length=k:=by simp;omega
   rw[bf]at I y;have U:=x[k].toNat_lt;simp only[Od9,bv]at c1;obtain⟨c,bx⟩:∃ c:Nat,c=8*k:=⟨_,rfl⟩;have bA:IntKind.i64.wrap (8*(k:Int))=(c:Int):=by rw[Od4];omega
   generalize x[k].toNat=bn at *;have bB:IntKind.u64.wrap (bn:Int)=bn:=by rw[Oh5];omega
   go_wp2;go_roundw
   case rel=>
    refine⟨k+1,zo,zn,?_,trivial⟩;rw[y,Kf7 _ _ _ bh I U]
   case measure=>simp[intOf];omega
  go_wp2;go_ret
  have e:x.take k=x:=Oc8 zo;rw[e];refine Qg.ok (hk.trans (Jt.of_below H g)) (by unfold Jc7;rw[hr]) ?_ (O.below H);rfl
def Jn6 (x:List UInt8)(i:Nat):Bool:=(x.getD (i / 8) 0).toNat.testBit (i % 8)
def Zc (x:List UInt8)(i:Nat):Nat->Nat
 |0=>0
 |b+1=>Zc x i b+(if Jn6 x (i+b)then 1 else 0)*2 ^ b
theorem Jok x i:∀ b,Zc x i b<2 ^ b:=by
 intro b;induction b with
 |zero=>simp[Zc]
 |succ b y=>
  simp only[Zc,Nat.pow_succ];split<;>omega
def Yj (y count:Nat)(bs:List UInt8):Option (List Nat×List UInt8):=
 match Jat ((y*count+7) / 8) bs with
 |none=>none
 |some (x,rest)=>some ((List.range count).map fun i=>Zc x (y*i) y,rest)
theorem Jg9 {n bs x rest}(h:Jat n bs=some (x,rest)):x.length=n:=by
 unfold Jat at h;split at h
 ·simp at h;rw[<-h.1];simp;omega
 simp at h
def Khl (w w':World)(ns:List Nat)(v:Value):Prop:=∃ b,v=.slice (some ⟨b,0,none⟩) ns.length ns.length/\w.heap.size<=b/\Uh w' (some ⟨b,0,none⟩) (ns.map uv)
theorem Kcx (H y c b:Nat)(hb:b<64)(Y:H<2 ^ b)(hy:y<256):
  bits BinOp.or IntKind.u64 (H:Int) (IntKind.u64.wrap (IntKind.u64.wrap (bits BinOp.and IntKind.u8 ((y:Int) / 2 ^ c) 1)*2 ^ b))=((H+(if y.testBit c then 1 else 0)*2 ^ b:Nat):Int):=by
 have K:((y:Int) / 2 ^ c)=((y / 2 ^ c:Nat):Int):=zS;have Z:y / 2 ^ c<256:=Nat.lt_of_le_of_lt (Oo6 _ _) hy;have M:bits BinOp.and IntKind.u8 ((y / 2 ^ c:Nat):Int) 1=((y / 2 ^ c % 2:Nat):Int):=by
  have:=u8_and_nat (y / 2 ^ c) 1 Z zd;rw[Nat.and_one_is_mod]at this;exact this
 have O:y.testBit c=decide (y / 2 ^ c % 2=1):=On1;rw[K,M,O];have bf:y / 2 ^ c % 2<2:=Ol0 _ zd;generalize y / 2 ^ c % 2=m at *;have hp:2 ^ b<=2 ^ 63:=Nat.pow_le_pow_right zd zo;have bh:2 ^ 63=9223372036854775808:=zd;rw[Jcr m zo];have U:((m:Int)*2 ^ b)=((m <<< b:Nat):Int):=by rw[Oo2];simp
 have I:m <<< b<18446744073709551616:=by
  rw[Oo2];have:m*2 ^ b<=1*2 ^ b:=Om8 _ zo;omega
 rw[U,Jcr _ I,u64_or_nat H _ zo I,Jr4 H m b Y];have:m=0\/m=1:=zo;rcases this with rfl|rfl<;>simp
theorem Jnp x(q:Nat)(h:q<x.length)W:(Instr.index 9 (.string (Qw x)) (.int .i64 (q:Int))).run prog W=.ok (.int .u8 ((x.getD q 0).toNat:Int)) W:=by
 have e:(Qw x).size=x.length:=Jb2 x;have y:q<(Qw x).size:=zo;simp[go_sem,h,y];rfl
theorem Jnu x(A:Nat)(h:A / 8<x.length)W:(Instr.index 9 (.string (Qw x)) (.int .i64 ((A:Int) / 8))).run prog W=.ok (.int .u8 ((x.getD (A / 8) 0).toNat:Int)) W:=by
 have e:((A:Int) / 8)=((A / 8:Nat):Int):=zo;rw[e];exact Jnp x _ h W
theorem Jas (g:Nat)(t:Int)bs a2(y count:Nat)w(h:RAt w g t bs a2)(bT:y<=64)(hn:count<=64):
  Calls prog 251 #[.pointer (some ⟨g,0,none⟩),.int .i64 y,.int .i64 count] w (Qg w g t a2 (Yj y count bs) fun ns v w'=>Khl w w' ns v):=by
 have bR:y*count<=64*64:=Ol5 bT hn;obtain⟨W,hW⟩:∃ W:Nat,W=y*count:=⟨_,rfl⟩;have bJ:(y:Int)*(count:Int)=(W:Int):=by rw[hW];simp
 obtain⟨nb,Z⟩:∃ nb:Nat,nb=(W+7) / 8:=⟨_,rfl⟩;have bQ:((W:Int)+7) / 8=(nb:Int):=zo;have bP:∀ W,(Instr.makeSlice 242 (.int .i64 (count:Int)) (.int .i64 (count:Int))).run prog W=.ok (.slice (some ⟨W.heap.size,0,none⟩) count count) (W.alloc (.cells (madeCells #[.int .u64 0] count) 243)):=
  fun W=>run_make_row' 242 243 (.int .u64 0) 8 zK Jiq rfl .i64 .i64 count zo zo W
 have bx:=Jia g t bs a2 nb w h;have O:Hid (Yj y count bs=match Jat nb bs with|none=>none|some (x,rest)=>some ((List.range count).map fun i=>Zc x (y*i) y,rest)):=by
  show _=_;unfold Yj;rw[<-hW,<-Z]
 have bE:=zh hW;have bD:=zh Z;have bW:W<=4096:=zo;have ca:nb<=600:=zo;clear hW Z bR;go_enter func251,ntmps251
 go_wp2_with (go_at_call 164;refine(Jif _ _ zo zo).mono ?_;rintro e w' ⟨rfl,cb⟩;subst w')
 refine bx.mono ?_;rintro e w1 ⟨hk,⟨hr,rfl⟩|⟨x,rest,v,hr,rfl,rfl,M⟩⟩
 ·go_wp2_with fail
  exact⟨rfl,Qg.up hk (by rw[O.out,hr])⟩
 have bG:Hid (Yj y count bs=some ((List.range count).map fun i=>Zc x (y*i) y,rest)):=by
  show _=_;rw[O.out,hr]
 have cc:=Jg9 hr;clear O hr bx;go_wp2_with fail
 clear bP bJ bQ;go_loopw [9,22] (fun at_ i wr=>∃ k:Nat,k<=count/\i=.int .i64 k/\at_=.int .i64 ((y*k:Nat):Int)/\wr.rowIs w1.heap.size 243 count (fun j=>uv (if j<k then Zc x (y*j) y else 0))/\Below w1.heap.size w1 wr) (fun _ i _=>count-(intOf i).toNat)
 case atStart=>exact⟨0,zo,rfl,rfl,(Ol3 _ _ _ _).congr fun j _=>by simp[uv],(Oa5 _ _).alloc (Oa2 _) _⟩
 case round=>
  obtain⟨k,bX,rfl,rfl,H,K⟩:=hrel;by_cases bB:k<count
  ·have bY:y*k+y<=W:=by
    rw[bE.out,<-Nat.mul_succ];exact Nat.mul_le_mul_left _ bB
   generalize bz:y*k=I at *;have bh:=zh bz;clear bz;go_wp2;go_loopw [9,26] (fun at_ i bC=>∃ b:Nat,b<=y/\i=.int .i64 b/\at_=.int .i64 ((I+b:Nat):Int)/\bC.rowIs w1.heap.size 243 count (fun j=>uv (if j<k then Zc x (y*j) y else if j=k then Zc x I b else 0))/\Below w1.heap.size w1 bC) (fun _ i _=>y-(intOf i).toNat)
   case atStart=>
    refine⟨0,zo,rfl,rfl,H.congr fun j _=>?_,K⟩;by_cases e:j<k
    ·simp[e]
    simp[e,Zc]
   case round=>
    clear H K;obtain⟨b,hb,rfl,rfl,H,K⟩:=hrel;by_cases bZ:b<y
    ·generalize M:I+b=A at *;have bV:A<W:=zo;have bf:=zh M;clear M;have hq:A / 8<nb:=by rw[bD.out];omega
     have c1:=H.cell bB;have c2:=H.frozen k;have bA:=Jok x I b;have bk:=zh bA;have br:Hid (Zc x I (b+1)=Zc x I b+(if Jn6 x A then 1 else 0)*2 ^ b):=by
      show _=_;rw[<-bf.out];rfl
     clear bA;simp only[Oe3,if_false,if_true,uv]at c1;generalize Zc x I b=bH at c1 bk br;have bL:=Jnu x A zo;have bi:Hid (Jn6 x A=(x.getD (A / 8) 0).toNat.testBit (A % 8)):=rfl;have bj:Hid ((x.getD (A / 8) 0).toNat<256):=(x.getD (A / 8) 0).toNat_lt;generalize (x.getD (A / 8) 0).toNat=bU at bL bi bj;go_wp2;go_region
     go_wp2;go_roundw
     case rel=>
      refine⟨b+1,zo,zn,?_,(H.set k _).congr fun j bM=>?_,(K.setCell (p:=⟨w1.heap.size,k,none⟩) (Oa2 _) _).drew⟩
      ·have:=bf.out;rw[<-this];go_num
      by_cases e:j=k
      ·subst e;simp only[if_true,Oe3,if_false];rw[Kcx bH bU (A % 8) b zo bk.out bj.out,br.out,bi.out];rfl
      simp only[e,if_false]
     case measure=>simp[intOf];omega
    have bK:b=y:=zo;subst bK;go_wp2;go_roundw
    case rel=>
     refine⟨k+1,zo,zn,?_,H.congr fun j bM=>?_,K⟩
     ·have:=bh.out;rw[Nat.mul_succ,this]
     rw[<-bh.out];by_cases e:j=k
     ·subst e;simp
     have bI:(j<k+1)=(j<k):=by rw[eq_iff_iff];omega
     simp only[bI,e,if_false]
    case measure=>simp[intOf];omega
  have bN:k=count:=zo;subst bN;go_wp2;go_ret
  refine Qg.ok (hk.trans (Jt.of_below K g)) bG.out ?_ (M.below K);have bS:=hk.size;have bO:=H.lt;refine⟨w1.heap.size,?_,bS,.inr ⟨_,_,rfl,bO,fun i v hi=>?_⟩⟩
  ·simp only[Oa6,Op1];rfl
  have Y:i<k:=by
   rcases Oc1 i k with U|U
   ·exact U
   ·rw[Ob4 (by simpa using U)]at hi;simp at hi
  have:=H.cell Y;rw[Ob1,Ob1,Oh6 Y]at hi;simp at hi;rw[Od0,this,<-hi];simp[Y]
theorem Kcu:prog.cellsOf 5=1:=zK
theorem Jws x w(br:x.length<=255):
  Calls prog 69 #[.string (Qw x)] w fun e w'=>e=.returned (.string (Qw x))/\Below w.heap.size w w':=by
 have hs:=Jb2 x;by_cases h0:x=[]
 ·subst h0;go_enter func69,ntmps69
  go_wp2;go_ret
  exact⟨rfl,Oa5 _ _⟩
 have bf:=Oi9.2 h0;have Z:∀ W,(Instr.makeSlice 197 (.int .i64 (x.length:Int)) (.int .i64 (x.length:Int))).run prog W=.ok (.slice (some ⟨W.heap.size,0,none⟩) x.length x.length) (W.alloc (.cells (madeCells #[.int .u8 0] x.length) 5)):=
  fun W=>run_make_row' 197 5 (.int .u8 0) 1 zK Jfa rfl .i64 .i64 x.length zo zo W
 obtain⟨y,hM⟩:∃ y,y=madeCells #[Value.int .u8 0] x.length:=⟨_,rfl⟩;have bh:y.size=x.length:=by rw[hM,size_madeCells]
 rw[<-hM]at Z;clear hM;have M:=Lib.run_copy_row_string (P:=prog) (w.alloc (.cells y 5)) 197 9 3 5 w.heap.size 0 x.length x.length (Qw x) y 5 underlying197 zK (Oh1 w _).1 zo zo;obtain⟨H,I⟩:∃ H,H=(y.toList.take 0++Lib.byteCells (Qw x).data.toList++y.toList.drop (0+(Qw x).size)).toArray:=⟨_,rfl⟩;rw[<-I]at M;have K:H.toList=Lib.byteCells x:=by
  rw[I,List.toList_toArray,List.take_zero,List.nil_append,Ol8 (by rw[Array.length_toList];omega),Od7];simp[Qw]
 have bj:H.size=x.length:=by rw[<-Array.length_toList,K,Lib.byteCells_length]
 have O:((w.alloc (.cells y 5)).setRow w.heap.size H).heap[w.heap.size]?=some (.cells H 5 (0,0)):=setRow_heap _ _ y _ 5 (0,0) (Oh1 w _).1;have bi:=Lib.run_unsafeString_row (P:=prog) (w:=(w.alloc (.cells y 5)).setRow w.heap.size H) 207 3 9 5 underlying207 Kcu w.heap.size H.size (by unfold World.shape?;rw[O]) x h0 zo zo
  (fun j b hb=>Lib.cells_of_row O H.size j _ (by rw[Oc8 (by rw[Array.length_toList];exact Oa2 _),K];simp[Lib.byteCells,hb]))
 rw[hs]at M;clear I;have bx:((x.length:Int)==0)=false:=by rw[beq_eq_false_iff_ne];omega
 have bk:(0:Int)<=0/\(0:Int)<(x.length:Int):=zo;clear bf;go_enter func69,ntmps69
 go_wp2;go_ret
 have U:Below w.heap.size w (w.alloc (.cells y 5)):=(Oa5 _ w).alloc (Oa2 _) _;have Y:Below w.heap.size (w.alloc (.cells y 5)) ((w.alloc (.cells y 5)).setRow w.heap.size H):=⟨rfl,rfl,rfl,zS,fun k hk=>setRow_other _ _ _ _ zo⟩;exact⟨rfl,Lib.below_freeze (U.trans Y) (p:=⟨w.heap.size,0,none⟩) (Oa2 _) _⟩
theorem Jhm x w(y:x.length<=255):
  Calls prog 49 #[.string (Qw x)] w fun e w'=>e=.returned (.string (Qw x))/\Below w.heap.size w w':=by
 go_enter func49,ntmps49
 go_wp2_with (go_at_call 69;refine(Jws x _ y).mono ?_;rintro e w' ⟨rfl,hb⟩)
 go_ret
 exact⟨rfl,hb⟩
def Jne (bs:List UInt8):Option (List UInt8×List UInt8):=
 match Ur bs with
 |none=>none
 |some (n,r)=>Jat n r
def Qz (t:Int)(bs:List UInt8):Option (V×List UInt8):=
 if t=1 then (Jc7 bs).map fun x=>(⟨1,x.1,Qw []⟩,x.2)
 else if t=2 then (Ur bs).map fun x=>(⟨2,(x.1:Int),Qw []⟩,x.2)
 else (Jne bs).map fun x=>(⟨3,0,Qw x.1⟩,x.2)
theorem Jt.alloc {w w' g}(h:Jt w w' g)o:Jt w (w'.alloc o) g:=h.trans (Jt.of_below ((Oa5 _ _).alloc (Oa2 _) _) g)
theorem RAt.alloc {w g t bs a2}(h:RAt w g t bs a2)o:RAt (w.alloc o) g t bs a2:=h.below ((Oa5 _ _).alloc (Oa2 _) _)
theorem Jt.setNew {w w' g k}(h:Jt w w' g)(hk:w.heap.size<=k)i v:Jt w (w'.setCell ⟨k,i,none⟩ v) g:=
 ⟨h.os,h.tape,h.output,by simpa [World.setCell] using h.size,fun j y hn=>(Oa4 _ _ _ _ (by show j≠k;omega)).trans (h.block j y hn)⟩
theorem RAt.setOther {w g k t bs a2}(h:RAt w g t bs a2)(hk:k≠g)(y:k≠5)i v:RAt (w.setCell ⟨k,i,none⟩ v) g t bs a2:=
 ⟨h.far,by rw[Oa4 _ _ _ _ (by show g≠k;omega)];exact h.cells,by rw[Oc3 (w:=w) (Oa4 _ _ _ _ (by show 5≠k;omega))];exact h.form,h.len⟩
theorem Ji3 {w w1 g t rest a2 o}(I:g<w.heap.size)(hk:Jt (w.alloc o) w1 g)(y:RAt w1 g t rest a2)x H z:
  Jt w (((w1.setCell ⟨w.heap.size,0,none⟩ x).setCell ⟨w.heap.size,1,none⟩ H).setCell ⟨w.heap.size,2,none⟩ z) g/\RAt (((w1.setCell ⟨w.heap.size,0,none⟩ x).setCell ⟨w.heap.size,1,none⟩ H).setCell ⟨w.heap.size,2,none⟩ z) g t rest a2:=by
 have hf:=y.far;exact⟨(((((Jt.refl w g).alloc o).trans hk).setNew (Oa2 _) _ _).setNew (Oa2 _) _ _).setNew (Oa2 _) _ _,((y.setOther zo zo _ _).setOther zo zo _ _).setOther zo zo _ _⟩
theorem Jjm {w w1:World}{g:Nat}(K:g<w.heap.size)(hk:Jt (w.alloc (.cells #[.int .i64 0,.int .i64 0,.string ⟨#[]⟩] 59)) w1 g)(x y z:Value) :
  (w1.setCell ⟨w.heap.size,0,none⟩ x).cell? ⟨w.heap.size,0,none⟩=some x /\
  ((w1.setCell ⟨w.heap.size,0,none⟩ x).setCell ⟨w.heap.size,1,none⟩ y).cell? ⟨w.heap.size,1,none⟩=some y /\
  (((w1.setCell ⟨w.heap.size,0,none⟩ x).setCell ⟨w.heap.size,1,none⟩ y).setCell ⟨w.heap.size,2,none⟩ z).cell? ⟨w.heap.size,2,none⟩=some z:=by
 have H:=hk.block w.heap.size zS zo;have I:w1.heap[w.heap.size]?=some (.cells #[.int .i64 0,.int .i64 0,.string ⟨#[]⟩] 59 (0,0)):=by rw[H];exact(Oh1 w _).1
 refine⟨?_,?_,?_⟩<;>simp[World.cell?,World.setCell,Array.getElem?_modify,I]
theorem Jjt {w w1:World}{g:Nat}(I:g<w.heap.size)(hk:Jt (w.alloc (.cells #[.int .i64 0,.int .i64 0,.string ⟨#[]⟩] 59)) w1 g) :
  w1.cell? ⟨w.heap.size,0,none⟩=some (.int .i64 0)/\w1.cell? ⟨w.heap.size,1,none⟩=some (.int .i64 0)/\w1.cell? ⟨w.heap.size,2,none⟩=some (.string ⟨#[]⟩)/\∀ i,w1.frozen? ⟨w.heap.size,i,none⟩=false:=by
 have H:=hk.block w.heap.size zS zo;have y:w1.heap[w.heap.size]?=some (.cells #[.int .i64 0,.int .i64 0,.string ⟨#[]⟩] 59 (0,0)):=by rw[H];exact(Oh1 w _).1
 exact⟨by simp[World.cell?,y],by simp[World.cell?,y],by simp[World.cell?,y],fun i=>by simp[World.frozen?,y]⟩
theorem zaH {p:Prop}(h:p:=by
 go_wp2_with fail
 exact⟨rfl,Qg.up ((Jt.refl w g).alloc _ |>.trans hk) (by simp[Qz,hr])⟩):p:=h
theorem Kal g bs a2 w(h:RAt w g 1 bs a2):
  Calls prog 293 #[.pointer (some ⟨g,0,none⟩)] w (Qg w g 1 a2 (Qz 1 bs) fun v x _=>x=v.val):=by
 have y:=h.lt;have hn:=Jmh g 1 bs a2 _ (h.alloc (.cells #[.int .i64 0,.int .i64 0,.string ⟨#[]⟩] 59));have c0:=h.typ;go_enter func293,ntmps293
 go_wp2_with fail
 refine hn.mono ?_;rintro e w1 ⟨hk,⟨hr,rfl⟩|⟨x,rest,v,hr,rfl,rfl,M⟩⟩
 ·exact zaH
 obtain⟨Y,Z,bf,bh⟩:=Jjt y hk;go_wp2;obtain⟨H,I,K⟩:=Jjm y hk (.int .i64 1) (.int .i64 x) (.string ⟨#[]⟩);obtain⟨U,O⟩:=Ji3 y hk M (.int .i64 1) (.int .i64 x) (.string ⟨#[]⟩);refine bodyPost_ret (v:=.agg #[.int .i64 1,.int .i64 x,.string ⟨#[]⟩]) (by simp[results,results293,go_sem,H,I,K]) rfl ?_;exact Qg.ok (x:=⟨1,x,Qw []⟩) U (by simp[Qz,hr]) rfl O
theorem Juc g bs a2 w(h:RAt w g 2 bs a2):
  Calls prog 293 #[.pointer (some ⟨g,0,none⟩)] w (Qg w g 2 a2 (Qz 2 bs) fun v x _=>x=v.val):=by
 have y:=h.lt;have hn:=Ja2 g 2 bs a2 _ (h.alloc (.cells #[.int .i64 0,.int .i64 0,.string ⟨#[]⟩] 59));have c0:=h.typ;go_enter func293,ntmps293
 go_wp2_with fail
 refine hn.mono ?_;rintro e w1 ⟨hk,⟨hr,rfl⟩|⟨x,rest,v,hr,rfl,rfl,M⟩⟩
 ·exact zaH
 obtain⟨Y,Z,bf,bh⟩:=Jjt y hk;go_wp2;obtain⟨H,I,K⟩:=Jjm y hk (.int .i64 2) (.int .i64 (x:Int)) (.string ⟨#[]⟩);obtain⟨U,O⟩:=Ji3 y hk M (.int .i64 2) (.int .i64 (x:Int)) (.string ⟨#[]⟩);refine bodyPost_ret (v:=.agg #[.int .i64 2,.int .i64 (x:Int),.string ⟨#[]⟩]) (by simp[results,results293,go_sem,H,I,K]) rfl ?_;exact Qg.ok (x:=⟨2,(x:Int),Qw []⟩) U (by simp[Qz,hr]) rfl O
theorem Jwx g bs a2 w(h:RAt w g 3 bs a2):
  Calls prog 293 #[.pointer (some ⟨g,0,none⟩)] w (Qg w g 3 a2 (Qz 3 bs) fun v x _=>x=v.val):=by
 have H:=h.lt;have hn:=Ja2 g 3 bs a2 _ (h.alloc (.cells #[.int .i64 0,.int .i64 0,.string ⟨#[]⟩] 59));have c0:=h.typ;go_enter func293,ntmps293
 go_wp2_with fail
 refine hn.mono ?_;rintro e w1 ⟨hk,⟨hr,rfl⟩|⟨n,rest,v,hr,rfl,rfl,Z⟩⟩
 ·go_wp2_with fail
  exact⟨rfl,Qg.up ((Jt.refl w g).alloc _ |>.trans hk) (by simp[Qz,Jne,hr])⟩
 have bj:=Jgx hr;have ht:=Jia g 3 rest a2 n w1 Z;clear hn;go_wp2_with fail
 refine ht.mono ?_;rintro e bC ⟨M,⟨y,rfl⟩|⟨x,bB,v,y,rfl,rfl,bf⟩⟩
 ·go_wp2_with fail
  exact⟨rfl,Qg.up (((Jt.refl w g).alloc _ |>.trans hk).trans M) (by simp[Qz,Jne,hr,y])⟩
 have bk:=Jg9 y;clear ht;go_wp2_with fail
 refine(Jhm x _ zo).mono ?_;rintro e bD ⟨rfl,K⟩;have I:=(hk.trans M).trans (Jt.of_below K g);obtain⟨br,bx,bz,bA⟩:=Jjt H I;obtain⟨bi,bh⟩:=Ji3 H I (bf.below K) (.int .i64 3) (.int .i64 0) (.string (Qw x));clear bk bj;go_wp2;obtain⟨O,U,Y⟩:=Jjm H I (.int .i64 3) (.int .i64 0) (.string (Qw x));refine bodyPost_ret (v:=.agg #[.int .i64 3,.int .i64 0,.string (Qw x)]) (by simp[results,results293,go_sem,O,U,Y]) rfl ?_;exact Qg.ok (x:=⟨3,0,Qw x⟩) bi (by simp[Qz,Jne,hr,y]) rfl bh
theorem Jn7 g t bs a2 w(h:RAt w g t bs a2)(ht:t=1\/t=2\/t=3):
  Calls prog 293 #[.pointer (some ⟨g,0,none⟩)] w (Qg w g t a2 (Qz t bs) fun v x _=>x=v.val):=by
 rcases ht with rfl|rfl|rfl
 ·exact Kal g bs a2 w h
 ·exact Juc g bs a2 w h
 exact Jwx g bs a2 w h
def Jf:V:=⟨0,0,⟨#[]⟩⟩
theorem Jt9 n:(madeCells #[.int .i64 0,.int .i64 0,.string ⟨#[]⟩] (n*3)).toList=(List.replicate n Jf).flatMap V.cells:=by
 have key:∀ n,(List.range (n*3)).map (fun j=>(#[Value.int .i64 0,.int .i64 0,.string ⟨#[]⟩]:Array Value)[j % 3]!)=(List.replicate n Jf).flatMap V.cells:=by
  intro n;induction n with
  |zero=>rfl
  |succ n I=>
   have e:(n+1)*3=n*3+1+1+1:=zo;rw[e,Oj7,Oj7,Oj7,List.replicate_succ',Oe8,Ob8,Ob8,Ob8,I];have h0:(n*3) % 3=0:=zo;have y:(n*3+1) % 3=1:=zo;have H:(n*3+1+1) % 3=2:=zo;simp[h0,y,H,V.cells,Jf]
 have:=key n;unfold madeCells;rw[Array.toList_map,Array.toList_range];exact this
theorem zai {p:Prop}(h:p:=by obtain⟨i,hi,I,H,y⟩:=info_parts Jow;have hr:=run_make (P:=prog) W 60 59 i _ zK hi I .i64 .i64 (n:Int) (n:Int) zo (Int.le_refl _) (by rw[y];omega) zo;rw[Int.toNat_natCast,H]at hr;exact⟨_,hr,_,(Oh1 W _).1,by rw[Od7];exact Jt9 n⟩):p:=h
theorem Jl9 (n:Nat)(hn:n<=1000)W:∃ C,(Instr.makeSlice 60 (.int .i64 (n:Int)) (.int .i64 (n:Int))).run prog W=.ok (.slice (some ⟨W.heap.size,0,none⟩) n n) (W.alloc (.cells C 59))/\Kv (W.alloc (.cells C 59)) W.heap.size (List.replicate n Jf) []:=by
 exact zai
def Yl (t:Int):Nat->List UInt8->Option (List V×List UInt8)
 |0,bs=>some ([],bs)
 |m+1,bs=>match Yl t m bs with
  |none=>none
  |some (vs,r)=>(Qz t r).map fun x=>(vs++[x.1],x.2)
theorem Jeb t:∀ (m:Nat) (bs rest:List UInt8) (vs:List V),Yl t m bs=some (vs,rest)->vs.length=m:=by
 intro m;induction m with
 |zero=>intro bs rest vs h;simp[Yl]at h;simp[h.1.symm]
 |succ m y=>
  intro bs rest vs h;unfold Yl at h;cases hm:Yl t m bs with
  |none=>rw[hm]at h;simp at h
  |some x=>
   obtain⟨H,r⟩:=x;rw[hm]at h;obtain⟨x,_,e⟩:=Oe9.1 h;simp only[Oj3]at e;rw[<-e.1,Oa8,y bs r H hm];rfl
theorem Jry t bs k(h:Yl t k bs=none):∀ m,k<=m->Yl t m bs=none:=by
 intro m H;induction m with
 |zero=>
      have:k=0:=zo;subst this;exact h
 |succ m y=>
  by_cases e:k=m+1
  ·subst e;exact h
  unfold Yl;rw[y zo]
theorem Jjw t bs r k vs(h:Yl t k bs=some (vs,r)):Yl t (k+1) bs=(Qz t r).map fun x=>(vs++[x.1],x.2):=by
 rw[Yl,h]
def Jc9 (w w':World)(vs:List V)(v:Value):Prop:=∃ b,v=.slice (some ⟨b,0,none⟩) vs.length vs.length/\w.heap.size<=b/\Kv w' b vs []
theorem Jna y k m v(hk:y.length=k)(I:k<m):(y++List.replicate (m-k) Jf).set k v=(y++[v])++List.replicate (m-(k+1)) Jf:=by
 obtain⟨d,H⟩:∃ d,m-k=d+1:=⟨m-k-1,zo⟩;have e:m-(k+1)=d:=zo;rw[H,e,List.replicate_succ,Ok4 _ _ zo,hk,Oe1];simp
theorem Kv.put {w g y}(h:Kv w g y [])v k(hk:k<y.length):∃ u:V,
  (w.cell? ⟨g,k*3,none⟩=some (.int .i64 u.k)/\w.frozen? ⟨g,k*3,none⟩=false)/\(w.cell? ⟨g,k*3+1,none⟩=some (.int .i64 u.n)/\w.frozen? ⟨g,k*3+1,none⟩=false)/\(w.cell? ⟨g,k*3+2,none⟩=some (.string u.s)/\w.frozen? ⟨g,k*3+2,none⟩=false) /\
  Kv (((w.setCell ⟨g,k*3,none⟩ (.int .i64 v.k)).setCell ⟨g,k*3+1,none⟩ (.int .i64 v.n)).setCell ⟨g,k*3+2,none⟩ (.string v.s)) g (y.set k v) []:=by
 obtain⟨⟨h0,H,I⟩,K⟩:=h.at3 v k hk;exact⟨_,h0,H,I,K⟩
theorem Jom (g:Nat)(t:Int)bs a2(m:Nat)w(h:RAt w g t bs a2)(ht:t=1\/t=2\/t=3)(bG:m<=255):
  Calls prog 283 #[.pointer (some ⟨g,0,none⟩),.int .i64 m] w (Qg w g t a2 (Yl t m bs) fun vs v w'=>Jc9 w w' vs v):=by
 obtain⟨C,br,bx⟩:=Jl9 m zo w;have bE:=h.lt;have bD:=h.far;go_enter func283,ntmps283
 go_wp2_with fail
 clear br;go_loopw [11] (fun i wr=>∃ (k:Nat) (y:List V) (r:List UInt8),k<=m/\i=.int .i64 k/\Yl t k bs=some (y,r)/\Kv wr w.heap.size (y++List.replicate (m-k) Jf) []/\RAt wr g t r a2/\Jt w wr g) (fun i _=>m-(intOf i).toNat)
 case atStart=>exact⟨0,[],bs,zo,rfl,rfl,by simpa using bx,h.alloc _,(Jt.refl w g).alloc _⟩
 case round=>
  obtain⟨k,y,r,hk,rfl,Y,H,Z,O⟩:=hrel;have K:=zh Y;have I:Hid (y.length=k):=Jeb t k bs r y Y;clear Y;by_cases bf:k<m
  ·have hv:=Jn7 g t r a2 wr Z ht;go_wp2_with fail
   refine hv.mono ?_;rintro e w1 ⟨M,⟨hr,rfl⟩|⟨x,rest,v,hr,rfl,rfl,bj⟩⟩
   ·go_wp2_with fail
    refine⟨rfl,Qg.up (O.trans M) (Jry t bs (k+1) ?_ m zo)⟩;rw[Jjw t bs r k y K.out,hr];rfl
   clear hv;have bz:Kv w1 w.heap.size (y++List.replicate (m-k) Jf) []:=H.of_block (M.block _ H.lt zo);have hlen:(y++List.replicate (m-k) Jf).length=m:=by rw[Oa8,I.out,Od6];omega
   obtain⟨old,⟨c0,bA⟩,⟨c1,bB⟩,⟨c2,bC⟩,U⟩:=bz.put x k (by rw[hlen];exact bf);rw[Jna y k m x I.out bf]at U;have bi:Hid _:=U;have bh:Hid (Yl t (k+1) bs=some (y++[x],rest)):=by
    show _=_;rw[Jjw t bs r k y K.out,hr];rfl
   clear U hlen hr;go_wp2;go_roundw
   case rel=>
    refine⟨k+1,y++[x],rest,zo,zn,bh.out,bi.out,?_,?_⟩
    ·exact((bj.setOther zo zo _ _).setOther zo zo _ _).setOther zo zo _ _
    exact(((O.trans M).setNew (Oa2 _) _ _).setNew (Oa2 _) _ _).setNew (Oa2 _) _ _
   case measure=>simp[intOf];omega
  have bk:k=m:=zo;subst bk;go_wp2;go_ret
  rw[Oe1,List.replicate_zero,Od7]at H;refine Qg.ok O K.out ⟨w.heap.size,?_,Oa2 _,H⟩ Z;rw[I.out];rfl
def Jbq (t least:Int)(d:Nat):V:=⟨t,wrap64 (IntKind.u64.wrap (IntKind.u64.wrap least+(d:Int))),⟨#[]⟩⟩
def Jof (w w':World)(vs:List V)(v:Value):Prop:=∃ a cap,v=.slice a vs.length cap/\Jv w' a vs/\∀ b o,a=some ⟨b,o,none⟩->w.heap.size<=b
theorem Jc9.toR {w w' vs v}(h:Jc9 w w' vs v):Jof w w' vs v:=by
 obtain⟨b,rfl,hb,hr⟩:=h;refine⟨_,_,rfl,hr.vals,fun y o e=>?_⟩;simp at e;omega
def Ux (t:Int)(m:Nat)(bs:List UInt8):Option (List V×List UInt8):=
 if t=2 then (Yj 1 m bs).map fun x=>(x.1.map (Jbq t 0),x.2)
 else if m=0 then some ([],bs)
 else match Jc7 bs with
  |none=>none
  |some (least,r)=>match Ur r with
   |none=>none
   |some (y,H)=>if y<=64 then (Yj y m H).map fun x=>(x.1.map (Jbq t least),x.2)else none
theorem Kt {y count bs rest ns}(h:Yj y count bs=some (ns,rest)):ns.length=count:=by
 unfold Yj at h;split at h
 ·simp at h
 simp at h;rw[<-h.1];simp
def Jdd (t:Int)(m:Nat)(bs:List UInt8):Option (List V×List UInt8):=
 match Ur bs with
 |none=>none
 |some (n,r)=>match Yl t n r with
  |none=>none
  |some (ws,y)=>match Yj 4 m y with
   |none=>none
   |some (ks,H)=>if ∀ k∈ks,k<ws.length then some (ks.map fun k=>ws.getD k Jf,H)else none
theorem Jgi {y count bs rest ns}(h:Yj y count bs=some (ns,rest)):∀ n∈ns,n<2 ^ y:=by
 unfold Yj at h;split at h
 ·simp at h
 simp at h;intro n hn;rw[<-h.1]at hn;obtain⟨i,_,rfl⟩:=Of0.1 hn;exact Jok _ _ _
theorem Jb7 {w w' g b xs}(h:Uh w (some ⟨b,0,none⟩) xs)(hk:Jt w w' g)(hn:b≠g):Uh w' (some ⟨b,0,none⟩) xs:=
 h.of_block hk.size fun y o e hb=>by
  simp at e;exact hk.block y hb (by rw[<-e.1];exact hn)
def Ys:List Nat->List V->List V
 |[],_=>[]
 |h::hs,vs=>if h=1 then (vs.headD Jf)::Ys hs vs.tail else Jf::Ys hs vs
def Qs:List Nat->Nat
 |[]=>0
 |h::hs=>(if h=1 then 1 else 0)+Qs hs
theorem Jeq l h:Qs (l++[h])=Qs l+(if h=1 then 1 else 0):=by
 induction l with
 |nil=>simp[Qs]
 |cons x l y=>simp only[List.cons_append,Qs,y];omega
theorem Ja9 l k:Qs (l.take k)<=Qs l:=by
 induction l generalizing k with
 |nil=>simp[Qs]
 |cons x l y=>
  cases k with
  |zero=>simp[Qs]
  |succ k=>simp only[List.take_succ_cons,Qs];have:=y k;omega
theorem Jez hs:∀ vs,(Ys hs vs).length=hs.length:=by
 induction hs with
 |nil=>intro vs;rfl
 |cons h hs y=>intro vs;simp only[Ys];split<;>simp[y]
theorem Jxq l h:∀ vs:List V,Ys (l++[h]) vs=Ys l vs++[if h=1 then vs.getD (Qs l) Jf else Jf]:=by
 induction l with
 |nil=>intro vs;simp only[List.nil_append,Ys,Qs];cases vs<;>split<;>simp
 |cons x l H=>
  intro vs;simp only[List.cons_append,Ys,Qs,H];by_cases y:x=1
  ·simp only[y,if_true];cases vs with
   |nil=>simp
   |cons v vs=>simp[Nat.add_comm 1]
  simp[y]
theorem Jgo b hs a cap bA vs w(hn:hs.length<=64)(hh:∀ h∈hs,h<2)(hv:Qs hs<=vs.length)(bP:vs.length<=64)(bz:Uh w (some ⟨b,0,none⟩) (hs.map uv))(bG:Jv w a vs):
  Calls prog 252 #[.slice (some ⟨b,0,none⟩) hs.length bA,.slice a vs.length cap] w fun e w'=>(∃ v,e=.returned v/\Jc9 w w' (Ys hs vs) v)/\Below w.heap.size w w':=by
 obtain⟨C,bC,bE⟩:=Jl9 hs.length zo w;go_enter func252,ntmps252
 go_wp2_with fail
 clear bC;go_loopw [6,14] (fun nx i wr=>∃ k:Nat,k<=hs.length/\i=.int .i64 k/\nx=.int .i64 (Qs (hs.take k):Nat)/\Kv wr w.heap.size (Ys (hs.take k) vs++List.replicate (hs.length-k) Jf) []/\Below w.heap.size w wr) (fun _ i _=>hs.length-(intOf i).toNat)
 case atStart=>exact⟨0,zo,rfl,rfl,by simpa [Ys] using bE,(Oa5 _ _).alloc (Oa2 _) _⟩
 case round=>
  obtain⟨k,hk,rfl,rfl,K,H⟩:=hrel;by_cases I:k<hs.length
  ·obtain⟨b1,bQ,bi,bK,x1⟩:=(bz.below H).at (i:=k) (by simpa using I);simp only[Oc9,Oh2]at bi;obtain⟨rfl,rfl,_⟩:=bi;rw[Od9,Od0]at x1;unfold uv at x1;have hts:hs.take (k+1)=hs.take k++[hs[k]]:=Oc4 I;have bj:=Ja9 hs (k+1);have bO:=hh _ (Ob3 I);have Z:=Jeq (hs.take k) hs[k];have Y:=Jxq (hs.take k) hs[k] vs;rw[<-hts]at Z Y;have M:=Jez (hs.take k) vs;have bf:(hs.take k).length=k:=by simp;omega
   rw[bf]at M;have hlen:(Ys (hs.take k) vs++List.replicate (hs.length-k) Jf).length=hs.length:=by rw[Oa8,M,Od6];omega
   have y:Hid _:=Z;have bh:Hid _:=Y;clear Z Y hts;generalize hs[k]=q at *;by_cases hq:q=1
   ·subst hq;have bk:Qs (hs.take k)<vs.length:=by have:=y.out;simp at this;omega
    have br:Hid (vs.getD (Qs (hs.take k)) Jf=vs[Qs (hs.take k)]):=by show _=_;simp[bk]
    have U:Hid (Qs (hs.take (k+1))=Qs (hs.take k)+1):=by show _=_;rw[y.out];rfl
    obtain⟨b2,bR,rfl,bL,bS,bT,bU⟩:=(bG.below H).at bk;obtain⟨old,⟨c0,bH⟩,⟨c1,bI⟩,⟨c2,bJ⟩,O⟩:=K.put vs[Qs (hs.take k)] k (by rw[hlen];exact I);rw[Jna _ k hs.length _ M I]at O;have hts:Ys (hs.take k) vs++[vs[Qs (hs.take k)]]=Ys (hs.take (k+1)) vs:=by
     rw[bh.out,if_pos rfl,br.out]
    rw[hts]at O;have bx:Hid _:=O;have bM:(0:Int)<=(Qs (hs.take k):Nat)/\((Qs (hs.take k):Nat):Int)<(vs.length:Int):=zo;clear O hts hlen M bf bj y;generalize Qs (hs.take k)=p at *;go_wp2;go_roundw
    case rel=>
     refine⟨k+1,zo,zn,?_,bx.out,((H.setCell (p:=⟨w.heap.size,k*3,none⟩) (Oa2 _) _).setCell (p:=⟨w.heap.size,k*3+1,none⟩) (Oa2 _) _).setCell (p:=⟨w.heap.size,k*3+2,none⟩) (Oa2 _) _⟩;rw[U.out];go_num
    case measure=>simp[intOf];omega
   have bN:((q:Int)==1)=false:=by rw[beq_eq_false_iff_ne];omega
   have U:Hid (Qs (hs.take (k+1))=Qs (hs.take k)):=by show _=_;rw[y.out,if_neg hq];rfl
   have bD:Kv wr w.heap.size (Ys (hs.take (k+1)) vs++List.replicate (hs.length-(k+1)) Jf) []:=by
    have e:hs.length-k=hs.length-(k+1)+1:=zo;rw[bh.out,if_neg hq,Od8];rw[e,List.replicate_succ]at K;exact K
   clear hlen M bf bj y;go_wp2;go_roundw
   case rel=>
    refine⟨k+1,zo,zn,?_,bD,H⟩;rw[U.out]
   case measure=>simp[intOf];omega
  have bB:k=hs.length:=zo;subst bB;go_wp2;go_ret
  rw[Oe1,List.replicate_zero,Od7,Of2]at K;refine⟨⟨_,rfl,w.heap.size,?_,Oa2 _,K⟩,H⟩;rw[Jez];rfl
end
section
open Go.RowKit
def Jdr (t:Int):Nat->Nat->List UInt8->Option (List V×List UInt8)
 |_,0,bs=>some ([],bs)
 |0,_+1,_=>none
 |f+1,m+1,bs=>match Ur bs with
  |none=>none
  |some (n,r)=>if 1<=n/\n<=m+1 then match Qz t r with
    |none=>none
    |some (v,y)=>(Jdr t f (m+1-n) y).map fun x=>(List.replicate n v++x.1,x.2)
   else none
def Jbh (t:Int)(m:Nat)(bs:List UInt8):Option (List V×List UInt8):=Jdr t m m bs
theorem Jcn t f bs:Jdr t f 0 bs=some ([],bs):=by cases f<;>rfl
theorem Jxj t:∀ (N m f g:Nat) (bs:List UInt8),m<=N->m<=f->m<=g->Jdr t f m bs=Jdr t g m bs:=by
 intro N;induction N with
 |zero=>
  intro m f g bs y _ _;have:m=0:=zo;subst this;rw[Jcn,Jcn]
 |succ N H=>
  intro m f g bs y hf K;cases m with
  |zero=>rw[Jcn,Jcn]
  |succ m=>
   obtain⟨f,rfl⟩:∃ d,f=d+1:=⟨f-1,zo⟩;obtain⟨g,rfl⟩:∃ d,g=d+1:=⟨g-1,zo⟩;rw[Jdr,Jdr];cases Ur bs with
   |none=>rfl
   |some x=>
    obtain⟨n,r⟩:=x;simp only;by_cases hn:1<=n/\n<=m+1
    ·rw[if_pos hn,if_pos hn];cases Qz t r with
     |none=>rfl
     |some I=>simp only;rw[H (m+1-n) f g I.2 zo zo zo]
    rw[if_neg hn,if_neg hn]
theorem Jb9 t bs:Jbh t 0 bs=some ([],bs):=rfl
theorem Jay t m bs:Jbh t (m+1) bs=match Ur bs with
  |none=>none
  |some (n,r)=>if _h:1<=n/\n<=m+1 then match Qz t r with
    |none=>none
    |some (v,y)=>(Jbh t (m+1-n) y).map fun x=>(List.replicate n v++x.1,x.2)
   else none:=by
 unfold Jbh;rw[Jdr];cases Ur bs with
 |none=>rfl
 |some x=>
  obtain⟨n,r⟩:=x;simp only;by_cases hn:1<=n/\n<=m+1
  ·rw[if_pos hn,dif_pos hn];cases Qz t r with
   |none=>rfl
   |some H=>simp only;rw[Jxj t m (m+1-n) m (m+1-n) H.2 zo zo (Oa2 _)]
  rw[if_neg hn,dif_neg hn]
theorem Jgk g w:
  Calls Tryz.prog 253 #[.pointer (some ⟨g,0,none⟩)] w fun e w'=>e=.returned (.agg #[.func (.func 283) #[.pointer (some ⟨g,0,none⟩)] #[],.func (.func 284) #[.pointer (some ⟨g,0,none⟩)] #[],.func (.func 285) #[.pointer (some ⟨g,0,none⟩)] #[],.func (.func 286) #[.pointer (some ⟨g,0,none⟩)] #[]])/\Below w.heap.size w w':=by
 have hone:∀ (W:World) (a:Addr) f x c,(store a (.func f x c)).run Tryz.prog W=match W.cell? a with
   | some _ => if W.frozen? a then .halt (.unsupported (.unsafePointer "a write to bytes that a string shares")) W else .ok () (W.setCell a (.func f x c))
   |none=>match W.farStore Tryz.prog a (.func f x c) (Mode.plain==.atomic)with
    |.ok (w',_)=>.ok () w'
    |.error h=>.halt h W:=fun W a f x c=>run_store Tryz.prog W a (.func f x c) .plain rfl
 go_enter Tryz.func253,Tryz.ntmps253
 go_wp2;exact bodyPost_ret (v:=.agg #[.func (.func 283) #[.pointer (some ⟨g,0,none⟩)] #[],.func (.func 284) #[.pointer (some ⟨g,0,none⟩)] #[],.func (.func 285) #[.pointer (some ⟨g,0,none⟩)] #[],.func (.func 286) #[.pointer (some ⟨g,0,none⟩)] #[]]) (by simp[results,Tryz.results253,go_sem]) rfl ⟨rfl,(Oa5 _ _).alloc (Oa2 _) _⟩
theorem Js4:(Tryz.prog.info? 405).map (fun i=>i.size)=some 1:=zK
theorem Jao y x1 x2 H w:
  (Instr.index 406 (.agg #[y,x1,x2,H]) (.int .i64 0)).run Tryz.prog w=.ok y w /\
  (Instr.index 406 (.agg #[y,x1,x2,H]) (.int .i64 1)).run Tryz.prog w=.ok x1 w /\
  (Instr.index 406 (.agg #[y,x1,x2,H]) (.int .i64 2)).run Tryz.prog w=.ok x2 w /\
  (Instr.index 406 (.agg #[y,x1,x2,H]) (.int .i64 3)).run Tryz.prog w=.ok H w:=by
 obtain⟨i,hi,hs⟩:=Oe9.1 Js4;refine⟨?_,?_,?_,?_⟩<;>simp[Instr.index,run_underlying Tryz.underlying406,run_underlying Tryz.underlying405,asIntOf,part,isAgg,sizeOf,typeInfo,hi,hs]
def Jf2:List UInt8->Option ((Nat×Nat×Nat)×List UInt8)
 |b0::b1::b2::r=>if way (b0.toNat:Int) (b1.toNat:Int)=true/\b2.toNat<=64 then some ((b0.toNat,b1.toNat,b2.toNat),r)else none
 |_=>none
theorem Kbu g bB bs a2 w(h:RAt w g bB bs a2):
  Calls Tryz.prog 214 #[.pointer (some ⟨g,0,none⟩)] w fun e w'=>Jt w w' g/\((Jf2 bs=none/\e=Jpu a2)\/∃ t H n rest,Jf2 bs=some ((t,H,n),rest)/\e=.returned (.tuple #[.int .i64 (H:Nat),.int .i64 (n:Nat)])/\RAt w' g (t:Nat) rest a2):=by
 have bx:=Ja2 g bB bs a2 w h;go_enter Tryz.func214,Tryz.ntmps214
 go_wp2_with fail
 refine bx.mono ?_;rintro e w1 ⟨Z,⟨I,rfl⟩|⟨bJ,bC,v,I,rfl,rfl,O⟩⟩
 ·go_wp2_with fail
  refine⟨rfl,Z,.inl ⟨?_,rfl⟩⟩;cases bs with
  |nil=>rfl
  |cons b r=>simp[Ur]at I
 cases bs with
 |nil=>simp[Ur]at I
 |cons b0 y=>
  simp[Ur]at I;obtain⟨rfl,rfl⟩:=I;clear bx;have c0:=O.typ;have c1:=O.thaw 0;have bk:=O.setTyp (t':=(b0.toNat:Int));have bf:=Z.trans (Jt.set w1 g 0 (.int .i64 (b0.toNat:Int)));have bD:=b0.toNat_lt;have bz:=Ja2 g _ y a2 _ bk;go_wp2_with fail
  refine bz.mono ?_;rintro e bN ⟨bi,⟨K,rfl⟩|⟨bK,bC,v,K,rfl,rfl,br⟩⟩
  ·go_wp2_with fail
   refine⟨rfl,bf.trans bi,.inl ⟨?_,rfl⟩⟩;cases y with
   |nil=>rfl
   |cons b r=>simp[Ur]at K
  cases y with
  |nil=>simp[Ur]at K
  |cons b1 y=>
   simp[Ur]at K;obtain⟨rfl,rfl⟩:=K;clear bz;have bh:=bf.trans bi;clear Z bf O bk c0 c1 bi;have bE:=b1.toNat_lt;have bA:=Ja2 g _ y a2 _ br;go_wp2_with fail
   refine bA.mono ?_;rintro e bO ⟨bj,⟨M,rfl⟩|⟨bL,bM,v,M,rfl,rfl,U⟩⟩
   ·go_wp2_with fail
    refine⟨rfl,bh.trans bj,.inl ⟨?_,rfl⟩⟩;cases y with
    |nil=>rfl
    |cons b r=>simp[Ur]at M
   cases y with
   |nil=>simp[Ur]at M
   |cons b2 y=>
    simp[Ur]at M;obtain⟨rfl,rfl⟩:=M;clear bA;have hk:=bh.trans bj;clear bh bj br;have c0:=U.typ;have Y:Hid (Jf2 (b0::b1::b2::y)=if way (b0.toNat:Int) (b1.toNat:Int)=true/\b2.toNat<=64 then some ((b0.toNat,b1.toNat,b2.toNat),y)else none):=rfl;have bG:=b2.toNat_lt;generalize b0.toNat=t at *;generalize b1.toNat=H at *;generalize b2.toNat=n at *;go_wp2_with fail
    refine(Ja3 _ _ _).mono ?_;rintro e w' ⟨rfl,bI⟩;subst w';cases hway:way (t:Int) (H:Int)with
    |false=>
     go_wp2_with fail
     refine(Jap a2 _ U.form).mono ?_;rintro e w' ⟨rfl,rfl⟩;go_wp2_with fail
     refine⟨rfl,hk,.inl ⟨?_,rfl⟩⟩;rw[Y.out,hway];simp
    |true=>
     by_cases hn:n<=64
     ·have bH:((n:Int)<=64):=zo;go_wp2_with fail
      refine(Jep _).mono ?_;rintro e w' ⟨rfl,rfl⟩;go_wp2_with fail
      go_ret2
      refine⟨hk,.inr ⟨t,H,n,y,?_,rfl,U⟩⟩;rw[Y.out,hway,if_pos ⟨rfl,hn⟩]
     go_wp2_with fail
     rw[show decide ((n:Int)<=64)=false from decide_eq_false zo];refine(Jap a2 _ U.form).mono ?_;rintro e w' ⟨rfl,rfl⟩;go_wp2_with fail
     refine⟨rfl,hk,.inl ⟨?_,rfl⟩⟩;rw[Y.out,if_neg (fun hh=>hn hh.2)]
def Jce (t y:Int)(m:Nat)(bs:List UInt8):Option (List V×List UInt8):=
 if y=0 then Yl t m bs else if y=1 then Jdd t m bs else if y=2 then Jbh t m bs else Ux t m bs
def Ug (t y:Int)(n:Nat)(bs:List UInt8):Option (List V×List UInt8):=
 match Yj 1 n bs with
 |none=>none
 |some (hs,r)=>(Jce t y (Qs hs) r).map fun x=>(Ys hs x.1,x.2)
theorem Jno t:∀ (N m:Nat) (bs rest:List UInt8) (vs:List V),m<=N->Jbh t m bs=some (vs,rest)->vs.length=m:=by
 intro N;induction N with
 |zero=>
  intro m bs rest vs y h;have:m=0:=zo;subst this;rw[Jb9]at h;simp at h;simp[h.1.symm]
 |succ N I=>
  intro m bs rest vs y h;cases m with
  |zero=>rw[Jb9]at h;simp at h;simp[h.1.symm]
  |succ m=>
   rw[Jay]at h;cases hb:Ur bs with
   |none=>rw[hb]at h;simp at h
   |some x=>
    obtain⟨n,r⟩:=x;rw[hb]at h;simp only at h;split at h
    ·rename_i hn
     cases hv:Qz t r with
     |none=>rw[hv]at h;simp at h
     |some M=>
      obtain⟨v,K⟩:=M;rw[hv]at h;obtain⟨z,H,e⟩:=Oe9.1 h;simp only[Oj3]at e;have:=I (m+1-n) K z.2 z.1 zo H;rw[<-e.1,Oa8,Od6,this];omega
    simp at h
theorem zaR {p:Prop}(h:p:=by obtain⟨z,y,e⟩:=Oe9.1 h;simp only[Oj3]at e;rw[<-e.1,Oa6];exact Kt y):p:=h
theorem Jb1 {t H m bs rest vs}(h:Jce t H m bs=some (vs,rest)):vs.length=m:=by
 unfold Jce at h;split at h
 ·exact Jeb t m bs rest vs h
 split at h
 ·unfold Jdd at h;split at h
  ·simp at h
  split at h
  ·simp at h
  split at h
  ·simp at h
  rename_i ks I hf
  split at h
  ·simp at h;rw[<-h.1,Oa6];exact Kt hf
  simp at h
 split at h
 ·exact Jno t m m bs rest vs (Oa2 _) h
 unfold Ux at h;split at h
 ·exact zaR
 split at h
 ·rename_i h0
  simp at h;rw[h.1,h0];rfl
 split at h
 ·simp at h
 split at h
 ·simp at h
 split at h
 ·exact zaR
 simp at h
theorem Jky l:Qs l<=l.length:=by
 induction l with
 |nil=>simp[Qs]
 |cons x l y=>simp only[Qs,List.length_cons];split<;>omega
theorem Jp9 q(h:q<2):(if q=1 then 1 else 0)=q:=by split<;>omega
theorem Jqf (g:Nat)(t:Int)(n:Nat)bs a2 w(h:RAt w g t bs a2)(ht:t=1\/t=2\/t=3)(hn:n<=64):
  Calls Tryz.prog 215 #[.pointer (some ⟨g,0,none⟩),.int .i64 0,.int .i64 n] w (Qg w g t a2 (Ug t 0 n bs) fun vs v w'=>Jc9 w w' vs v):=by
 have ci:=h.lt;have cf:=h.far;have hf:=Jas g t bs a2 1 n w h zo hn;go_enter Tryz.func215,Tryz.ntmps215
 go_wp2_with fail
 refine hf.mono ?_;rintro e w1 ⟨bB,⟨y,rfl⟩|⟨hs,M,v,y,rfl,⟨b,rfl,hb,bx⟩,bH⟩⟩
 ·go_wp2_with fail
  exact⟨rfl,Qg.up bB (by simp[Ug,y])⟩
 have bA:=Kt y;have bz:=Jgi y;have bQ:=Jky hs;have bi:Hid (Ug t 0 n bs=(Jce t 0 (Qs hs) M).map fun x=>(Ys hs x.1,x.2)):=by show _=_;simp only[Ug,y]
 have ca:=zh bA;have bh:Hid (hs.length<=64):=by show _<=_;omega
 clear hf y bA;go_wp2_with fail
 go_loopw [8,16] (fun bZ i wr=>∃ k:Nat,k<=hs.length/\i=.int .i64 k/\bZ=.int .i64 (Qs (hs.take k):Nat)/\wr=w1) (fun _ i _=>hs.length-(intOf i).toNat)
 case atStart=>exact⟨0,zo,rfl,rfl,rfl⟩
 case round=>
  obtain⟨k,hk,rfl,rfl,rfl⟩:=hrel;by_cases bf:k<hs.length
  ·have Z:=bh.out;obtain⟨b1,cn,bj,cc,x1⟩:=bx.at (i:=k) (by simpa using bf);simp only[Oc9,Oh2]at bj;obtain⟨rfl,rfl,_⟩:=bj;rw[Od9,Od0]at x1;unfold uv at x1;have K:=Jeq (hs.take k) hs[k];rw[<-Oc4 bf]at K;have hq:=bz _ (Ob3 bf);have bR:=Ja9 hs k;generalize hs[k]=q at *;have bS:q<2:=hq;have bC:=Jp9 q bS;have cj:Qs (hs.take k)<=64:=Ob2 bR (Ob2 bQ Z);clear hq;rw[bC]at K;have bG:Hid _:=K;clear K bC;generalize Qs (hs.take k)=p at *;go_wp2;go_roundw
   case rel=>
    refine⟨k+1,zo,zn,?_,trivial⟩;rw[bG.out];go_num
   case measure=>simp[intOf];omega
  have bP:k=hs.length:=zo;subst bP;rw[Of2];have Z:=bh.out;go_wp2_with fail
  refine(Jgk g wr).mono ?_;rintro e bD ⟨rfl,U⟩;have bI:=bH.below U;have bM:=bx.below U;have Y:=bB.trans (Jt.of_below U g);have bO:=(Jao (.func (.func 283) #[.pointer (some ⟨g,0,none⟩)] #[]) (.func (.func 284) #[.pointer (some ⟨g,0,none⟩)] #[]) (.func (.func 285) #[.pointer (some ⟨g,0,none⟩)] #[]) (.func (.func 286) #[.pointer (some ⟨g,0,none⟩)] #[]) bD).1;have br:=Jom g t M a2 (Qs hs) bD bI ht zo;have O:Hid (Jce t 0 (Qs hs) M=Yl t (Qs hs) M):=rfl;go_wp2_with fail
  refine br.mono ?_;rintro e w4 ⟨I,⟨H,rfl⟩|⟨vs,rest,v,H,rfl,bV,bJ⟩⟩
  ·go_wp2_with fail
   exact⟨rfl,Qg.up (Y.trans I) (by rw[bi.out,O.out,H];rfl)⟩
  have bY:=Jb1 (O.out.trans H);obtain⟨a,cap,rfl,bX,cb⟩:=bV.toR;have bN:=Jb7 bM I zo;clear br bO;have bK:=Jgo b hs a cap hs.length vs w4 Z bz zo zo bN bX;have bE:Hid (Ug t 0 n bs=some (Ys hs vs,rest)):=by show _=_;rw[bi.out,O.out,H];rfl
  clear H bY;go_wp2_with fail
  refine bK.mono ?_;rintro e cu ⟨⟨v,rfl,bW⟩,bk⟩;have bU:=(Y.trans I).size;go_wp2_with fail
  go_ret
  obtain⟨bb,rfl,bL,bT⟩:=bW;exact Qg.ok ((Y.trans I).trans (Jt.of_below bk g)) bE.out ⟨bb,rfl,Ob2 bU bL,bT⟩ (bJ.below bk)
end
open Go.RowKit Tryz
def Jk9 (a0 a1:Addr)(c:Int):Value:=if c=0 then .nilIface else if c=2 then .iface 432 (.pointer (some a1))else .iface 432 (.pointer (some a0))
structure Qak (how:Int):Prop where
 pack:∀ (t:Int) (a:Option Addr) (cap:Nat) (xs:List V) (w:World),xs.length<=maxLen->Jv w a xs->∀ (a0 a1 a2:Addr),Jf0 w a0 a1 a2 ->
  Calls prog 65 #[.int .i64 t,.int .i64 how,.slice a xs.length cap] w fun e w'=>e=.returned (.tuple #[.string (Qw (Jev t how xs).1),Jk9 a0 a1 (Jev t how xs).2])/\Below w.heap.size w w'
theorem Kve:Qak 0:=by
 refine⟨fun t a cap xs w hn H a0 a1 a2 I=>?_⟩;by_cases y:way t 0=true/\Jdq t xs
 ·have e:Jev t 0 xs=(Jav t 0 xs,0):=by
   unfold Jev;rw[if_pos (by rw[Og5];exact⟨y.1,(Jfd t xs).2 y.2⟩),if_neg zS]
  rw[e];exact Jtj t a cap xs w hn H y.1 y.2
 have e:Jev t 0 xs=([],1):=by
  unfold Jev;rw[if_neg (by rw[Og5];exact fun h=>y ⟨h.1,(Jfd t xs).1 h.2⟩)]
 rw[e];exact Jzl t 0 a cap xs w hn H _ I.c0 y
structure Kjk (how:Int):Prop where
 p:Qak how
 vals:∀ (g:Nat) (t:Int) (n:Nat) (bs:List UInt8) (a2:Addr) (w:World),RAt w g t bs a2->(t=1\/t=2\/t=3)->(how=0\/how=1\/how=2\/how=3)->n<=64 ->
  Calls prog 215 #[.pointer (some ⟨g,0,none⟩),.int .i64 how,.int .i64 n] w (Qg w g t a2 (Ug t how n bs) fun vs v w'=>Jc9 w w' vs v)
theorem Ki5:Kjk 0:=⟨Kve,fun g t n bs a2 w h ht _ hn=>Jqf g t n bs a2 w h ht hn⟩
def Kje (bs:List UInt8):Prop:=∀ t y n r,Jf2 bs=some ((t,y,n),r)->Kjk (y:Nat)
structure Qh (w:World) (p q r:Nat) (t:Int) (sl ev:Value):Prop where
 c0:w.heap[p]?=some (.cells #[.int .i64 t] 3 (0,0))
 c1:w.heap[q]?=some (.cells #[sl] 60 (0,0))
 c2:w.heap[r]?=some (.cells #[ev] 78 (0,0))
 pq:¬ p=q
 pr:¬ p=r
 qr:¬ q=r
theorem Qh.facts {w p q r t sl ev}(h:Qh w p q r t sl ev):
  w.cell? ⟨p,0,none⟩=some (.int .i64 t)/\w.cell? ⟨q,0,none⟩=some sl/\w.cell? ⟨r,0,none⟩=some ev/\w.frozen? ⟨p,0,none⟩=false/\w.frozen? ⟨q,0,none⟩=false/\w.frozen? ⟨r,0,none⟩=false:=
 ⟨by simp[World.cell?,h.c0],by simp[World.cell?,h.c1],by simp[World.cell?,h.c2],by simp[World.frozen?,h.c0],by simp[World.frozen?,h.c1],by simp[World.frozen?,h.c2]⟩
theorem Qh.of_block {w w' p q r t sl ev}(h:Qh w p q r t sl ev)(y:w'.heap[p]?=w.heap[p]?)(H:w'.heap[q]?=w.heap[q]?)(I:w'.heap[r]?=w.heap[r]?):Qh w' p q r t sl ev:=
 ⟨by rw[y];exact h.c0,by rw[H];exact h.c1,by rw[I];exact h.c2,h.pq,h.pr,h.qr⟩
theorem Qh.lt {w p q r t sl ev}(h:Qh w p q r t sl ev):p<w.heap.size/\q<w.heap.size/\r<w.heap.size:=⟨Jd h.c0,Jd h.c1,Jd h.c2⟩
theorem Jbv {w:World}{p:Nat}{x v:Value}{ty:TypeId}(h:w.heap[p]?=some (.cells #[x] ty (0,0))):(w.setCell ⟨p,0,none⟩ v).heap[p]?=some (.cells #[v] ty (0,0)):=by
 simp[World.setCell,Array.getElem?_modify,h]
theorem Qh.set {w p q r t t' sl ev sl' ev'}(h:Qh w p q r t sl ev):
  Qh (((w.setCell ⟨p,0,none⟩ (.int .i64 t')).setCell ⟨q,0,none⟩ sl').setCell ⟨r,0,none⟩ ev') p q r t' sl' ev':=by
 refine⟨?_,?_,?_,h.pq,h.pr,h.qr⟩
 ·rw[Oa4 _ _ _ _ (show p≠r from h.pr),Oa4 _ _ _ _ (show p≠q from h.pq)];exact Jbv h.c0
 ·rw[Oa4 _ _ _ _ (show q≠r from h.qr)];refine Jbv (x:=sl) ?_;rw[Oa4 _ _ _ _ (show q≠p from Oc5 h.pq)];exact h.c1
 refine Jbv (x:=ev) ?_;rw[Oa4 _ _ _ _ (show r≠q from Oc5 h.qr),Oa4 _ _ _ _ (show r≠p from Oc5 h.pr)];exact h.c2
theorem Qh.s0 {w p q r t t' sl ev}(h:Qh w p q r t sl ev):Qh (w.setCell ⟨p,0,none⟩ (.int .i64 t')) p q r t' sl ev:=
 ⟨Jbv h.c0,by rw[Oa4 _ _ _ _ (show q≠p from Oc5 h.pq)];exact h.c1,by rw[Oa4 _ _ _ _ (show r≠p from Oc5 h.pr)];exact h.c2,h.pq,h.pr,h.qr⟩
theorem Qh.s1 {w p q r t sl sl' ev}(h:Qh w p q r t sl ev):Qh (w.setCell ⟨q,0,none⟩ sl') p q r t sl' ev:=
 ⟨by rw[Oa4 _ _ _ _ (show p≠q from h.pq)];exact h.c0,Jbv h.c1,by rw[Oa4 _ _ _ _ (show r≠q from Oc5 h.qr)];exact h.c2,h.pq,h.pr,h.qr⟩
theorem Qh.s2 {w p q r t sl ev ev'}(h:Qh w p q r t sl ev):Qh (w.setCell ⟨r,0,none⟩ ev') p q r t sl ev':=
 ⟨by rw[Oa4 _ _ _ _ (show p≠r from h.pr)];exact h.c0,by rw[Oa4 _ _ _ _ (show q≠r from h.qr)];exact h.c1,Jbv h.c2,h.pq,h.pr,h.qr⟩
theorem Qh.drew {w p q r t sl ev}(h:Qh w p q r t sl ev):Qh w.drew p q r t sl ev:=⟨h.c0,h.c1,h.c2,h.pq,h.pr,h.qr⟩
theorem Jkv p q r t sl ev(K:∃ a l c,sl=.slice a l c)a2 I u(H:List PanicEntry)w(y:Qh w p q r t sl ev)(hf:w.cell? ⟨5,0,none⟩=some (.iface 432 (.pointer (some a2)))):
  CallsD prog 213 #[.pointer (some ⟨p,0,none⟩),.pointer (some ⟨q,0,none⟩),.pointer (some ⟨r,0,none⟩)] (.panicking ({v:=.iface u I,recovered:=false}::H)) w fun e Y w'=>
   e=.returned (.tuple #[])/\Y=.panicking ({v:=.iface u I,recovered:=true}::H)/\w'=((w.setCell ⟨p,0,none⟩ (.int .i64 0)).setCell ⟨q,0,none⟩ (.slice none 0 0)).setCell ⟨r,0,none⟩ (.iface 432 (.pointer (some a2))):=by
 obtain⟨a,l,c,rfl⟩:=K;obtain⟨M,O,U,Z,z1,z2⟩:=y.facts;have bf:=y.pq;have bh:=y.pr;have bi:=y.qr;refine callsD_of_wpS func213 rfl fun c₀ cs hu=>?_;apply wpS_seq;apply wpS_region;simp[wpOpsS,go_sem,recoverD,hu,ntmps213,Exit.thenS];refine wpS_cond (t:=true) (by simp[Act.eval,Array.replicate]) ?_;simp only[if_true];apply wpS_region;simp[wpOpsS,go_sem,hf,M,O,U,Z,z1,z2,bodyPostS,results,results213]
theorem Jvs p q r w:
  CallsD prog 213 #[.pointer (some p),.pointer (some q),.pointer (some r)] .returning w fun e y w'=>e=.returned (.tuple #[])/\y=.returning/\w'=w:=by
 refine callsD_of_wpS func213 rfl fun c₀ cs hu=>?_;apply wpS_seq;apply wpS_region;simp[wpOpsS,go_sem,recoverD,hu,ntmps213,Exit.thenS];refine wpS_cond (t:=false) (by simp[Act.eval,Array.replicate]) ?_;simp only[Bool.false_eq_true,if_false];refine wpS_of_wp (wp_skip ?_);cases c₀
 simp_all [bodyPostS,results,results213]
def Jbf (bs:List UInt8):Option (Nat×Nat×List V):=
 match Jf2 bs with
 |none=>none
 |some ((t,y,n),r)=>match Ug t y n r with
  |none=>none
  |some (vs,_)=>if Jev t y vs=(bs,0)then some (t,y,vs)else none
theorem Jum {bs r t H n}(h:Jf2 bs=some ((t,H,n),r)):way t H=true/\n<=64:=by
 match bs,h with
 |b0::b1::b2::rest,h=>
  simp only[Jf2]at h;by_cases y:way (b0.toNat:Int) (b1.toNat:Int)=true/\b2.toNat<=64
  ·rw[if_pos y]at h;simp at h;obtain⟨⟨rfl,rfl,rfl⟩,_⟩:=h;exact y
  rw[if_neg y]at h;simp at h
theorem Kfn t y(h:way t y=true):t=1\/t=2\/t=3:=by
 unfold way at h;simp at h;omega
def Kd5 (w:World)(bs:List UInt8):World:=(((w.alloc (.cells #[.int .i64 0] 3)).alloc (.cells #[.slice none 0 0] 60)).alloc (.cells #[.nilIface] 78)).alloc (.cells #[.int .i64 0,.string (Qw bs)] 370)
theorem Jn0 {t y n bs rest vs}(h:Ug t y n bs=some (vs,rest)):vs.length=n:=by
 unfold Ug at h;split at h
 ·simp at h
 rename_i hs r hf
 obtain⟨x,_,e⟩:=Oe9.1 h;simp only[Oj3]at e;rw[<-e.1,Jez];exact Kt hf
theorem Joh {w b vs y}(h:Kv w b vs y):Kv w.drew b vs y:=h
theorem Jgy {P}{c:Code}{Q a w}(h:c.wp P (Exit.then (Q .normal) (fun _ _ _=>False)) a w):c.wp P Q a w:=
 Code.wp_mono (fun e a w h=>by cases e<;>first|exact h|exact False.elim h) h
theorem Jhw (w:World)(o:Obj):(w.alloc o).heap.size=w.heap.size+1:=zS
theorem Khm (w:World)(y H I K:Obj) :
  ((((w.alloc y).alloc H).alloc I).alloc K).heap[w.heap.size]?=some y/\((((w.alloc y).alloc H).alloc I).alloc K).heap[w.heap.size+1]?=some H /\
  ((((w.alloc y).alloc H).alloc I).alloc K).heap[w.heap.size+1+1]?=some I/\((((w.alloc y).alloc H).alloc I).alloc K).heap[w.heap.size+1+1+1]?=some K:=by
 have s1:=Jhw w y;have s2:=Jhw (w.alloc y) H;have s3:=Jhw ((w.alloc y).alloc H) I;have U:=(Oh1 w y).1;have M:=(Oh1 (w.alloc y) H).1;have O:=(Oh1 ((w.alloc y).alloc H) I).1;have n3:=(Oh1 (((w.alloc y).alloc H).alloc I) K).1;rw[s1]at M s2;rw[s2]at O s3;rw[s3]at n3;refine⟨?_,?_,?_,n3⟩
 ·rw[Oa9 _ _ _ zo,Oa9 _ _ _ zo,Oa9 _ _ _ zo];exact U
 ·rw[Oa9 _ _ _ zo,Oa9 _ _ _ zo];exact M
 rw[Oa9 _ _ _ zo];exact O
theorem zaW {p:Prop}(h:p:=by simp[Leaves,settle,results,results162,go_sem,O,U,Y,I,K,M];exact hQ):p:=h
theorem Jmv {Q:Ending->World->Prop}{p q r}y w1 a2(H:Qh w1 p q r 0 (.slice none 0 0) .nilIface)(hf:w1.cell? ⟨5,0,none⟩=some (.iface 432 (.pointer (some a2))))(O:y[2]?.getD undef=.pointer (some ⟨p,0,none⟩))(U:y[3]?.getD undef=.pointer (some ⟨q,0,none⟩))(Y:y[4]?.getD undef=.pointer (some ⟨r,0,none⟩))(hQ:Q (.returned (.tuple #[.int .i64 0,.slice none 0 0,.iface 432 (.pointer (some a2))])) (((w1.setCell ⟨p,0,none⟩ (.int .i64 0)).setCell ⟨q,0,none⟩ (.slice none 0 0)).setCell ⟨r,0,none⟩ (.iface 432 (.pointer (some a2))))):
  bodyPostD prog Tryz.f162 Q (Exit.panic [{v:=.iface 432 (.pointer (some a2)),recovered:=false}])
   {tmps:=y,defers:=[{target:=Target.fn (Fn.func 213) #[.pointer (some ⟨p,0,none⟩),.pointer (some ⟨q,0,none⟩),.pointer (some ⟨r,0,none⟩)],args:=#[]}]} w1:=by
 refine leaves_cons (f:=213) (args:=#[.pointer (some ⟨p,0,none⟩),.pointer (some ⟨q,0,none⟩),.pointer (some ⟨r,0,none⟩)]) zS (by simp[go_sem]) ?_;refine(Jkv p q r 0 _ _ ⟨_,_,_,rfl⟩ a2 _ _ [] w1 H hf).mono ?_;rintro e Z bf ⟨rfl,rfl,rfl⟩;obtain⟨I,K,M,bh,z1,z2⟩:=(H.set (t':=0) (sl':=.slice none 0 0) (ev':=.iface 432 (.pointer (some a2)))).facts;generalize ((w1.setCell ⟨p,0,none⟩ (.int .i64 0)).setCell ⟨q,0,none⟩ (.slice none 0 0)).setCell ⟨r,0,none⟩ (.iface 432 (.pointer (some a2)))=W at *;exact zaW
theorem Jl4 {Q:Ending->World->Prop}{p q r t sl ev}y w1(H:Qh w1 p q r t sl ev)(O:y[2]?.getD undef=.pointer (some ⟨p,0,none⟩))(U:y[3]?.getD undef=.pointer (some ⟨q,0,none⟩))(Y:y[4]?.getD undef=.pointer (some ⟨r,0,none⟩))(hQ:Q (.returned (.tuple #[.int .i64 t,sl,ev])) w1):
  bodyPostD prog Tryz.f162 Q Exit.ret
   {tmps:=y,defers:=[{target:=Target.fn (Fn.func 213) #[.pointer (some ⟨p,0,none⟩),.pointer (some ⟨q,0,none⟩),.pointer (some ⟨r,0,none⟩)],args:=#[]}]} w1:=by
 refine leaves_cons (f:=213) (args:=#[.pointer (some ⟨p,0,none⟩),.pointer (some ⟨q,0,none⟩),.pointer (some ⟨r,0,none⟩)]) zS (by simp[go_sem]) ?_;refine(Jvs _ _ _ w1).mono ?_;rintro e Z bf ⟨rfl,rfl,rfl⟩;obtain⟨I,K,M,bh,z1,z2⟩:=H.facts;exact zaW
theorem zad {p:Prop}(h:p:=by
 refine Jgy ?_;go_region
 all_goals
  go_wp2_with fail
  refine Jl4 _ _ (t:=0) (sl:=.slice none 0 0) (ev:=.iface 432 (.pointer (some a2))) (by repeat (first|exact I|exact I.drew|apply Qh.s0|apply Qh.s1|apply Qh.s2|apply Qh.drew)) rfl rfl rfl ⟨?_,.inl ⟨bN.out,rfl⟩⟩;repeat (first|exact K|exact K.drew|refine Below.setCell ?_ zM _|refine Below.drew ?_)):p:=h
theorem zah {p:Prop}(h:p:=by exact((bi.setCell (p:=⟨w.heap.size,0,none⟩) (Oa2 _) _).setCell (p:=⟨w.heap.size+1,0,none⟩) (by show w.heap.size<=w.heap.size+1;omega) _).setCell (p:=⟨w.heap.size+1+1,0,none⟩) (by show w.heap.size<=w.heap.size+1+1;omega) _):p:=h
theorem Ki3 bs(hW:Kje bs)w(hl:bs.length<=maxLen)a0 a1 a2(br:Jf0 w a0 a1 a2):
  Calls prog 162 #[.string (Qw bs)] w fun e w'=>Below w.heap.size w w'/\((Jbf bs=none/\e=.returned (.tuple #[.int .i64 0,.slice none 0 0,.iface 432 (.pointer (some a2))])) \/
   ∃ t O vs b,Jbf bs=some (t,O,vs)/\e=.returned (.tuple #[.int .i64 (t:Nat),.slice (some ⟨b,0,none⟩) vs.length vs.length,.nilIface])/\w.heap.size<=b/\Kv w' b vs []):=by
 have cZ:∀ (fn:Fn) (first cap:Array Value) (w:World),(Instr.makeFunc fn first cap).run prog w=.ok (.func fn first cap) w:=fun _ _ _ _=>rfl;have cH:=Jm br.c2;simp only at cH;obtain⟨w0,bz⟩:∃ w0,w0=Kd5 w bs:=⟨_,rfl⟩;have bD:Below w.heap.size w w0:=by
  rw[bz];exact((((Oa5 _ _).alloc (Oa2 _) _).alloc zS _).alloc zt _).alloc zt _
 have cP:w0.heap.size=w.heap.size+1+1+1+1:=by rw[bz];simp[Kd5]
 obtain⟨cA,cB,cC,cD⟩:=Khm w (.cells #[.int .i64 0] 3) (.cells #[.slice none 0 0] 60) (.cells #[.nilIface] 78) (.cells #[.int .i64 0,.string (Qw bs)] 370);have bL:Qh w0 w.heap.size (w.heap.size+1) (w.heap.size+1+1) 0 (.slice none 0 0) .nilIface:=by
  rw[bz];exact⟨cA,cB,cC,zo,zo,zo⟩
 have cc:RAt w0 (w.heap.size+1+1+1) 0 bs a2:=by
  refine⟨zo,?_,(br.below bD).c2,hl⟩;rw[bz];exact cD
 clear cA cB cC cD;have bQ:=Kbu _ _ bs a2 w0 cc;go_enter_defers func162,ntmps162
 go_wp2_with fail
 rw[bz]at bQ;refine bQ.mono ?_;rw[<-bz];clear bQ;rintro e w1 ⟨bj,⟨bx,rfl⟩|⟨t,O,n,r,bx,rfl,ca⟩⟩
 ·go_wp2_with fail
  have bO:Qh w1 w.heap.size (w.heap.size+1) (w.heap.size+1+1) 0 (.slice none 0 0) .nilIface:=bL.of_block (bj.block _ zo zo) (bj.block _ zo zo) (bj.block _ zo zo);have bi:=bD.trans (bj.below (B:=w.heap.size) zo zo);refine Jmv _ w1 a2 bO (br.below bi).c2 rfl rfl rfl ⟨?_,.inl ⟨?_,rfl⟩⟩
  ·exact zah
  unfold Jbf;rw[bx]
 obtain⟨cz,cM⟩:=Jum bx;have cf:=hW _ _ _ _ bx;have cy:=cf.vals _ _ n r a2 w1 ca (Kfn _ _ cz) (Jo7 _ _ cz) cM;go_wp2_with fail
 refine cy.mono ?_;clear cy;rintro e Y ⟨bR,⟨bE,rfl⟩|⟨vs,rest,v,bE,rfl,⟨b,rfl,hb,cv⟩,cb⟩⟩
 ·go_wp2_with fail
  have M:=bj.trans bR;have bO:Qh Y w.heap.size (w.heap.size+1) (w.heap.size+1+1) 0 (.slice none 0 0) .nilIface:=bL.of_block (M.block _ zo zo) (M.block _ zo zo) (M.block _ zo zo);have bi:=bD.trans (M.below (B:=w.heap.size) zo zo);refine Jmv _ Y a2 bO (br.below bi).c2 rfl rfl rfl ⟨?_,.inl ⟨?_,rfl⟩⟩
  ·exact zah
  unfold Jbf;rw[bx];simp only[bE]
 have M:=bj.trans bR;have Z:Qh Y w.heap.size (w.heap.size+1) (w.heap.size+1+1) 0 (.slice none 0 0) .nilIface:=bL.of_block (M.block _ zo zo) (M.block _ zo zo) (M.block _ zo zo);have bi:=bD.trans (M.below (B:=w.heap.size) zo zo);obtain⟨bG,bH,bI,bK,z1,z2⟩:=Z.facts;have c0:=cb.typ;have cO:=bj.size;have cI:w.heap.size+1+1+1<b:=zo;have cL:vs.length<=maxLen:=by
  rw[Jn0 bE];unfold maxLen;omega
 have bA:Hid (Jbf bs=if Jev t O vs=(bs,0)then some (t,O,vs)else none):=by
  show _=_;unfold Jbf;rw[bx];simp only[bE]
 clear bj bR M bx bE ca cc bL cO bz cP bD hb;go_wp2_with fail
 obtain⟨p,hp⟩:∃ p,p=w.heap.size:=⟨_,rfl⟩;obtain⟨q,hq⟩:∃ q,q=w.heap.size+1:=⟨_,rfl⟩;obtain⟨H,bW⟩:∃ H,H=w.heap.size+1+1:=⟨_,rfl⟩;obtain⟨g,bP⟩:∃ g,g=w.heap.size+1+1+1:=⟨_,rfl⟩;have bf:Qh (Y.setCell ⟨q,0,none⟩ (.slice (some ⟨b,0,none⟩) vs.length vs.length)) p q H 0 (.slice (some ⟨b,0,none⟩) vs.length vs.length) .nilIface:=by
  rw[hp,hq,bW];refine⟨?_,Jbv Z.c1,?_,Z.pq,Z.pr,Z.qr⟩
  ·rw[Oa4 _ _ _ _ (show w.heap.size≠w.heap.size+1 by omega)];exact Z.c0
  rw[Oa4 _ _ _ _ (show w.heap.size+1+1≠w.heap.size+1 by omega)];exact Z.c2
 have bk:Below w.heap.size w (Y.setCell ⟨q,0,none⟩ (.slice (some ⟨b,0,none⟩) vs.length vs.length)):=bi.setCell (p:=⟨q,0,none⟩) (by show w.heap.size<=q;omega) _;have bV:Kv (Y.setCell ⟨q,0,none⟩ (.slice (some ⟨b,0,none⟩) vs.length vs.length)) b vs []:=cv.of_block (Oa4 _ _ _ _ (show b≠q by omega));have cj:(Y.setCell ⟨q,0,none⟩ (.slice (some ⟨b,0,none⟩) vs.length vs.length)).cell? ⟨g,0,none⟩=some (.int .i64 (t:Int)):=by
  rw[Oc3 (w:=Y) (Oa4 _ _ _ _ (show g≠q by omega)),bP];exact c0
 have de:w.heap.size<=p:=zo;have df:w.heap.size<=q:=zo;have bX:w.heap.size<=H:=zo;have cR:¬ g=p/\¬ g=q/\¬ g=H/\¬ b=p/\¬ b=q/\¬ b=H:=zo;have cQ:w.heap.size<=b:=zo;rw[<-bP,<-bW,<-hq,<-hp];generalize Y.setCell ⟨q,0,none⟩ (.slice (some ⟨b,0,none⟩) vs.length vs.length)=bM at *;clear hp hq bW bP bG bH bI bK z1 z2 c0 Z bi cv cb cI;obtain⟨bG,bH,bI,bK,z1,z2⟩:=bf.facts;have cu:=Jm cj;simp only at cu;obtain⟨bS,bT,bU⟩:=bf.lt;have U:Calls prog 65 #[.int .i64 (t:Int),.int .i64 (O:Int),.slice (some ⟨b,0,none⟩) vs.length vs.length] bM.drew fun e w'=>e=.returned (.tuple #[.string (Qw (Jev t O vs).1),Jk9 a0 a1 (Jev t O vs).2])/\Below bM.heap.size bM w':=
  (cf.p.pack t _ _ vs _ cL (bV.vals.below ((Oa5 _ _).drew)) a0 a1 a2 (br.below bk.drew)).mono fun e w' h=>⟨h.1,Jw h.2⟩
 generalize Jev t O vs=cS at *;obtain⟨bY,bZ⟩:=cS;simp only at U;have db:=bf.pq;have dc:=bf.pr;have dd:=bf.qr;by_cases h0:bZ=0
 ·subst h0;have cn:Jk9 a0 a1 0=.nilIface:=rfl;rw[cn]at U;clear cn;by_cases bB:bY=bs
  ·have cW:((Qw bY).toList==(Qw bs).toList)=true:=by rw[bB];simp
   have cF:Hid (Jbf bs=some (t,O,vs)):=by
    show _=_;rw[bA.out,bB,if_pos rfl]
   clear bA bB;obtain⟨cX,cY,cK,cT,cU,cJ⟩:=cR;have cN:=bV.lt;refine Jgy ?_;go_region_with (first|(go_at_call 65;refine U.mono ?_;rintro e w4 ⟨rfl,y⟩;obtain⟨kk,bJ⟩:=Kx y))
   all_goals
    have bh:Qh w4 p q H 0 (.slice (some ⟨b,0,none⟩) vs.length vs.length) .nilIface:=bf.of_block (y.block _ bS) (y.block _ bT) (y.block _ bU);have I:=bh.s2 (ev':=.nilIface);have K:Below w.heap.size w (w4.setCell ⟨H,0,none⟩ .nilIface):=(bk.trans (y.mono bk.size)).setCell (p:=⟨H,0,none⟩) bX _;have cx:Kv (w4.setCell ⟨H,0,none⟩ .nilIface) b vs []:=(bV.of_block (y.block _ cN)).of_block (Oa4 _ _ _ _ cJ);have cV:(w4.setCell ⟨H,0,none⟩ .nilIface).cell? ⟨g,0,none⟩=some (.int .i64 (t:Int)):=by
     rw[Oc3 (w:=w4) (Oa4 _ _ _ _ cK),Oc3 (w:=bM) (y.block _ cu)];exact cj
    clear kk bJ U y bh;obtain⟨bG,bH,bI,bK,z1,z2⟩:=I.facts;go_wp2_with fail
    generalize w4.setCell ⟨H,0,none⟩ .nilIface=cE at *;refine Jgy ?_;go_region
    all_goals
     go_wp2_with fail
     refine Jl4 _ _ (t:=(t:Int)) (sl:=.slice (some ⟨b,0,none⟩) vs.length vs.length) (ev:=.nilIface) (by repeat (first|exact I|exact I.drew|apply Qh.s0|apply Qh.s1|apply Qh.s2|apply Qh.drew)) rfl rfl rfl ⟨?_,.inr ⟨t,O,vs,b,cF.out,rfl,cQ,?_⟩⟩
     ·repeat (first|exact K|exact K.drew|refine Below.setCell ?_ zM _|refine Below.drew ?_)
     repeat (first|exact cx|exact Joh cx|refine Kv.of_block ?_ (Oa4 _ _ _ _ zM)|refine Joh ?_)
  have da:((Qw bY).toList==(Qw bs).toList)=false:=by
   rw[beq_eq_false_iff_ne,Og4,Og4];simpa [Qw] using bB
  have bN:Hid (Jbf bs=none):=by
   show _=_;rw[bA.out,if_neg (by simp[bB])]
  clear bA bB;refine Jgy ?_;go_region_with (first|(go_at_call 65;refine U.mono ?_;rintro e w4 ⟨rfl,y⟩;obtain⟨kk,bJ⟩:=Kx y))
  all_goals
   have bh:Qh w4 p q H 0 (.slice (some ⟨b,0,none⟩) vs.length vs.length) .nilIface:=bf.of_block (y.block _ bS) (y.block _ bT) (y.block _ bU);have I:=bh.s2 (ev':=.nilIface);have K:Below w.heap.size w (w4.setCell ⟨H,0,none⟩ .nilIface):=(bk.trans (y.mono bk.size)).setCell (p:=⟨H,0,none⟩) bX _;clear kk bJ U y bh;obtain⟨bG,bH,bI,bK,z1,z2⟩:=I.facts;have cG:=(br.below K).c2;go_wp2_with fail
   generalize w4.setCell ⟨H,0,none⟩ .nilIface=cE at *;exact zad
 obtain⟨bC,ci⟩:∃ bC,Jk9 a0 a1 bZ=.iface 432 (.pointer (some bC)):=by
  unfold Jk9;rw[if_neg h0];split
  ·exact⟨_,rfl⟩
  ·exact⟨_,rfl⟩
 rw[ci]at U;clear ci;have bN:Hid (Jbf bs=none):=by
  show _=_;rw[bA.out,if_neg (by simp[h0])]
 clear bA h0;refine Jgy ?_;go_region_with (first|(go_at_call 65;refine U.mono ?_;rintro e w4 ⟨rfl,y⟩;obtain⟨kk,bJ⟩:=Kx y))
 all_goals
  have bh:Qh w4 p q H 0 (.slice (some ⟨b,0,none⟩) vs.length vs.length) .nilIface:=bf.of_block (y.block _ bS) (y.block _ bT) (y.block _ bU);have I:=bh.s2 (ev':=(.iface 432 (.pointer (some bC))));have K:Below w.heap.size w (w4.setCell ⟨H,0,none⟩ (.iface 432 (.pointer (some bC)))):=(bk.trans (y.mono bk.size)).setCell (p:=⟨H,0,none⟩) bX _;clear kk bJ U y bh;obtain⟨bG,bH,bI,bK,z1,z2⟩:=I.facts;have cG:=(br.below K).c2;go_wp2_with fail
  generalize w4.setCell ⟨H,0,none⟩ (.iface 432 (.pointer (some bC)))=cE at *;exact zad
