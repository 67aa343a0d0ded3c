/- A Join whole. -/
import Derived.Test.YtpchafocmlhmbaaGreatDoorJq
set_option maxHeartbeats 8000000
set_option maxRecDepth 100000
namespace Go.Proofs.YtpchafocmlhmbaaGreatDoor
open Go.RowKit Go.Shelf Go.Maps Tryz
attribute [local go_sem] Oc0
theorem Ksp.sub {w:World}{mb y n:Nat}{M M':Nat→Prop}{bv:Int→Value}{bk:Int→List Nat}(h:Ksp w mb y n M bv bk)(D:∀ k,M k→M' k):Ksp w mb y n M' bv bk:=⟨h.map,h.own,⟨D _ h.inM.1,fun x g E e=>D _ (h.inM.2 x g E e)⟩,h.apart,h.low⟩
structure JnI (w:World) (lv rv kv:Value) (z:Nat) (bu:Int) (s:Nat) (sd:Int) (fb bb mb jb pb:Nat) (X:World):Prop where
 fl:Ksj X fb bb s (List.replicate ((s+63) / 64) 0)
 bk:Ksp X mb (mb+1) 0 (fun k=>k=mb) (fun _=>.slice none 0 0) (fun _=>[])
 jn:X.heap[jb]?=some (.cells (jnC lv rv kv (z:Nat) bu (s:Nat) sd (.pointer (some ⟨fb,0,none⟩)) (.map (some mb)) (.slice none 0 0) (.slice none 0 0)).toArray 275 (0,0))
 pj:X.heap[pb]?=some (.cells #[.pointer (some ⟨jb,0,none⟩)] 270 (0,0))
 mp:X.heap[mb]?=some (.map #[] 0)
 low:Below w.heap.size w X
 new:w.heap.size≤fb∧w.heap.size≤bb∧w.heap.size≤mb∧w.heap.size≤jb∧w.heap.size≤pb
theorem Kx2 {w W:World}{lv rv kv:Value}{z:Nat}{bu:Int}{s:Nat}{sd:Int}{fb bb mb jb pb:Nat}(H:Ksj W fb bb s (List.replicate ((s+63) / 64) 0))(U:W.heap[mb]?=some (.map #[] 0))(O:W.heap[jb]?=some (.cells (jnC lv rv kv (z:Nat) bu (s:Nat) sd (.pointer (some ⟨fb,0,none⟩)) (.map (some mb)) (.slice none 0 0) (.slice none 0 0)).toArray 275 (0,0)))(X:W.heap[pb]?=some (.cells #[.pointer none] 270 (0,0)))(bh:Below w.heap.size w W)(hn:w.heap.size≤fb∧w.heap.size≤bb∧w.heap.size≤mb∧w.heap.size≤jb∧w.heap.size≤pb) :
  JnI w lv rv kv z bu s sd fb bb mb jb pb (W.setCell ⟨pb,0,none⟩ (.pointer (some ⟨jb,0,none⟩))):=by
 have bj:=H.cells;have bi:=H.bits;have D:∀ {k:Nat} {o:Obj},W.heap[k]?=some o→o≠.cells #[.pointer none] 270 (0,0)→k≠pb:=fun K E e=>E (by rw[e,X]at K;exact(Oj6 K).symm);have Z:=D bj (fun e=>by injection e with _ e;exact absurd e (by decide));have ba:=D bi (fun e=>by injection e with _ e;exact absurd e (by decide));have bc:=D U (fun e=>by cases e);have bf:=D O (fun e=>by injection e with _ e;exact absurd e (by decide));have far:∀ k,k≠pb→(W.setCell ⟨pb,0,none⟩ (.pointer (some ⟨jb,0,none⟩))).heap[k]?=W.heap[k]?:=fun k bn=>Oa4 _ _ _ _ bn;have R:=(far mb bc).trans U;refine⟨H.keep (far fb Z) (far bb ba),?_,(far jb bf).trans O,?_,R,bh.setCell (p:=⟨pb,0,none⟩) hn.2.2.2.2 _,hn⟩
 ·obtain⟨Y,⟨es,br,y,r⟩,E⟩:=(Ksp.made W (fun k=>k=W.heap.size) rfl).map;rw[heap_alloc_new W]at y;injection y with y;injection y with hb1 hb2;subst hb1 hb2;exact⟨⟨Y,⟨_,_,R,r⟩,E⟩,fun _ _=>Jo.nil _ _ _,⟨rfl,fun _ _ _ h=>by simp[Value.ownBlock]at h⟩,fun _ _ _ _ _=>.inl rfl,On2 _⟩
 have:=Jk X 0 (.pointer (some ⟨jb,0,none⟩));simpa using this
structure JxX where
 x19:Value
 x20:Value
 x21:Value
 x22:Value
 x23:Value
 x24:Value
 x25:Value
 x26:Value
 x27:Value
 x28:Value
 x12:Value
 fb:Nat
 bb:Nat
 mb:Nat
 jb:Nat
 pb:Nat
def Ks0 (a:Act)(r:JxX):Act:=((((((((((a.put (some 19) r.x19).put (some 20) r.x20).put (some 21) r.x21).put (some 22) r.x22).put (some 23) r.x23).put (some 24) r.x24).put (some 25) r.x25).put (some 26) r.x26).put (some 27) r.x27).put (some 28) r.x28).put (some 12) r.x12
structure JxE where
 lv:Value
 rv:Value
 kv:Value
 ob:Nat
 z:Nat
 bu:Int
 s:Nat
 sd:Int
def JxF (v:JxE)(y:World)(l:Array Bool)(r:JxX)(w:World):Nat→Prop
 |0=>r.x19=v.lv
 |1=>r.x20=v.rv
 |2=>r.x21=v.kv
 |3=>r.x22=.agg #[.int .i64 (v.z:Nat),.int .i64 v.bu,.int .i64 (v.s:Nat),.int .i64 v.sd]
 |4=>r.x23=.pointer (some ⟨v.ob,2,none⟩)
 |5=>r.x24=.int .i64 (v.s:Nat)
 |6=>r.x25=.pointer (some ⟨r.fb,0,none⟩)∧(y.heap.size≤r.fb∧y.heap.size≤r.bb)∧(¬ dn l 11→Ksj w r.fb r.bb v.s (List.replicate ((v.s+63) / 64) 0))
 |7=>r.x26=.map (some r.mb)∧y.heap.size≤r.mb∧(¬ dn l 11→w.heap[r.mb]?=some (.map #[] 0))
 |8=>(dn l 6∧dn l 7)∧r.x27=.agg (jnC v.lv v.rv v.kv (v.z:Nat) v.bu (v.s:Nat) v.sd (.pointer (some ⟨r.fb,0,none⟩)) (.map (some r.mb)) (.slice none 0 0) (.slice none 0 0)).toArray
 |9=>(dn l 6∧dn l 7)∧r.x28=.pointer (some ⟨r.jb,0,none⟩)∧y.heap.size≤r.jb∧(¬ dn l 11→w.heap[r.jb]?=some (.cells (jnC v.lv v.rv v.kv (v.z:Nat) v.bu (v.s:Nat) v.sd (.pointer (some ⟨r.fb,0,none⟩)) (.map (some r.mb)) (.slice none 0 0) (.slice none 0 0)).toArray 275 (0,0)))
 |10=>r.x12=.pointer (some ⟨r.pb,0,none⟩)∧y.heap.size≤r.pb∧(¬ dn l 11→w.heap[r.pb]?=some (.cells #[.pointer none] 270 (0,0)))
 |11=>(dn l 6∧dn l 7∧dn l 9∧dn l 10)∧JnI y v.lv v.rv v.kv v.z v.bu v.s v.sd r.fb r.bb r.mb r.jb r.pb w
 |_=>True
structure JxI (v:JxE) (w0:World) (l:Array Bool) (r:JxX) (w:World):Prop where
 low:Below w0.heap.size w0 w
 facts:∀ k,dn l k→JxF v w0 l r w k
theorem JnI.grow {w D E:World}{lv rv kv:Value}{z:Nat}{bu:Int}{s:Nat}{sd:Int}{fb bb mb jb pb:Nat}(h:JnI w lv rv kv z bu s sd fb bb mb jb pb D)(y:Below D.heap.size D E):JnI w lv rv kv z bu s sd fb bb mb jb pb E:=
 ⟨h.fl.keep (y.block _ (Jd h.fl.cells)) (y.block _ (Jd h.fl.bits)),h.bk.blocks (fun k e=>by have e:k=mb:=e;subst e;exact y.block _ (Jd h.mp)),Jcv h.jn y,Jcv h.pj y,Jcv h.mp y,Jb h.low y,h.new⟩
theorem JxF.grow {v:JxE}{K:World}{l:Array Bool}{r:JxX}{w:World}{w':World}(H:Below w.heap.size w w'):∀ k,JxF v K l r w k→JxF v K l r w' k
 |0,h=>h
 |1,h=>h
 |2,h=>h
 |3,h=>h
 |4,h=>h
 |5,h=>h
 |6,⟨y,D,E⟩=>⟨y,D,fun hn=>(E hn).keep (H.block _ (Jd (E hn).cells)) (H.block _ (Jd (E hn).bits))⟩
 |7,⟨y,D,E⟩=>⟨y,D,fun hn=>Jcv (E hn) H⟩
 |8,h=>h
 |9,⟨h0,y,D,E⟩=>⟨h0,y,D,fun hn=>Jcv (E hn) H⟩
 |10,⟨y,D,E⟩=>⟨y,D,fun hn=>Jcv (E hn) H⟩
 |11,⟨y,D⟩=>⟨y,D.grow H⟩
 |_+12,h=>h
theorem JxI.grow {v:JxE}{D:World}{l:Array Bool}{r:JxX}{w:World}{w':World}(h:JxI v D l r w)(y:Below w.heap.size w w'):JxI v D l r w':=⟨Jb h.low y,fun k E=>JxF.grow y k (h.facts k E)⟩
theorem JxF.mark {v:JxE}{R:World}{l O:Array Bool}{r:JxX}{w:World}(y:∀ k,dn l k→dn O k):∀ k,JxF v R l r w k→JxF v R O r w k
 |0,h=>h
 |1,h=>h
 |2,h=>h
 |3,h=>h
 |4,h=>h
 |5,h=>h
 |6,⟨D,E,H⟩=>⟨D,E,fun hn=>H fun K=>hn (y _ K)⟩
 |7,⟨D,E,H⟩=>⟨D,E,fun hn=>H fun K=>hn (y _ K)⟩
 |8,⟨⟨a,b⟩,D⟩=>⟨⟨y _ a,y _ b⟩,D⟩
 |9,⟨⟨a,b⟩,D,E,H⟩=>⟨⟨y _ a,y _ b⟩,D,E,fun hn=>H fun K=>hn (y _ K)⟩
 |10,⟨D,E,H⟩=>⟨D,E,fun hn=>H fun K=>hn (y _ K)⟩
 |11,⟨⟨a,b,c,d⟩,D⟩=>⟨⟨y _ a,y _ b,y _ c,y _ d⟩,D⟩
 |_+12,h=>h
theorem JxI.op {v:JxE}{y:World}{l:Array Bool}{r:JxX}{w:World}(h:JxI v y l r w)(i:Nat)(D:JxX)(hs:∀ k,k≠i→JxF v y l r w k→JxF v y l D w k)(hf:JxF v y (l.setIfInBounds i true) D w i):JxI v y (l.setIfInBounds i true) D w:=by
 refine⟨h.low,fun k H=>?_⟩;by_cases e:k=i
 ·subst e;exact hf
 exact JxF.mark (fun _ E=>Kq E) k (hs k e (h.facts k (Ki H e)))
theorem JxI.opS {v:JxE}{H:World}{l:Array Bool}{r:JxX}{w:World}{w':World}(h:JxI v H l r w)(hn:l.getD 11 true=false)(hf:JxF v H (l.setIfInBounds 11 true) r w' 11):JxI v H (l.setIfInBounds 11 true) r w':=by
 refine⟨hf.2.low,fun k O=>?_⟩;by_cases e:k=11
 ·subst e;exact hf
 have y:=h.facts k (Ki O e);have out:∀ {q:Prop},¬ dn (l.setIfInBounds 11 true) 11→q:=fun K=>absurd (Kf5 hn) K;match k,e,y with
 |0,_,y=>exact y
 |1,_,y=>exact y
 |2,_,y=>exact y
 |3,_,y=>exact y
 |4,_,y=>exact y
 |5,_,y=>exact y
 |6,_,⟨D,E,_⟩=>exact⟨D,E,out⟩
 |7,_,⟨D,E,_⟩=>exact⟨D,E,out⟩
 |8,_,⟨⟨a,b⟩,D⟩=>exact⟨⟨Kq a,Kq b⟩,D⟩
 |9,_,⟨⟨a,b⟩,D,E,_⟩=>exact⟨⟨Kq a,Kq b⟩,D,E,out⟩
 |10,_,⟨D,E,_⟩=>exact⟨D,E,out⟩
 |11,e,_=>exact absurd rfl e
 |k+12,_,_=>exact trivial
theorem Kw0 (k:Nat)(args:Array Value)(W:World):(callFunc (tkF k) args).run prog W=.ok (.enter (tkF k) args) W:=by
 unfold tkF;split<;>kernel_rfl
theorem Kxo (jb k:Nat)(y:k<4)(w:World):(Instr.index 279 (Kt5 jb) (.int .i64 (k:Nat))).run prog w=.ok (.func (.func (tkF k)) #[.pointer (some ⟨jb,0,none⟩)] #[]) w:=by
 rcases(show k=0∨k=1∨k=2∨k=3 by omega)with rfl|rfl|rfl|rfl<;>kernel_rfl
theorem Kw6 {w D:World}{lv rv kv:Value}{z:Nat}{bu:Int}{s:Nat}{sd:Int}{fb bb mb jb pb:Nat}(h:JnI w lv rv kv z bu s sd fb bb mb jb pb D):Ktb D fb bb mb s (fun k=>k=bb∨k=mb) []∧(∀ k,k=bb∨k=mb→k<D.heap.size)∧fb≠bb∧fb≠mb∧bb≠mb∧jb≠bb∧jb≠mb∧jb≠fb∧pb≠bb∧pb≠mb∧pb≠jb∧pb≠fb:=by
 have H:=h.fl.cells;have E:=h.fl.bits;have y:∀ {k l:Nat} {o X:Obj},D.heap[k]?=some o→D.heap[l]?=some X→o≠X→k≠l:=fun U bj bn e=>bn (by rw[e,bj]at U;exact(Oj6 U).symm);have O:fb≠bb:=y H E (fun e=>by injection e with _ e;exact absurd e (by decide));have K:fb≠mb:=y H h.mp (fun e=>by cases e);have R:bb≠mb:=y E h.mp (fun e=>by cases e);have Z:jb≠bb:=y h.jn E (fun e=>by injection e with _ e;exact absurd e (by decide));have ba:jb≠mb:=y h.jn h.mp (fun e=>by cases e);have bc:jb≠fb:=y h.jn H (fun e=>by injection e with _ e;exact absurd e (by decide));have bf:pb≠bb:=y h.pj E (fun e=>by injection e with _ e;exact absurd e (by decide));have bh:pb≠mb:=y h.pj h.mp (fun e=>by cases e);have bi:pb≠jb:=y h.pj h.jn (fun e=>by injection e with _ e;exact absurd e (by decide));have Y:pb≠fb:=y h.pj H (fun e=>by injection e with _ e;exact absurd e (by decide));have bz:=Jd E;have br:=(Oe2.1 h.mp).1;refine⟨⟨⟨_,h.fl,fun x bx=>by cases bx⟩,⟨0,_,h.bk.sub fun k e=>.inr e,Oa2 _⟩,⟨.inl rfl,fun e=>e.elim O K,R,K⟩,br⟩,fun k e=>e.elim (fun e=>by omega) fun e=>by omega,O,K,R,Z,ba,bc,bf,bh,bi,Y⟩
theorem Ktt {w:World}{B:Nat}{sv:Value}{xs:List Int}(h:Jo w B 3 sv (xs.map Ksh)):∃ a cap,sv=.slice a xs.length cap∧Kc w a xs∧∀ b o,a=some ⟨b,o,none⟩→B≤b∧b<w.heap.size:=by
 obtain⟨a,cap,y,D⟩:=h.cells;rw[Oa6]at y;exact⟨a,cap,y,D,fun b o e=>Je h (by rw[y,e];rfl)⟩
def Kyq (l:List Int):Prop:=l.length≤2000
def Kyf (l:List Int):Prop:=2000<l.length
theorem Kxv (k row:Nat)(f:List Nat):(tkR k f).length≤(tkL k row f).length:=by
 by_cases y:k<2
 ·exact Oo0 (Kv3 k row y f).symm
 match k,y with
 |0,h=>exact absurd (by omega) h
 |1,h=>exact absurd (by omega) h
 |_+2,_=>exact Ob7 _
theorem Kun {α β γ:Type}(f:α→List β)(g:α→List γ)(h:∀ x,(f x).length≤(g x).length):∀ (l:List α),(l.flatMap f).length≤(l.flatMap g).length
 |[]=>Oa2 _
 |x::l=>by
  rw[Og7,Og7,Oa8,Oa8];have:=h x;have:=Kun f g h l;omega
theorem Ktx {α β:Type}{f g:α→List β}{l:List α}(h:∀ x,f x=g x):l.flatMap f=l.flatMap g:=by rw[funext h]
def Kve (w:World)(y:Addr)(k:Nat)(ks:List Krv)(lc rc:List (List V))(nl nr:Nat)(e:Ending)(w':World):Prop:=Below w.heap.size w w' ∧
 ((2000<(jnL k ks lc rc nl nr).length∧e=.returned (.tuple #[.slice none 0 0,.iface 433 (.pointer (some y))])) ∨
  ((jnL k ks lc rc nl nr).length≤2000∧∃ g cap hs,e=.returned (.tuple #[.slice (some ⟨g,0,none⟩) (Kr4 k ks lc rc nl nr).length cap,.nilIface])∧w.heap.size≤g∧Qd w' g hs (Kr4 k ks lc rc nl nr)∧hs.length=(Kr4 k ks lc rc nl nr).length∧∀ i,i<(Kr4 k ks lc rc nl nr).length→∀ b o,(Yo hs i).1=some ⟨b,o,none⟩→w.heap.size≤b∧b<w'.heap.size))
theorem Kw1 (lb rb kb ko kc cl cr:Nat)(hl hr:List (Option Addr×Nat))(lc rc:List (List V))(ks:List Krv)(k nl nr z s:Nat)(bu sd:Int)(br:Addr)(w:World)
  (jf:Qd w lb hl lc) (ji:Qd w rb hr rc) (K:Klj w kb ko ks) (ge:ks.length≤4) (H:k<4) (ju:∀ k∈ks,k.c<lc.length∧0≤k.o∧k.o.toNat<rc.length) (jN:∀ i,i<lc.length→(lc.getD i []).length=nl) (jO:∀ i,i<rc.length→(rc.getD i []).length=nr) (jV:nl≤100000) (jW:nr≤100000) (dw:1≤lc.length∧lc.length≤1000) (dO:1≤rc.length∧rc.length≤1000)
  (km:∀ c∈ks.map (fun k=>k.c),∀ v∈lc.getD c [],Jg v.n∧v.s.size≤maxLen) (kn:∀ c∈ks.map (fun k=>k.o.toNat),∀ v∈rc.getD c [],Jg v.n∧v.s.size≤maxLen) (gs:1≤z) (fv:z≤1000) (hs:s≤100000) (gn:Jg sd) (cS:Jbo lb hl lc.length (fun b=>b<w.heap.size)) (jp:Jbo rb hr rc.length (fun b=>b<w.heap.size)) (cU:kb<w.heap.size) (ba:w.cell? ⟨13,0,none⟩=some (.iface 433 (.pointer (some br)))) :
  Calls prog 108 #[.slice (some ⟨lb,0,none⟩) lc.length cl,.slice (some ⟨rb,0,none⟩) rc.length cr,.int .i64 (k:Nat),.slice (some ⟨kb,ko,none⟩) ks.length kc,.agg #[.int .i64 (z:Nat),.int .i64 bu,.int .i64 (s:Nat),.int .i64 sd]] w (Kve w br k ks lc rc nl nr):=by
 have bE:Hid (Qd w lb hl lc∧Qd w rb hr rc∧Klj w kb ko ks∧(∀ k∈ks,k.c<lc.length∧0≤k.o∧k.o.toNat<rc.length)∧(∀ i,i<lc.length→(lc.getD i []).length=nl)∧(∀ i,i<rc.length→(rc.getD i []).length=nr)):=⟨jf,ji,K,ju,jN,jO⟩;have gI:Hid ((∀ c∈ks.map (fun k=>k.c),∀ v∈lc.getD c [],Jg v.n∧v.s.size≤maxLen)∧(∀ c∈ks.map (fun k=>k.o.toNat),∀ v∈rc.getD c [],Jg v.n∧v.s.size≤maxLen)):=⟨km,kn⟩;have bj:Hid (Jbo lb hl lc.length (fun b=>b<w.heap.size)∧Jbo rb hr rc.length (fun b=>b<w.heap.size)∧kb<w.heap.size∧w.cell? ⟨13,0,none⟩=some (.iface 433 (.pointer (some br)))):=⟨cS,jp,cU,ba⟩;have mJ:Hid (ks.length≤4∧k<4∧nl≤100000∧nr≤100000∧(1≤lc.length∧lc.length≤1000)∧(1≤rc.length∧rc.length≤1000)∧1≤z∧z≤1000∧s≤100000∧Jg sd):=⟨ge,H,jV,jW,dw,dO,gs,fv,hs,gn⟩;clear jf ji K ju jN jO km kn cS jp cU ba;refine(callsIn_wide (n:=3)).1 ?_;refine callsIn_of_wp_marks func108 rfl trivial ?_ rfl;simp only[ntmps108,Om3,List.length_cons,List.length_nil,Nat.reduceAdd,Nat.reduceSub,Ok9,Array.replicate_zero,Om4,Ol2,List.nil_append,List.cons_append];refine wpIn_wide.2 ?_;go_upto_region 1 with fail
 generalize jk:((w.alloc _).alloc _).alloc _=bX;obtain⟨fu,dr,gX,gY,jo⟩:=Jur w _ _ _ bX jk;clear jk;have fc:Hid (bX.heap.size=w.heap.size+3∧Below w.heap.size w bX∧bX.heap[w.heap.size+1]?=some (.cells #[.slice none 0 0] 72 (0,0))∧bX.heap[w.heap.size+2]?=some (.cells #[.nilIface] 74 (0,0))):=⟨fu,jo,gX,gY⟩;clear gX gY;refine wp_mono (Q:=Jpf fun _ a cO=>∃ fb bb mb jb pb v27,a={tmps:=#[.slice (some ⟨lb,0,none⟩) lc.length cl,.slice (some ⟨rb,0,none⟩) rc.length cr,.int .i64 (k:Nat),.slice (some ⟨kb,ko,none⟩) ks.length kc,.agg #[.int .i64 (z:Nat),.int .i64 bu,.int .i64 (s:Nat),.int .i64 sd],undef,undef,undef,undef,.pointer (some ⟨w.heap.size,0,none⟩),.pointer (some ⟨w.heap.size+1,0,none⟩),.pointer (some ⟨w.heap.size+2,0,none⟩),.pointer (some ⟨pb,0,none⟩),undef,undef,undef,undef,undef,undef,.slice (some ⟨lb,0,none⟩) lc.length cl,.slice (some ⟨rb,0,none⟩) rc.length cr,.slice (some ⟨kb,ko,none⟩) ks.length kc,.agg #[.int .i64 (z:Nat),.int .i64 bu,.int .i64 (s:Nat),.int .i64 sd],.pointer (some ⟨w.heap.size,2,none⟩),.int .i64 (s:Nat),.pointer (some ⟨fb,0,none⟩),.map (some mb),v27,.pointer (some ⟨jb,0,none⟩),undef,undef,undef,undef,undef,undef,undef,undef,undef,undef,undef,undef,undef,undef,undef,undef,undef,undef,undef,undef,undef,undef,undef,undef,undef,undef,undef,undef,undef,undef,undef,undef,undef,undef,undef,undef,undef,undef,undef,undef,undef,undef,undef,undef,undef,undef,undef,undef,undef,undef,undef,undef,undef],defers:=[]}∧JnI bX (.slice (some ⟨lb,0,none⟩) lc.length cl) (.slice (some ⟨rb,0,none⟩) rc.length cr) (.slice (some ⟨kb,ko,none⟩) ks.length kc) z bu s sd fb bb mb jb pb cO) ?reg (fun e a bY y=>?rest)
 case reg=>
  have mA:bX.cell? ⟨w.heap.size,0,none⟩=some (.int .i64 (z:Nat)):=by simp[World.cell?,dr]
  have mB:bX.cell? ⟨w.heap.size,1,none⟩=some (.int .i64 bu):=by simp[World.cell?,dr]
  have kG:bX.cell? ⟨w.heap.size,2,none⟩=some (.int .i64 (s:Nat)):=by simp[World.cell?,dr]
  have mC:bX.cell? ⟨w.heap.size,3,none⟩=some (.int .i64 sd):=by simp[World.cell?,dr]
  have mM:=@run_makeMap prog;clear dr;refine Jkk (fun kQ mI bi a x=>∃ r:JxX,a=Ks0 kQ r∧JxI ⟨.slice (some ⟨lb,0,none⟩) lc.length cl,.slice (some ⟨rb,0,none⟩) rc.length cr,.slice (some ⟨kb,ko,none⟩) ks.length kc,w.heap.size,z,bu,s,sd⟩ mI bi r x) [0,1,2,3,4,5,6,7,8,9,10,11] (by kernel_rfl) (by kernel_rfl) (by kernel_rfl) ?_ (Kh.cons rfl ?_ (Kh.cons rfl ?_ (Kh.cons rfl ?_ (Kh.cons rfl ?_ (Kh.cons rfl ?_ (Kh.cons rfl ?_ (Kh.cons rfl ?_ (Kh.cons rfl ?_ (Kh.cons rfl ?_ (Kh.cons rfl ?_ (Kh.cons rfl ?_ (Kh.cons rfl ?_ Kh.nil)))))))))))) ?_
  ·exact⟨⟨undef,undef,undef,undef,undef,undef,undef,undef,undef,undef,undef,0,0,0,0,0⟩,(by kernel_rfl),⟨Jj (Oa5 _ _),fun k H=>absurd H Kf6⟩⟩
  ·intro bi b0 x hI bz Z cc K;obtain⟨⟨x19,x20,x21,x22,x23,x24,x25,x26,x27,x28,x12,fb,bb,mb,jb,pb⟩,rfl,hI⟩:=hI;simp only[Ks0,Act.put,Oa1,List.set_cons_zero,List.set_cons_succ];go_simp;exact K.out _ _ ⟨⟨.slice (some ⟨lb,0,none⟩) lc.length cl,x20,x21,x22,x23,x24,x25,x26,x27,x28,x12,fb,bb,mb,jb,pb⟩,(by kernel_rfl),(hI).op 0 _ (fun k H h=>by rcases k with _|_|_|_|_|_|_|_|_|_|_|_|k<;>first|exact h|exact absurd rfl H) rfl⟩
  ·intro bi b0 x hI bz Z cc K;obtain⟨⟨x19,x20,x21,x22,x23,x24,x25,x26,x27,x28,x12,fb,bb,mb,jb,pb⟩,rfl,hI⟩:=hI;simp only[Ks0,Act.put,Oa1,List.set_cons_zero,List.set_cons_succ];go_simp;exact K.out _ _ ⟨⟨x19,.slice (some ⟨rb,0,none⟩) rc.length cr,x21,x22,x23,x24,x25,x26,x27,x28,x12,fb,bb,mb,jb,pb⟩,(by kernel_rfl),(hI).op 1 _ (fun k H h=>by rcases k with _|_|_|_|_|_|_|_|_|_|_|_|k<;>first|exact h|exact absurd rfl H) rfl⟩
  ·intro bi b0 x hI bz Z cc K;obtain⟨⟨x19,x20,x21,x22,x23,x24,x25,x26,x27,x28,x12,fb,bb,mb,jb,pb⟩,rfl,hI⟩:=hI;simp only[Ks0,Act.put,Oa1,List.set_cons_zero,List.set_cons_succ];go_simp;exact K.out _ _ ⟨⟨x19,x20,.slice (some ⟨kb,ko,none⟩) ks.length kc,x22,x23,x24,x25,x26,x27,x28,x12,fb,bb,mb,jb,pb⟩,(by kernel_rfl),(hI).op 2 _ (fun k H h=>by rcases k with _|_|_|_|_|_|_|_|_|_|_|_|k<;>first|exact h|exact absurd rfl H) rfl⟩
  ·intro bi b0 x hI bz Z cc K;obtain⟨⟨x19,x20,x21,x22,x23,x24,x25,x26,x27,x28,x12,fb,bb,mb,jb,pb⟩,rfl,hI⟩:=hI;have dj:=Ja hI.low mA;have mR:=Ja hI.low mB;have mD:=Ja hI.low kG;have gz:=Ja hI.low mC;simp only[Ks0,Act.put,Oa1,List.set_cons_zero,List.set_cons_succ];go_simp;exact K.out _ _ ⟨⟨x19,x20,x21,.agg #[.int .i64 (z:Nat),.int .i64 bu,.int .i64 (s:Nat),.int .i64 sd],x23,x24,x25,x26,x27,x28,x12,fb,bb,mb,jb,pb⟩,(by kernel_rfl),(hI).op 3 _ (fun k H h=>by rcases k with _|_|_|_|_|_|_|_|_|_|_|_|k<;>first|exact h|exact absurd rfl H) rfl⟩
  ·intro bi b0 x hI bz Z cc K;obtain⟨⟨x19,x20,x21,x22,x23,x24,x25,x26,x27,x28,x12,fb,bb,mb,jb,pb⟩,rfl,hI⟩:=hI;simp only[Ks0,Act.put,Oa1,List.set_cons_zero,List.set_cons_succ];go_simp;exact K.out _ _ ⟨⟨x19,x20,x21,x22,.pointer (some ⟨w.heap.size,2,none⟩),x24,x25,x26,x27,x28,x12,fb,bb,mb,jb,pb⟩,(by kernel_rfl),(hI).op 4 _ (fun k H h=>by rcases k with _|_|_|_|_|_|_|_|_|_|_|_|k<;>first|exact h|exact absurd rfl H) rfl⟩
  ·intro bi b0 x hI bz Z cc K;obtain⟨⟨x19,x20,x21,x22,x23,x24,x25,x26,x27,x28,x12,fb,bb,mb,jb,pb⟩,rfl,hI⟩:=hI;have cv:x23=.pointer (some ⟨w.heap.size,2,none⟩):=hI.facts 4 (Z ⟨4,.data⟩ (by simp) (by rfl));subst cv;have mD:=Ja hI.low kG;simp only[Ks0,Act.put,Oa1,List.set_cons_zero,List.set_cons_succ];go_simp;exact K.out _ _ ⟨⟨x19,x20,x21,x22,.pointer (some ⟨w.heap.size,2,none⟩),.int .i64 (s:Nat),x25,x26,x27,x28,x12,fb,bb,mb,jb,pb⟩,(by kernel_rfl),(hI).op 5 _ (fun k H h=>by rcases k with _|_|_|_|_|_|_|_|_|_|_|_|k<;>first|exact h|exact absurd rfl H) rfl⟩
  ·intro bi b0 x hI bz Z cc K;obtain⟨⟨x19,x20,x21,x22,x23,x24,x25,x26,x27,x28,x12,fb,bb,mb,jb,pb⟩,rfl,hI⟩:=hI;have fM:x24=.int .i64 (s:Nat):=hI.facts 5 (Z ⟨5,.data⟩ (by simp) (by rfl));subst fM;simp only[Ks0,Act.put,Oa1,List.set_cons_zero,List.set_cons_succ];go_simp;refine(Kue s x hs).mono ?_;rintro dq bY ⟨bP,gZ,kR,rfl,mq,mo,jA⟩;have cb:Hid _:=jA;have gJ:Hid (bX.heap.size≤x.heap.size):=hI.low.size;clear jA;go_simp;exact K.out _ _ ⟨⟨x19,x20,x21,x22,x23,.int .i64 (s:Nat),.pointer (some ⟨gZ,0,none⟩),x26,x27,x28,x12,gZ,kR,mb,jb,pb⟩,(by kernel_rfl),(hI.grow bP).op 6 _ (fun k H h=>by rcases k with _|_|_|_|_|_|_|_|_|_|_|_|k<;>first|exact h|exact absurd rfl H|exact absurd h.1.1 (Yb bz)) ⟨rfl,⟨Ob2 gJ.out mq,Ob2 gJ.out mo⟩,fun _=>cb.out⟩⟩
  ·intro bi b0 x hI bz Z cc K;obtain⟨⟨x19,x20,x21,x22,x23,x24,x25,x26,x27,x28,x12,fb,bb,mb,jb,pb⟩,rfl,hI⟩:=hI;simp only[Ks0,Act.put,Oa1,List.set_cons_zero,List.set_cons_succ];go_simp;exact K.out _ _ ⟨⟨x19,x20,x21,x22,x23,x24,x25,.map (some x.heap.size),x27,x28,x12,fb,bb,x.heap.size,jb,pb⟩,(by kernel_rfl),(hI.grow (Jc (Oa5 _ _) _)).op 7 _ (fun k H h=>by rcases k with _|_|_|_|_|_|_|_|_|_|_|_|k<;>first|exact h|exact absurd rfl H|exact absurd h.1.2 (Yb bz)|exact absurd h.1.2.1 (Yb bz)) ⟨rfl,hI.low.size,fun _=>heap_alloc_new x _⟩⟩
  ·intro bi b0 x hI bz Z cc K;obtain⟨⟨x19,x20,x21,x22,x23,x24,x25,x26,x27,x28,x12,fb,bb,mb,jb,pb⟩,rfl,hI⟩:=hI;have h0:x19=.slice (some ⟨lb,0,none⟩) lc.length cl:=hI.facts 0 (Z ⟨0,.data⟩ (by simp) (by rfl));have X:x20=.slice (some ⟨rb,0,none⟩) rc.length cr:=hI.facts 1 (Z ⟨1,.data⟩ (by simp) (by rfl));have U:x21=.slice (some ⟨kb,ko,none⟩) ks.length kc:=hI.facts 2 (Z ⟨2,.data⟩ (by simp) (by rfl));have bO:x22=.agg #[.int .i64 (z:Nat),.int .i64 bu,.int .i64 (s:Nat),.int .i64 sd]:=hI.facts 3 (Z ⟨3,.data⟩ (by simp) (by rfl));have cQ:x25=.pointer (some ⟨fb,0,none⟩):=(hI.facts 6 (Z ⟨6,.data⟩ (by simp) (by rfl))).1;have dc:x26=.map (some mb):=(hI.facts 7 (Z ⟨7,.data⟩ (by simp) (by rfl))).1;subst h0 X U bO cQ dc;have cM:Hid (dn bi 6∧dn bi 7):=⟨(Z ⟨6,.data⟩ (by simp) (by rfl)),(Z ⟨7,.data⟩ (by simp) (by rfl))⟩;simp only[Ks0,Act.put,Oa1,List.set_cons_zero,List.set_cons_succ];go_simp;exact K.out _ _ ⟨⟨.slice (some ⟨lb,0,none⟩) lc.length cl,.slice (some ⟨rb,0,none⟩) rc.length cr,.slice (some ⟨kb,ko,none⟩) ks.length kc,.agg #[.int .i64 (z:Nat),.int .i64 bu,.int .i64 (s:Nat),.int .i64 sd],x23,x24,.pointer (some ⟨fb,0,none⟩),.map (some mb),.agg #[.slice (some ⟨lb,0,none⟩) lc.length cl,.slice (some ⟨rb,0,none⟩) rc.length cr,.slice (some ⟨kb,ko,none⟩) ks.length kc,.int .i64 (z:Nat),.int .i64 bu,.int .i64 (s:Nat),.int .i64 sd,.pointer (some ⟨fb,0,none⟩),.map (some mb),.slice none 0 0,.slice none 0 0],x28,x12,fb,bb,mb,jb,pb⟩,(by kernel_rfl),(hI).op 8 _ (fun k H h=>by rcases k with _|_|_|_|_|_|_|_|_|_|_|_|k<;>first|exact h|exact absurd rfl H) ⟨⟨Kq cM.out.1,Kq cM.out.2⟩,rfl⟩⟩
  ·intro bi b0 x hI bz Z cc K;obtain⟨⟨x19,x20,x21,x22,x23,x24,x25,x26,x27,x28,x12,fb,bb,mb,jb,pb⟩,rfl,hI⟩:=hI;have fN:=hI.facts 8 (Z ⟨8,.data⟩ (by simp) (by rfl));have kV:x27=.agg #[.slice (some ⟨lb,0,none⟩) lc.length cl,.slice (some ⟨rb,0,none⟩) rc.length cr,.slice (some ⟨kb,ko,none⟩) ks.length kc,.int .i64 (z:Nat),.int .i64 bu,.int .i64 (s:Nat),.int .i64 sd,.pointer (some ⟨fb,0,none⟩),.map (some mb),.slice none 0 0,.slice none 0 0]:=fN.2;have cM:Hid (dn bi 6∧dn bi 7):=fN.1;clear fN;subst kV;simp only[Ks0,Act.put,Oa1,List.set_cons_zero,List.set_cons_succ];go_simp;exact K.out _ _ ⟨⟨x19,x20,x21,x22,x23,x24,x25,x26,.agg #[.slice (some ⟨lb,0,none⟩) lc.length cl,.slice (some ⟨rb,0,none⟩) rc.length cr,.slice (some ⟨kb,ko,none⟩) ks.length kc,.int .i64 (z:Nat),.int .i64 bu,.int .i64 (s:Nat),.int .i64 sd,.pointer (some ⟨fb,0,none⟩),.map (some mb),.slice none 0 0,.slice none 0 0],.pointer (some ⟨x.heap.size,0,none⟩),x12,fb,bb,mb,x.heap.size,pb⟩,(by kernel_rfl),(hI.grow (Jc (Oa5 _ _) _)).op 9 _ (fun k H h=>by rcases k with _|_|_|_|_|_|_|_|_|_|_|_|k<;>first|exact h|exact absurd rfl H|exact absurd h.1.2.2.1 (Yb bz)) ⟨⟨Kq cM.out.1,Kq cM.out.2⟩,rfl,hI.low.size,fun _=>heap_alloc_new x _⟩⟩
  ·intro bi b0 x hI bz Z cc K;obtain⟨⟨x19,x20,x21,x22,x23,x24,x25,x26,x27,x28,x12,fb,bb,mb,jb,pb⟩,rfl,hI⟩:=hI;simp only[Ks0,Act.put,Oa1,List.set_cons_zero,List.set_cons_succ];go_simp;exact K.out _ _ ⟨⟨x19,x20,x21,x22,x23,x24,x25,x26,x27,x28,.pointer (some ⟨x.heap.size,0,none⟩),fb,bb,mb,jb,x.heap.size⟩,(by kernel_rfl),(hI.grow (Jc (Oa5 _ _) _)).op 10 _ (fun k H h=>by rcases k with _|_|_|_|_|_|_|_|_|_|_|_|k<;>first|exact h|exact absurd rfl H|exact absurd h.1.2.2.2 (Yb bz)) ⟨rfl,hI.low.size,fun _=>heap_alloc_new x _⟩⟩
  ·intro bi b0 x hI bz Z cc K;obtain⟨⟨x19,x20,x21,x22,x23,x24,x25,x26,x27,x28,x12,fb,bb,mb,jb,pb⟩,rfl,hI⟩:=hI;have cD:=hI.facts 9 (Z ⟨9,.data⟩ (by simp) (by rfl));have ds:=hI.facts 10 (Z ⟨10,.data⟩ (by simp) (by rfl));have cQ:=hI.facts 6 cD.1.1;have dc:=hI.facts 7 cD.1.2;have kT:x28=.pointer (some ⟨jb,0,none⟩):=cD.2.1;have kS:x12=.pointer (some ⟨pb,0,none⟩):=ds.1;have fs:x.heap[pb]?=some (.cells #[.pointer none] 270 (0,0)):=ds.2.2 (Yb bz);have kK:Hid _:=Kx2 (cQ.2.2 (Yb bz)) (dc.2.2 (Yb bz)) (cD.2.2.2 (Yb bz)) fs hI.low ⟨cQ.2.1.1,cQ.2.1.2,dc.2.1,cD.2.2.1,ds.2.1⟩;have cM:Hid (dn bi 6∧dn bi 7):=cD.1;have c0:x.cell? ⟨pb,0,none⟩=some (.pointer none):=by simp[World.cell?,fs]
   have mK:=Lib.frozen_of_heap fs 0;clear cQ dc cD ds fs;subst kT kS;simp only[Ks0,Act.put,Oa1,List.set_cons_zero,List.set_cons_succ];go_simp;exact K.out _ _ ⟨⟨x19,x20,x21,x22,x23,x24,x25,x26,x27,.pointer (some ⟨jb,0,none⟩),.pointer (some ⟨pb,0,none⟩),fb,bb,mb,jb,pb⟩,(by kernel_rfl),hI.opS bz ⟨⟨Kq cM.out.1,Kq cM.out.2,Kq (Z ⟨9,.data⟩ (by simp) (by rfl)),Kq (Z ⟨10,.data⟩ (by simp) (by rfl))⟩,kK.out⟩⟩
  intro bi b0 x hI ma fu;obtain⟨⟨x19,x20,x21,x22,x23,x24,x25,x26,x27,x28,x12,fb,bb,mb,jb,pb⟩,rfl,hI⟩:=hI;have bx:∀ k,k<12→dn bi k:=fun k H=>by
   have X:=ma k H;have U:k<bi.size:=by rw[fu];exact H
   unfold dn;simp[U]at X ⊢;exact X
  have h0:x19=.slice (some ⟨lb,0,none⟩) lc.length cl:=hI.facts 0 (bx 0 (by omega));have X:x20=.slice (some ⟨rb,0,none⟩) rc.length cr:=hI.facts 1 (bx 1 (by omega));have U:x21=.slice (some ⟨kb,ko,none⟩) ks.length kc:=hI.facts 2 (bx 2 (by omega));have bO:x22=.agg #[.int .i64 (z:Nat),.int .i64 bu,.int .i64 (s:Nat),.int .i64 sd]:=hI.facts 3 (bx 3 (by omega));have cv:x23=.pointer (some ⟨w.heap.size,2,none⟩):=hI.facts 4 (bx 4 (by omega));have fM:x24=.int .i64 (s:Nat):=hI.facts 5 (bx 5 (by omega));have cQ:x25=.pointer (some ⟨fb,0,none⟩):=(hI.facts 6 (bx 6 (by omega))).1;have dc:x26=.map (some mb):=(hI.facts 7 (bx 7 (by omega))).1;have cD:x28=.pointer (some ⟨jb,0,none⟩):=(hI.facts 9 (bx 9 (by omega))).2.1;have ds:x12=.pointer (some ⟨pb,0,none⟩):=(hI.facts 10 (bx 10 (by omega))).1;have kU:=(hI.facts 11 (bx 11 (by omega))).2;subst h0 X U bO cv fM cQ dc cD ds;exact⟨fb,bb,mb,jb,pb,x27,(by kernel_rfl),kU⟩
 case rest=>
  cases e<;>try exact y.elim
  obtain⟨fb,bb,mb,jb,pb,v27,rfl,hI⟩:=y;obtain⟨ja,jc,gN,gP,gQ,gR,gS,gT,gU,gV,gW,gO⟩:=Kw6 hI;have cz:Hid (fb≠bb∧fb≠mb∧bb≠mb∧jb≠bb∧jb≠mb∧jb≠fb∧pb≠bb∧pb≠mb∧pb≠jb∧pb≠fb):=⟨gN,gP,gQ,gR,gS,gT,gU,gV,gW,gO⟩;have bR:Hid (JnI bX (.slice (some ⟨lb,0,none⟩) lc.length cl) (.slice (some ⟨rb,0,none⟩) rc.length cr) (.slice (some ⟨kb,ko,none⟩) ks.length kc) z bu s sd fb bb mb jb pb bY):=hI;have cN:Hid (Ktb bY fb bb mb s (fun k=>k=bb∨k=mb) []∧∀ k,k=bb∨k=mb→k<bY.heap.size):=⟨ja,jc⟩;clear hI ja jc gN gP gQ gR gS gT gU gV gW gO dr;have gE:Hid (Below w.heap.size w bY):=Jb fc.out.2.1 bR.out.low;have kf:=Kv6 kb ko kc ks bY (bE.out.2.2.1.below gE.out) ge;go_upto_region 3 with(go_at_call 141;refine kf.mono ?_;rintro e bD ⟨dt,lv,rv,rfl,fT⟩;obtain⟨cj,cW,rfl,dK,jM⟩:=Ktt fT.left;obtain⟨cX,dz,rfl,dN,ka⟩:=Ktt fT.right;have cy:Hid (Below bY.heap.size bY bD):=dt;have cZ:Hid (Kc bD cj (ks.map fun k=>(k.c:Int))∧(∀ b o,cj=some ⟨b,o,none⟩→bY.heap.size≤b∧b<bD.heap.size)∧Kc bD cX (ks.map fun k=>k.o)∧(∀ b o,cX=some ⟨b,o,none⟩→bY.heap.size≤b∧b<bD.heap.size)):=⟨dK,jM,dN,ka⟩;clear dt fT dK jM dN ka kf)
  have gG:Hid ((ks.map fun k=>(k.c:Int))=(ks.map fun k=>k.c).map (fun (x:Nat)=>(x:Int))∧(ks.map fun k=>k.o)=(ks.map fun k=>k.o.toNat).map (fun (x:Nat)=>(x:Int))):=by
   refine⟨by rw[Oi6];rfl,?_⟩;rw[Oi6];refine Oj9 fun k H=>?_;have:=(bE.out.2.2.2.1 k H).2.1;show k.o=((k.o.toNat:Nat):Int);omega
  have cY:Hid (Below w.heap.size w bD):=Jb gE.out cy.out;have dX:Hid (bD.heap[jb]?=some (.cells (jnC (.slice (some ⟨lb,0,none⟩) lc.length cl) (.slice (some ⟨rb,0,none⟩) rc.length cr) (.slice (some ⟨kb,ko,none⟩) ks.length kc) (z:Nat) bu (s:Nat) sd (.pointer (some ⟨fb,0,none⟩)) (.map (some mb)) (.slice none 0 0) (.slice none 0 0)).toArray 275 (0,0))∧bD.heap[pb]?=some (.cells #[.pointer (some ⟨jb,0,none⟩)] 270 (0,0))):=⟨(cy.out.block _ (Jd bR.out.jn)).trans bR.out.jn,(cy.out.block _ (Jd bR.out.pj)).trans bR.out.pj⟩;have mj:=bR.out.new;have mv:=fc.out.1;have fZ:=by
   have gt:=cy.out.size;have mO:=cY.out.size;refine Kvx jb rb cr fb bb mb s dz nr z cX hr rc (ks.map fun k=>k.o.toNat) (.slice (some ⟨lb,0,none⟩) lc.length cl) (.slice (some ⟨kb,ko,none⟩) ks.length kc) (.slice none 0 0) (.slice none 0 0) bu (s:Nat) sd (fun k=>k=bb∨k=mb) bD dX.out.1 gs fv jW dO.1 dO.2 (bE.out.2.1.below cY.out) bE.out.2.2.2.2.2 (fun c ga=>?_) (by rw[Oa6];omega) gI.out.2 gn ?_ ?_ (fun k H=>Oc2 (cN.out.2 k H) gt) ⟨fun e=>e.elim cz.out.2.2.2.1 cz.out.2.2.2.2.1,⟨⟨fun e=>?_,?_⟩,fun i hi b o e=>⟨fun dq=>?_,?_⟩⟩,fun b o e=>⟨fun dq=>?_,?_⟩⟩
   ·obtain⟨gy,gd,rfl⟩:=Of0.1 ga;exact(bE.out.2.2.2.1 gy gd).2.2
   ·rw[←gG.out.2];exact cZ.out.2.2.1
   ·exact cN.out.1.blocks gt (cy.out.block _ (Jd bR.out.fl.cells)) fun k H=>cy.out.block k (cN.out.2 k H)
   ·have:=bj.out.2.1.1;rcases e with e|e<;>omega
   ·have:=bj.out.2.1.1;omega
   ·have:=bj.out.2.1.2 i hi b o e;rcases dq with dq|dq<;>omega
   ·have:=bj.out.2.1.2 i hi b o e;omega
   ·have:=(cZ.out.2.2.2 b o e).1;have:=cN.out.2 b dq;omega
   exact(cZ.out.2.2.2 b o e).2
  rw[Oa6]at fZ;have dj:bD.cell? ⟨pb,0,none⟩=some (.pointer (some ⟨jb,0,none⟩)):=by simp[World.cell?,dX.out.2]
  have mh:=Kxo jb k H;have fA:Hid (bb<bD.heap.size∧mb<bD.heap.size∧fb<bD.heap.size∧jb<bD.heap.size∧pb<bD.heap.size∧w.heap.size+3≤bY.heap.size∧bY.heap.size≤bD.heap.size):=by
   have gt:=cy.out.size;have dy:=cN.out.2 bb (.inl rfl);have mF:=cN.out.2 mb (.inr rfl);have mG:=Jd bR.out.fl.cells;have mS:=Jd bR.out.jn;have mT:=Jd bR.out.pj;have mU:=bR.out.low.size;exact⟨by omega,by omega,by omega,by omega,by omega,by omega,by omega⟩
  go_upto_region 4 with(go_at_call 142;refine fZ.mono ?_;rintro e bJ ⟨rfl,cu,jm,jL,jT⟩;have bH:Hid (Ktb bJ fb bb mb s cu ((List.range nr).map (hxE rc (ks.map fun k=>k.o.toNat) (sd % 18446744073709551616)))∧Krx (fun k=>k=bb∨k=mb) bD bJ∧Kr0 (fun k=>k=bb∨k=mb) cu bD bJ):=⟨jm,jL,jT⟩;clear jm jL jT fZ dj)
  have fB:Hid (bJ.heap[jb]?=some (.cells (jnC (.slice (some ⟨lb,0,none⟩) lc.length cl) (.slice (some ⟨rb,0,none⟩) rc.length cr) (.slice (some ⟨kb,ko,none⟩) ks.length kc) (z:Nat) bu (s:Nat) sd (.pointer (some ⟨fb,0,none⟩)) (.map (some mb)) (.slice none 0 0) (.slice none 0 0)).toArray 275 (0,0))∧bJ.heap[pb]?=some (.cells #[.pointer (some ⟨jb,0,none⟩)] 270 (0,0))):=⟨(bH.out.2.1.2 jb fA.out.2.2.2.1 (fun e=>e.elim cz.out.2.2.2.1 cz.out.2.2.2.2.1)).trans dX.out.1,(bH.out.2.1.2 pb fA.out.2.2.2.2.1 (fun e=>e.elim cz.out.2.2.2.2.2.2.1 cz.out.2.2.2.2.2.2.2.1)).trans dX.out.2⟩;have gz:bJ.cell? ⟨pb,0,none⟩=some (.pointer (some ⟨jb,0,none⟩)):=by simp[World.cell?,fB.out.2]
  go_upto_region 5 with(go_at_call 143;refine(Kvp jb bJ).mono ?_;rintro e cP ⟨rfl,jl⟩;have gD:Hid (Below bJ.heap.size bJ cP):=jl;clear jl)
  obtain⟨bc,ki⟩:∃ bc,bc=cP.heap.size:=⟨_,rfl⟩;have fx:=heap_alloc_new cP (.cells #[(.func (.func (tkF k)) #[.pointer (some ⟨jb,0,none⟩)] #[])] 278);have fY:Below cP.heap.size cP (cP.alloc (.cells #[(.func (.func (tkF k)) #[.pointer (some ⟨jb,0,none⟩)] #[])] 278)):=Jc (Oa5 _ _) _;have dg:=Oa7 cP (.cells #[(.func (.func (tkF k)) #[.pointer (some ⟨jb,0,none⟩)] #[])] 278);rw[←ki]at fx dg ⊢;generalize cP.alloc (.cells #[(.func (.func (tkF k)) #[.pointer (some ⟨jb,0,none⟩)] #[])] 278)=dD at fx fY dg ⊢;have fW:=Jb gD.out fY;have dx:=Ja fW gz;have jG:=Kt2 jb (.slice (some ⟨lb,0,none⟩) lc.length cl) (.slice cj ks.length cW) (some ⟨lb,0,none⟩) cj lc.length cl ks.length cW rfl rfl dD;have dB:Hid (dD.heap[bc]?=some (.cells #[(.func (.func (tkF k)) #[.pointer (some ⟨jb,0,none⟩)] #[])] 278 (0,0))∧dD.heap.size=bc+1∧Below bJ.heap.size bJ dD∧bJ.heap.size≤bc):=⟨fx,dg,fW,by have:=gD.out.size;omega⟩;clear fx fY dg fW gz ki mh;go_wp2_with (go_at_call 144;refine jG.mono ?_;rintro e E ⟨rfl,fU⟩)
  rw[←fU];have dg:=dB.out.2.1;obtain⟨kh,fF,fG,fH,fX⟩:=Jur dD _ _ _ E fU.symm;rw[dg]at kh fF fG fH ⊢;have bL:Below bJ.heap.size bJ E:=Jb dB.out.2.2.1 fX;have md:=fA.out;have dd:∀ k,k<w.heap.size→E.heap[k]?=w.heap[k]?:=fun q y=>by
   rw[bL.block q (by have:=bH.out.2.1.1;omega),bH.out.2.1.2 q (by omega) (fun e=>by rcases e with e|e<;>omega),cY.out.block q y]
  have fj:Below w.heap.size w E:=⟨bL.os.trans (bH.out.2.1.out.1.trans cY.out.os),bL.tape.trans (bH.out.2.1.out.2.1.trans cY.out.tape),bL.output.trans (bH.out.2.1.out.2.2.trans cY.out.output),by have:=bL.size;have:=bH.out.2.1.1;have:=cY.out.size;omega,dd⟩;have kt:=bL.size;have mw:=bH.out.2.1.1;obtain⟨bs,jB,jx⟩:=bH.out.1.fl;obtain⟨j,ci⟩:∃ j,j=(JnE.mk jb lb rb kb ko kc cl cr fb bb mb s z bu (s:Nat) sd hl hr lc rc ks):=⟨_,rfl⟩;have fR:∀ q,cu q→q<bJ.heap.size∧q≠jb∧q≠pb∧q≠w.heap.size+1∧q≠w.heap.size+2:=fun q y=>by
   refine⟨bH.out.2.2.2.2 q y,?_⟩;have bx:=cz.out;rcases bH.out.2.2.2.1 q y with(rfl|rfl)|h'
   ·exact⟨fun e=>bx.2.2.2.1 e.symm,fun e=>bx.2.2.2.2.2.2.1 e.symm,by omega,by omega⟩
   ·exact⟨fun e=>bx.2.2.2.2.1 e.symm,fun e=>bx.2.2.2.2.2.2.2.1 e.symm,by omega,by omega⟩
   exact⟨by omega,by omega,by omega,by omega⟩
  have fe:∀ q,JnB j cu q→q<bJ.heap.size∧q≠jb∧q≠pb∧q≠w.heap.size+1∧q≠w.heap.size+2:=fun q y=>by
   have bx:=cz.out;have cE:=bj.out;subst ci;rcases y with h|rfl|rfl|rfl|rfl|⟨i,hi,o,e⟩|⟨i,hi,o,e⟩
   ·exact fR q h
   ·exact⟨by omega,fun e=>bx.2.2.2.2.2.1 e.symm,fun e=>bx.2.2.2.2.2.2.2.2.2 e.symm,by omega,by omega⟩
   ·have:=cE.2.2.1;exact⟨by omega,by omega,by omega,by omega,by omega⟩
   ·have:=cE.1.1;exact⟨by omega,by omega,by omega,by omega,by omega⟩
   ·have:=cE.2.1.1;exact⟨by omega,by omega,by omega,by omega,by omega⟩
   ·have:=cE.1.2 i hi q o e;exact⟨by omega,by omega,by omega,by omega,by omega⟩
   have:=cE.2.1.2 i hi q o e;exact⟨by omega,by omega,by omega,by omega,by omega⟩
  have fQ:JnR j cu ((List.range nr).map (hxE rc (ks.map fun k=>k.o.toNat) (sd % 18446744073709551616))) nl nr E:=by
   subst ci;refine⟨bH.out.1.blocks kt (bL.block _ (by omega)) fun q y=>bL.block q (fR q y).1,bE.out.1.kp (Fx:=fun b=>E.heap[b]?=w.heap[b]?) ⟨fj.size,fun _ h=>h⟩ ⟨dd _ bj.out.1.1,fun i hi b o e=>dd _ (bj.out.1.2 i hi b o e)⟩,bE.out.2.1.kp (Fx:=fun b=>E.heap[b]?=w.heap[b]?) ⟨fj.size,fun _ h=>h⟩ ⟨dd _ bj.out.2.1.1,fun i hi b o e=>dd _ (bj.out.2.1.2 i hi b o e)⟩,bE.out.2.2.1.block (dd _ bj.out.2.2.1),ge,bE.out.2.2.2.1,bE.out.2.2.2.2.1,bE.out.2.2.2.2.2,fun x bV=>?_⟩;obtain⟨r,ms,rfl⟩:=Of0.1 bV;exact⟨Oj4.1 ms,Kuv rc ⟨by omega,by omega⟩ r _⟩
  have jC:Ksj E fb bb s bs:=jB.keep (bL.block _ (by omega)) (bL.block _ (by omega));have jg:Kc E cj ((ks.map fun k=>k.c).map fun (x:Nat)=>(x:Int)):=by
   rw[←gG.out.1];exact Uh.of_block cZ.out.1 (by omega) fun b o e bP=>by
    have:=cZ.out.2.1 b o e;have dy:=cN.out.2 bb (.inl rfl);have mF:=cN.out.2 mb (.inr rfl);rw[bL.block b (by omega),bH.out.2.1.2 b bP (fun e=>by rcases e with e|e<;>omega)]
  have jH:E.heap[jb]?=some (.cells (j.cells (.slice none 0 0) (.slice none 0 0)).toArray 275 (0,0)):=by
   subst ci;exact(bL.block _ (by omega)).trans fB.out.1
  have jX:E.heap[pb]?=some (.cells #[.pointer (some ⟨jb,0,none⟩)] 270 (0,0)):=(bL.block _ (by omega)).trans fB.out.2;have kj:E.heap[bc]?=some (.cells #[(.func (.func (tkF k)) #[.pointer (some ⟨jb,0,none⟩)] #[])] 278 (0,0)):=(fX.block _ (by omega)).trans dB.out.1;have jY:E.heap[w.heap.size+1]?=some (.cells #[.slice none 0 0] 72 (0,0)):=by
   rw[bL.block _ (by omega),bH.out.2.1.2 _ (by omega) (fun e=>by rcases e with e|e<;>omega),cy.out.block _ (by omega),bR.out.low.block _ (by omega)];exact fc.out.2.2.1
  have jZ:E.heap[w.heap.size+2]?=some (.cells #[.nilIface] 74 (0,0)):=by
   rw[bL.block _ (by omega),bH.out.2.1.2 _ (by omega) (fun e=>by rcases e with e|e<;>omega),cy.out.block _ (by omega),bR.out.low.block _ (by omega)];exact fc.out.2.2.2
  have bM:Hid (JnR j cu ((List.range nr).map (hxE rc (ks.map fun k=>k.o.toNat) (sd % 18446744073709551616))) nl nr E∧Ksj E j.fb j.bb j.s bs∧Kti j.s bs ((List.range nr).map (hxE rc (ks.map fun k=>k.o.toNat) (sd % 18446744073709551616)))∧E.heap[pb]?=some (.cells #[.pointer (some ⟨jb,0,none⟩)] 270 (0,0))∧E.heap[bc]?=some (.cells #[(.func (.func (tkF k)) #[.pointer (some ⟨jb,0,none⟩)] #[])] 278 (0,0))∧E.heap[w.heap.size+1]?=some (.cells #[.slice none 0 0] 72 (0,0))∧E.heap[w.heap.size+2]?=some (.cells #[.nilIface] 74 (0,0))∧Below w.heap.size w E):=⟨fQ,by rw[ci];exact jC,by rw[ci];exact jx,jX,kj,jY,jZ,fj⟩;have dY:Hid (j=(JnE.mk jb lb rb kb ko kc cl cr fb bb mb s z bu (s:Nat) sd hl hr lc rc ks)):=ci;have dp:Hid ((∀ q,JnB j cu q→q<E.heap.size∧q≠jb∧q≠w.heap.size+1∧q≠w.heap.size+2)∧jb<E.heap.size∧pb<E.heap.size∧bc<E.heap.size∧w.heap.size+2<E.heap.size∧pb≠jb∧bc≠jb∧w.heap.size+2<jb∧w.heap.size+2<pb∧w.heap.size+2<bc):=by
   have bx:=cz.out;have mL:=dB.out;exact⟨fun q y=>⟨by have:=(fe q y).1;omega,(fe q y).2.1,(fe q y).2.2.2⟩,by omega,by omega,by omega,by omega,bx.2.2.2.2.2.2.2.2.1,by omega,by omega,by omega,by omega⟩
  have mm:=dB.out.2.2.2;have HSEQ:Hid _:=Kt8 2 (bc+1+1) (bc+1) (bc+1+2) jb lb cl hl lc cj cW (ks.map fun k=>k.c) nl z sd E gs fv jV dw.1 dw.2 (by have:=fQ.left;rw[ci]at this;exact this) bE.out.2.2.2.2.1 (fun c ga=>by obtain⟨gy,gd,rfl⟩:=Of0.1 ga;exact(bE.out.2.2.2.1 gy gd).1) (by rw[Oa6];omega) gI.out.1 gn (by simp[World.cell?,fG]) (by simp[World.cell?,fF]) (by rw[Oa6];simp[World.cell?,fH]) jg (fun q=>q<E.heap.size∧q≠jb)
   ⟨⟨by omega,by omega⟩,⟨by omega,by omega⟩,⟨by omega,by omega⟩,⟨⟨by have:=bj.out.1.1;omega,by have:=bj.out.1.1;omega⟩,fun i hi b o e=>⟨by have:=bj.out.1.2 i hi b o e;omega,by have:=bj.out.1.2 i hi b o e;omega⟩⟩,fun b o e=>⟨by have:=cZ.out.2.1 b o e;omega,by have:=cZ.out.2.1 b o e;have mG:=Jd bR.out.jn;omega⟩⟩ (fun q y=>y.1)
  have kO:Hid (Ks5 j (fun q=>q=jb) E.heap.size [] [] E):=by
   refine⟨_,_,⟨?_,Jo.nil _ _ _,Jo.nil _ _ _,⟨?_,fun g e=>(by cases e),fun g e=>(by cases e)⟩,.inl rfl,?_⟩⟩
   ·rw[show j.jb=jb by rw[ci]];exact jH
   ·rw[ci]
   rw[show j.jb=jb by rw[ci]];omega
  clear fU fF fG fH fX bL dd fj kt mw jB jx fR fe fQ jC jg jH jX kj jY jZ kh jG dx ci fu jo mj mv dg md mm;go_wp2_with fail
  refine(wpIn_wide (n:=3)).1 ?_;have dJ:j.jb=jb:=by rw[dY.out]
  have dA:Hid ((((List.range nl).map (hxE lc (ks.map fun k=>k.c) (sd % 18446744073709551616))).flatMap fun (x:Nat×(Int×Bool))=>tkL k x.1 (Krw j bs ((List.range nr).map (hxE rc (ks.map fun k=>k.o.toNat) (sd % 18446744073709551616))) x.1 x.2))=jnL k ks lc rc nl nr∧(((List.range nl).map (hxE lc (ks.map fun k=>k.c) (sd % 18446744073709551616))).flatMap fun (x:Nat×(Int×Bool))=>tkR k (Krw j bs ((List.range nr).map (hxE rc (ks.map fun k=>k.o.toNat) (sd % 18446744073709551616))) x.1 x.2))=jnR k ks lc rc nl nr):=by
   have hp:∀ r,Krw j bs ((List.range nr).map (hxE rc (ks.map fun k=>k.o.toNat) (sd % 18446744073709551616))) r (hxR lc (ks.map fun k=>k.c) (sd % 18446744073709551616) r)=jnF ks lc rc nr r:=fun r=>by
    have hf:=bM.out.2.2.1;have:=Kup j bs (sd % 18446744073709551616) nr r (by rw[dY.out]at hf ⊢;exact hf);rw[dY.out]at this ⊢;exact this
   unfold jnL jnR;rw[List.flatMap_map,List.flatMap_map];constructor
   ·refine Ktx ?_;intro r;simp only[hxE];rw[hp r]
   refine Ktx ?_;intro r;simp only[hxE];rw[hp r]
  refine Ksl rfl (by omega) (gf:=190) (lb:=#[.pointer (some ⟨bc+1+1,0,none⟩),.pointer (some ⟨bc+1,0,none⟩),.pointer (some ⟨bc+1+2,0,none⟩)]) rfl trivial (enters_of func190 (by kernel_rfl) rfl)
   HSEQ.out (Oa5 _ _) (fun _=>rfl) (fun q=>q=jb) (fun q y=>⟨y.2,y.1⟩) (fun q y=>by have e:q=jb:=y;have:=dp.out.2.1;omega)
   (fun t W=>Ks5 j t.2 E.heap.size (t.1.flatMap fun (x:Nat×(Int×Bool))=>tkL k x.1 (Krw j bs ((List.range nr).map (hxE rc (ks.map fun k=>k.o.toNat) (sd % 18446744073709551616))) x.1 x.2)) (t.1.flatMap fun (x:Nat×(Int×Bool))=>tkR k (Krw j bs ((List.range nr).map (hxE rc (ks.map fun k=>k.o.toNat) (sd % 18446744073709551616))) x.1 x.2)) W∧Kyq (t.1.flatMap fun (x:Nat×(Int×Bool))=>tkL k x.1 (Krw j bs ((List.range nr).map (hxE rc (ks.map fun k=>k.o.toNat) (sd % 18446744073709551616))) x.1 x.2))∧Krx (fun q=>q=jb) E W∧Kr0 (fun q=>q=jb) t.2 E W∧∀ B,KeepsFrom B E W)
   (fun c t W=>c=.ret∧Kyf (t.1.flatMap fun (x:Nat×(Int×Bool))=>tkL k x.1 (Krw j bs ((List.range nr).map (hxE rc (ks.map fun k=>k.o.toNat) (sd % 18446744073709551616))) x.1 x.2))∧Krx (fun q=>q=jb∨q=w.heap.size+1∨q=w.heap.size+2) E W∧W.heap[w.heap.size+1]?=some (.cells #[.slice none 0 0] 72 (0,0))∧W.heap[w.heap.size+2]?=some (.cells #[(.iface 433 (.pointer (some br)))] 74 (0,0)))
   ?hI ?hIx ?hG ⟨kO.out,Ob7 _,Krx.refl _ _,Kr0.refl (fun q y=>by have e:q=jb:=y;have:=dp.out.2.1;omega),fun B=>KeepsFrom.refl _ _⟩
   (fun x M fE W=>∃ bS,fE={tmps:=#[.slice (some ⟨lb,0,none⟩) lc.length cl,.slice (some ⟨rb,0,none⟩) rc.length cr,.int .i64 (k:Nat),.slice (some ⟨kb,ko,none⟩) ks.length kc,.agg #[.int .i64 (z:Nat),.int .i64 bu,.int .i64 (s:Nat),.int .i64 sd],undef,undef,undef,undef,.pointer (some ⟨w.heap.size,0,none⟩),.pointer (some ⟨w.heap.size+1,0,none⟩),.pointer (some ⟨w.heap.size+2,0,none⟩),.pointer (some ⟨pb,0,none⟩),.slice cj ks.length cW,.slice cX ks.length dz,.pointer (some ⟨bc,0,none⟩),.int .i64 (x.1:Nat),.pointer (some ⟨bS,0,none⟩),undef,.slice (some ⟨lb,0,none⟩) lc.length cl,.slice (some ⟨rb,0,none⟩) rc.length cr,.slice (some ⟨kb,ko,none⟩) ks.length kc,.agg #[.int .i64 (z:Nat),.int .i64 bu,.int .i64 (s:Nat),.int .i64 sd],.pointer (some ⟨w.heap.size,2,none⟩),.int .i64 (s:Nat),.pointer (some ⟨fb,0,none⟩),.map (some mb),v27,.pointer (some ⟨jb,0,none⟩),.tuple #[.slice cj ks.length cW,.slice cX ks.length dz],.slice (some ⟨kb,ko,none⟩) ks.length kc,.tuple #[.slice cj ks.length cW,.slice cX ks.length dz],.slice cj ks.length cW,.slice cX ks.length dz,.pointer (some ⟨jb,0,none⟩),.slice cX ks.length dz,.tuple #[],.pointer (some ⟨jb,0,none⟩),Kt5 jb,.int .i64 (k:Nat),(.func (.func (tkF k)) #[.pointer (some ⟨jb,0,none⟩)] #[]),.pointer (some ⟨jb,0,none⟩),.slice (some ⟨lb,0,none⟩) lc.length cl,.slice cj ks.length cW,(.func (.func 190) #[] #[.pointer (some ⟨bc+1+1,0,none⟩),.pointer (some ⟨bc+1,0,none⟩),.pointer (some ⟨bc+1+2,0,none⟩)]),.int .i64 (x.1:Nat),.agg #[.int .u64 x.2.1,.bool x.2.2],undef,undef,undef,undef,undef,undef,undef,undef,undef,undef,undef,undef,undef,undef,undef,undef,undef,undef,undef,undef,undef,undef,undef,undef,undef,undef,undef,undef,undef,undef,undef,undef,undef,undef,undef],defers:=[]}∧W.heap[bS]?=some (.cells #[.int .u64 x.2.1,.bool x.2.2] 285 (0,0))∧¬ M bS∧(Kr3 x.2.1∧x.1<nl∧x.2=hxR lc (ks.map fun k=>k.c) (sd % 18446744073709551616) x.1)) ?hAx ?assign ?body ?done ?stop
  case hI=>
   rintro⟨l,M⟩ A gC row ⟨⟨lv,rv,X⟩,h0,U,bO,cv⟩ ba hr;refine⟨⟨lv,rv,X.grown ba fun r e=>(hr r e).2⟩,h0,⟨Ob2 U.1 ba.size,fun k H hn=>(ba.block k (Oc2 H U.1) fun e=>by have:=(hr k e.symm).1;omega).trans (U.2 k H hn),ba.os.trans U.out.1,ba.tape.trans U.out.2.1,ba.output.trans U.out.2.2⟩,⟨bO.1,bO.2.1,fun k H=>Oc2 (bO.2.2 k H) ba.size⟩,fun B=>⟨Ob2 U.1 ba.size,fun k o cE H dL=>?_⟩⟩;have mi:=(Oe2.1 H).1;exact(ba.block k (Oc2 mi U.1) fun e=>by have:=(hr k e.symm).1;omega).trans ((cv B).2 k o cE H dL)
  case hIx=>
   rintro c ⟨l,M⟩ A gC row ⟨h0,X,U,bO,cv⟩ ba hr;have jt:=CK.of_grown ba fun r e=>(hr r e).2;exact⟨h0,X,⟨Ob2 U.1 ba.size,fun k H hn=>(ba.block k (Oc2 H U.1) fun e=>by have:=(hr k e.symm).1;omega).trans (U.2 k H hn),ba.os.trans U.out.1,ba.tape.trans U.out.2.1,ba.output.trans U.out.2.2⟩,jt.cells _ _ _ _ bO,jt.cells _ _ _ _ cv⟩
  case hG=>
   rintro t W ⟨⟨lv,rv,X⟩,_⟩;have:=X.cells;rw[dJ,dY.out]at this;exact⟨by simp[World.cell?,this,JnE.cells,jnC],by simp[World.cell?,this,JnE.cells,jnC]⟩
  case hAx=>
   rintro x M fE t A gC row ⟨bS,X,U,bO⟩ ba hr;exact⟨bS,X,(CK.of_grown ba fun r e=>(hr r e).2).cells _ _ _ _ U,bO⟩
  case assign=>
   rintro mQ cJ M ⟨r,h,kF⟩ D cA ⟨⟨lv,rv,X⟩,h0,U,bO,cv⟩ kZ cf K;dsimp only[Kxa];have du:Below D.heap.size D (D.alloc (.cells #[.int .u64 h,.bool kF] 285)):=Jc (Oa5 _ _) _;have kM:Hid (cA _ (D.alloc (.cells #[.int .u64 h,.bool kF] 285))):=K _ _ du ⟨⟨lv,rv,X.blocks fun k H=>du.block k (cf k H)⟩,h0,U.trans (Krx.of_below (M:=fun q=>q=jb) du) fun _=>.inl,⟨bO.1,bO.2.1,fun k H=>Oc2 (cf k H) du.size⟩,fun B=>(cv B).trans (Krz du)⟩ ⟨D.heap.size,rfl,heap_alloc_new D _,fun h=>Oe3 _ (cf _ h),kZ⟩;clear K du X h0 U bO cv cf HSEQ;gi_wp2
   exact kM.out
  case stop=>
   rintro bf c cJ M D kW fr ⟨rfl,jS,ca,mz,m2⟩ K;have bA:=dp.out;have gH:Hid (2000<(jnL k ks lc rc nl nr).length∧Krx (fun q=>q=jb∨q=w.heap.size+1∨q=w.heap.size+2) E D):=by
    refine⟨?_,ca⟩;obtain⟨t,mu⟩:=fr;rw[←dA.out.1,←mu,Oe8,Oa8];have:2000<(cJ.flatMap fun (x:Nat×(Int×Bool))=>tkL k x.1 (Krw j bs ((List.range nr).map (hxE rc (ks.map fun k=>k.o.toNat) (sd % 18446744073709551616))) x.1 x.2)).length:=jS;omega
   clear jS fr ca HSEQ;gi_wp2
   refine⟨by simp,.inl ⟨_,_,rfl,run_takeDeferred K,?_⟩⟩;have cV:∀ r,some bf=some r→∃ o:Obj,D.heap[r]?=some o∧o.isCells=false:=fun r e=>by cases e;exact⟨_,K,rfl⟩
   have dP:=cell_kept (show D.cell? ⟨w.heap.size+1,0,none⟩=some (.slice none 0 0) by simp[World.cell?,mz]) (grownBy_putObj' _ bf (.deferred none)) cV;have dQ:=cell_kept (show D.cell? ⟨w.heap.size+2,0,none⟩=some (.iface 433 (.pointer (some br))) by simp[World.cell?,m2]) (grownBy_putObj' _ bf (.deferred none)) cV;refine⟨.tuple #[.slice none 0 0,(.iface 433 (.pointer (some br)))],by simp[results,Tryz.f108,go_sem,dP,dQ],?_,.inl ⟨gH.out.1,rfl⟩⟩;have bV:=bM.out.2.2.2.2.2.2.2;have H:=gH.out.2;exact⟨H.out.1.trans bV.os,H.out.2.1.trans bV.tape,H.out.2.2.trans bV.output,by have:=H.1;have:=bV.size;simp;omega,fun q y=>(World.putObj_heap_other (by have:=bV.size;omega)).trans ((H.2 q (by have:=bV.size;omega) (fun e=>by rcases e with e|e|e<;>omega)).trans (bV.block q y))⟩
  case done=>
   rintro bf xs M D kW gq ⟨⟨lv,rv,X⟩,dI,ca,ml,mf⟩ K;have gq:xs=((List.range nl).map (hxE lc (ks.map fun k=>k.c) (sd % 18446744073709551616))):=gq;subst gq;simp only at X;rw[dA.out.1,dA.out.2]at X;rw[dA.out.1]at dI;have dI:(jnL k ks lc rc nl nr).length≤2000:=dI;have bA:=dp.out;obtain⟨kw,kz,jP,dK,_⟩:=Ktt X.left;obtain⟨gA,gB,ke,dN,_⟩:=Ktt X.right;have cT:=X.cells;rw[dJ,jP,ke]at cT;have gM:D.cell? ⟨jb,9,none⟩=some (.slice kw (jnL k ks lc rc nl nr).length kz):=by simp[World.cell?,cT,JnE.cells,jnC]
   have gL:D.cell? ⟨jb,10,none⟩=some (.slice gA (jnR k ks lc rc nl nr).length gB):=by simp[World.cell?,cT,JnE.cells,jnC]
   have kC:=(ca.2 pb bA.2.2.1 bA.2.2.2.2.2.1).trans bM.out.2.2.2.1;have dx:D.cell? ⟨pb,0,none⟩=some (.pointer (some ⟨jb,0,none⟩)):=by simp[World.cell?,kC]
   have y:∀ q,q<w.heap.size→D.heap[q]?=w.heap[q]?:=fun q y=>(ca.2 q (by omega) (fun e=>by have e:q=jb:=e;omega)).trans (bM.out.2.2.2.2.2.2.2.block q y);have gx:w.heap.size≤D.heap.size:=by have:=ca.1;omega
   have fq:=Jzq lb cl hl lc nl kw kz (jnL k ks lc rc nl nr) D (bE.out.1.kp (Fx:=fun b=>D.heap[b]?=w.heap[b]?) ⟨gx,fun _ h=>h⟩ ⟨y _ bj.out.1.1,fun i hi b o e=>y _ (bj.out.1.2 i hi b o e)⟩) bE.out.2.2.2.2.1 dK Kvy dw.2 (by omega);have fS:(jnR k ks lc rc nl nr).length≤(jnL k ks lc rc nl nr).length:=by
    unfold jnL jnR;exact Kun _ _ (fun r=>Kxv k r _) _
   have kP:Hid (∀ V,Below D.heap.size D V→Calls prog 106 #[.slice (some ⟨rb,0,none⟩) rc.length cr,.slice gA (jnR k ks lc rc nl nr).length gB] V fun e w'=>Below V.heap.size V w'∧e=.returned (.slice (some ⟨V.heap.size,0,none⟩) rc.length rc.length)∧∃ dv,Qd w' V.heap.size dv (rc.map (Yq (jnR k ks lc rc nl nr)))∧∀ j,j<rc.length→∀ b o,(Yo dv j).1=some ⟨b,o,none⟩→V.heap.size≤b∧b<w'.heap.size):=fun V jj=>Jzq rb cr hr rc nr gA gB (jnR k ks lc rc nl nr) V ((bE.out.2.1.kp (Fx:=fun b=>D.heap[b]?=w.heap[b]?) ⟨gx,fun _ h=>h⟩ ⟨y _ bj.out.2.1.1,fun i hi b o e=>y _ (bj.out.2.1.2 i hi b o e)⟩).below jj) bE.out.2.2.2.2.2 (dN.below jj) Kxi dO.2 (by omega);have di:=(ca.2 (w.heap.size+1) (by omega) (fun e=>by have e:w.heap.size+1=jb:=e;omega)).trans bM.out.2.2.2.2.2.1;have dS:=(ca.2 (w.heap.size+2) (by omega) (fun e=>by have e:w.heap.size+2=jb:=e;omega)).trans bM.out.2.2.2.2.2.2.1;have bC:Hid (D.heap[w.heap.size+1]?=some (.cells #[.slice none 0 0] 72 (0,0))∧D.heap[w.heap.size+2]?=some (.cells #[.nilIface] 74 (0,0))∧D.heap[bf]?=some (.deferred (some []))∧Below w.heap.size w D∧(jnL k ks lc rc nl nr).length≤2000∧w.heap.size+2<bf):=by
    have bV:=bM.out.2.2.2.2.2.2.2;exact⟨di,dS,K,⟨ca.out.1.trans bV.os,ca.out.2.1.trans bV.tape,ca.out.2.2.trans bV.output,gx,y⟩,dI,by omega⟩
   clear X dI ca ml mf K jP dK ke dN cT kC y fS di dS HSEQ dA;rcases(show ((k:Int)=0∨(k:Int)=1)∨((k:Int)=2∨(k:Int)=3) by omega)with de|de
   ·have fC:Hid (k<2):=by show k<2;omega
    rcases de with de|de;all_goals
     go_upto_region 12 with(go_at_call 106;go_must (refine fq.mono ?_);rintro e R ⟨cx,rfl,df,dE,dH⟩;have cn:Hid (Below D.heap.size D R∧Qd R D.heap.size df (lc.map (Yq (jnL k ks lc rc nl nr)))∧∀ i,i<lc.length→∀ b o,(Yo df i).1=some ⟨b,o,none⟩→D.heap.size≤b∧b<R.heap.size):=⟨cx,dE,dH⟩;have mE:=Ja cx dx;have c5:=Ja cx gL;clear dE dH fq)
     have mr:=kP.out R cx;clear cx;go_upto_region 14 with(first|(go_at_call 106;go_must (refine mr.mono ?_);rintro e fd ⟨dt,rfl,gm,fO,fk⟩;have dZ:Hid (Below R.heap.size R fd∧Qd fd R.heap.size gm (rc.map (Yq (jnR k ks lc rc nl nr)))∧∀ i,i<rc.length→∀ b o,(Yo gm i).1=some ⟨b,o,none⟩→R.heap.size≤b∧b<fd.heap.size):=⟨dt,fO,fk⟩;have jq:=Ku3 D.heap.size lc.length R.heap.size rc.length df gm (lc.map (Yq (jnL k ks lc rc nl nr))) (rc.map (Yq (jnR k ks lc rc nl nr))) fd (cn.out.2.1.below dt) fO (by rw[Oa6];exact dw.1) (by rw[Oa6];exact dw.2) (by rw[Oa6];exact dO.2);rw[Oa6,Oa6]at jq;clear dt fO fk)|(go_at_call 146;go_must (refine jq.mono ?_);rintro e bh ⟨fV,g,cap,rfl,mg,jd⟩))
     have cb:Hid (Below D.heap.size D bh∧D.heap.size≤g∧∃ hs,Qd bh g hs (lc.map (Yq (jnL k ks lc rc nl nr))++rc.map (Yq (jnR k ks lc rc nl nr)))∧hs.length=(lc.map (Yq (jnL k ks lc rc nl nr))++rc.map (Yq (jnR k ks lc rc nl nr))).length∧∀ i,i<(lc.map (Yq (jnL k ks lc rc nl nr))++rc.map (Yq (jnR k ks lc rc nl nr))).length→∀ b o,(Yo hs i).1=some ⟨b,o,none⟩→D.heap.size≤b∧b<bh.heap.size):=by
      have mN:=cn.out.1.size;have fv:=dZ.out.1.size;have gu:=fV.size;refine⟨Jb cn.out.1 (Jb dZ.out.1 fV),by omega,_,jd,by simp only[Oa8,Ksk,Oa6],fun i hi b o e=>?_⟩;rw[Oa8,Oa6,Oa6]at hi;by_cases h:i<lc.length
      ·rw[Ksz (by rw[Ksk];exact h),Ksr h]at e;have:=cn.out.2.2 i h b o e;omega
      rw[Kuj (by rw[Ksk];omega),Ksk,Ksr (by omega)]at e;have:=dZ.out.2.2 (i-lc.length) (by omega) b o e;omega
     clear fV mg jd cn dZ;have cI:=(cb.out.1.block _ (Jd bC.out.1)).trans bC.out.1;have dT:=(cb.out.1.block _ (Jd bC.out.2.1)).trans bC.out.2.1;have fP:bf<D.heap.size:=(Oe2.1 bC.out.2.2.1).1;have dR:=(cb.out.1.block bf fP).trans bC.out.2.2.1;have b1:bh.cell? ⟨w.heap.size+1,0,none⟩=some (.slice none 0 0):=by simp[World.cell?,cI]
     have fI:=Lib.frozen_of_heap cI 0;have bK:∀ q,q≠w.heap.size+1→(bh.setCell ⟨w.heap.size+1,0,none⟩ (.slice (some ⟨g,0,none⟩) (lc.length+rc.length) cap)).heap[q]?=bh.heap[q]?:=fun q y=>Oa4 _ _ _ _ y;have bN:∀ q,q≠w.heap.size+2→((bh.setCell ⟨w.heap.size+1,0,none⟩ (.slice (some ⟨g,0,none⟩) (lc.length+rc.length) cap)).setCell ⟨w.heap.size+2,0,none⟩ .nilIface).heap[q]?=(bh.setCell ⟨w.heap.size+1,0,none⟩ (.slice (some ⟨g,0,none⟩) (lc.length+rc.length) cap)).heap[q]?:=fun q y=>Oa4 _ _ _ _ y;have u1:(bh.setCell ⟨w.heap.size+1,0,none⟩ (.slice (some ⟨g,0,none⟩) (lc.length+rc.length) cap)).heap[w.heap.size+1]?=some (.cells #[(.slice (some ⟨g,0,none⟩) (lc.length+rc.length) cap)] 72 (0,0)):=by
      have:=Jk cI 0 (.slice (some ⟨g,0,none⟩) (lc.length+rc.length) cap);simpa using this
     have cK:=(bK (w.heap.size+2) (by omega)).trans dT;have b2:(bh.setCell ⟨w.heap.size+1,0,none⟩ (.slice (some ⟨g,0,none⟩) (lc.length+rc.length) cap)).cell? ⟨w.heap.size+2,0,none⟩=some .nilIface:=by simp only[World.cell?,cK];rfl
     have fJ:=Lib.frozen_of_heap cK 0;have u2:((bh.setCell ⟨w.heap.size+1,0,none⟩ (.slice (some ⟨g,0,none⟩) (lc.length+rc.length) cap)).setCell ⟨w.heap.size+2,0,none⟩ .nilIface).heap[w.heap.size+2]?=some (.cells #[.nilIface] 74 (0,0)):=by
      have:=Jk cK 0 .nilIface;simpa using this
     have dW:=(bN (w.heap.size+1) (by omega)).trans u1;have gw:((bh.setCell ⟨w.heap.size+1,0,none⟩ (.slice (some ⟨g,0,none⟩) (lc.length+rc.length) cap)).setCell ⟨w.heap.size+2,0,none⟩ .nilIface).heap.size=bh.heap.size:=by simp[World.setCell]
     have cF:((bh.setCell ⟨w.heap.size+1,0,none⟩ (.slice (some ⟨g,0,none⟩) (lc.length+rc.length) cap)).setCell ⟨w.heap.size+2,0,none⟩ .nilIface).os=bh.os∧((bh.setCell ⟨w.heap.size+1,0,none⟩ (.slice (some ⟨g,0,none⟩) (lc.length+rc.length) cap)).setCell ⟨w.heap.size+2,0,none⟩ .nilIface).tape=bh.tape∧((bh.setCell ⟨w.heap.size+1,0,none⟩ (.slice (some ⟨g,0,none⟩) (lc.length+rc.length) cap)).setCell ⟨w.heap.size+2,0,none⟩ .nilIface).output=bh.output:=⟨rfl,rfl,rfl⟩;have fk:=bC.out.2.2.2.2.2;have dh:((bh.setCell ⟨w.heap.size+1,0,none⟩ (.slice (some ⟨g,0,none⟩) (lc.length+rc.length) cap)).setCell ⟨w.heap.size+2,0,none⟩ .nilIface).heap[bf]?=some (.deferred (some [])):=(bN bf (by omega)).trans ((bK bf (by omega)).trans dR);have db:∀ q,q≠w.heap.size+1→q≠w.heap.size+2→((bh.setCell ⟨w.heap.size+1,0,none⟩ (.slice (some ⟨g,0,none⟩) (lc.length+rc.length) cap)).setCell ⟨w.heap.size+2,0,none⟩ .nilIface).heap[q]?=bh.heap[q]?:=fun q X U=>(bN q U).trans (bK q X);clear cI dT dR bK bN u1 cK;go_wp2_with fail
     refine⟨by simp,.inl ⟨_,_,rfl,run_takeDeferred dh,?_⟩⟩;generalize ((bh.setCell ⟨w.heap.size+1,0,none⟩ (.slice (some ⟨g,0,none⟩) (lc.length+rc.length) cap)).setCell ⟨w.heap.size+2,0,none⟩ .nilIface)=cC at u2 dW gw cF dh db ⊢;have cV:∀ r,some bf=some r→∃ o:Obj,cC.heap[r]?=some o∧o.isCells=false:=fun r e=>by cases e;exact⟨_,dh,rfl⟩
     have dP:=cell_kept (show cC.cell? ⟨w.heap.size+1,0,none⟩=some (.slice (some ⟨g,0,none⟩) (lc.length+rc.length) cap) by simp[World.cell?,dW]) (grownBy_putObj' _ bf (.deferred none)) cV;have dQ:=cell_kept (show cC.cell? ⟨w.heap.size+2,0,none⟩=some .nilIface by simp[World.cell?,u2]) (grownBy_putObj' _ bf (.deferred none)) cV;have cH:Kr4 k ks lc rc nl nr=(lc.map (Yq (jnL k ks lc rc nl nr))++rc.map (Yq (jnR k ks lc rc nl nr))):=by
      unfold Kr4;rw[if_pos fC.out]
     obtain⟨bP,ba,dv,hC,cG,cS⟩:=cb.out;have mx:=bP.size;have ch:=bC.out.2.2.2.1;have my:=ch.size;have gb:∀ q,D.heap.size≤q→(cC.putObj bf (.deferred none)).heap[q]?=bh.heap[q]?:=fun q y=>(World.putObj_heap_other (by omega)).trans (db q (by omega) (by omega));refine⟨.tuple #[(.slice (some ⟨g,0,none⟩) (lc.length+rc.length) cap),.nilIface],by simp[results,Tryz.f108,go_sem,dP,dQ],?_,.inr ⟨bC.out.2.2.2.2.1,g,cap,dv,?_,by omega,?_,by rw[cH];exact cG,?_⟩⟩
     ·exact⟨cF.1.trans (bP.os.trans ch.os),cF.2.1.trans (bP.tape.trans ch.tape),cF.2.2.trans (bP.output.trans ch.output),by simp;omega,fun q y=>(World.putObj_heap_other (by omega)).trans ((db q (by omega) (by omega)).trans ((bP.block q (by omega)).trans (ch.block q y)))⟩
     ·rw[cH];simp only[Oa8,Oa6]
     ·rw[cH];exact hC.kp (Fx:=fun b=>D.heap.size≤b) ⟨by simp;omega,fun q y=>gb q y⟩ ⟨ba,fun i hi b o e=>(cS i hi b o e).1⟩
     rw[cH];intro i hi b o e;have:=cS i hi b o e;exact⟨by omega,by simp;omega⟩
   have fC:Hid (¬ k<2):=by show ¬ k<2;omega
   rcases de with de|de;all_goals
    go_upto_region 12 with(go_at_call 106;go_must (refine fq.mono ?_);rintro e R ⟨cx,rfl,df,dE,dH⟩;have cn:Hid (Below D.heap.size D R∧Qd R D.heap.size df (lc.map (Yq (jnL k ks lc rc nl nr)))∧∀ i,i<lc.length→∀ b o,(Yo df i).1=some ⟨b,o,none⟩→D.heap.size≤b∧b<R.heap.size):=⟨cx,dE,dH⟩;have mE:=Ja cx dx;have c5:=Ja cx gL;clear dE dH fq)
    go_upto_region 14 with fail
    have cb:Hid (Below D.heap.size D R∧D.heap.size≤D.heap.size∧∃ hs,Qd R D.heap.size hs (lc.map (Yq (jnL k ks lc rc nl nr)))∧hs.length=(lc.map (Yq (jnL k ks lc rc nl nr))).length∧∀ i,i<(lc.map (Yq (jnL k ks lc rc nl nr))).length→∀ b o,(Yo hs i).1=some ⟨b,o,none⟩→D.heap.size≤b∧b<R.heap.size):=by
     refine⟨cn.out.1,Oa2 _,Ksx df (lc.map (Yq (jnL k ks lc rc nl nr))).length,cn.out.2.1.norm,Ksk _ _,fun i hi b o e=>?_⟩;rw[Ksr hi]at e;rw[Oa6]at hi;exact cn.out.2.2 i hi b o e
    clear cx cn;have cI:=(cb.out.1.block _ (Jd bC.out.1)).trans bC.out.1;have dT:=(cb.out.1.block _ (Jd bC.out.2.1)).trans bC.out.2.1;have fP:bf<D.heap.size:=(Oe2.1 bC.out.2.2.1).1;have dR:=(cb.out.1.block bf fP).trans bC.out.2.2.1;have b1:R.cell? ⟨w.heap.size+1,0,none⟩=some (.slice none 0 0):=by simp[World.cell?,cI]
    have fI:=Lib.frozen_of_heap cI 0;have bK:∀ q,q≠w.heap.size+1→(R.setCell ⟨w.heap.size+1,0,none⟩ (.slice (some ⟨D.heap.size,0,none⟩) lc.length lc.length)).heap[q]?=R.heap[q]?:=fun q y=>Oa4 _ _ _ _ y;have bN:∀ q,q≠w.heap.size+2→((R.setCell ⟨w.heap.size+1,0,none⟩ (.slice (some ⟨D.heap.size,0,none⟩) lc.length lc.length)).setCell ⟨w.heap.size+2,0,none⟩ .nilIface).heap[q]?=(R.setCell ⟨w.heap.size+1,0,none⟩ (.slice (some ⟨D.heap.size,0,none⟩) lc.length lc.length)).heap[q]?:=fun q y=>Oa4 _ _ _ _ y;have u1:(R.setCell ⟨w.heap.size+1,0,none⟩ (.slice (some ⟨D.heap.size,0,none⟩) lc.length lc.length)).heap[w.heap.size+1]?=some (.cells #[(.slice (some ⟨D.heap.size,0,none⟩) lc.length lc.length)] 72 (0,0)):=by
     have:=Jk cI 0 (.slice (some ⟨D.heap.size,0,none⟩) lc.length lc.length);simpa using this
    have cK:=(bK (w.heap.size+2) (by omega)).trans dT;have b2:(R.setCell ⟨w.heap.size+1,0,none⟩ (.slice (some ⟨D.heap.size,0,none⟩) lc.length lc.length)).cell? ⟨w.heap.size+2,0,none⟩=some .nilIface:=by simp only[World.cell?,cK];rfl
    have fJ:=Lib.frozen_of_heap cK 0;have u2:((R.setCell ⟨w.heap.size+1,0,none⟩ (.slice (some ⟨D.heap.size,0,none⟩) lc.length lc.length)).setCell ⟨w.heap.size+2,0,none⟩ .nilIface).heap[w.heap.size+2]?=some (.cells #[.nilIface] 74 (0,0)):=by
     have:=Jk cK 0 .nilIface;simpa using this
    have dW:=(bN (w.heap.size+1) (by omega)).trans u1;have gw:((R.setCell ⟨w.heap.size+1,0,none⟩ (.slice (some ⟨D.heap.size,0,none⟩) lc.length lc.length)).setCell ⟨w.heap.size+2,0,none⟩ .nilIface).heap.size=R.heap.size:=by simp[World.setCell]
    have cF:((R.setCell ⟨w.heap.size+1,0,none⟩ (.slice (some ⟨D.heap.size,0,none⟩) lc.length lc.length)).setCell ⟨w.heap.size+2,0,none⟩ .nilIface).os=R.os∧((R.setCell ⟨w.heap.size+1,0,none⟩ (.slice (some ⟨D.heap.size,0,none⟩) lc.length lc.length)).setCell ⟨w.heap.size+2,0,none⟩ .nilIface).tape=R.tape∧((R.setCell ⟨w.heap.size+1,0,none⟩ (.slice (some ⟨D.heap.size,0,none⟩) lc.length lc.length)).setCell ⟨w.heap.size+2,0,none⟩ .nilIface).output=R.output:=⟨rfl,rfl,rfl⟩;have fk:=bC.out.2.2.2.2.2;have dh:((R.setCell ⟨w.heap.size+1,0,none⟩ (.slice (some ⟨D.heap.size,0,none⟩) lc.length lc.length)).setCell ⟨w.heap.size+2,0,none⟩ .nilIface).heap[bf]?=some (.deferred (some [])):=(bN bf (by omega)).trans ((bK bf (by omega)).trans dR);have db:∀ q,q≠w.heap.size+1→q≠w.heap.size+2→((R.setCell ⟨w.heap.size+1,0,none⟩ (.slice (some ⟨D.heap.size,0,none⟩) lc.length lc.length)).setCell ⟨w.heap.size+2,0,none⟩ .nilIface).heap[q]?=R.heap[q]?:=fun q X U=>(bN q U).trans (bK q X);clear cI dT dR bK bN u1 cK;go_wp2_with fail
    refine⟨by simp,.inl ⟨_,_,rfl,run_takeDeferred dh,?_⟩⟩;generalize ((R.setCell ⟨w.heap.size+1,0,none⟩ (.slice (some ⟨D.heap.size,0,none⟩) lc.length lc.length)).setCell ⟨w.heap.size+2,0,none⟩ .nilIface)=cC at u2 dW gw cF dh db ⊢;have cV:∀ r,some bf=some r→∃ o:Obj,cC.heap[r]?=some o∧o.isCells=false:=fun r e=>by cases e;exact⟨_,dh,rfl⟩
    have dP:=cell_kept (show cC.cell? ⟨w.heap.size+1,0,none⟩=some (.slice (some ⟨D.heap.size,0,none⟩) lc.length lc.length) by simp[World.cell?,dW]) (grownBy_putObj' _ bf (.deferred none)) cV;have dQ:=cell_kept (show cC.cell? ⟨w.heap.size+2,0,none⟩=some .nilIface by simp[World.cell?,u2]) (grownBy_putObj' _ bf (.deferred none)) cV;have cH:Kr4 k ks lc rc nl nr=(lc.map (Yq (jnL k ks lc rc nl nr))):=by
     unfold Kr4;rw[if_neg fC.out]
    obtain⟨bP,ba,dv,hC,cG,cS⟩:=cb.out;have mx:=bP.size;have ch:=bC.out.2.2.2.1;have my:=ch.size;have gb:∀ q,D.heap.size≤q→(cC.putObj bf (.deferred none)).heap[q]?=R.heap[q]?:=fun q y=>(World.putObj_heap_other (by omega)).trans (db q (by omega) (by omega));refine⟨.tuple #[(.slice (some ⟨D.heap.size,0,none⟩) lc.length lc.length),.nilIface],by simp[results,Tryz.f108,go_sem,dP,dQ],?_,.inr ⟨bC.out.2.2.2.2.1,D.heap.size,lc.length,dv,?_,by omega,?_,by rw[cH];exact cG,?_⟩⟩
    ·exact⟨cF.1.trans (bP.os.trans ch.os),cF.2.1.trans (bP.tape.trans ch.tape),cF.2.2.trans (bP.output.trans ch.output),by simp;omega,fun q y=>(World.putObj_heap_other (by omega)).trans ((db q (by omega) (by omega)).trans ((bP.block q (by omega)).trans (ch.block q y)))⟩
    ·rw[cH];simp only[Oa6]
    ·rw[cH];exact hC.kp (Fx:=fun b=>D.heap.size≤b) ⟨by simp;omega,fun q y=>gb q y⟩ ⟨ba,fun i hi b o e=>(cS i hi b o e).1⟩
    rw[cH];intro i hi b o e;have:=cS i hi b o e;exact⟨by omega,by simp;omega⟩
  case body=>
   rintro mP cJ M ⟨row,h,bB⟩ fE O ⟨dG,cG,fm,fo,jv⟩ ⟨bS,rfl,cU,jI,kl,kd,kr⟩ cf fr;simp only at cU kl kd kr dG cG fo;have bA:=dp.out;have gu:=fm.1;have fz:∀ q,q<E.heap.size→q≠jb→O.heap[q]?=E.heap[q]?:=fun q X U=>fm.2 q X U;have kE:=(fz bc bA.2.2.2.1 bA.2.2.2.2.2.2.1).trans bM.out.2.2.2.2.1;have kD:=(fz pb bA.2.2.1 bA.2.2.2.2.2.1).trans bM.out.2.2.2.1;have dV:O.cell? ⟨bc,0,none⟩=some (.func (.func (tkF k)) #[.pointer (some ⟨jb,0,none⟩)] #[]):=by simp[World.cell?,kE]
   have dj:O.cell? ⟨pb,0,none⟩=some (.pointer (some ⟨jb,0,none⟩)):=by simp[World.cell?,kD]
   have fy:O.cell? ⟨bS,0,none⟩=some (.int .u64 h):=by simp[World.cell?,cU]
   have dy:O.cell? ⟨bS,1,none⟩=some (.bool bB):=by simp[World.cell?,cU]
   have gj:∀ q,q<E.heap.size→q≠jb→¬ M q:=fun q X U e=>by
    rcases fo.2.1 q e with e|e
    ·exact U e
    omega
   obtain⟨bW,ff⟩:∃ bW,bW=(cJ.flatMap fun (x:Nat×(Int×Bool))=>tkL k x.1 (Krw j bs ((List.range nr).map (hxE rc (ks.map fun k=>k.o.toNat) (sd % 18446744073709551616))) x.1 x.2)):=⟨_,rfl⟩;obtain⟨cB,fh⟩:∃ cB,cB=(cJ.flatMap fun (x:Nat×(Int×Bool))=>tkR k (Krw j bs ((List.range nr).map (hxE rc (ks.map fun k=>k.o.toNat) (sd % 18446744073709551616))) x.1 x.2)):=⟨_,rfl⟩;have fS:cB.length≤bW.length:=by
    rw[ff,fh];exact Kun _ _ (fun x=>Kxv k x.1 _) cJ
   have dk:Hid (((cJ++[(row,h,bB)]).flatMap fun (x:Nat×(Int×Bool))=>tkL k x.1 (Krw j bs ((List.range nr).map (hxE rc (ks.map fun k=>k.o.toNat) (sd % 18446744073709551616))) x.1 x.2))=bW++tkL k row (Krw j bs ((List.range nr).map (hxE rc (ks.map fun k=>k.o.toNat) (sd % 18446744073709551616))) row (h,bB))∧((cJ++[(row,h,bB)]).flatMap fun (x:Nat×(Int×Bool))=>tkR k (Krw j bs ((List.range nr).map (hxE rc (ks.map fun k=>k.o.toNat) (sd % 18446744073709551616))) x.1 x.2))=cB++tkR k (Krw j bs ((List.range nr).map (hxE rc (ks.map fun k=>k.o.toNat) (sd % 18446744073709551616))) row (h,bB))):=by
    rw[ff,fh,Oe8,Oe8,Ol6,Ol6];exact⟨rfl,rfl⟩
   rw[←ff]at dG cG;have cG:bW.length≤2000:=cG;rw[←fh]at dG;have fD:Hid (∀ bn,bn=((O.drew.alloc (.cells #[.pointer (some ⟨jb,0,none⟩)] 270)).alloc (.cells #[.int .i64 (row:Nat)] 3)).alloc (.cells #[.int .u64 h,.bool bB] 285)→Below O.heap.size O bn∧Calls prog (tkF k) #[.pointer (some ⟨jb,0,none⟩),.int .i64 (row:Nat),.func (.func 192) #[] #[.pointer (some ⟨O.heap.size+2,0,none⟩),.pointer (some ⟨O.heap.size,0,none⟩),.pointer (some ⟨O.heap.size+1,0,none⟩)]] bn fun e w'=>e=.returned (.tuple #[])∧Kr7 j M E.heap.size (bW++tkL k row (Krw j bs ((List.range nr).map (hxE rc (ks.map fun k=>k.o.toNat) (sd % 18446744073709551616))) row (h,bB))) (cB++tkR k (Krw j bs ((List.range nr).map (hxE rc (ks.map fun k=>k.o.toNat) (sd % 18446744073709551616))) row (h,bB))) bn w'):=fun bn fi=>by
    obtain⟨z1,fL,g1,g2,bQ⟩:=Jur O.drew _ _ _ bn fi.symm;have bQ:Below O.heap.size O bn:=Jw bQ;have z1:bn.heap.size=O.heap.size+3:=z1;have fL:bn.heap[O.heap.size]?=some (.cells #[.pointer (some ⟨jb,0,none⟩)] 270 (0,0)):=fL;have g1:bn.heap[O.heap.size+1]?=some (.cells #[.int .i64 (row:Nat)] 3 (0,0)):=g1;have g2:bn.heap[O.heap.size+2]?=some (.cells #[.int .u64 h,.bool bB] 285 (0,0)):=g2;have y:∀ q,JnB j cu q→bn.heap[q]?=E.heap[q]?:=fun q y=>(bQ.block q (by have:=(bA.1 q y).1;omega)).trans (fz q (bA.1 q y).1 (bA.1 q y).2.1);have mc:=bM.out.1.bd.inM.1;have kX:Ks2 j cu ((List.range nr).map (hxE rc (ks.map fun k=>k.o.toNat) (sd % 18446744073709551616))) nl nr bs h bB row (O.heap.size+2) O.heap.size (O.heap.size+1) M bn:=by
     refine⟨bM.out.1.blocks (by omega) y,bM.out.2.1.keep (y _ (.inr (.inl rfl))) (y _ (.inl mc)),kl,kd,?_,g2,?_,?_,⟨fun e=>?_,fun e=>?_,fun e=>?_,fun q ft=>gj q (bA.1 q ft).1 (bA.1 q ft).2.1⟩,by omega,by omega,by omega,fun q ft=>by have:=(bA.1 q ft).1;omega⟩
     ·rw[Oa6,Op1];omega
     ·rw[dJ];simp[World.cell?,fL]
     ·simp[World.cell?,g1]
     ·have:=cf _ e;omega
     ·have:=cf _ e;omega
     have:=cf _ e;omega
    have kY:Ks5 j M E.heap.size bW cB bn:=by
     obtain⟨lv,rv,dL⟩:=dG;exact⟨lv,rv,dL.blocks fun q y=>bQ.block q (cf q y)⟩
    have:=Kwg k H j cu M ((List.range nr).map (hxE rc (ks.map fun k=>k.o.toNat) (sd % 18446744073709551616))) nl nr row _ _ _ E.heap.size bs h bB bW cB bn kX kY (fun q y=>Oc2 (cf q y) bQ.size) (by omega) ⟨by omega,by omega⟩;rw[dJ]at this;exact⟨bQ,this⟩
   have kL:Hid (Krx (fun q=>q=jb) E O∧Kr0 (fun q=>q=jb) M E O∧(∀ B,KeepsFrom B E O)∧(∀ q,q<E.heap.size→q≠jb→¬ M q)∧¬ M bS∧bS<O.heap.size∧E.heap.size≤O.heap.size):=⟨fm,fo,jv,gj,jI,Jd cU,gu⟩;have me:=Kw0 k;obtain⟨fK,jz⟩:∃ fK,fK=tkF k:=⟨_,rfl⟩;rw[←jz]at me fD dV ⊢;clear dG cG fm fo jv cU jI kr cf fr fz kE kD gj ff fh fS gu HSEQ bA jz;gi_wp2_with fail
   refine Kix (S:=fun cO=>cO.cell? ⟨bc,0,none⟩=some (.func (.func fK) #[.pointer (some ⟨jb,0,none⟩)] #[])∧cO.cell? ⟨pb,0,none⟩=some (.pointer (some ⟨jb,0,none⟩))∧cO.cell? ⟨bS,0,none⟩=some (.int .u64 h)∧cO.cell? ⟨bS,1,none⟩=some (.bool bB)) (by kernel_rfl) (by kernel_rfl) ⟨Jh dV,Jh dj,Jh fy,Jh dy⟩ (fun bU=>?_);refine tkj 0 rfl bU ?_;refine tkj 1 rfl bU ?_;refine tkj 2 rfl bU ?_;refine tkj 3 rfl bU ?_;refine tkj 4 rfl bU ?_;refine tkn ?_;refine tkr 5 rfl fun cA K=>?_;go_simp;refine(Kum jb row h bB O.drew).mono ?_;rintro e bn ⟨rfl,fi⟩;obtain⟨bQ,js⟩:=fD.out bn fi;clear fi fD;go_simp;refine K.out _ _ ⟨Ja bQ dV,Ja bQ dj,Ja bQ fy,Ja bQ dy⟩ (fun bU=>?_);clear K cA;refine tkr 6 rfl fun cA K=>?_;go_simp;refine js.mono ?_;rintro e Y ⟨rfl,da,⟨kB,mH,fg⟩,gh,jU,jy⟩;have bT:Hid (Ksd j da E.heap.size (bW++tkL k row (Krw j bs ((List.range nr).map (hxE rc (ks.map fun k=>k.o.toNat) (sd % 18446744073709551616))) row (h,bB))) (cB++tkR k (Krw j bs ((List.range nr).map (hxE rc (ks.map fun k=>k.o.toNat) (sd % 18446744073709551616))) row (h,bB))) kB mH Y∧Krx M bn Y∧Kr0 M da bn Y∧(∀ B,KeepsFrom B bn Y)∧Below O.heap.size O bn):=⟨fg,gh,jU,jy,bQ⟩;have bZ:=kL.out;have bA:=dp.out;have ku:=bQ.size;have dU:∀ q,q<O.heap.size→¬ M q→Y.heap[q]?=O.heap[q]?:=fun q X U=>(gh.2 q (by omega) U).trans (bQ.block q X);have kJ:=(Oc3 (dU bc (by omega) (bZ.2.2.2.1 bc bA.2.2.2.1 bA.2.2.2.2.2.2.1))).trans dV;have dx:=(Oc3 (dU pb (by omega) (bZ.2.2.2.1 pb bA.2.2.1 bA.2.2.2.2.2.1))).trans dj;have kH:=(Oc3 (dU bS bZ.2.2.2.2.2.1 bZ.2.2.2.2.1)).trans fy;have kI:=(Oc3 (dU bS bZ.2.2.2.2.2.1 bZ.2.2.2.2.1)).trans dy;obtain⟨kx,kA,gi⟩:=Ktp fg.left;have cT:=fg.cells;rw[dJ]at cT;have gM:Y.cell? ⟨jb,9,none⟩=some (.slice kx (bW++tkL k row (Krw j bs ((List.range nr).map (hxE rc (ks.map fun k=>k.o.toNat) (sd % 18446744073709551616))) row (h,bB))).length kA):=by
    rw[←gi];simp[World.cell?,cT,JnE.cells,jnC]
   have kN:Hid (kB=.slice kx (bW++tkL k row (Krw j bs ((List.range nr).map (hxE rc (ks.map fun k=>k.o.toNat) (sd % 18446744073709551616))) row (h,bB))).length kA):=gi;obtain⟨dC,je⟩:∃ dC,dC=bW++tkL k row (Krw j bs ((List.range nr).map (hxE rc (ks.map fun k=>k.o.toNat) (sd % 18446744073709551616))) row (h,bB)):=⟨_,rfl⟩;obtain⟨gK,jh⟩:∃ gK,gK=cB++tkR k (Krw j bs ((List.range nr).map (hxE rc (ks.map fun k=>k.o.toNat) (sd % 18446744073709551616))) row (h,bB)):=⟨_,rfl⟩;rw[←je]at gM kN bT dk;rw[←jh]at bT dk;clear fg gh jU jy bQ js dV dj fy dy cT gi je jh;go_simp;refine K.out _ _ ⟨kJ,dx,kH,kI⟩ (fun _=>?_);clear K cA bU;refine wpAnyH_done (by kernel_rfl) ?_ _;dsimp only[Jpf];have jK:Krx (fun q=>q=jb) E Y:=(bZ.1.trans (Krx.of_below (M:=fun q=>q=jb) bT.out.2.2.2.2) fun _=>.inl).trans bT.out.2.1 bZ.2.1.2.1;have jR:Kr0 (fun q=>q=jb) da E Y:=bZ.2.1.trans bT.out.2.2.1 (Ob2 bZ.2.2.2.2.2.2 ku);have jw:∀ B,KeepsFrom B O Y:=fun B=>(Krz bT.out.2.2.2.2).trans (bT.out.2.2.2.1 B);have jJ:Krx M O Y:=(Krx.of_below (M:=M) bT.out.2.2.2.2).trans bT.out.2.1 fun _=>.inl;have jQ:Kr0 M da O Y:=⟨bT.out.2.2.1.1,fun q y=>(bT.out.2.2.1.2.1 q y).elim .inl fun e=>.inr (by omega),bT.out.2.2.1.2.2⟩;have bG:Hid (Krx (fun q=>q=jb) E Y∧Kr0 (fun q=>q=jb) da E Y∧(∀ B,KeepsFrom B O Y)∧Krx M O Y∧Kr0 M da O Y∧∀ B,KeepsFrom B E O):=⟨jK,jR,jw,jJ,jQ,bZ.2.2.1⟩;clear jK jR jw jJ jQ bZ kJ kH kI dU ku;by_cases jF:2000<dC.length
   ·have j1:(dC.length:Int)>2000:=(by omega);have gc:Y.cell? ⟨13,0,none⟩=some (.iface 433 (.pointer (some br))):=by
     have jE:13<w.heap.size:=Jm bj.out.2.2.2;exact(Oc3 ((bG.out.1.2 13 (by omega) (fun e=>by have e:13=jb:=e;omega)).trans (bM.out.2.2.2.2.2.2.2.block 13 jE))).trans bj.out.2.2.2
    have di:=(bG.out.1.2 (w.heap.size+1) (by omega) (fun e=>by have e:w.heap.size+1=jb:=e;omega)).trans bM.out.2.2.2.2.2.1;have dS:=(bG.out.1.2 (w.heap.size+2) (by omega) (fun e=>by have e:w.heap.size+2=jb:=e;omega)).trans bM.out.2.2.2.2.2.2.1;gi_wp2_with fail
    have b1:Y.cell? ⟨w.heap.size+1,0,none⟩=some (.slice none 0 0):=by simp[World.cell?,di]
    have fI:=Lib.frozen_of_heap di 0;have gp:(Y.setCell ⟨w.heap.size+1,0,none⟩ (.slice none 0 0)).heap[w.heap.size+1]?=some (.cells #[.slice none 0 0] 72 (0,0)):=by
     have:=Jk di 0 (.slice none 0 0);simpa using this
    have bK:∀ q,q≠w.heap.size+1→(Y.setCell ⟨w.heap.size+1,0,none⟩ (.slice none 0 0)).heap[q]?=Y.heap[q]?:=fun q y=>Oa4 _ _ _ _ y;have kg:(Y.setCell ⟨w.heap.size+1,0,none⟩ (.slice none 0 0)).heap.size=Y.heap.size:=by simp[World.setCell]
    have jE:13<w.heap.size:=Jm bj.out.2.2.2;refine Kix (S:=fun cO=>cO.cell? ⟨13,0,none⟩=some (.iface 433 (.pointer (some br)))) (by kernel_rfl) (by kernel_rfl) (Jh gc) (fun bU=>?_);refine tkj 0 rfl bU ?_;refine tkn ?_;refine tkr 1 rfl fun cA K=>?_;go_simp;have dM:(Y.setCell ⟨w.heap.size+1,0,none⟩ (.slice none 0 0)).os=Y.os∧(Y.setCell ⟨w.heap.size+1,0,none⟩ (.slice none 0 0)).tape=Y.tape∧(Y.setCell ⟨w.heap.size+1,0,none⟩ (.slice none 0 0)).output=Y.output:=⟨rfl,rfl,rfl⟩;refine K.out _ _ ((Oc3 (bK 13 (by omega))).trans gc) (fun bU=>?_);clear K cA;generalize Y.setCell ⟨w.heap.size+1,0,none⟩ (.slice none 0 0)=bI at gp bK kg dM bU ⊢;have fw:=(bK (w.heap.size+2) (by omega)).trans dS;have b2:bI.cell? ⟨w.heap.size+2,0,none⟩=some .nilIface:=by simp[World.cell?,fw]
    have fJ:=Lib.frozen_of_heap fw 0;have bN:∀ q,q≠w.heap.size+2→(bI.setCell ⟨w.heap.size+2,0,none⟩ (.iface 433 (.pointer (some br)))).heap[q]?=bI.heap[q]?:=fun q y=>Oa4 _ _ _ _ y;have kq:(bI.setCell ⟨w.heap.size+2,0,none⟩ (.iface 433 (.pointer (some br)))).heap[w.heap.size+2]?=some (.cells #[(.iface 433 (.pointer (some br)))] 74 (0,0)):=by
     have:=Jk fw 0 (.iface 433 (.pointer (some br)));simpa using this
    have mt:(bI.setCell ⟨w.heap.size+2,0,none⟩ (.iface 433 (.pointer (some br)))).heap.size=bI.heap.size:=by simp[World.setCell]
    have fp:(bI.setCell ⟨w.heap.size+2,0,none⟩ (.iface 433 (.pointer (some br)))).os=bI.os∧(bI.setCell ⟨w.heap.size+2,0,none⟩ (.iface 433 (.pointer (some br)))).tape=bI.tape∧(bI.setCell ⟨w.heap.size+2,0,none⟩ (.iface 433 (.pointer (some br)))).output=bI.output:=⟨rfl,rfl,rfl⟩;have jD:=bU;refine tkr 2 rfl fun cA K=>?_;go_simp;refine K.out _ _ ((Oc3 (bN 13 (by omega))).trans jD) (fun _=>?_);clear K cA bU;refine wpAnyH_done (by kernel_rfl) ?_ _;dsimp only[Jpf];have dm:Hid (KeepsFrom E.heap.size O (bI.setCell ⟨w.heap.size+2,0,none⟩ (.iface 433 (.pointer (some br))))∧Krx (fun q=>q=jb∨q=w.heap.size+1∨q=w.heap.size+2) E (bI.setCell ⟨w.heap.size+2,0,none⟩ (.iface 433 (.pointer (some br))))∧(bI.setCell ⟨w.heap.size+2,0,none⟩ (.iface 433 (.pointer (some br)))).heap[w.heap.size+1]?=some (.cells #[.slice none 0 0] 72 (0,0))∧(bI.setCell ⟨w.heap.size+2,0,none⟩ (.iface 433 (.pointer (some br)))).heap[w.heap.size+2]?=some (.cells #[(.iface 433 (.pointer (some br)))] 74 (0,0))∧Kyf (((cJ++[(row,h,bB)]).flatMap fun (x:Nat×(Int×Bool))=>tkL k x.1 (Krw j bs ((List.range nr).map (hxE rc (ks.map fun k=>k.o.toNat) (sd % 18446744073709551616))) x.1 x.2)))):=by
     refine⟨⟨?_,fun q o cE y dL=>?_⟩,⟨?_,fun q y hn=>?_,?_⟩,(bN _ (by omega)).trans gp,kq,?_⟩
     ·have:=(bG.out.2.2.1 0).1;omega
     ·rw[bN q (by omega),bK q (by omega)];exact(bG.out.2.2.1 E.heap.size).2 q o cE y dL
     ·have:=bG.out.1.1;omega
     ·rw[bN q (fun e=>hn (.inr (.inr e))),bK q (fun e=>hn (.inr (.inl e)))];exact bG.out.1.2 q y (fun e=>hn (.inl e))
     ·exact⟨fp.1.trans (dM.1.trans bG.out.1.out.1),fp.2.1.trans (dM.2.1.trans bG.out.1.out.2.1),fp.2.2.trans (dM.2.2.trans bG.out.1.out.2.2)⟩
     rw[dk.out.1];exact jF
    clear gp bK kg dM fw b2 fJ bN kq mt fp jD b1 fI di dS gc;gi_wp2
    refine⟨⟨dm.out.1.1,dm.out.1.2⟩,?_⟩;have gg:=dm.out.2.1;exact⟨rfl,dm.out.2.2.2.2,⟨gg.size,gg.block,gg.out⟩,dm.out.2.2.1,dm.out.2.2.2.1⟩
   have j1:¬ (dC.length:Int)>2000:=(by omega);gi_wp2
   refine⟨bG.out.2.2.1 _,trivial,da,⟨⟨_,_,by rw[dk.out.1,dk.out.2];exact bT.out.1⟩,by rw[dk.out.1];exact Nat.not_lt.1 jF,bG.out.1,bG.out.2.1,fun B=>(bG.out.2.2.2.2.2 B).trans (bG.out.2.2.1 B)⟩,bG.out.2.2.2.1,bG.out.2.2.2.2.1⟩
end Go.Proofs.YtpchafocmlhmbaaGreatDoor
