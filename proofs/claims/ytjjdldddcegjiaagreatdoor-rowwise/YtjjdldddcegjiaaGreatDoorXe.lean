/- The twelve methods of Work. -/
import Derived.Test.YtjjdldddcegjiaaGreatDoorXd
set_option maxHeartbeats 1000000
set_option maxRecDepth 100000
namespace Go.Proofs.YtjjdldddcegjiaaGreatDoor
open Go.RowKit Go.Shelf Tryz
attribute [local go_sem] Oc0
structure Jg5 (w:World) (b:Nat) (ex ba:Value) (first n pb po k cp:Nat) (er:Value) (L Rr:Nat) (lv rv:List V) (dv ov:Addr):Prop where
 wk:Uz w b ex ba first n (.slice (some ⟨pb,po,none⟩) k cp) er
 hL:L<k
 hR:Rr<k
 hn:n≤100000
 hf:first+n≤10000000
 cL:∃ al cl,w.cell? ⟨pb,po+L,none⟩=some (.slice al lv.length cl)∧Jv w al lv
 cR:∃ ar cr,w.cell? ⟨pb,po+Rr,none⟩=some (.slice ar rv.length cr)∧Jv w ar rv
 nl:n≤lv.length
 nr:n≤rv.length
 gl:∀ i (hi:i<lv.length),i<n→Jg lv[i].n
 gr:∀ i (hi:i<rv.length),i<n→Jg rv[i].n
 err:Jdo w dv ov
theorem Jg5.below {w w':World}{b:Nat}{ex ba:Value}{first n M O k cp:Nat}{E:Value}{L C:Nat}{H R:List V}{D K:Addr}(h:Jg5 w b ex ba first n M O k cp E L C H R D K)(y:Below w.heap.size w w'):Jg5 w' b ex ba first n M O k cp E L C H R D K:=
 ⟨h.wk.below y,h.hL,h.hR,h.hn,h.hf,by obtain⟨a,c,z,A⟩:=h.cL;exact⟨a,c,Ja y z,A.below y⟩,by obtain⟨a,c,z,A⟩:=h.cR;exact⟨a,c,Ja y z,A.below y⟩,h.nl,h.nr,h.gl,h.gr,h.err.below y⟩
def Jku (A C:Addr)(f:Nat)(D:V→V→V×Nat):Prop:=(∀ (args:Array Value) (W:World),(callFunc f args).run prog W=.ok (.enter f args) W)∧∀ x z y,Jg x.n→Jg z.n→Jdo y A C→Calls prog f #[x.val,z.val] y (Jah A C y (D x z))
theorem Jpk {w:World}{b:Nat}{ex ba:Value}{first n H K k cp:Nat}{D:Value}{L C:Nat}{E M:List V}{y z:Addr}(h:Jg5 w b ex ba first n H K k cp D L C E M y z)(p:Pt)(bn:p.l=L)(br:p.r=C){f:Nat}{A:V→V→V×Nat}(O:Jku y z f A) :
  Calls prog 235 #[.pointer (some ⟨b,0,none⟩),p.val,.func (.func f) #[] #[]] w (Qa y z b ex ba first n (.slice (some ⟨H,K,none⟩) k cp) D k w A E M):=by
 obtain⟨U,Z,bf,bh⟩:=h.cL
 obtain⟨X,bc,bi,bj⟩:=h.cR
 exact Jpe b p f #[] A (fun v=>Jg v.n) y z ex ba first n H K k cp D L C U X Z bc E M w h.wk bn br h.hL h.hR h.hn h.hf bf bi bh bj h.nl h.nr h.gl h.gr O.1 fun x bz R bu bx bl=>O.2 x bz R bu bx (h.err.below bl)
theorem Jdf {w:World}{b:Nat}{ex ba:Value}{first n M O k cp:Nat}{E:Value}{L U:Nat}{K R:List V}{z A:Addr}(h:Jg5 w b ex ba first n M O k cp E L U K R z A)(p:Pt)(bi:p.l=L)(bj:p.r=U){f:Nat}{D:V→V→V×Nat}(Z:Jku z A f D) :
  Calls prog 228 #[.pointer (some ⟨b,0,none⟩),p.val,.func (.func f) #[] #[]] w (Qa z A b ex ba first n (.slice (some ⟨M,O,none⟩) k cp) E k w (Kd D) K R):=by
 obtain⟨C,H⟩:∃ C,C=(w.alloc (.cells #[.int .i64 p.op,.int .i64 p.l,.int .i64 p.r,.int .i64 p.c,.int .i64 p.v.k,.int .i64 p.v.n,.string p.v.s] 51)).alloc (.cells #[.func (.func f) #[] #[]] 391):=⟨_,rfl⟩
 have X:Below w.heap.size w C:=by rw[H];exact Jc (Jc (Oa5 _ _) _) _
 have bf:C.cell? ⟨w.heap.size+1,0,none⟩=some (.func (.func f) #[] #[]):=by
  have:=heap_alloc_new (w.alloc (.cells #[.int .i64 p.op,.int .i64 p.l,.int .i64 p.r,.int .i64 p.c,.int .i64 p.v.k,.int .i64 p.v.n,.string p.v.s] 51)) (.cells #[.func (.func f) #[] #[]] 391)
  rw[←H,Oa7]at this
  simp[World.cell?,this]
 have bh:Calls prog 235 #[.pointer (some ⟨b,0,none⟩),p.val,.func (.func 271) #[] #[.pointer (some ⟨w.heap.size+1,0,none⟩)]] C (Qa z A b ex ba first n (.slice (some ⟨M,O,none⟩) k cp) E k w (Kd D) K R):=by
  have y:=h.below X
  obtain⟨bu,bz,bB,bC⟩:=y.cL
  obtain⟨bx,bA,bD,bE⟩:=y.cR
  refine(Jpe b p 271 #[.pointer (some ⟨w.heap.size+1,0,none⟩)] (Kd D) (fun v=>Jg v.n) z A ex ba first n M O k cp E L U bu bx bz bA K R C y.wk bi bj y.hL y.hR y.hn y.hf bB bD bC bE y.nl y.nr y.gl y.gr (fun args W=>by kernel_rfl) fun x bl bn bJ bK bc=>?_).mono fun e w' bH=>bH.back X
  exact Js9 x bl (w.heap.size+1) f D bn z A Z.1 (Ja bc bf) fun br bG=>Z.2 x bl br bJ bK (y.err.below (Jb bc bG))
 rw[H]at bh
 clear bf X H h Z bi bj
 go_enter func228,ntmps228
 go_wp2_with (go_at_call 235;refine bh.mono ?_;rintro e bL ⟨g,m,vs,rfl,bI⟩)
 go_ret
 exact⟨g,m,vs,rfl,bI⟩
theorem Kf4 (y z:Addr):Jku y z 229 Jik:=⟨fun args W=>by kernel_rfl,fun x H A D E C=>Kdj x H A y z C D E⟩
theorem Kds (y z:Addr):Jku y z 230 Jiw:=⟨fun args W=>by kernel_rfl,fun x H A D E C=>Ka9 x H A y z C D E⟩
theorem Kc1 (y z:Addr):Jku y z 231 Jkj:=⟨fun args W=>by kernel_rfl,fun x H A D E C=>Jyn x H A y z C D E⟩
theorem Kgf (y z:Addr):Jku y z 232 Jg4:=⟨fun args W=>by kernel_rfl,fun x H A D E C=>Kce x H A y z C D E⟩
theorem Kc9 (y z:Addr):Jku y z 233 Jsg:=⟨fun args W=>by kernel_rfl,fun x C A _ _ _=>Jzy x C A y z⟩
theorem Kbj (y z:Addr):Jku y z 234 Jkc:=⟨fun args W=>by kernel_rfl,fun x C A _ _ _=>Jxr x C A y z⟩
theorem Key (y z:Addr):Jku y z 236 Jse:=⟨fun args W=>by kernel_rfl,fun x C A _ _ _=>Kay x C A y z⟩
theorem Jv9 (y z:Addr):Jku y z 237 orR:=⟨fun args W=>by kernel_rfl,fun x C A _ _ _=>Js1 x C A y z⟩
theorem Kf2 (y z:Addr):Jku y z 239 Ju0:=⟨fun args W=>by kernel_rfl,fun x C A _ _ _=>Ke4 x C A y z⟩
theorem Kd6 (y z:Addr):Jku y z 240 Jle:=⟨fun args W=>by kernel_rfl,fun x C A _ _ _=>Jyo x C A y z⟩
theorem Jmc (p:Pt)(w:World):Calls prog 238 #[p.val] w fun e w'=>e=.returned (Pt.mk p.op p.l p.l p.c p.v).val∧Below w.heap.size w w':=by
 go_enter func238,ntmps238
 go_wp2
 exact bodyPost_ret (v:=(Pt.mk p.op p.l p.l p.c p.v).val) (by simp[results,results238,go_sem]) rfl ⟨rfl,(by repeat (first|exact Oa5 _ _|refine Jc ?_ _|refine Jj ?_))⟩
theorem Kdq {w:World}{b:Nat}{ex ba:Value}{first n M O k cp:Nat}{C:Value}{L A:Nat}{K R:List V}{y z:Addr}(h:Jg5 w b ex ba first n M O k cp C L A K R y z)(p:Pt)(E:p.l=L)(H:p.r=A) :
  Calls prog 187 #[.pointer (some ⟨b,0,none⟩),p.val] w (Qa y z b ex ba first n (.slice (some ⟨M,O,none⟩) k cp) C k w (Kd Jik) K R):=by
 have D:Below w.heap.size w (w.alloc (.cells #[.int .i64 p.op,.int .i64 p.l,.int .i64 p.r,.int .i64 p.c,.int .i64 p.v.k,.int .i64 p.v.n,.string p.v.s] 51)):=Jc (Oa5 _ _) _
 have U:=(Jdf (h.below D) p E H (Kf4 y z)).mono fun e w' X=>X.back D
 clear h E H
 go_enter func187,ntmps187
 go_wp2_with (go_at_call 228;refine U.mono ?_;rintro e bc ⟨g,m,vs,rfl,Z⟩)
 go_ret
 exact⟨g,m,vs,rfl,Z⟩
theorem Kdv {w:World}{b:Nat}{ex ba:Value}{first n M O k cp:Nat}{C:Value}{L A:Nat}{K R:List V}{y z:Addr}(h:Jg5 w b ex ba first n M O k cp C L A K R y z)(p:Pt)(E:p.l=L)(H:p.r=A) :
  Calls prog 188 #[.pointer (some ⟨b,0,none⟩),p.val] w (Qa y z b ex ba first n (.slice (some ⟨M,O,none⟩) k cp) C k w (Kd Jiw) K R):=by
 have D:Below w.heap.size w (w.alloc (.cells #[.int .i64 p.op,.int .i64 p.l,.int .i64 p.r,.int .i64 p.c,.int .i64 p.v.k,.int .i64 p.v.n,.string p.v.s] 51)):=Jc (Oa5 _ _) _
 have U:=(Jdf (h.below D) p E H (Kds y z)).mono fun e w' X=>X.back D
 clear h E H
 go_enter func188,ntmps188
 go_wp2_with (go_at_call 228;refine U.mono ?_;rintro e bc ⟨g,m,vs,rfl,Z⟩)
 go_ret
 exact⟨g,m,vs,rfl,Z⟩
theorem Kcp {w:World}{b:Nat}{ex ba:Value}{first n M O k cp:Nat}{C:Value}{L A:Nat}{K R:List V}{y z:Addr}(h:Jg5 w b ex ba first n M O k cp C L A K R y z)(p:Pt)(E:p.l=L)(H:p.r=A) :
  Calls prog 189 #[.pointer (some ⟨b,0,none⟩),p.val] w (Qa y z b ex ba first n (.slice (some ⟨M,O,none⟩) k cp) C k w (Kd Jkj) K R):=by
 have D:Below w.heap.size w (w.alloc (.cells #[.int .i64 p.op,.int .i64 p.l,.int .i64 p.r,.int .i64 p.c,.int .i64 p.v.k,.int .i64 p.v.n,.string p.v.s] 51)):=Jc (Oa5 _ _) _
 have U:=(Jdf (h.below D) p E H (Kc1 y z)).mono fun e w' X=>X.back D
 clear h E H
 go_enter func189,ntmps189
 go_wp2_with (go_at_call 228;refine U.mono ?_;rintro e bc ⟨g,m,vs,rfl,Z⟩)
 go_ret
 exact⟨g,m,vs,rfl,Z⟩
theorem Ke0 {w:World}{b:Nat}{ex ba:Value}{first n M O k cp:Nat}{C:Value}{L A:Nat}{K R:List V}{y z:Addr}(h:Jg5 w b ex ba first n M O k cp C L A K R y z)(p:Pt)(E:p.l=L)(H:p.r=A) :
  Calls prog 190 #[.pointer (some ⟨b,0,none⟩),p.val] w (Qa y z b ex ba first n (.slice (some ⟨M,O,none⟩) k cp) C k w (Kd Jg4) K R):=by
 have D:Below w.heap.size w (w.alloc (.cells #[.int .i64 p.op,.int .i64 p.l,.int .i64 p.r,.int .i64 p.c,.int .i64 p.v.k,.int .i64 p.v.n,.string p.v.s] 51)):=Jc (Oa5 _ _) _
 have U:=(Jdf (h.below D) p E H (Kgf y z)).mono fun e w' X=>X.back D
 clear h E H
 go_enter func190,ntmps190
 go_wp2_with (go_at_call 228;refine U.mono ?_;rintro e bc ⟨g,m,vs,rfl,Z⟩)
 go_ret
 exact⟨g,m,vs,rfl,Z⟩
theorem Kfa {w:World}{b:Nat}{ex ba:Value}{first n M O k cp:Nat}{C:Value}{L A:Nat}{K R:List V}{y z:Addr}(h:Jg5 w b ex ba first n M O k cp C L A K R y z)(p:Pt)(E:p.l=L)(H:p.r=A) :
  Calls prog 191 #[.pointer (some ⟨b,0,none⟩),p.val] w (Qa y z b ex ba first n (.slice (some ⟨M,O,none⟩) k cp) C k w (Kd Jsg) K R):=by
 have D:Below w.heap.size w (w.alloc (.cells #[.int .i64 p.op,.int .i64 p.l,.int .i64 p.r,.int .i64 p.c,.int .i64 p.v.k,.int .i64 p.v.n,.string p.v.s] 51)):=Jc (Oa5 _ _) _
 have U:=(Jdf (h.below D) p E H (Kc9 y z)).mono fun e w' X=>X.back D
 clear h E H
 go_enter func191,ntmps191
 go_wp2_with (go_at_call 228;refine U.mono ?_;rintro e bc ⟨g,m,vs,rfl,Z⟩)
 go_ret
 exact⟨g,m,vs,rfl,Z⟩
theorem Kbh {w:World}{b:Nat}{ex ba:Value}{first n M O k cp:Nat}{C:Value}{L A:Nat}{K R:List V}{y z:Addr}(h:Jg5 w b ex ba first n M O k cp C L A K R y z)(p:Pt)(E:p.l=L)(H:p.r=A) :
  Calls prog 192 #[.pointer (some ⟨b,0,none⟩),p.val] w (Qa y z b ex ba first n (.slice (some ⟨M,O,none⟩) k cp) C k w (Kd Jkc) K R):=by
 have D:Below w.heap.size w (w.alloc (.cells #[.int .i64 p.op,.int .i64 p.l,.int .i64 p.r,.int .i64 p.c,.int .i64 p.v.k,.int .i64 p.v.n,.string p.v.s] 51)):=Jc (Oa5 _ _) _
 have U:=(Jdf (h.below D) p E H (Kbj y z)).mono fun e w' X=>X.back D
 clear h E H
 go_enter func192,ntmps192
 go_wp2_with (go_at_call 228;refine U.mono ?_;rintro e bc ⟨g,m,vs,rfl,Z⟩)
 go_ret
 exact⟨g,m,vs,rfl,Z⟩
theorem Ke3 {w:World}{b:Nat}{ex ba:Value}{first n M O k cp:Nat}{C:Value}{L A:Nat}{K R:List V}{y z:Addr}(h:Jg5 w b ex ba first n M O k cp C L A K R y z)(p:Pt)(E:p.l=L)(H:p.r=A) :
  Calls prog 193 #[.pointer (some ⟨b,0,none⟩),p.val] w (Qa y z b ex ba first n (.slice (some ⟨M,O,none⟩) k cp) C k w Jse K R):=by
 have D:Below w.heap.size w (w.alloc (.cells #[.int .i64 p.op,.int .i64 p.l,.int .i64 p.r,.int .i64 p.c,.int .i64 p.v.k,.int .i64 p.v.n,.string p.v.s] 51)):=Jc (Oa5 _ _) _
 have U:=(Jpk (h.below D) p E H (Key y z)).mono fun e w' X=>X.back D
 clear h E H
 go_enter func193,ntmps193
 go_wp2_with (go_at_call 235;refine U.mono ?_;rintro e bc ⟨g,m,vs,rfl,Z⟩)
 go_ret
 exact⟨g,m,vs,rfl,Z⟩
theorem Kgj {w:World}{b:Nat}{ex ba:Value}{first n M O k cp:Nat}{C:Value}{L A:Nat}{K R:List V}{y z:Addr}(h:Jg5 w b ex ba first n M O k cp C L A K R y z)(p:Pt)(E:p.l=L)(H:p.r=A) :
  Calls prog 194 #[.pointer (some ⟨b,0,none⟩),p.val] w (Qa y z b ex ba first n (.slice (some ⟨M,O,none⟩) k cp) C k w orR K R):=by
 have D:Below w.heap.size w (w.alloc (.cells #[.int .i64 p.op,.int .i64 p.l,.int .i64 p.r,.int .i64 p.c,.int .i64 p.v.k,.int .i64 p.v.n,.string p.v.s] 51)):=Jc (Oa5 _ _) _
 have U:=(Jpk (h.below D) p E H (Jv9 y z)).mono fun e w' X=>X.back D
 clear h E H
 go_enter func194,ntmps194
 go_wp2_with (go_at_call 235;refine U.mono ?_;rintro e bc ⟨g,m,vs,rfl,Z⟩)
 go_ret
 exact⟨g,m,vs,rfl,Z⟩
theorem Ke6 {w:World}{b:Nat}{ex ba:Value}{first n E H k cp:Nat}{D:Value}{L:Nat}{y:List V}{A C:Addr}(h:Jg5 w b ex ba first n E H k cp D L L y y A C)(p:Pt)(K:p.l=L) :
  Calls prog 195 #[.pointer (some ⟨b,0,none⟩),p.val] w (Qa A C b ex ba first n (.slice (some ⟨E,H,none⟩) k cp) D k w (Kd Ju0) y y):=by
 have X:Below w.heap.size w (w.alloc (.cells #[.int .i64 p.op,.int .i64 p.l,.int .i64 p.r,.int .i64 p.c,.int .i64 p.v.k,.int .i64 p.v.n,.string p.v.s] 51)):=Jc (Oa5 _ _) _
 have O:∀ z,Below w.heap.size w z→Calls prog 228 #[.pointer (some ⟨b,0,none⟩),(Pt.mk p.op p.l p.l p.c p.v).val,.func (.func 239) #[] #[]] z (Qa A C b ex ba first n (.slice (some ⟨E,H,none⟩) k cp) D k w (Kd Ju0) y y):=fun z M=>(Jdf (h.below M) (Pt.mk p.op p.l p.l p.c p.v) K K (Kf2 A C)).mono fun e w' bc=>bc.back M
 have R:Hid (∀ z,Below w.heap.size w z→Calls prog 228 #[.pointer (some ⟨b,0,none⟩),(Pt.mk p.op p.l p.l p.c p.v).val,.func (.func 239) #[] #[]] z (Qa A C b ex ba first n (.slice (some ⟨E,H,none⟩) k cp) D k w (Kd Ju0) y y)):=O
 clear O h K
 go_enter func195,ntmps195
 go_wp2_with (first|(go_at_call 238;refine(Jmc p _).mono ?_;rintro e U ⟨rfl,Z⟩)|(go_at_call 228;refine(R.out U (Jb X Z)).mono ?_;rintro e bh ⟨g,m,vs,rfl,bf⟩))
 go_ret
 exact⟨g,m,vs,rfl,bf⟩
theorem Jtq {w:World}{b:Nat}{ex ba:Value}{first n E H k cp:Nat}{D:Value}{L:Nat}{y:List V}{A C:Addr}(h:Jg5 w b ex ba first n E H k cp D L L y y A C)(p:Pt)(K:p.l=L) :
  Calls prog 196 #[.pointer (some ⟨b,0,none⟩),p.val] w (Qa A C b ex ba first n (.slice (some ⟨E,H,none⟩) k cp) D k w Jle y y):=by
 have X:Below w.heap.size w (w.alloc (.cells #[.int .i64 p.op,.int .i64 p.l,.int .i64 p.r,.int .i64 p.c,.int .i64 p.v.k,.int .i64 p.v.n,.string p.v.s] 51)):=Jc (Oa5 _ _) _
 have O:∀ z,Below w.heap.size w z→Calls prog 235 #[.pointer (some ⟨b,0,none⟩),(Pt.mk p.op p.l p.l p.c p.v).val,.func (.func 240) #[] #[]] z (Qa A C b ex ba first n (.slice (some ⟨E,H,none⟩) k cp) D k w Jle y y):=fun z M=>(Jpk (h.below M) (Pt.mk p.op p.l p.l p.c p.v) K K (Kd6 A C)).mono fun e w' bc=>bc.back M
 have R:Hid (∀ z,Below w.heap.size w z→Calls prog 235 #[.pointer (some ⟨b,0,none⟩),(Pt.mk p.op p.l p.l p.c p.v).val,.func (.func 240) #[] #[]] z (Qa A C b ex ba first n (.slice (some ⟨E,H,none⟩) k cp) D k w Jle y y)):=O
 clear O h K
 go_enter func196,ntmps196
 go_wp2_with (first|(go_at_call 238;refine(Jmc p _).mono ?_;rintro e U ⟨rfl,Z⟩)|(go_at_call 235;refine(R.out U (Jb X Z)).mono ?_;rintro e bh ⟨g,m,vs,rfl,bf⟩))
 go_ret
 exact⟨g,m,vs,rfl,bf⟩
def Jbi (B y:Nat)(z C:Addr)(b:Nat)(ex ba:Value)(first n:Nat)(D A:Value)(k:Nat)(w:World)(val:Nat→V×Nat):Ending→World→Prop:=fun e w'=>
 ∃ (a:Option Addr) (m c:Nat) (vs:List V),e=.returned (.slice a vs.length c)∧(∀ g o,a=some ⟨g,o,none⟩→g≠b∧g<w'.heap.size∧(g<B∨w.heap.size≤g))∧(n≤vs.length∧vs.length≤y)∧Jv w' a vs∧(∀ i,i<m→vs.getD i Jf=(val i).1)∧Je5 z C b ex ba first n D A k w (fun i=>(val i).2) m w'
theorem Qa.meth (B y:Nat){A H:Addr}{b:Nat}{ex ba:Value}{first n:Nat}{K C:Value}{k:Nat}{w w':World}{z:V→V→V×Nat}{E M:List V}{e:Ending}(h:Qa A H b ex ba first n K C k w z E M e w')(U:n≤y):Jbi B y A H b ex ba first n K C k w (fun i=>z (E.getD i Jf) (M.getD i Jf)) e w':=by
 obtain⟨g,m,vs,rfl,Z,bc,rfl,D,O,R⟩:=h
 exact⟨some ⟨g,0,none⟩,m,vs.length,vs,rfl,fun X o e=>by simp at e;have:=D.lt;omega,⟨Oa2 _,U⟩,D.vals,O,R⟩
theorem Kdu (B O b:Nat)(p:Pt)(ex:Value)(A C W cap y:Nat)(a:Option Addr)(c:Nat)(vs:List V)(first n:Nat)(M K:Value)(k:Nat)(w:World)(bh br:Addr)(h:Uz w b ex (.slice (some ⟨A,C,none⟩) W cap) first n M K)(X:p.c=y)(bz:y<W)(bl:w.cell? ⟨A,C+y,none⟩=some (.slice a vs.length c))(bc:Jv w a vs)(hn:n≤vs.length)(U:∀ g o,a=some ⟨g,o,none⟩→g≠b∧g<B)(bx:B≤w.heap.size)(bi:vs.length≤O) :
  Calls prog 185 #[.pointer (some ⟨b,0,none⟩),p.val] w (Jbi B O bh br b ex (.slice (some ⟨A,C,none⟩) W cap) first n M K k w fun i=>(vs.getD i Jf,0)):=by
 obtain⟨c0,c1,c2,c3,c4,c5⟩:=h.cells
 have bf:Hid (Uz w b ex (.slice (some ⟨A,C,none⟩) W cap) first n M K):=h
 have E:Hid (Jv w a vs∧n≤vs.length∧∀ g o,a=some ⟨g,o,none⟩→g≠b∧g<B):=⟨bc,hn,U⟩
 rw[Pt.val,X]
 have Z:=heap_alloc_new w (.cells #[.int .i64 p.op,.int .i64 p.l,.int .i64 p.r,.int .i64 (y:Int),.int .i64 p.v.k,.int .i64 p.v.n,.string p.v.s] 51)
 have bn:(w.alloc (.cells #[.int .i64 p.op,.int .i64 p.l,.int .i64 p.r,.int .i64 (y:Int),.int .i64 p.v.k,.int .i64 p.v.n,.string p.v.s] 51)).cell? ⟨w.heap.size,3,none⟩=some (.int .i64 (y:Int)):=by unfold World.cell?;rw[Z];rfl
 have bA:(0:Int)≤(y:Int):=by omega
 have bB:(y:Int)<(W:Int):=by omega
 clear h bc hn U X Z
 go_enter func185,ntmps185
 go_wp2
 refine wp_region_held_drew (S:=fun H=>H.cell? ⟨b,1,none⟩=some (.slice (some ⟨A,C,none⟩) W cap)∧H.cell? ⟨A,C+y,none⟩=some (.slice a vs.length c)∧H.cell? ⟨w.heap.size,3,none⟩=some (.int .i64 (y:Int))) (by kernel_rfl) ⟨Jh (Kf c1),Jh (Kf bl),Jh bn⟩ (fun z=>?_)
 refine tk 0 ?_ rfl z ?_ (tk 1 ?_ rfl z ?_ (tk 2 ?_ rfl z ?_ (tk 3 ?_ rfl z ?_ (tk 4 ?_ rfl z ?_ (tk 5 ?_ rfl z ?_ (tk 6 ?_ rfl z ?_ (tk 7 ?_ rfl z ?_ (tk 8 ?_ rfl z ?_ ?_))))))))
 iterate 9
  rotate_left 1
  ·intro w bj;(try dsimp only at bj);go_simp;try rfl
 simp only[Act.put,List.getElem_toArray,List.getElem_cons_zero,List.getElem_cons_succ,Oa1,List.set_cons_zero,List.set_cons_succ]
 refine wpAnyH_done (by kernel_rfl) ?_ _
 go_wp2
 go_ret
 have D:Below w.heap.size w (w.alloc (.cells #[.int .i64 p.op,.int .i64 p.l,.int .i64 p.r,.int .i64 (y:Int),.int .i64 p.v.k,.int .i64 p.v.n,.string p.v.s] 51)).drew:=Jj (Jc (Oa5 _ _) _)
 exact⟨a,n,c,vs,rfl,fun g o e=>by have R:=E.out.2.2 g o e;have bu:=D.size;exact⟨R.1,by omega,.inl R.2⟩,⟨E.out.2.1,bi⟩,E.out.1.below D,fun _ _=>rfl,Ju.of_below D,Oa2 _,fun _ _=>rfl,.inl ⟨rfl,bf.out.below D⟩⟩
theorem Jtv (B bA b:Nat)(p:Pt)(ex ba:Value)(first n:Nat)(bu bc:Value)(k:Nat)(w:World)(bV ca:Addr)(h:Uz w b ex ba first n bu bc)(hn:n≤100000)(hs:p.v.s.size≤255)(bW:n≤bA) :
  Calls prog 186 #[.pointer (some ⟨b,0,none⟩),p.val] w (Jbi B bA bV ca b ex ba first n bu bc k w fun _=>(p.v,0)):=by
 obtain⟨u,br⟩:∃ u,u=p.v:=⟨_,rfl⟩
 unfold Pt.val
 rw[←br]
 rw[←br]at hs
 clear br
 obtain⟨z,A,bx⟩:=u
 obtain⟨t,rfl⟩:∃ t,bx=Qw t:=⟨bx.toList,(Zf bx).symm⟩
 have bY:t.length≤255:=by rw[Jb2]at hs;exact hs
 obtain⟨C,M⟩:∃ C,C=(w.alloc (.cells #[.int .i64 p.op,.int .i64 p.l,.int .i64 p.r,.int .i64 p.c,.int .i64 z,.int .i64 A,.string (Qw t)] 51)).alloc (.cells #[.int .i64 z,.int .i64 A,.string (Qw t)] 49):=⟨_,rfl⟩
 have bB:Below w.heap.size w C:=by rw[M];exact Jc (Jc (Oa5 _ _) _) _
 have bH:C.heap[w.heap.size+1]?=some (.cells #[.int .i64 z,.int .i64 A,.string (Qw t)] 49 (0,0)):=by
  have:=heap_alloc_new (w.alloc (.cells #[.int .i64 p.op,.int .i64 p.l,.int .i64 p.r,.int .i64 p.c,.int .i64 z,.int .i64 A,.string (Qw t)] 51)) (.cells #[.int .i64 z,.int .i64 A,.string (Qw t)] 49)
  rw[Oa7]at this
  rw[M]
  exact this
 have bh:=Jhm t C bY
 rw[M]at bh
 have Z:Hid (Uz w b ex ba first n bu bc):=h
 have bz:Hid (C.heap[w.heap.size+1]?=some (.cells #[.int .i64 z,.int .i64 A,.string (Qw t)] 49 (0,0))):=bH
 have bJ:Hid (Below w.heap.size w C):=bB
 have bO:Hid (C=(w.alloc (.cells #[.int .i64 p.op,.int .i64 p.l,.int .i64 p.r,.int .i64 p.c,.int .i64 z,.int .i64 A,.string (Qw t)] 51)).alloc (.cells #[.int .i64 z,.int .i64 A,.string (Qw t)] 49)):=M
 clear h bH bB M hs
 go_enter func186,ntmps186
 go_upto_region 3 with(go_at_call 59;refine bh.mono ?_;rintro e D ⟨rfl,O⟩;rw[←bO.out]at O;have U:=(O.block _ (Jd bz.out)).trans bz.out;have m2:D.cell? ⟨w.heap.size+1,2,none⟩=some (.string (Qw t)):=(by simp[World.cell?,U]);have cb:D.frozen? ⟨w.heap.size+1,2,none⟩=false:=(by simp[World.frozen?,U]);have bM:Hid (D.heap[w.heap.size+1]?=some (.cells #[.int .i64 z,.int .i64 A,.string (Qw t)] 49 (0,0))):=U;clear U)
 have H:=Jk bM.out 2 (.string (Qw t))
 simp only[Oa1,List.set_cons_zero,List.set_cons_succ]at H
 have E:Below w.heap.size w (D.setCell ⟨w.heap.size+1,2,none⟩ (.string (Qw t))):=(Jb bJ.out O).setCell (p:=⟨w.heap.size+1,2,none⟩) (by show w.heap.size≤w.heap.size+1;omega) _
 clear m2 cb bh O
 generalize D.setCell ⟨w.heap.size+1,2,none⟩ (.string (Qw t))=y at H E ⊢
 obtain⟨bP,bQ,bR,bS,bT,bU⟩:=(Z.out.below E).cells
 obtain⟨bI,bG,bi⟩:=Jqo n hn y
 have bZ:=Jd H
 go_wp2
 have bC:Below y.heap.size y (y.alloc (.cells bI 49)):=Jc (Oa5 _ _) _
 go_loopw [21] (fun i wr=>∃ c:Nat,c≤n∧i=.int .i64 (c:Int)∧Kv wr y.heap.size ((List.replicate n (V.mk z A (Qw t))).take c++List.replicate (n-c) Jf) []∧wr.heap[w.heap.size+1]?=some (.cells #[.int .i64 z,.int .i64 A,.string (Qw t)] 49 (0,0))∧Below w.heap.size w wr) (fun i _=>n-(intOf i).toNat)
 case atStart=>exact⟨0,Ob7 _,rfl,by simpa using bi,(bC.block _ bZ).trans H,Jb E bC⟩
 case round=>
  obtain⟨c,cl,rfl,R,K,bf⟩:=hrel
  by_cases bE:c<n
  ·have cu:wr.cell? ⟨w.heap.size+1,0,none⟩=some (.int .i64 z):=by simp[World.cell?,K]
   have cv:wr.cell? ⟨w.heap.size+1,1,none⟩=some (.int .i64 A):=by simp[World.cell?,K]
   have cx:wr.cell? ⟨w.heap.size+1,2,none⟩=some (.string (Qw t)):=by simp[World.cell?,K]
   have bD:((List.replicate n (V.mk z A (Qw t))).take c++List.replicate (n-c) Jf).length=n:=by rw[Oa8,Oc7,Od6,Od6];omega
   obtain⟨cr,⟨c0,cc⟩,⟨c1,cf⟩,⟨c2,ch⟩,bn⟩:=R.put (V.mk z A (Qw t)) c (by rw[bD];exact bE)
   have bl:=Jk1 (List.replicate n (V.mk z A (Qw t))) c n (by simp) bE
   rw[List.getElem_replicate]at bl
   rw[bl]at bn
   have bL:Hid (Kv (((wr.setCell ⟨y.heap.size,c*3,none⟩ (.int .i64 z)).setCell ⟨y.heap.size,c*3+1,none⟩ (.int .i64 A)).setCell ⟨y.heap.size,c*3+2,none⟩ (.string (Qw t))) y.heap.size ((List.replicate n (V.mk z A (Qw t))).take (c+1)++List.replicate (n-(c+1)) Jf) []):=bn
   have X:w.heap.size≤y.heap.size:=E.size
   have bX:Below w.heap.size w (((wr.setCell ⟨y.heap.size,c*3,none⟩ (.int .i64 z)).setCell ⟨y.heap.size,c*3+1,none⟩ (.int .i64 A)).setCell ⟨y.heap.size,c*3+2,none⟩ (.string (Qw t))):=
    ((bf.setCell (p:=⟨y.heap.size,c*3,none⟩) X _).setCell (p:=⟨y.heap.size,c*3+1,none⟩) X _).setCell (p:=⟨y.heap.size,c*3+2,none⟩) X _
   have bN:Hid ((((wr.setCell ⟨y.heap.size,c*3,none⟩ (.int .i64 z)).setCell ⟨y.heap.size,c*3+1,none⟩ (.int .i64 A)).setCell ⟨y.heap.size,c*3+2,none⟩ (.string (Qw t))).heap[w.heap.size+1]?=some (.cells #[.int .i64 z,.int .i64 A,.string (Qw t)] 49 (0,0))):=by
    show _=_
    rw[Oa4 _ _ _ _ (by show w.heap.size+1≠y.heap.size;omega),Oa4 _ _ _ _ (by show w.heap.size+1≠y.heap.size;omega),Oa4 _ _ _ _ (by show w.heap.size+1≠y.heap.size;omega)]
    exact K
   have cn:(c:Int)<(n:Int):=by omega
   clear bn bl bD R K bG bi bP bQ bR bS bT bU H
   go_wp2
   go_roundw
   case rel=>exact⟨c+1,by omega,by go_num,bL.out,bN.out,bX⟩
   case measure=>simp[intOf];omega
  obtain rfl:c=n:=by omega
  have bK:Hid (Kv wr y.heap.size ((List.replicate c (V.mk z A (Qw t))).take c++List.replicate (c-c) Jf) []):=R
  have X:w.heap.size≤y.heap.size:=E.size
  have cj:=Jd Z.out
  clear R bG bi
  go_wp2
  go_ret
  have bj:=bK.out
  rw[Oe1,List.replicate_zero,Od7,Oc8 (by simp)]at bj
  refine⟨some ⟨y.heap.size,0,none⟩,c,c,List.replicate c (V.mk z A (Qw t)),by simp,fun g o e=>by simp at e;have ci:=bj.lt;omega,⟨by simp,by simpa using bW⟩,bj.vals,fun i hi=>?_,Ju.of_below bf,Oa2 _,fun _ _=>rfl,.inl ⟨rfl,Z.out.below bf⟩⟩
  rw[Oa0,Of3,if_pos hi]
  rfl
end Go.Proofs.YtjjdldddcegjiaaGreatDoor
