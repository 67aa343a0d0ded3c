/- The document's schemas: projected, grouped, joined, named. -/
import Derived.Test.YtkgibdjakgmmcaaGreatDoorVm
set_option maxHeartbeats 2000000
set_option maxRecDepth 100000
namespace Go.Proofs.YtkgibdjakgmmcaaGreatDoor
open Go.RowKit Go.Shelf
attribute [local go_sem] Oper.semAt_some
def TyI (w:World)(a:Option Addr):Prop:=∀ b o,a=some ⟨b,o,none⟩→∃ cur,w.heap[b]?=some (.cells cur 3 (0,0))
theorem TyI.below {w X:World}{a:Option Addr}(h:TyI w a)(hb:Below w.heap.size w X):TyI X a:=fun b o e=>by
 obtain⟨cur,hc⟩:=h b o e
 exact⟨cur,(hb.block _ (lt_of_heap hc)).trans hc⟩
theorem own_ty {w:World}{B g o n c:Nat}{xs:List Value}(h:OwnC w B 3 (.slice (some ⟨g,o,none⟩) n c) xs):TyI w (some ⟨g,o,none⟩):=fun b o' e=>by
 cases e
 rcases h with⟨_,⟨h1,_⟩|⟨g',cap,cur,h1,h2,h3,_⟩⟩
 ·cases h1
 simp only[Value.slice.injEq,Option.some.injEq,Addr.mk.injEq]at h1
 rw[h1.1.1]
 exact⟨cur,h3⟩
def RS (w:World)(o:Option (List Int))(e:Ending)(w':World):Prop:=Below w.heap.size w w'∧match o with
 |none=>e=.returned (.slice none 0 0)
 |some s=>∃ b off c,e=.returned (.slice (some ⟨b,off,none⟩) s.length c)∧Ints w' (some ⟨b,off,none⟩) s∧TyI w' (some ⟨b,off,none⟩)
theorem RS.low {w X w':World}{o:Option (List Int)}{e:Ending}(hb:Below w.heap.size w X)(h:RS X o e w'):RS w o e w':=⟨below_then hb h.1,h.2⟩
theorem NdQ.below {w X:World}{nd:Nd}{n:QN}(h:NdQ w nd n)(hb:Below w.heap.size w X):NdQ X nd n:=h.under fun k hk=>hb.block k hk
theorem PtsIn.below {w X:World}{a:Option Addr}{es:List Pt}(h:PtsIn w a es)(hb:Below w.heap.size w X):PtsIn X a es:=fun k p hk=>by
 obtain⟨b,o,e,hp⟩:=h k p hk
 exact⟨b,o,e,hp.below hb⟩
theorem rProj_any (nd:Nd)(n:QN)(ca:Option Addr)(cc:Nat)(sch:List Int)(w:World)(hq:NdQ w nd n)(hC:Ints w ca sch)(hs:SchOk sch) :
  Calls Tryz.prog 44 #[nd.val,.slice ca sch.length cc] w (RS w (projQ sch n)):=by
 have hbb:Below w.heap.size w (ndBox w nd):=below_alloc (Below.refl _ _) _
 obtain⟨_,_,_,_,p4,_,_⟩:=ndBox_at w nd
 rw[Nat.zero_add,hq.xl]at p4
 have hxs:=hq.xs
 obtain⟨R,hR⟩:∃ R,projQ sch n=R:=⟨_,rfl⟩
 rw[hR]
 have hRR:(if 1≤n.es.length∧n.es.length≤6 then typsX sch [] n.es else none)=R:=hR
 generalize n.es=ess at p4 hxs hRR
 have HB:Hid (Below w.heap.size w (ndBox w nd)):=hbb
 by_cases h6:ess.length≤6
 rotate_left
 ·obtain rfl:R=none:=by rw[←hRR,if_neg fun h=>h6 h.2]
  have k6:(6:Int)<(ess.length:Int):=by omega
  clear hRR hR hxs h6 hC hs hq hbb
  go_enter Tryz.func44,Tryz.ntmps44
  go_wp2
  exact bodyPost_ret (v:=.slice none 0 0) (by simp[results,Tryz.results44,go_sem]) rfl ⟨HB.out,rfl⟩
 have k6:(ess.length:Int)≤6:=by omega
 have HR2:Hid ((ess=[]→R=none)∧(ess≠[]→typsX sch [] ess=R)):=⟨fun e=>by rw[←hRR,e];rfl,fun e=>by rw[←hRR,if_pos ⟨by have:=List.length_pos_iff.2 e;omega,h6⟩]⟩
 have HXS:Hid (∀ X,Below w.heap.size w X→∀ (j:Nat) (es:List Pt),ess[j]?=some es→∃ b o pa pc,nd.xs.1=some ⟨b,o,none⟩∧X.cell? ⟨b,o+j,none⟩=some (.slice pa es.length pc)∧Calls Tryz.prog 43 #[.slice pa es.length pc,.slice ca sch.length cc] X fun e w'=>e=.returned (.int .i64 ((typX sch es).getD 0))∧Below X.heap.size X w'):=fun X hX j es hj=>by
  obtain⟨b,o,pa,pc,e',q1,q2⟩:=hxs j es hj
  exact⟨b,o,pa,pc,e',cell_below hX q1,rExpr_any pa pc es ca cc sch X (q2.below hX) (hC.below hX) hs⟩
 have HS:Hid (SchOk sch):=hs
 have HP4:Hid ((ndBox w nd).cell? ⟨w.heap.size,4,none⟩=some (.slice nd.xs.1 ess.length nd.xs.2.2)):=p4
 clear hRR hR hxs h6 hC hs hq hbb
 go_enter Tryz.func44,Tryz.ntmps44
 go_upto_region 5 with fail
 go_loopw [5,6] (fun sv i wr=>∃ T:List Int,T.length≤ess.length∧i=.int .i64 (T.length:Int)∧OwnC wr (ndBox w nd).heap.size 3 sv (T.map iv)∧Below (ndBox w nd).heap.size (ndBox w nd) wr∧typsX sch T (ess.drop T.length)=typsX sch [] ess∧(T=[]→sv=.slice none 0 0)) (fun _ i _=>ess.length-(intOf i).toNat)
 case atStart=>exact⟨[],Nat.zero_le _,rfl,OwnC.nil _ _ _,Below.refl _ _,rfl,fun _=>rfl⟩
 case round=>
  obtain⟨T,hj,rfl,hown,hbw,hty,hnil⟩:=hrel
  obtain⟨j,hjT⟩:∃ j,j=T.length:=⟨_,rfl⟩
  have HJ:Hid (j=T.length∧typsX sch T (ess.drop T.length)=typsX sch [] ess):=⟨hjT,hty⟩
  have HOW:Hid _:=And.intro hown hbw
  obtain⟨sa,sc,hsv,hsc⟩:=hown.cells
  rw[List.length_map,←hjT]at hsv
  rw[←hjT]at hj ⊢
  have p4w:=cell_below hbw HP4.out
  have hbww:=below_then HB.out hbw
  clear hty p4
  by_cases hlt:j<ess.length
  ·obtain⟨es,hes⟩:∃ es,es=ess[j]:=⟨_,rfl⟩
   have hget:ess[j]?=some es:=by rw[hes];exact List.getElem?_eq_getElem hlt
   obtain⟨eb,eo,pa,pc,hea,q1,hxt⟩:=HXS.out wr hbww j es hget
   rw[hea]at p4w
   clear hea
   have hdr:=typsX_drop (s:=sch) (T:=T) hget
   rw[hjT,HJ.out.2]at hdr
   subst hsv
   have HLT:Hid (j<ess.length):=hlt
   have hRe:R=typsX sch [] ess:=(HR2.out.2 (fun e=>by rw[e]at hlt;simp at hlt)).symm
   have hpos:=fun t=>typX_in (t:=t) (es:=es) HS.out.2
   have k1:(0:Int)≤(j:Int):=by omega
   have k2:(j:Int)<(ess.length:Int):=by omega
   clear hes hown hbw hsc hget hjT hbww hnil
   rcases hx:typX sch es with _|t
   ·rw[hx]at hxt hdr
    obtain rfl:R=none:=hRe.trans hdr
    simp only[Option.getD_none]at hxt
    clear hx hRe hpos
    go_wp2_with (go_at_call 43;refine hxt.mono ?_;rintro e' W2 ⟨rfl,hb2⟩)
    exact bodyPost_ret (v:=.slice none 0 0) (by simp[results,Tryz.results44,go_sem]) rfl ⟨below_then (below_then HB.out HOW.out.2) hb2,rfl⟩
   rw[hx]at hxt hdr
   have ht:=hpos t hx
   simp only[Option.getD_some]at hxt
   have HDR:Hid (typsX sch (T++[t]) (ess.drop (T.length+1))=typsX sch [] ess):=hdr.symm
   have ht0:¬ t=0:=by omega
   have ht1:(t==0)=false:=by simp;omega
   clear hx hdr hRe hpos ht
   go_wp2_with (first|(go_at_call 43;refine hxt.mono ?_;rintro e' W2 ⟨rfl,hb2⟩;have p4x:=cell_below hb2 p4w)|(at_builtin;go_must (refine wpList_append_C (by rfl) _ _ 29 3 _ 8 info_int (by rfl) (by decide) (by kernel_rfl) (by rfl) (ndBox w nd).heap.size _ _ (by rfl) (OwnC.alloc (owns_of_block HOW.out.1 fun g e=>hb2.block g (owns_block HOW.out.1 e).2) _) ⟨W2.heap.size,0,none⟩ 1 [iv t] (by rfl) (by exact news_one W2 _ _) (by intro u hu;simp at hu;subst hu;rfl) (by simp only[List.length_cons,List.length_nil,List.length_map];have:=HJ.out.1;omega) (Nat.le_trans HOW.out.2.size (Nat.le_trans hb2.size (by simp))) ?_);intro sv' w4 q1 q2 q3))
   go_roundw
   case rel=>
    have h1:=HLT.out
    have h2:=HJ.out.1
    refine⟨T++[t],by rw[List.length_append,←h2];simp;omega,by rw[List.length_append,←h2];simp only[List.length_cons,List.length_nil];go_num,by rw[List.map_append];exact q1,?_,by rw[List.length_append];exact HDR.out,fun e=>by simp at e⟩
    exact below_grown (w:=ndBox w nd) (below_alloc (below_then HOW.out.2 hb2) _) q2 fun k hk=>(owns_block HOW.out.1 hk).1
   case measure=>have:=HLT.out;have:=HJ.out.1;simp[intOf];omega
  have hje:j=ess.length:=by omega
  have hdr:typsX sch T (ess.drop T.length)=some T:=by rw[←hjT,hje,List.drop_length];rfl
  have k2:¬ ((j:Int)<(ess.length:Int)):=by omega
  by_cases hz:ess=[]
  ·obtain rfl:R=none:=HR2.out.1 hz
   have hT:T=[]:=List.length_eq_zero_iff.1 (by rw[←hjT,hje,hz];rfl)
   have hsn:=hnil hT
   subst hsn
   clear hsc hown hlt hje hj hdr hjT hz hT hnil hsv
   go_wp2
   exact bodyPost_ret (v:=.slice none 0 0) (by simp[results,Tryz.results44,go_sem]) rfl ⟨hbww,rfl⟩
  obtain rfl:R=some T:=by rw[←HR2.out.2 hz,←HJ.out.2];exact hdr
  have hT:T≠[]:=fun e=>hz (List.length_eq_zero_iff.1 (by rw[←hje,hjT,e];rfl))
  subst hsv
  obtain⟨g,o,rfl,hgl,-⟩:=Ints.at (ns:=T) hsc (i:=0) (List.length_pos_iff.2 hT)
  have HHC:Hid (Ints wr (some ⟨g,o,none⟩) T):=hsc
  clear hsc hown hlt hje hj hdr hjT hz hT hnil
  go_wp2
  exact bodyPost_ret (v:=.slice (some ⟨g,o,none⟩) j sc) (by simp[results,Tryz.results44,go_sem]) rfl ⟨hbww,g,o,sc,by rw[HJ.out.1],HHC.out,own_ty HOW.out.1⟩
end Go.Proofs.YtkgibdjakgmmcaaGreatDoor
