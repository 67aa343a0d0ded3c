/- Tables and a plan as they are handed to the law: read off their reading, with their sizes. Nothing is run. -/
import Derived.Test.YtkgibdjakgmmcaaGreatDoorWs
import Derived.Test.YtkgibdjakgmmcaaGreatDoorLo
set_option maxRecDepth 100000
namespace Go.Proofs.YtkgibdjakgmmcaaGreatDoor
open Go.RowKit Go.Deep Go.ChangeShapes Go.WideShapes
theorem bytesInt:Tryz.prog.bytesOf 3=8:=by kernel_rfl
theorem bytesRow:Tryz.prog.bytesOf 73=24:=by kernel_rfl
theorem bytesData:Tryz.prog.bytesOf 42=96:=by kernel_rfl
theorem bytesNode:Tryz.prog.bytesOf 68=96:=by kernel_rfl
theorem bytesKey:Tryz.prog.bytesOf 79=32:=by kernel_rfl
theorem bytesPart:Tryz.prog.bytesOf 63=64:=by kernel_rfl
theorem bytesParts:Tryz.prog.bytesOf 64=24:=by kernel_rfl
theorem cellsData:Tryz.prog.cellsOf 42=5:=by kernel_rfl
theorem cellsNode:Tryz.prog.cellsOf 68=7:=by kernel_rfl
theorem cellsKey:Tryz.prog.cellsOf 79=4:=by kernel_rfl
theorem cellsPart:Tryz.prog.cellsOf 63=7:=by kernel_rfl
theorem cellsParts:Tryz.prog.cellsOf 64=1:=by kernel_rfl
theorem cellsPartsS:Tryz.prog.cellsOf 65=1:=by kernel_rfl
theorem cellsKeys:Tryz.prog.cellsOf 66=1:=by kernel_rfl
theorem cellsNodes:Tryz.prog.cellsOf 23=1:=by kernel_rfl
theorem cellsPlan:Tryz.prog.cellsOf 25=1:=by kernel_rfl
theorem cellsBool:Tryz.prog.cellsOf 4=1:=by kernel_rfl
section
variable {H:Type} {enc:TypeId×Value→H} {W:World} {base:Nat} {spare:Nat→Bool} {held:Bool} {fuel:Nat} {cs:List Value} {x:DataW H×List MemPlace}
def Light (t:TypeId)(d:DataW H):Prop:=∀ u∈DataW.weights Tryz.prog t d,u≤reachBytes
theorem mem_all {e:TypeId}{d:DataW H}{u:Nat}:∀ {l:List (DataW H)},d∈l→u∈DataW.weights Tryz.prog e d→u∈DataW.weightsAll Tryz.prog e l
 |y::l,h,hu=>by
  rw[DataW.weightsAll]
  rcases List.mem_cons.1 h with rfl|h
  ·exact List.mem_append.2 (.inl hu)
  exact List.mem_append.2 (.inr (mem_all h hu))
theorem light_elem {t e:TypeId}(ht:Tryz.prog.underlying t=some (.slice e)){D:Nat→DataW H}{len:Nat}{sp:List (DataW H)}(hw:Light t (.slice ((List.range len).map D) sp)){i:Nat}(hi:i<len):Light e (D i):=fun u hu=>hw u (by
 simp only[DataW.weights,ht]
 exact List.mem_cons_of_mem _ (List.mem_append.2 (.inl (mem_all (List.mem_map.2 ⟨i,List.mem_range.2 hi,rfl⟩) hu))))
theorem light_len {t e:TypeId}(ht:Tryz.prog.underlying t=some (.slice e)){D:Nat→DataW H}{len:Nat}{sp:List (DataW H)}(hw:Light t (.slice ((List.range len).map D) sp)):len*Tryz.prog.bytesOf e≤reachBytes:=by
 have:=hw ((((List.range len).map D).length+sp.length)*Tryz.prog.bytesOf e) (by simp only[DataW.weights,ht];exact List.mem_cons_self)
 refine Nat.le_trans (Nat.mul_le_mul_right _ ?_) this
 simp
theorem slice_light {t e:TypeId}(ht:Tryz.prog.underlying t=some (.slice e))(h:DataW.trod enc Tryz.prog W base spare held fuel t cs=some x)(hw:Light t x.1){a:Option Addr}{len cap:Nat}(hcs:cs=[.slice a len cap]):len*Tryz.prog.bytesOf e≤reachBytes:=by
 rcases open_slice ht h with⟨h1,_⟩|⟨a',len',cap',m,n,D,Pl,h1,_,_,_,_,hx,_⟩
 ·rw[h1]at hcs
  cases hcs
  simp
 rw[h1]at hcs
 cases hcs
 rw[hx]at hw
 exact light_len ht hw
theorem light_agg {t:TypeId}{fs:Array Field}(ht:Tryz.prog.underlying t=some (.struct fs)){ys:List (DataW H)}(hw:Light t (.agg ys))(i:Nat){t':TypeId}{y:DataW H}(h1:(fs.toList.map (·.type))[i]?=some t')(h2:ys[i]?=some y):Light t' y:=fun u hu=>hw u (by
 simp only[DataW.weights,ht]
 exact DataW.weights_mem_each h1 h2 u hu)
theorem assemble {α:Type} [Inhabited α] (Q:Nat→Nat→α→Prop) {a:Addr} {len z:Nat} (hz:0<z) (key:∀ i,i<len→(a.add (i*z)).spot=none∧∃ x,Q (a.add (i*z)).block (a.add (i*z)).off x):len=0∨∃ b o,a=⟨b,o,none⟩∧∃ f:Nat→α,∀ i,i<len→Q b (o+i*z) (f i):=by
 rcases Nat.eq_zero_or_pos len with h0|hpos
 ·exact .inl h0
 have hsp:=(key 0 hpos).1
 obtain⟨b,o,sp⟩:=a
 simp[Addr.add]at hsp
 subst hsp
 have key':∀ i,i<len→∃ x,Q b (o+i*z) x:=by
  intro i hi
  obtain⟨x,hx⟩:=(key i hi).2
  refine⟨x,?_⟩
  rcases Nat.eq_zero_or_pos i with h0|h0
  ·subst h0
   simpa [Addr.add] using hx
  have hne:¬ i*z=0:=by
   have:=Nat.mul_pos h0 hz
   omega
  simpa [Addr.add,hne] using hx
 obtain⟨f,hf⟩:=choose_lt key'
 exact .inr ⟨b,o,rfl,f,hf⟩
theorem range_at {α:Type}{f:Nat→α}{len i:Nat}{x:α}(h:((List.range len).map f)[i]?=some x):i<len∧x=f i:=by
 rw[List.getElem?_map]at h
 rcases Nat.lt_or_ge i len with h'|h'
 ·rw[List.getElem?_range h']at h
  simp at h
  exact⟨h',h.symm⟩
 rw[List.getElem?_eq_none (by simpa using h')]at h
 simp at h
theorem list7 {α:Type}{l:List α}(h:l.length=7):∃ a b c d e f g,l=[a,b,c,d,e,f,g]:=by
 match l,h with
 |[a,b,c,d,e,f,g],_=>exact⟨a,b,c,d,e,f,g,rfl⟩
theorem list4 {α:Type}{l:List α}(h:l.length=4):∃ a b c d,l=[a,b,c,d]:=by
 match l,h with
 |[a,b,c,d],_=>exact⟨a,b,c,d,rfl⟩
theorem list5 {α:Type}{l:List α}(h:l.length=5):∃ a b c d e,l=[a,b,c,d,e]:=by
 match l,h with
 |[a,b,c,d,e],_=>exact⟨a,b,c,d,e,rfl⟩
theorem openPart {base':Nat}{a:Addr}(hc:W.cells? base' a 7=some cs)(h:DataW.trod enc Tryz.prog W base spare held fuel 63 cs=some x):a.spot=none∧∃ p:Pt,PartAt W a.block a.off p:=by
 obtain⟨xs,n,_,rfl,_,hlen,hf⟩:=DataW.trod_struct Tryz.underlying63 h
 obtain⟨_,hl7,hcell⟩:=World.cells?_some hc
 obtain⟨c0,c1,c2,c3,c4,c5,c6,rfl⟩:=list7 hl7
 match xs,hlen with
 |[y0,y1,y2,y3,y4],_=>
  obtain⟨k0,e0,_,_⟩:=DataW.trod_int Tryz.underlying3 (hf 0 _ rfl)
  obtain⟨k1,e1,_,_⟩:=DataW.trod_int Tryz.underlying3 (hf 1 _ rfl)
  obtain⟨k2,e2,_,_⟩:=DataW.trod_int Tryz.underlying3 (hf 2 _ rfl)
  obtain⟨k3,e3,_,_⟩:=DataW.trod_int Tryz.underlying3 (hf 3 _ rfl)
  obtain⟨z0,z1,z2,n',_,_,h0,h1,h2⟩:=trod_struct3 Tryz.underlying61 (hf 4 _ rfl)
  obtain⟨k4,e4,_,_⟩:=DataW.trod_int Tryz.underlying3 h0
  obtain⟨k5,e5,_,_⟩:=DataW.trod_int Tryz.underlying2 h1
  obtain⟨s6,e6,_,_⟩:=DataW.trod_string Tryz.underlying9 h2
  simp[cellsInt]at e0 e1 e2 e3
  simp[cellsInt,cellsV]at e4
  simp[cellsI64,cellsV]at e5
  simp[cellsStr,cellsV]at e6
  subst e0 e1 e2 e3 e4 e5 e6
  have q0:=hcell 0 (by omega)
  have q1:=hcell 1 (by omega)
  have q2:=hcell 2 (by omega)
  have q3:=hcell 3 (by omega)
  have q4:=hcell 4 (by omega)
  have q5:=hcell 5 (by omega)
  have q6:=hcell 6 (by omega)
  have hsp:a.spot=none:=by simpa [Addr.add] using World.cell?_spot q0
  obtain⟨b,o,sp⟩:=a
  simp only at hsp
  subst hsp
  refine⟨rfl,⟨k0,k1,k2,k3,⟨k4,k5,s6⟩⟩,?_,?_,?_,?_,?_,?_,?_⟩
  ·simpa [Addr.add] using q0
  ·simpa [Addr.add] using q1
  ·simpa [Addr.add] using q2
  ·simpa [Addr.add] using q3
  ·simpa [Addr.add] using q4
  ·simpa [Addr.add] using q5
  simpa [Addr.add] using q6
theorem openKey {base':Nat}{a:Addr}(hc:W.cells? base' a 4=some cs)(h:DataW.trod enc Tryz.prog W base spare held fuel 79 cs=some x):a.spot=none∧∃ k:Kz,W.cell? ⟨a.block,a.off,none⟩=some (.int .i64 k.c)∧W.cell? ⟨a.block,a.off+1,none⟩=some (.int .i64 k.o)∧W.cell? ⟨a.block,a.off+2,none⟩=some (.bool k.d)∧W.cell? ⟨a.block,a.off+3,none⟩=some (.int .i64 k.f):=by
 obtain⟨xs,n,_,rfl,_,hlen,hf⟩:=DataW.trod_struct Tryz.underlying79 h
 obtain⟨_,hl4,hcell⟩:=World.cells?_some hc
 obtain⟨c0,c1,c2,c3,rfl⟩:=list4 hl4
 match xs,hlen with
 |[y0,y1,y2,y3],_=>
  obtain⟨k0,e0,_,_⟩:=DataW.trod_int Tryz.underlying3 (hf 0 _ rfl)
  obtain⟨k1,e1,_,_⟩:=DataW.trod_int Tryz.underlying3 (hf 1 _ rfl)
  obtain⟨k2,e2,_⟩:=DataW.trod_bool Tryz.underlying4 (hf 2 _ rfl)
  obtain⟨k3,e3,_,_⟩:=DataW.trod_int Tryz.underlying3 (hf 3 _ rfl)
  simp[cellsInt]at e0 e1 e3
  simp[cellsBool]at e2
  subst e0 e1 e2 e3
  have q0:=hcell 0 (by omega)
  have q1:=hcell 1 (by omega)
  have q2:=hcell 2 (by omega)
  have q3:=hcell 3 (by omega)
  have hsp:a.spot=none:=by simpa [Addr.add] using World.cell?_spot q0
  obtain⟨b,o,sp⟩:=a
  simp only at hsp
  subst hsp
  refine⟨rfl,⟨k0,k1,k2,k3⟩,?_,?_,?_,?_⟩
  ·simpa [Addr.add] using q0
  ·simpa [Addr.add] using q1
  ·simpa [Addr.add] using q2
  simpa [Addr.add] using q3
theorem openParts (h:DataW.trod enc Tryz.prog W base spare held fuel 64 cs=some x)(hw:Light 64 x.1):∃ a cap,∃ ps:List Pt,cs=[.slice a ps.length cap]∧PtsIn W a ps∧ps.length≤2200000000000:=by
 rcases open_slice Tryz.underlying64 h with⟨hcs,_⟩|⟨a,len,cap,m,n,D,Pl,hcs,_,hl,_,hmm,hx,hel⟩
 ·exact⟨none,0,[],hcs,fun k p hk=>by simp at hk,by simp⟩
 have hlm:len≤m:=by rw[hmm];split<;>omega
 rw[hx]at hw
 have hb:=light_len Tryz.underlying64 hw
 rw[bytesPart]at hb
 unfold reachBytes at hb
 haveI:Inhabited Pt:=⟨⟨0,0,0,0,⟨0,0,ByteArray.empty⟩⟩⟩
 rcases assemble (fun b o p=>PartAt W b o p) (a:=a) (len:=len) (z:=7) (by decide) (fun i hi=>by
  obtain⟨cs',hc0,ht0⟩:=hel i (by omega)
  rw[cellsPart]at hc0
  exact openPart hc0 ht0)with h0|⟨b,o,rfl,f,hf⟩
 ·subst h0
  exact⟨some a,cap,[],hcs,fun k p hk=>by simp at hk,by simp⟩
 refine⟨some ⟨b,o,none⟩,cap,(List.range len).map f,by rw[hcs];simp,fun k p hk=>?_,by simp;omega⟩
 obtain⟨h1,rfl⟩:=range_at hk
 exact⟨b,o,rfl,hf k h1⟩
theorem openKeys (h:DataW.trod enc Tryz.prog W base spare held fuel 66 cs=some x)(hw:Light 66 x.1):∃ a cap,∃ ks:List Kz,cs=[.slice a ks.length cap]∧KzsAt W a ks∧ks.length≤4400000000000:=by
 rcases open_slice Tryz.underlying66 h with⟨hcs,_⟩|⟨a,len,cap,m,n,D,Pl,hcs,_,hl,_,hmm,hx,hel⟩
 ·exact⟨none,0,[],hcs,fun k p hk=>by simp at hk,by simp⟩
 have hlm:len≤m:=by rw[hmm];split<;>omega
 rw[hx]at hw
 have hb:=light_len Tryz.underlying66 hw
 rw[bytesKey]at hb
 unfold reachBytes at hb
 haveI:Inhabited Kz:=⟨⟨0,0,false,0⟩⟩
 rcases assemble (fun b o (k:Kz)=>W.cell? ⟨b,o,none⟩=some (.int .i64 k.c)∧W.cell? ⟨b,o+1,none⟩=some (.int .i64 k.o)∧W.cell? ⟨b,o+2,none⟩=some (.bool k.d)∧W.cell? ⟨b,o+3,none⟩=some (.int .i64 k.f)) (a:=a) (len:=len) (z:=4) (by decide) (fun i hi=>by
  obtain⟨cs',hc0,ht0⟩:=hel i (by omega)
  rw[cellsKey]at hc0
  exact openKey hc0 ht0)with h0|⟨b,o,rfl,f,hf⟩
 ·subst h0
  exact⟨some a,cap,[],hcs,fun k p hk=>by simp at hk,by simp⟩
 refine⟨some ⟨b,o,none⟩,cap,(List.range len).map f,by rw[hcs];simp,fun k p hk=>?_,by simp;omega⟩
 obtain⟨h1,rfl⟩:=range_at hk
 exact⟨b,o,rfl,hf k h1⟩
theorem openExprs (h:DataW.trod enc Tryz.prog W base spare held fuel 65 cs=some x)(hw:Light 65 x.1):∃ a cap,∃ es:List (List Pt),cs=[.slice a es.length cap]∧EsIn W a es∧es.length≤5900000000000∧∀ e∈es,e.length≤2200000000000:=by
 rcases open_slice Tryz.underlying65 h with⟨hcs,_⟩|⟨a,len,cap,m,n,D,Pl,hcs,_,hl,_,hmm,hx,hel⟩
 ·exact⟨none,0,[],hcs,fun k p hk=>by simp at hk,by simp,by simp⟩
 have hlm:len≤m:=by rw[hmm];split<;>omega
 rw[hx]at hw
 have hb:=light_len Tryz.underlying65 hw
 rw[bytesParts]at hb
 unfold reachBytes at hb
 haveI:Inhabited (List Pt):=⟨[]⟩
 rcases assemble (fun b o (es:List Pt)=>(∃ pa pc,W.cell? ⟨b,o,none⟩=some (.slice pa es.length pc)∧PtsIn W pa es)∧es.length≤2200000000000) (a:=a) (len:=len) (z:=1) (by decide) (fun i hi=>by
  obtain⟨cs',hc0,ht0⟩:=hel i (by omega)
  rw[cellsParts]at hc0
  obtain⟨pa,pc,ps,rfl,hp,hpl⟩:=openParts ht0 (light_elem Tryz.underlying65 hw hi)
  obtain⟨_,_,hcell⟩:=World.cells?_some hc0
  have q0:=hcell 0 (by omega)
  have hsp:(a.add (i*1)).spot=none:=by simpa [Addr.add] using World.cell?_spot q0
  generalize a.add (i*1)=a' at q0 hsp
  obtain⟨b,o,sp⟩:=a'
  simp only at hsp
  subst hsp
  exact⟨rfl,ps,⟨pa,pc,by simpa [Addr.add] using q0,hp⟩,hpl⟩)with h0|⟨b,o,rfl,f,hf⟩
 ·subst h0
  exact⟨some a,cap,[],hcs,fun k p hk=>by simp at hk,by simp,by simp⟩
 refine⟨some ⟨b,o,none⟩,cap,(List.range len).map f,by rw[hcs];simp,fun k p hk=>?_,by simp;omega,fun e he=>?_⟩
 ·obtain⟨h1,rfl⟩:=range_at hk
  obtain⟨⟨pa,pc,q1,q2⟩,_⟩:=hf k h1
  rw[Nat.mul_one]at q1
  exact⟨b,o,pa,pc,rfl,q1,q2⟩
 obtain⟨i,hi,rfl⟩:=List.mem_map.1 he
 exact(hf i (List.mem_range.1 hi)).2
theorem openNode {base':Nat}{a:Addr}(hc:W.cells? base' a 7=some cs)(h:DataW.trod enc Tryz.prog W base spare held fuel 68 cs=some x)(hw:Light 68 x.1):a.spot=none∧∃ p:Nd×QN,NodeAt W a.block a.off p.1∧NdQ W p.1 p.2∧p.2.ks.length≤4400000000000∧p.2.es.length≤5900000000000∧∀ e∈p.2.es,e.length≤2200000000000:=by
 obtain⟨xs,n,_,rfl,_,hlen,hf⟩:=DataW.trod_struct Tryz.underlying68 h
 obtain⟨_,hl7,hcell⟩:=World.cells?_some hc
 obtain⟨c0,c1,c2,c3,c4,c5,c6,rfl⟩:=list7 hl7
 match xs,hlen with
 |[y0,y1,y2,y3,y4,y5,y6],_=>
  obtain⟨k0,e0,_,_⟩:=DataW.trod_int Tryz.underlying3 (hf 0 _ rfl)
  obtain⟨k1,e1,_,_⟩:=DataW.trod_int Tryz.underlying3 (hf 1 _ rfl)
  obtain⟨k2,e2,_,_⟩:=DataW.trod_int Tryz.underlying3 (hf 2 _ rfl)
  obtain⟨s3,e3,_,_⟩:=DataW.trod_string Tryz.underlying9 (hf 3 _ rfl)
  obtain⟨ea,ec,es,e4,he,hel,hep⟩:=openExprs (hf 4 _ rfl) (light_agg Tryz.underlying68 hw 4 rfl rfl)
  obtain⟨ka,kc,ks,e5,hk,hkl⟩:=openKeys (hf 5 _ rfl) (light_agg Tryz.underlying68 hw 5 rfl rfl)
  obtain⟨k6,e6,_,_⟩:=DataW.trod_int Tryz.underlying3 (hf 6 _ rfl)
  simp[cellsInt]at e0 e1 e2 e6
  simp[cellsStr]at e3
  simp[cellsPartsS]at e4
  simp[cellsKeys]at e5
  subst e0 e1 e2 e3 e4 e5 e6
  have q0:=hcell 0 (by omega)
  have q1:=hcell 1 (by omega)
  have q2:=hcell 2 (by omega)
  have q3:=hcell 3 (by omega)
  have q4:=hcell 4 (by omega)
  have q5:=hcell 5 (by omega)
  have q6:=hcell 6 (by omega)
  have hsp:a.spot=none:=by simpa [Addr.add] using World.cell?_spot q0
  obtain⟨b,o,sp⟩:=a
  simp only at hsp
  subst hsp
  refine⟨rfl,(⟨k0,k1,k2,s3,(ea,es.length,ec),(ka,ks.length,kc),k6⟩,⟨k0,k1,k2,s3,es,ks,k6⟩),⟨?_,?_,?_,?_,?_,?_,?_⟩,⟨rfl,rfl,rfl,rfl,rfl,rfl,he,rfl,hk⟩,hkl,hel,hep⟩
  ·simpa [Addr.add] using q0
  ·simpa [Addr.add] using q1
  ·simpa [Addr.add] using q2
  ·simpa [Addr.add] using q3
  ·simpa [Addr.add] using q4
  ·simpa [Addr.add] using q5
  simpa [Addr.add] using q6
theorem openNodes (h:DataW.trod enc Tryz.prog W base spare held fuel 23 cs=some x)(hw:Light 23 x.1):∃ a cap nds ns,cs=[.slice a (List.length ns) cap]∧PlnAt W a nds ns∧PlnSz ns:=by
 rcases open_slice Tryz.underlying23 h with⟨hcs,_⟩|⟨a,len,cap,m,n,D,Pl,hcs,_,hl,_,hmm,hx,hel⟩
 ·exact⟨none,0,[],[],hcs,⟨rfl,by simp,by simp⟩,by simp,by simp⟩
 have hlm:len≤m:=by rw[hmm];split<;>omega
 rw[hx]at hw
 have hb:=light_len Tryz.underlying23 hw
 rw[bytesNode]at hb
 unfold reachBytes at hb
 haveI:Inhabited (Nd×QN):=⟨(⟨0,0,0,ByteArray.empty,(none,0,0),(none,0,0),0⟩,⟨0,0,0,ByteArray.empty,[],[],0⟩)⟩
 rcases assemble (fun b o (p:Nd×QN)=>NodeAt W b o p.1∧NdQ W p.1 p.2∧p.2.ks.length≤4400000000000∧p.2.es.length≤5900000000000∧∀ e∈p.2.es,e.length≤2200000000000) (a:=a) (len:=len) (z:=7) (by decide) (fun i hi=>by
  obtain⟨cs',hc0,ht0⟩:=hel i (by omega)
  rw[cellsNode]at hc0
  exact openNode hc0 ht0 (light_elem Tryz.underlying23 hw hi))with h0|⟨b,o,rfl,f,hf⟩
 ·subst h0
  exact⟨some a,cap,[],[],hcs,⟨rfl,by simp,by simp⟩,by simp,by simp⟩
 refine⟨some ⟨b,o,none⟩,cap,(List.range len).map fun i=>(f i).1,(List.range len).map fun i=>(f i).2,by rw[hcs];simp,⟨by simp,fun j nd hj=>?_,fun j nd q hj hq=>?_⟩,by simp;omega,fun q hq=>?_⟩
 ·obtain⟨h1,rfl⟩:=range_at hj
  exact⟨b,o,rfl,(hf j h1).1⟩
 ·obtain⟨h1,rfl⟩:=range_at hj
  obtain⟨_,rfl⟩:=range_at hq
  exact(hf j h1).2.1
 obtain⟨i,hi,rfl⟩:=List.mem_map.1 hq
 exact(hf i (List.mem_range.1 hi)).2.2
theorem openIntsW (h:DataW.trod enc Tryz.prog W base spare held fuel 29 cs=some x)(hw:Light 29 x.1):∃ a cap,∃ ns:List Int,cs=[.slice a ns.length cap]∧Ints W a ns∧ns.length≤17592186044415:=by
 obtain⟨a,cap,ns,hcs,hi,_,_⟩:=openInts h
 have hb:=slice_light Tryz.underlying29 h hw hcs
 rw[bytesInt]at hb
 unfold reachBytes at hb
 exact⟨a,cap,ns,hcs,hi,by omega⟩
theorem openRowsW (h:DataW.trod enc Tryz.prog W base spare held fuel 38 cs=some x)(hw:Light 38 x.1) :
  ∃ a cap,∃ (hs:List (Option Addr×Nat)) (rs:List (List V)),cs=[.slice a rs.length cap]∧RowsAt W a hs rs∧(∀ r∈rs,r.length≤4398046511103)∧rs.length≤5864062014805∧rs.length≤cap:=by
 rcases open_slice Tryz.underlying38 h with⟨hcs,_⟩|⟨a,len,cap,m,n,D,Pl,hcs,_,hl,_,hmm,hx,hel⟩
 ·exact⟨none,0,[],[],hcs,⟨rfl,.inl rfl,fun i y r hy=>by simp at hy⟩,by simp,by simp,by simp⟩
 have hlm:len≤m:=by rw[hmm];split<;>omega
 rw[hx]at hw
 have hb:=light_len Tryz.underlying38 hw
 rw[bytesRow]at hb
 unfold reachBytes at hb
 haveI:Inhabited ((Option Addr×Nat)×List V):=⟨((none,0),[])⟩
 rcases assemble (fun b o (z:(Option Addr×Nat)×List V)=>(W.cell? ⟨b,o,none⟩=some (rowV z.1 z.2)∧Vals W z.1.1 z.2)∧z.2.length≤4398046511103∧b<W.heap.size) (a:=a) (len:=len) (z:=1) (by decide) (fun i hi=>by
  obtain⟨cs',hc0,ht0⟩:=hel i (by omega)
  rw[cellsRow]at hc0
  obtain⟨pa,pc,ys,hcs',hv,_,_⟩:=openRow ht0
  have hbr:=slice_light Tryz.underlying73 ht0 (light_elem Tryz.underlying38 hw hi) hcs'
  rw[bytesV]at hbr
  unfold reachBytes at hbr
  subst hcs'
  obtain⟨_,_,hcell⟩:=World.cells?_some hc0
  have q0:=hcell 0 (by omega)
  have hsp:(a.add (i*1)).spot=none:=by simpa [Addr.add] using World.cell?_spot q0
  generalize a.add (i*1)=a' at q0 hsp
  obtain⟨b,o,sp⟩:=a'
  simp only at hsp
  subst hsp
  have q1:W.cell? ⟨b,o,none⟩=some (.slice pa ys.length pc):=by simpa [Addr.add] using q0
  exact⟨rfl,((pa,pc),ys),⟨q1,hv⟩,(show ys.length≤4398046511103 from by omega),lt_of_cell q1⟩)with h0|⟨b,o,rfl,f,hf⟩
 ·subst h0
  exact⟨some a,cap,[],[],hcs,⟨rfl,.inl rfl,fun i y r hy=>by simp at hy⟩,by simp,by simp,by simp⟩
 rcases Nat.eq_zero_or_pos len with h0|hpos
 ·subst h0
  exact⟨some ⟨b,o,none⟩,cap,[],[],hcs,⟨rfl,.inl rfl,fun i y r hy=>by simp at hy⟩,by simp,by simp,by simp⟩
 refine⟨some ⟨b,o,none⟩,cap,(List.range len).map fun i=>(f i).1,(List.range len).map fun i=>(f i).2,by rw[hcs];simp,⟨by simp,.inr ⟨b,o,rfl,(hf 0 hpos).2.2,fun i v hi=>?_⟩,fun i y r hy hr=>?_⟩,fun r hr=>?_,by simp;omega,by simp;omega⟩
 ·rw[List.getElem?_zipWith]at hi
  rcases Nat.lt_or_ge i len with h'|h'
  ·simp[h']at hi
   subst hi
   have:=(hf i h').1.1
   rw[Nat.mul_one]at this
   exact this
  simp[Nat.not_lt.2 h']at hi
 ·obtain⟨h1,rfl⟩:=range_at hy
  obtain⟨_,rfl⟩:=range_at hr
  exact(hf i h1).1.2
 obtain⟨i,hi,rfl⟩:=List.mem_map.1 hr
 exact(hf i (List.mem_range.1 hi)).2.1
theorem openData {base':Nat}{a:Addr}(hc:W.cells? base' a 5=some cs)(h:DataW.trod enc Tryz.prog W base spare held fuel 42 cs=some x)(hw:Light 42 x.1):a.spot=none∧∃ d:Dx,DxAt W d∧W.cell? ⟨a.block,a.off,none⟩=some (.string d.name)∧W.cell? ⟨a.block,a.off+1,none⟩=some (.slice d.at_ d.ts.length d.ct)∧W.cell? ⟨a.block,a.off+2,none⟩=some (.slice d.ar d.rs.length d.cr)∧W.cell? ⟨a.block,a.off+3,none⟩=some (.slice d.ah d.hs.length d.ch)∧W.cell? ⟨a.block,a.off+4,none⟩=some (.int .i64 d.g):=by
 obtain⟨xs,n,_,rfl,_,hlen,hf⟩:=DataW.trod_struct Tryz.underlying42 h
 obtain⟨_,hl5,hcell⟩:=World.cells?_some hc
 obtain⟨c0,c1,c2,c3,c4,rfl⟩:=list5 hl5
 match xs,hlen with
 |[y0,y1,y2],_=>
  have hwT:=light_agg Tryz.underlying42 hw 0 rfl rfl
  obtain⟨zs,n',_,hy,_,hlen',hf'⟩:=DataW.trod_struct Tryz.underlying40 (hf 0 _ rfl)
  match zs,hlen' with
  |[z0,z1,z2],_=>
   rw[hy]at hwT
   obtain⟨s0,e0,_,hnm⟩:=DataW.trod_string Tryz.underlying9 (hf' 0 _ rfl)
   obtain⟨ta,tc,ts,e1,ht,htl⟩:=openIntsW (hf' 1 _ rfl) (light_agg Tryz.underlying40 hwT 1 rfl rfl)
   obtain⟨ra,rc,rh,rs,e2,hr,hrr,hrl,hrc⟩:=openRowsW (hf' 2 _ rfl) (light_agg Tryz.underlying40 hwT 2 rfl rfl)
   obtain⟨ha,hcp,hs,e3,hh,hhl⟩:=openIntsW (hf 1 _ rfl) (light_agg Tryz.underlying42 hw 1 rfl rfl)
   obtain⟨g,e4,_,_⟩:=DataW.trod_int Tryz.underlying3 (hf 2 _ rfl)
   simp[cellsStr,cellsTable]at e0
   simp[cellsInts,cellsTable]at e1
   simp[cellsRowS,cellsTable]at e2
   simp[cellsInts]at e3
   simp[cellsInt]at e4
   subst e0 e1 e2 e3 e4
   have q0:=hcell 0 (by omega)
   have q1:=hcell 1 (by omega)
   have q2:=hcell 2 (by omega)
   have q3:=hcell 3 (by omega)
   have q4:=hcell 4 (by omega)
   have hsp:a.spot=none:=by simpa [Addr.add] using World.cell?_spot q0
   obtain⟨b,o,sp⟩:=a
   simp only at hsp
   subst hsp
   refine⟨rfl,⟨s0,ta,tc,ts,ra,rc,rh,rs,ha,hcp,hs,g⟩,⟨hnm,htl,hrl,hrr,hhl,hrc,ht,hh,hr⟩,?_,?_,?_,?_,?_⟩
   ·simpa [Addr.add] using q0
   ·simpa [Addr.add] using q1
   ·simpa [Addr.add] using q2
   ·simpa [Addr.add] using q3
   simpa [Addr.add] using q4
theorem openDatas (h:DataW.trod enc Tryz.prog W base spare held fuel 22 cs=some x)(hw:Light 22 x.1):∃ a cap,∃ L:List Dx,cs=[.slice a L.length cap]∧DxsAt W a L∧L.length≤1000000000000000:=by
 rcases open_slice Tryz.underlying22 h with⟨hcs,_⟩|⟨a,len,cap,m,n,D,Pl,hcs,_,hl,_,hmm,hx,hel⟩
 ·exact⟨none,0,[],hcs,fun k p hk=>by simp at hk,by simp⟩
 have hlm:len≤m:=by rw[hmm];split<;>omega
 rw[hx]at hw
 have hb:=light_len Tryz.underlying22 hw
 rw[bytesData]at hb
 unfold reachBytes at hb
 haveI:Inhabited Dx:=⟨⟨ByteArray.empty,none,0,[],none,0,[],[],none,0,[],0⟩⟩
 rcases assemble (fun b o (d:Dx)=>DxAt W d∧W.cell? ⟨b,o,none⟩=some (.string d.name)∧W.cell? ⟨b,o+1,none⟩=some (.slice d.at_ d.ts.length d.ct)∧W.cell? ⟨b,o+2,none⟩=some (.slice d.ar d.rs.length d.cr)∧W.cell? ⟨b,o+3,none⟩=some (.slice d.ah d.hs.length d.ch)∧W.cell? ⟨b,o+4,none⟩=some (.int .i64 d.g)) (a:=a) (len:=len) (z:=5) (by decide) (fun i hi=>by
  obtain⟨cs',hc0,ht0⟩:=hel i (by omega)
  rw[cellsData]at hc0
  exact openData hc0 ht0 (light_elem Tryz.underlying22 hw hi))with h0|⟨b,o,rfl,f,hf⟩
 ·subst h0
  exact⟨some a,cap,[],hcs,fun k p hk=>by simp at hk,by simp⟩
 refine⟨some ⟨b,o,none⟩,cap,(List.range len).map f,by rw[hcs];simp,fun k d hk=>?_,by simp;omega⟩
 obtain⟨h1,rfl⟩:=range_at hk
 obtain⟨q,r⟩:=hf k h1
 exact⟨q,b,o,rfl,r⟩
end
end Go.Proofs.YtkgibdjakgmmcaaGreatDoor
