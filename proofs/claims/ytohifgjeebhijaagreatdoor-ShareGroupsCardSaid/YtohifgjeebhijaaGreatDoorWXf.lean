/-
  What this claim needs; no condition of its own. Told short by a script from longer texts.
-/
import Derived.Test.YtohifgjeebhijaaGreatDoorWXc
import Derived.Test.YtohifgjeebhijaaGreatDoorWUh
import Derived.Test.YtohifgjeebhijaaGreatDoorWAl
namespace Go.Proofs.YtohifgjeebhijaaGreatDoor
set_option maxRecDepth 100000
set_option maxHeartbeats 4000000
open Go.RowKit Go.Maps
def coll (L:List Gr) (x:Int) (vs:List Int):List Int:=(vs.filter fun y=>(gr L y).pa==x).reverse
theorem coll_yes {L:List Gr} {x y:Int} {vs:List Int} (h:(gr L y).pa=x):coll L x (y::vs)=coll L x vs++[y]:=by
 unfold coll
 rw[List.filter_cons_of_pos (by simp[h]),List.reverse_cons]
theorem coll_no {L:List Gr} {x y:Int} {vs:List Int} (h: ¬(gr L y).pa=x):coll L x (y::vs)=coll L x vs:=by
 unfold coll
 rw[List.filter_cons_of_neg (by simp[h])]
theorem coll_len (L:List Gr) (x:Int) (vs:List Int):(coll L x vs).length≤vs.length:=by
 unfold coll
 rw[List.length_reverse]
 exact List.length_filter_le _ _
def Some1 (L:List Gr) (vs:List Int):Prop:=vs.Nodup∧∀x∈vs,has L x=true
theorem Some1.len {L:List Gr} {m k:Int} (ok:Ok L m k) {vs:List Int} (h:Some1 L vs):vs.length≤L.length:=by
 have h1:vs.Perm ((idsG L).filter fun x=>decide (x∈vs)):=(List.perm_ext_iff_of_nodup h.1 ((nodup_rise ok.rise).filter _)).2 fun x=>by
  rw[List.mem_filter,←has_ids]
  simp only[decide_eq_true_eq]
  exact⟨fun hx=>⟨h.2 x hx,hx⟩,fun hx=>hx.2⟩
 rw[h1.length_eq]
 refine Nat.le_trans (List.length_filter_le _ _) ?_
 simp[idsG]
theorem all_perm {L:List Gr} {m k:Int} (ok:Ok L m k) {vs:List Int} (h:vs.Nodup) (ha: ∀x,x∈vs↔has L x=true):vs.Perm (idsG L):=
 (List.perm_ext_iff_of_nodup h (nodup_rise ok.rise)).2 fun x=>by rw[ha,has_ids]
theorem coll_all {L:List Gr} {m k:Int} (ok:Ok L m k) {vs:List Int} (h:vs.Nodup) (ha: ∀x,x∈vs↔has L x=true) (x:Int):(coll L x vs).Perm (kids L x):=by
 rw[kids_eq ok]
 exact(List.reverse_perm _).trans ((all_perm ok h ha).filter _)
theorem sorted_eq {a b:List Int} (h:a.Perm b) (hb:b.Pairwise (· < ·)):(a.mergeSort fun x y=>decide (x≤y))=b:=by
 refine rising_unique ((List.mergeSort_perm _ _).trans h) ?_ (hb.imp fun h=>by omega)
 have:=List.pairwise_mergeSort (le:=fun x y:Int=>decide (x≤y)) (fun a b c h1 h2=>by simp at *;omega) (fun a b=>by simp;omega) a
 exact this.imp fun h=>by simpa using h
theorem gOf_some {L:List Gr} {bl:Int→Nat} {x:Int}:(gOf L bl x).isSome=true↔has L x=true:=by
 unfold gOf
 split<;>simp_all
theorem gOf_eq {L:List Gr} {bl:Int→Nat} {x:Int} {c:Nat} (h:gOf L bl x=some c):has L x=true∧c=bl x:=by
 unfold gOf at h
 split at h
 ·rename_i hh;cases h;exact⟨hh,rfl⟩
 ·cases h
section
variable (fp B:Nat) (L:List Gr) (l:List Int) (m k:Int)
theorem Children_any (x:Int) (w:World) (h:IsF w B fp L l m k) (hx: ¬x= -1):
  Calls Tryz.prog 117 #[.pointer (some ⟨fp,0,none⟩),.int .i64 x] w fun e w'=>(∃a c,e= .returned (.slice a (kids L x).length c)∧RowO w' w.heap.size (.slice a (kids L x).length c) (kids L x))∧Below w.heap.size w w':=by
 obtain⟨tp,tg,mp,bl,hf,_⟩:=h.fo
 have OK:=Lib.hid h.ok
 have n64:=h.ok.n64
 clear h
 have h1:=hf.c1
 obtain⟨n,_,hm⟩:=hf.mpp
 have HF:=Lib.hid hf
 have hx2:=beq_ff hx
 clear hf
 go_enter Tryz.func117,Tryz.ntmps117
 go_wp2_with (first | (at_range;refine wpList_rangeG rfl _ rfl rfl hm ?_;intro w0 cnt hr hb0))
 go_frame
 generalize hrr:w.heap.size=r at *
 have HR:=Lib.hid hrr
 have HFr:Hid (∀W,Below r w W→Fo W fp tp tg mp bl L l m):=Lib.hid fun W hW=>HF.out.below (by rw[hrr];exact hW)
 clear hrr hm
 go_loopw [5] (fun v wr=>∃(a:Option Addr) (c:Nat) (vs:List Int) (cnt:Nat),v= .slice a (coll L x vs).length c∧Rg wr mp r n (gOf L bl) vs cnt∧Hid (Some1 L vs)∧RowO wr r (.slice a (coll L x vs).length c) (coll L x vs)∧Below r w wr) (fun _ wr=>wr.rangeLeft mp r)
 case atStart=>exact⟨none,0,[],cnt,rfl,hr,Lib.hid ⟨List.nodup_nil,fun x hx=>by simp at hx⟩,RowO.nil _ _,hb0⟩
 case round=>
  clear hr hb0
  obtain⟨a,c,vs,cnt',rfl,hr,HV,hro,hb⟩:=hrel
  go_wp2_with (first | (at_next;refine wpList_nextG rfl _ rfl rfl hr ?_ ?_))
  ·intro hall
   have HP:=Lib.hid (coll_all OK.out HV.out.1 (fun y=>(hall y).trans gOf_some) x)
   have HK:=Lib.hid (kids_rise OK.out x)
   have hlc:=coll_len L x vs
   have hlv:=Some1.len OK.out HV.out
   have HB:=Lib.hid hb
   clear HV hall
   generalize coll L x vs=cl at *
   by_cases h0:cl=[]
   ·subst h0
    have e0:kids L x=[]:=List.length_eq_zero_iff.1 (by rw[←HP.out.length_eq];rfl)
    go_wp2_with (first | (go_at_call 135;refine(Sort_nil _ _ _).mono ?_;rintro e w2 ⟨rfl,rfl⟩))
    go_ret
    rw[e0]
    rw[HR.out]
    exact⟨⟨a,c,rfl,hro⟩,HB.out⟩
   ·obtain⟨b,rfl,hbr,hbw,_⟩:=hro.at (j:=0) (List.length_pos_iff.2 h0)
    have HL:=Lib.hid (show cl.length<4611686018427387904 by omega)
    have HH:=Lib.hid hro.holds
    go_wp2_with fail
    refine(Tryz.slices_Sort_int b 0 c cl wr HH.out hbw HL.out).mono ?_
    rintro e w2 ⟨rfl,q,os,rfl⟩
    rw[sorted_eq HP.out HK.out]
    have hg:=grownBy_sortedI (w:=wr) (g:=b) (n:=q) (os:=os) (kids L x).toArray
    have hb2:Below r w _:=hb.grown hg (Nat.le_trans (Nat.le_of_eq HR.out.symm) (HR.out ▸ hb.size)) (fun j e=>by cases e;exact hbr)
    have hr2:RowO (Sort.grow (Sort.putRow (Value.int .i64) (Sort.ahead wr q) b 0 (kids L x).toArray) os) r (.slice (some ⟨b,0,none⟩) cl.length c) (kids L x):=by
     rcases hro.2 with ⟨h0,_⟩ | ⟨g',cap,cur,e,hbg,hg,h3,h4,h5,htake⟩
     ·cases h0
     ·cases e
      have e1:=HP.out.length_eq
      unfold RowO
      rw[e1]
      exact ownsRow_sortedI rfl hbr hg (e1 ▸ h3) h4 h5
    generalize Sort.grow (Sort.putRow (Value.int .i64) (Sort.ahead wr q) b 0 (kids L x).toArray) os=w3 at *
    go_wp2_with fail
    go_ret
    rw[HR.out,←HP.out.length_eq]
    exact⟨⟨some ⟨b,0,none⟩,c,rfl,hr2⟩,hb2⟩
  ·intro y cb w1 cnt1 hy hG hnot hr1 hlt hg1 hen
   obtain⟨hh,rfl⟩:=gOf_eq hG
   have hrw:r≤wr.heap.size:=by have:=hr.lt;omega
   have hb1:Below r w w1:=hb.grown hg1 hrw (fun j e=>by cases e;exact Nat.le_refl _)
   have hf1:=HFr.out _ hb1
   have hX:=(hf1.grp y hh).c0
   have hro1:RowO w1 r (.slice a (coll L x vs).length c) (coll L x vs):=hro.same fun b cur hbc _=>hg1.block b (Array.getElem?_eq_some_iff.1 hbc).1 (fun e=>by
    cases e
    obtain⟨D,left,hq,_⟩:=hr
    obtain⟨es,clock,since,seen,c0,_,_,_,_,e3,_⟩:=hq
    rw[e3] at hbc
    cases hbc)
   have HV1:Hid (Some1 L (y::vs)):=Lib.hid ⟨List.nodup_cons.2 ⟨hnot,HV.out.1⟩,fun z hz=>by
    rcases List.mem_cons.1 hz with rfl | hz
    ·exact hh
    ·exact HV.out.2 z hz⟩
   have hM:Hid (∀W:World,Rg W mp r n (gOf L bl) (y::vs) cnt1→W.rangeLeft mp r<wr.rangeLeft mp r):=Lib.hid fun W hW=>by rw[hW.left,hr.left];exact hlt
   have hlc:=coll_len L x vs
   have hlv:=Some1.len OK.out HV.out
   clear hr hro hb hg1 hnot HV hG hf1
   by_cases hp:(gr L y).pa=x
   ·have e2:=coll_yes (vs:=vs) hp
    rw[hp] at hX
    have HE:=Lib.hid e2
    clear hp e2 hh
    generalize coll L x vs=cl at *
    have hA:=OneAt.new w1 y
    have hba:Below r w (w1.alloc (.cells #[.int .i64 y] 3)):=hb1.alloc (by have:=hr1.lt;omega) _
    have hroa:RowO (w1.alloc (.cells #[.int .i64 y] 3)) r (.slice a cl.length c) cl:=hro1.alloc _
    go_wp2_with (first | (refine wpList_append rfl _ _ rfl r (.slice a cl.length c) _ cl [y] rfl rfl (by have:=hr1.lt;simp;omega) hroa hA.src (by simp;omega) ?_;intro v' w2 hro2 hg2;have hb2:=hba.trans (grown_below hroa (by have:=hr1.lt;simp;omega) hg2);have hr2:=hr1.below ((Below.refl _ w1).alloc (Nat.le_refl _) (.cells #[.int .i64 y] 3));have hr3:=hr2.grownX hroa hg2))
    obtain⟨a',c',rfl⟩:=hro2.sl
    exact⟨⟨a',c',y::vs,cnt1,by rw[HE.out],hr3,HV1,by rw[HE.out];exact hro2,hb2⟩,hM.out _ hr3⟩
   ·have HE:=Lib.hid (coll_no (vs:=vs) hp)
    have hp2:=beq_ff hp
    clear hp hh
    generalize coll L x vs=cl at *
    generalize (gr L y).pa=p at *
    go_wp2_with fail
    exact⟨⟨a,c,y::vs,cnt1,by rw[HE.out],hr1,HV1,by rw[HE.out];exact hro1,hb1⟩,hM.out _ hr1⟩
end
end Go.Proofs.YtohifgjeebhijaaGreatDoor
namespace Go.Proofs.YtohifgjeebhijaaGreatDoor
set_option maxRecDepth 100000
set_option maxHeartbeats 4000000
open Go.RowKit Go.Maps
theorem sum_perm {a b:List Int} (h:a.Perm b):a.sum=b.sum:=by
 induction h with
 | nil=>rfl
 | cons x _ ih=>simp only[List.sum_cons,ih]
 | swap x y l=>simp only[List.sum_cons];omega
 | trans _ _ h1 h2=>exact h1.trans h2
structure Lv (L:List Gr) (x:Int) (vs:List Int) (v:Int):Prop where
 up: ∀y∈vs,belowB L y x=true→dep L y - dep L x+1≤v
 at':v=0∨∃y∈vs,belowB L y x=true∧v=dep L y - dep L x+1
 v0:0≤v
theorem Lv.no {L:List Gr} {x y v:Int} {vs:List Int} (h:Lv L x vs v) (hb:belowB L y x=false):Lv L x (y::vs) v:=
 ⟨fun z hz hzb=>by
  rcases List.mem_cons.1 hz with rfl | hz
  ·rw[hb] at hzb;cases hzb
  ·exact h.up z hz hzb,by
  rcases h.at' with e | ⟨z,hz,e⟩
  ·exact .inl e
  ·exact .inr ⟨z,List.mem_cons_of_mem _ hz,e⟩,h.v0⟩
theorem Lv.more {L:List Gr} {x y v:Int} {vs:List Int} (h:Lv L x vs v) (hb:belowB L y x=true) (hv:v<dep L y - dep L x+1):Lv L x (y::vs) (dep L y - dep L x+1):=
 ⟨fun z hz hzb=>by
  rcases List.mem_cons.1 hz with rfl | hz
  ·exact Int.le_refl _
  ·have:=h.up z hz hzb;omega,.inr ⟨y,by simp,hb,rfl⟩,by have:=h.v0;omega⟩
theorem Lv.less {L:List Gr} {x y v:Int} {vs:List Int} (h:Lv L x vs v) (hv:dep L y - dep L x+1≤v):Lv L x (y::vs) v:=
 ⟨fun z hz hzb=>by
  rcases List.mem_cons.1 hz with rfl | hz
  ·exact hv
  ·exact h.up z hz hzb,by
  rcases h.at' with e | ⟨z,hz,e⟩
  ·exact .inl e
  ·exact .inr ⟨z,List.mem_cons_of_mem _ hz,e⟩,h.v0⟩
theorem Lv.le8 {L:List Gr} {m k x v:Int} {vs:List Int} (ok:Ok L m k) (h:Lv L x vs v):v≤9:=by
 rcases h.at' with e | ⟨z,_,_,e⟩
 ·omega
 ·have:=ok.dep8 z;have:=ok.dep8 x;omega
theorem Lv.deep {L:List Gr} {m k x v p:Int} {vs:List Int} (ok:Ok L m k) (h:Lv L x vs v) (ha: ∀x,x∈vs↔has L x=true):decide (8<dep L p+v)=deepB L x p:=by
 unfold deepB
 rw[Bool.eq_iff_iff,decide_eq_true_iff,List.any_eq_true]
 constructor
 ·intro hv
  rcases h.at' with e | ⟨z,hz,hb,e⟩
  ·have:=ok.dep8 p;omega
  ·have hz':=(ha z).1 hz
   refine⟨gr L z,gr_mem hz',?_⟩
   rw[gr_id hz',Bool.and_eq_true,decide_eq_true_iff]
   exact⟨hb,by omega⟩
 ·rintro⟨g,hg,hb⟩
  rw[Bool.and_eq_true,decide_eq_true_iff] at hb
  have:=h.up g.id ((ha _).2 (has_mem hg)) hb.1
  omega
section
variable (fp B:Nat) (L:List Gr) (l:List Int) (m k:Int)
theorem fan_any (x:Int) (w:World) (h:IsF w B fp L l m k) (hx:I64 x) (hh:has L x=true):
  Calls Tryz.prog 83 #[.pointer (some ⟨fp,0,none⟩),.int .i64 x] w fun e w'=>e= .returned (.int .i64 (fanI L x))∧Below w.heap.size w w':=by
 have HH:=Lib.hid h
 obtain⟨tp,tg,mp,bl,hf,_⟩:=h.fo
 have hne: ¬x= -1:=by have:=h.ok.id hh;omega
 have hn:=kids_len L x
 have hn2:=h.ok.n64
 have hme:=h.ok.num _ (gr_mem hh)
 have hk:=h.ok.k1
 have HF:=Lib.hid hf
 have HX:Hid (∀X,Below w.heap.size w X→X.cell? ⟨bl x,2,none⟩=some (.int .i64 (gr L x).me)):=Lib.hid fun X hX=>((hf.below hX).grp x hh).c2
 have HC:Hid (∀W,Below w.heap.size w W→Calls Tryz.prog 117 #[.pointer (some ⟨fp,0,none⟩),.int .i64 x] W fun e w'=>(∃a c,e= .returned (.slice a (kids L x).length c))∧Below w.heap.size w w'):=Lib.hid fun W hW=>by
  refine(Children_any fp B L l m k x W (h.below hW) hne).mono ?_
  rintro e w' ⟨⟨a,c,rfl,_⟩,hb⟩
  exact⟨⟨a,c,rfl⟩,Below.stay hW hb⟩
 unfold fanI
 clear h hf
 generalize (kids L x).length=n at *
 obtain⟨hm1,hm2,hm3,_⟩:=hme
 generalize (gr L x).me=me at *
 have hlo:0≤me:=by omega
 have hhi:me≤1000:=by omega
 have HW:Hid (IntKind.i64.wrap ((n:Int)+me)=(n:Int)+me):=Lib.hid (IntWalk.i64_in _ (by omega))
 clear hm1 hm2 hm3 hk hne
 go_enter Tryz.func83,Tryz.ntmps83
 go_wp2_with fail
 have hq:Below w.heap.size w w.drew:=(Same.drew w).below _
 refine Rd.region (fun X=>Below w.heap.size w X) 15 [0,1,4,5,6,7,8,9,10,11,12,3,13,14] [0,1,4,5,6,7,8,9,10,11,12,2,3,13,14] (by kernel_rfl) (by kernel_rfl) (by kernel_rfl) (by kernel_rfl) rfl hq ?_
 refine Rd.seq_float (.pointer (some ⟨fp,0,none⟩)) (by simp only[gA,gC];rfl) rfl (by rfl) (fun X _=>by go_simp) ?_
 simp only[Act.put,sA,sB,sC]
 refine Rd.seq_float (.int .i64 x) (by simp only[gA,gB,gC];rfl) rfl (by rfl) (fun X _=>by go_simp) ?_
 simp only[Act.put,sA,sB,sC]
 refine Rd.seq_float (.pointer (some ⟨fp,0,none⟩)) (by simp only[gA,gB,gC];rfl) rfl (by rfl) (fun X _=>by go_simp) ?_
 simp only[Act.put,sA,sB,sC]
 refine Rd.seq_float (.pointer (some ⟨fp,0,none⟩)) (by simp only[gA,gB,gC];rfl) rfl (by rfl) (fun X _=>by go_simp) ?_
 simp only[Act.put,sA,sB,sC]
 refine Rd.seq_float (.pointer (some ⟨fp,1,none⟩)) (by simp only[gA,gB,gC];rfl) rfl (by rfl) (fun X _=>by go_simp) ?_
 simp only[Act.put,sA,sB,sC]
 refine Rd.seq_float (.map (some mp)) (by simp only[gA,gB,gC];rfl) rfl (by rfl) (fun X hX=>by have hf:=HF.out.below hX;have e1:=hf.c1;have e2:=hf.lookY hx hh;have e3:=HX.out X hX;clear hX hf;go_simp) ?_
 simp only[Act.put,sA,sB,sC]
 refine Rd.seq_float (.int .i64 x) (by simp only[gA,gB,gC];rfl) rfl (by rfl) (fun X _=>by go_simp) ?_
 simp only[Act.put,sA,sB,sC]
 refine Rd.seq_float (.pointer (some ⟨bl x,0,none⟩)) (by simp only[gA,gB,gC];rfl) rfl (by rfl) (fun X hX=>by have hf:=HF.out.below hX;have e1:=hf.c1;have e2:=hf.lookY hx hh;have e3:=HX.out X hX;clear hX hf;go_simp) ?_
 simp only[Act.put,sA,sB,sC]
 refine Rd.seq_float (.pointer (some ⟨bl x,0,none⟩)) (by simp only[gA,gB,gC];rfl) rfl (by rfl) (fun X _=>by go_simp) ?_
 simp only[Act.put,sA,sB,sC]
 refine Rd.seq_float (.pointer (some ⟨bl x,2,none⟩)) (by simp only[gA,gB,gC];rfl) rfl (by rfl) (fun X _=>by go_simp) ?_
 simp only[Act.put,sA,sB,sC]
 refine Rd.seq_float (.int .i64 me) (by simp only[gA,gB,gC];rfl) rfl (by rfl) (fun X hX=>by have hf:=HF.out.below hX;have e1:=hf.c1;have e2:=hf.lookY hx hh;have e3:=HX.out X hX;clear hX hf;go_simp) ?_
 simp only[Act.put,sA,sB,sC]
 refine Rd.seq_move (by simp only[gA,gB,gC];rfl) rfl (by rfl) (fun K hK=>?_)
 go_simp
 refine(HC.out _ hq).mono ?_
 rintro e w3 ⟨⟨a,c,rfl⟩,hb3⟩
 refine hK _ _ (fun _=>hb3) ?_
 clear hK K
 refine Rd.seq_float (.int .i64 (n:Int)) (by simp only[gA,gB,gC];rfl) rfl (by rfl) (fun X _=>by go_simp) ?_
 simp only[Act.put,sA,sB,sC]
 refine Rd.seq_float (.int .i64 ((n:Int)+me)) (by simp only[gA,gB,gC];rfl) rfl (by rfl) (fun X _=>by go_simp;exact HW.out) ?_
 simp only[Act.put,sA,sB,sC]
 refine Rd.seq_float (.int .i64 ((n:Int)+me)) (by simp only[gA,gB,gC];rfl) rfl (by rfl) (fun X _=>by go_simp) ?_
 simp only[Act.put,sA,sB,sC]
 refine Rd.seq_end ?_
 go_wp2_with fail
 go_ret
 exact⟨rfl,hb3⟩
theorem levels_any (x:Int) (w:World) (h:IsF w B fp L l m k) (hx:I64 x):
  Calls Tryz.prog 88 #[.pointer (some ⟨fp,0,none⟩),.int .i64 x] w fun e w'=>(∃(v:Int) (vs:List Int),e= .returned (.int .i64 v)∧Lv L x vs v∧(∀y,y∈vs↔has L y=true))∧Below w.heap.size w w':=by
 obtain⟨tp,tg,mp,bl,hf,_⟩:=h.fo
 have OK:=Lib.hid h.ok
 have n64:=h.ok.n64
 have h1:=hf.c1
 obtain⟨n,_,hm⟩:=hf.mpp
 have HF:=Lib.hid hf
 have HB0:Hid (∀(y:Int) (W:World),I64 y→Below w.heap.size w W→Calls Tryz.prog 87 #[.pointer (some ⟨fp,0,none⟩),.int .i64 y,.int .i64 x] W fun e w'=>e= .returned (.bool (belowB L y x))∧Below W.heap.size W w'):=Lib.hid fun y W hy hW=>Below_any fp B L l m k y x W (h.below hW) hy
 have HD0:Hid (∀(y:Int) (W:World),I64 y→Below w.heap.size w W→Calls Tryz.prog 82 #[.pointer (some ⟨fp,0,none⟩),.int .i64 y] W fun e w'=>e= .returned (.int .i64 (dep L y))∧Below W.heap.size W w'):=Lib.hid fun y W hy hW=>depth_any fp B L l m k y W (h.below hW) hy
 clear h hf
 go_enter Tryz.func88,Tryz.ntmps88
 go_wp2_with (first | (at_range;refine wpList_rangeG rfl _ rfl rfl hm ?_;intro w0 cnt hr hb0))
 go_frame
 have HR:Hid (∀W:World,Below w.heap.size w W→Fo W fp tp tg mp bl L l m):=Lib.hid fun W hW=>HF.out.below hW
 clear hm
 go_loopw [5] (fun v wr=>∃(s:Int) (vs:List Int) (cnt:Nat),v= .int .i64 s∧Hid (Lv L x vs s)∧Rg wr mp w.heap.size n (gOf L bl) vs cnt∧Hid (Some1 L vs)∧Below w.heap.size w wr) (fun _ wr=>wr.rangeLeft mp w.heap.size)
 case atStart=>exact⟨0,[],cnt,rfl,Lib.hid ⟨fun y hy=>by simp at hy,.inl rfl,Int.le_refl _⟩,hr,Lib.hid ⟨List.nodup_nil,fun x hx=>by simp at hx⟩,hb0⟩
 case round=>
  clear hr hb0
  obtain⟨s,vs,cnt',rfl,HS,hr,HV,hb⟩:=hrel
  go_wp2_with (first | (at_next;refine wpList_nextG rfl _ rfl rfl hr ?_ ?_))
  ·intro hall
   have HP:=Lib.hid hall
   clear HV hall
   go_wp2_with fail
   go_ret
   exact⟨⟨s,vs,rfl,HS.out,fun y=>(HP.out y).trans gOf_some⟩,hb⟩
  ·intro y cb w1 cnt1 hy hG hnot hr1 hlt hg1 hen
   obtain⟨hh,rfl⟩:=gOf_eq hG
   have hrw:w.heap.size≤wr.heap.size:=hb.size
   have hb1:Below w.heap.size w w1:=hb.grown hg1 hrw (fun j e=>by cases e;exact Nat.le_refl _)
   have HX:Hid (∀W:World,Below w.heap.size w W→W.cell? ⟨bl y,3,none⟩=some (.int .i64 (gr L y).aw)):=Lib.hid fun W hW=>((HR.out W hW).grp y hh).c3
   have HV1:Hid (Some1 L (y::vs)):=Lib.hid ⟨List.nodup_cons.2 ⟨hnot,HV.out.1⟩,fun z hz=>by
    rcases List.mem_cons.1 hz with rfl | hz
    ·exact hh
    ·exact HV.out.2 z hz⟩
   have hM:Hid (∀W:World,Rg W mp w.heap.size n (gOf L bl) (y::vs) cnt1→W.rangeLeft mp w.heap.size<wr.rangeLeft mp w.heap.size):=Lib.hid fun W hW=>by rw[hW.left,hr.left];exact hlt
   have hlv:=Some1.len OK.out HV1.out
   have HC:=Lib.hid (HB0.out y w1 hy hb1)
   have hs:=HS.out.v0
   have hs8:=HS.out.le8 OK.out
   have hdx:=OK.out.dep8 x
   have hdy:=OK.out.dep8 y
   clear hr hb hg1 hnot HV hG hh
   have HDy:Hid (∀W:World,Below w.heap.size w W→Calls Tryz.prog 82 #[.pointer (some ⟨fp,0,none⟩),.int .i64 y] W fun e w'=>e= .returned (.int .i64 (dep L y))∧Below W.heap.size W w'):=Lib.hid fun W hW=>HD0.out y W hy hW
   have HDx:Hid (∀W:World,Below w.heap.size w W→Calls Tryz.prog 82 #[.pointer (some ⟨fp,0,none⟩),.int .i64 x] W fun e w'=>e= .returned (.int .i64 (dep L x))∧Below W.heap.size W w'):=Lib.hid fun W hW=>HD0.out x W hx hW
   clear HD0
   cases hbe:belowB L y x with
   | true=>
    rw[hbe] at HC
    by_cases hv:s<dep L y - dep L x+1
    ·have HE2:Hid (Lv L x (y::vs) (dep L y - dep L x+1)):=Lib.hid (HS.out.more hbe hv)
     clear hbe hlv HS
     generalize dep L y=dy at *
     generalize dep L x=dx at *
     have hmx:max s (dy - dx+1)=dy - dx+1:=by omega
     go_wp2_with (first | (go_at_call 87;refine HC.out.mono ?_;rintro e w2 ⟨rfl,hb2⟩;have hb3:=Below.stay hb1 hb2;have hr2:=hr1.below hb2;have HD1:=Lib.hid (HDy.out w2 hb3)) | (go_at_call 82;refine HD1.out.mono ?_;rintro e w3 ⟨rfl,hb4⟩;have hb5:=Below.stay hb3 hb4;have hr3:=hr2.below hb4;clear HD1;have HD2:=Lib.hid (HDx.out w3 hb5)) | (go_at_call 82;refine HD2.out.mono ?_;rintro e w4 ⟨rfl,hb6⟩;have hb7:=Below.stay hb5 hb6;have hr4:=hr3.below hb6))
     exact⟨⟨dy - dx+1,y::vs,cnt1,rfl,HE2,hr4,HV1,hb7⟩,hM.out _ hr4⟩
    ·have HE2:Hid (Lv L x (y::vs) s):=Lib.hid (HS.out.less (by omega))
     clear hbe hlv HS
     generalize dep L y=dy at *
     generalize dep L x=dx at *
     have hmx:max s (dy - dx+1)=s:=by omega
     go_wp2_with (first | (go_at_call 87;refine HC.out.mono ?_;rintro e w2 ⟨rfl,hb2⟩;have hb3:=Below.stay hb1 hb2;have hr2:=hr1.below hb2;have HD1:=Lib.hid (HDy.out w2 hb3)) | (go_at_call 82;refine HD1.out.mono ?_;rintro e w3 ⟨rfl,hb4⟩;have hb5:=Below.stay hb3 hb4;have hr3:=hr2.below hb4;clear HD1;have HD2:=Lib.hid (HDx.out w3 hb5)) | (go_at_call 82;refine HD2.out.mono ?_;rintro e w4 ⟨rfl,hb6⟩;have hb7:=Below.stay hb5 hb6;have hr4:=hr3.below hb6))
     exact⟨⟨s,y::vs,cnt1,rfl,HE2,hr4,HV1,hb7⟩,hM.out _ hr4⟩
   | false=>
    rw[hbe] at HC
    have HE2:Hid (Lv L x (y::vs) s):=Lib.hid (HS.out.no hbe)
    clear hbe hlv HS
    go_wp2_with (first | (go_at_call 87;refine HC.out.mono ?_;rintro e w2 ⟨rfl,hb2⟩;have hb3:=Below.stay hb1 hb2;have hr2:=hr1.below hb2))
    exact⟨⟨s,y::vs,cnt1,rfl,HE2,hr2,HV1,hb3⟩,hM.out _ hr2⟩
end
end Go.Proofs.YtohifgjeebhijaaGreatDoor
namespace Go.Proofs.YtohifgjeebhijaaGreatDoor
theorem taken_cons (y:Int) (r:List Int):taken (y::r)=if y=0 then taken r else y::taken r:=by
 unfold taken
 rw[List.filter_cons]
 by_cases h:y=0<;>simp[h]
theorem taken_nodup: ∀ {l:List Int},(∀i j,i<l.length→j<l.length→l.getD i 0=l.getD j 0→l.getD i 0≠0→i=j)→(taken l).Nodup
 | [],_=>by simp[taken]
 | y::r,h=>by
  have ih:=taken_nodup (l:=r) (fun i j hi hj he hne=>by
   have:=h (i+1) (j+1) (by simpa using hi) (by simpa using hj) (by simpa using he) (by simpa using hne)
   omega)
  rw[taken_cons]
  split
  ·exact ih
  ·rename_i h0
   rw[List.nodup_cons]
   refine⟨fun hm=>?_,ih⟩
   obtain⟨k,hk,e⟩:=mem_getD (mem_taken.1 hm).1
   have:=h 0 (k+1) (by simp) (by simpa using hk) (by simpa using e.symm) (by simpa using h0)
   omega
theorem strict: ∀ {l:List Int},l.Pairwise (· ≤ ·)→l.Nodup→l.Pairwise (· < ·)
 | [],_,_=>List.Pairwise.nil
 | x::r,h,hn=>by
  rw[List.pairwise_cons] at h ⊢
  rw[List.nodup_cons] at hn
  refine⟨fun y hy=>?_,strict h.2 hn.2⟩
  have h1:=h.1 y hy
  have h2:x≠y:=fun e=>hn.1 (e ▸ hy)
  omega
theorem ids_strict {l:List Int} {m:Int} (ok:TabOk l m):(idsN l).Pairwise (· < ·):=
 strict (ids_sorted l) ((ids_perm l).nodup_iff.2 (taken_nodup ok.uniq))
def rootC (L:List Gr) (r:Nat):Int:=if L.length=r then 6 else 0
def addC (L:List Gr) (r:Nat) (p wt:Int):Int:=
 if has L p=false then 4 else if ¬(1≤wt∧wt≤10000) then 13 else if dep L p=8 then 7 else if fanI L p=32∨L.length=r then 6 else 0
def dropC (L:List Gr) (x:Int):Int:=if has L x=false then 4 else if (gr L x).pa<0 then 15 else if 0<fanI L x then 11 else 0
def moveC (L:List Gr) (x p:Int):Int:=
 if has L x=false∨has L p=false then 4 else if (gr L x).pa<0 then 15 else if ¬topI L x=topI L p then 5 else if belowB L p x=true then 12 else if deepB L x p=true then 7 else if ¬(gr L x).pa=p∧fanI L p=32 then 6 else 0
def weightC (L:List Gr) (x wt:Int):Int:=if has L x=false then 4 else if (gr L x).pa<0 then 15 else if ¬(1≤wt∧wt≤10000) then 13 else 0
def countC (L:List Gr) (x me aw:Int):Int:=
 if has L x=false then 4 else if 0<me∧fanI L x=32 then 6 else if (gr L x).aw+aw<0∨(gr L x).me+me<(gr L x).aw+aw then 10 else 0
def mvd (L:List Gr) (x p:Int):Gr:=⟨x,p,(gr L x).wt,(gr L x).me,(gr L x).aw⟩
def moveG (L:List Gr) (x p:Int):List Gr:=setG L x (mvd L x p)
def weightG (L:List Gr) (x wt:Int):List Gr:=setG L x ⟨x,(gr L x).pa,wt,(gr L x).me,(gr L x).aw⟩
def countG (L:List Gr) (x me aw:Int):List Gr:=setG L x ⟨x,(gr L x).pa,(gr L x).wt,(gr L x).me+me,(gr L x).aw+aw⟩
def rootN (L:List Gr) (r:Nat) (m:Int):List Gr:=if rootC L r=0 then addG L m (-1) 1 else L
def addN (L:List Gr) (r:Nat) (m p wt:Int):List Gr:=if addC L r p wt=0 then addG L m p wt else L
def dropN (L:List Gr) (x:Int):List Gr:=if dropC L x=0 then delG L x else L
def moveN (L:List Gr) (x p:Int):List Gr:=if moveC L x p=0 then moveG L x p else L
def weightN (L:List Gr) (x wt:Int):List Gr:=if weightC L x wt=0 then weightG L x wt else L
def countN (L:List Gr) (x me aw:Int):List Gr:=if countC L x me aw=0 then countG L x me aw else L
section
variable {L L':List Gr} {m k x p wt me aw:Int}
theorem Ok.later (ok:Ok L m k) (hk:k<1000):Ok L m (k+1):=
 ⟨ok.rise,ok.lo,ok.hi,ok.m0,by have:=ok.mle;omega,by omega,ok.par,fun g hg=>by have:=ok.num g hg;omega,ok.deep,ok.n64⟩
theorem has_of_ids (h:idsG L'=idsG L) (y:Int):has L' y=has L y:=by
 rw[Bool.eq_iff_iff,has_ids,has_ids,h]
theorem Ok.set (ok:Ok L m k) (hk:k<1000) {g:Gr} (hg:g.id=x) (hx:has L x=true) (hp:g.pa=(gr L x).pa) (hn:0≤g.aw∧g.aw≤g.me∧g.me≤k+1∧1≤g.wt∧g.wt≤10000):Ok (setG L x g) m (k+1):=by
 have hi:=ok.id hx
 have hpth: ∀n y,path (setG L x g) n y=path L n y:=fun n y=>path_same (fun y=>setG_has hg y) (fun y _=>by
  rw[setG_gr hg hx]
  split
  ·rename_i e;subst e;exact hp
  ·rfl) n y
 refine⟨by rw[setG_ids hg];exact ok.rise,fun y hy=>?_,fun y hy=>?_,ok.m0,by have:=ok.mle;omega,by omega,fun y hy=>?_,fun y hy=>?_,fun y=>?_,by unfold setG;rw[List.length_set];exact ok.n64⟩
 ·rcases setG_mem hy with rfl | hy
  ·omega
  ·exact ok.lo y hy
 ·rcases setG_mem hy with rfl | hy
  ·omega
  ·exact ok.hi y hy
 ·rw[setG_has hg]
  rcases setG_mem hy with rfl | hy
  ·rw[hp];exact ok.pa hx
  ·exact ok.par y hy
 ·rcases setG_mem hy with rfl | hy
  ·exact hn
  ·have:=ok.num y hy;omega
 ·unfold pth;rw[hpth];exact ok.deep y
theorem Ok.weight (ok:Ok L m k) (hk:k<1000):Ok (weightN L x wt) m (k+1):=by
 unfold weightN
 split
 ·rename_i he
  unfold weightC at he
  cases hx:has L x with
  | false=>simp[hx] at he
  | true=>
   rw[if_neg (by rw[hx];decide)] at he
   split at he
   ·omega
   ·split at he
    ·omega
    ·rename_i h2
     have:=ok.num _ (gr_mem hx)
     exact ok.set hk rfl hx rfl (by simp only;omega)
 ·exact ok.later hk
theorem Ok.count (ok:Ok L m k) (hk:k<1000) (hme:me≤1):Ok (countN L x me aw) m (k+1):=by
 unfold countN
 split
 ·rename_i he
  unfold countC at he
  cases hx:has L x with
  | false=>simp[hx] at he
  | true=>
   rw[if_neg (by rw[hx];decide)] at he
   split at he
   ·omega
   ·split at he
    ·omega
    ·rename_i h2
     have:=ok.num _ (gr_mem hx)
     exact ok.set hk rfl hx rfl (by simp only;omega)
 ·exact ok.later hk
theorem path_le (hd: ∀x,(pth L x).length≤8): ∀(n:Nat) (y:Int),(path L n y).length≤(pth L y).length
 | 0,_=>Nat.zero_le _
 | n+1,y=>by
  unfold path
  split
  ·rename_i hy
   rw[pth_yes hd hy,List.length_cons,List.length_cons]
   have:=path_le hd n (gr L y).pa
   omega
  ·exact Nat.zero_le _
theorem move_gr (hx:has L x=true) (y:Int):gr (moveG L x p) y=if y=x then mvd L x p else gr L y:=setG_gr (show (mvd L x p).id=x from rfl) hx y
theorem move_has (y:Int):has (moveG L x p) y=has L y:=setG_has (show (mvd L x p).id=x from rfl) y
theorem move_out (ok:Ok L m k) (hx:has L x=true): ∀(n:Nat) (y:Int),x∉pth L y→path (moveG L x p) n y=path L n y
 | 0,_,_=>rfl
 | n+1,y,h=>by
  unfold path
  rw[move_has]
  split
  ·rename_i hy
   have e:=ok.yes hy
   rw[e] at h
   have h1: ¬y=x:=fun e=>h (by rw[e];simp)
   rw[move_gr hx,if_neg h1,move_out ok hx n _ (fun h2=>h (List.mem_cons_of_mem _ h2))]
  ·rfl
theorem move_in (ok:Ok L m k) (hx:has L x=true) (hb:x∉pth L p): ∀(n:Nat) (y:Int),x∈pth L y→((path (moveG L x p) n y).length:Int)≤dep L y - dep L x+dep L p+1
 | 0,y,h=>by
  have h1:=ok.plen h
  have:=ok.dep8 p
  unfold dep at *
  simp only[path,List.length_nil]
  omega
 | n+1,y,h=>by
  have hy:has L y=true:=by
   cases hy:has L y with
   | true=>rfl
   | false=>rw[pth_no hy] at h;simp at h
  unfold path
  rw[move_has,if_pos hy,List.length_cons,move_gr hx]
  by_cases e:y=x
  ·subst e
   simp only[if_true,mvd]
   rw[move_out ok hx n p hb]
   have:=path_le ok.deep n p
   unfold dep
   omega
  ·rw[if_neg e]
   rw[ok.yes hy] at h
   have h2:x∈pth L (gr L y).pa:=by
    rcases List.mem_cons.1 h with h | h
    ·exact absurd h.symm e
    ·exact h
   have:=move_in ok hx hb n _ h2
   have:=ok.dep hy
   omega
structure Moves (L:List Gr) (x p:Int):Prop where
 hx:has L x=true
 hp:has L p=true
 top:topI L x=topI L p
 out:x∉pth L p
 deep:deepB L x p=false
 up:0≤(gr L x).pa
theorem moves_of (h:moveC L x p=0):Moves L x p:=by
 unfold moveC at h
 split at h
 ·omega
 rename_i h1
 split at h
 ·omega
 rename_i h2
 split at h
 ·omega
 rename_i h3
 split at h
 ·omega
 rename_i h4
 split at h
 ·omega
 rename_i h5
 refine⟨?_,?_,by simpa using h3,by simpa[belowB] using h4,by simpa using h5,by omega⟩
 ·cases hx:has L x with
  | true=>rfl
  | false=>exact absurd (.inl hx) h1
 ·cases hp:has L p with
  | true=>rfl
  | false=>exact absurd (.inr hp) h1
theorem Ok.moves (ok:Ok L m k) (hk:k<1000) (h:Moves L x p):Ok (moveG L x p) m (k+1):=by
 have hi:=ok.id h.hx
 refine⟨by unfold moveG;rw[setG_ids (show (mvd L x p).id=x from rfl)];exact ok.rise,fun y hy=>?_,fun y hy=>?_,ok.m0,by have:=ok.mle;omega,by omega,fun y hy=>?_,fun y hy=>?_,fun y=>?_,by unfold moveG setG;rw[List.length_set];exact ok.n64⟩
 ·rcases setG_mem hy with rfl | hy
  ·exact hi.1
  ·exact ok.lo y hy
 ·rcases setG_mem hy with rfl | hy
  ·exact hi.2
  ·exact ok.hi y hy
 ·rw[move_has]
  rcases setG_mem hy with rfl | hy
  ·exact .inr h.hp
  ·exact ok.par y hy
 ·have hn:=ok.num _ (gr_mem h.hx)
  rcases setG_mem hy with rfl | hy
  ·simp only[mvd];omega
  ·have:=ok.num y hy;omega
 ·by_cases hy:x∈pth L y
  ·have h1:=move_in ok h.hx h.out 9 y hy
   have hyy:has L y=true:=by
    cases hyy:has L y with
    | true=>rfl
    | false=>rw[pth_no hyy] at hy;simp at hy
   have h2:=h.deep
   unfold deepB at h2
   rw[List.any_eq_false] at h2
   have h3:=h2 _ (gr_mem hyy)
   rw[gr_id hyy] at h3
   unfold belowB at h3
   simp[hy] at h3
   unfold pth
   omega
  ·unfold pth
   rw[move_out ok h.hx 9 y hy]
   exact ok.deep y
theorem Ok.move (ok:Ok L m k) (hk:k<1000):Ok (moveN L x p) m (k+1):=by
 unfold moveN
 split
 ·rename_i he
  exact ok.moves hk (moves_of he)
 ·exact ok.later hk
theorem addG_ids:idsG (addG L m p wt)=idsG L++[m+1]:=by simp[addG,idsG]
theorem addG_rise (ok:Ok L m k):(idsG (addG L m p wt)).Pairwise (· < ·):=by
 rw[addG_ids,List.pairwise_append]
 refine⟨ok.rise,by simp,fun a ha b hb=>?_⟩
 rw[List.mem_singleton] at hb
 have:=ok.id (has_ids.2 ha)
 omega
theorem addG_has (y:Int):has (addG L m p wt) y=(has L y||decide (y=m+1)):=by
 rw[Bool.eq_iff_iff,Bool.or_eq_true,decide_eq_true_iff,has_ids,has_ids,addG_ids]
 simp
theorem addG_new (ok:Ok L m k):gr (addG L m p wt) (m+1)=⟨m+1,p,wt,0,0⟩:=
 gr_of (addG_rise ok) (g:=⟨m+1,p,wt,0,0⟩) (by simp[addG])
theorem addG_old (ok:Ok L m k) {y:Int} (hy:has L y=true):gr (addG L m p wt) y=gr L y:=by
 have:=gr_of (addG_rise (p:=p) (wt:=wt) ok) (g:=gr L y) (by unfold addG;exact List.mem_append_left _ (gr_mem hy))
 rwa [gr_id hy] at this
theorem addG_path (ok:Ok L m k): ∀(n:Nat) (y:Int),¬y=m+1→path (addG L m p wt) n y=path L n y
 | 0,_,_=>rfl
 | n+1,y,h=>by
  unfold path
  rw[addG_has,decide_eq_false h,Bool.or_false]
  split
  ·rename_i hy
   have:=ok.pa_lt hy
   rw[addG_old ok hy,addG_path ok n _ (by omega)]
  ·rfl
theorem Ok.addG (ok:Ok L m k) (hk:k<1000) (hl:L.length<64) (hp:p= -1∨has L p=true∧Proofs.YtohifgjeebhijaaGreatDoor.dep L p≠8) (hw:1≤wt∧wt≤10000):Ok (addG L m p wt) (m+1) (k+1):=by
 have h0:=ok.m0
 refine⟨addG_rise ok,fun y hy=>?_,fun y hy=>?_,by omega,by have:=ok.mle;omega,by omega,fun y hy=>?_,fun y hy=>?_,fun y=>?_,by unfold Proofs.YtohifgjeebhijaaGreatDoor.addG;simp;omega⟩
 ·unfold Proofs.YtohifgjeebhijaaGreatDoor.addG at hy
  rcases List.mem_append.1 hy with hy | hy
  ·exact ok.lo y hy
  ·rw[List.mem_singleton] at hy;subst hy;simp only;omega
 ·unfold Proofs.YtohifgjeebhijaaGreatDoor.addG at hy
  rcases List.mem_append.1 hy with hy | hy
  ·have:=ok.hi y hy;omega
  ·rw[List.mem_singleton] at hy;subst hy;simp only;omega
 ·rw[addG_has]
  unfold Proofs.YtohifgjeebhijaaGreatDoor.addG at hy
  rcases List.mem_append.1 hy with hy | hy
  ·rcases ok.par y hy with h | h
   ·exact .inl h
   ·exact .inr (by rw[h];rfl)
  ·rw[List.mem_singleton] at hy;subst hy;simp only
   rcases hp with h | h
   ·exact .inl h
   ·exact .inr (by rw[h.1];rfl)
 ·unfold Proofs.YtohifgjeebhijaaGreatDoor.addG at hy
  rcases List.mem_append.1 hy with hy | hy
  ·have:=ok.num y hy;omega
  ·rw[List.mem_singleton] at hy;subst hy;simp only
   have:=ok.mle
   omega
 ·unfold pth
  by_cases e:y=m+1
  ·subst e
   unfold path
   rw[addG_has,decide_eq_true rfl,Bool.or_true,if_pos rfl,addG_new ok,List.length_cons]
   simp only
   have hpm: ¬p=m+1:=by
    rcases hp with h | h
    ·omega
    ·have:=ok.id h.1;omega
   rw[addG_path ok 8 p hpm]
   have h1:=path_le ok.deep 8 p
   rcases hp with h | h
   ·have:pth L p=[]:=pth_no (ok.low (by omega))
    rw[this] at h1
    simp at h1
    rw[h1]
    simp
   ·have:=ok.dep8 p
    have h2:=h.2
    unfold Proofs.YtohifgjeebhijaaGreatDoor.dep at this h2
    omega
  ·rw[addG_path ok 9 y e];exact ok.deep y
theorem kids_none (h: ¬ 0<fanI L x) (hm:0≤(gr L x).me) {y:Int} (hy:has L y=true): ¬(gr L y).pa=x:=by
 intro e
 have h1:(kids L x).length=0:=by unfold fanI at h;omega
 have:y∈kids L x:=by
  unfold kids
  rw[List.mem_map]
  exact⟨gr L y,List.mem_filter.2 ⟨gr_mem hy,by simpa using e⟩,gr_id hy⟩
 rw[List.length_eq_zero_iff.1 h1] at this
 simp at this
theorem del_eq (L:List Gr) (x:Int):delG L x=L.eraseIdx (pos L x):=(List.eraseIdx_eq_take_drop_succ ..).symm
theorem del_mem (ok:Ok L m k) (hx:has L x=true) {g:Gr}:g∈delG L x↔g∈L∧¬g.id=x:=by
 rw[del_eq,List.mem_eraseIdx_iff_getElem]
 constructor
 ·rintro⟨i,hi,hne,rfl⟩
  refine⟨List.getElem_mem _,fun e=>hne ?_⟩
  have h1:=List.pairwise_iff_getElem.1 ok.rise
  have h2:(L.getD (pos L x) g0).id=x:=pos_id (has_pos hx)
  have h3:L.getD (pos L x) g0=L[pos L x]'(has_pos hx):=by simp[List.getD,has_pos hx]
  rw[h3] at h2
  rcases Nat.lt_trichotomy i (pos L x) with h | h | h
  ·have:=h1 i (pos L x) (by simp[idsG];omega) (by simp[idsG];exact has_pos hx) h
   simp[idsG] at this
   omega
  ·exact h
  ·have:=h1 (pos L x) i (by simp[idsG];exact has_pos hx) (by simp[idsG];omega) h
   simp[idsG] at this
   omega
 ·rintro⟨hg,hne⟩
  obtain⟨i,hi,rfl⟩:=List.getElem_of_mem hg
  refine⟨i,hi,fun e=>hne ?_,rfl⟩
  subst e
  have h2:(L.getD (pos L x) g0).id=x:=pos_id (has_pos hx)
  have h3:L.getD (pos L x) g0=L[pos L x]'(has_pos hx):=by simp[List.getD,has_pos hx]
  rwa [h3] at h2
theorem del_rise (ok:Ok L m k):(idsG (delG L x)).Pairwise (· < ·):=by
 rw[del_eq]
 unfold idsG
 exact ok.rise.sublist ((List.eraseIdx_sublist _ _).map _)
theorem del_has (ok:Ok L m k) (hx:has L x=true) (y:Int):has (delG L x) y=(has L y&& !decide (y=x)):=by
 rw[Bool.eq_iff_iff,Bool.and_eq_true,Bool.not_eq_true',decide_eq_false_iff_not,has_iff,has_iff]
 constructor
 ·rintro⟨g,hg,rfl⟩
  have:=(del_mem ok hx).1 hg
  exact⟨⟨g,this.1,rfl⟩,this.2⟩
 ·rintro⟨⟨g,hg,rfl⟩,hne⟩
  exact⟨g,(del_mem ok hx).2 ⟨hg,hne⟩,rfl⟩
theorem del_gr (ok:Ok L m k) (hx:has L x=true) {y:Int} (hy:has (delG L x) y=true):gr (delG L x) y=gr L y:=by
 have h1:=gr_mem hy
 have h2:=gr_of ok.rise ((del_mem ok hx).1 h1).1
 rw[gr_id hy] at h2
 exact h2.symm
theorem del_path (ok:Ok L m k) (hx:has L x=true) (hf: ¬ 0<fanI L x): ∀(n:Nat) (y:Int),¬y=x→path (delG L x) n y=path L n y
 | 0,_,_=>rfl
 | n+1,y,h=>by
  unfold path
  rw[del_has ok hx,decide_eq_false h,Bool.not_false,Bool.and_true]
  split
  ·rename_i hy
   have h1:has (delG L x) y=true:=by rw[del_has ok hx,hy,decide_eq_false h];rfl
   have hm:=ok.num _ (gr_mem hx)
   rw[del_gr ok hx h1,del_path ok hx hf n _ (kids_none hf (by omega) hy)]
  ·rfl
theorem Ok.del (ok:Ok L m k) (hk:k<1000) (hx:has L x=true) (hf: ¬ 0<fanI L x):Ok (delG L x) m (k+1):=by
 have hm:=ok.num _ (gr_mem hx)
 refine⟨del_rise ok,fun y hy=>ok.lo y ((del_mem ok hx).1 hy).1,fun y hy=>ok.hi y ((del_mem ok hx).1 hy).1,ok.m0,by have:=ok.mle;omega,by omega,fun y hy=>?_,fun y hy=>by have:=ok.num y ((del_mem ok hx).1 hy).1;omega,fun y=>?_,?_⟩
 ·have hyL:=((del_mem ok hx).1 hy).1
  rcases ok.par y hyL with h | h
  ·exact .inl h
  ·refine .inr ?_
   have h3:=kids_none hf (by omega) (has_mem hyL)
   rw[gr_of ok.rise hyL] at h3
   rw[del_has ok hx,h,decide_eq_false h3]
   rfl
 ·unfold pth
  by_cases e:y=x
  ·subst e
   unfold path
   rw[del_has ok hx]
   simp
  ·rw[del_path ok hx hf 9 y e];exact ok.deep y
 ·rw[del_eq]
  have:=List.length_eraseIdx_le L (pos L x)
  have:=ok.n64
  omega
theorem rise_ext {a b:List Int} (ha:a.Pairwise (· < ·)) (hb:b.Pairwise (· < ·)) (h: ∀x,x∈a↔x∈b):a=b:=
 rising_unique ((List.perm_ext_iff_of_nodup (nodup_rise ha) (nodup_rise hb)).2 h) (ha.imp fun h=>by omega) (hb.imp fun h=>by omega)
theorem slots_free {l:List Int} {m:Int} (ok:Ok L m k) (hi:idsN l=idsG L):addB l m=decide (¬L.length=l.length)∧L.length≤l.length:=by
 have h1:(taken l).length=L.length:=by rw[←ids_len,hi];simp[idsG]
 have h2:=taken_len l
 have h3:(taken l).length<l.length↔0∈l:=by
  unfold taken
  rw[List.length_filter_lt_length_iff_exists]
  constructor
  ·rintro⟨x,hx,h⟩
   have:x=0:=by simpa using h
   exact this ▸ hx
  ·intro h;exact⟨0,h,by simp⟩
 have h4:=ok.mle
 have h5:=ok.k1
 refine⟨?_,by omega⟩
 unfold addB
 rw[decide_eq_decide,find_lt,←h3]
 omega
theorem slots_add {l:List Int} {m:Int} (ok:Ok L m k) (tok:TabOk l m) (hi:idsN l=idsG L) (hb:addB l m=true):idsN (addL l m)=idsG (addG L m p wt):=by
 have tok':=tok.add
 refine rise_ext (ids_strict tok') (addG_rise ok) fun y=>?_
 rw[addG_ids,←hi,List.mem_append,mem_ids,mem_ids,List.mem_singleton]
 have hb':find l 0<l.length∧m<2147483648:=by simpa[addB] using hb
 have hm:=ok.m0
 have e0:=find_get hb'.1
 unfold addL
 rw[hb]
 simp only[if_true]
 constructor
 ·rintro⟨h1,h2⟩
  rcases List.mem_or_eq_of_mem_set h1 with h | h
  ·exact .inl ⟨h,h2⟩
  ·exact .inr h
 ·rintro (⟨h1,h2⟩ | rfl)
  ·refine⟨?_,h2⟩
   obtain⟨j,hj,rfl⟩:=mem_getD h1
   have hne: ¬find l 0=j:=fun e=>h2 (by rw[←e];exact e0)
   have:=getD_mem (l:=l.set (find l 0) (m+1)) (k:=j) (by rw[List.length_set];exact hj)
   rwa [getD_set,if_neg (fun h=>hne h.1)] at this
  ·refine⟨?_,by omega⟩
   have:=getD_mem (l:=l.set (find l 0) (m+1)) (k:=find l 0) (by rw[List.length_set];exact hb'.1)
   rwa [getD_set,if_pos ⟨rfl,hb'.1⟩] at this
theorem slots_has {l:List Int} (hi:idsN l=idsG L):hasB l x=has L x:=by
 rw[Bool.eq_iff_iff]
 unfold hasB
 rw[decide_eq_true_iff,find_lt,←mem_ids,hi,has_ids]
theorem slots_del {l:List Int} {m:Int} (ok:Ok L m k) (tok:TabOk l m) (hi:idsN l=idsG L) (hx:has L x=true):idsN (dropL l x)=idsG (delG L x):=by
 have tok':=tok.drop x
 have hb:hasB l x=true:=by rw[slots_has hi];exact hx
 have hb':find l x<l.length∧x≠0:=by simpa[hasB] using hb
 have e0:=find_get hb'.1
 refine rise_ext (ids_strict tok') (del_rise ok) fun y=>?_
 rw[←has_ids,del_has ok hx,Bool.and_eq_true,Bool.not_eq_true',decide_eq_false_iff_not,has_ids,←hi,mem_ids,mem_ids]
 unfold dropL
 rw[hb]
 simp only[if_true]
 constructor
 ·rintro⟨h1,h2⟩
  obtain⟨j,hj,rfl⟩:=mem_getD h1
  rw[List.length_set] at hj
  rw[getD_set] at h2 ⊢
  split
  ·rename_i e;rw[if_pos e] at h2;exact absurd rfl h2
  ·rename_i e
   rw[if_neg e] at h2
   refine⟨⟨getD_mem hj,h2⟩,fun e2=>e ⟨?_,hj⟩⟩
   exact tok.uniq _ _ hb'.1 hj (e0.trans e2.symm) (by rw[e0];exact hb'.2)
 ·rintro⟨⟨h1,h2⟩,h3⟩
  refine⟨?_,h2⟩
  obtain⟨j,hj,rfl⟩:=mem_getD h1
  have hne: ¬find l x=j:=fun e=>h3 (by rw[←e];exact e0)
  have:=getD_mem (l:=l.set (find l x) 0) (k:=j) (by rw[List.length_set];exact hj)
  rwa [getD_set,if_neg (fun h=>hne h.1)] at this
end
end Go.Proofs.YtohifgjeebhijaaGreatDoor
namespace Go.Proofs.YtohifgjeebhijaaGreatDoor
set_option maxRecDepth 100000
set_option maxHeartbeats 4000000
open Go.RowKit Go.Maps
structure Rdr (w:World) (fp:Nat) (L:List Gr):Prop where
 below: ∀(y t:Int) (W:World),I64 y→Below w.heap.size w W→Calls Tryz.prog 87 #[.pointer (some ⟨fp,0,none⟩),.int .i64 y,.int .i64 t] W fun e w'=>e= .returned (.bool (belowB L y t))∧Below w.heap.size w w'
 depth: ∀(y:Int) (W:World),I64 y→Below w.heap.size w W→Calls Tryz.prog 82 #[.pointer (some ⟨fp,0,none⟩),.int .i64 y] W fun e w'=>e= .returned (.int .i64 (dep L y))∧Below w.heap.size w w'
 root: ∀(y:Int) (W:World),I64 y→has L y=true→Below w.heap.size w W→Calls Tryz.prog 86 #[.pointer (some ⟨fp,0,none⟩),.int .i64 y] W fun e w'=>e= .returned (.int .i64 (topI L y))∧Below w.heap.size w w'
 fan: ∀(y:Int) (W:World),I64 y→has L y=true→Below w.heap.size w W→Calls Tryz.prog 83 #[.pointer (some ⟨fp,0,none⟩),.int .i64 y] W fun e w'=>e= .returned (.int .i64 (fanI L y))∧Below w.heap.size w w'
 levels: ∀(y:Int) (W:World),I64 y→Below w.heap.size w W→Calls Tryz.prog 88 #[.pointer (some ⟨fp,0,none⟩),.int .i64 y] W fun e w'=>(∃(v:Int),e= .returned (.int .i64 v)∧0≤v∧v≤9∧∀p,decide (8<dep L p+v)=deepB L y p)∧Below w.heap.size w w'
section
variable {w w':World} {B fp:Nat} {L:List Gr} {l:List Int} {m k:Int}
theorem IsF.rdr (h:IsF w B fp L l m k):Rdr w fp L where
 below:=fun y t W hy hW=>(Below_any fp B L l m k y t W (h.below hW) hy).mono (by rintro e w' ⟨rfl,hb⟩;exact⟨rfl,Below.stay hW hb⟩)
 depth:=fun y W hy hW=>(depth_any fp B L l m k y W (h.below hW) hy).mono (by rintro e w' ⟨rfl,hb⟩;exact⟨rfl,Below.stay hW hb⟩)
 root:=fun y W hy hh hW=>(root_any fp B L l m k y W (h.below hW) hy hh).mono (by rintro e w' ⟨rfl,hb⟩;exact⟨rfl,Below.stay hW hb⟩)
 fan:=fun y W hy hh hW=>(fan_any fp B L l m k y W (h.below hW) hy hh).mono (by rintro e w' ⟨rfl,hb⟩;exact⟨rfl,Below.stay hW hb⟩)
 levels:=fun y W hy hW=>(levels_any fp B L l m k y W (h.below hW) hy).mono (by
  rintro e w' ⟨⟨v,vs,rfl,hv,ha⟩,hb⟩
  exact⟨⟨v,rfl,hv.v0,hv.le8 h.ok,fun p=>hv.deep h.ok ha⟩,Below.stay hW hb⟩)
theorem IsF.later (h:IsF w B fp L l m k) (hk:k<1000):IsF w B fp L l m (k+1):=⟨h.fo,h.tok,h.ids,h.ok.later hk⟩
theorem IsF.turned {tp tg mp:Nat} {bl:Int→Nat} {L':List Gr} {k':Int} (h:IsF w B fp L l m k) (hf:Fo w' fp tp tg mp bl L' l m) (hB:B≤tp∧B≤tg∧B≤mp∧∀x,has L x=true→B≤bl x) (hi:idsG L'=idsG L) (ok:Ok L' m k'):IsF w' B fp L' l m k':=
 ⟨⟨tp,tg,mp,bl,hf,hB.1,hB.2.1,hB.2.2.1,fun x hx=>hB.2.2.2 x (by rw[←has_of_ids hi];exact hx)⟩,h.tok,by rw[h.ids,hi],ok⟩
theorem IsF.act {tp tg mp:Nat} {bl:Int→Nat} {k' x:Int} {w1:World} {i:Nat} {v:Value} {g:Gr} (h:IsF w B fp L l m k) (hf:Fo w fp tp tg mp bl L l m) (hB:B≤tp∧B≤tg∧B≤mp∧∀x,has L x=true→B≤bl x)
  (hb:Below w.heap.size w w1) (hx:has L x=true) (hg:g.id=x) (hs:IsX (w1.setCell ⟨bl x,i,none⟩ v) (bl x) g) (ok:Ok (setG L x g) m k'):IsF (w1.setCell ⟨bl x,i,none⟩ v) B fp (setG L x g) l m k'∧Wr [118] B w (w1.setCell ⟨bl x,i,none⟩ v):=by
 have hf1:=hf.below hb
 exact⟨h.turned (hf1.put hx hg hs) hB (setG_ids hg) ok,(Wr.of_below hb).trans (Wr.setCell (hf1.grp x hx) (by simp) (hB.2.2.2 x hx) v)⟩
end
section
variable (fp B:Nat) (L:List Gr) (l:List Int) (m k:Int)
theorem SetWeight_no (x wt:Int) (w:World) (h:IsF w B fp L l m k) (hx:I64 x) (hk:k<1000) (hh:has L x=false):
  Calls Tryz.prog 49 #[.pointer (some ⟨fp,0,none⟩),.int .i64 x,.int .i64 wt] w fun e w'=>e= .returned (.int .i64 (weightC L x wt))∧IsF w' B fp (weightN L x wt) l m (k+1)∧Wr [118] B w w':=by
 have hc:weightC L x wt=4:=by unfold weightC;simp[hh]
 have HC:=Lib.hid hc
 have HN:Hid (weightN L x wt=L):=Lib.hid (by unfold weightN;rw[hc];rfl)
 obtain⟨tp,tg,mp,bl,hf,hB⟩:=h.fo
 have h1:=hf.c1
 have HL:=hf.lookN hx hh
 have HF:=Lib.hid h
 have HG:=Lib.hid hf
 have HK:=Lib.hid hk
 have HB:=Lib.hid hB
 clear h hf hB hk hh hc
 go_enter Tryz.func49,Tryz.ntmps49
 go_wp2_with fail
 go_ret
 rw[HC.out,HN.out]
 exact⟨rfl,HF.out.later HK.out,Wr.refl _⟩
theorem SetWeight_root (x wt:Int) (w:World) (h:IsF w B fp L l m k) (hx:I64 x) (hk:k<1000) (hh:has L x=true) (hp:(gr L x).pa= -1):
  Calls Tryz.prog 49 #[.pointer (some ⟨fp,0,none⟩),.int .i64 x,.int .i64 wt] w fun e w'=>e= .returned (.int .i64 (weightC L x wt))∧IsF w' B fp (weightN L x wt) l m (k+1)∧Wr [118] B w w':=by
 have hc:weightC L x wt=15:=by unfold weightC;simp[hh,hp]
 have HC:=Lib.hid hc
 have HN:Hid (weightN L x wt=L):=Lib.hid (by unfold weightN;rw[hc];rfl)
 obtain⟨tp,tg,mp,bl,hf,hB⟩:=h.fo
 have h1:=hf.c1
 have HL:=hf.lookY hx hh
 have HF:=Lib.hid h
 have HG:=Lib.hid hf
 have HK:=Lib.hid hk
 have HB:=Lib.hid hB
 have q0:=(hf.grp x hh).c0
 rw[hp] at q0
 clear h hf hB hk hh hc hp
 go_enter Tryz.func49,Tryz.ntmps49
 go_wp2_with fail
 go_ret
 rw[HC.out,HN.out]
 exact⟨rfl,HF.out.later HK.out,Wr.refl _⟩
theorem SetWeight_bad (x wt:Int) (w:World) (h:IsF w B fp L l m k) (hx:I64 x) (hk:k<1000) (hh:has L x=true) (hp:0≤(gr L x).pa) (hw: ¬(1≤wt∧wt≤10000)):
  Calls Tryz.prog 49 #[.pointer (some ⟨fp,0,none⟩),.int .i64 x,.int .i64 wt] w fun e w'=>e= .returned (.int .i64 (weightC L x wt))∧IsF w' B fp (weightN L x wt) l m (k+1)∧Wr [118] B w w':=by
 have hc:weightC L x wt=13:=by unfold weightC;rw[if_neg (by rw[hh];decide),if_neg (by omega),if_pos hw]
 have HC:=Lib.hid hc
 have HN:Hid (weightN L x wt=L):=Lib.hid (by unfold weightN;rw[hc];rfl)
 obtain⟨tp,tg,mp,bl,hf,hB⟩:=h.fo
 have h1:=hf.c1
 have HL:=hf.lookY hx hh
 have HF:=Lib.hid h
 have HG:=Lib.hid hf
 have HK:=Lib.hid hk
 have HB:=Lib.hid hB
 have q0:=(hf.grp x hh).c0
 have hp2:=beq_ff (show ¬(gr L x).pa= -1 by omega)
 have HW:Hid (decide (1≤wt∧wt≤10000)=false):=Lib.hid (decide_eq_false hw)
 clear h hf hB hk hh hc hp hw
 generalize (gr L x).pa=pa at *
 go_enter Tryz.func49,Tryz.ntmps49
 go_wp2_with (go_at_call 81;refine(isWeight_any _ _).mono ?_;rw[HW.out];rintro e w1 ⟨rfl,rfl⟩)
 go_ret
 rw[HC.out,HN.out]
 exact⟨rfl,HF.out.later HK.out,Wr.refl _⟩
theorem SetWeight_yes (x wt:Int) (w:World) (h:IsF w B fp L l m k) (hx:I64 x) (hk:k<1000) (hh:has L x=true) (hp:0≤(gr L x).pa) (hw:1≤wt∧wt≤10000):
  Calls Tryz.prog 49 #[.pointer (some ⟨fp,0,none⟩),.int .i64 x,.int .i64 wt] w fun e w'=>e= .returned (.int .i64 (weightC L x wt))∧IsF w' B fp (weightN L x wt) l m (k+1)∧Wr [118] B w w':=by
 have hc:weightC L x wt=0:=by unfold weightC;rw[if_neg (by rw[hh];decide),if_neg (by omega),if_neg (by omega)]
 have HC:=Lib.hid hc
 have HN:Hid (weightN L x wt=weightG L x wt):=Lib.hid (by unfold weightN;rw[hc];rfl)
 obtain⟨tp,tg,mp,bl,hf,hB⟩:=h.fo
 have h1:=hf.c1
 have HL:=hf.lookY hx hh
 have HF:=Lib.hid h
 have HG:=Lib.hid hf
 have HK:=Lib.hid hk
 have HB:=Lib.hid hB
 have q0:=(hf.grp x hh).c0
 have q1:=(hf.grp x hh).c1
 have f1:=(hf.grp x hh).fz 1
 have hp2:=beq_ff (show ¬(gr L x).pa= -1 by omega)
 have HW:Hid (decide (1≤wt∧wt≤10000)=true):=Lib.hid (decide_eq_true hw)
 have HOK:Ok (weightG L x wt) m (k+1):=by have:=h.ok.weight (x:=x) (wt:=wt) hk;rwa [HN.out] at this
 have HS:IsX (w.setCell ⟨bl x,1,none⟩ (.int .i64 wt)) (bl x) ⟨x,(gr L x).pa,wt,(gr L x).me,(gr L x).aw⟩:=(hf.grp x hh).set1 wt
 have HA:=Lib.hid (h.act hf hB (Below.refl _ _) hh rfl HS HOK)
 clear h hf hB hk hh hc hp hw HOK HS
 unfold weightG at HN
 generalize (gr L x).pa=pa at *
 generalize (gr L x).wt=wt0 at *
 go_enter Tryz.func49,Tryz.ntmps49
 go_wp2_with (go_at_call 81;refine(isWeight_any _ _).mono ?_;rw[HW.out];rintro e w1 ⟨rfl,rfl⟩)
 go_ret
 rw[HC.out,HN.out]
 refine⟨rfl,?_⟩
 exact HA.out
theorem SetWeight_any (x wt:Int) (w:World) (h:IsF w B fp L l m k) (hx:I64 x) (hk:k<1000):
  Calls Tryz.prog 49 #[.pointer (some ⟨fp,0,none⟩),.int .i64 x,.int .i64 wt] w fun e w'=>e= .returned (.int .i64 (weightC L x wt))∧IsF w' B fp (weightN L x wt) l m (k+1)∧Wr [118] B w w':=by
 cases hh:has L x with
 | false=>exact SetWeight_no fp B L l m k x wt w h hx hk hh
 | true=>
  rcases h.ok.pa hh with hp | hp
  ·exact SetWeight_root fp B L l m k x wt w h hx hk hh hp
  ·have:=h.ok.id hp
   by_cases hw:1≤wt∧wt≤10000
   ·exact SetWeight_yes fp B L l m k x wt w h hx hk hh (by omega) hw
   ·exact SetWeight_bad fp B L l m k x wt w h hx hk hh (by omega) hw
theorem Join_no (x:Int) (w:World) (h:IsF w B fp L l m k) (hx:I64 x) (hk:k<1000) (hh:has L x=false):
  Calls Tryz.prog 51 #[.pointer (some ⟨fp,0,none⟩),.int .i64 x] w fun e w'=>e= .returned (.int .i64 (countC L x 1 0))∧IsF w' B fp (countN L x 1 0) l m (k+1)∧Wr [118] B w w':=by
 have hc:countC L x 1 0=4:=by unfold countC;simp[hh]
 have HC:=Lib.hid hc
 have HN:Hid (countN L x 1 0=L):=Lib.hid (by unfold countN;rw[hc];rfl)
 obtain⟨tp,tg,mp,bl,hf,hB⟩:=h.fo
 have h1:=hf.c1
 have HL:=hf.lookN hx hh
 have HF:=Lib.hid h
 have HG:=Lib.hid hf
 have HK:=Lib.hid hk
 have HB:=Lib.hid hB
 clear h hf hB hk hh hc
 go_enter Tryz.func51,Tryz.ntmps51
 go_wp2_with fail
 go_ret
 rw[HC.out,HN.out]
 exact⟨rfl,HF.out.later HK.out,Wr.refl _⟩
theorem Join_full (x:Int) (w:World) (h:IsF w B fp L l m k) (hx:I64 x) (hk:k<1000) (hh:has L x=true) (hf32:fanI L x=32):
  Calls Tryz.prog 51 #[.pointer (some ⟨fp,0,none⟩),.int .i64 x] w fun e w'=>e= .returned (.int .i64 (countC L x 1 0))∧IsF w' B fp (countN L x 1 0) l m (k+1)∧Wr [118] B w w':=by
 have hc:countC L x 1 0=6:=by unfold countC;rw[if_neg (by rw[hh];decide),if_pos ⟨by decide,hf32⟩]
 have HC:=Lib.hid hc
 have HN:Hid (countN L x 1 0=L):=Lib.hid (by unfold countN;rw[hc];rfl)
 obtain⟨tp,tg,mp,bl,hf,hB⟩:=h.fo
 have h1:=hf.c1
 have HL:=hf.lookY hx hh
 have HF:=Lib.hid h
 have HG:=Lib.hid hf
 have HK:=Lib.hid hk
 have HB:=Lib.hid hB
 have HR:=Lib.hid h.rdr
 have HH:=Lib.hid hh
 have HFA:=Lib.hid hf32
 have hb0:=Below.refl w.heap.size w
 clear h hf hB hk hh hc hf32
 go_enter Tryz.func51,Tryz.ntmps51
 go_wp2_with (go_at_call 83;refine(HR.out.fan _ _ (by assumption) HH.out (by assumption)).mono ?_;rw[HFA.out];rintro e wi ⟨rfl,hbi⟩)
 go_ret
 rw[HC.out,HN.out]
 exact⟨rfl,(HF.out.below hbi).later HK.out,Wr.of_below hbi⟩
theorem Join_yes (x:Int) (w:World) (h:IsF w B fp L l m k) (hx:I64 x) (hk:k<1000) (hh:has L x=true) (hf32: ¬fanI L x=32):
  Calls Tryz.prog 51 #[.pointer (some ⟨fp,0,none⟩),.int .i64 x] w fun e w'=>e= .returned (.int .i64 (countC L x 1 0))∧IsF w' B fp (countN L x 1 0) l m (k+1)∧Wr [118] B w w':=by
 have hc:countC L x 1 0=0:=by unfold countC;have:=h.ok.num _ (gr_mem hh);rw[if_neg (by rw[hh];decide),if_neg (fun e=>hf32 e.2),if_neg (by omega)]
 have HC:=Lib.hid hc
 have HN:Hid (countN L x 1 0=countG L x 1 0):=Lib.hid (by unfold countN;rw[hc];rfl)
 obtain⟨tp,tg,mp,bl,hf,hB⟩:=h.fo
 have h1:=hf.c1
 have HL:=hf.lookY hx hh
 have HF:=Lib.hid h
 have HG:=Lib.hid hf
 have HK:=Lib.hid hk
 have HB:=Lib.hid hB
 have hnum:=h.ok.num _ (gr_mem hh)
 have hkk:=h.ok.k1
 have HR:=Lib.hid h.rdr
 have HH:=Lib.hid hh
 have hb0:=Below.refl w.heap.size w
 have HOK:Ok (countG L x 1 0) m (k+1):=by have:=h.ok.count (x:=x) (me:=1) (aw:=0) hk (by omega);rwa [HN.out] at this
 have HA:Hid (∀W:World,Below w.heap.size w W→IsF (W.setCell ⟨bl x,2,none⟩ (.int .i64 ((gr L x).me+1))) B fp (countG L x 1 0) l m (k+1)∧Wr [118] B w (W.setCell ⟨bl x,2,none⟩ (.int .i64 ((gr L x).me+1)))):=Lib.hid fun W hW=>by
  refine h.act hf hB hW hh rfl ?_ HOK
  have:=((hf.below hW).grp x hh).set2 ((gr L x).me+1)
  unfold IsX cellsX at this ⊢
  simpa[Int.sub_eq_add_neg] using this
 have HQ:Hid (∀W:World,Below w.heap.size w W→W.cell? ⟨bl x,2,none⟩=some (.int .i64 (gr L x).me)):=Lib.hid fun W hW=>((hf.below hW).grp x hh).c2
 have hff:=beq_ff hf32
 generalize hme:(gr L x).me=me at *
 obtain⟨n1,n2,n3,_⟩:=hnum
 have n4:0≤me:=by omega
 have n5:me≤1000:=by omega
 clear n1 n2 n3 hkk hf32 hme
 clear h hf hB hk hh hc HOK
 go_enter Tryz.func51,Tryz.ntmps51
 go_wp2_with (go_at_call 83;refine(HR.out.fan _ _ (by assumption) HH.out (by assumption)).mono ?_;rintro e wi ⟨rfl,hbi⟩;have hgi:=HG.out.below hbi;have q2:=HQ.out wi hbi;have f2:=(hgi.grp x HH.out).fz 2)
 go_ret
 rw[HC.out,HN.out]
 exact⟨rfl,HA.out _ (by assumption)⟩
theorem Join_any (x:Int) (w:World) (h:IsF w B fp L l m k) (hx:I64 x) (hk:k<1000):
  Calls Tryz.prog 51 #[.pointer (some ⟨fp,0,none⟩),.int .i64 x] w fun e w'=>e= .returned (.int .i64 (countC L x 1 0))∧IsF w' B fp (countN L x 1 0) l m (k+1)∧Wr [118] B w w':=by
 cases hh:has L x with
 | false=>exact Join_no fp B L l m k x w h hx hk hh
 | true=>
  by_cases hf:fanI L x=32
  ·exact Join_full fp B L l m k x w h hx hk hh hf
  ·exact Join_yes fp B L l m k x w h hx hk hh hf
theorem Leave_no (x:Int) (w:World) (h:IsF w B fp L l m k) (hx:I64 x) (hk:k<1000) (hh:has L x=false):
  Calls Tryz.prog 53 #[.pointer (some ⟨fp,0,none⟩),.int .i64 x] w fun e w'=>e= .returned (.int .i64 (countC L x (-1) 0))∧IsF w' B fp (countN L x (-1) 0) l m (k+1)∧Wr [118] B w w':=by
 have hc:countC L x (-1) 0=4:=by unfold countC;simp[hh]
 have HC:=Lib.hid hc
 have HN:Hid (countN L x (-1) 0=L):=Lib.hid (by unfold countN;rw[hc];rfl)
 obtain⟨tp,tg,mp,bl,hf,hB⟩:=h.fo
 have h1:=hf.c1
 have HL:=hf.lookN hx hh
 have HF:=Lib.hid h
 have HG:=Lib.hid hf
 have HK:=Lib.hid hk
 have HB:=Lib.hid hB
 clear h hf hB hk hh hc
 go_enter Tryz.func53,Tryz.ntmps53
 go_wp2_with fail
 go_ret
 rw[HC.out,HN.out]
 exact⟨rfl,HF.out.later HK.out,Wr.refl _⟩
theorem Leave_same (x:Int) (w:World) (h:IsF w B fp L l m k) (hx:I64 x) (hk:k<1000) (hh:has L x=true) (he:(gr L x).aw=(gr L x).me):
  Calls Tryz.prog 53 #[.pointer (some ⟨fp,0,none⟩),.int .i64 x] w fun e w'=>e= .returned (.int .i64 (countC L x (-1) 0))∧IsF w' B fp (countN L x (-1) 0) l m (k+1)∧Wr [118] B w w':=by
 have hc:countC L x (-1) 0=10:=by unfold countC;rw[if_neg (by rw[hh];decide),if_neg (fun e=>absurd e.1 (by decide)),if_pos (by omega)]
 have HC:=Lib.hid hc
 have HN:Hid (countN L x (-1) 0=L):=Lib.hid (by unfold countN;rw[hc];rfl)
 obtain⟨tp,tg,mp,bl,hf,hB⟩:=h.fo
 have h1:=hf.c1
 have HL:=hf.lookY hx hh
 have HF:=Lib.hid h
 have HG:=Lib.hid hf
 have HK:=Lib.hid hk
 have HB:=Lib.hid hB
 have q2:=(hf.grp x hh).c2
 have q3:=(hf.grp x hh).c3
 rw[he] at q3
 have f2:=(hf.grp x hh).fz 2
 have f3:=(hf.grp x hh).fz 3
 have hee:((gr L x).me==(gr L x).me)=true:=by simp
 generalize (gr L x).me=me at *
 clear h hf hB hk hh hc he
 go_enter Tryz.func53,Tryz.ntmps53
 go_wp2_with fail
 have hbi:Below w.heap.size w w.drew:=(Same.drew w).below _
 have q2:w.drew.cell? ⟨bl x,2,none⟩=some (.int .i64 me):=q2
 have q3:w.drew.cell? ⟨bl x,3,none⟩=some (.int .i64 me):=q3
 have f2:w.drew.frozen? ⟨bl x,2,none⟩=false:=f2
 have f3:w.drew.frozen? ⟨bl x,3,none⟩=false:=f3
 refine Rd.region (fun X=>X.cell? ⟨bl x,3,none⟩=some (.int .i64 me)∧X.cell? ⟨bl x,2,none⟩=some (.int .i64 me)) 10 [0,1,2,3,4,5,6,7,8,9] [0,1,2,3,4,5,6,7,8,9] (by kernel_rfl) (by kernel_rfl) (by kernel_rfl) (by kernel_rfl) rfl ⟨q3,q2⟩ ?_
 generalize w.drew=w3 at *
 refine Rd.seq_float (.pointer (some ⟨bl x,0,none⟩)) (by simp only[gA,gC];rfl) rfl (by rfl) (fun X _=>by go_simp) ?_
 simp only[Act.put,sA,sB,sC]
 refine Rd.seq_float (.pointer (some ⟨bl x,0,none⟩)) (by simp only[gA,gB,gC];rfl) rfl (by rfl) (fun X _=>by go_simp) ?_
 simp only[Act.put,sA,sB,sC]
 refine Rd.seq_float (.pointer (some ⟨bl x,3,none⟩)) (by simp only[gA,gB,gC];rfl) rfl (by rfl) (fun X _=>by go_simp) ?_
 simp only[Act.put,sA,sB,sC]
 refine Rd.seq_float (.int .i64 me) (by simp only[gA,gB,gC];rfl) rfl (by rfl) (fun X hX=>by obtain⟨e3,e2⟩:=hX;go_simp) ?_
 simp only[Act.put,sA,sB,sC]
 refine Rd.seq_float (.pointer (some ⟨bl x,0,none⟩)) (by simp only[gA,gB,gC];rfl) rfl (by rfl) (fun X _=>by go_simp) ?_
 simp only[Act.put,sA,sB,sC]
 refine Rd.seq_float (.pointer (some ⟨bl x,0,none⟩)) (by simp only[gA,gB,gC];rfl) rfl (by rfl) (fun X _=>by go_simp) ?_
 simp only[Act.put,sA,sB,sC]
 refine Rd.seq_float (.pointer (some ⟨bl x,2,none⟩)) (by simp only[gA,gB,gC];rfl) rfl (by rfl) (fun X _=>by go_simp) ?_
 simp only[Act.put,sA,sB,sC]
 refine Rd.seq_float (.int .i64 me) (by simp only[gA,gB,gC];rfl) rfl (by rfl) (fun X hX=>by obtain⟨e3,e2⟩:=hX;go_simp) ?_
 simp only[Act.put,sA,sB,sC]
 refine Rd.seq_float (.bool true) (by simp only[gA,gB,gC];rfl) rfl (by rfl) (fun X _=>by go_simp) ?_
 simp only[Act.put,sA,sB,sC]
 refine Rd.seq_float (.bool true) (by simp only[gA,gB,gC];rfl) rfl (by rfl) (fun X _=>by go_simp) ?_
 simp only[Act.put,sA,sB,sC]
 refine Rd.seq_end ?_
 go_wp2_with fail
 go_ret
 rw[HC.out,HN.out]
 exact⟨rfl,(HF.out.below hbi).later HK.out,Wr.of_below hbi⟩
theorem Leave_yes (x:Int) (w:World) (h:IsF w B fp L l m k) (hx:I64 x) (hk:k<1000) (hh:has L x=true) (hne: ¬(gr L x).aw=(gr L x).me):
  Calls Tryz.prog 53 #[.pointer (some ⟨fp,0,none⟩),.int .i64 x] w fun e w'=>e= .returned (.int .i64 (countC L x (-1) 0))∧IsF w' B fp (countN L x (-1) 0) l m (k+1)∧Wr [118] B w w':=by
 have hc:countC L x (-1) 0=0:=by unfold countC;have:=h.ok.num _ (gr_mem hh);rw[if_neg (by rw[hh];decide),if_neg (fun e=>absurd e.1 (by decide)),if_neg (by omega)]
 have HC:=Lib.hid hc
 have HN:Hid (countN L x (-1) 0=countG L x (-1) 0):=Lib.hid (by unfold countN;rw[hc];rfl)
 obtain⟨tp,tg,mp,bl,hf,hB⟩:=h.fo
 have h1:=hf.c1
 have HL:=hf.lookY hx hh
 have HF:=Lib.hid h
 have HG:=Lib.hid hf
 have HK:=Lib.hid hk
 have HB:=Lib.hid hB
 have hnum:=h.ok.num _ (gr_mem hh)
 have hkk:=h.ok.k1
 have HR:=Lib.hid h.rdr
 have HH:=Lib.hid hh
 have hb0:=Below.refl w.heap.size w
 have HOK:Ok (countG L x (-1) 0) m (k+1):=by have:=h.ok.count (x:=x) (me:=(-1)) (aw:=0) hk (by omega);rwa [HN.out] at this
 have HA:Hid (∀W:World,Below w.heap.size w W→IsF (W.setCell ⟨bl x,2,none⟩ (.int .i64 ((gr L x).me - 1))) B fp (countG L x (-1) 0) l m (k+1)∧Wr [118] B w (W.setCell ⟨bl x,2,none⟩ (.int .i64 ((gr L x).me - 1)))):=Lib.hid fun W hW=>by
  refine h.act hf hB hW hh rfl ?_ HOK
  have:=((hf.below hW).grp x hh).set2 ((gr L x).me - 1)
  unfold IsX cellsX at this ⊢
  simpa[Int.sub_eq_add_neg] using this
 have q2:=(hf.grp x hh).c2
 have q3:=(hf.grp x hh).c3
 have f2:=(hf.grp x hh).fz 2
 have f3:=(hf.grp x hh).fz 3
 have hne2:((gr L x).aw==(gr L x).me)=false:=beq_ff (by omega)
 generalize (gr L x).me=me at *
 generalize (gr L x).aw=aw at *
 obtain⟨n1,n2,n3,_⟩:=hnum
 have n4:0≤me:=by omega
 have n5:me≤1000:=by omega
 have n6:aw≤1000:=by omega
 clear n3 hkk hne
 clear h hf hB hk hh hc HOK
 go_enter Tryz.func53,Tryz.ntmps53
 go_wp2_with fail
 have hbi:Below w.heap.size w w.drew:=(Same.drew w).below _
 have q2:w.drew.cell? ⟨bl x,2,none⟩=some (.int .i64 me):=q2
 have q3:w.drew.cell? ⟨bl x,3,none⟩=some (.int .i64 aw):=q3
 have f2:w.drew.frozen? ⟨bl x,2,none⟩=false:=f2
 have f3:w.drew.frozen? ⟨bl x,3,none⟩=false:=f3
 refine Rd.region (fun X=>X.cell? ⟨bl x,3,none⟩=some (.int .i64 aw)∧X.cell? ⟨bl x,2,none⟩=some (.int .i64 me)) 10 [0,1,2,3,4,5,6,7,8,9] [0,1,2,3,4,5,6,7,8,9] (by kernel_rfl) (by kernel_rfl) (by kernel_rfl) (by kernel_rfl) rfl ⟨q3,q2⟩ ?_
 generalize w.drew=w3 at *
 refine Rd.seq_float (.pointer (some ⟨bl x,0,none⟩)) (by simp only[gA,gC];rfl) rfl (by rfl) (fun X _=>by go_simp) ?_
 simp only[Act.put,sA,sB,sC]
 refine Rd.seq_float (.pointer (some ⟨bl x,0,none⟩)) (by simp only[gA,gB,gC];rfl) rfl (by rfl) (fun X _=>by go_simp) ?_
 simp only[Act.put,sA,sB,sC]
 refine Rd.seq_float (.pointer (some ⟨bl x,3,none⟩)) (by simp only[gA,gB,gC];rfl) rfl (by rfl) (fun X _=>by go_simp) ?_
 simp only[Act.put,sA,sB,sC]
 refine Rd.seq_float (.int .i64 aw) (by simp only[gA,gB,gC];rfl) rfl (by rfl) (fun X hX=>by obtain⟨e3,e2⟩:=hX;go_simp) ?_
 simp only[Act.put,sA,sB,sC]
 refine Rd.seq_float (.pointer (some ⟨bl x,0,none⟩)) (by simp only[gA,gB,gC];rfl) rfl (by rfl) (fun X _=>by go_simp) ?_
 simp only[Act.put,sA,sB,sC]
 refine Rd.seq_float (.pointer (some ⟨bl x,0,none⟩)) (by simp only[gA,gB,gC];rfl) rfl (by rfl) (fun X _=>by go_simp) ?_
 simp only[Act.put,sA,sB,sC]
 refine Rd.seq_float (.pointer (some ⟨bl x,2,none⟩)) (by simp only[gA,gB,gC];rfl) rfl (by rfl) (fun X _=>by go_simp) ?_
 simp only[Act.put,sA,sB,sC]
 refine Rd.seq_float (.int .i64 me) (by simp only[gA,gB,gC];rfl) rfl (by rfl) (fun X hX=>by obtain⟨e3,e2⟩:=hX;go_simp) ?_
 simp only[Act.put,sA,sB,sC]
 refine Rd.seq_float (.bool false) (by simp only[gA,gB,gC];rfl) rfl (by rfl) (fun X _=>by go_simp) ?_
 simp only[Act.put,sA,sB,sC]
 refine Rd.seq_float (.bool false) (by simp only[gA,gB,gC];rfl) rfl (by rfl) (fun X _=>by go_simp) ?_
 simp only[Act.put,sA,sB,sC]
 refine Rd.seq_end ?_
 go_wp2_with fail
 go_ret
 rw[HC.out,HN.out]
 exact⟨rfl,HA.out _ (by assumption)⟩
theorem Leave_any (x:Int) (w:World) (h:IsF w B fp L l m k) (hx:I64 x) (hk:k<1000):
  Calls Tryz.prog 53 #[.pointer (some ⟨fp,0,none⟩),.int .i64 x] w fun e w'=>e= .returned (.int .i64 (countC L x (-1) 0))∧IsF w' B fp (countN L x (-1) 0) l m (k+1)∧Wr [118] B w w':=by
 cases hh:has L x with
 | false=>exact Leave_no fp B L l m k x w h hx hk hh
 | true=>
  by_cases hf:(gr L x).aw=(gr L x).me
  ·exact Leave_same fp B L l m k x w h hx hk hh hf
  ·exact Leave_yes fp B L l m k x w h hx hk hh hf
theorem Wake_no (x:Int) (w:World) (h:IsF w B fp L l m k) (hx:I64 x) (hk:k<1000) (hh:has L x=false):
  Calls Tryz.prog 54 #[.pointer (some ⟨fp,0,none⟩),.int .i64 x] w fun e w'=>e= .returned (.int .i64 (countC L x 0 1))∧IsF w' B fp (countN L x 0 1) l m (k+1)∧Wr [118] B w w':=by
 have hc:countC L x 0 1=4:=by unfold countC;simp[hh]
 have HC:=Lib.hid hc
 have HN:Hid (countN L x 0 1=L):=Lib.hid (by unfold countN;rw[hc];rfl)
 obtain⟨tp,tg,mp,bl,hf,hB⟩:=h.fo
 have h1:=hf.c1
 have HL:=hf.lookN hx hh
 have HF:=Lib.hid h
 have HG:=Lib.hid hf
 have HK:=Lib.hid hk
 have HB:=Lib.hid hB
 clear h hf hB hk hh hc
 go_enter Tryz.func54,Tryz.ntmps54
 go_wp2_with fail
 go_ret
 rw[HC.out,HN.out]
 exact⟨rfl,HF.out.later HK.out,Wr.refl _⟩
theorem Wake_same (x:Int) (w:World) (h:IsF w B fp L l m k) (hx:I64 x) (hk:k<1000) (hh:has L x=true) (he:(gr L x).aw=(gr L x).me):
  Calls Tryz.prog 54 #[.pointer (some ⟨fp,0,none⟩),.int .i64 x] w fun e w'=>e= .returned (.int .i64 (countC L x 0 1))∧IsF w' B fp (countN L x 0 1) l m (k+1)∧Wr [118] B w w':=by
 have hc:countC L x 0 1=10:=by unfold countC;rw[if_neg (by rw[hh];decide),if_neg (fun e=>absurd e.1 (by decide)),if_pos (by omega)]
 have HC:=Lib.hid hc
 have HN:Hid (countN L x 0 1=L):=Lib.hid (by unfold countN;rw[hc];rfl)
 obtain⟨tp,tg,mp,bl,hf,hB⟩:=h.fo
 have h1:=hf.c1
 have HL:=hf.lookY hx hh
 have HF:=Lib.hid h
 have HG:=Lib.hid hf
 have HK:=Lib.hid hk
 have HB:=Lib.hid hB
 have q2:=(hf.grp x hh).c2
 have q3:=(hf.grp x hh).c3
 rw[he] at q3
 have f2:=(hf.grp x hh).fz 2
 have f3:=(hf.grp x hh).fz 3
 have hee:((gr L x).me==(gr L x).me)=true:=by simp
 generalize (gr L x).me=me at *
 clear h hf hB hk hh hc he
 go_enter Tryz.func54,Tryz.ntmps54
 go_wp2_with fail
 have hbi:Below w.heap.size w w.drew:=(Same.drew w).below _
 have q2:w.drew.cell? ⟨bl x,2,none⟩=some (.int .i64 me):=q2
 have q3:w.drew.cell? ⟨bl x,3,none⟩=some (.int .i64 me):=q3
 have f2:w.drew.frozen? ⟨bl x,2,none⟩=false:=f2
 have f3:w.drew.frozen? ⟨bl x,3,none⟩=false:=f3
 refine Rd.region (fun X=>X.cell? ⟨bl x,3,none⟩=some (.int .i64 me)∧X.cell? ⟨bl x,2,none⟩=some (.int .i64 me)) 10 [0,1,2,3,4,5,6,7,8,9] [0,1,2,3,4,5,6,7,8,9] (by kernel_rfl) (by kernel_rfl) (by kernel_rfl) (by kernel_rfl) rfl ⟨q3,q2⟩ ?_
 generalize w.drew=w3 at *
 refine Rd.seq_float (.pointer (some ⟨bl x,0,none⟩)) (by simp only[gA,gC];rfl) rfl (by rfl) (fun X _=>by go_simp) ?_
 simp only[Act.put,sA,sB,sC]
 refine Rd.seq_float (.pointer (some ⟨bl x,0,none⟩)) (by simp only[gA,gB,gC];rfl) rfl (by rfl) (fun X _=>by go_simp) ?_
 simp only[Act.put,sA,sB,sC]
 refine Rd.seq_float (.pointer (some ⟨bl x,3,none⟩)) (by simp only[gA,gB,gC];rfl) rfl (by rfl) (fun X _=>by go_simp) ?_
 simp only[Act.put,sA,sB,sC]
 refine Rd.seq_float (.int .i64 me) (by simp only[gA,gB,gC];rfl) rfl (by rfl) (fun X hX=>by obtain⟨e3,e2⟩:=hX;go_simp) ?_
 simp only[Act.put,sA,sB,sC]
 refine Rd.seq_float (.pointer (some ⟨bl x,0,none⟩)) (by simp only[gA,gB,gC];rfl) rfl (by rfl) (fun X _=>by go_simp) ?_
 simp only[Act.put,sA,sB,sC]
 refine Rd.seq_float (.pointer (some ⟨bl x,0,none⟩)) (by simp only[gA,gB,gC];rfl) rfl (by rfl) (fun X _=>by go_simp) ?_
 simp only[Act.put,sA,sB,sC]
 refine Rd.seq_float (.pointer (some ⟨bl x,2,none⟩)) (by simp only[gA,gB,gC];rfl) rfl (by rfl) (fun X _=>by go_simp) ?_
 simp only[Act.put,sA,sB,sC]
 refine Rd.seq_float (.int .i64 me) (by simp only[gA,gB,gC];rfl) rfl (by rfl) (fun X hX=>by obtain⟨e3,e2⟩:=hX;go_simp) ?_
 simp only[Act.put,sA,sB,sC]
 refine Rd.seq_float (.bool true) (by simp only[gA,gB,gC];rfl) rfl (by rfl) (fun X _=>by go_simp) ?_
 simp only[Act.put,sA,sB,sC]
 refine Rd.seq_float (.bool true) (by simp only[gA,gB,gC];rfl) rfl (by rfl) (fun X _=>by go_simp) ?_
 simp only[Act.put,sA,sB,sC]
 refine Rd.seq_end ?_
 go_wp2_with fail
 go_ret
 rw[HC.out,HN.out]
 exact⟨rfl,(HF.out.below hbi).later HK.out,Wr.of_below hbi⟩
theorem Wake_yes (x:Int) (w:World) (h:IsF w B fp L l m k) (hx:I64 x) (hk:k<1000) (hh:has L x=true) (hne: ¬(gr L x).aw=(gr L x).me):
  Calls Tryz.prog 54 #[.pointer (some ⟨fp,0,none⟩),.int .i64 x] w fun e w'=>e= .returned (.int .i64 (countC L x 0 1))∧IsF w' B fp (countN L x 0 1) l m (k+1)∧Wr [118] B w w':=by
 have hc:countC L x 0 1=0:=by unfold countC;have:=h.ok.num _ (gr_mem hh);rw[if_neg (by rw[hh];decide),if_neg (fun e=>absurd e.1 (by decide)),if_neg (by omega)]
 have HC:=Lib.hid hc
 have HN:Hid (countN L x 0 1=countG L x 0 1):=Lib.hid (by unfold countN;rw[hc];rfl)
 obtain⟨tp,tg,mp,bl,hf,hB⟩:=h.fo
 have h1:=hf.c1
 have HL:=hf.lookY hx hh
 have HF:=Lib.hid h
 have HG:=Lib.hid hf
 have HK:=Lib.hid hk
 have HB:=Lib.hid hB
 have hnum:=h.ok.num _ (gr_mem hh)
 have hkk:=h.ok.k1
 have HR:=Lib.hid h.rdr
 have HH:=Lib.hid hh
 have hb0:=Below.refl w.heap.size w
 have HOK:Ok (countG L x 0 1) m (k+1):=by have:=h.ok.count (x:=x) (me:=0) (aw:=1) hk (by omega);rwa [HN.out] at this
 have HA:Hid (∀W:World,Below w.heap.size w W→IsF (W.setCell ⟨bl x,3,none⟩ (.int .i64 ((gr L x).aw+1))) B fp (countG L x 0 1) l m (k+1)∧Wr [118] B w (W.setCell ⟨bl x,3,none⟩ (.int .i64 ((gr L x).aw+1)))):=Lib.hid fun W hW=>by
  refine h.act hf hB hW hh rfl ?_ HOK
  have:=((hf.below hW).grp x hh).set3 ((gr L x).aw+1)
  unfold IsX cellsX at this ⊢
  simpa[Int.sub_eq_add_neg] using this
 have q2:=(hf.grp x hh).c2
 have q3:=(hf.grp x hh).c3
 have f2:=(hf.grp x hh).fz 2
 have f3:=(hf.grp x hh).fz 3
 have hne2:((gr L x).aw==(gr L x).me)=false:=beq_ff (by omega)
 generalize (gr L x).me=me at *
 generalize (gr L x).aw=aw at *
 obtain⟨n1,n2,n3,_⟩:=hnum
 have n4:0≤me:=by omega
 have n5:me≤1000:=by omega
 have n6:aw≤1000:=by omega
 clear n3 hkk hne
 clear h hf hB hk hh hc HOK
 go_enter Tryz.func54,Tryz.ntmps54
 go_wp2_with fail
 have hbi:Below w.heap.size w w.drew:=(Same.drew w).below _
 have q2:w.drew.cell? ⟨bl x,2,none⟩=some (.int .i64 me):=q2
 have q3:w.drew.cell? ⟨bl x,3,none⟩=some (.int .i64 aw):=q3
 have f2:w.drew.frozen? ⟨bl x,2,none⟩=false:=f2
 have f3:w.drew.frozen? ⟨bl x,3,none⟩=false:=f3
 refine Rd.region (fun X=>X.cell? ⟨bl x,3,none⟩=some (.int .i64 aw)∧X.cell? ⟨bl x,2,none⟩=some (.int .i64 me)) 10 [0,1,2,3,4,5,6,7,8,9] [0,1,2,3,4,5,6,7,8,9] (by kernel_rfl) (by kernel_rfl) (by kernel_rfl) (by kernel_rfl) rfl ⟨q3,q2⟩ ?_
 generalize w.drew=w3 at *
 refine Rd.seq_float (.pointer (some ⟨bl x,0,none⟩)) (by simp only[gA,gC];rfl) rfl (by rfl) (fun X _=>by go_simp) ?_
 simp only[Act.put,sA,sB,sC]
 refine Rd.seq_float (.pointer (some ⟨bl x,0,none⟩)) (by simp only[gA,gB,gC];rfl) rfl (by rfl) (fun X _=>by go_simp) ?_
 simp only[Act.put,sA,sB,sC]
 refine Rd.seq_float (.pointer (some ⟨bl x,3,none⟩)) (by simp only[gA,gB,gC];rfl) rfl (by rfl) (fun X _=>by go_simp) ?_
 simp only[Act.put,sA,sB,sC]
 refine Rd.seq_float (.int .i64 aw) (by simp only[gA,gB,gC];rfl) rfl (by rfl) (fun X hX=>by obtain⟨e3,e2⟩:=hX;go_simp) ?_
 simp only[Act.put,sA,sB,sC]
 refine Rd.seq_float (.pointer (some ⟨bl x,0,none⟩)) (by simp only[gA,gB,gC];rfl) rfl (by rfl) (fun X _=>by go_simp) ?_
 simp only[Act.put,sA,sB,sC]
 refine Rd.seq_float (.pointer (some ⟨bl x,0,none⟩)) (by simp only[gA,gB,gC];rfl) rfl (by rfl) (fun X _=>by go_simp) ?_
 simp only[Act.put,sA,sB,sC]
 refine Rd.seq_float (.pointer (some ⟨bl x,2,none⟩)) (by simp only[gA,gB,gC];rfl) rfl (by rfl) (fun X _=>by go_simp) ?_
 simp only[Act.put,sA,sB,sC]
 refine Rd.seq_float (.int .i64 me) (by simp only[gA,gB,gC];rfl) rfl (by rfl) (fun X hX=>by obtain⟨e3,e2⟩:=hX;go_simp) ?_
 simp only[Act.put,sA,sB,sC]
 refine Rd.seq_float (.bool false) (by simp only[gA,gB,gC];rfl) rfl (by rfl) (fun X _=>by go_simp) ?_
 simp only[Act.put,sA,sB,sC]
 refine Rd.seq_float (.bool false) (by simp only[gA,gB,gC];rfl) rfl (by rfl) (fun X _=>by go_simp) ?_
 simp only[Act.put,sA,sB,sC]
 refine Rd.seq_end ?_
 go_wp2_with fail
 go_ret
 rw[HC.out,HN.out]
 exact⟨rfl,HA.out _ (by assumption)⟩
theorem Wake_any (x:Int) (w:World) (h:IsF w B fp L l m k) (hx:I64 x) (hk:k<1000):
  Calls Tryz.prog 54 #[.pointer (some ⟨fp,0,none⟩),.int .i64 x] w fun e w'=>e= .returned (.int .i64 (countC L x 0 1))∧IsF w' B fp (countN L x 0 1) l m (k+1)∧Wr [118] B w w':=by
 cases hh:has L x with
 | false=>exact Wake_no fp B L l m k x w h hx hk hh
 | true=>
  by_cases hf:(gr L x).aw=(gr L x).me
  ·exact Wake_same fp B L l m k x w h hx hk hh hf
  ·exact Wake_yes fp B L l m k x w h hx hk hh hf
theorem Sleep_no (x:Int) (w:World) (h:IsF w B fp L l m k) (hx:I64 x) (hk:k<1000) (hh:has L x=false):
  Calls Tryz.prog 55 #[.pointer (some ⟨fp,0,none⟩),.int .i64 x] w fun e w'=>e= .returned (.int .i64 (countC L x 0 (-1)))∧IsF w' B fp (countN L x 0 (-1)) l m (k+1)∧Wr [118] B w w':=by
 have hc:countC L x 0 (-1)=4:=by unfold countC;simp[hh]
 have HC:=Lib.hid hc
 have HN:Hid (countN L x 0 (-1)=L):=Lib.hid (by unfold countN;rw[hc];rfl)
 obtain⟨tp,tg,mp,bl,hf,hB⟩:=h.fo
 have h1:=hf.c1
 have HL:=hf.lookN hx hh
 have HF:=Lib.hid h
 have HG:=Lib.hid hf
 have HK:=Lib.hid hk
 have HB:=Lib.hid hB
 clear h hf hB hk hh hc
 go_enter Tryz.func55,Tryz.ntmps55
 go_wp2_with fail
 go_ret
 rw[HC.out,HN.out]
 exact⟨rfl,HF.out.later HK.out,Wr.refl _⟩
theorem Sleep_none (x:Int) (w:World) (h:IsF w B fp L l m k) (hx:I64 x) (hk:k<1000) (hh:has L x=true) (he:(gr L x).aw=0):
  Calls Tryz.prog 55 #[.pointer (some ⟨fp,0,none⟩),.int .i64 x] w fun e w'=>e= .returned (.int .i64 (countC L x 0 (-1)))∧IsF w' B fp (countN L x 0 (-1)) l m (k+1)∧Wr [118] B w w':=by
 have hc:countC L x 0 (-1)=10:=by unfold countC;rw[if_neg (by rw[hh];decide),if_neg (fun e=>absurd e.1 (by decide)),if_pos (by omega)]
 have HC:=Lib.hid hc
 have HN:Hid (countN L x 0 (-1)=L):=Lib.hid (by unfold countN;rw[hc];rfl)
 obtain⟨tp,tg,mp,bl,hf,hB⟩:=h.fo
 have h1:=hf.c1
 have HL:=hf.lookY hx hh
 have HF:=Lib.hid h
 have HG:=Lib.hid hf
 have HK:=Lib.hid hk
 have HB:=Lib.hid hB
 have q3:=(hf.grp x hh).c3
 rw[he] at q3
 clear h hf hB hk hh hc he
 go_enter Tryz.func55,Tryz.ntmps55
 go_wp2_with fail
 go_ret
 rw[HC.out,HN.out]
 exact⟨rfl,HF.out.later HK.out,Wr.refl _⟩
theorem Sleep_yes (x:Int) (w:World) (h:IsF w B fp L l m k) (hx:I64 x) (hk:k<1000) (hh:has L x=true) (hne: ¬(gr L x).aw=0):
  Calls Tryz.prog 55 #[.pointer (some ⟨fp,0,none⟩),.int .i64 x] w fun e w'=>e= .returned (.int .i64 (countC L x 0 (-1)))∧IsF w' B fp (countN L x 0 (-1)) l m (k+1)∧Wr [118] B w w':=by
 have hc:countC L x 0 (-1)=0:=by unfold countC;have:=h.ok.num _ (gr_mem hh);rw[if_neg (by rw[hh];decide),if_neg (fun e=>absurd e.1 (by decide)),if_neg (by omega)]
 have HC:=Lib.hid hc
 have HN:Hid (countN L x 0 (-1)=countG L x 0 (-1)):=Lib.hid (by unfold countN;rw[hc];rfl)
 obtain⟨tp,tg,mp,bl,hf,hB⟩:=h.fo
 have h1:=hf.c1
 have HL:=hf.lookY hx hh
 have HF:=Lib.hid h
 have HG:=Lib.hid hf
 have HK:=Lib.hid hk
 have HB:=Lib.hid hB
 have hnum:=h.ok.num _ (gr_mem hh)
 have hkk:=h.ok.k1
 have HR:=Lib.hid h.rdr
 have HH:=Lib.hid hh
 have hb0:=Below.refl w.heap.size w
 have HOK:Ok (countG L x 0 (-1)) m (k+1):=by have:=h.ok.count (x:=x) (me:=0) (aw:=(-1)) hk (by omega);rwa [HN.out] at this
 have HA:Hid (∀W:World,Below w.heap.size w W→IsF (W.setCell ⟨bl x,3,none⟩ (.int .i64 ((gr L x).aw - 1))) B fp (countG L x 0 (-1)) l m (k+1)∧Wr [118] B w (W.setCell ⟨bl x,3,none⟩ (.int .i64 ((gr L x).aw - 1)))):=Lib.hid fun W hW=>by
  refine h.act hf hB hW hh rfl ?_ HOK
  have:=((hf.below hW).grp x hh).set3 ((gr L x).aw - 1)
  unfold IsX cellsX at this ⊢
  simpa[Int.sub_eq_add_neg] using this
 have q2:=(hf.grp x hh).c2
 have q3:=(hf.grp x hh).c3
 have f2:=(hf.grp x hh).fz 2
 have f3:=(hf.grp x hh).fz 3
 have hne2:((gr L x).aw==0)=false:=beq_ff (by omega)
 generalize (gr L x).me=me at *
 generalize (gr L x).aw=aw at *
 obtain⟨n1,n2,n3,_⟩:=hnum
 have n4:0≤me:=by omega
 have n5:me≤1000:=by omega
 have n6:aw≤1000:=by omega
 clear n3 hkk hne
 clear h hf hB hk hh hc HOK
 go_enter Tryz.func55,Tryz.ntmps55
 go_wp2_with fail
 go_ret
 rw[HC.out,HN.out]
 exact⟨rfl,HA.out _ (by assumption)⟩
theorem Sleep_any (x:Int) (w:World) (h:IsF w B fp L l m k) (hx:I64 x) (hk:k<1000):
  Calls Tryz.prog 55 #[.pointer (some ⟨fp,0,none⟩),.int .i64 x] w fun e w'=>e= .returned (.int .i64 (countC L x 0 (-1)))∧IsF w' B fp (countN L x 0 (-1)) l m (k+1)∧Wr [118] B w w':=by
 cases hh:has L x with
 | false=>exact Sleep_no fp B L l m k x w h hx hk hh
 | true=>
  by_cases hf:(gr L x).aw=0
  ·exact Sleep_none fp B L l m k x w h hx hk hh hf
  ·exact Sleep_yes fp B L l m k x w h hx hk hh hf
end
end Go.Proofs.YtohifgjeebhijaaGreatDoor
namespace Go.Proofs.YtohifgjeebhijaaGreatDoor
set_option maxRecDepth 100000
set_option maxHeartbeats 4000000
open Go.RowKit Go.Maps
section
variable (fp B:Nat) (L:List Gr) (l:List Int) (m k:Int)
theorem Move_noX (x p:Int) (w:World) (h:IsF w B fp L l m k) (hx:I64 x) (hk:k<1000) (hh:has L x=false):
  Calls Tryz.prog 47 #[.pointer (some ⟨fp,0,none⟩),.int .i64 x,.int .i64 p] w fun e w'=>e= .returned (.int .i64 (moveC L x p))∧IsF w' B fp (moveN L x p) l m (k+1)∧Wr [118] B w w':=by
 have hc:moveC L x p=4:=by unfold moveC;rw[if_pos (.inl hh)]
 have HC:=Lib.hid hc
 have HN:Hid (moveN L x p=L):=Lib.hid (by unfold moveN;rw[hc];rfl)
 obtain⟨tp,tg,mp,bl,hf,hB⟩:=h.fo
 have h1:=hf.c1
 have HL:=hf.lookN hx hh
 have HH:=Lib.hid hh
 have HF:=Lib.hid h
 have HG:=Lib.hid hf
 have HK:=Lib.hid hk
 have HR:=Lib.hid h.rdr
 have hb0:=Below.refl w.heap.size w
 clear h hf hB hk hh hc
 go_enter Tryz.func47,Tryz.ntmps47
 go_wp2_with fail
 go_ret
 rw[HC.out,HN.out]
 exact⟨rfl,HF.out.later HK.out,Wr.refl _⟩
theorem Move_noP (x p:Int) (w:World) (h:IsF w B fp L l m k) (hx:I64 x) (hp:I64 p) (hk:k<1000) (hh:has L x=true) (hq:has L p=false):
  Calls Tryz.prog 47 #[.pointer (some ⟨fp,0,none⟩),.int .i64 x,.int .i64 p] w fun e w'=>e= .returned (.int .i64 (moveC L x p))∧IsF w' B fp (moveN L x p) l m (k+1)∧Wr [118] B w w':=by
 have hc:moveC L x p=4:=by unfold moveC;rw[if_pos (.inr hq)]
 have HC:=Lib.hid hc
 have HN:Hid (moveN L x p=L):=Lib.hid (by unfold moveN;rw[hc];rfl)
 obtain⟨tp,tg,mp,bl,hf,hB⟩:=h.fo
 have h1:=hf.c1
 have HL:=hf.lookY hx hh
 have HLp:=hf.lookN hp hq
 have HQ:=Lib.hid hq
 have HH:=Lib.hid hh
 have HF:=Lib.hid h
 have HG:=Lib.hid hf
 have HK:=Lib.hid hk
 have HR:=Lib.hid h.rdr
 have hb0:=Below.refl w.heap.size w
 clear h hf hB hk hh hc hq
 go_enter Tryz.func47,Tryz.ntmps47
 go_wp2_with fail
 go_ret
 rw[HC.out,HN.out]
 exact⟨rfl,HF.out.later HK.out,Wr.refl _⟩
theorem Move_root (x p:Int) (w:World) (h:IsF w B fp L l m k) (hx:I64 x) (hp:I64 p) (hk:k<1000) (hh:has L x=true) (hq:has L p=true) (hp1:(gr L x).pa= -1):
  Calls Tryz.prog 47 #[.pointer (some ⟨fp,0,none⟩),.int .i64 x,.int .i64 p] w fun e w'=>e= .returned (.int .i64 (moveC L x p))∧IsF w' B fp (moveN L x p) l m (k+1)∧Wr [118] B w w':=by
 have hc:moveC L x p=15:=by unfold moveC;rw[if_neg (by rw[hh,hq];decide),if_pos (by omega)]
 have HC:=Lib.hid hc
 have HN:Hid (moveN L x p=L):=Lib.hid (by unfold moveN;rw[hc];rfl)
 obtain⟨tp,tg,mp,bl,hf,hB⟩:=h.fo
 have h1:=hf.c1
 have HL:=hf.lookY hx hh
 have HLp:=hf.lookY hp hq
 have HQ:=Lib.hid hq
 have HH:=Lib.hid hh
 have HF:=Lib.hid h
 have HG:=Lib.hid hf
 have HK:=Lib.hid hk
 have HR:=Lib.hid h.rdr
 have hb0:=Below.refl w.heap.size w
 have q0:=(hf.grp x hh).c0
 rw[hp1] at q0
 clear h hf hB hk hh hc hq hp1
 go_enter Tryz.func47,Tryz.ntmps47
 go_wp2_with fail
 go_ret
 rw[HC.out,HN.out]
 exact⟨rfl,HF.out.later HK.out,Wr.refl _⟩
theorem Move_domain (x p:Int) (w:World) (h:IsF w B fp L l m k) (hx:I64 x) (hp:I64 p) (hk:k<1000) (hh:has L x=true) (hq:has L p=true) (hp1:0≤(gr L x).pa) (ht: ¬topI L x=topI L p):
  Calls Tryz.prog 47 #[.pointer (some ⟨fp,0,none⟩),.int .i64 x,.int .i64 p] w fun e w'=>e= .returned (.int .i64 (moveC L x p))∧IsF w' B fp (moveN L x p) l m (k+1)∧Wr [118] B w w':=by
 have hc:moveC L x p=5:=by unfold moveC;rw[if_neg (by rw[hh,hq];decide),if_neg (by omega),if_pos ht]
 have HC:=Lib.hid hc
 have HN:Hid (moveN L x p=L):=Lib.hid (by unfold moveN;rw[hc];rfl)
 obtain⟨tp,tg,mp,bl,hf,hB⟩:=h.fo
 have h1:=hf.c1
 have HL:=hf.lookY hx hh
 have HLp:=hf.lookY hp hq
 have HQ:=Lib.hid hq
 have HH:=Lib.hid hh
 have HF:=Lib.hid h
 have HG:=Lib.hid hf
 have HK:=Lib.hid hk
 have HR:=Lib.hid h.rdr
 have hb0:=Below.refl w.heap.size w
 have HPA:Hid (∀W:World,Below w.heap.size w W→W.cell? ⟨bl x,0,none⟩=some (.int .i64 (gr L x).pa)):=Lib.hid fun W hW=>((hf.below hW).grp x hh).c0
 have q0:=(hf.grp x hh).c0
 have hpa2:=beq_ff (show ¬(gr L x).pa= -1 by omega)
 have ht2:=beq_ff ht
 clear h hf hB hk hh hc hq hp1
 generalize (gr L x).pa=pa at *
 go_enter Tryz.func47,Tryz.ntmps47
 go_wp2_with (go_at_call 86;refine(HR.out.root _ _ (by assumption) (by first | exact HH.out | exact HQ.out) (by assumption)).mono ?_;rintro e wi ⟨rfl,hbi⟩)
 go_ret
 rw[HC.out,HN.out]
 exact⟨rfl,(HF.out.below hbi).later HK.out,Wr.of_below hbi⟩
theorem Move_loop (x p:Int) (w:World) (h:IsF w B fp L l m k) (hx:I64 x) (hp:I64 p) (hk:k<1000) (hh:has L x=true) (hq:has L p=true) (hp1:0≤(gr L x).pa) (ht:topI L x=topI L p) (hbe:belowB L p x=true):
  Calls Tryz.prog 47 #[.pointer (some ⟨fp,0,none⟩),.int .i64 x,.int .i64 p] w fun e w'=>e= .returned (.int .i64 (moveC L x p))∧IsF w' B fp (moveN L x p) l m (k+1)∧Wr [118] B w w':=by
 have hc:moveC L x p=12:=by unfold moveC;rw[if_neg (by rw[hh,hq];decide),if_neg (by omega),if_neg (fun e=>e ht),if_pos hbe]
 have HC:=Lib.hid hc
 have HN:Hid (moveN L x p=L):=Lib.hid (by unfold moveN;rw[hc];rfl)
 obtain⟨tp,tg,mp,bl,hf,hB⟩:=h.fo
 have h1:=hf.c1
 have HL:=hf.lookY hx hh
 have HLp:=hf.lookY hp hq
 have HQ:=Lib.hid hq
 have HH:=Lib.hid hh
 have HF:=Lib.hid h
 have HG:=Lib.hid hf
 have HK:=Lib.hid hk
 have HR:=Lib.hid h.rdr
 have hb0:=Below.refl w.heap.size w
 have HPA:Hid (∀W:World,Below w.heap.size w W→W.cell? ⟨bl x,0,none⟩=some (.int .i64 (gr L x).pa)):=Lib.hid fun W hW=>((hf.below hW).grp x hh).c0
 have q0:=(hf.grp x hh).c0
 have hpa2:=beq_ff (show ¬(gr L x).pa= -1 by omega)
 have HBE:=Lib.hid hbe
 clear h hf hB hk hh hc hq hp1 hbe
 generalize (gr L x).pa=pa at *
 go_enter Tryz.func47,Tryz.ntmps47
 go_wp2_with (first | (go_at_call 86;refine(HR.out.root _ _ (by assumption) (by first | exact HH.out | exact HQ.out) (by assumption)).mono ?_;rintro e wi ⟨rfl,hbi⟩) | (go_at_call 87;refine(HR.out.below _ _ _ (by assumption) (by assumption)).mono ?_;rw[HBE.out];rintro e wi ⟨rfl,hbi⟩))
 go_ret
 rw[HC.out,HN.out]
 exact⟨rfl,(HF.out.below hbi).later HK.out,Wr.of_below hbi⟩
theorem Move_deep (x p:Int) (w:World) (h:IsF w B fp L l m k) (hx:I64 x) (hp:I64 p) (hk:k<1000) (hh:has L x=true) (hq:has L p=true) (hp1:0≤(gr L x).pa) (ht:topI L x=topI L p) (hbe:belowB L p x=false) (hde:deepB L x p=true):
  Calls Tryz.prog 47 #[.pointer (some ⟨fp,0,none⟩),.int .i64 x,.int .i64 p] w fun e w'=>e= .returned (.int .i64 (moveC L x p))∧IsF w' B fp (moveN L x p) l m (k+1)∧Wr [118] B w w':=by
 have hc:moveC L x p=7:=by unfold moveC;rw[if_neg (by rw[hh,hq];decide),if_neg (by omega),if_neg (fun e=>e ht),if_neg (by rw[hbe];decide),if_pos hde]
 have HC:=Lib.hid hc
 have HN:Hid (moveN L x p=L):=Lib.hid (by unfold moveN;rw[hc];rfl)
 obtain⟨tp,tg,mp,bl,hf,hB⟩:=h.fo
 have h1:=hf.c1
 have HL:=hf.lookY hx hh
 have HLp:=hf.lookY hp hq
 have HQ:=Lib.hid hq
 have HH:=Lib.hid hh
 have HF:=Lib.hid h
 have HG:=Lib.hid hf
 have HK:=Lib.hid hk
 have HR:=Lib.hid h.rdr
 have hb0:=Below.refl w.heap.size w
 have HPA:Hid (∀W:World,Below w.heap.size w W→W.cell? ⟨bl x,0,none⟩=some (.int .i64 (gr L x).pa)):=Lib.hid fun W hW=>((hf.below hW).grp x hh).c0
 have q0:=(hf.grp x hh).c0
 have hpa2:=beq_ff (show ¬(gr L x).pa= -1 by omega)
 have hd8:=h.ok.dep8 p
 have HBE:=Lib.hid hbe
 have HDE:=Lib.hid hde
 clear h hf hB hk hh hc hq hp1 hbe hde
 generalize (gr L x).pa=pa at *
 go_enter Tryz.func47,Tryz.ntmps47
 go_wp2_with (first | (go_at_call 86;refine(HR.out.root _ _ (by assumption) (by first | exact HH.out | exact HQ.out) (by assumption)).mono ?_;rintro e wi ⟨rfl,hbi⟩) | (go_at_call 87;refine(HR.out.below _ _ _ (by assumption) (by assumption)).mono ?_;rw[HBE.out];rintro e wi ⟨rfl,hbi⟩) | (go_at_call 82;refine(HR.out.depth _ _ (by assumption) (by assumption)).mono ?_;rintro e wi ⟨rfl,hbi⟩) | (go_at_call 88;refine(HR.out.levels _ _ (by assumption) (by assumption)).mono ?_;rintro e wi ⟨⟨v,rfl,hv0,hv9,HV⟩,hbi⟩;have hv:=(HV p).trans HDE.out;clear HV;replace hv:=of_decide_eq_true hv;have HGi:=HG.out.below hbi;have q0:=HPA.out wi hbi;clear HGi))
 go_ret
 rw[HC.out,HN.out]
 exact⟨rfl,(HF.out.below hbi).later HK.out,Wr.of_below hbi⟩
theorem Move_full (x p:Int) (w:World) (h:IsF w B fp L l m k) (hx:I64 x) (hp:I64 p) (hk:k<1000) (hh:has L x=true) (hq:has L p=true) (hp1:0≤(gr L x).pa) (ht:topI L x=topI L p) (hbe:belowB L p x=false) (hde:deepB L x p=false) (hn: ¬(gr L x).pa=p) (h32:fanI L p=32):
  Calls Tryz.prog 47 #[.pointer (some ⟨fp,0,none⟩),.int .i64 x,.int .i64 p] w fun e w'=>e= .returned (.int .i64 (moveC L x p))∧IsF w' B fp (moveN L x p) l m (k+1)∧Wr [118] B w w':=by
 have hc:moveC L x p=6:=by unfold moveC;rw[if_neg (by rw[hh,hq];decide),if_neg (by omega),if_neg (fun e=>e ht),if_neg (by rw[hbe];decide),if_neg (by rw[hde];decide),if_pos ⟨hn,h32⟩]
 have HC:=Lib.hid hc
 have HN:Hid (moveN L x p=L):=Lib.hid (by unfold moveN;rw[hc];rfl)
 obtain⟨tp,tg,mp,bl,hf,hB⟩:=h.fo
 have h1:=hf.c1
 have HL:=hf.lookY hx hh
 have HLp:=hf.lookY hp hq
 have HQ:=Lib.hid hq
 have HH:=Lib.hid hh
 have HF:=Lib.hid h
 have HG:=Lib.hid hf
 have HK:=Lib.hid hk
 have HR:=Lib.hid h.rdr
 have hb0:=Below.refl w.heap.size w
 have HPA:Hid (∀W:World,Below w.heap.size w W→W.cell? ⟨bl x,0,none⟩=some (.int .i64 (gr L x).pa)):=Lib.hid fun W hW=>((hf.below hW).grp x hh).c0
 have q0:=(hf.grp x hh).c0
 have hpa2:=beq_ff (show ¬(gr L x).pa= -1 by omega)
 have hd8:=h.ok.dep8 p
 have HBE:=Lib.hid hbe
 have HDE:=Lib.hid hde
 have hn2:=beq_ff hn
 have h322:(fanI L p==32)=true:=beq_tt h32
 clear h hf hB hk hh hc hq hp1 hbe hde h32
 generalize (gr L x).pa=pa at *
 go_enter Tryz.func47,Tryz.ntmps47
 go_wp2_with (first | (go_at_call 86;refine(HR.out.root _ _ (by assumption) (by first | exact HH.out | exact HQ.out) (by assumption)).mono ?_;rintro e wi ⟨rfl,hbi⟩) | (go_at_call 87;refine(HR.out.below _ _ _ (by assumption) (by assumption)).mono ?_;rw[HBE.out];rintro e wi ⟨rfl,hbi⟩) | (go_at_call 82;refine(HR.out.depth _ _ (by assumption) (by assumption)).mono ?_;rintro e wi ⟨rfl,hbi⟩) | (go_at_call 88;refine(HR.out.levels _ _ (by assumption) (by assumption)).mono ?_;rintro e wi ⟨⟨v,rfl,hv0,hv9,HV⟩,hbi⟩;have hv:=(HV p).trans HDE.out;clear HV;replace hv:=of_decide_eq_false hv;have HGi:=HG.out.below hbi;have q0:=HPA.out wi hbi;clear HGi) | (go_at_call 83;refine(HR.out.fan _ _ (by assumption) HQ.out (by assumption)).mono ?_;rintro e wi ⟨rfl,hbi⟩;have HGi:=HG.out.below hbi;have f0:=(HGi.grp x HH.out).fz 0;have q0:=HPA.out wi hbi;clear HGi))
 go_ret
 rw[HC.out,HN.out]
 exact⟨rfl,(HF.out.below hbi).later HK.out,Wr.of_below hbi⟩
theorem Move_go (x p:Int) (w:World) (h:IsF w B fp L l m k) (hx:I64 x) (hp:I64 p) (hk:k<1000) (hh:has L x=true) (hq:has L p=true) (hp1:0≤(gr L x).pa) (ht:topI L x=topI L p) (hbe:belowB L p x=false) (hde:deepB L x p=false) (hn: ¬(gr L x).pa=p) (h32: ¬fanI L p=32):
  Calls Tryz.prog 47 #[.pointer (some ⟨fp,0,none⟩),.int .i64 x,.int .i64 p] w fun e w'=>e= .returned (.int .i64 (moveC L x p))∧IsF w' B fp (moveN L x p) l m (k+1)∧Wr [118] B w w':=by
 have hc:moveC L x p=0:=by unfold moveC;rw[if_neg (by rw[hh,hq];decide),if_neg (by omega),if_neg (fun e=>e ht),if_neg (by rw[hbe];decide),if_neg (by rw[hde];decide),if_neg (fun e=>h32 e.2)]
 have HC:=Lib.hid hc
 have HN:Hid (moveN L x p=moveG L x p):=Lib.hid (by unfold moveN;rw[hc];rfl)
 obtain⟨tp,tg,mp,bl,hf,hB⟩:=h.fo
 have h1:=hf.c1
 have HL:=hf.lookY hx hh
 have HLp:=hf.lookY hp hq
 have HQ:=Lib.hid hq
 have HH:=Lib.hid hh
 have HF:=Lib.hid h
 have HG:=Lib.hid hf
 have HK:=Lib.hid hk
 have HR:=Lib.hid h.rdr
 have hb0:=Below.refl w.heap.size w
 have HPA:Hid (∀W:World,Below w.heap.size w W→W.cell? ⟨bl x,0,none⟩=some (.int .i64 (gr L x).pa)):=Lib.hid fun W hW=>((hf.below hW).grp x hh).c0
 have q0:=(hf.grp x hh).c0
 have hpa2:=beq_ff (show ¬(gr L x).pa= -1 by omega)
 have hd8:=h.ok.dep8 p
 have HOK:Ok (moveG L x p) m (k+1):=by have:=h.ok.move (x:=x) (p:=p) hk;rwa [HN.out] at this
 have HA:Hid (∀W:World,Below w.heap.size w W→IsF (W.setCell ⟨bl x,0,none⟩ (.int .i64 p)) B fp (moveG L x p) l m (k+1)∧Wr [118] B w (W.setCell ⟨bl x,0,none⟩ (.int .i64 p))):=Lib.hid fun W hW=>h.act hf hB hW hh rfl (((hf.below hW).grp x hh).set0 p) HOK
 have HBE:=Lib.hid hbe
 have HDE:=Lib.hid hde
 have hn2:=beq_ff hn
 have h322:=beq_ff h32
 clear h hf hB hk hh hc hq hp1 hbe hde h32 HOK
 generalize (gr L x).pa=pa at *
 go_enter Tryz.func47,Tryz.ntmps47
 go_wp2_with (first | (go_at_call 86;refine(HR.out.root _ _ (by assumption) (by first | exact HH.out | exact HQ.out) (by assumption)).mono ?_;rintro e wi ⟨rfl,hbi⟩) | (go_at_call 87;refine(HR.out.below _ _ _ (by assumption) (by assumption)).mono ?_;rw[HBE.out];rintro e wi ⟨rfl,hbi⟩) | (go_at_call 82;refine(HR.out.depth _ _ (by assumption) (by assumption)).mono ?_;rintro e wi ⟨rfl,hbi⟩) | (go_at_call 88;refine(HR.out.levels _ _ (by assumption) (by assumption)).mono ?_;rintro e wi ⟨⟨v,rfl,hv0,hv9,HV⟩,hbi⟩;have hv:=(HV p).trans HDE.out;clear HV;replace hv:=of_decide_eq_false hv;have HGi:=HG.out.below hbi;have q0:=HPA.out wi hbi;clear HGi) | (go_at_call 83;refine(HR.out.fan _ _ (by assumption) HQ.out (by assumption)).mono ?_;rintro e wi ⟨rfl,hbi⟩;have HGi:=HG.out.below hbi;have f0:=(HGi.grp x HH.out).fz 0;have q0:=HPA.out wi hbi;clear HGi))
 go_ret
 rw[HC.out,HN.out]
 exact⟨rfl,HA.out _ (by assumption)⟩
theorem Move_stay (x p:Int) (w:World) (h:IsF w B fp L l m k) (hx:I64 x) (hp:I64 p) (hk:k<1000) (hh:has L x=true) (hq:has L p=true) (hp1:0≤(gr L x).pa) (ht:topI L x=topI L p) (hbe:belowB L p x=false) (hde:deepB L x p=false) (hn:(gr L x).pa=p):
  Calls Tryz.prog 47 #[.pointer (some ⟨fp,0,none⟩),.int .i64 x,.int .i64 p] w fun e w'=>e= .returned (.int .i64 (moveC L x p))∧IsF w' B fp (moveN L x p) l m (k+1)∧Wr [118] B w w':=by
 have hc:moveC L x p=0:=by unfold moveC;rw[if_neg (by rw[hh,hq];decide),if_neg (by omega),if_neg (fun e=>e ht),if_neg (by rw[hbe];decide),if_neg (by rw[hde];decide),if_neg (fun e=>e.1 hn)]
 have HC:=Lib.hid hc
 have HN:Hid (moveN L x p=moveG L x p):=Lib.hid (by unfold moveN;rw[hc];rfl)
 obtain⟨tp,tg,mp,bl,hf,hB⟩:=h.fo
 have h1:=hf.c1
 have HL:=hf.lookY hx hh
 have HLp:=hf.lookY hp hq
 have HQ:=Lib.hid hq
 have HH:=Lib.hid hh
 have HF:=Lib.hid h
 have HG:=Lib.hid hf
 have HK:=Lib.hid hk
 have HR:=Lib.hid h.rdr
 have hb0:=Below.refl w.heap.size w
 have HPA:Hid (∀W:World,Below w.heap.size w W→W.cell? ⟨bl x,0,none⟩=some (.int .i64 (gr L x).pa)):=Lib.hid fun W hW=>((hf.below hW).grp x hh).c0
 have q0:=(hf.grp x hh).c0
 have hpa2:=beq_ff (show ¬(gr L x).pa= -1 by omega)
 have hd8:=h.ok.dep8 p
 have HOK:Ok (moveG L x p) m (k+1):=by have:=h.ok.move (x:=x) (p:=p) hk;rwa [HN.out] at this
 have HA:Hid (∀W:World,Below w.heap.size w W→IsF (W.setCell ⟨bl x,0,none⟩ (.int .i64 p)) B fp (moveG L x p) l m (k+1)∧Wr [118] B w (W.setCell ⟨bl x,0,none⟩ (.int .i64 p))):=Lib.hid fun W hW=>h.act hf hB hW hh rfl (((hf.below hW).grp x hh).set0 p) HOK
 have HBE:=Lib.hid hbe
 have HDE:=Lib.hid hde
 have HN2:=Lib.hid hn
 rw[hn] at q0 hpa2
 have hpp:(p==p)=true:=by simp
 clear h hf hB hk hh hc hq hp1 hbe hde HOK hn
 go_enter Tryz.func47,Tryz.ntmps47
 go_wp2_with (first | (go_at_call 86;refine(HR.out.root _ _ (by assumption) (by first | exact HH.out | exact HQ.out) (by assumption)).mono ?_;rintro e wi ⟨rfl,hbi⟩) | (go_at_call 87;refine(HR.out.below _ _ _ (by assumption) (by assumption)).mono ?_;rw[HBE.out];rintro e wi ⟨rfl,hbi⟩) | (go_at_call 82;refine(HR.out.depth _ _ (by assumption) (by assumption)).mono ?_;rintro e wi ⟨rfl,hbi⟩) | (go_at_call 88;refine(HR.out.levels _ _ (by assumption) (by assumption)).mono ?_;rintro e wi ⟨⟨v,rfl,hv0,hv9,HV⟩,hbi⟩;have hv:=(HV p).trans HDE.out;clear HV;replace hv:=of_decide_eq_false hv;have HGi:=HG.out.below hbi;have f0:=(HGi.grp x HH.out).fz 0;have q0:=HPA.out wi hbi;rw[HN2.out] at q0;clear HGi) | (go_at_call 83;refine(HR.out.fan _ _ (by assumption) HQ.out (by assumption)).mono ?_;rintro e wi ⟨rfl,hbi⟩;have HGi:=HG.out.below hbi;have f0:=(HGi.grp x HH.out).fz 0;have q0:=HPA.out wi hbi;clear HGi))
 go_ret
 rw[HC.out,HN.out]
 exact⟨rfl,HA.out _ (by assumption)⟩
theorem Move_any (x p:Int) (w:World) (h:IsF w B fp L l m k) (hx:I64 x) (hp:I64 p) (hk:k<1000):
  Calls Tryz.prog 47 #[.pointer (some ⟨fp,0,none⟩),.int .i64 x,.int .i64 p] w fun e w'=>e= .returned (.int .i64 (moveC L x p))∧IsF w' B fp (moveN L x p) l m (k+1)∧Wr [118] B w w':=by
 cases hh:has L x with
 | false=>exact Move_noX fp B L l m k x p w h hx hk hh
 | true=>
 cases hq:has L p with
 | false=>exact Move_noP fp B L l m k x p w h hx hp hk hh hq
 | true=>
 rcases h.ok.pa hh with hp1 | hp1
 ·exact Move_root fp B L l m k x p w h hx hp hk hh hq hp1
 have hp2:0≤(gr L x).pa:=by have:=h.ok.id hp1;omega
 by_cases ht:topI L x=topI L p
 case neg=>exact Move_domain fp B L l m k x p w h hx hp hk hh hq hp2 ht
 cases hbe:belowB L p x with
 | true=>exact Move_loop fp B L l m k x p w h hx hp hk hh hq hp2 ht hbe
 | false=>
 cases hde:deepB L x p with
 | true=>exact Move_deep fp B L l m k x p w h hx hp hk hh hq hp2 ht hbe hde
 | false=>
 by_cases hn:(gr L x).pa=p
 ·exact Move_stay fp B L l m k x p w h hx hp hk hh hq hp2 ht hbe hde hn
 by_cases h32:fanI L p=32
 ·exact Move_full fp B L l m k x p w h hx hp hk hh hq hp2 ht hbe hde hn h32
 ·exact Move_go fp B L l m k x p w h hx hp hk hh hq hp2 ht hbe hde hn h32
end
end Go.Proofs.YtohifgjeebhijaaGreatDoor
