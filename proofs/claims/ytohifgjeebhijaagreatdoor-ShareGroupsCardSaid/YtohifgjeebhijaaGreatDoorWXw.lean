/-
  What this claim needs; no condition of its own. Told short by a script from longer texts.
-/
import Derived.Test.YtohifgjeebhijaaGreatDoorWXk
import Derived.Test.YtohifgjeebhijaaGreatDoorWRd
import Derived.Test.YtohifgjeebhijaaGreatDoorWXa
import Derived.Test.YtohifgjeebhijaaGreatDoorWXb
import Derived.Test.YtohifgjeebhijaaGreatDoorWAl
namespace Go.Proofs.YtohifgjeebhijaaGreatDoor
set_option maxRecDepth 100000
set_option maxHeartbeats 4000000
open Go.RowKit Go.Maps
def tooDeep (L:List Gr) (x p y:Int):Bool:=belowB L y x&&decide (8<dep L y - dep L x+dep L p+1)
theorem deep_yes {L:List Gr} {x p:Int} (h:deepB L x p=true) (hn: ∀j,j<L.length→tooDeep L x p (L.getD j g0).id=false):False:=by
 unfold deepB at h
 obtain⟨g,hg,hb⟩:=List.any_eq_true.1 h
 obtain⟨j,hj,rfl⟩:=mem_getDG hg
 have:=hn j hj
 unfold tooDeep at this
 rw[hb] at this
 cases this
theorem deep_no {L:List Gr} {x p:Int} (h:deepB L x p=false) {j:Nat} (hj:j<L.length):tooDeep L x p (L.getD j g0).id=false:=by
 unfold deepB at h
 rw[List.any_eq_false] at h
 have:=h _ (getD_memG hj)
 unfold tooDeep
 simpa using this
section
variable (r m:Int) (a:Option Addr) (c:Nat) (L:List Gr)
theorem rMove_noX (x p:Int) (m0 k:Int) (w:World) (h:RowG w (.slice a L.length c) L) (ok:Ok L m0 k) (hh:has L x=false):
  Calls Tryz.prog 48 #[.agg (cellsF r m (.slice a L.length c)),.int .i64 x,.int .i64 p] w fun e w'=>(∃v,e= .returned (.tuple #[v,.int .i64 (moveC L x p)])∧DocF w' v r m (moveN L x p))∧Below w.heap.size w w':=by
 have hc:moveC L x p=4:=by unfold moveC;rw[if_pos (.inl hh)]
 have HC:=Lib.hid hc
 have HN:Hid (moveN L x p=L):=Lib.hid (by unfold moveN;rw[hc];rfl)
 obtain⟨hx0,hZ0,hb,hsz,HR,HXB,HZB,HFin⟩:=pre2 r m h ok
 have HA:Hid (atG L x= -1):=Lib.hid (atG_no hh)
 clear hh
 clear hc h ok
 unfold cellsF
 go_enter Tryz.func48,Tryz.ntmps48
 go_wp2_with (first | (have hgd:=hx0;refine wpList_alloc30 rfl rfl ?_;clear hgd;generalize ((w.alloc (.cells #[.int .i64 r,.int .i64 m,.slice a L.length c] 29)).alloc (.cells #[.int .i64 0,.int .i64 0,.slice none 0 0] 29))=w3 at *;have hbi:=Below.refl w3.heap.size w3;clear hx0 hZ0 hb) | (go_at_call 30;refine(HR.out.at' _ _ (by assumption)).mono ?_;rw[HA.out];rintro e wi ⟨rfl,hbi⟩;have hX2:=HXB.out wi hbi;have f0:=cF0 hX2;have f1:=cF1 hX2;have f2:=cF2 hX2;clear hX2) | (refine wpList_load30 rfl _ rfl w.heap.size r m (.slice a L.length c) rfl (HXB.out _ (by assumption)) ?_) | (refine wpList_store30 rfl _ _ rfl (w.heap.size+1) r m (.slice a L.length c) rfl rfl (HZB.out _ (by assumption)) rfl rfl ?_;intro wz hZ9 t9))
 refine bodyPost_ret (resultsF_ct rfl _ wz (w.heap.size+1) r m (.slice a L.length c) _ rfl rfl hZ9) rfl ?_
 rw[HC.out,HN.out]
 exact⟨⟨_,rfl,a,c,rfl,(HR.out.row _ hbi).turn t9 (HZB.out _ hbi) (by decide)⟩,(HFin.out _ hbi).trans (t9.below (by omega))⟩
theorem rMove_noP (x p:Int) (m0 k:Int) (w:World) (h:RowG w (.slice a L.length c) L) (ok:Ok L m0 k) (hh:has L x=true) (hq:has L p=false):
  Calls Tryz.prog 48 #[.agg (cellsF r m (.slice a L.length c)),.int .i64 x,.int .i64 p] w fun e w'=>(∃v,e= .returned (.tuple #[v,.int .i64 (moveC L x p)])∧DocF w' v r m (moveN L x p))∧Below w.heap.size w w':=by
 have hc:moveC L x p=4:=by unfold moveC;rw[if_pos (.inr hq)]
 have HC:=Lib.hid hc
 have HN:Hid (moveN L x p=L):=Lib.hid (by unfold moveN;rw[hc];rfl)
 obtain⟨hx0,hZ0,hb,hsz,HR,HXB,HZB,HFin⟩:=pre2 r m h ok
 have HA:Hid (atG L x=(pos L x:Int)):=Lib.hid (atG_yes hh)
 have HAP:Hid (atG L p= -1):=Lib.hid (atG_no hq)
 clear hh hq
 generalize pos L x=j at *
 clear hc h ok
 unfold cellsF
 go_enter Tryz.func48,Tryz.ntmps48
 go_wp2_with (first | (have hgd:=hx0;refine wpList_alloc30 rfl rfl ?_;clear hgd;generalize ((w.alloc (.cells #[.int .i64 r,.int .i64 m,.slice a L.length c] 29)).alloc (.cells #[.int .i64 0,.int .i64 0,.slice none 0 0] 29))=w3 at *;have hbi:=Below.refl w3.heap.size w3;clear hx0 hZ0 hb) | (go_at_call 30;refine(HR.out.at' _ _ (by assumption)).mono ?_;rw[HA.out];rintro e wi ⟨rfl,hbi⟩;have hX2:=HXB.out wi hbi;have f0:=cF0 hX2;have f1:=cF1 hX2;have f2:=cF2 hX2;clear hX2) | (go_at_call 30;refine(HR.out.at' _ _ (by assumption)).mono ?_;rw[HAP.out];rintro e wi ⟨rfl,hbi⟩;have hX2:=HXB.out wi hbi;have f0:=cF0 hX2;have f1:=cF1 hX2;have f2:=cF2 hX2;clear hX2) | (refine wpList_load30 rfl _ rfl w.heap.size r m (.slice a L.length c) rfl (HXB.out _ (by assumption)) ?_) | (refine wpList_store30 rfl _ _ rfl (w.heap.size+1) r m (.slice a L.length c) rfl rfl (HZB.out _ (by assumption)) rfl rfl ?_;intro wz hZ9 t9))
 refine bodyPost_ret (resultsF_ct rfl _ wz (w.heap.size+1) r m (.slice a L.length c) _ rfl rfl hZ9) rfl ?_
 rw[HC.out,HN.out]
 exact⟨⟨_,rfl,a,c,rfl,(HR.out.row _ hbi).turn t9 (HZB.out _ hbi) (by decide)⟩,(HFin.out _ hbi).trans (t9.below (by omega))⟩
theorem rMove_root (x p:Int) (m0 k:Int) (w:World) (h:RowG w (.slice a L.length c) L) (ok:Ok L m0 k) (hh:has L x=true) (hq:has L p=true) (hp:(gr L x).pa= -1):
  Calls Tryz.prog 48 #[.agg (cellsF r m (.slice a L.length c)),.int .i64 x,.int .i64 p] w fun e w'=>(∃v,e= .returned (.tuple #[v,.int .i64 (moveC L x p)])∧DocF w' v r m (moveN L x p))∧Below w.heap.size w w':=by
 have hc:moveC L x p=15:=by unfold moveC;rw[if_neg (by rw[hh,hq];decide),if_pos (by omega)]
 have HC:=Lib.hid hc
 have HN:Hid (moveN L x p=L):=Lib.hid (by unfold moveN;rw[hc];rfl)
 obtain⟨hx0,hZ0,hb,hsz,HR,HXB,HZB,HFin⟩:=pre2 r m h ok
 have HA:Hid (atG L x=(pos L x:Int)):=Lib.hid (atG_yes hh)
 have HH:=Lib.hid hh
 have hj:=has_pos hh
 obtain⟨b,rfl,hcl⟩:=h.at hj
 have HCL:Hid (∀X,Below ((w.alloc (.cells #[.int .i64 r,.int .i64 m,.slice (some ⟨b,0,none⟩) L.length c] 29)).alloc (.cells #[.int .i64 0,.int .i64 0,.slice none 0 0] 29)).heap.size ((w.alloc (.cells #[.int .i64 r,.int .i64 m,.slice (some ⟨b,0,none⟩) L.length c] 29)).alloc (.cells #[.int .i64 0,.int .i64 0,.slice none 0 0] 29)) X→X.cell? ⟨b,pos L x*5+1,none⟩=some (.int .i64 (gr L x).pa)∧X.rangeAt b (pos L x*5) (cellsE (gr L x)).toList):=Lib.hid fun X hX=>⟨((hcl.below hb).below hX).pa hj,((hcl.below hb).below hX).range hj⟩
 have HQ:=Lib.hid hq
 have HAP:Hid (atG L p=(pos L p:Int)):=Lib.hid (atG_yes hq)
 rw[hp] at HCL
 clear hh hp hq
 generalize pos L x=j at *
 generalize pos L p=jp at *
 clear hc h ok
 unfold cellsF
 go_enter Tryz.func48,Tryz.ntmps48
 go_wp2_with (first | (have hgd:=hx0;refine wpList_alloc30 rfl rfl ?_;clear hgd;generalize ((w.alloc (.cells #[.int .i64 r,.int .i64 m,.slice (some ⟨b,0,none⟩) L.length c] 29)).alloc (.cells #[.int .i64 0,.int .i64 0,.slice none 0 0] 29))=w3 at *;have hbi:=Below.refl w3.heap.size w3;clear hx0 hZ0 hb) | (go_at_call 30;refine(HR.out.at' _ _ (by assumption)).mono ?_;rw[HA.out];rintro e wi ⟨rfl,hbi⟩;have hX2:=HXB.out wi hbi;have f0:=cF0 hX2;have f1:=cF1 hX2;have f2:=cF2 hX2;clear hX2;have g1:=(HCL.out wi hbi).1) | (go_at_call 30;refine(HR.out.at' _ _ (by assumption)).mono ?_;rw[HAP.out];rintro e wi ⟨rfl,hbi⟩;have hX2:=HXB.out wi hbi;have f0:=cF0 hX2;have f1:=cF1 hX2;have f2:=cF2 hX2;clear hX2;have g1:=(HCL.out wi hbi).1) | (refine wpList_load30 rfl _ rfl w.heap.size r m (.slice (some ⟨b,0,none⟩) L.length c) rfl (HXB.out _ (by assumption)) ?_) | (refine wpList_store30 rfl _ _ rfl (w.heap.size+1) r m (.slice (some ⟨b,0,none⟩) L.length c) rfl rfl (HZB.out _ (by assumption)) rfl rfl ?_;intro wz hZ9 t9))
 refine bodyPost_ret (resultsF_ct rfl _ wz (w.heap.size+1) r m (.slice (some ⟨b,0,none⟩) L.length c) _ rfl rfl hZ9) rfl ?_
 rw[HC.out,HN.out]
 exact⟨⟨_,rfl,some ⟨b,0,none⟩,c,rfl,(HR.out.row _ hbi).turn t9 (HZB.out _ hbi) (by decide)⟩,(HFin.out _ hbi).trans (t9.below (by omega))⟩
theorem rMove_domain (x p:Int) (m0 k:Int) (w:World) (h:RowG w (.slice a L.length c) L) (ok:Ok L m0 k) (hh:has L x=true) (hq:has L p=true) (hp:0≤(gr L x).pa) (ht: ¬topI L x=topI L p):
  Calls Tryz.prog 48 #[.agg (cellsF r m (.slice a L.length c)),.int .i64 x,.int .i64 p] w fun e w'=>(∃v,e= .returned (.tuple #[v,.int .i64 (moveC L x p)])∧DocF w' v r m (moveN L x p))∧Below w.heap.size w w':=by
 have hc:moveC L x p=5:=by unfold moveC;rw[if_neg (by rw[hh,hq];decide),if_neg (by omega),if_pos ht]
 have HC:=Lib.hid hc
 have HN:Hid (moveN L x p=L):=Lib.hid (by unfold moveN;rw[hc];rfl)
 obtain⟨hx0,hZ0,hb,hsz,HR,HXB,HZB,HFin⟩:=pre2 r m h ok
 have HA:Hid (atG L x=(pos L x:Int)):=Lib.hid (atG_yes hh)
 have HH:=Lib.hid hh
 have hj:=has_pos hh
 obtain⟨b,rfl,hcl⟩:=h.at hj
 have HCL:Hid (∀X,Below ((w.alloc (.cells #[.int .i64 r,.int .i64 m,.slice (some ⟨b,0,none⟩) L.length c] 29)).alloc (.cells #[.int .i64 0,.int .i64 0,.slice none 0 0] 29)).heap.size ((w.alloc (.cells #[.int .i64 r,.int .i64 m,.slice (some ⟨b,0,none⟩) L.length c] 29)).alloc (.cells #[.int .i64 0,.int .i64 0,.slice none 0 0] 29)) X→X.cell? ⟨b,pos L x*5+1,none⟩=some (.int .i64 (gr L x).pa)∧X.rangeAt b (pos L x*5) (cellsE (gr L x)).toList):=Lib.hid fun X hX=>⟨((hcl.below hb).below hX).pa hj,((hcl.below hb).below hX).range hj⟩
 have HQ:=Lib.hid hq
 have HAP:Hid (atG L p=(pos L p:Int)):=Lib.hid (atG_yes hq)
 have hp0: ¬(gr L x).pa<0:=by omega
 have ht2:=beq_ff ht
 have htn:(topI L x != topI L p)=true:=by simpa using ht
 clear hh hq hp
 generalize (gr L x).pa=pa at *
 generalize pos L x=j at *
 generalize pos L p=jp at *
 clear hc h ok
 unfold cellsF
 go_enter Tryz.func48,Tryz.ntmps48
 go_wp2_with (first | (have hgd:=hx0;refine wpList_alloc30 rfl rfl ?_;clear hgd;generalize ((w.alloc (.cells #[.int .i64 r,.int .i64 m,.slice (some ⟨b,0,none⟩) L.length c] 29)).alloc (.cells #[.int .i64 0,.int .i64 0,.slice none 0 0] 29))=w3 at *;have hbi:=Below.refl w3.heap.size w3;clear hx0 hZ0 hb) | (go_at_call 30;refine(HR.out.at' _ _ (by assumption)).mono ?_;rw[HA.out];rintro e wi ⟨rfl,hbi⟩;have hX2:=HXB.out wi hbi;have f0:=cF0 hX2;have f1:=cF1 hX2;have f2:=cF2 hX2;clear hX2;have g1:=(HCL.out wi hbi).1) | (go_at_call 30;refine(HR.out.at' _ _ (by assumption)).mono ?_;rw[HAP.out];rintro e wi ⟨rfl,hbi⟩;have hX2:=HXB.out wi hbi;have f0:=cF0 hX2;have f1:=cF1 hX2;have f2:=cF2 hX2;clear hX2;have g1:=(HCL.out wi hbi).1) | (refine wpList_load30 rfl _ rfl w.heap.size r m (.slice (some ⟨b,0,none⟩) L.length c) rfl (HXB.out _ (by assumption)) ?_) | (refine wpList_store30 rfl _ _ rfl (w.heap.size+1) r m (.slice (some ⟨b,0,none⟩) L.length c) rfl rfl (HZB.out _ (by assumption)) rfl rfl ?_;intro wz hZ9 t9))
 have hq6:Below w3.heap.size w3 wi.drew:=Below.drewS hbi
 clear f0 f1 f2 g1
 refine Rd.region (fun X=>Below w3.heap.size w3 X) 8 [0,1,3,4,6,7] [0,1,3,4,2,5,6,7] (by kernel_rfl) (by kernel_rfl) (by kernel_rfl) (by kernel_rfl) rfl hq6 ?_
 refine Rd.seq_float (.agg #[.int .i64 r,.int .i64 m,.slice (some ⟨b,0,none⟩) L.length c]) (by simp only[gA,gC];rfl) rfl (by rfl) (fun X hX=>run_load30 rfl rfl (HXB.out X hX)) ?_
 simp only[Act.put,sA,sB,sC]
 refine Rd.seq_float (.int .i64 x) (by simp only[gA,gB,gC];rfl) rfl (by rfl) (fun X _=>by go_simp) ?_
 simp only[Act.put,sA,sB,sC]
 refine Rd.seq_float (.agg #[.int .i64 r,.int .i64 m,.slice (some ⟨b,0,none⟩) L.length c]) (by simp only[gA,gB,gC];rfl) rfl (by rfl) (fun X hX=>run_load30 rfl rfl (HXB.out X hX)) ?_
 simp only[Act.put,sA,sB,sC]
 refine Rd.seq_float (.int .i64 p) (by simp only[gA,gB,gC];rfl) rfl (by rfl) (fun X _=>by go_simp) ?_
 simp only[Act.put,sA,sB,sC]
 refine Rd.seq_move (by simp only[gA,gB,gC];rfl) rfl (by rfl) (fun K hK=>?_)
 go_simp
 refine(HR.out.top _ _ HH.out hq6).mono ?_
 rintro e wi ⟨rfl,hbi⟩
 refine hK _ _ (fun _=>hbi) ?_
 clear hK K
 refine Rd.seq_move (by simp only[gA,gB,gC];rfl) rfl (by rfl) (fun K hK=>?_)
 go_simp
 refine(HR.out.top _ _ HQ.out (by assumption)).mono ?_
 rintro e wi ⟨rfl,hbi⟩
 refine hK _ _ (fun _=>hbi) ?_
 clear hK K
 refine Rd.seq_float (.bool true) (by simp only[gA,gB,gC];rfl) rfl (by rfl) (fun X _=>by go_simp) ?_
 simp only[Act.put,sA,sB,sC]
 refine Rd.seq_float (.bool true) (by simp only[gA,gB,gC];rfl) rfl (by rfl) (fun X _=>by go_simp) ?_
 simp only[Act.put,sA,sB,sC]
 refine Rd.seq_end ?_
 go_wp2_with (first | (refine wpList_load30 rfl _ rfl w.heap.size r m (.slice (some ⟨b,0,none⟩) L.length c) rfl (HXB.out _ (by assumption)) ?_) | (refine wpList_store30 rfl _ _ rfl (w.heap.size+1) r m (.slice (some ⟨b,0,none⟩) L.length c) rfl rfl (HZB.out _ (by assumption)) rfl rfl ?_;intro wz hZ9 t9))
 refine bodyPost_ret (resultsF_ct rfl _ wz (w.heap.size+1) r m (.slice (some ⟨b,0,none⟩) L.length c) _ rfl rfl hZ9) rfl ?_
 rw[HC.out,HN.out]
 exact⟨⟨_,rfl,some ⟨b,0,none⟩,c,rfl,(HR.out.row _ hbi).turn t9 (HZB.out _ hbi) (by decide)⟩,(HFin.out _ hbi).trans (t9.below (by omega))⟩
theorem rMove_loop (x p:Int) (m0 k:Int) (w:World) (h:RowG w (.slice a L.length c) L) (ok:Ok L m0 k) (hh:has L x=true) (hq:has L p=true) (hp:0≤(gr L x).pa) (ht:topI L x=topI L p) (hbe:belowB L p x=true):
  Calls Tryz.prog 48 #[.agg (cellsF r m (.slice a L.length c)),.int .i64 x,.int .i64 p] w fun e w'=>(∃v,e= .returned (.tuple #[v,.int .i64 (moveC L x p)])∧DocF w' v r m (moveN L x p))∧Below w.heap.size w w':=by
 have hc:moveC L x p=12:=by unfold moveC;rw[if_neg (by rw[hh,hq];decide),if_neg (by omega),if_neg (fun e=>e ht),if_pos hbe]
 have HC:=Lib.hid hc
 have HN:Hid (moveN L x p=L):=Lib.hid (by unfold moveN;rw[hc];rfl)
 obtain⟨hx0,hZ0,hb,hsz,HR,HXB,HZB,HFin⟩:=pre2 r m h ok
 have HA:Hid (atG L x=(pos L x:Int)):=Lib.hid (atG_yes hh)
 have HH:=Lib.hid hh
 have hj:=has_pos hh
 obtain⟨b,rfl,hcl⟩:=h.at hj
 have HCL:Hid (∀X,Below ((w.alloc (.cells #[.int .i64 r,.int .i64 m,.slice (some ⟨b,0,none⟩) L.length c] 29)).alloc (.cells #[.int .i64 0,.int .i64 0,.slice none 0 0] 29)).heap.size ((w.alloc (.cells #[.int .i64 r,.int .i64 m,.slice (some ⟨b,0,none⟩) L.length c] 29)).alloc (.cells #[.int .i64 0,.int .i64 0,.slice none 0 0] 29)) X→X.cell? ⟨b,pos L x*5+1,none⟩=some (.int .i64 (gr L x).pa)∧X.rangeAt b (pos L x*5) (cellsE (gr L x)).toList):=Lib.hid fun X hX=>⟨((hcl.below hb).below hX).pa hj,((hcl.below hb).below hX).range hj⟩
 have HQ:=Lib.hid hq
 have HAP:Hid (atG L p=(pos L p:Int)):=Lib.hid (atG_yes hq)
 have hp0: ¬(gr L x).pa<0:=by omega
 have htt:(topI L p==topI L p)=true:=by simp
 have htn:(topI L p != topI L p)=false:=by simp
 have HBE:=Lib.hid hbe
 clear hbe
 clear hh hq hp
 generalize (gr L x).pa=pa at *
 generalize pos L x=j at *
 generalize pos L p=jp at *
 clear hc h ok
 unfold cellsF
 go_enter Tryz.func48,Tryz.ntmps48
 go_wp2_with (first | (have hgd:=hx0;refine wpList_alloc30 rfl rfl ?_;clear hgd;generalize ((w.alloc (.cells #[.int .i64 r,.int .i64 m,.slice (some ⟨b,0,none⟩) L.length c] 29)).alloc (.cells #[.int .i64 0,.int .i64 0,.slice none 0 0] 29))=w3 at *;have hbi:=Below.refl w3.heap.size w3;clear hx0 hZ0 hb) | (go_at_call 30;refine(HR.out.at' _ _ (by assumption)).mono ?_;rw[HA.out];rintro e wi ⟨rfl,hbi⟩;have hX2:=HXB.out wi hbi;have f0:=cF0 hX2;have f1:=cF1 hX2;have f2:=cF2 hX2;clear hX2;have g1:=(HCL.out wi hbi).1) | (go_at_call 30;refine(HR.out.at' _ _ (by assumption)).mono ?_;rw[HAP.out];rintro e wi ⟨rfl,hbi⟩;have hX2:=HXB.out wi hbi;have f0:=cF0 hX2;have f1:=cF1 hX2;have f2:=cF2 hX2;clear hX2;have g1:=(HCL.out wi hbi).1) | (refine wpList_load30 rfl _ rfl w.heap.size r m (.slice (some ⟨b,0,none⟩) L.length c) rfl (HXB.out _ (by assumption)) ?_) | (refine wpList_store30 rfl _ _ rfl (w.heap.size+1) r m (.slice (some ⟨b,0,none⟩) L.length c) rfl rfl (HZB.out _ (by assumption)) rfl rfl ?_;intro wz hZ9 t9))
 have hq6:Below w3.heap.size w3 wi.drew:=Below.drewS hbi
 clear f0 f1 f2 g1
 refine Rd.region (fun X=>Below w3.heap.size w3 X) 8 [0,1,3,4,6,7] [0,1,3,4,2,5,6,7] (by kernel_rfl) (by kernel_rfl) (by kernel_rfl) (by kernel_rfl) rfl hq6 ?_
 refine Rd.seq_float (.agg #[.int .i64 r,.int .i64 m,.slice (some ⟨b,0,none⟩) L.length c]) (by simp only[gA,gC];rfl) rfl (by rfl) (fun X hX=>run_load30 rfl rfl (HXB.out X hX)) ?_
 simp only[Act.put,sA,sB,sC]
 refine Rd.seq_float (.int .i64 x) (by simp only[gA,gB,gC];rfl) rfl (by rfl) (fun X _=>by go_simp) ?_
 simp only[Act.put,sA,sB,sC]
 refine Rd.seq_float (.agg #[.int .i64 r,.int .i64 m,.slice (some ⟨b,0,none⟩) L.length c]) (by simp only[gA,gB,gC];rfl) rfl (by rfl) (fun X hX=>run_load30 rfl rfl (HXB.out X hX)) ?_
 simp only[Act.put,sA,sB,sC]
 refine Rd.seq_float (.int .i64 p) (by simp only[gA,gB,gC];rfl) rfl (by rfl) (fun X _=>by go_simp) ?_
 simp only[Act.put,sA,sB,sC]
 refine Rd.seq_move (by simp only[gA,gB,gC];rfl) rfl (by rfl) (fun K hK=>?_)
 go_simp
 refine(HR.out.top _ _ HH.out hq6).mono ?_
 rintro e wi ⟨rfl,hbi⟩
 refine hK _ _ (fun _=>hbi) ?_
 clear hK K
 refine Rd.seq_move (by simp only[gA,gB,gC];rfl) rfl (by rfl) (fun K hK=>?_)
 go_simp
 refine(HR.out.top _ _ HQ.out (by assumption)).mono ?_
 rintro e wi ⟨rfl,hbi⟩
 refine hK _ _ (fun _=>hbi) ?_
 clear hK K
 refine Rd.seq_float (.bool false) (by simp only[gA,gB,gC];rfl) rfl (by rfl) (fun X _=>by go_simp) ?_
 simp only[Act.put,sA,sB,sC]
 refine Rd.seq_float (.bool false) (by simp only[gA,gB,gC];rfl) rfl (by rfl) (fun X _=>by go_simp) ?_
 simp only[Act.put,sA,sB,sC]
 refine Rd.seq_end ?_
 go_wp2_with (first | (refine wpList_load30 rfl _ rfl w.heap.size r m (.slice (some ⟨b,0,none⟩) L.length c) rfl (HXB.out _ (by assumption)) ?_) | (go_at_call 16;refine(HR.out.bel _ _ _ HQ.out (by assumption)).mono ?_;rw[HBE.out];rintro e wi ⟨rfl,hbi⟩) | (refine wpList_store30 rfl _ _ rfl (w.heap.size+1) r m (.slice (some ⟨b,0,none⟩) L.length c) rfl rfl (HZB.out _ (by assumption)) rfl rfl ?_;intro wz hZ9 t9))
 refine bodyPost_ret (resultsF_ct rfl _ wz (w.heap.size+1) r m (.slice (some ⟨b,0,none⟩) L.length c) _ rfl rfl hZ9) rfl ?_
 rw[HC.out,HN.out]
 exact⟨⟨_,rfl,some ⟨b,0,none⟩,c,rfl,(HR.out.row _ hbi).turn t9 (HZB.out _ hbi) (by decide)⟩,(HFin.out _ hbi).trans (t9.below (by omega))⟩
theorem rMove_deep (x p:Int) (m0 k:Int) (w:World) (h:RowG w (.slice a L.length c) L) (ok:Ok L m0 k) (hh:has L x=true) (hq:has L p=true) (hp:0≤(gr L x).pa) (ht:topI L x=topI L p) (hbe:belowB L p x=false) (hde:deepB L x p=true):
  Calls Tryz.prog 48 #[.agg (cellsF r m (.slice a L.length c)),.int .i64 x,.int .i64 p] w fun e w'=>(∃v,e= .returned (.tuple #[v,.int .i64 (moveC L x p)])∧DocF w' v r m (moveN L x p))∧Below w.heap.size w w':=by
 have hc:moveC L x p=7:=by unfold moveC;rw[if_neg (by rw[hh,hq];decide),if_neg (by omega),if_neg (fun e=>e ht),if_neg (by rw[hbe];decide),if_pos hde]
 have HC:=Lib.hid hc
 have HN:Hid (moveN L x p=L):=Lib.hid (by unfold moveN;rw[hc];rfl)
 obtain⟨hx0,hZ0,hb,hsz,HR,HXB,HZB,HFin⟩:=pre2 r m h ok
 have HA:Hid (atG L x=(pos L x:Int)):=Lib.hid (atG_yes hh)
 have HH:=Lib.hid hh
 have hj:=has_pos hh
 obtain⟨b,rfl,hcl⟩:=h.at hj
 have HCL:Hid (∀X,Below ((w.alloc (.cells #[.int .i64 r,.int .i64 m,.slice (some ⟨b,0,none⟩) L.length c] 29)).alloc (.cells #[.int .i64 0,.int .i64 0,.slice none 0 0] 29)).heap.size ((w.alloc (.cells #[.int .i64 r,.int .i64 m,.slice (some ⟨b,0,none⟩) L.length c] 29)).alloc (.cells #[.int .i64 0,.int .i64 0,.slice none 0 0] 29)) X→X.cell? ⟨b,pos L x*5+1,none⟩=some (.int .i64 (gr L x).pa)∧X.rangeAt b (pos L x*5) (cellsE (gr L x)).toList):=Lib.hid fun X hX=>⟨((hcl.below hb).below hX).pa hj,((hcl.below hb).below hX).range hj⟩
 have HQ:=Lib.hid hq
 have HAP:Hid (atG L p=(pos L p:Int)):=Lib.hid (atG_yes hq)
 have hp0: ¬(gr L x).pa<0:=by omega
 have htt:(topI L p==topI L p)=true:=by simp
 have htn:(topI L p != topI L p)=false:=by simp
 have hn64:=ok.n64
 have HDD:Hid (∀y X,has L y=true→Below ((w.alloc (.cells #[.int .i64 r,.int .i64 m,.slice (some ⟨b,0,none⟩) L.length c] 29)).alloc (.cells #[.int .i64 0,.int .i64 0,.slice none 0 0] 29)).heap.size ((w.alloc (.cells #[.int .i64 r,.int .i64 m,.slice (some ⟨b,0,none⟩) L.length c] 29)).alloc (.cells #[.int .i64 0,.int .i64 0,.slice none 0 0] 29)) X→Calls Tryz.prog 31 #[.agg #[.int .i64 r,.int .i64 m,.slice (some ⟨b,0,none⟩) L.length c],.int .i64 y] X fun e w'=>e= .returned (.int .i64 (dep L y))∧Below ((w.alloc (.cells #[.int .i64 r,.int .i64 m,.slice (some ⟨b,0,none⟩) L.length c] 29)).alloc (.cells #[.int .i64 0,.int .i64 0,.slice none 0 0] 29)).heap.size ((w.alloc (.cells #[.int .i64 r,.int .i64 m,.slice (some ⟨b,0,none⟩) L.length c] 29)).alloc (.cells #[.int .i64 0,.int .i64 0,.slice none 0 0] 29)) w'):=Lib.hid fun y X hy hX=>HR.out.dep y X hy hX
 have HCC:Hid (∀X,Below ((w.alloc (.cells #[.int .i64 r,.int .i64 m,.slice (some ⟨b,0,none⟩) L.length c] 29)).alloc (.cells #[.int .i64 0,.int .i64 0,.slice none 0 0] 29)).heap.size ((w.alloc (.cells #[.int .i64 r,.int .i64 m,.slice (some ⟨b,0,none⟩) L.length c] 29)).alloc (.cells #[.int .i64 0,.int .i64 0,.slice none 0 0] 29)) X→Cl X b 0 L):=Lib.hid fun X hX=>(hcl.below hb).below hX
 have OK:=Lib.hid ok
 have HBE:=Lib.hid hbe
 have HDE:=Lib.hid hde
 clear hbe hde
 clear hh hq hp
 generalize (gr L x).pa=pa at *
 generalize pos L x=j at *
 generalize pos L p=jp at *
 clear hc h ok
 unfold cellsF
 go_enter Tryz.func48,Tryz.ntmps48
 go_wp2_with (first | (have hgd:=hx0;refine wpList_alloc30 rfl rfl ?_;clear hgd;generalize ((w.alloc (.cells #[.int .i64 r,.int .i64 m,.slice (some ⟨b,0,none⟩) L.length c] 29)).alloc (.cells #[.int .i64 0,.int .i64 0,.slice none 0 0] 29))=w3 at *;have hbi:=Below.refl w3.heap.size w3;clear hx0 hZ0 hb) | (go_at_call 30;refine(HR.out.at' _ _ (by assumption)).mono ?_;rw[HA.out];rintro e wi ⟨rfl,hbi⟩;have hX2:=HXB.out wi hbi;have f0:=cF0 hX2;have f1:=cF1 hX2;have f2:=cF2 hX2;clear hX2;have g1:=(HCL.out wi hbi).1) | (go_at_call 30;refine(HR.out.at' _ _ (by assumption)).mono ?_;rw[HAP.out];rintro e wi ⟨rfl,hbi⟩;have hX2:=HXB.out wi hbi;have f0:=cF0 hX2;have f1:=cF1 hX2;have f2:=cF2 hX2;clear hX2;have g1:=(HCL.out wi hbi).1) | (refine wpList_load30 rfl _ rfl w.heap.size r m (.slice (some ⟨b,0,none⟩) L.length c) rfl (HXB.out _ (by assumption)) ?_) | (refine wpList_store30 rfl _ _ rfl (w.heap.size+1) r m (.slice (some ⟨b,0,none⟩) L.length c) rfl rfl (HZB.out _ (by assumption)) rfl rfl ?_;intro wz hZ9 t9))
 have hq6:Below w3.heap.size w3 wi.drew:=Below.drewS hbi
 clear f0 f1 f2 g1
 refine Rd.region (fun X=>Below w3.heap.size w3 X) 8 [0,1,3,4,6,7] [0,1,3,4,2,5,6,7] (by kernel_rfl) (by kernel_rfl) (by kernel_rfl) (by kernel_rfl) rfl hq6 ?_
 refine Rd.seq_float (.agg #[.int .i64 r,.int .i64 m,.slice (some ⟨b,0,none⟩) L.length c]) (by simp only[gA,gC];rfl) rfl (by rfl) (fun X hX=>run_load30 rfl rfl (HXB.out X hX)) ?_
 simp only[Act.put,sA,sB,sC]
 refine Rd.seq_float (.int .i64 x) (by simp only[gA,gB,gC];rfl) rfl (by rfl) (fun X _=>by go_simp) ?_
 simp only[Act.put,sA,sB,sC]
 refine Rd.seq_float (.agg #[.int .i64 r,.int .i64 m,.slice (some ⟨b,0,none⟩) L.length c]) (by simp only[gA,gB,gC];rfl) rfl (by rfl) (fun X hX=>run_load30 rfl rfl (HXB.out X hX)) ?_
 simp only[Act.put,sA,sB,sC]
 refine Rd.seq_float (.int .i64 p) (by simp only[gA,gB,gC];rfl) rfl (by rfl) (fun X _=>by go_simp) ?_
 simp only[Act.put,sA,sB,sC]
 refine Rd.seq_move (by simp only[gA,gB,gC];rfl) rfl (by rfl) (fun K hK=>?_)
 go_simp
 refine(HR.out.top _ _ HH.out hq6).mono ?_
 rintro e wi ⟨rfl,hbi⟩
 refine hK _ _ (fun _=>hbi) ?_
 clear hK K
 refine Rd.seq_move (by simp only[gA,gB,gC];rfl) rfl (by rfl) (fun K hK=>?_)
 go_simp
 refine(HR.out.top _ _ HQ.out (by assumption)).mono ?_
 rintro e wi ⟨rfl,hbi⟩
 refine hK _ _ (fun _=>hbi) ?_
 clear hK K
 refine Rd.seq_float (.bool false) (by simp only[gA,gB,gC];rfl) rfl (by rfl) (fun X _=>by go_simp) ?_
 simp only[Act.put,sA,sB,sC]
 refine Rd.seq_float (.bool false) (by simp only[gA,gB,gC];rfl) rfl (by rfl) (fun X _=>by go_simp) ?_
 simp only[Act.put,sA,sB,sC]
 refine Rd.seq_end ?_
 go_wp2_with (first | (refine wpList_load30 rfl _ rfl w.heap.size r m (.slice (some ⟨b,0,none⟩) L.length c) rfl (HXB.out _ (by assumption)) ?_) | (go_at_call 16;refine(HR.out.bel _ _ _ HQ.out (by assumption)).mono ?_;rw[HBE.out];rintro e wi ⟨rfl,hbi⟩;have hX2:=HXB.out wi hbi;have f0:=cF0 hX2;have f1:=cF1 hX2;have f2:=cF2 hX2;clear hX2))
 go_loopw [51] (fun i wr=>∃k:Nat,k≤L.length∧i= .int .i64 k∧Hid (∀j,j<k→tooDeep L x p (L.getD j g0).id=false)∧Below w3.heap.size w3 wr) (fun i _=>L.length - (intOf i).toNat)
 case atStart=>exact⟨0,by omega,rfl,Lib.hid (fun j hj=>absurd hj (Nat.not_lt_zero _)),hbi⟩
 case round=>
  clear f0 f1 f2 hbi
  obtain⟨k,hk,rfl,HT,hb7⟩:=hrel
  by_cases hlt:k<L.length
  ·have hyy:has L (L.getD k g0).id=true:=has_mem (getD_memG hlt)
   have HV:Hid (∀X,Below w3.heap.size w3 X→X.cell? ⟨b,k*5,none⟩=some (.int .i64 (L.getD k g0).id)):=Lib.hid fun X hX=>(HCC.out X hX).id hlt
   have HBY:Hid (∀X,Below w3.heap.size w3 X→Calls Tryz.prog 16 #[.agg #[.int .i64 r,.int .i64 m,.slice (some ⟨b,0,none⟩) L.length c],.int .i64 (L.getD k g0).id,.int .i64 x] X fun e w'=>e= .returned (.bool (belowB L (L.getD k g0).id x))∧Below w3.heap.size w3 w'):=Lib.hid fun X hX=>HR.out.bel _ x X hyy hX
   have HDY:Hid (∀X,Below w3.heap.size w3 X→Calls Tryz.prog 31 #[.agg #[.int .i64 r,.int .i64 m,.slice (some ⟨b,0,none⟩) L.length c],.int .i64 (L.getD k g0).id] X fun e w'=>e= .returned (.int .i64 (dep L (L.getD k g0).id))∧Below w3.heap.size w3 w'):=Lib.hid fun X hX=>HDD.out _ X hyy hX
   have HDX:Hid (∀X,Below w3.heap.size w3 X→Calls Tryz.prog 31 #[.agg #[.int .i64 r,.int .i64 m,.slice (some ⟨b,0,none⟩) L.length c],.int .i64 x] X fun e w'=>e= .returned (.int .i64 (dep L x))∧Below w3.heap.size w3 w'):=Lib.hid fun X hX=>HDD.out _ X HH.out hX
   have HDP:Hid (∀X,Below w3.heap.size w3 X→Calls Tryz.prog 31 #[.agg #[.int .i64 r,.int .i64 m,.slice (some ⟨b,0,none⟩) L.length c],.int .i64 p] X fun e w'=>e= .returned (.int .i64 (dep L p))∧Below w3.heap.size w3 w'):=Lib.hid fun X hX=>HDD.out _ X HQ.out hX
   have HTK:Hid (tooDeep L x p (L.getD k g0).id=false→∀j,j<k+1→tooDeep L x p (L.getD j g0).id=false):=Lib.hid fun e j hj=>by
    by_cases e2:j=k
    ·subst e2;exact e
    ·exact HT.out j (by omega)
   have hd1:=OK.out.dep8 (L.getD k g0).id
   have hd2:=OK.out.dep8 x
   have hd3:=OK.out.dep8 p
   have HTE:Hid (tooDeep L x p (L.getD k g0).id=(belowB L (L.getD k g0).id x&&decide (8<dep L (L.getD k g0).id - dep L x+dep L p+1))):=Lib.hid rfl
   skip
   have hq7:Below w3.heap.size w3 wr.drew:=Below.drewS hb7
   clear hyy HT
   have HW:Hid (IntKind.i64.wrap (dep L (L.getD k g0).id - dep L x)=dep L (L.getD k g0).id - dep L x∧IntKind.i64.wrap (dep L (L.getD k g0).id - dep L x+dep L p)=dep L (L.getD k g0).id - dep L x+dep L p∧IntKind.i64.wrap (dep L (L.getD k g0).id - dep L x+dep L p+1)=dep L (L.getD k g0).id - dep L x+dep L p+1):=Lib.hid ⟨IntWalk.i64_in _ (by omega),IntWalk.i64_in _ (by omega),IntWalk.i64_in _ (by omega)⟩
   clear hd1 hd2 hd3
   generalize dep L (L.getD k g0).id=dy at *
   generalize dep L x=dx at *
   generalize dep L p=dp at *
   cases hby:belowB L (L.getD k g0).id x with
   | false=>
    have HT3:=Lib.hid (HTK.out (by rw[HTE.out,hby,Bool.false_and]))
    rw[hby] at HBY
    clear hby HTK HTE
    generalize hyid:(L.getD k g0).id=y at HBY HDY HV
    clear hyid
    go_wp2_with fail
    refine Rd.region (fun X=>Below w3.heap.size w3 X) 29 [0,1,2,3,4,5,6,7,9,10,11,12,13,14,15,16,17,18,19,20,21,22,23,24,25,26,27,28] [0,1,2,3,4,5,6,7,8,9,10,11,12,13,14,15,16,17,18,19,20,21,22,23,24,25,26,27,28] (by kernel_rfl) (by kernel_rfl) (by kernel_rfl) (by kernel_rfl) rfl hq7 ?_
    refine Rd.seq_floatL (.agg #[.int .i64 r,.int .i64 m,.slice (some ⟨b,0,none⟩) L.length c]) (by simp only[gA,gC];rfl) (by rfl) rfl (by rfl) (fun X hX=>run_load30 rfl rfl (HXB.out X hX)) ?_
    dsimp only[sB,sC]
    refine Rd.seq_floatL (.pointer (some ⟨w.heap.size,2,none⟩)) (by simp only[gA,gB,gC];rfl) (by rfl) rfl (by rfl) (fun X _=>by go_simp) ?_
    dsimp only[sB,sC]
    refine Rd.seq_floatL (.slice (some ⟨b,0,none⟩) L.length c) (by simp only[gA,gB,gC];rfl) (by rfl) rfl (by rfl) (fun X hX=>by have e2:=cF2 (HXB.out X hX);go_simp) ?_
    dsimp only[sB,sC]
    refine Rd.seq_floatL (.int .i64 (k:Int)) (by simp only[gA,gB,gC];rfl) (by rfl) rfl (by rfl) (fun X _=>by go_simp) ?_
    dsimp only[sB,sC]
    refine Rd.seq_floatL (.pointer (some ⟨b,k*5,none⟩)) (by simp only[gA,gB,gC];rfl) (by rfl) rfl (by rfl) (fun X _=>by first | (go_simp;done) | (go_simp;intro hx;omega)) ?_
    dsimp only[sB,sC]
    refine Rd.seq_floatL (.pointer (some ⟨b,k*5,none⟩)) (by simp only[gA,gB,gC];rfl) (by rfl) rfl (by rfl) (fun X _=>by go_simp) ?_
    dsimp only[sB,sC]
    refine Rd.seq_floatL (.int .i64 y) (by simp only[gA,gB,gC];rfl) (by rfl) rfl (by rfl) (fun X hX=>by have e2:=HV.out X hX;go_simp) ?_
    dsimp only[sB,sC]
    refine Rd.seq_floatL (.int .i64 x) (by simp only[gA,gB,gC];rfl) (by rfl) rfl (by rfl) (fun X _=>by go_simp) ?_
    dsimp only[sB,sC]
    refine Rd.seq_move (by simp only[gA,gB,gC];rfl) rfl (by rfl) (fun K hK=>?_)
    go_simp
    refine(HBY.out _ hq7).mono ?_
    rintro e wi ⟨rfl,hbi⟩
    refine hK _ _ (fun _=>hbi) ?_
    clear hK K
    refine Rd.seq_floatL (.bool false) (by simp only[gA,gB,gC];rfl) (by rfl) rfl (by rfl) (fun X _=>by go_simp) ?_
    dsimp only[sB,sC]
    refine Rd.seq_skipL (by simp only[gA,gB,gC];rfl) (by rfl) rfl (by rfl) ?_
    dsimp only[sB,sC]
    refine Rd.seq_skipL (by simp only[gA,gB,gC];rfl) (by rfl) rfl (by rfl) ?_
    dsimp only[sB,sC]
    refine Rd.seq_skipL (by simp only[gA,gB,gC];rfl) (by rfl) rfl (by rfl) ?_
    dsimp only[sB,sC]
    refine Rd.seq_skipL (by simp only[gA,gB,gC];rfl) (by rfl) rfl (by rfl) ?_
    dsimp only[sB,sC]
    refine Rd.seq_skipL (by simp only[gA,gB,gC];rfl) (by rfl) rfl (by rfl) ?_
    dsimp only[sB,sC]
    refine Rd.seq_skipL (by simp only[gA,gB,gC];rfl) (by rfl) rfl (by rfl) ?_
    dsimp only[sB,sC]
    refine Rd.seq_skipL (by simp only[gA,gB,gC];rfl) (by rfl) rfl (by rfl) ?_
    dsimp only[sB,sC]
    refine Rd.seq_skipL (by simp only[gA,gB,gC];rfl) (by rfl) rfl (by rfl) ?_
    dsimp only[sB,sC]
    refine Rd.seq_skipL (by simp only[gA,gB,gC];rfl) (by rfl) rfl (by rfl) ?_
    dsimp only[sB,sC]
    refine Rd.seq_skipL (by simp only[gA,gB,gC];rfl) (by rfl) rfl (by rfl) ?_
    dsimp only[sB,sC]
    refine Rd.seq_skipL (by simp only[gA,gB,gC];rfl) (by rfl) rfl (by rfl) ?_
    dsimp only[sB,sC]
    refine Rd.seq_skipL (by simp only[gA,gB,gC];rfl) (by rfl) rfl (by rfl) ?_
    dsimp only[sB,sC]
    refine Rd.seq_skipL (by simp only[gA,gB,gC];rfl) (by rfl) rfl (by rfl) ?_
    dsimp only[sB,sC]
    refine Rd.seq_skipL (by simp only[gA,gB,gC];rfl) (by rfl) rfl (by rfl) ?_
    dsimp only[sB,sC]
    refine Rd.seq_skipL (by simp only[gA,gB,gC];rfl) (by rfl) rfl (by rfl) ?_
    dsimp only[sB,sC]
    refine Rd.seq_skipL (by simp only[gA,gB,gC];rfl) (by rfl) rfl (by rfl) ?_
    dsimp only[sB,sC]
    refine Rd.seq_skipL (by simp only[gA,gB,gC];rfl) (by rfl) rfl (by rfl) ?_
    dsimp only[sB,sC]
    refine Rd.seq_skipL (by simp only[gA,gB,gC];rfl) (by rfl) rfl (by rfl) ?_
    dsimp only[sB,sC]
    refine Rd.seq_floatL (.bool false) (by simp only[gA,gB,gC];rfl) (by rfl) rfl (by rfl) (fun X _=>by go_simp) ?_
    dsimp only[sB,sC]
    refine Rd.seq_end ?_
    go_wp2_with fail
    exact⟨⟨k+1,by omega,by go_num,HT3,hbi⟩,by simp[intOf];omega⟩
   | true=>
    rw[hby] at HBY HTE
    clear hby
    by_cases h8:8<dy - dx+dp+1
    ·clear HTK HTE
     generalize hyid:(L.getD k g0).id=y at HBY HDY HV
     clear hyid
     go_wp2_with fail
     refine Rd.region (fun X=>Below w3.heap.size w3 X) 29 [0,1,2,3,4,5,6,7,9,10,11,12,13,14,15,16,18,19,21,22,23,25,26,27,28] [0,1,2,3,4,5,6,7,8,9,10,11,12,13,14,15,16,18,19,22,23,17,20,21,24,25,26,27,28] (by kernel_rfl) (by kernel_rfl) (by kernel_rfl) (by kernel_rfl) rfl hq7 ?_
     refine Rd.seq_floatL (.agg #[.int .i64 r,.int .i64 m,.slice (some ⟨b,0,none⟩) L.length c]) (by simp only[gA,gC];rfl) (by rfl) rfl (by rfl) (fun X hX=>run_load30 rfl rfl (HXB.out X hX)) ?_
     dsimp only[sB,sC]
     refine Rd.seq_floatL (.pointer (some ⟨w.heap.size,2,none⟩)) (by simp only[gA,gB,gC];rfl) (by rfl) rfl (by rfl) (fun X _=>by go_simp) ?_
     dsimp only[sB,sC]
     refine Rd.seq_floatL (.slice (some ⟨b,0,none⟩) L.length c) (by simp only[gA,gB,gC];rfl) (by rfl) rfl (by rfl) (fun X hX=>by have e2:=cF2 (HXB.out X hX);go_simp) ?_
     dsimp only[sB,sC]
     refine Rd.seq_floatL (.int .i64 (k:Int)) (by simp only[gA,gB,gC];rfl) (by rfl) rfl (by rfl) (fun X _=>by go_simp) ?_
     dsimp only[sB,sC]
     refine Rd.seq_floatL (.pointer (some ⟨b,k*5,none⟩)) (by simp only[gA,gB,gC];rfl) (by rfl) rfl (by rfl) (fun X _=>by first | (go_simp;done) | (go_simp;intro hx;omega)) ?_
     dsimp only[sB,sC]
     refine Rd.seq_floatL (.pointer (some ⟨b,k*5,none⟩)) (by simp only[gA,gB,gC];rfl) (by rfl) rfl (by rfl) (fun X _=>by go_simp) ?_
     dsimp only[sB,sC]
     refine Rd.seq_floatL (.int .i64 y) (by simp only[gA,gB,gC];rfl) (by rfl) rfl (by rfl) (fun X hX=>by have e2:=HV.out X hX;go_simp) ?_
     dsimp only[sB,sC]
     refine Rd.seq_floatL (.int .i64 x) (by simp only[gA,gB,gC];rfl) (by rfl) rfl (by rfl) (fun X _=>by go_simp) ?_
     dsimp only[sB,sC]
     refine Rd.seq_move (by simp only[gA,gB,gC];rfl) rfl (by rfl) (fun K hK=>?_)
     go_simp
     refine(HBY.out _ hq7).mono ?_
     rintro e wi ⟨rfl,hbi⟩
     refine hK _ _ (fun _=>hbi) ?_
     clear hK K
     refine Rd.seq_floatL (.bool true) (by simp only[gA,gB,gC];rfl) (by rfl) rfl (by rfl) (fun X _=>by go_simp) ?_
     dsimp only[sB,sC]
     refine Rd.seq_floatL (.agg #[.int .i64 r,.int .i64 m,.slice (some ⟨b,0,none⟩) L.length c]) (by simp only[gA,gB,gC];rfl) (by rfl) rfl (by rfl) (fun X hX=>run_load30 rfl rfl (HXB.out X hX)) ?_
     dsimp only[sB,sC]
     refine Rd.seq_floatL (.pointer (some ⟨w.heap.size,2,none⟩)) (by simp only[gA,gB,gC];rfl) (by rfl) rfl (by rfl) (fun X _=>by go_simp) ?_
     dsimp only[sB,sC]
     refine Rd.seq_floatL (.slice (some ⟨b,0,none⟩) L.length c) (by simp only[gA,gB,gC];rfl) (by rfl) rfl (by rfl) (fun X hX=>by have e2:=cF2 (HXB.out X hX);go_simp) ?_
     dsimp only[sB,sC]
     refine Rd.seq_floatL (.int .i64 (k:Int)) (by simp only[gA,gB,gC];rfl) (by rfl) rfl (by rfl) (fun X _=>by go_simp) ?_
     dsimp only[sB,sC]
     refine Rd.seq_floatL (.pointer (some ⟨b,k*5,none⟩)) (by simp only[gA,gB,gC];rfl) (by rfl) rfl (by rfl) (fun X _=>by first | (go_simp;done) | (go_simp;intro hx;omega)) ?_
     dsimp only[sB,sC]
     refine Rd.seq_floatL (.pointer (some ⟨b,k*5,none⟩)) (by simp only[gA,gB,gC];rfl) (by rfl) rfl (by rfl) (fun X _=>by go_simp) ?_
     dsimp only[sB,sC]
     refine Rd.seq_floatL (.int .i64 y) (by simp only[gA,gB,gC];rfl) (by rfl) rfl (by rfl) (fun X hX=>by have e2:=HV.out X hX;go_simp) ?_
     dsimp only[sB,sC]
     refine Rd.seq_floatL (.agg #[.int .i64 r,.int .i64 m,.slice (some ⟨b,0,none⟩) L.length c]) (by simp only[gA,gB,gC];rfl) (by rfl) rfl (by rfl) (fun X hX=>run_load30 rfl rfl (HXB.out X hX)) ?_
     dsimp only[sB,sC]
     refine Rd.seq_floatL (.int .i64 x) (by simp only[gA,gB,gC];rfl) (by rfl) rfl (by rfl) (fun X _=>by go_simp) ?_
     dsimp only[sB,sC]
     refine Rd.seq_floatL (.agg #[.int .i64 r,.int .i64 m,.slice (some ⟨b,0,none⟩) L.length c]) (by simp only[gA,gB,gC];rfl) (by rfl) rfl (by rfl) (fun X hX=>run_load30 rfl rfl (HXB.out X hX)) ?_
     dsimp only[sB,sC]
     refine Rd.seq_floatL (.int .i64 p) (by simp only[gA,gB,gC];rfl) (by rfl) rfl (by rfl) (fun X _=>by go_simp) ?_
     dsimp only[sB,sC]
     refine Rd.seq_move (by simp only[gA,gB,gC];rfl) rfl (by rfl) (fun K hK=>?_)
     go_simp
     refine(HDY.out _ (by assumption)).mono ?_
     rintro e wi ⟨rfl,hbi⟩
     refine hK _ _ (fun _=>hbi) ?_
     clear hK K
     refine Rd.seq_move (by simp only[gA,gB,gC];rfl) rfl (by rfl) (fun K hK=>?_)
     go_simp
     refine(HDX.out _ (by assumption)).mono ?_
     rintro e wi ⟨rfl,hbi⟩
     refine hK _ _ (fun _=>hbi) ?_
     clear hK K
     refine Rd.seq_floatL (.int .i64 (dy - dx)) (by simp only[gA,gB,gC];rfl) (by rfl) rfl (by rfl) (fun X _=>by go_simp;exact HW.out.1) ?_
     dsimp only[sB,sC]
     refine Rd.seq_move (by simp only[gA,gB,gC];rfl) rfl (by rfl) (fun K hK=>?_)
     go_simp
     refine(HDP.out _ (by assumption)).mono ?_
     rintro e wi ⟨rfl,hbi⟩
     refine hK _ _ (fun _=>hbi) ?_
     clear hK K
     refine Rd.seq_floatL (.int .i64 (dy - dx+dp)) (by simp only[gA,gB,gC];rfl) (by rfl) rfl (by rfl) (fun X _=>by go_simp;exact HW.out.2.1) ?_
     dsimp only[sB,sC]
     refine Rd.seq_floatL (.int .i64 (dy - dx+dp+1)) (by simp only[gA,gB,gC];rfl) (by rfl) rfl (by rfl) (fun X _=>by go_simp;exact HW.out.2.2) ?_
     dsimp only[sB,sC]
     refine Rd.seq_floatL (.bool true) (by simp only[gA,gB,gC];rfl) (by rfl) rfl (by rfl) (fun X _=>by go_simp) ?_
     dsimp only[sB,sC]
     refine Rd.seq_floatL (.bool true) (by simp only[gA,gB,gC];rfl) (by rfl) rfl (by rfl) (fun X _=>by go_simp) ?_
     dsimp only[sB,sC]
     refine Rd.seq_end ?_
     go_wp2_with (first | (refine wpList_load30 rfl _ rfl w.heap.size r m (.slice (some ⟨b,0,none⟩) L.length c) rfl (HXB.out _ (by assumption)) ?_) | (refine wpList_store30 rfl _ _ rfl (w.heap.size+1) r m (.slice (some ⟨b,0,none⟩) L.length c) rfl rfl (HZB.out _ (by assumption)) rfl rfl ?_;intro wz hZ9 t9))
     refine bodyPost_ret (resultsF_ct rfl _ wz (w.heap.size+1) r m (.slice (some ⟨b,0,none⟩) L.length c) _ rfl rfl hZ9) rfl ?_
     rw[HC.out,HN.out]
     exact⟨⟨_,rfl,some ⟨b,0,none⟩,c,rfl,(HR.out.row _ hbi).turn t9 (HZB.out _ hbi) (by decide)⟩,(HFin.out _ hbi).trans (t9.below (by omega))⟩
    ·have HT3:=Lib.hid (HTK.out (by rw[HTE.out,Bool.true_and,decide_eq_false_iff_not];exact h8))
     clear HTK HTE
     generalize hyid:(L.getD k g0).id=y at HBY HDY HV
     clear hyid
     go_wp2_with fail
     refine Rd.region (fun X=>Below w3.heap.size w3 X) 29 [0,1,2,3,4,5,6,7,9,10,11,12,13,14,15,16,18,19,21,22,23,25,26,27,28] [0,1,2,3,4,5,6,7,8,9,10,11,12,13,14,15,16,18,19,22,23,17,20,21,24,25,26,27,28] (by kernel_rfl) (by kernel_rfl) (by kernel_rfl) (by kernel_rfl) rfl hq7 ?_
     refine Rd.seq_floatL (.agg #[.int .i64 r,.int .i64 m,.slice (some ⟨b,0,none⟩) L.length c]) (by simp only[gA,gC];rfl) (by rfl) rfl (by rfl) (fun X hX=>run_load30 rfl rfl (HXB.out X hX)) ?_
     dsimp only[sB,sC]
     refine Rd.seq_floatL (.pointer (some ⟨w.heap.size,2,none⟩)) (by simp only[gA,gB,gC];rfl) (by rfl) rfl (by rfl) (fun X _=>by go_simp) ?_
     dsimp only[sB,sC]
     refine Rd.seq_floatL (.slice (some ⟨b,0,none⟩) L.length c) (by simp only[gA,gB,gC];rfl) (by rfl) rfl (by rfl) (fun X hX=>by have e2:=cF2 (HXB.out X hX);go_simp) ?_
     dsimp only[sB,sC]
     refine Rd.seq_floatL (.int .i64 (k:Int)) (by simp only[gA,gB,gC];rfl) (by rfl) rfl (by rfl) (fun X _=>by go_simp) ?_
     dsimp only[sB,sC]
     refine Rd.seq_floatL (.pointer (some ⟨b,k*5,none⟩)) (by simp only[gA,gB,gC];rfl) (by rfl) rfl (by rfl) (fun X _=>by first | (go_simp;done) | (go_simp;intro hx;omega)) ?_
     dsimp only[sB,sC]
     refine Rd.seq_floatL (.pointer (some ⟨b,k*5,none⟩)) (by simp only[gA,gB,gC];rfl) (by rfl) rfl (by rfl) (fun X _=>by go_simp) ?_
     dsimp only[sB,sC]
     refine Rd.seq_floatL (.int .i64 y) (by simp only[gA,gB,gC];rfl) (by rfl) rfl (by rfl) (fun X hX=>by have e2:=HV.out X hX;go_simp) ?_
     dsimp only[sB,sC]
     refine Rd.seq_floatL (.int .i64 x) (by simp only[gA,gB,gC];rfl) (by rfl) rfl (by rfl) (fun X _=>by go_simp) ?_
     dsimp only[sB,sC]
     refine Rd.seq_move (by simp only[gA,gB,gC];rfl) rfl (by rfl) (fun K hK=>?_)
     go_simp
     refine(HBY.out _ hq7).mono ?_
     rintro e wi ⟨rfl,hbi⟩
     refine hK _ _ (fun _=>hbi) ?_
     clear hK K
     refine Rd.seq_floatL (.bool true) (by simp only[gA,gB,gC];rfl) (by rfl) rfl (by rfl) (fun X _=>by go_simp) ?_
     dsimp only[sB,sC]
     refine Rd.seq_floatL (.agg #[.int .i64 r,.int .i64 m,.slice (some ⟨b,0,none⟩) L.length c]) (by simp only[gA,gB,gC];rfl) (by rfl) rfl (by rfl) (fun X hX=>run_load30 rfl rfl (HXB.out X hX)) ?_
     dsimp only[sB,sC]
     refine Rd.seq_floatL (.pointer (some ⟨w.heap.size,2,none⟩)) (by simp only[gA,gB,gC];rfl) (by rfl) rfl (by rfl) (fun X _=>by go_simp) ?_
     dsimp only[sB,sC]
     refine Rd.seq_floatL (.slice (some ⟨b,0,none⟩) L.length c) (by simp only[gA,gB,gC];rfl) (by rfl) rfl (by rfl) (fun X hX=>by have e2:=cF2 (HXB.out X hX);go_simp) ?_
     dsimp only[sB,sC]
     refine Rd.seq_floatL (.int .i64 (k:Int)) (by simp only[gA,gB,gC];rfl) (by rfl) rfl (by rfl) (fun X _=>by go_simp) ?_
     dsimp only[sB,sC]
     refine Rd.seq_floatL (.pointer (some ⟨b,k*5,none⟩)) (by simp only[gA,gB,gC];rfl) (by rfl) rfl (by rfl) (fun X _=>by first | (go_simp;done) | (go_simp;intro hx;omega)) ?_
     dsimp only[sB,sC]
     refine Rd.seq_floatL (.pointer (some ⟨b,k*5,none⟩)) (by simp only[gA,gB,gC];rfl) (by rfl) rfl (by rfl) (fun X _=>by go_simp) ?_
     dsimp only[sB,sC]
     refine Rd.seq_floatL (.int .i64 y) (by simp only[gA,gB,gC];rfl) (by rfl) rfl (by rfl) (fun X hX=>by have e2:=HV.out X hX;go_simp) ?_
     dsimp only[sB,sC]
     refine Rd.seq_floatL (.agg #[.int .i64 r,.int .i64 m,.slice (some ⟨b,0,none⟩) L.length c]) (by simp only[gA,gB,gC];rfl) (by rfl) rfl (by rfl) (fun X hX=>run_load30 rfl rfl (HXB.out X hX)) ?_
     dsimp only[sB,sC]
     refine Rd.seq_floatL (.int .i64 x) (by simp only[gA,gB,gC];rfl) (by rfl) rfl (by rfl) (fun X _=>by go_simp) ?_
     dsimp only[sB,sC]
     refine Rd.seq_floatL (.agg #[.int .i64 r,.int .i64 m,.slice (some ⟨b,0,none⟩) L.length c]) (by simp only[gA,gB,gC];rfl) (by rfl) rfl (by rfl) (fun X hX=>run_load30 rfl rfl (HXB.out X hX)) ?_
     dsimp only[sB,sC]
     refine Rd.seq_floatL (.int .i64 p) (by simp only[gA,gB,gC];rfl) (by rfl) rfl (by rfl) (fun X _=>by go_simp) ?_
     dsimp only[sB,sC]
     refine Rd.seq_move (by simp only[gA,gB,gC];rfl) rfl (by rfl) (fun K hK=>?_)
     go_simp
     refine(HDY.out _ (by assumption)).mono ?_
     rintro e wi ⟨rfl,hbi⟩
     refine hK _ _ (fun _=>hbi) ?_
     clear hK K
     refine Rd.seq_move (by simp only[gA,gB,gC];rfl) rfl (by rfl) (fun K hK=>?_)
     go_simp
     refine(HDX.out _ (by assumption)).mono ?_
     rintro e wi ⟨rfl,hbi⟩
     refine hK _ _ (fun _=>hbi) ?_
     clear hK K
     refine Rd.seq_floatL (.int .i64 (dy - dx)) (by simp only[gA,gB,gC];rfl) (by rfl) rfl (by rfl) (fun X _=>by go_simp;exact HW.out.1) ?_
     dsimp only[sB,sC]
     refine Rd.seq_move (by simp only[gA,gB,gC];rfl) rfl (by rfl) (fun K hK=>?_)
     go_simp
     refine(HDP.out _ (by assumption)).mono ?_
     rintro e wi ⟨rfl,hbi⟩
     refine hK _ _ (fun _=>hbi) ?_
     clear hK K
     refine Rd.seq_floatL (.int .i64 (dy - dx+dp)) (by simp only[gA,gB,gC];rfl) (by rfl) rfl (by rfl) (fun X _=>by go_simp;exact HW.out.2.1) ?_
     dsimp only[sB,sC]
     refine Rd.seq_floatL (.int .i64 (dy - dx+dp+1)) (by simp only[gA,gB,gC];rfl) (by rfl) rfl (by rfl) (fun X _=>by go_simp;exact HW.out.2.2) ?_
     dsimp only[sB,sC]
     refine Rd.seq_floatL (.bool false) (by simp only[gA,gB,gC];rfl) (by rfl) rfl (by rfl) (fun X _=>by go_simp) ?_
     dsimp only[sB,sC]
     refine Rd.seq_floatL (.bool false) (by simp only[gA,gB,gC];rfl) (by rfl) rfl (by rfl) (fun X _=>by go_simp) ?_
     dsimp only[sB,sC]
     refine Rd.seq_end ?_
     go_wp2_with fail
     exact⟨⟨k+1,by omega,by go_num,HT3,hbi⟩,by simp[intOf];omega⟩
  ·obtain rfl:k=L.length:=by omega
   exact(deep_yes HDE.out HT.out).elim
theorem rMove_three (x p:Int) (m0 k:Int) (w:World) (h:RowG w (.slice a L.length c) L) (ok:Ok L m0 k) (hh:has L x=true) (hq:has L p=true) (hp:0≤(gr L x).pa) (ht:topI L x=topI L p) (hbe:belowB L p x=false) (hde:deepB L x p=false):
  Calls Tryz.prog 48 #[.agg (cellsF r m (.slice a L.length c)),.int .i64 x,.int .i64 p] w fun e w'=>(∃v,e= .returned (.tuple #[v,.int .i64 (moveC L x p)])∧DocF w' v r m (moveN L x p))∧Below w.heap.size w w':=by
 have HCF:Hid ((gr L x).pa≠p→fanI L p=32→moveC L x p=6):=Lib.hid fun hn h32=>by unfold moveC;rw[if_neg (by rw[hh,hq];decide),if_neg (by omega),if_neg (fun e=>e ht),if_neg (by rw[hbe];decide),if_neg (by rw[hde];decide),if_pos ⟨hn,h32⟩]
 have HCG:Hid (((gr L x).pa=p∨fanI L p≠32)→moveC L x p=0):=Lib.hid fun hn=>by unfold moveC;rw[if_neg (by rw[hh,hq];decide),if_neg (by omega),if_neg (fun e=>e ht),if_neg (by rw[hbe];decide),if_neg (by rw[hde];decide),if_neg (fun e=>hn.elim e.1 (fun h=>h e.2))]
 have HNF:Hid (moveC L x p=6→moveN L x p=L):=Lib.hid fun hc=>by unfold moveN;rw[hc];rfl
 have HNG:Hid (moveC L x p=0→moveN L x p=L.set (pos L x) ⟨(gr L x).id,p,(gr L x).wt,(gr L x).me,(gr L x).aw⟩):=Lib.hid fun hc=>by unfold moveN;rw[hc];show moveG L x p=_;unfold moveG setG mvd;rw[gr_id hh]
 obtain⟨hx0,hZ0,hb,hsz,HR,HXB,HZB,HFin⟩:=pre2 r m h ok
 have HA:Hid (atG L x=(pos L x:Int)):=Lib.hid (atG_yes hh)
 have HH:=Lib.hid hh
 have hj:=has_pos hh
 obtain⟨b,rfl,hcl⟩:=h.at hj
 have HCL:Hid (∀X,Below ((w.alloc (.cells #[.int .i64 r,.int .i64 m,.slice (some ⟨b,0,none⟩) L.length c] 29)).alloc (.cells #[.int .i64 0,.int .i64 0,.slice none 0 0] 29)).heap.size ((w.alloc (.cells #[.int .i64 r,.int .i64 m,.slice (some ⟨b,0,none⟩) L.length c] 29)).alloc (.cells #[.int .i64 0,.int .i64 0,.slice none 0 0] 29)) X→X.cell? ⟨b,pos L x*5+1,none⟩=some (.int .i64 (gr L x).pa)∧X.rangeAt b (pos L x*5) (cellsE (gr L x)).toList):=Lib.hid fun X hX=>⟨((hcl.below hb).below hX).pa hj,((hcl.below hb).below hX).range hj⟩
 have HQ:=Lib.hid hq
 have HAP:Hid (atG L p=(pos L p:Int)):=Lib.hid (atG_yes hq)
 have hp0: ¬(gr L x).pa<0:=by omega
 have htt:(topI L p==topI L p)=true:=by simp
 have htn:(topI L p != topI L p)=false:=by simp
 have hn64:=ok.n64
 have HDD:Hid (∀y X,has L y=true→Below ((w.alloc (.cells #[.int .i64 r,.int .i64 m,.slice (some ⟨b,0,none⟩) L.length c] 29)).alloc (.cells #[.int .i64 0,.int .i64 0,.slice none 0 0] 29)).heap.size ((w.alloc (.cells #[.int .i64 r,.int .i64 m,.slice (some ⟨b,0,none⟩) L.length c] 29)).alloc (.cells #[.int .i64 0,.int .i64 0,.slice none 0 0] 29)) X→Calls Tryz.prog 31 #[.agg #[.int .i64 r,.int .i64 m,.slice (some ⟨b,0,none⟩) L.length c],.int .i64 y] X fun e w'=>e= .returned (.int .i64 (dep L y))∧Below ((w.alloc (.cells #[.int .i64 r,.int .i64 m,.slice (some ⟨b,0,none⟩) L.length c] 29)).alloc (.cells #[.int .i64 0,.int .i64 0,.slice none 0 0] 29)).heap.size ((w.alloc (.cells #[.int .i64 r,.int .i64 m,.slice (some ⟨b,0,none⟩) L.length c] 29)).alloc (.cells #[.int .i64 0,.int .i64 0,.slice none 0 0] 29)) w'):=Lib.hid fun y X hy hX=>HR.out.dep y X hy hX
 have HCC:Hid (∀X,Below ((w.alloc (.cells #[.int .i64 r,.int .i64 m,.slice (some ⟨b,0,none⟩) L.length c] 29)).alloc (.cells #[.int .i64 0,.int .i64 0,.slice none 0 0] 29)).heap.size ((w.alloc (.cells #[.int .i64 r,.int .i64 m,.slice (some ⟨b,0,none⟩) L.length c] 29)).alloc (.cells #[.int .i64 0,.int .i64 0,.slice none 0 0] 29)) X→Cl X b 0 L):=Lib.hid fun X hX=>(hcl.below hb).below hX
 have OK:=Lib.hid ok
 have HBE:=Lib.hid hbe
 have HDE:=Lib.hid hde
 clear hbe hde
 clear hh hq hp
 generalize gr L x=g at *
 generalize pos L x=j at *
 generalize pos L p=jp at *
 clear h ok
 unfold cellsF
 go_enter Tryz.func48,Tryz.ntmps48
 go_wp2_with (first | (have hgd:=hx0;refine wpList_alloc30 rfl rfl ?_;clear hgd;generalize ((w.alloc (.cells #[.int .i64 r,.int .i64 m,.slice (some ⟨b,0,none⟩) L.length c] 29)).alloc (.cells #[.int .i64 0,.int .i64 0,.slice none 0 0] 29))=w3 at *;have hbi:=Below.refl w3.heap.size w3;clear hx0 hZ0 hb) | (go_at_call 30;refine(HR.out.at' _ _ (by assumption)).mono ?_;rw[HA.out];rintro e wi ⟨rfl,hbi⟩;have hX2:=HXB.out wi hbi;have f0:=cF0 hX2;have f1:=cF1 hX2;have f2:=cF2 hX2;clear hX2;have g1:=(HCL.out wi hbi).1) | (go_at_call 30;refine(HR.out.at' _ _ (by assumption)).mono ?_;rw[HAP.out];rintro e wi ⟨rfl,hbi⟩;have hX2:=HXB.out wi hbi;have f0:=cF0 hX2;have f1:=cF1 hX2;have f2:=cF2 hX2;clear hX2;have g1:=(HCL.out wi hbi).1) | (refine wpList_load30 rfl _ rfl w.heap.size r m (.slice (some ⟨b,0,none⟩) L.length c) rfl (HXB.out _ (by assumption)) ?_) | (refine wpList_store30 rfl _ _ rfl (w.heap.size+1) r m (.slice (some ⟨b,0,none⟩) L.length c) rfl rfl (HZB.out _ (by assumption)) rfl rfl ?_;intro wz hZ9 t9))
 have hq6:Below w3.heap.size w3 wi.drew:=Below.drewS hbi
 clear f0 f1 f2 g1
 refine Rd.region (fun X=>Below w3.heap.size w3 X) 8 [0,1,3,4,6,7] [0,1,3,4,2,5,6,7] (by kernel_rfl) (by kernel_rfl) (by kernel_rfl) (by kernel_rfl) rfl hq6 ?_
 refine Rd.seq_float (.agg #[.int .i64 r,.int .i64 m,.slice (some ⟨b,0,none⟩) L.length c]) (by simp only[gA,gC];rfl) rfl (by rfl) (fun X hX=>run_load30 rfl rfl (HXB.out X hX)) ?_
 simp only[Act.put,sA,sB,sC]
 refine Rd.seq_float (.int .i64 x) (by simp only[gA,gB,gC];rfl) rfl (by rfl) (fun X _=>by go_simp) ?_
 simp only[Act.put,sA,sB,sC]
 refine Rd.seq_float (.agg #[.int .i64 r,.int .i64 m,.slice (some ⟨b,0,none⟩) L.length c]) (by simp only[gA,gB,gC];rfl) rfl (by rfl) (fun X hX=>run_load30 rfl rfl (HXB.out X hX)) ?_
 simp only[Act.put,sA,sB,sC]
 refine Rd.seq_float (.int .i64 p) (by simp only[gA,gB,gC];rfl) rfl (by rfl) (fun X _=>by go_simp) ?_
 simp only[Act.put,sA,sB,sC]
 refine Rd.seq_move (by simp only[gA,gB,gC];rfl) rfl (by rfl) (fun K hK=>?_)
 go_simp
 refine(HR.out.top _ _ HH.out hq6).mono ?_
 rintro e wi ⟨rfl,hbi⟩
 refine hK _ _ (fun _=>hbi) ?_
 clear hK K
 refine Rd.seq_move (by simp only[gA,gB,gC];rfl) rfl (by rfl) (fun K hK=>?_)
 go_simp
 refine(HR.out.top _ _ HQ.out (by assumption)).mono ?_
 rintro e wi ⟨rfl,hbi⟩
 refine hK _ _ (fun _=>hbi) ?_
 clear hK K
 refine Rd.seq_float (.bool false) (by simp only[gA,gB,gC];rfl) rfl (by rfl) (fun X _=>by go_simp) ?_
 simp only[Act.put,sA,sB,sC]
 refine Rd.seq_float (.bool false) (by simp only[gA,gB,gC];rfl) rfl (by rfl) (fun X _=>by go_simp) ?_
 simp only[Act.put,sA,sB,sC]
 refine Rd.seq_end ?_
 go_wp2_with (first | (refine wpList_load30 rfl _ rfl w.heap.size r m (.slice (some ⟨b,0,none⟩) L.length c) rfl (HXB.out _ (by assumption)) ?_) | (go_at_call 16;refine(HR.out.bel _ _ _ HQ.out (by assumption)).mono ?_;rw[HBE.out];rintro e wi ⟨rfl,hbi⟩;have hX2:=HXB.out wi hbi;have f0:=cF0 hX2;have f1:=cF1 hX2;have f2:=cF2 hX2;clear hX2))
 go_loopw [51] (fun i wr=>∃k:Nat,k≤L.length∧i= .int .i64 k∧Hid (∀j,j<k→tooDeep L x p (L.getD j g0).id=false)∧Below w3.heap.size w3 wr) (fun i _=>L.length - (intOf i).toNat)
 case atStart=>exact⟨0,by omega,rfl,Lib.hid (fun j hj=>absurd hj (Nat.not_lt_zero _)),hbi⟩
 case round=>
  clear f0 f1 f2 hbi
  obtain⟨k,hk,rfl,HT,hb7⟩:=hrel
  by_cases hlt:k<L.length
  ·have hyy:has L (L.getD k g0).id=true:=has_mem (getD_memG hlt)
   have HV:Hid (∀X,Below w3.heap.size w3 X→X.cell? ⟨b,k*5,none⟩=some (.int .i64 (L.getD k g0).id)):=Lib.hid fun X hX=>(HCC.out X hX).id hlt
   have HBY:Hid (∀X,Below w3.heap.size w3 X→Calls Tryz.prog 16 #[.agg #[.int .i64 r,.int .i64 m,.slice (some ⟨b,0,none⟩) L.length c],.int .i64 (L.getD k g0).id,.int .i64 x] X fun e w'=>e= .returned (.bool (belowB L (L.getD k g0).id x))∧Below w3.heap.size w3 w'):=Lib.hid fun X hX=>HR.out.bel _ x X hyy hX
   have HDY:Hid (∀X,Below w3.heap.size w3 X→Calls Tryz.prog 31 #[.agg #[.int .i64 r,.int .i64 m,.slice (some ⟨b,0,none⟩) L.length c],.int .i64 (L.getD k g0).id] X fun e w'=>e= .returned (.int .i64 (dep L (L.getD k g0).id))∧Below w3.heap.size w3 w'):=Lib.hid fun X hX=>HDD.out _ X hyy hX
   have HDX:Hid (∀X,Below w3.heap.size w3 X→Calls Tryz.prog 31 #[.agg #[.int .i64 r,.int .i64 m,.slice (some ⟨b,0,none⟩) L.length c],.int .i64 x] X fun e w'=>e= .returned (.int .i64 (dep L x))∧Below w3.heap.size w3 w'):=Lib.hid fun X hX=>HDD.out _ X HH.out hX
   have HDP:Hid (∀X,Below w3.heap.size w3 X→Calls Tryz.prog 31 #[.agg #[.int .i64 r,.int .i64 m,.slice (some ⟨b,0,none⟩) L.length c],.int .i64 p] X fun e w'=>e= .returned (.int .i64 (dep L p))∧Below w3.heap.size w3 w'):=Lib.hid fun X hX=>HDD.out _ X HQ.out hX
   have HTK:Hid (tooDeep L x p (L.getD k g0).id=false→∀j,j<k+1→tooDeep L x p (L.getD j g0).id=false):=Lib.hid fun e j hj=>by
    by_cases e2:j=k
    ·subst e2;exact e
    ·exact HT.out j (by omega)
   have hd1:=OK.out.dep8 (L.getD k g0).id
   have hd2:=OK.out.dep8 x
   have hd3:=OK.out.dep8 p
   have HTE:Hid (tooDeep L x p (L.getD k g0).id=(belowB L (L.getD k g0).id x&&decide (8<dep L (L.getD k g0).id - dep L x+dep L p+1))):=Lib.hid rfl
   have HNO:=Lib.hid (deep_no HDE.out hlt)
   have hq7:Below w3.heap.size w3 wr.drew:=Below.drewS hb7
   clear hyy HT
   have HW:Hid (IntKind.i64.wrap (dep L (L.getD k g0).id - dep L x)=dep L (L.getD k g0).id - dep L x∧IntKind.i64.wrap (dep L (L.getD k g0).id - dep L x+dep L p)=dep L (L.getD k g0).id - dep L x+dep L p∧IntKind.i64.wrap (dep L (L.getD k g0).id - dep L x+dep L p+1)=dep L (L.getD k g0).id - dep L x+dep L p+1):=Lib.hid ⟨IntWalk.i64_in _ (by omega),IntWalk.i64_in _ (by omega),IntWalk.i64_in _ (by omega)⟩
   clear hd1 hd2 hd3
   generalize dep L (L.getD k g0).id=dy at *
   generalize dep L x=dx at *
   generalize dep L p=dp at *
   cases hby:belowB L (L.getD k g0).id x with
   | false=>
    have HT3:=Lib.hid (HTK.out (by rw[HTE.out,hby,Bool.false_and]))
    rw[hby] at HBY
    clear hby HTK HTE HNO
    generalize hyid:(L.getD k g0).id=y at HBY HDY HV
    clear hyid
    go_wp2_with fail
    refine Rd.region (fun X=>Below w3.heap.size w3 X) 29 [0,1,2,3,4,5,6,7,9,10,11,12,13,14,15,16,17,18,19,20,21,22,23,24,25,26,27,28] [0,1,2,3,4,5,6,7,8,9,10,11,12,13,14,15,16,17,18,19,20,21,22,23,24,25,26,27,28] (by kernel_rfl) (by kernel_rfl) (by kernel_rfl) (by kernel_rfl) rfl hq7 ?_
    refine Rd.seq_floatL (.agg #[.int .i64 r,.int .i64 m,.slice (some ⟨b,0,none⟩) L.length c]) (by simp only[gA,gC];rfl) (by rfl) rfl (by rfl) (fun X hX=>run_load30 rfl rfl (HXB.out X hX)) ?_
    dsimp only[sB,sC]
    refine Rd.seq_floatL (.pointer (some ⟨w.heap.size,2,none⟩)) (by simp only[gA,gB,gC];rfl) (by rfl) rfl (by rfl) (fun X _=>by go_simp) ?_
    dsimp only[sB,sC]
    refine Rd.seq_floatL (.slice (some ⟨b,0,none⟩) L.length c) (by simp only[gA,gB,gC];rfl) (by rfl) rfl (by rfl) (fun X hX=>by have e2:=cF2 (HXB.out X hX);go_simp) ?_
    dsimp only[sB,sC]
    refine Rd.seq_floatL (.int .i64 (k:Int)) (by simp only[gA,gB,gC];rfl) (by rfl) rfl (by rfl) (fun X _=>by go_simp) ?_
    dsimp only[sB,sC]
    refine Rd.seq_floatL (.pointer (some ⟨b,k*5,none⟩)) (by simp only[gA,gB,gC];rfl) (by rfl) rfl (by rfl) (fun X _=>by first | (go_simp;done) | (go_simp;intro hx;omega)) ?_
    dsimp only[sB,sC]
    refine Rd.seq_floatL (.pointer (some ⟨b,k*5,none⟩)) (by simp only[gA,gB,gC];rfl) (by rfl) rfl (by rfl) (fun X _=>by go_simp) ?_
    dsimp only[sB,sC]
    refine Rd.seq_floatL (.int .i64 y) (by simp only[gA,gB,gC];rfl) (by rfl) rfl (by rfl) (fun X hX=>by have e2:=HV.out X hX;go_simp) ?_
    dsimp only[sB,sC]
    refine Rd.seq_floatL (.int .i64 x) (by simp only[gA,gB,gC];rfl) (by rfl) rfl (by rfl) (fun X _=>by go_simp) ?_
    dsimp only[sB,sC]
    refine Rd.seq_move (by simp only[gA,gB,gC];rfl) rfl (by rfl) (fun K hK=>?_)
    go_simp
    refine(HBY.out _ hq7).mono ?_
    rintro e wi ⟨rfl,hbi⟩
    refine hK _ _ (fun _=>hbi) ?_
    clear hK K
    refine Rd.seq_floatL (.bool false) (by simp only[gA,gB,gC];rfl) (by rfl) rfl (by rfl) (fun X _=>by go_simp) ?_
    dsimp only[sB,sC]
    refine Rd.seq_skipL (by simp only[gA,gB,gC];rfl) (by rfl) rfl (by rfl) ?_
    dsimp only[sB,sC]
    refine Rd.seq_skipL (by simp only[gA,gB,gC];rfl) (by rfl) rfl (by rfl) ?_
    dsimp only[sB,sC]
    refine Rd.seq_skipL (by simp only[gA,gB,gC];rfl) (by rfl) rfl (by rfl) ?_
    dsimp only[sB,sC]
    refine Rd.seq_skipL (by simp only[gA,gB,gC];rfl) (by rfl) rfl (by rfl) ?_
    dsimp only[sB,sC]
    refine Rd.seq_skipL (by simp only[gA,gB,gC];rfl) (by rfl) rfl (by rfl) ?_
    dsimp only[sB,sC]
    refine Rd.seq_skipL (by simp only[gA,gB,gC];rfl) (by rfl) rfl (by rfl) ?_
    dsimp only[sB,sC]
    refine Rd.seq_skipL (by simp only[gA,gB,gC];rfl) (by rfl) rfl (by rfl) ?_
    dsimp only[sB,sC]
    refine Rd.seq_skipL (by simp only[gA,gB,gC];rfl) (by rfl) rfl (by rfl) ?_
    dsimp only[sB,sC]
    refine Rd.seq_skipL (by simp only[gA,gB,gC];rfl) (by rfl) rfl (by rfl) ?_
    dsimp only[sB,sC]
    refine Rd.seq_skipL (by simp only[gA,gB,gC];rfl) (by rfl) rfl (by rfl) ?_
    dsimp only[sB,sC]
    refine Rd.seq_skipL (by simp only[gA,gB,gC];rfl) (by rfl) rfl (by rfl) ?_
    dsimp only[sB,sC]
    refine Rd.seq_skipL (by simp only[gA,gB,gC];rfl) (by rfl) rfl (by rfl) ?_
    dsimp only[sB,sC]
    refine Rd.seq_skipL (by simp only[gA,gB,gC];rfl) (by rfl) rfl (by rfl) ?_
    dsimp only[sB,sC]
    refine Rd.seq_skipL (by simp only[gA,gB,gC];rfl) (by rfl) rfl (by rfl) ?_
    dsimp only[sB,sC]
    refine Rd.seq_skipL (by simp only[gA,gB,gC];rfl) (by rfl) rfl (by rfl) ?_
    dsimp only[sB,sC]
    refine Rd.seq_skipL (by simp only[gA,gB,gC];rfl) (by rfl) rfl (by rfl) ?_
    dsimp only[sB,sC]
    refine Rd.seq_skipL (by simp only[gA,gB,gC];rfl) (by rfl) rfl (by rfl) ?_
    dsimp only[sB,sC]
    refine Rd.seq_skipL (by simp only[gA,gB,gC];rfl) (by rfl) rfl (by rfl) ?_
    dsimp only[sB,sC]
    refine Rd.seq_floatL (.bool false) (by simp only[gA,gB,gC];rfl) (by rfl) rfl (by rfl) (fun X _=>by go_simp) ?_
    dsimp only[sB,sC]
    refine Rd.seq_end ?_
    go_wp2_with fail
    exact⟨⟨k+1,by omega,by go_num,HT3,hbi⟩,by simp[intOf];omega⟩
   | true=>
    rw[hby] at HBY HTE
    clear hby
    have h8: ¬ 8<dy - dx+dp+1:=by have:=HNO.out;rw[HTE.out,Bool.true_and,decide_eq_false_iff_not] at this;exact this
    ·have HT3:=Lib.hid (HTK.out HNO.out)
     clear HTK HTE HNO
     generalize hyid:(L.getD k g0).id=y at HBY HDY HV
     clear hyid
     go_wp2_with fail
     refine Rd.region (fun X=>Below w3.heap.size w3 X) 29 [0,1,2,3,4,5,6,7,9,10,11,12,13,14,15,16,18,19,21,22,23,25,26,27,28] [0,1,2,3,4,5,6,7,8,9,10,11,12,13,14,15,16,18,19,22,23,17,20,21,24,25,26,27,28] (by kernel_rfl) (by kernel_rfl) (by kernel_rfl) (by kernel_rfl) rfl hq7 ?_
     refine Rd.seq_floatL (.agg #[.int .i64 r,.int .i64 m,.slice (some ⟨b,0,none⟩) L.length c]) (by simp only[gA,gC];rfl) (by rfl) rfl (by rfl) (fun X hX=>run_load30 rfl rfl (HXB.out X hX)) ?_
     dsimp only[sB,sC]
     refine Rd.seq_floatL (.pointer (some ⟨w.heap.size,2,none⟩)) (by simp only[gA,gB,gC];rfl) (by rfl) rfl (by rfl) (fun X _=>by go_simp) ?_
     dsimp only[sB,sC]
     refine Rd.seq_floatL (.slice (some ⟨b,0,none⟩) L.length c) (by simp only[gA,gB,gC];rfl) (by rfl) rfl (by rfl) (fun X hX=>by have e2:=cF2 (HXB.out X hX);go_simp) ?_
     dsimp only[sB,sC]
     refine Rd.seq_floatL (.int .i64 (k:Int)) (by simp only[gA,gB,gC];rfl) (by rfl) rfl (by rfl) (fun X _=>by go_simp) ?_
     dsimp only[sB,sC]
     refine Rd.seq_floatL (.pointer (some ⟨b,k*5,none⟩)) (by simp only[gA,gB,gC];rfl) (by rfl) rfl (by rfl) (fun X _=>by first | (go_simp;done) | (go_simp;intro hx;omega)) ?_
     dsimp only[sB,sC]
     refine Rd.seq_floatL (.pointer (some ⟨b,k*5,none⟩)) (by simp only[gA,gB,gC];rfl) (by rfl) rfl (by rfl) (fun X _=>by go_simp) ?_
     dsimp only[sB,sC]
     refine Rd.seq_floatL (.int .i64 y) (by simp only[gA,gB,gC];rfl) (by rfl) rfl (by rfl) (fun X hX=>by have e2:=HV.out X hX;go_simp) ?_
     dsimp only[sB,sC]
     refine Rd.seq_floatL (.int .i64 x) (by simp only[gA,gB,gC];rfl) (by rfl) rfl (by rfl) (fun X _=>by go_simp) ?_
     dsimp only[sB,sC]
     refine Rd.seq_move (by simp only[gA,gB,gC];rfl) rfl (by rfl) (fun K hK=>?_)
     go_simp
     refine(HBY.out _ hq7).mono ?_
     rintro e wi ⟨rfl,hbi⟩
     refine hK _ _ (fun _=>hbi) ?_
     clear hK K
     refine Rd.seq_floatL (.bool true) (by simp only[gA,gB,gC];rfl) (by rfl) rfl (by rfl) (fun X _=>by go_simp) ?_
     dsimp only[sB,sC]
     refine Rd.seq_floatL (.agg #[.int .i64 r,.int .i64 m,.slice (some ⟨b,0,none⟩) L.length c]) (by simp only[gA,gB,gC];rfl) (by rfl) rfl (by rfl) (fun X hX=>run_load30 rfl rfl (HXB.out X hX)) ?_
     dsimp only[sB,sC]
     refine Rd.seq_floatL (.pointer (some ⟨w.heap.size,2,none⟩)) (by simp only[gA,gB,gC];rfl) (by rfl) rfl (by rfl) (fun X _=>by go_simp) ?_
     dsimp only[sB,sC]
     refine Rd.seq_floatL (.slice (some ⟨b,0,none⟩) L.length c) (by simp only[gA,gB,gC];rfl) (by rfl) rfl (by rfl) (fun X hX=>by have e2:=cF2 (HXB.out X hX);go_simp) ?_
     dsimp only[sB,sC]
     refine Rd.seq_floatL (.int .i64 (k:Int)) (by simp only[gA,gB,gC];rfl) (by rfl) rfl (by rfl) (fun X _=>by go_simp) ?_
     dsimp only[sB,sC]
     refine Rd.seq_floatL (.pointer (some ⟨b,k*5,none⟩)) (by simp only[gA,gB,gC];rfl) (by rfl) rfl (by rfl) (fun X _=>by first | (go_simp;done) | (go_simp;intro hx;omega)) ?_
     dsimp only[sB,sC]
     refine Rd.seq_floatL (.pointer (some ⟨b,k*5,none⟩)) (by simp only[gA,gB,gC];rfl) (by rfl) rfl (by rfl) (fun X _=>by go_simp) ?_
     dsimp only[sB,sC]
     refine Rd.seq_floatL (.int .i64 y) (by simp only[gA,gB,gC];rfl) (by rfl) rfl (by rfl) (fun X hX=>by have e2:=HV.out X hX;go_simp) ?_
     dsimp only[sB,sC]
     refine Rd.seq_floatL (.agg #[.int .i64 r,.int .i64 m,.slice (some ⟨b,0,none⟩) L.length c]) (by simp only[gA,gB,gC];rfl) (by rfl) rfl (by rfl) (fun X hX=>run_load30 rfl rfl (HXB.out X hX)) ?_
     dsimp only[sB,sC]
     refine Rd.seq_floatL (.int .i64 x) (by simp only[gA,gB,gC];rfl) (by rfl) rfl (by rfl) (fun X _=>by go_simp) ?_
     dsimp only[sB,sC]
     refine Rd.seq_floatL (.agg #[.int .i64 r,.int .i64 m,.slice (some ⟨b,0,none⟩) L.length c]) (by simp only[gA,gB,gC];rfl) (by rfl) rfl (by rfl) (fun X hX=>run_load30 rfl rfl (HXB.out X hX)) ?_
     dsimp only[sB,sC]
     refine Rd.seq_floatL (.int .i64 p) (by simp only[gA,gB,gC];rfl) (by rfl) rfl (by rfl) (fun X _=>by go_simp) ?_
     dsimp only[sB,sC]
     refine Rd.seq_move (by simp only[gA,gB,gC];rfl) rfl (by rfl) (fun K hK=>?_)
     go_simp
     refine(HDY.out _ (by assumption)).mono ?_
     rintro e wi ⟨rfl,hbi⟩
     refine hK _ _ (fun _=>hbi) ?_
     clear hK K
     refine Rd.seq_move (by simp only[gA,gB,gC];rfl) rfl (by rfl) (fun K hK=>?_)
     go_simp
     refine(HDX.out _ (by assumption)).mono ?_
     rintro e wi ⟨rfl,hbi⟩
     refine hK _ _ (fun _=>hbi) ?_
     clear hK K
     refine Rd.seq_floatL (.int .i64 (dy - dx)) (by simp only[gA,gB,gC];rfl) (by rfl) rfl (by rfl) (fun X _=>by go_simp;exact HW.out.1) ?_
     dsimp only[sB,sC]
     refine Rd.seq_move (by simp only[gA,gB,gC];rfl) rfl (by rfl) (fun K hK=>?_)
     go_simp
     refine(HDP.out _ (by assumption)).mono ?_
     rintro e wi ⟨rfl,hbi⟩
     refine hK _ _ (fun _=>hbi) ?_
     clear hK K
     refine Rd.seq_floatL (.int .i64 (dy - dx+dp)) (by simp only[gA,gB,gC];rfl) (by rfl) rfl (by rfl) (fun X _=>by go_simp;exact HW.out.2.1) ?_
     dsimp only[sB,sC]
     refine Rd.seq_floatL (.int .i64 (dy - dx+dp+1)) (by simp only[gA,gB,gC];rfl) (by rfl) rfl (by rfl) (fun X _=>by go_simp;exact HW.out.2.2) ?_
     dsimp only[sB,sC]
     refine Rd.seq_floatL (.bool false) (by simp only[gA,gB,gC];rfl) (by rfl) rfl (by rfl) (fun X _=>by go_simp) ?_
     dsimp only[sB,sC]
     refine Rd.seq_floatL (.bool false) (by simp only[gA,gB,gC];rfl) (by rfl) rfl (by rfl) (fun X _=>by go_simp) ?_
     dsimp only[sB,sC]
     refine Rd.seq_end ?_
     go_wp2_with fail
     exact⟨⟨k+1,by omega,by go_num,HT3,hbi⟩,by simp[intOf];omega⟩
  ·obtain rfl:k=L.length:=by omega
   have hX8:=HXB.out _ hb7
   have f0:=cF0 hX8
   have f1:=cF1 hX8
   have f2:=cF2 hX8
   have g1:=(HCL.out _ hb7).1
   clear hX8
   by_cases hn:g.pa=p
   ·have hn2:=beq_tt hn
    have hn3:(g.pa != p)=false:=by simp[hn]
    have HC:=Lib.hid (HCG.out (Or.inl hn))
    have HN:=Lib.hid (HNG.out HC.out)
    have wi:=wr
    generalize hwi:wr=wi at *
    clear hwi
    have hbi:=hb7
    go_wp2_with (first | (refine wpList_load30 rfl _ rfl w.heap.size r m (.slice (some ⟨b,0,none⟩) L.length c) rfl (HXB.out _ (by assumption)) ?_) | (refine wpList_load_mid rfl 56 _ rfl b (j*5) rfl _ _ (HCL.out _ (by assumption)).2 Tryz.underlying56 rfl Tryz.info56 ?_) | (refine wpList_alloc70 rfl rfl ?_;have hZg:=Blk.new wi 56 #[.int .i64 0,.int .i64 0,.int .i64 0,.int .i64 0,.int .i64 0];have hbg:=Below.allocS hbi (.cells #[.int .i64 0,.int .i64 0,.int .i64 0,.int .i64 0,.int .i64 0] 56);have hltg:wi.heap.size<(wi.alloc (.cells #[.int .i64 0,.int .i64 0,.int .i64 0,.int .i64 0,.int .i64 0] 56)).heap.size:=(by simp);have hleg:=hbi.size;generalize wi.alloc (.cells #[.int .i64 0,.int .i64 0,.int .i64 0,.int .i64 0,.int .i64 0] 56)=wg at *) | (refine wpList_store70 rfl _ _ rfl wi.heap.size g rfl rfl hZg rfl ?_;intro wh hZh th;have hbh:Below w3.heap.size w3 wh:=hbg.trans (th.below hleg);have fz:=hZh.fz 1;have cx1:=cE1 hZh;have hZk:Blk (wh.setCell ⟨wi.heap.size,1,none⟩ (.int .i64 p)) wi.heap.size 56 (cellsE ⟨g.id,p,g.wt,g.me,g.aw⟩):=hZh.set 1 _;have hbk:Below w3.heap.size w3 (wh.setCell ⟨wi.heap.size,1,none⟩ (.int .i64 p)):=hbh.trans ((Turn.setCell wh wi.heap.size 1 _).below hleg)) | (refine wpList_load70 rfl _ rfl wi.heap.size ⟨g.id,p,g.wt,g.me,g.aw⟩ rfl hZk ?_) | (go_at_call 90;refine(HR.out.set _ ⟨g.id,p,g.wt,g.me,g.aw⟩ _ hj (by assumption)).mono ?_;rintro e wi ⟨⟨a',c',rfl,hr9⟩,hbi⟩) | (refine wpList_store30 rfl _ _ rfl (w.heap.size+1) r m (.slice a' L.length c') rfl rfl (HZB.out _ (by assumption)) rfl rfl ?_;intro wz hZ9 t9))
    refine bodyPost_ret (resultsF_ct rfl _ wz (w.heap.size+1) r m _ _ rfl rfl hZ9) rfl ?_
    rw[HC.out,HN.out]
    exact⟨⟨_,rfl,a',c',by rw[List.length_set],by rw[List.length_set];exact hr9.turn t9 (HZB.out _ hbi) (by decide)⟩,(HFin.out _ hbi).trans (t9.below (by omega))⟩
   have hn2:=beq_ff hn
   by_cases h32:fanI L p=32
   ·have h322:=beq_tt h32
    have HC:=Lib.hid (HCF.out hn h32)
    have HN:=Lib.hid (HNF.out HC.out)
    clear h32
    go_wp2_with (first | (go_at_call 84;refine(HR.out.fan _ _ HQ.out (by assumption)).mono ?_;rintro e wi ⟨rfl,hbi⟩;have hX2:=HXB.out wi hbi;have f0:=cF0 hX2;have f1:=cF1 hX2;have f2:=cF2 hX2;clear hX2) | (refine wpList_load30 rfl _ rfl w.heap.size r m (.slice (some ⟨b,0,none⟩) L.length c) rfl (HXB.out _ (by assumption)) ?_) | (refine wpList_store30 rfl _ _ rfl (w.heap.size+1) r m (.slice (some ⟨b,0,none⟩) L.length c) rfl rfl (HZB.out _ (by assumption)) rfl rfl ?_;intro wz hZ9 t9))
    refine bodyPost_ret (resultsF_ct rfl _ wz (w.heap.size+1) r m (.slice (some ⟨b,0,none⟩) L.length c) _ rfl rfl hZ9) rfl ?_
    rw[HC.out,HN.out]
    exact⟨⟨_,rfl,some ⟨b,0,none⟩,c,rfl,(HR.out.row _ hbi).turn t9 (HZB.out _ hbi) (by decide)⟩,(HFin.out _ hbi).trans (t9.below (by omega))⟩
   have h322:=beq_ff h32
   have HC:=Lib.hid (HCG.out (Or.inr h32))
   have HN:=Lib.hid (HNG.out HC.out)
   clear h32
   go_wp2_with (first | (go_at_call 84;refine(HR.out.fan _ _ HQ.out (by assumption)).mono ?_;rintro e wi ⟨rfl,hbi⟩;have hX2:=HXB.out wi hbi;have f0:=cF0 hX2;have f1:=cF1 hX2;have f2:=cF2 hX2;clear hX2) | (refine wpList_load30 rfl _ rfl w.heap.size r m (.slice (some ⟨b,0,none⟩) L.length c) rfl (HXB.out _ (by assumption)) ?_) | (refine wpList_load_mid rfl 56 _ rfl b (j*5) rfl _ _ (HCL.out _ (by assumption)).2 Tryz.underlying56 rfl Tryz.info56 ?_) | (refine wpList_alloc70 rfl rfl ?_;have hZg:=Blk.new wi 56 #[.int .i64 0,.int .i64 0,.int .i64 0,.int .i64 0,.int .i64 0];have hbg:=Below.allocS hbi (.cells #[.int .i64 0,.int .i64 0,.int .i64 0,.int .i64 0,.int .i64 0] 56);have hltg:wi.heap.size<(wi.alloc (.cells #[.int .i64 0,.int .i64 0,.int .i64 0,.int .i64 0,.int .i64 0] 56)).heap.size:=(by simp);have hleg:=hbi.size;generalize wi.alloc (.cells #[.int .i64 0,.int .i64 0,.int .i64 0,.int .i64 0,.int .i64 0] 56)=wg at *) | (refine wpList_store70 rfl _ _ rfl wi.heap.size g rfl rfl hZg rfl ?_;intro wh hZh th;have hbh:Below w3.heap.size w3 wh:=hbg.trans (th.below hleg);have fz:=hZh.fz 1;have cx1:=cE1 hZh;have hZk:Blk (wh.setCell ⟨wi.heap.size,1,none⟩ (.int .i64 p)) wi.heap.size 56 (cellsE ⟨g.id,p,g.wt,g.me,g.aw⟩):=hZh.set 1 _;have hbk:Below w3.heap.size w3 (wh.setCell ⟨wi.heap.size,1,none⟩ (.int .i64 p)):=hbh.trans ((Turn.setCell wh wi.heap.size 1 _).below hleg)) | (refine wpList_load70 rfl _ rfl wi.heap.size ⟨g.id,p,g.wt,g.me,g.aw⟩ rfl hZk ?_) | (go_at_call 90;refine(HR.out.set _ ⟨g.id,p,g.wt,g.me,g.aw⟩ _ hj (by assumption)).mono ?_;rintro e wi ⟨⟨a',c',rfl,hr9⟩,hbi⟩) | (refine wpList_store30 rfl _ _ rfl (w.heap.size+1) r m (.slice a' L.length c') rfl rfl (HZB.out _ (by assumption)) rfl rfl ?_;intro wz hZ9 t9))
   refine bodyPost_ret (resultsF_ct rfl _ wz (w.heap.size+1) r m _ _ rfl rfl hZ9) rfl ?_
   rw[HC.out,HN.out]
   exact⟨⟨_,rfl,a',c',by rw[List.length_set],by rw[List.length_set];exact hr9.turn t9 (HZB.out _ hbi) (by decide)⟩,(HFin.out _ hbi).trans (t9.below (by omega))⟩
theorem rMove_any (x p:Int) (m0 k:Int) (w:World) (h:RowG w (.slice a L.length c) L) (ok:Ok L m0 k):
  Calls Tryz.prog 48 #[.agg (cellsF r m (.slice a L.length c)),.int .i64 x,.int .i64 p] w fun e w'=>(∃v,e= .returned (.tuple #[v,.int .i64 (moveC L x p)])∧DocF w' v r m (moveN L x p))∧Below w.heap.size w w':=by
 cases hh:has L x with
 | false=>exact rMove_noX r m a c L x p m0 k w h ok hh
 | true=>
 cases hq:has L p with
 | false=>exact rMove_noP r m a c L x p m0 k w h ok hh hq
 | true=>
 rcases ok.pa hh with hp1 | hp1
 ·exact rMove_root r m a c L x p m0 k w h ok hh hq hp1
 have hp:0≤(gr L x).pa:=by have:=ok.id hp1;omega
 by_cases ht:topI L x=topI L p
 case neg=>exact rMove_domain r m a c L x p m0 k w h ok hh hq hp ht
 cases hbe:belowB L p x with
 | true=>exact rMove_loop r m a c L x p m0 k w h ok hh hq hp ht hbe
 | false=>
 cases hde:deepB L x p with
 | true=>exact rMove_deep r m a c L x p m0 k w h ok hh hq hp ht hbe hde
 | false=>
 exact rMove_three r m a c L x p m0 k w h ok hh hq hp ht hbe hde
end
end Go.Proofs.YtohifgjeebhijaaGreatDoor
namespace Go.Proofs.YtohifgjeebhijaaGreatDoor
open Go.RowKit Go.Maps
theorem Fo.turn {w w':World} {fp tp tg mp d t:Nat} {bl:Int→Nat} {L:List Gr} {l:List Int} {m:Int} {cs:Array Value} (h:Fo w fp tp tg mp bl L l m) (ht:Turn d w w') (hd:Blk w d t cs) (hne:t∉[106,144,3,118]):Fo w' fp tp tg mp bl L l m:=by
 have ne: ∀(k:Nat) (c:Array Value) (t':Nat),w.heap[k]? =some (Obj.cells c t' (0,0))→t'∈[106,144,3,118]→w'.heap[k]? =w.heap[k]? :=fun k c t' hk hm=>ht.block k (ne_cells hk hd (by rintro rfl;exact hne hm))
 refine⟨(ne _ _ _ h.ptr (by decide)).trans h.ptr,h.tab.same (ne _ _ _ h.tab.ptr (by decide)) (ne _ _ _ h.tab.row (by decide)),?_,fun x hx=>(ne _ _ _ (h.grp x hx) (by decide)).trans (h.grp x hx),h.inj⟩
 obtain⟨n,hn,hm⟩:=h.mpp
 exact⟨n,hn,hm.same (ht.block mp (fun e=>ne_map hd hm e.symm))⟩
theorem IsF.turn {w w':World} {B fp d t:Nat} {L:List Gr} {l:List Int} {m k:Int} {cs:Array Value} (h:IsF w B fp L l m k) (ht:Turn d w w') (hd:Blk w d t cs) (hne:t∉[106,144,3,118]):IsF w' B fp L l m k:=by
 obtain⟨tp,tg,mp,bl,h1,h2⟩:=h.fo
 exact⟨⟨tp,tg,mp,bl,h1.turn ht hd hne,h2⟩,h.tok,h.ids,h.ok⟩
theorem Wr.turnN {ts:List Nat} {B b:Nat} {w w1 w2:World} (h:Wr ts B w w1) (t:Turn b w1 w2) (hb:w.heap.size≤b):Wr ts B w w2:=
 ⟨t.os.trans h.os,t.tape.trans h.tape,t.output.trans h.output,by rw[t.size];exact h.size,fun k hk hs=>(t.block k (by omega)).trans (h.low k hk hs),fun k c ty z hc hts=>(t.block k (by have:=(Array.getElem?_eq_some_iff.1 hc).1;omega)).trans (h.typ k c ty z hc hts)⟩
theorem IsF.len {w:World} {B fp:Nat} {L:List Gr} {l:List Int} {m k:Int} (h:IsF w B fp L l m k):L.length≤l.length:=(slots_free h.ok h.ids).2
end Go.Proofs.YtohifgjeebhijaaGreatDoor
namespace Go.Proofs.YtohifgjeebhijaaGreatDoor
set_option maxRecDepth 100000
set_option maxHeartbeats 4000000
open Go.RowKit Go.Maps
def actL (L:List Gr) (R:Nat) (m q g n:Int):List Gr:=
 if q.tmod 9=0 then rootN L R m else if q.tmod 9=1 then addN L R m g n else if q.tmod 9=2 then dropN L g else if q.tmod 9=3 then moveN L g n else if q.tmod 9=4 then weightN L g n
 else if q.tmod 9=5 then countN L g 1 0 else if q.tmod 9=6 then countN L g (-1) 0 else if q.tmod 9=7 then countN L g 0 1 else countN L g 0 (-1)
def actM (L:List Gr) (R:Nat) (m q g n:Int):Int:=
 if q.tmod 9=0 then lastI (rootC L R) m else if q.tmod 9=1 then lastI (addC L R g n) m else m
theorem pre3 (R:Nat) (m:Int) (a:Option Addr) (c:Nat) (L:List Gr) (q g n:Int) (B:Nat) (w:World):
  (Blk ((((w.alloc (.cells #[.int .i64 (R:Int),.int .i64 m,.slice a L.length c] 29)).alloc (.cells #[.int .u8 q,.int .i64 g,.int .i64 n] 70)).alloc (.cells #[.int .i64 0,.int .i64 0,.slice none 0 0] 29)).alloc (.cells #[.int .i64 0,.int .i64 0,.slice none 0 0] 29)) w.heap.size 29 (cellsF (R:Int) m (.slice a L.length c)))∧(Blk ((((w.alloc (.cells #[.int .i64 (R:Int),.int .i64 m,.slice a L.length c] 29)).alloc (.cells #[.int .u8 q,.int .i64 g,.int .i64 n] 70)).alloc (.cells #[.int .i64 0,.int .i64 0,.slice none 0 0] 29)).alloc (.cells #[.int .i64 0,.int .i64 0,.slice none 0 0] 29)) (w.heap.size+1) 70 #[.int .u8 q,.int .i64 g,.int .i64 n])∧(Blk ((((w.alloc (.cells #[.int .i64 (R:Int),.int .i64 m,.slice a L.length c] 29)).alloc (.cells #[.int .u8 q,.int .i64 g,.int .i64 n] 70)).alloc (.cells #[.int .i64 0,.int .i64 0,.slice none 0 0] 29)).alloc (.cells #[.int .i64 0,.int .i64 0,.slice none 0 0] 29)) (w.heap.size+2) 29 (cellsF 0 0 (.slice none 0 0)))∧(Blk ((((w.alloc (.cells #[.int .i64 (R:Int),.int .i64 m,.slice a L.length c] 29)).alloc (.cells #[.int .u8 q,.int .i64 g,.int .i64 n] 70)).alloc (.cells #[.int .i64 0,.int .i64 0,.slice none 0 0] 29)).alloc (.cells #[.int .i64 0,.int .i64 0,.slice none 0 0] 29)) (((w.alloc (.cells #[.int .i64 (R:Int),.int .i64 m,.slice a L.length c] 29)).alloc (.cells #[.int .u8 q,.int .i64 g,.int .i64 n] 70)).alloc (.cells #[.int .i64 0,.int .i64 0,.slice none 0 0] 29)).heap.size 29 (cellsF 0 0 (.slice none 0 0)))∧(Hid ((((w.alloc (.cells #[.int .i64 (R:Int),.int .i64 m,.slice a L.length c] 29)).alloc (.cells #[.int .u8 q,.int .i64 g,.int .i64 n] 70)).alloc (.cells #[.int .i64 0,.int .i64 0,.slice none 0 0] 29)).heap.size=w.heap.size+3))∧(Below w.heap.size w ((((w.alloc (.cells #[.int .i64 (R:Int),.int .i64 m,.slice a L.length c] 29)).alloc (.cells #[.int .u8 q,.int .i64 g,.int .i64 n] 70)).alloc (.cells #[.int .i64 0,.int .i64 0,.slice none 0 0] 29)).alloc (.cells #[.int .i64 0,.int .i64 0,.slice none 0 0] 29)))∧(w.heap.size+4≤((((w.alloc (.cells #[.int .i64 (R:Int),.int .i64 m,.slice a L.length c] 29)).alloc (.cells #[.int .u8 q,.int .i64 g,.int .i64 n] 70)).alloc (.cells #[.int .i64 0,.int .i64 0,.slice none 0 0] 29)).alloc (.cells #[.int .i64 0,.int .i64 0,.slice none 0 0] 29)).heap.size)∧(Blk (((w.alloc (.cells #[.int .i64 (R:Int),.int .i64 m,.slice a L.length c] 29)).alloc (.cells #[.int .u8 q,.int .i64 g,.int .i64 n] 70)).alloc (.cells #[.int .i64 0,.int .i64 0,.slice none 0 0] 29)) w.heap.size 29 (cellsF (R:Int) m (.slice a L.length c)))∧(Hid (Wr [118,144,3] B w ((((w.alloc (.cells #[.int .i64 (R:Int),.int .i64 m,.slice a L.length c] 29)).alloc (.cells #[.int .u8 q,.int .i64 g,.int .i64 n] 70)).alloc (.cells #[.int .i64 0,.int .i64 0,.slice none 0 0] 29)).alloc (.cells #[.int .i64 0,.int .i64 0,.slice none 0 0] 29)))):=by
 have hx:Blk ((((w.alloc (.cells #[.int .i64 (R:Int),.int .i64 m,.slice a L.length c] 29)).alloc (.cells #[.int .u8 q,.int .i64 g,.int .i64 n] 70)).alloc (.cells #[.int .i64 0,.int .i64 0,.slice none 0 0] 29)).alloc (.cells #[.int .i64 0,.int .i64 0,.slice none 0 0] 29)) w.heap.size 29 (cellsF (R:Int) m (.slice a L.length c)):=(((Blk.new w 29 _).alloc _).alloc _).alloc _
 have hA:Blk ((((w.alloc (.cells #[.int .i64 (R:Int),.int .i64 m,.slice a L.length c] 29)).alloc (.cells #[.int .u8 q,.int .i64 g,.int .i64 n] 70)).alloc (.cells #[.int .i64 0,.int .i64 0,.slice none 0 0] 29)).alloc (.cells #[.int .i64 0,.int .i64 0,.slice none 0 0] 29)) (w.heap.size+1) 70 #[.int .u8 q,.int .i64 g,.int .i64 n]:=by
  have:=((Blk.new (w.alloc (.cells #[.int .i64 (R:Int),.int .i64 m,.slice a L.length c] 29)) 70 #[.int .u8 q,.int .i64 g,.int .i64 n]).alloc (.cells #[.int .i64 0,.int .i64 0,.slice none 0 0] 29)).alloc (.cells #[.int .i64 0,.int .i64 0,.slice none 0 0] 29)
  have e:(w.alloc (.cells #[.int .i64 (R:Int),.int .i64 m,.slice a L.length c] 29)).heap.size=w.heap.size+1:=by simp
  rw[e] at this
  exact this
 have hZ:Blk ((((w.alloc (.cells #[.int .i64 (R:Int),.int .i64 m,.slice a L.length c] 29)).alloc (.cells #[.int .u8 q,.int .i64 g,.int .i64 n] 70)).alloc (.cells #[.int .i64 0,.int .i64 0,.slice none 0 0] 29)).alloc (.cells #[.int .i64 0,.int .i64 0,.slice none 0 0] 29)) (w.heap.size+2) 29 (cellsF 0 0 (.slice none 0 0)):=by
  have:=(Blk.new ((w.alloc (.cells #[.int .i64 (R:Int),.int .i64 m,.slice a L.length c] 29)).alloc (.cells #[.int .u8 q,.int .i64 g,.int .i64 n] 70)) 29 (cellsF 0 0 (.slice none 0 0))).alloc (.cells #[.int .i64 0,.int .i64 0,.slice none 0 0] 29)
  have e:((w.alloc (.cells #[.int .i64 (R:Int),.int .i64 m,.slice a L.length c] 29)).alloc (.cells #[.int .u8 q,.int .i64 g,.int .i64 n] 70)).heap.size=w.heap.size+2:=by simp
  rw[e] at this
  exact this
 have hX:Blk ((((w.alloc (.cells #[.int .i64 (R:Int),.int .i64 m,.slice a L.length c] 29)).alloc (.cells #[.int .u8 q,.int .i64 g,.int .i64 n] 70)).alloc (.cells #[.int .i64 0,.int .i64 0,.slice none 0 0] 29)).alloc (.cells #[.int .i64 0,.int .i64 0,.slice none 0 0] 29)) (((w.alloc (.cells #[.int .i64 (R:Int),.int .i64 m,.slice a L.length c] 29)).alloc (.cells #[.int .u8 q,.int .i64 g,.int .i64 n] 70)).alloc (.cells #[.int .i64 0,.int .i64 0,.slice none 0 0] 29)).heap.size 29 (cellsF 0 0 (.slice none 0 0)):=Blk.new (((w.alloc (.cells #[.int .i64 (R:Int),.int .i64 m,.slice a L.length c] 29)).alloc (.cells #[.int .u8 q,.int .i64 g,.int .i64 n] 70)).alloc (.cells #[.int .i64 0,.int .i64 0,.slice none 0 0] 29)) 29 (cellsF 0 0 (.slice none 0 0))
 have HE:Hid ((((w.alloc (.cells #[.int .i64 (R:Int),.int .i64 m,.slice a L.length c] 29)).alloc (.cells #[.int .u8 q,.int .i64 g,.int .i64 n] 70)).alloc (.cells #[.int .i64 0,.int .i64 0,.slice none 0 0] 29)).heap.size=w.heap.size+3):=Lib.hid (by simp)
 have hb:Below w.heap.size w ((((w.alloc (.cells #[.int .i64 (R:Int),.int .i64 m,.slice a L.length c] 29)).alloc (.cells #[.int .u8 q,.int .i64 g,.int .i64 n] 70)).alloc (.cells #[.int .i64 0,.int .i64 0,.slice none 0 0] 29)).alloc (.cells #[.int .i64 0,.int .i64 0,.slice none 0 0] 29)):=((((Below.refl _ w).alloc (Nat.le_refl _) _).alloc (by simp) _).alloc (by simp;omega) _).alloc (by simp;omega) _
 have hsz:w.heap.size+4≤((((w.alloc (.cells #[.int .i64 (R:Int),.int .i64 m,.slice a L.length c] 29)).alloc (.cells #[.int .u8 q,.int .i64 g,.int .i64 n] 70)).alloc (.cells #[.int .i64 0,.int .i64 0,.slice none 0 0] 29)).alloc (.cells #[.int .i64 0,.int .i64 0,.slice none 0 0] 29)).heap.size:=by simp
 have hx0:Blk (((w.alloc (.cells #[.int .i64 (R:Int),.int .i64 m,.slice a L.length c] 29)).alloc (.cells #[.int .u8 q,.int .i64 g,.int .i64 n] 70)).alloc (.cells #[.int .i64 0,.int .i64 0,.slice none 0 0] 29)) w.heap.size 29 (cellsF (R:Int) m (.slice a L.length c)):=((Blk.new w 29 _).alloc _).alloc _
 have HW:Hid (Wr [118,144,3] B w ((((w.alloc (.cells #[.int .i64 (R:Int),.int .i64 m,.slice a L.length c] 29)).alloc (.cells #[.int .u8 q,.int .i64 g,.int .i64 n] 70)).alloc (.cells #[.int .i64 0,.int .i64 0,.slice none 0 0] 29)).alloc (.cells #[.int .i64 0,.int .i64 0,.slice none 0 0] 29))):=Lib.hid (Wr.of_below hb)
 exact⟨hx,hA,hZ,hX,HE,hb,hsz,hx0,HW⟩
section
variable (fp B R:Nat) (a:Option Addr) (c:Nat) (L:List Gr) (l:List Int) (m k:Int)
theorem do_0 (q g n:Int) (w:World) (hF:IsF w B fp L l m k) (hr:RowG w (.slice a L.length c) L) (hk:k<1000) (hB:B≤w.heap.size) (hR:l.length=R) (hq:q.tmod 9=0):
  Calls Tryz.prog 24 #[.pointer (some ⟨fp,0,none⟩),.agg (cellsF (R:Int) m (.slice a L.length c)),.agg #[.int .u8 q,.int .i64 g,.int .i64 n]] w fun e w'=>(∃v',e= .returned (.tuple #[v',.bool true])∧DocF w' v' (R:Int) (lastI (rootC L l.length) m) (rootN L l.length m))∧(∃l',l'.length=l.length∧IsF w' B fp (rootN L l.length m) l' (lastI (rootC L l.length) m) (k+1))∧Wr [118,144,3] B w w':=by
 have HP:Hid (∀W,IsF W B fp L l m k→B≤W.heap.size→Calls Tryz.prog 25 #[.pointer (some ⟨fp,0,none⟩)] W fun e w'=>e= .returned (.tuple #[.int .i64 (nextI (rootC L l.length) m),.int .i64 (rootC L l.length)])∧(∃l',l'.length=l.length∧IsF w' B fp (rootN L l.length m) l' (lastI (rootC L l.length) m) (k+1))∧Wr [118,144,3] B W w'):=Lib.hid fun W hW hB=>by
  refine(Root_any fp B L l m k W hW hk hB).mono ?_
  rintro e w' ⟨rfl,hF,hWr⟩;exact⟨rfl,hF,hWr⟩
 have ok:=hF.ok
 have hm:0≤m∧m<1000:=by have:=ok.m0;have:=ok.mle;omega
 have HD:Hid (∀W,RowG W (.slice a L.length c) L→Calls Tryz.prog 42 #[.agg #[.int .i64 (R:Int),.int .i64 m,.slice a L.length c]] W fun e w'=>(∃a' c',e= .returned (.tuple #[.agg #[.int .i64 (R:Int),.int .i64 (lastI (rootC L l.length) m),.slice a' (rootN L l.length m).length c'],.int .i64 (nextI (rootC L l.length) m),.int .i64 (rootC L l.length)])∧RowG w' (.slice a' (rootN L l.length m).length c') (rootN L l.length m))∧Below W.heap.size W w'):=Lib.hid fun W hr=>by
  refine(rRootN_any (R:Int) m a c L l.length (by rw[hR]) hm m k W hr ok).mono ?_
  rintro e w' ⟨⟨v,rfl,a',c',rfl,h'⟩,hb'⟩
  exact⟨⟨a',c',rfl,h'⟩,hb'⟩
 clear ok hm hR
 obtain⟨hx,hA,hZ,hX,HE,hb,hsz,hx0,HW⟩:=pre3 R m a c L q g n B w
 replace hF:=hF.below hb
 replace hr:=hr.below hb
 generalize nextI (rootC L l.length) m=ni at *
 generalize lastI (rootC L l.length) m=m2 at *
 generalize rootC L l.length=cd at *
 generalize hL2:rootN L l.length m=L2 at *
 clear hL2
 unfold cellsF
 go_enter Tryz.func24,Tryz.ntmps24
 go_wp2_with (first | (refine wpList_alloc30 rfl rfl ?_) | (refine wpList_load30 rfl _ rfl w.heap.size (R:Int) m (.slice a L.length c) rfl hx0 ?_) | (refine wpList_store30 rfl _ _ rfl _ (R:Int) m (.slice a L.length c) rfl rfl hX rfl rfl ?_;clear hx0;rw[HE.out] at hX;rw[HE.out];clear HE;generalize ((((w.alloc (.cells #[.int .i64 (R:Int),.int .i64 m,.slice a L.length c] 29)).alloc (.cells #[.int .u8 q,.int .i64 g,.int .i64 n] 70)).alloc (.cells #[.int .i64 0,.int .i64 0,.slice none 0 0] 29)).alloc (.cells #[.int .i64 0,.int .i64 0,.slice none 0 0] 29))=w1 at *;intro w2 hX2 t2;replace hx:=hx.turn t2 (by omega);replace hA:=hA.turn t2 (by omega);replace hZ:=hZ.turn t2 (by omega);replace hF:=hF.turn t2 hX (by decide);replace hr:=hr.turn t2 hX (by decide);replace HW:=Lib.hid (HW.out.turnN t2 (by omega));clear hX hb;have hs2:=t2.size;clear t2;have hA0:=hA.at 0;have hA1:=hA.at 1;have hA2:=hA.at 2;dsimp at hA0 hA1 hA2) | (go_at_call 25;refine(HP.out _ hF (by omega)).mono ?_;rintro e w3 ⟨rfl,hF3,hw3⟩;replace hx:=hx.wr hw3 (by decide);replace hA:=hA.wr hw3 (by decide);replace hZ:=hZ.wr hw3 (by decide);replace hX2:=hX2.wr hw3 (by decide);replace hr:=hr.wr hw3 (by decide);replace HW:=Lib.hid (HW.out.trans hw3);clear hF;have hs3:=hw3.size;clear hw3 hA0 hA1 hA2;have hA0:=hA.at 0;have hA1:=hA.at 1;have hA2:=hA.at 2;dsimp at hA0 hA1 hA2) | (refine wpList_load30 rfl _ rfl w.heap.size (R:Int) m (.slice a L.length c) rfl hx ?_) | (go_at_call 42;refine(HD.out _ hr).mono ?_;rintro e w4 ⟨⟨a4,c4,rfl,hr4⟩,hb4⟩;obtain⟨l3,hl3,hF3'⟩:=hF3;have hF4:=hF3'.below hb4;replace hZ:=hZ.below hb4;replace hX2:=hX2.below hb4;replace HW:=Lib.hid (HW.out.trans (Wr.of_below hb4));have hs4:=hb4.size;have HL3:=Lib.hid hl3;clear hr hF3' hb4 hx hA hA0 hA1 hA2 hl3) | (refine wpList_store30 rfl _ _ rfl (w.heap.size+3) (R:Int) m2 (.slice a4 L2.length c4) rfl rfl hX2 rfl rfl ?_;intro w5 hX5 t5;have hF5:=hF4.turn t5 hX2 (by decide);have hr5:=hr4.turn t5 hX2 (by decide);replace hZ:=hZ.turn t5 (by omega);replace HW:=Lib.hid (HW.out.turnN t5 (by omega));have hs5:=t5.size;clear hF4 hr4 hX2 t5) | (refine wpList_load30 rfl _ rfl (w.heap.size+3) (R:Int) m2 (.slice a4 L2.length c4) rfl hX5 ?_) | (refine wpList_store30 rfl _ _ rfl (w.heap.size+2) (R:Int) m2 (.slice a4 L2.length c4) rfl rfl hZ rfl rfl ?_;intro w6 hZ6 t6))
 refine bodyPost_ret (resultsF_ct rfl _ w6 (w.heap.size+2) (R:Int) m2 _ (.bool true) rfl rfl hZ6) rfl ?_
 exact⟨⟨_,rfl,a4,c4,rfl,hr5.turn t6 hZ (by decide)⟩,⟨l3,HL3.out,hF5.turn t6 hZ (by decide)⟩,HW.out.turnN t6 (by omega)⟩
theorem do_1 (q g n:Int) (w:World) (hF:IsF w B fp L l m k) (hr:RowG w (.slice a L.length c) L) (hk:k<1000) (hg:I64 g) (hB:B≤w.heap.size) (hR:l.length=R) (hq:q.tmod 9=1):
  Calls Tryz.prog 24 #[.pointer (some ⟨fp,0,none⟩),.agg (cellsF (R:Int) m (.slice a L.length c)),.agg #[.int .u8 q,.int .i64 g,.int .i64 n]] w fun e w'=>(∃v',e= .returned (.tuple #[v',.bool true])∧DocF w' v' (R:Int) (lastI (addC L l.length g n) m) (addN L l.length m g n))∧(∃l',l'.length=l.length∧IsF w' B fp (addN L l.length m g n) l' (lastI (addC L l.length g n) m) (k+1))∧Wr [118,144,3] B w w':=by
 have HP:Hid (∀W,IsF W B fp L l m k→B≤W.heap.size→Calls Tryz.prog 43 #[.pointer (some ⟨fp,0,none⟩),.int .i64 g,.int .i64 n] W fun e w'=>e= .returned (.tuple #[.int .i64 (nextI (addC L l.length g n) m),.int .i64 (addC L l.length g n)])∧(∃l',l'.length=l.length∧IsF w' B fp (addN L l.length m g n) l' (lastI (addC L l.length g n) m) (k+1))∧Wr [118,144,3] B W w'):=Lib.hid fun W hW hB=>by
  refine(AddF_any fp B L l m k g n W hW hg hk hB).mono ?_
  rintro e w' ⟨rfl,hF,hWr⟩;exact⟨rfl,hF,hWr⟩
 have ok:=hF.ok
 have hm:0≤m∧m<1000:=by have:=ok.m0;have:=ok.mle;omega
 have HD:Hid (∀W,RowG W (.slice a L.length c) L→Calls Tryz.prog 44 #[.agg #[.int .i64 (R:Int),.int .i64 m,.slice a L.length c],.int .i64 g,.int .i64 n] W fun e w'=>(∃a' c',e= .returned (.tuple #[.agg #[.int .i64 (R:Int),.int .i64 (lastI (addC L l.length g n) m),.slice a' (addN L l.length m g n).length c'],.int .i64 (nextI (addC L l.length g n) m),.int .i64 (addC L l.length g n)])∧RowG w' (.slice a' (addN L l.length m g n).length c') (addN L l.length m g n))∧Below W.heap.size W w'):=Lib.hid fun W hr=>by
  refine(rAdd_any (R:Int) m a c L g n l.length (by rw[hR]) hm m k W hr ok).mono ?_
  rintro e w' ⟨⟨v,rfl,a',c',rfl,h'⟩,hb'⟩
  exact⟨⟨a',c',rfl,h'⟩,hb'⟩
 clear ok hm hR
 obtain⟨hx,hA,hZ,hX,HE,hb,hsz,hx0,HW⟩:=pre3 R m a c L q g n B w
 replace hF:=hF.below hb
 replace hr:=hr.below hb
 generalize nextI (addC L l.length g n) m=ni at *
 generalize lastI (addC L l.length g n) m=m2 at *
 generalize addC L l.length g n=cd at *
 generalize hL2:addN L l.length m g n=L2 at *
 clear hL2
 unfold cellsF
 go_enter Tryz.func24,Tryz.ntmps24
 go_wp2_with (first | (refine wpList_alloc30 rfl rfl ?_) | (refine wpList_load30 rfl _ rfl w.heap.size (R:Int) m (.slice a L.length c) rfl hx0 ?_) | (refine wpList_store30 rfl _ _ rfl _ (R:Int) m (.slice a L.length c) rfl rfl hX rfl rfl ?_;clear hx0;rw[HE.out] at hX;rw[HE.out];clear HE;generalize ((((w.alloc (.cells #[.int .i64 (R:Int),.int .i64 m,.slice a L.length c] 29)).alloc (.cells #[.int .u8 q,.int .i64 g,.int .i64 n] 70)).alloc (.cells #[.int .i64 0,.int .i64 0,.slice none 0 0] 29)).alloc (.cells #[.int .i64 0,.int .i64 0,.slice none 0 0] 29))=w1 at *;intro w2 hX2 t2;replace hx:=hx.turn t2 (by omega);replace hA:=hA.turn t2 (by omega);replace hZ:=hZ.turn t2 (by omega);replace hF:=hF.turn t2 hX (by decide);replace hr:=hr.turn t2 hX (by decide);replace HW:=Lib.hid (HW.out.turnN t2 (by omega));clear hX hb;have hs2:=t2.size;clear t2;have hA0:=hA.at 0;have hA1:=hA.at 1;have hA2:=hA.at 2;dsimp at hA0 hA1 hA2) | (go_at_call 43;refine(HP.out _ hF (by omega)).mono ?_;rintro e w3 ⟨rfl,hF3,hw3⟩;replace hx:=hx.wr hw3 (by decide);replace hA:=hA.wr hw3 (by decide);replace hZ:=hZ.wr hw3 (by decide);replace hX2:=hX2.wr hw3 (by decide);replace hr:=hr.wr hw3 (by decide);replace HW:=Lib.hid (HW.out.trans hw3);clear hF;have hs3:=hw3.size;clear hw3 hA0 hA1 hA2;have hA0:=hA.at 0;have hA1:=hA.at 1;have hA2:=hA.at 2;dsimp at hA0 hA1 hA2) | (refine wpList_load30 rfl _ rfl w.heap.size (R:Int) m (.slice a L.length c) rfl hx ?_) | (go_at_call 44;refine(HD.out _ hr).mono ?_;rintro e w4 ⟨⟨a4,c4,rfl,hr4⟩,hb4⟩;obtain⟨l3,hl3,hF3'⟩:=hF3;have hF4:=hF3'.below hb4;replace hZ:=hZ.below hb4;replace hX2:=hX2.below hb4;replace HW:=Lib.hid (HW.out.trans (Wr.of_below hb4));have hs4:=hb4.size;have HL3:=Lib.hid hl3;clear hr hF3' hb4 hx hA hA0 hA1 hA2 hl3) | (refine wpList_store30 rfl _ _ rfl (w.heap.size+3) (R:Int) m2 (.slice a4 L2.length c4) rfl rfl hX2 rfl rfl ?_;intro w5 hX5 t5;have hF5:=hF4.turn t5 hX2 (by decide);have hr5:=hr4.turn t5 hX2 (by decide);replace hZ:=hZ.turn t5 (by omega);replace HW:=Lib.hid (HW.out.turnN t5 (by omega));have hs5:=t5.size;clear hF4 hr4 hX2 t5) | (refine wpList_load30 rfl _ rfl (w.heap.size+3) (R:Int) m2 (.slice a4 L2.length c4) rfl hX5 ?_) | (refine wpList_store30 rfl _ _ rfl (w.heap.size+2) (R:Int) m2 (.slice a4 L2.length c4) rfl rfl hZ rfl rfl ?_;intro w6 hZ6 t6))
 refine bodyPost_ret (resultsF_ct rfl _ w6 (w.heap.size+2) (R:Int) m2 _ (.bool true) rfl rfl hZ6) rfl ?_
 exact⟨⟨_,rfl,a4,c4,rfl,hr5.turn t6 hZ (by decide)⟩,⟨l3,HL3.out,hF5.turn t6 hZ (by decide)⟩,HW.out.turnN t6 (by omega)⟩
theorem do_2 (q g n:Int) (w:World) (hF:IsF w B fp L l m k) (hr:RowG w (.slice a L.length c) L) (hk:k<1000) (hg:I64 g) (hB:B≤w.heap.size) (hq:q.tmod 9=2):
  Calls Tryz.prog 24 #[.pointer (some ⟨fp,0,none⟩),.agg (cellsF (R:Int) m (.slice a L.length c)),.agg #[.int .u8 q,.int .i64 g,.int .i64 n]] w fun e w'=>(∃v',e= .returned (.tuple #[v',.bool true])∧DocF w' v' (R:Int) (m) (dropN L g))∧(∃l',l'.length=l.length∧IsF w' B fp (dropN L g) l' (m) (k+1))∧Wr [118,144,3] B w w':=by
 have HP:Hid (∀W,IsF W B fp L l m k→B≤W.heap.size→Calls Tryz.prog 45 #[.pointer (some ⟨fp,0,none⟩),.int .i64 g] W fun e w'=>e= .returned (.int .i64 (dropC L g))∧(∃l',l'.length=l.length∧IsF w' B fp (dropN L g) l' (m) (k+1))∧Wr [118,144,3] B W w'):=Lib.hid fun W hW hB=>by
  refine(DropF_any fp B L l m k g W hW hg hk).mono ?_
  rintro e w' ⟨rfl,hF,hWr⟩;exact⟨rfl,hF,hWr⟩
 have ok:=hF.ok
 have hm:0≤m∧m<1000:=by have:=ok.m0;have:=ok.mle;omega
 have HD:Hid (∀W,RowG W (.slice a L.length c) L→Calls Tryz.prog 46 #[.agg #[.int .i64 (R:Int),.int .i64 m,.slice a L.length c],.int .i64 g] W fun e w'=>(∃a' c',e= .returned (.tuple #[.agg #[.int .i64 (R:Int),.int .i64 (m),.slice a' (dropN L g).length c'],.int .i64 (dropC L g)])∧RowG w' (.slice a' (dropN L g).length c') (dropN L g))∧Below W.heap.size W w'):=Lib.hid fun W hr=>by
  refine(rDrop_any (R:Int) m a c L g m k W hr ok).mono ?_
  rintro e w' ⟨⟨v,rfl,a',c',rfl,h'⟩,hb'⟩
  exact⟨⟨a',c',rfl,h'⟩,hb'⟩
 clear ok hm
 obtain⟨hx,hA,hZ,hX,HE,hb,hsz,hx0,HW⟩:=pre3 R m a c L q g n B w
 replace hF:=hF.below hb
 replace hr:=hr.below hb
 generalize dropC L g=cd at *
 generalize hL2:dropN L g=L2 at *
 clear hL2
 unfold cellsF
 go_enter Tryz.func24,Tryz.ntmps24
 go_wp2_with (first | (refine wpList_alloc30 rfl rfl ?_) | (refine wpList_load30 rfl _ rfl w.heap.size (R:Int) m (.slice a L.length c) rfl hx0 ?_) | (refine wpList_store30 rfl _ _ rfl _ (R:Int) m (.slice a L.length c) rfl rfl hX rfl rfl ?_;clear hx0;rw[HE.out] at hX;rw[HE.out];clear HE;generalize ((((w.alloc (.cells #[.int .i64 (R:Int),.int .i64 m,.slice a L.length c] 29)).alloc (.cells #[.int .u8 q,.int .i64 g,.int .i64 n] 70)).alloc (.cells #[.int .i64 0,.int .i64 0,.slice none 0 0] 29)).alloc (.cells #[.int .i64 0,.int .i64 0,.slice none 0 0] 29))=w1 at *;intro w2 hX2 t2;replace hx:=hx.turn t2 (by omega);replace hA:=hA.turn t2 (by omega);replace hZ:=hZ.turn t2 (by omega);replace hF:=hF.turn t2 hX (by decide);replace hr:=hr.turn t2 hX (by decide);replace HW:=Lib.hid (HW.out.turnN t2 (by omega));clear hX hb;have hs2:=t2.size;clear t2;have hA0:=hA.at 0;have hA1:=hA.at 1;have hA2:=hA.at 2;dsimp at hA0 hA1 hA2) | (go_at_call 45;refine(HP.out _ hF (by omega)).mono ?_;rintro e w3 ⟨rfl,hF3,hw3⟩;replace hx:=hx.wr hw3 (by decide);replace hA:=hA.wr hw3 (by decide);replace hZ:=hZ.wr hw3 (by decide);replace hX2:=hX2.wr hw3 (by decide);replace hr:=hr.wr hw3 (by decide);replace HW:=Lib.hid (HW.out.trans hw3);clear hF;have hs3:=hw3.size;clear hw3 hA0 hA1 hA2;have hA0:=hA.at 0;have hA1:=hA.at 1;have hA2:=hA.at 2;dsimp at hA0 hA1 hA2) | (refine wpList_load30 rfl _ rfl w.heap.size (R:Int) m (.slice a L.length c) rfl hx ?_) | (go_at_call 46;refine(HD.out _ hr).mono ?_;rintro e w4 ⟨⟨a4,c4,rfl,hr4⟩,hb4⟩;obtain⟨l3,hl3,hF3'⟩:=hF3;have hF4:=hF3'.below hb4;replace hZ:=hZ.below hb4;replace hX2:=hX2.below hb4;replace HW:=Lib.hid (HW.out.trans (Wr.of_below hb4));have hs4:=hb4.size;have HL3:=Lib.hid hl3;clear hr hF3' hb4 hx hA hA0 hA1 hA2 hl3) | (refine wpList_store30 rfl _ _ rfl (w.heap.size+3) (R:Int) m (.slice a4 L2.length c4) rfl rfl hX2 rfl rfl ?_;intro w5 hX5 t5;have hF5:=hF4.turn t5 hX2 (by decide);have hr5:=hr4.turn t5 hX2 (by decide);replace hZ:=hZ.turn t5 (by omega);replace HW:=Lib.hid (HW.out.turnN t5 (by omega));have hs5:=t5.size;clear hF4 hr4 hX2 t5) | (refine wpList_load30 rfl _ rfl (w.heap.size+3) (R:Int) m (.slice a4 L2.length c4) rfl hX5 ?_) | (refine wpList_store30 rfl _ _ rfl (w.heap.size+2) (R:Int) m (.slice a4 L2.length c4) rfl rfl hZ rfl rfl ?_;intro w6 hZ6 t6))
 refine bodyPost_ret (resultsF_ct rfl _ w6 (w.heap.size+2) (R:Int) m _ (.bool true) rfl rfl hZ6) rfl ?_
 exact⟨⟨_,rfl,a4,c4,rfl,hr5.turn t6 hZ (by decide)⟩,⟨l3,HL3.out,hF5.turn t6 hZ (by decide)⟩,HW.out.turnN t6 (by omega)⟩
theorem do_3 (q g n:Int) (w:World) (hF:IsF w B fp L l m k) (hr:RowG w (.slice a L.length c) L) (hk:k<1000) (hg:I64 g) (hn:I64 n) (hB:B≤w.heap.size) (hq:q.tmod 9=3):
  Calls Tryz.prog 24 #[.pointer (some ⟨fp,0,none⟩),.agg (cellsF (R:Int) m (.slice a L.length c)),.agg #[.int .u8 q,.int .i64 g,.int .i64 n]] w fun e w'=>(∃v',e= .returned (.tuple #[v',.bool true])∧DocF w' v' (R:Int) (m) (moveN L g n))∧(∃l',l'.length=l.length∧IsF w' B fp (moveN L g n) l' (m) (k+1))∧Wr [118,144,3] B w w':=by
 have HP:Hid (∀W,IsF W B fp L l m k→B≤W.heap.size→Calls Tryz.prog 47 #[.pointer (some ⟨fp,0,none⟩),.int .i64 g,.int .i64 n] W fun e w'=>e= .returned (.int .i64 (moveC L g n))∧(∃l',l'.length=l.length∧IsF w' B fp (moveN L g n) l' (m) (k+1))∧Wr [118,144,3] B W w'):=Lib.hid fun W hW hB=>by
  refine(Move_any fp B L l m k g n W hW hg hn hk).mono ?_
  rintro e w' ⟨rfl,hF,hWr⟩;exact⟨rfl,⟨l,rfl,hF⟩,hWr.wide (by decide)⟩
 have ok:=hF.ok
 have hm:0≤m∧m<1000:=by have:=ok.m0;have:=ok.mle;omega
 have HD:Hid (∀W,RowG W (.slice a L.length c) L→Calls Tryz.prog 48 #[.agg #[.int .i64 (R:Int),.int .i64 m,.slice a L.length c],.int .i64 g,.int .i64 n] W fun e w'=>(∃a' c',e= .returned (.tuple #[.agg #[.int .i64 (R:Int),.int .i64 (m),.slice a' (moveN L g n).length c'],.int .i64 (moveC L g n)])∧RowG w' (.slice a' (moveN L g n).length c') (moveN L g n))∧Below W.heap.size W w'):=Lib.hid fun W hr=>by
  refine(rMove_any (R:Int) m a c L g n m k W hr ok).mono ?_
  rintro e w' ⟨⟨v,rfl,a',c',rfl,h'⟩,hb'⟩
  exact⟨⟨a',c',rfl,h'⟩,hb'⟩
 clear ok hm
 obtain⟨hx,hA,hZ,hX,HE,hb,hsz,hx0,HW⟩:=pre3 R m a c L q g n B w
 replace hF:=hF.below hb
 replace hr:=hr.below hb
 generalize moveC L g n=cd at *
 generalize hL2:moveN L g n=L2 at *
 clear hL2
 unfold cellsF
 go_enter Tryz.func24,Tryz.ntmps24
 go_wp2_with (first | (refine wpList_alloc30 rfl rfl ?_) | (refine wpList_load30 rfl _ rfl w.heap.size (R:Int) m (.slice a L.length c) rfl hx0 ?_) | (refine wpList_store30 rfl _ _ rfl _ (R:Int) m (.slice a L.length c) rfl rfl hX rfl rfl ?_;clear hx0;rw[HE.out] at hX;rw[HE.out];clear HE;generalize ((((w.alloc (.cells #[.int .i64 (R:Int),.int .i64 m,.slice a L.length c] 29)).alloc (.cells #[.int .u8 q,.int .i64 g,.int .i64 n] 70)).alloc (.cells #[.int .i64 0,.int .i64 0,.slice none 0 0] 29)).alloc (.cells #[.int .i64 0,.int .i64 0,.slice none 0 0] 29))=w1 at *;intro w2 hX2 t2;replace hx:=hx.turn t2 (by omega);replace hA:=hA.turn t2 (by omega);replace hZ:=hZ.turn t2 (by omega);replace hF:=hF.turn t2 hX (by decide);replace hr:=hr.turn t2 hX (by decide);replace HW:=Lib.hid (HW.out.turnN t2 (by omega));clear hX hb;have hs2:=t2.size;clear t2;have hA0:=hA.at 0;have hA1:=hA.at 1;have hA2:=hA.at 2;dsimp at hA0 hA1 hA2) | (go_at_call 47;refine(HP.out _ hF (by omega)).mono ?_;rintro e w3 ⟨rfl,hF3,hw3⟩;replace hx:=hx.wr hw3 (by decide);replace hA:=hA.wr hw3 (by decide);replace hZ:=hZ.wr hw3 (by decide);replace hX2:=hX2.wr hw3 (by decide);replace hr:=hr.wr hw3 (by decide);replace HW:=Lib.hid (HW.out.trans hw3);clear hF;have hs3:=hw3.size;clear hw3 hA0 hA1 hA2;have hA0:=hA.at 0;have hA1:=hA.at 1;have hA2:=hA.at 2;dsimp at hA0 hA1 hA2) | (refine wpList_load30 rfl _ rfl w.heap.size (R:Int) m (.slice a L.length c) rfl hx ?_) | (go_at_call 48;refine(HD.out _ hr).mono ?_;rintro e w4 ⟨⟨a4,c4,rfl,hr4⟩,hb4⟩;obtain⟨l3,hl3,hF3'⟩:=hF3;have hF4:=hF3'.below hb4;replace hZ:=hZ.below hb4;replace hX2:=hX2.below hb4;replace HW:=Lib.hid (HW.out.trans (Wr.of_below hb4));have hs4:=hb4.size;have HL3:=Lib.hid hl3;clear hr hF3' hb4 hx hA hA0 hA1 hA2 hl3) | (refine wpList_store30 rfl _ _ rfl (w.heap.size+3) (R:Int) m (.slice a4 L2.length c4) rfl rfl hX2 rfl rfl ?_;intro w5 hX5 t5;have hF5:=hF4.turn t5 hX2 (by decide);have hr5:=hr4.turn t5 hX2 (by decide);replace hZ:=hZ.turn t5 (by omega);replace HW:=Lib.hid (HW.out.turnN t5 (by omega));have hs5:=t5.size;clear hF4 hr4 hX2 t5) | (refine wpList_load30 rfl _ rfl (w.heap.size+3) (R:Int) m (.slice a4 L2.length c4) rfl hX5 ?_) | (refine wpList_store30 rfl _ _ rfl (w.heap.size+2) (R:Int) m (.slice a4 L2.length c4) rfl rfl hZ rfl rfl ?_;intro w6 hZ6 t6))
 refine bodyPost_ret (resultsF_ct rfl _ w6 (w.heap.size+2) (R:Int) m _ (.bool true) rfl rfl hZ6) rfl ?_
 exact⟨⟨_,rfl,a4,c4,rfl,hr5.turn t6 hZ (by decide)⟩,⟨l3,HL3.out,hF5.turn t6 hZ (by decide)⟩,HW.out.turnN t6 (by omega)⟩
theorem do_4 (q g n:Int) (w:World) (hF:IsF w B fp L l m k) (hr:RowG w (.slice a L.length c) L) (hk:k<1000) (hg:I64 g) (hB:B≤w.heap.size) (hq:q.tmod 9=4):
  Calls Tryz.prog 24 #[.pointer (some ⟨fp,0,none⟩),.agg (cellsF (R:Int) m (.slice a L.length c)),.agg #[.int .u8 q,.int .i64 g,.int .i64 n]] w fun e w'=>(∃v',e= .returned (.tuple #[v',.bool true])∧DocF w' v' (R:Int) (m) (weightN L g n))∧(∃l',l'.length=l.length∧IsF w' B fp (weightN L g n) l' (m) (k+1))∧Wr [118,144,3] B w w':=by
 have HP:Hid (∀W,IsF W B fp L l m k→B≤W.heap.size→Calls Tryz.prog 49 #[.pointer (some ⟨fp,0,none⟩),.int .i64 g,.int .i64 n] W fun e w'=>e= .returned (.int .i64 (weightC L g n))∧(∃l',l'.length=l.length∧IsF w' B fp (weightN L g n) l' (m) (k+1))∧Wr [118,144,3] B W w'):=Lib.hid fun W hW hB=>by
  refine(SetWeight_any fp B L l m k g n W hW hg hk).mono ?_
  rintro e w' ⟨rfl,hF,hWr⟩;exact⟨rfl,⟨l,rfl,hF⟩,hWr.wide (by decide)⟩
 have ok:=hF.ok
 have hm:0≤m∧m<1000:=by have:=ok.m0;have:=ok.mle;omega
 have HD:Hid (∀W,RowG W (.slice a L.length c) L→Calls Tryz.prog 50 #[.agg #[.int .i64 (R:Int),.int .i64 m,.slice a L.length c],.int .i64 g,.int .i64 n] W fun e w'=>(∃a' c',e= .returned (.tuple #[.agg #[.int .i64 (R:Int),.int .i64 (m),.slice a' (weightN L g n).length c'],.int .i64 (weightC L g n)])∧RowG w' (.slice a' (weightN L g n).length c') (weightN L g n))∧Below W.heap.size W w'):=Lib.hid fun W hr=>by
  refine(rWeight_any (R:Int) m a c L g n m k W hr ok).mono ?_
  rintro e w' ⟨⟨v,rfl,a',c',rfl,h'⟩,hb'⟩
  exact⟨⟨a',c',rfl,h'⟩,hb'⟩
 clear ok hm
 obtain⟨hx,hA,hZ,hX,HE,hb,hsz,hx0,HW⟩:=pre3 R m a c L q g n B w
 replace hF:=hF.below hb
 replace hr:=hr.below hb
 generalize weightC L g n=cd at *
 generalize hL2:weightN L g n=L2 at *
 clear hL2
 unfold cellsF
 go_enter Tryz.func24,Tryz.ntmps24
 go_wp2_with (first | (refine wpList_alloc30 rfl rfl ?_) | (refine wpList_load30 rfl _ rfl w.heap.size (R:Int) m (.slice a L.length c) rfl hx0 ?_) | (refine wpList_store30 rfl _ _ rfl _ (R:Int) m (.slice a L.length c) rfl rfl hX rfl rfl ?_;clear hx0;rw[HE.out] at hX;rw[HE.out];clear HE;generalize ((((w.alloc (.cells #[.int .i64 (R:Int),.int .i64 m,.slice a L.length c] 29)).alloc (.cells #[.int .u8 q,.int .i64 g,.int .i64 n] 70)).alloc (.cells #[.int .i64 0,.int .i64 0,.slice none 0 0] 29)).alloc (.cells #[.int .i64 0,.int .i64 0,.slice none 0 0] 29))=w1 at *;intro w2 hX2 t2;replace hx:=hx.turn t2 (by omega);replace hA:=hA.turn t2 (by omega);replace hZ:=hZ.turn t2 (by omega);replace hF:=hF.turn t2 hX (by decide);replace hr:=hr.turn t2 hX (by decide);replace HW:=Lib.hid (HW.out.turnN t2 (by omega));clear hX hb;have hs2:=t2.size;clear t2;have hA0:=hA.at 0;have hA1:=hA.at 1;have hA2:=hA.at 2;dsimp at hA0 hA1 hA2) | (go_at_call 49;refine(HP.out _ hF (by omega)).mono ?_;rintro e w3 ⟨rfl,hF3,hw3⟩;replace hx:=hx.wr hw3 (by decide);replace hA:=hA.wr hw3 (by decide);replace hZ:=hZ.wr hw3 (by decide);replace hX2:=hX2.wr hw3 (by decide);replace hr:=hr.wr hw3 (by decide);replace HW:=Lib.hid (HW.out.trans hw3);clear hF;have hs3:=hw3.size;clear hw3 hA0 hA1 hA2;have hA0:=hA.at 0;have hA1:=hA.at 1;have hA2:=hA.at 2;dsimp at hA0 hA1 hA2) | (refine wpList_load30 rfl _ rfl w.heap.size (R:Int) m (.slice a L.length c) rfl hx ?_) | (go_at_call 50;refine(HD.out _ hr).mono ?_;rintro e w4 ⟨⟨a4,c4,rfl,hr4⟩,hb4⟩;obtain⟨l3,hl3,hF3'⟩:=hF3;have hF4:=hF3'.below hb4;replace hZ:=hZ.below hb4;replace hX2:=hX2.below hb4;replace HW:=Lib.hid (HW.out.trans (Wr.of_below hb4));have hs4:=hb4.size;have HL3:=Lib.hid hl3;clear hr hF3' hb4 hx hA hA0 hA1 hA2 hl3) | (refine wpList_store30 rfl _ _ rfl (w.heap.size+3) (R:Int) m (.slice a4 L2.length c4) rfl rfl hX2 rfl rfl ?_;intro w5 hX5 t5;have hF5:=hF4.turn t5 hX2 (by decide);have hr5:=hr4.turn t5 hX2 (by decide);replace hZ:=hZ.turn t5 (by omega);replace HW:=Lib.hid (HW.out.turnN t5 (by omega));have hs5:=t5.size;clear hF4 hr4 hX2 t5) | (refine wpList_load30 rfl _ rfl (w.heap.size+3) (R:Int) m (.slice a4 L2.length c4) rfl hX5 ?_) | (refine wpList_store30 rfl _ _ rfl (w.heap.size+2) (R:Int) m (.slice a4 L2.length c4) rfl rfl hZ rfl rfl ?_;intro w6 hZ6 t6))
 refine bodyPost_ret (resultsF_ct rfl _ w6 (w.heap.size+2) (R:Int) m _ (.bool true) rfl rfl hZ6) rfl ?_
 exact⟨⟨_,rfl,a4,c4,rfl,hr5.turn t6 hZ (by decide)⟩,⟨l3,HL3.out,hF5.turn t6 hZ (by decide)⟩,HW.out.turnN t6 (by omega)⟩
theorem do_5 (q g n:Int) (w:World) (hF:IsF w B fp L l m k) (hr:RowG w (.slice a L.length c) L) (hk:k<1000) (hg:I64 g) (hB:B≤w.heap.size) (hq:q.tmod 9=5):
  Calls Tryz.prog 24 #[.pointer (some ⟨fp,0,none⟩),.agg (cellsF (R:Int) m (.slice a L.length c)),.agg #[.int .u8 q,.int .i64 g,.int .i64 n]] w fun e w'=>(∃v',e= .returned (.tuple #[v',.bool true])∧DocF w' v' (R:Int) (m) (countN L g 1 0))∧(∃l',l'.length=l.length∧IsF w' B fp (countN L g 1 0) l' (m) (k+1))∧Wr [118,144,3] B w w':=by
 have HP:Hid (∀W,IsF W B fp L l m k→B≤W.heap.size→Calls Tryz.prog 51 #[.pointer (some ⟨fp,0,none⟩),.int .i64 g] W fun e w'=>e= .returned (.int .i64 (countC L g 1 0))∧(∃l',l'.length=l.length∧IsF w' B fp (countN L g 1 0) l' (m) (k+1))∧Wr [118,144,3] B W w'):=Lib.hid fun W hW hB=>by
  refine(Join_any fp B L l m k g W hW hg hk).mono ?_
  rintro e w' ⟨rfl,hF,hWr⟩;exact⟨rfl,⟨l,rfl,hF⟩,hWr.wide (by decide)⟩
 have ok:=hF.ok
 have hm:0≤m∧m<1000:=by have:=ok.m0;have:=ok.mle;omega
 have HD:Hid (∀W,RowG W (.slice a L.length c) L→Calls Tryz.prog 52 #[.agg #[.int .i64 (R:Int),.int .i64 m,.slice a L.length c],.int .i64 g,.int .i64 1,.int .i64 0] W fun e w'=>(∃a' c',e= .returned (.tuple #[.agg #[.int .i64 (R:Int),.int .i64 (m),.slice a' (countN L g 1 0).length c'],.int .i64 (countC L g 1 0)])∧RowG w' (.slice a' (countN L g 1 0).length c') (countN L g 1 0))∧Below W.heap.size W w'):=Lib.hid fun W hr=>by
  refine(rCount_any (R:Int) m a c L g 1 0 m k W hr ok (by omega) (by omega)).mono ?_
  rintro e w' ⟨⟨v,rfl,a',c',rfl,h'⟩,hb'⟩
  exact⟨⟨a',c',rfl,h'⟩,hb'⟩
 clear ok hm
 obtain⟨hx,hA,hZ,hX,HE,hb,hsz,hx0,HW⟩:=pre3 R m a c L q g n B w
 replace hF:=hF.below hb
 replace hr:=hr.below hb
 generalize countC L g 1 0=cd at *
 generalize hL2:countN L g 1 0=L2 at *
 clear hL2
 unfold cellsF
 go_enter Tryz.func24,Tryz.ntmps24
 go_wp2_with (first | (refine wpList_alloc30 rfl rfl ?_) | (refine wpList_load30 rfl _ rfl w.heap.size (R:Int) m (.slice a L.length c) rfl hx0 ?_) | (refine wpList_store30 rfl _ _ rfl _ (R:Int) m (.slice a L.length c) rfl rfl hX rfl rfl ?_;clear hx0;rw[HE.out] at hX;rw[HE.out];clear HE;generalize ((((w.alloc (.cells #[.int .i64 (R:Int),.int .i64 m,.slice a L.length c] 29)).alloc (.cells #[.int .u8 q,.int .i64 g,.int .i64 n] 70)).alloc (.cells #[.int .i64 0,.int .i64 0,.slice none 0 0] 29)).alloc (.cells #[.int .i64 0,.int .i64 0,.slice none 0 0] 29))=w1 at *;intro w2 hX2 t2;replace hx:=hx.turn t2 (by omega);replace hA:=hA.turn t2 (by omega);replace hZ:=hZ.turn t2 (by omega);replace hF:=hF.turn t2 hX (by decide);replace hr:=hr.turn t2 hX (by decide);replace HW:=Lib.hid (HW.out.turnN t2 (by omega));clear hX hb;have hs2:=t2.size;clear t2;have hA0:=hA.at 0;have hA1:=hA.at 1;have hA2:=hA.at 2;dsimp at hA0 hA1 hA2) | (go_at_call 51;refine(HP.out _ hF (by omega)).mono ?_;rintro e w3 ⟨rfl,hF3,hw3⟩;replace hx:=hx.wr hw3 (by decide);replace hA:=hA.wr hw3 (by decide);replace hZ:=hZ.wr hw3 (by decide);replace hX2:=hX2.wr hw3 (by decide);replace hr:=hr.wr hw3 (by decide);replace HW:=Lib.hid (HW.out.trans hw3);clear hF;have hs3:=hw3.size;clear hw3 hA0 hA1 hA2;have hA0:=hA.at 0;have hA1:=hA.at 1;have hA2:=hA.at 2;dsimp at hA0 hA1 hA2) | (refine wpList_load30 rfl _ rfl w.heap.size (R:Int) m (.slice a L.length c) rfl hx ?_) | (go_at_call 52;refine(HD.out _ hr).mono ?_;rintro e w4 ⟨⟨a4,c4,rfl,hr4⟩,hb4⟩;obtain⟨l3,hl3,hF3'⟩:=hF3;have hF4:=hF3'.below hb4;replace hZ:=hZ.below hb4;replace hX2:=hX2.below hb4;replace HW:=Lib.hid (HW.out.trans (Wr.of_below hb4));have hs4:=hb4.size;have HL3:=Lib.hid hl3;clear hr hF3' hb4 hx hA hA0 hA1 hA2 hl3) | (refine wpList_store30 rfl _ _ rfl (w.heap.size+3) (R:Int) m (.slice a4 L2.length c4) rfl rfl hX2 rfl rfl ?_;intro w5 hX5 t5;have hF5:=hF4.turn t5 hX2 (by decide);have hr5:=hr4.turn t5 hX2 (by decide);replace hZ:=hZ.turn t5 (by omega);replace HW:=Lib.hid (HW.out.turnN t5 (by omega));have hs5:=t5.size;clear hF4 hr4 hX2 t5) | (refine wpList_load30 rfl _ rfl (w.heap.size+3) (R:Int) m (.slice a4 L2.length c4) rfl hX5 ?_) | (refine wpList_store30 rfl _ _ rfl (w.heap.size+2) (R:Int) m (.slice a4 L2.length c4) rfl rfl hZ rfl rfl ?_;intro w6 hZ6 t6))
 refine bodyPost_ret (resultsF_ct rfl _ w6 (w.heap.size+2) (R:Int) m _ (.bool true) rfl rfl hZ6) rfl ?_
 exact⟨⟨_,rfl,a4,c4,rfl,hr5.turn t6 hZ (by decide)⟩,⟨l3,HL3.out,hF5.turn t6 hZ (by decide)⟩,HW.out.turnN t6 (by omega)⟩
theorem do_6 (q g n:Int) (w:World) (hF:IsF w B fp L l m k) (hr:RowG w (.slice a L.length c) L) (hk:k<1000) (hg:I64 g) (hB:B≤w.heap.size) (hq:q.tmod 9=6):
  Calls Tryz.prog 24 #[.pointer (some ⟨fp,0,none⟩),.agg (cellsF (R:Int) m (.slice a L.length c)),.agg #[.int .u8 q,.int .i64 g,.int .i64 n]] w fun e w'=>(∃v',e= .returned (.tuple #[v',.bool true])∧DocF w' v' (R:Int) (m) (countN L g (-1) 0))∧(∃l',l'.length=l.length∧IsF w' B fp (countN L g (-1) 0) l' (m) (k+1))∧Wr [118,144,3] B w w':=by
 have HP:Hid (∀W,IsF W B fp L l m k→B≤W.heap.size→Calls Tryz.prog 53 #[.pointer (some ⟨fp,0,none⟩),.int .i64 g] W fun e w'=>e= .returned (.int .i64 (countC L g (-1) 0))∧(∃l',l'.length=l.length∧IsF w' B fp (countN L g (-1) 0) l' (m) (k+1))∧Wr [118,144,3] B W w'):=Lib.hid fun W hW hB=>by
  refine(Leave_any fp B L l m k g W hW hg hk).mono ?_
  rintro e w' ⟨rfl,hF,hWr⟩;exact⟨rfl,⟨l,rfl,hF⟩,hWr.wide (by decide)⟩
 have ok:=hF.ok
 have hm:0≤m∧m<1000:=by have:=ok.m0;have:=ok.mle;omega
 have HD:Hid (∀W,RowG W (.slice a L.length c) L→Calls Tryz.prog 52 #[.agg #[.int .i64 (R:Int),.int .i64 m,.slice a L.length c],.int .i64 g,.int .i64 (-1),.int .i64 0] W fun e w'=>(∃a' c',e= .returned (.tuple #[.agg #[.int .i64 (R:Int),.int .i64 (m),.slice a' (countN L g (-1) 0).length c'],.int .i64 (countC L g (-1) 0)])∧RowG w' (.slice a' (countN L g (-1) 0).length c') (countN L g (-1) 0))∧Below W.heap.size W w'):=Lib.hid fun W hr=>by
  refine(rCount_any (R:Int) m a c L g (-1) 0 m k W hr ok (by omega) (by omega)).mono ?_
  rintro e w' ⟨⟨v,rfl,a',c',rfl,h'⟩,hb'⟩
  exact⟨⟨a',c',rfl,h'⟩,hb'⟩
 clear ok hm
 obtain⟨hx,hA,hZ,hX,HE,hb,hsz,hx0,HW⟩:=pre3 R m a c L q g n B w
 replace hF:=hF.below hb
 replace hr:=hr.below hb
 generalize countC L g (-1) 0=cd at *
 generalize hL2:countN L g (-1) 0=L2 at *
 clear hL2
 unfold cellsF
 go_enter Tryz.func24,Tryz.ntmps24
 go_wp2_with (first | (refine wpList_alloc30 rfl rfl ?_) | (refine wpList_load30 rfl _ rfl w.heap.size (R:Int) m (.slice a L.length c) rfl hx0 ?_) | (refine wpList_store30 rfl _ _ rfl _ (R:Int) m (.slice a L.length c) rfl rfl hX rfl rfl ?_;clear hx0;rw[HE.out] at hX;rw[HE.out];clear HE;generalize ((((w.alloc (.cells #[.int .i64 (R:Int),.int .i64 m,.slice a L.length c] 29)).alloc (.cells #[.int .u8 q,.int .i64 g,.int .i64 n] 70)).alloc (.cells #[.int .i64 0,.int .i64 0,.slice none 0 0] 29)).alloc (.cells #[.int .i64 0,.int .i64 0,.slice none 0 0] 29))=w1 at *;intro w2 hX2 t2;replace hx:=hx.turn t2 (by omega);replace hA:=hA.turn t2 (by omega);replace hZ:=hZ.turn t2 (by omega);replace hF:=hF.turn t2 hX (by decide);replace hr:=hr.turn t2 hX (by decide);replace HW:=Lib.hid (HW.out.turnN t2 (by omega));clear hX hb;have hs2:=t2.size;clear t2;have hA0:=hA.at 0;have hA1:=hA.at 1;have hA2:=hA.at 2;dsimp at hA0 hA1 hA2) | (go_at_call 53;refine(HP.out _ hF (by omega)).mono ?_;rintro e w3 ⟨rfl,hF3,hw3⟩;replace hx:=hx.wr hw3 (by decide);replace hA:=hA.wr hw3 (by decide);replace hZ:=hZ.wr hw3 (by decide);replace hX2:=hX2.wr hw3 (by decide);replace hr:=hr.wr hw3 (by decide);replace HW:=Lib.hid (HW.out.trans hw3);clear hF;have hs3:=hw3.size;clear hw3 hA0 hA1 hA2;have hA0:=hA.at 0;have hA1:=hA.at 1;have hA2:=hA.at 2;dsimp at hA0 hA1 hA2) | (refine wpList_load30 rfl _ rfl w.heap.size (R:Int) m (.slice a L.length c) rfl hx ?_) | (go_at_call 52;refine(HD.out _ hr).mono ?_;rintro e w4 ⟨⟨a4,c4,rfl,hr4⟩,hb4⟩;obtain⟨l3,hl3,hF3'⟩:=hF3;have hF4:=hF3'.below hb4;replace hZ:=hZ.below hb4;replace hX2:=hX2.below hb4;replace HW:=Lib.hid (HW.out.trans (Wr.of_below hb4));have hs4:=hb4.size;have HL3:=Lib.hid hl3;clear hr hF3' hb4 hx hA hA0 hA1 hA2 hl3) | (refine wpList_store30 rfl _ _ rfl (w.heap.size+3) (R:Int) m (.slice a4 L2.length c4) rfl rfl hX2 rfl rfl ?_;intro w5 hX5 t5;have hF5:=hF4.turn t5 hX2 (by decide);have hr5:=hr4.turn t5 hX2 (by decide);replace hZ:=hZ.turn t5 (by omega);replace HW:=Lib.hid (HW.out.turnN t5 (by omega));have hs5:=t5.size;clear hF4 hr4 hX2 t5) | (refine wpList_load30 rfl _ rfl (w.heap.size+3) (R:Int) m (.slice a4 L2.length c4) rfl hX5 ?_) | (refine wpList_store30 rfl _ _ rfl (w.heap.size+2) (R:Int) m (.slice a4 L2.length c4) rfl rfl hZ rfl rfl ?_;intro w6 hZ6 t6))
 refine bodyPost_ret (resultsF_ct rfl _ w6 (w.heap.size+2) (R:Int) m _ (.bool true) rfl rfl hZ6) rfl ?_
 exact⟨⟨_,rfl,a4,c4,rfl,hr5.turn t6 hZ (by decide)⟩,⟨l3,HL3.out,hF5.turn t6 hZ (by decide)⟩,HW.out.turnN t6 (by omega)⟩
theorem do_7 (q g n:Int) (w:World) (hF:IsF w B fp L l m k) (hr:RowG w (.slice a L.length c) L) (hk:k<1000) (hg:I64 g) (hB:B≤w.heap.size) (hq:q.tmod 9=7):
  Calls Tryz.prog 24 #[.pointer (some ⟨fp,0,none⟩),.agg (cellsF (R:Int) m (.slice a L.length c)),.agg #[.int .u8 q,.int .i64 g,.int .i64 n]] w fun e w'=>(∃v',e= .returned (.tuple #[v',.bool true])∧DocF w' v' (R:Int) (m) (countN L g 0 1))∧(∃l',l'.length=l.length∧IsF w' B fp (countN L g 0 1) l' (m) (k+1))∧Wr [118,144,3] B w w':=by
 have HP:Hid (∀W,IsF W B fp L l m k→B≤W.heap.size→Calls Tryz.prog 54 #[.pointer (some ⟨fp,0,none⟩),.int .i64 g] W fun e w'=>e= .returned (.int .i64 (countC L g 0 1))∧(∃l',l'.length=l.length∧IsF w' B fp (countN L g 0 1) l' (m) (k+1))∧Wr [118,144,3] B W w'):=Lib.hid fun W hW hB=>by
  refine(Wake_any fp B L l m k g W hW hg hk).mono ?_
  rintro e w' ⟨rfl,hF,hWr⟩;exact⟨rfl,⟨l,rfl,hF⟩,hWr.wide (by decide)⟩
 have ok:=hF.ok
 have hm:0≤m∧m<1000:=by have:=ok.m0;have:=ok.mle;omega
 have HD:Hid (∀W,RowG W (.slice a L.length c) L→Calls Tryz.prog 52 #[.agg #[.int .i64 (R:Int),.int .i64 m,.slice a L.length c],.int .i64 g,.int .i64 0,.int .i64 1] W fun e w'=>(∃a' c',e= .returned (.tuple #[.agg #[.int .i64 (R:Int),.int .i64 (m),.slice a' (countN L g 0 1).length c'],.int .i64 (countC L g 0 1)])∧RowG w' (.slice a' (countN L g 0 1).length c') (countN L g 0 1))∧Below W.heap.size W w'):=Lib.hid fun W hr=>by
  refine(rCount_any (R:Int) m a c L g 0 1 m k W hr ok (by omega) (by omega)).mono ?_
  rintro e w' ⟨⟨v,rfl,a',c',rfl,h'⟩,hb'⟩
  exact⟨⟨a',c',rfl,h'⟩,hb'⟩
 clear ok hm
 obtain⟨hx,hA,hZ,hX,HE,hb,hsz,hx0,HW⟩:=pre3 R m a c L q g n B w
 replace hF:=hF.below hb
 replace hr:=hr.below hb
 generalize countC L g 0 1=cd at *
 generalize hL2:countN L g 0 1=L2 at *
 clear hL2
 unfold cellsF
 go_enter Tryz.func24,Tryz.ntmps24
 go_wp2_with (first | (refine wpList_alloc30 rfl rfl ?_) | (refine wpList_load30 rfl _ rfl w.heap.size (R:Int) m (.slice a L.length c) rfl hx0 ?_) | (refine wpList_store30 rfl _ _ rfl _ (R:Int) m (.slice a L.length c) rfl rfl hX rfl rfl ?_;clear hx0;rw[HE.out] at hX;rw[HE.out];clear HE;generalize ((((w.alloc (.cells #[.int .i64 (R:Int),.int .i64 m,.slice a L.length c] 29)).alloc (.cells #[.int .u8 q,.int .i64 g,.int .i64 n] 70)).alloc (.cells #[.int .i64 0,.int .i64 0,.slice none 0 0] 29)).alloc (.cells #[.int .i64 0,.int .i64 0,.slice none 0 0] 29))=w1 at *;intro w2 hX2 t2;replace hx:=hx.turn t2 (by omega);replace hA:=hA.turn t2 (by omega);replace hZ:=hZ.turn t2 (by omega);replace hF:=hF.turn t2 hX (by decide);replace hr:=hr.turn t2 hX (by decide);replace HW:=Lib.hid (HW.out.turnN t2 (by omega));clear hX hb;have hs2:=t2.size;clear t2;have hA0:=hA.at 0;have hA1:=hA.at 1;have hA2:=hA.at 2;dsimp at hA0 hA1 hA2) | (go_at_call 54;refine(HP.out _ hF (by omega)).mono ?_;rintro e w3 ⟨rfl,hF3,hw3⟩;replace hx:=hx.wr hw3 (by decide);replace hA:=hA.wr hw3 (by decide);replace hZ:=hZ.wr hw3 (by decide);replace hX2:=hX2.wr hw3 (by decide);replace hr:=hr.wr hw3 (by decide);replace HW:=Lib.hid (HW.out.trans hw3);clear hF;have hs3:=hw3.size;clear hw3 hA0 hA1 hA2;have hA0:=hA.at 0;have hA1:=hA.at 1;have hA2:=hA.at 2;dsimp at hA0 hA1 hA2) | (refine wpList_load30 rfl _ rfl w.heap.size (R:Int) m (.slice a L.length c) rfl hx ?_) | (go_at_call 52;refine(HD.out _ hr).mono ?_;rintro e w4 ⟨⟨a4,c4,rfl,hr4⟩,hb4⟩;obtain⟨l3,hl3,hF3'⟩:=hF3;have hF4:=hF3'.below hb4;replace hZ:=hZ.below hb4;replace hX2:=hX2.below hb4;replace HW:=Lib.hid (HW.out.trans (Wr.of_below hb4));have hs4:=hb4.size;have HL3:=Lib.hid hl3;clear hr hF3' hb4 hx hA hA0 hA1 hA2 hl3) | (refine wpList_store30 rfl _ _ rfl (w.heap.size+3) (R:Int) m (.slice a4 L2.length c4) rfl rfl hX2 rfl rfl ?_;intro w5 hX5 t5;have hF5:=hF4.turn t5 hX2 (by decide);have hr5:=hr4.turn t5 hX2 (by decide);replace hZ:=hZ.turn t5 (by omega);replace HW:=Lib.hid (HW.out.turnN t5 (by omega));have hs5:=t5.size;clear hF4 hr4 hX2 t5) | (refine wpList_load30 rfl _ rfl (w.heap.size+3) (R:Int) m (.slice a4 L2.length c4) rfl hX5 ?_) | (refine wpList_store30 rfl _ _ rfl (w.heap.size+2) (R:Int) m (.slice a4 L2.length c4) rfl rfl hZ rfl rfl ?_;intro w6 hZ6 t6))
 refine bodyPost_ret (resultsF_ct rfl _ w6 (w.heap.size+2) (R:Int) m _ (.bool true) rfl rfl hZ6) rfl ?_
 exact⟨⟨_,rfl,a4,c4,rfl,hr5.turn t6 hZ (by decide)⟩,⟨l3,HL3.out,hF5.turn t6 hZ (by decide)⟩,HW.out.turnN t6 (by omega)⟩
theorem do_8 (q g n:Int) (w:World) (hF:IsF w B fp L l m k) (hr:RowG w (.slice a L.length c) L) (hk:k<1000) (hg:I64 g) (hB:B≤w.heap.size) (hq0: ¬q.tmod 9=0) (hq1: ¬q.tmod 9=1) (hq2: ¬q.tmod 9=2) (hq3: ¬q.tmod 9=3) (hq4: ¬q.tmod 9=4) (hq5: ¬q.tmod 9=5) (hq6: ¬q.tmod 9=6) (hq7: ¬q.tmod 9=7):
  Calls Tryz.prog 24 #[.pointer (some ⟨fp,0,none⟩),.agg (cellsF (R:Int) m (.slice a L.length c)),.agg #[.int .u8 q,.int .i64 g,.int .i64 n]] w fun e w'=>(∃v',e= .returned (.tuple #[v',.bool true])∧DocF w' v' (R:Int) (m) (countN L g 0 (-1)))∧(∃l',l'.length=l.length∧IsF w' B fp (countN L g 0 (-1)) l' (m) (k+1))∧Wr [118,144,3] B w w':=by
 have HP:Hid (∀W,IsF W B fp L l m k→B≤W.heap.size→Calls Tryz.prog 55 #[.pointer (some ⟨fp,0,none⟩),.int .i64 g] W fun e w'=>e= .returned (.int .i64 (countC L g 0 (-1)))∧(∃l',l'.length=l.length∧IsF w' B fp (countN L g 0 (-1)) l' (m) (k+1))∧Wr [118,144,3] B W w'):=Lib.hid fun W hW hB=>by
  refine(Sleep_any fp B L l m k g W hW hg hk).mono ?_
  rintro e w' ⟨rfl,hF,hWr⟩;exact⟨rfl,⟨l,rfl,hF⟩,hWr.wide (by decide)⟩
 have ok:=hF.ok
 have hm:0≤m∧m<1000:=by have:=ok.m0;have:=ok.mle;omega
 have HD:Hid (∀W,RowG W (.slice a L.length c) L→Calls Tryz.prog 52 #[.agg #[.int .i64 (R:Int),.int .i64 m,.slice a L.length c],.int .i64 g,.int .i64 0,.int .i64 (-1)] W fun e w'=>(∃a' c',e= .returned (.tuple #[.agg #[.int .i64 (R:Int),.int .i64 (m),.slice a' (countN L g 0 (-1)).length c'],.int .i64 (countC L g 0 (-1))])∧RowG w' (.slice a' (countN L g 0 (-1)).length c') (countN L g 0 (-1)))∧Below W.heap.size W w'):=Lib.hid fun W hr=>by
  refine(rCount_any (R:Int) m a c L g 0 (-1) m k W hr ok (by omega) (by omega)).mono ?_
  rintro e w' ⟨⟨v,rfl,a',c',rfl,h'⟩,hb'⟩
  exact⟨⟨a',c',rfl,h'⟩,hb'⟩
 clear ok hm
 obtain⟨hx,hA,hZ,hX,HE,hb,hsz,hx0,HW⟩:=pre3 R m a c L q g n B w
 replace hF:=hF.below hb
 replace hr:=hr.below hb
 have hqb0:=beq_ff hq0
 have hqb1:=beq_ff hq1
 have hqb2:=beq_ff hq2
 have hqb3:=beq_ff hq3
 have hqb4:=beq_ff hq4
 have hqb5:=beq_ff hq5
 have hqb6:=beq_ff hq6
 have hqb7:=beq_ff hq7
 clear hq0 hq1 hq2 hq3 hq4 hq5 hq6 hq7
 generalize countC L g 0 (-1)=cd at *
 generalize hL2:countN L g 0 (-1)=L2 at *
 clear hL2
 unfold cellsF
 go_enter Tryz.func24,Tryz.ntmps24
 go_wp2_with (first | (refine wpList_alloc30 rfl rfl ?_) | (refine wpList_load30 rfl _ rfl w.heap.size (R:Int) m (.slice a L.length c) rfl hx0 ?_) | (refine wpList_store30 rfl _ _ rfl _ (R:Int) m (.slice a L.length c) rfl rfl hX rfl rfl ?_;clear hx0;rw[HE.out] at hX;rw[HE.out];clear HE;generalize ((((w.alloc (.cells #[.int .i64 (R:Int),.int .i64 m,.slice a L.length c] 29)).alloc (.cells #[.int .u8 q,.int .i64 g,.int .i64 n] 70)).alloc (.cells #[.int .i64 0,.int .i64 0,.slice none 0 0] 29)).alloc (.cells #[.int .i64 0,.int .i64 0,.slice none 0 0] 29))=w1 at *;intro w2 hX2 t2;replace hx:=hx.turn t2 (by omega);replace hA:=hA.turn t2 (by omega);replace hZ:=hZ.turn t2 (by omega);replace hF:=hF.turn t2 hX (by decide);replace hr:=hr.turn t2 hX (by decide);replace HW:=Lib.hid (HW.out.turnN t2 (by omega));clear hX hb;have hs2:=t2.size;clear t2;have hA0:=hA.at 0;have hA1:=hA.at 1;have hA2:=hA.at 2;dsimp at hA0 hA1 hA2) | (go_at_call 55;refine(HP.out _ hF (by omega)).mono ?_;rintro e w3 ⟨rfl,hF3,hw3⟩;replace hx:=hx.wr hw3 (by decide);replace hA:=hA.wr hw3 (by decide);replace hZ:=hZ.wr hw3 (by decide);replace hX2:=hX2.wr hw3 (by decide);replace hr:=hr.wr hw3 (by decide);replace HW:=Lib.hid (HW.out.trans hw3);clear hF;have hs3:=hw3.size;clear hw3 hA0 hA1 hA2;have hA0:=hA.at 0;have hA1:=hA.at 1;have hA2:=hA.at 2;dsimp at hA0 hA1 hA2) | (refine wpList_load30 rfl _ rfl w.heap.size (R:Int) m (.slice a L.length c) rfl hx ?_) | (go_at_call 52;refine(HD.out _ hr).mono ?_;rintro e w4 ⟨⟨a4,c4,rfl,hr4⟩,hb4⟩;obtain⟨l3,hl3,hF3'⟩:=hF3;have hF4:=hF3'.below hb4;replace hZ:=hZ.below hb4;replace hX2:=hX2.below hb4;replace HW:=Lib.hid (HW.out.trans (Wr.of_below hb4));have hs4:=hb4.size;have HL3:=Lib.hid hl3;clear hr hF3' hb4 hx hA hA0 hA1 hA2 hl3) | (refine wpList_store30 rfl _ _ rfl (w.heap.size+3) (R:Int) m (.slice a4 L2.length c4) rfl rfl hX2 rfl rfl ?_;intro w5 hX5 t5;have hF5:=hF4.turn t5 hX2 (by decide);have hr5:=hr4.turn t5 hX2 (by decide);replace hZ:=hZ.turn t5 (by omega);replace HW:=Lib.hid (HW.out.turnN t5 (by omega));have hs5:=t5.size;clear hF4 hr4 hX2 t5) | (refine wpList_load30 rfl _ rfl (w.heap.size+3) (R:Int) m (.slice a4 L2.length c4) rfl hX5 ?_) | (refine wpList_store30 rfl _ _ rfl (w.heap.size+2) (R:Int) m (.slice a4 L2.length c4) rfl rfl hZ rfl rfl ?_;intro w6 hZ6 t6))
 refine bodyPost_ret (resultsF_ct rfl _ w6 (w.heap.size+2) (R:Int) m _ (.bool true) rfl rfl hZ6) rfl ?_
 exact⟨⟨_,rfl,a4,c4,rfl,hr5.turn t6 hZ (by decide)⟩,⟨l3,HL3.out,hF5.turn t6 hZ (by decide)⟩,HW.out.turnN t6 (by omega)⟩
theorem do_any (q g n:Int) (w:World) (v:Value) (hF:IsF w B fp L l m k) (hd:DocF w v (R:Int) m L) (hk:k<1000) (hg:I64 g) (hn:I64 n) (hB:B≤w.heap.size) (hR:l.length=R):
  Calls Tryz.prog 24 #[.pointer (some ⟨fp,0,none⟩),v,.agg #[.int .u8 q,.int .i64 g,.int .i64 n]] w fun e w'=>(∃v',e= .returned (.tuple #[v',.bool true])∧DocF w' v' (R:Int) (actM L l.length m q g n) (actL L l.length m q g n))∧(∃l',l'.length=l.length∧IsF w' B fp (actL L l.length m q g n) l' (actM L l.length m q g n) (k+1))∧Wr [118,144,3] B w w':=by
 obtain⟨a,c,rfl,hr⟩:=hd
 unfold actL actM
 by_cases h0:q.tmod 9=0
 ·rw[if_pos h0,if_pos h0]
  exact do_0 fp B R a c L l m k q g n w hF hr hk hB hR h0
 by_cases h1:q.tmod 9=1
 ·rw[if_neg h0,if_pos h1,if_neg h0,if_pos h1]
  exact do_1 fp B R a c L l m k q g n w hF hr hk hg hB hR h1
 by_cases h2:q.tmod 9=2
 ·rw[if_neg h0,if_neg h1,if_pos h2,if_neg h0,if_neg h1]
  exact do_2 fp B R a c L l m k q g n w hF hr hk hg hB h2
 by_cases h3:q.tmod 9=3
 ·rw[if_neg h0,if_neg h1,if_neg h2,if_pos h3,if_neg h0,if_neg h1]
  exact do_3 fp B R a c L l m k q g n w hF hr hk hg hn hB h3
 by_cases h4:q.tmod 9=4
 ·rw[if_neg h0,if_neg h1,if_neg h2,if_neg h3,if_pos h4,if_neg h0,if_neg h1]
  exact do_4 fp B R a c L l m k q g n w hF hr hk hg hB h4
 by_cases h5:q.tmod 9=5
 ·rw[if_neg h0,if_neg h1,if_neg h2,if_neg h3,if_neg h4,if_pos h5,if_neg h0,if_neg h1]
  exact do_5 fp B R a c L l m k q g n w hF hr hk hg hB h5
 by_cases h6:q.tmod 9=6
 ·rw[if_neg h0,if_neg h1,if_neg h2,if_neg h3,if_neg h4,if_neg h5,if_pos h6,if_neg h0,if_neg h1]
  exact do_6 fp B R a c L l m k q g n w hF hr hk hg hB h6
 by_cases h7:q.tmod 9=7
 ·rw[if_neg h0,if_neg h1,if_neg h2,if_neg h3,if_neg h4,if_neg h5,if_neg h6,if_pos h7,if_neg h0,if_neg h1]
  exact do_7 fp B R a c L l m k q g n w hF hr hk hg hB h7
 rw[if_neg h0,if_neg h1,if_neg h2,if_neg h3,if_neg h4,if_neg h5,if_neg h6,if_neg h7,if_neg h0,if_neg h1]
 exact do_8 fp B R a c L l m k q g n w hF hr hk hg hB h0 h1 h2 h3 h4 h5 h6 h7
end
end Go.Proofs.YtohifgjeebhijaaGreatDoor
namespace Go.Proofs.YtohifgjeebhijaaGreatDoor
open Go.RowKit Go.Maps
theorem run_alloc34 (w:World):(Instr.alloc 70 true (.tuple #[])).run Tryz.prog w= .ok (.pointer (some ⟨w.heap.size,0,none⟩)) (w.alloc (.cells #[.int .u8 0,.int .i64 0,.int .i64 0] 70)):=by kernel_rfl
theorem wpList_alloc34 {ops:Array Oper} {rest:List Oper} {o:Oper} {a:Act} {w:World} {Q:Exit→Act→World→Prop} (hg:o.guard=none) (ho:o.op= .alloc 70) (h:wpList Tryz.prog ops Q rest (a.put o.dst (.pointer (some ⟨w.heap.size,0,none⟩))) (w.alloc (.cells #[.int .u8 0,.int .i64 0,.int .i64 0] 70))):wpList Tryz.prog ops Q (o::rest) a w:=
 wpList_plain hg fun K hK=>by
  unfold Oper.wp execOp
  rw[ho]
  simp only[run_alloc34,Sem.run_bind,Sem.run_pure,Result.andThen_ok]
  exact hK _ _ h
def a0:Nat×Int×Int:=(0,0,0)
def RowA (w:World) (v:Value) (l:List (Nat×Int×Int)):Prop:=
 ∃a cap,v= .slice a l.length cap∧(l≠[]→∃b off,a=some ⟨b,off,none⟩∧b<w.heap.size∧∀j,j<l.length→w.cell? ⟨b,off+j*3,none⟩=some (.int .u8 ((l.getD j a0).1:Int))∧w.cell? ⟨b,off+j*3+1,none⟩=some (.int .i64 (l.getD j a0).2.1)∧w.cell? ⟨b,off+j*3+2,none⟩=some (.int .i64 (l.getD j a0).2.2))∧∀j,I64 (l.getD j a0).2.1∧I64 (l.getD j a0).2.2
theorem RowA.below {w w':World} {v:Value} {l:List (Nat×Int×Int)} (h:RowA w v l) (hb:Below w.heap.size w w'):RowA w' v l:=by
 obtain⟨a,cap,rfl,h2,h5⟩:=h
 refine⟨a,cap,rfl,fun hl=>?_,h5⟩
 obtain⟨b,off,rfl,h3,h4⟩:=h2 hl
 exact⟨b,off,rfl,Nat.lt_of_lt_of_le h3 hb.size,fun j hj=>⟨(hb.cell (p:=⟨b,off+j*3,none⟩) h3).trans (h4 j hj).1,(hb.cell (p:=⟨b,off+j*3+1,none⟩) h3).trans (h4 j hj).2.1,(hb.cell (p:=⟨b,off+j*3+2,none⟩) h3).trans (h4 j hj).2.2⟩⟩
theorem RowA.at {w:World} {a:Option Addr} {n cap:Nat} {l:List (Nat×Int×Int)} (h:RowA w (.slice a n cap) l) {j:Nat} (hj:j<l.length):
  ∃b off,a=some ⟨b,off,none⟩∧w.cell? ⟨b,off+j*3,none⟩=some (.int .u8 ((l.getD j a0).1:Int))∧w.cell? ⟨b,off+j*3+1,none⟩=some (.int .i64 (l.getD j a0).2.1)∧w.cell? ⟨b,off+j*3+2,none⟩=some (.int .i64 (l.getD j a0).2.2)∧I64 (l.getD j a0).2.1∧I64 (l.getD j a0).2.2:=by
 obtain⟨a',cap',e,h2,h5⟩:=h
 cases e
 obtain⟨b,off,rfl,h3,h4⟩:=h2 (by rintro rfl;simp at hj)
 exact⟨b,off,rfl,(h4 j hj).1,(h4 j hj).2.1,(h4 j hj).2.2,(h5 j).1,(h5 j).2⟩
theorem RowA.sl {w:World} {v:Value} {l:List (Nat×Int×Int)} (h:RowA w v l): ∃a c,v= .slice a l.length c:=by
 obtain⟨a,c,e,_⟩:=h
 exact⟨a,c,e⟩
structure St (W:World) (fp b R:Nat) (w:World) (L:List Gr) (m k:Int) (Lr:List Gr) (mr:Int):Prop where
 F: ∃l,l.length=R∧IsF w W.heap.size fp L l m k
 ref: ∃a c,Blk w b 29 (cellsF (R:Int) mr (.slice a Lr.length c))∧RowG w (.slice a Lr.length c) Lr
 bel:Below W.heap.size W w
 Wb:W.heap.size≤b
section
variable {W w w':World} {fp b R:Nat} {L Lr:List Gr} {m k mr:Int}
theorem St.lt (h:St W fp b R w L m k Lr mr):b<w.heap.size:=by
 obtain⟨_,_,h2,_⟩:=h.ref
 exact h2.lt
theorem St.leW (h:St W fp b R w L m k Lr mr):W.heap.size≤w.heap.size:=by have:=h.lt;have:=h.Wb;omega
theorem St.below (h:St W fp b R w L m k Lr mr) (hb:Below w.heap.size w w'):St W fp b R w' L m k Lr mr:=by
 obtain⟨l,hl,hF⟩:=h.F
 obtain⟨a,c,h1,h2⟩:=h.ref
 exact⟨⟨l,hl,hF.below hb⟩,⟨a,c,h1.below hb,h2.below hb⟩,h.bel.trans (hb.mono h.leW),h.Wb⟩
theorem St.alloc (h:St W fp b R w L m k Lr mr) (o:Obj):St W fp b R (w.alloc o) L m k Lr mr:=h.below ((Below.refl _ w).alloc (Nat.le_refl _) o)
theorem St.turn {d t:Nat} {cs:Array Value} (h:St W fp b R w L m k Lr mr) (ht:Turn d w w') (hd:Blk w d t cs) (hne:t∉[106,144,3,118,56]) (hb:b<d):St W fp b R w' L m k Lr mr:=by
 obtain⟨l,hl,hF⟩:=h.F
 obtain⟨a,c,h1,h2⟩:=h.ref
 have:=h.Wb
 exact⟨⟨l,hl,hF.turn ht hd (fun e=>hne (by simp at e ⊢;omega))⟩,⟨a,c,h1.turn ht (by omega),h2.turn ht hd (fun e=>hne (by simp[e]))⟩,h.bel.trans (ht.below (by omega)),h.Wb⟩
theorem St.act {ts:List Nat} {L':List Gr} {m' k':Int} (h:St W fp b R w L m k Lr mr) (hF: ∃l,l.length=R∧IsF w' W.heap.size fp L' l m' k') (hw:Wr ts W.heap.size w w') (h30:29∉ts) (h70:56∉ts):St W fp b R w' L' m' k' Lr mr:=by
 obtain⟨a,c,h1,h2⟩:=h.ref
 exact⟨hF,⟨a,c,h1.wr hw h30,h2.wr hw h70⟩,h.bel.trans (hw.below h.leW),h.Wb⟩
theorem St.set {Lr':List Gr} {mr':Int} {a:Option Addr} {c:Nat} (h:St W fp b R w L m k Lr mr) (ht:Turn b w w') (hr:RowG w (.slice a Lr'.length c) Lr') (hb:Blk w' b 29 (cellsF (R:Int) mr' (.slice a Lr'.length c))):St W fp b R w' L m k Lr' mr':=by
 obtain⟨l,hl,hF⟩:=h.F
 obtain⟨a0,c0,h1,h2⟩:=h.ref
 have:=h.Wb
 exact⟨⟨l,hl,hF.turn ht h1 (by decide)⟩,⟨a,c,hb,hr.turn ht h1 (by decide)⟩,h.bel.trans (ht.below (by omega)),h.Wb⟩
theorem St.row {xs:List (Nat×Int×Int)} {v:Value} (h:St W fp b R w L m k Lr mr) (hr:RowA W v xs):RowA w v xs:=hr.below h.bel
end
end Go.Proofs.YtohifgjeebhijaaGreatDoor
namespace Go.Proofs.YtohifgjeebhijaaGreatDoor
set_option maxRecDepth 100000
set_option maxHeartbeats 4000000
open Go.RowKit Go.Maps
def cellsS (fp:Nat) (lv c g r:Value):Array Value:= #[.pointer (some ⟨fp,0,none⟩),lv,c,g,r]
section
variable {w:World} {s fp:Nat} {lv c g r:Value}
theorem cS0 (h:Blk w s 82 (cellsS fp lv c g r)):w.cell? ⟨s,0,none⟩=some (.pointer (some ⟨fp,0,none⟩)):=by rw[h.at];rfl
theorem cS1 (h:Blk w s 82 (cellsS fp lv c g r)):w.cell? ⟨s,1,none⟩=some lv:=by rw[h.at];rfl
theorem cS2 (h:Blk w s 82 (cellsS fp lv c g r)):w.cell? ⟨s,2,none⟩=some c:=by rw[h.at];rfl
theorem cS3 (h:Blk w s 82 (cellsS fp lv c g r)):w.cell? ⟨s,3,none⟩=some g:=by rw[h.at];rfl
theorem cS4 (h:Blk w s 82 (cellsS fp lv c g r)):w.cell? ⟨s,4,none⟩=some r:=by rw[h.at];rfl
end
def RowL (w:World) (v:Value) (ls:List Lf):Prop:=
 ∃a cap,v= .slice a ls.length cap∧(ls≠[]→∃b off,a=some ⟨b,off,none⟩∧b<w.heap.size∧∀j,j<ls.length→w.cell? ⟨b,off+j*2,none⟩=some (.int .i64 (lf ls j).1)∧w.cell? ⟨b,off+j*2+1,none⟩=some (.int .i64 (lf ls j).2))∧∀j,I64 (lf ls j).1∧I64 (lf ls j).2
theorem RowL.below {w w':World} {v:Value} {ls:List Lf} (h:RowL w v ls) (hb:Below w.heap.size w w'):RowL w' v ls:=by
 obtain⟨a,cap,rfl,h2,h5⟩:=h
 refine⟨a,cap,rfl,fun hl=>?_,h5⟩
 obtain⟨b,off,rfl,h3,h4⟩:=h2 hl
 exact⟨b,off,rfl,Nat.lt_of_lt_of_le h3 hb.size,fun j hj=>⟨(hb.cell (p:=⟨b,off+j*2,none⟩) h3).trans (h4 j hj).1,(hb.cell (p:=⟨b,off+j*2+1,none⟩) h3).trans (h4 j hj).2⟩⟩
theorem RowL.sl {w:World} {v:Value} {ls:List Lf} (h:RowL w v ls): ∃a c,v= .slice a ls.length c:=by
 obtain⟨a,c,e,_⟩:=h
 exact⟨a,c,e⟩
theorem RowL.at {w:World} {a:Option Addr} {n cap:Nat} {ls:List Lf} (h:RowL w (.slice a n cap) ls) {j:Nat} (hj:j<ls.length):
  ∃b off,a=some ⟨b,off,none⟩∧w.cell? ⟨b,off+j*2,none⟩=some (.int .i64 (lf ls j).1)∧w.cell? ⟨b,off+j*2+1,none⟩=some (.int .i64 (lf ls j).2)∧I64 (lf ls j).1∧I64 (lf ls j).2:=by
 obtain⟨a',cap',e,h2,h5⟩:=h
 cases e
 obtain⟨b,off,rfl,h3,h4⟩:=h2 (by rintro rfl;simp at hj)
 exact⟨b,off,rfl,(h4 j hj).1,(h4 j hj).2,(h5 j).1,(h5 j).2⟩
def cellsP (a b:Int):Array Value:= #[.int .i64 a,.int .i64 b]
theorem cP0 {w:World} {b:Nat} {x y:Int} (h:Blk w b 75 (cellsP x y)):w.cell? ⟨b,0,none⟩=some (.int .i64 x):=by rw[h.at];rfl
theorem cP1 {w:World} {b:Nat} {x y:Int} (h:Blk w b 75 (cellsP x y)):w.cell? ⟨b,1,none⟩=some (.int .i64 y):=by rw[h.at];rfl
theorem Tryz.info75:(Tryz.prog.info? 75).map (·.size)=some 2:=by kernel_rfl
theorem run_alloc75 (w:World):(Instr.alloc 75 true (.tuple #[])).run Tryz.prog w= .ok (.pointer (some ⟨w.heap.size,0,none⟩)) (w.alloc (.cells #[.int .i64 0,.int .i64 0] 75)):=by kernel_rfl
section
variable {ops:Array Oper} {rest:List Oper} {o:Oper} {a:Act} {w:World} {Q:Exit→Act→World→Prop} {K:Act→World→Prop}
theorem wpList_alloc75 (hg:o.guard=none) (ho:o.op= .alloc 75) (h:wpList Tryz.prog ops Q rest (a.put o.dst (.pointer (some ⟨w.heap.size,0,none⟩))) (w.alloc (.cells #[.int .i64 0,.int .i64 0] 75))):wpList Tryz.prog ops Q (o::rest) a w:=
 wpList_plain hg fun _ hK=>by
  unfold Oper.wp execOp
  rw[ho]
  simp only[run_alloc75,Sem.run_bind,Sem.run_pure,Result.andThen_ok]
  exact hK _ _ h
theorem wpList_store75 (hg:o.guard=none) (x y:Operand) (ho:o.op= .store 75 x y) (b:Nat) (p q:Int) {cs:Array Value} (hx:a.eval x= .pointer (some ⟨b,0,none⟩)) (hy:a.eval y= .agg (cellsP p q)) (hw:Blk w b 75 cs) (hc:cs.size=2)
  (h: ∀w',Blk w' b 75 (cellsP p q)→Turn b w w'→wpList Tryz.prog ops Q rest (a.put o.dst undef) w'):wpList Tryz.prog ops Q (o::rest) a w:=
 wpList_plain hg fun _ hK=>wp_store_row 75 x y ho b _ hx hy 75 _ hw Tryz.info75 hc (by simp[Value.oneCell',cellsP]) (hK _ _ (h _ (setRow_heap w b _ _ 75 _ hw) (Turn.setRow w b _)))
end
theorem zeroI (w:World):(zeroValue 3).run Tryz.prog w= .ok (.int .i64 0) w:=by kernel_rfl
section
variable (fp B:Nat) (L:List Gr) (l:List Int) (m k:Int)
theorem told_yes (s:Nat) (lv cv gv rv:Value) (x:Int) (w:World) (h:IsF w B fp L l m k) (hs:Blk w s 82 (cellsS fp lv cv gv rv)) (hx:I64 x) (hh:has L x=true):
  Calls Tryz.prog 98 #[.pointer (some ⟨s,0,none⟩),.int .i64 x] w fun e w'=>e= .returned (.agg (cellsU x (gr L x).pa (gr L x).wt (dep L x) (topI L x) (gr L x).me (gr L x).aw))∧Below w.heap.size w w':=by
 have hb1:Below w.heap.size w (w.alloc (.cells #[.int .i64 0,.int .i64 0,.int .i64 0,.int .i64 0,.int .i64 0,.int .i64 0,.int .i64 0] 158)):=(Below.refl _ w).alloc (Nat.le_refl _) _
 have hZ:Blk (w.alloc (.cells #[.int .i64 0,.int .i64 0,.int .i64 0,.int .i64 0,.int .i64 0,.int .i64 0,.int .i64 0] 158)) w.heap.size 158 (cellsU 0 0 0 0 0 0 0):=Blk.new w 158 _
 have h0:=cS0 (hs.below hb1)
 have HG:Hid (∀W,Below w.heap.size w W→Calls Tryz.prog 97 #[.pointer (some ⟨fp,0,none⟩),.int .i64 x] W fun e w'=>e= .returned (.tuple #[.agg (cellsU x (gr L x).pa (gr L x).wt (dep L x) (topI L x) (gr L x).me (gr L x).aw),.int .i64 0])∧Below W.heap.size W w'):=Lib.hid fun W hW=>Group_yes fp B L l m k x W (h.below hW) hx hh
 clear h hs hh
 generalize (gr L x).pa=pa at *
 generalize (gr L x).wt=wt at *
 generalize (gr L x).me=me at *
 generalize (gr L x).aw=aw at *
 generalize dep L x=d at *
 generalize topI L x=r at *
 have T1:True:=trivial
 have T2:True:=trivial
 go_enter Tryz.func98,Tryz.ntmps98
 go_wp2_with (first
  | (clear T1;refine wpList_alloc44 rfl rfl ?_;generalize w.alloc (.cells #[.int .i64 0,.int .i64 0,.int .i64 0,.int .i64 0,.int .i64 0,.int .i64 0,.int .i64 0] 158)=w1 at *)
  | (go_at_call 97;refine(HG.out w1 hb1).mono ?_;rintro e w2 ⟨rfl,hb2⟩)
  | (refine wpList_alloc44 rfl rfl ?_;have hZ5:Blk (w2.alloc (.cells #[.int .i64 0,.int .i64 0,.int .i64 0,.int .i64 0,.int .i64 0,.int .i64 0,.int .i64 0] 158)) w2.heap.size 158 (cellsU 0 0 0 0 0 0 0):=Blk.new w2 158 _;have hZ4:=(hZ.below hb2).alloc (.cells #[.int .i64 0,.int .i64 0,.int .i64 0,.int .i64 0,.int .i64 0,.int .i64 0,.int .i64 0] 158);have hb3:=(hb1.trans (hb2.mono hb1.size)).alloc (hb1.trans (hb2.mono hb1.size)).size (.cells #[.int .i64 0,.int .i64 0,.int .i64 0,.int .i64 0,.int .i64 0,.int .i64 0,.int .i64 0] 158);have hne:=(hZ.below hb2).lt;have hsz:=(hb1.trans (hb2.mono hb1.size)).size;generalize w2.alloc (.cells #[.int .i64 0,.int .i64 0,.int .i64 0,.int .i64 0,.int .i64 0,.int .i64 0,.int .i64 0] 158)=w3 at *)
  | (clear T2;refine wpList_store44 rfl _ _ rfl w2.heap.size x pa wt d r me aw rfl rfl hZ5 rfl ?_;intro w4 hZ5' t4;have hZ4':=hZ4.turn t4 (by omega);have hb4:=hb3.trans (t4.below (by omega)))
  | (refine wpList_load44 rfl _ rfl w2.heap.size x pa wt d r me aw rfl hZ5' ?_)
  | (refine wpList_store44 rfl _ _ rfl w.heap.size x pa wt d r me aw rfl rfl hZ4' rfl ?_;intro w5 hZ6 t5;have hb5:=hb4.trans (t5.below (Nat.le_refl _))))
 refine bodyPost_ret (resultsU_c rfl _ w5 w.heap.size x pa wt d r me aw rfl hZ6) rfl ?_
 exact⟨rfl,hb5⟩
end
end Go.Proofs.YtohifgjeebhijaaGreatDoor
namespace Go.Proofs.YtohifgjeebhijaaGreatDoor
set_option maxRecDepth 100000
set_option maxHeartbeats 4000000
open Go.RowKit Go.Maps
def sel (cnt:Int→Nat) (l:List Int):List Int:=l.filter fun y=>decide (0<cnt y)
theorem sel_len (cnt:Int→Nat) (l:List Int):(sel cnt l).length≤l.length:=List.length_filter_le _ _
theorem sel_yes {cnt:Int→Nat} {l:List Int} {k:Nat} (hk:k<l.length) (h:0<cnt (l.getD k 0)):sel cnt (l.take (k+1))=sel cnt (l.take k)++[l.getD k 0]:=by
 unfold sel
 rw[List.take_add_one,List.getElem?_eq_getElem hk,List.filter_append]
 have e:l.getD k 0=l[k]:=by simp[List.getD_eq_getElem?_getD,List.getElem?_eq_getElem hk]
 rw[e] at h ⊢
 simp[h]
theorem sel_no {cnt:Int→Nat} {l:List Int} {k:Nat} (hk:k<l.length) (h: ¬ 0<cnt (l.getD k 0)):sel cnt (l.take (k+1))=sel cnt (l.take k):=by
 unfold sel
 rw[List.take_add_one,List.getElem?_eq_getElem hk,List.filter_append]
 have e:l.getD k 0=l[k]:=by simp[List.getD_eq_getElem?_getD,List.getElem?_eq_getElem hk]
 rw[e] at h
 simp at h
 simp[h]
section
variable (fp B:Nat) (L:List Gr) (l:List Int) (m k:Int)
theorem groupsOf_any (s cm n:Nat) (lv gv rv:Value) (C:Int→Option Value) (cnt:Int→Nat) (g:Int) (w:World) (h:IsF w B fp L l m k) (hs:Blk w s 82 (cellsS fp lv (.map (some cm)) gv rv)) (hc:Mv w cm n C)
  (HC:Hid (∀y∈kids L g,(C y).getD (.int .i64 0)= .int .i64 (cnt y:Int)∧cnt y≤1000)) (hg: ¬g= -1):
  Calls Tryz.prog 99 #[.pointer (some ⟨s,0,none⟩),.int .i64 g] w fun e w'=>(∃a c,e= .returned (.slice a (sel cnt (kids L g)).length c)∧RowO w' w.heap.size (.slice a (sel cnt (kids L g)).length c) (sel cnt (kids L g)))∧Below w.heap.size w w':=by
 have h0:=cS0 hs
 have HK:=Lib.hid (Children_any fp B L l m k g w h hg)
 have HI:Hid (∀y∈kids L g,I64 y):=Lib.hid fun y hy=>by
  have h1:=h.ok.id ((kids_mem h.ok).1 hy).1
  have h2:=h.ok.mle
  have h3:=h.ok.k1
  unfold I64;omega
 have hkl:(kids L g).length≤64:=Nat.le_trans (kids_len L g) h.ok.n64
 have HS:=Lib.hid hs
 have HM:=Lib.hid hc
 obtain⟨r,hr⟩: ∃r,r=w.heap.size:=⟨_,rfl⟩
 have HR:=Lib.hid hr
 clear h hs hc
 generalize kids L g=K at *
 go_enter Tryz.func99,Tryz.ntmps99
 go_wp2_with (first | (go_at_call 117;refine HK.out.mono ?_;rintro e w1 ⟨⟨a,c,rfl,hro⟩,hb⟩))
 rw[←HR.out] at hb hro
 have hr1:r≤w1.heap.size:=by have:=hb.size;have:=HR.out;omega
 clear h0 hr
 go_loopw [15,5] (fun i v wr=>∃(j:Nat) (a:Option Addr) (c:Nat),j≤K.length∧i= .int .i64 (j:Int)∧v= .slice a (sel cnt (K.take j)).length c∧RowO wr w1.heap.size (.slice a (sel cnt (K.take j)).length c) (sel cnt (K.take j))∧Below w1.heap.size w1 wr) (fun i _ _=>K.length - (intOf i).toNat)
 case atStart=>exact⟨0,none,0,Nat.zero_le _,rfl,rfl,RowO.nil _ _,Below.refl _ _⟩
 case round=>
  obtain⟨j,a2,c2,hj,rfl,rfl,hro2,hb2⟩:=hrel
  by_cases hlt:j<K.length
  ·obtain⟨b,rfl,_,_,hcell,_⟩:=(hro.below hb2).at hlt
   have hy:=getD_mem hlt
   have HY:=Lib.hid hy
   have hcn:=HC.out _ hy
   have hbw:Below w.heap.size w wr:=by have e:=HR.out;rw[←e];exact hb.trans (hb2.mono hr1)
   have hk2:=cS2 (HS.out.below hbw)
   have hlk:=(HM.out.below hbw).look Tryz.underlying80 (zeroI wr) (HI.out _ hy)
   rw[hcn.1] at hlk
   have hcl:=hcn.2
   have h0:=cS0 (HS.out.below hbw)
   have hsl:=sel_len cnt (K.take j)
   have hle:(K.take j).length≤K.length:=by simp;omega
   have e1:=fun h=>sel_yes (cnt:=cnt) hlt h
   have e2:=fun h=>sel_no (cnt:=cnt) hlt h
   clear hcn hy
   generalize K.getD j 0=y at *
   generalize cnt y=cy at *
   by_cases hp:0<cy
   ·have E:=Lib.hid (e1 hp)
    have hp2:(0:Int)<(cy:Int):=by omega
    clear e1 e2
    generalize sel cnt (K.take j)=sl at *
    have hA:=OneAt.new wr y
    have hroa:RowO (wr.alloc (.cells #[.int .i64 y] 3)) w1.heap.size (.slice a2 sl.length c2) sl:=hro2.alloc _
    have hba:Below w1.heap.size w1 (wr.alloc (.cells #[.int .i64 y] 3)):=Below.allocS hb2 _
    go_wp2_with (first | (refine wpList_append rfl _ _ rfl w1.heap.size (.slice a2 sl.length c2) _ sl [y] rfl rfl hba.size hroa hA.src (by simp;omega) ?_;intro v' w2 hro3 hg2;have hb3:=hba.trans (grown_below hroa hba.size hg2)))
    go_round
    case rel=>
     obtain⟨a',c',rfl⟩:=hro3.sl
     exact⟨j+1,a',c',by omega,by go_num,by rw[E.out],by rw[E.out];exact hro3,hb3⟩
    case measure=>simp[intOf];omega
   ·have E:=Lib.hid (e2 hp)
    have hp2:cy=0:=by omega
    subst hp2
    clear e1 e2
    generalize sel cnt (K.take j)=sl at *
    go_wp2_with fail
    go_round
    case rel=>exact⟨j+1,a2,c2,by omega,by go_num,by rw[E.out],by rw[E.out];exact hro2,hb2⟩
    case measure=>simp[intOf];omega
  ·have ej:j=K.length:=by omega
   subst ej
   rw[List.take_length] at hro2 ⊢
   go_wp2_with fail
   go_ret
   exact⟨⟨a2,c2,rfl,hro2.mono (by have e:=HR.out;omega)⟩,by rw[←HR.out];exact hb.trans (hb2.mono hr1)⟩
end
def klI (ls:List Lf) (g:Int) (j:Nat):List Int:=((List.range j).filter fun i=>(lf ls i).1==g).map fun i:Nat=>(i:Int)
theorem klI_len (ls:List Lf) (g:Int) (j:Nat):(klI ls g j).length≤j:=by
 unfold klI
 rw[List.length_map]
 exact Nat.le_trans (List.length_filter_le _ _) (by simp)
theorem klI_yes {ls:List Lf} {g:Int} {j:Nat} (h:(lf ls j).1=g):klI ls g (j+1)=klI ls g j++[(j:Int)]:=by
 unfold klI
 rw[List.range_succ,List.filter_append,List.map_append,List.filter_cons_of_pos (p:=fun i=>(lf ls i).1==g) (a:=j) (l:=[]) (beq_iff_eq.2 h)]
 rfl
theorem klI_no {ls:List Lf} {g:Int} {j:Nat} (h: ¬(lf ls j).1=g):klI ls g (j+1)=klI ls g j:=by
 unfold klI
 rw[List.range_succ,List.filter_append,List.map_append,List.filter_cons_of_neg (p:=fun i=>(lf ls i).1==g) (a:=j) (l:=[]) (fun e=>h (beq_iff_eq.1 e))]
 simp
section
theorem leavesOf_any (s fp:Nat) (lv cv gv rv:Value) (ls:List Lf) (g:Int) (w:World) (hs:Blk w s 82 (cellsS fp lv cv gv rv)) (hl:RowL w lv ls) (h64:ls.length≤64):
  Calls Tryz.prog 100 #[.pointer (some ⟨s,0,none⟩),.int .i64 g] w fun e w'=>(∃a c,e= .returned (.slice a (klI ls g ls.length).length c)∧RowO w' w.heap.size (.slice a (klI ls g ls.length).length c) (klI ls g ls.length))∧Below w.heap.size w w':=by
 have h1:=cS1 hs
 obtain⟨al,cl,rfl⟩:=hl.sl
 have HL:=Lib.hid hl
 clear hs hl
 go_enter Tryz.func100,Tryz.ntmps100
 go_wp2_with fail
 clear h1
 go_loopw [13,5] (fun i v wr=>∃(j:Nat) (a:Option Addr) (c:Nat),j≤ls.length∧i= .int .i64 (j:Int)∧v= .slice a (klI ls g j).length c∧RowO wr w.heap.size (.slice a (klI ls g j).length c) (klI ls g j)∧Below w.heap.size w wr) (fun i _ _=>ls.length - (intOf i).toNat)
 case atStart=>exact⟨0,none,0,Nat.zero_le _,rfl,rfl,RowO.nil _ _,Below.refl _ _⟩
 case round=>
  obtain⟨j,a2,c2,hj,rfl,rfl,hro2,hb2⟩:=hrel
  by_cases hlt:j<ls.length
  ·obtain⟨bl,off,rfl,hx0,hx1,_,_⟩:=(HL.out.below hb2).at hlt
   have hsl:=klI_len ls g j
   have e1:=fun h=>klI_yes (ls:=ls) (g:=g) (j:=j) h
   have e2:=fun h=>klI_no (ls:=ls) (g:=g) (j:=j) h
   generalize lf ls j=x at *
   obtain⟨xg,xw⟩:=x
   dsimp only at hx0 hx1 e1 e2
   have hA:=Blk.new wr 75 #[.int .i64 0,.int .i64 0]
   have hba:Below w.heap.size w (wr.alloc (.cells #[.int .i64 0,.int .i64 0] 75)):=Below.allocS hb2 _
   have hroa:RowO (wr.alloc (.cells #[.int .i64 0,.int .i64 0] 75)) w.heap.size (.slice a2 (klI ls g j).length c2) (klI ls g j):=hro2.alloc _
   have hsz:=hb2.size
   by_cases hp:xg=g
   ·have E:=Lib.hid (e1 hp)
    clear e1 e2
    subst hp
    generalize klI ls xg j=sl at *
    go_wp2_with (first | (refine wpList_alloc75 rfl rfl ?_;generalize wr.alloc (.cells #[.int .i64 0,.int .i64 0] 75)=w6 at *) | (refine wpList_store75 rfl _ _ rfl wr.heap.size xg xw rfl rfl hA rfl ?_;intro w7 hA7 t7;have hx:=cP0 hA7;have hb7:=hba.trans (t7.below hsz);have hro7:=hroa.turn t7 hA (by decide);clear hA t7 hx0 hx1) | (refine wpList_append rfl _ _ rfl w.heap.size (.slice a2 sl.length c2) _ sl [(j:Int)] rfl rfl (Below.allocS hb7 _).size (hro7.alloc _) (OneAt.new w7 (j:Int)).src (by simp;omega) ?_;intro v' w2 hro3 hg2;have hb3:=(Below.allocS hb7 (.cells #[.int .i64 (j:Int)] 3)).trans (grown_below (hro7.alloc (.cells #[.int .i64 (j:Int)] 3)) (Below.allocS hb7 _).size hg2)))
    go_round
    case rel=>
     obtain⟨a',c',rfl⟩:=hro3.sl
     exact⟨j+1,a',c',by omega,by go_num,by rw[E.out],by rw[E.out];exact hro3,hb3⟩
    case measure=>simp[intOf];omega
   ·have E:=Lib.hid (e2 hp)
    have hp2:=beq_ff hp
    clear e1 e2 hp
    generalize klI ls g j=sl at *
    go_wp2_with (first | (refine wpList_alloc75 rfl rfl ?_;generalize wr.alloc (.cells #[.int .i64 0,.int .i64 0] 75)=w6 at *) | (refine wpList_store75 rfl _ _ rfl wr.heap.size xg xw rfl rfl hA rfl ?_;intro w7 hA7 t7;have hx:=cP0 hA7;have hb7:=hba.trans (t7.below hsz);have hro7:=hroa.turn t7 hA (by decide);clear hA t7 hx0 hx1))
    go_round
    case rel=>exact⟨j+1,a2,c2,by omega,by go_num,by rw[E.out],by rw[E.out];exact hro7,hb7⟩
    case measure=>simp[intOf];omega
  ·have ej:j=ls.length:=by omega
   subst ej
   go_wp2_with fail
   go_ret
   exact⟨⟨a2,c2,rfl,hro2⟩,hb2⟩
end
end Go.Proofs.YtohifgjeebhijaaGreatDoor
