/-
  What this claim needs; no condition of its own. Told short by a script from longer texts.
-/
import Derived.Test.YtohifgjeebhijaaGreatDoorZGg
import Derived.Test.YtohifgjeebhijaaGreatDoorZAl
namespace Go.Proofs.YtohifgjeebhijaaGreatDoor
set_option maxRecDepth 100000
set_option maxHeartbeats 4000000
open Go.RowKit Go.Maps Go.Rq
theorem errA_more {L:List Gr} {ls:List Lf} {root online:Int} (h:errA L ls root online=0) (h60:online≤60):errA L ls root (online+1)=0:=by
 have h1:errS L ls root online=0:=by
  unfold errA at h
  split at h
  ·assumption
  ·exact h
 have h2:errS L ls root (online+1)=0:=by
  unfold errS at h1 ⊢
  split at h1
  ·cases h1
  ·rename_i a
   rw[if_neg a]
   split at h1
   ·cases h1
   ·rename_i b
    rw[if_neg (by omega)]
    exact h1
 unfold errA at h ⊢
 rw[if_pos h1] at h
 rw[if_pos h2]
 exact h
theorem shX_more {ls:List Lf} {online:Int} (h:1≤online):shX ls online≤shX ls (online+1)∧0≤shX ls online∧shX ls (online+1)≤((ls.length:Nat):Rat):=by
 unfold shX
 exact⟨Rat.natCast_le_natCast.2 (by omega),Rat.natCast_nonneg,Rat.natCast_le_natCast.2 (by omega)⟩
theorem smore_no (va vl:Value) (root online:Int) (xs:List (Nat×Int×Int)) (ls:List Lf) (w:World) (hx:RowA w va xs) (hl:RowL w vl ls) (_hr:I64 root) (_ho:I64 online) (hn:40<xs.length∨70<ls.length):
  Calls Tryz.prog 6 #[.agg #[va,.int .i64 root,.int .i64 online,vl]] w fun e w'=>e= .returned (.bool true)∧Below w.heap.size w w':=by
 obtain⟨al,cl,rfl⟩:=hl.sl
 have hB:=(Below.refl w.heap.size w).alloc (Nat.le_refl _) (.cells #[va,.int .i64 root,.int .i64 online,.slice al ls.length cl] 25)
 have hT:Blk (w.alloc (.cells #[va,.int .i64 root,.int .i64 online,.slice al ls.length cl] 25)) w.heap.size 25 #[va,.int .i64 root,.int .i64 online,.slice al ls.length cl]:=Blk.new w 25 _
 have hxx:=hx.below hB
 have hll:=hl.below hB
 clear hx hl
 go_enter Tryz.func6,Tryz.ntmps6
 generalize hb1:w.heap.size=b1 at hT
 have HW:=Lib.hid hb1
 have t0:=hT.at 0
 have t1:=hT.at 1
 have t2:=hT.at 2
 have t3:=hT.at 3
 simp only[gA,gB,gC] at t0 t1 t2 t3
 go_wp2_with fail
 clear hb1
 generalize w.alloc (.cells #[va,.int .i64 root,.int .i64 online,.slice al ls.length cl] 25)=w1 at *
 refine(made_no va _ root online xs ls w1 hxx hll hn).mono ?_
 rintro e w2 ⟨⟨r0,m0,a0,n0,c0,rfl⟩,hb⟩
 replace hB:=hB.trans (hb.mono hB.size)
 have hw2:=hB.size
 have hZ:Blk (w2.alloc (.cells #[.int .i64 0,.int .i64 0,.slice none 0 0] 29)) w2.heap.size 29 (cellsF 0 0 (.slice none 0 0)):=Blk.new w2 29 _
 replace hB:=Below.allocS hB (.cells #[.int .i64 0,.int .i64 0,.slice none 0 0] 29)
 clear hb hT t0 t1 t2 t3 hxx hll
 go_wp2_with (first
  | (refine wpList_alloc30 rfl rfl ?_;generalize w2.alloc (.cells #[.int .i64 0,.int .i64 0,.slice none 0 0] 29)=w3 at *)
  | (refine wpList_store30 rfl _ _ rfl w2.heap.size r0 m0 (.slice a0 n0 c0) rfl rfl hZ rfl rfl ?_;intro w5 hZ5 t5;replace hB:=hB.trans (t5.below hw2);clear hZ t5)
  | (go_at_call 10;refine(awake9 _).mono ?_;rintro e w4 ⟨rfl,hb⟩;replace hB:=hB.trans (hb.mono hB.size);clear hb))
 go_ret
 rw[←HW.out]
 exact⟨rfl,hB⟩
theorem smore_many (va vl:Value) (root online:Int) (xs:List (Nat×Int×Int)) (ls:List Lf) (w:World) (hx:RowA w va xs) (hl:RowL w vl ls) (_hr:I64 root) (_ho:I64 online) (h40:xs.length≤40) (h70:ls.length≤70) (hm:60<online):
  Calls Tryz.prog 6 #[.agg #[va,.int .i64 root,.int .i64 online,vl]] w fun e w'=>e= .returned (.bool true)∧Below w.heap.size w w':=by
 obtain⟨al,cl,rfl⟩:=hl.sl
 have hB:=(Below.refl w.heap.size w).alloc (Nat.le_refl _) (.cells #[va,.int .i64 root,.int .i64 online,.slice al ls.length cl] 25)
 have hT:Blk (w.alloc (.cells #[va,.int .i64 root,.int .i64 online,.slice al ls.length cl] 25)) w.heap.size 25 #[va,.int .i64 root,.int .i64 online,.slice al ls.length cl]:=Blk.new w 25 _
 have hxx:=hx.below hB
 have hll:=hl.below hB
 clear hx hl
 go_enter Tryz.func6,Tryz.ntmps6
 generalize hb1:w.heap.size=b1 at hT
 have HW:=Lib.hid hb1
 have t0:=hT.at 0
 have t1:=hT.at 1
 have t2:=hT.at 2
 have t3:=hT.at 3
 simp only[gA,gB,gC] at t0 t1 t2 t3
 go_wp2_with fail
 clear hb1
 generalize w.alloc (.cells #[va,.int .i64 root,.int .i64 online,.slice al ls.length cl] 25)=w1 at *
 refine(made_yes va _ root online xs ls w1 hxx hll h40 h70).mono ?_
 rintro e w2 ⟨⟨fp,vD,L,m,k,rfl,hk,⟨aD,cD,rfl,hG⟩,l,hl40,hF⟩,hb⟩
 replace hB:=hB.trans (hb.mono hB.size)
 have hw2:=hB.size
 have hT2:=hT.below hb
 have hl2:=hll.below hb
 have hZ:Blk (w2.alloc (.cells #[.int .i64 0,.int .i64 0,.slice none 0 0] 29)) w2.heap.size 29 (cellsF 0 0 (.slice none 0 0)):=Blk.new w2 29 _
 have hbz:Below w2.heap.size w2 (w2.alloc (.cells #[.int .i64 0,.int .i64 0,.slice none 0 0] 29)):=(Below.refl _ _).alloc (Nat.le_refl _) _
 have hbt:=hT2.lt
 generalize hBf:w1.heap.size=Bf at hF
 clear hb hT t0 t1 t2 t3 hxx hll hBf
 go_wp2_with (first
  | (refine wpList_alloc30 rfl rfl ?_;generalize w2.alloc (.cells #[.int .i64 0,.int .i64 0,.slice none 0 0] 29)=w3 at *)
  | (refine wpList_store30 rfl _ _ rfl w2.heap.size (40:Int) m (.slice aD L.length cD) rfl rfl hZ rfl rfl ?_;intro w5 hZ5 t5;have hDB:=hbz.trans (t5.below (Nat.le_refl _));have HK:Hid (Kp w w5 Bf fp b1 w2.heap.size va root online al cl aD cD L l m k ls):=Lib.hid ⟨hF.below hDB,hG.below hDB,hT2.below hDB,hl2.below hDB,hZ5,hB.trans (hDB.mono hw2)⟩;generalize w2.heap.size=tD at *;clear hZ t5 hDB hZ5 hbz hl2 hF hG hT2 hB)
  | (go_at_call 10;refine(awake9 _).mono ?_;rintro e w4 ⟨rfl,hb⟩;replace HK:=Lib.hid (HK.out.below hb);clear hb;have t1:=HK.out.c1;have t2:=HK.out.c2;have t3:=HK.out.c3))
 go_ret
 rw[←HW.out]
 exact⟨rfl,HK.out.bel⟩
theorem smore_yes (va vl:Value) (root online:Int) (xs:List (Nat×Int×Int)) (ls:List Lf) (w:World) (hx:RowA w va xs) (hl:RowL w vl ls) (hr:I64 root) (ho:I64 online) (h40:xs.length≤40) (h70:ls.length≤70) (hm: ¬ 60<online):
  Calls Tryz.prog 6 #[.agg #[va,.int .i64 root,.int .i64 online,vl]] w fun e w'=>e= .returned (.bool true)∧Below w.heap.size w w':=by
 have hoi:=ho
 unfold I64 at hoi
 obtain⟨al,cl,rfl⟩:=hl.sl
 have hB:=(Below.refl w.heap.size w).alloc (Nat.le_refl _) (.cells #[va,.int .i64 root,.int .i64 online,.slice al ls.length cl] 25)
 have hT:Blk (w.alloc (.cells #[va,.int .i64 root,.int .i64 online,.slice al ls.length cl] 25)) w.heap.size 25 #[va,.int .i64 root,.int .i64 online,.slice al ls.length cl]:=Blk.new w 25 _
 have hxx:=hx.below hB
 have hll:=hl.below hB
 clear hx hl
 go_enter Tryz.func6,Tryz.ntmps6
 generalize hb1:w.heap.size=b1 at hT
 have HW:=Lib.hid hb1
 have t0:=hT.at 0
 have t1:=hT.at 1
 have t2:=hT.at 2
 have t3:=hT.at 3
 simp only[gA,gB,gC] at t0 t1 t2 t3
 go_wp2_with fail
 clear hb1
 generalize w.alloc (.cells #[va,.int .i64 root,.int .i64 online,.slice al ls.length cl] 25)=w1 at *
 refine(made_yes va _ root online xs ls w1 hxx hll h40 h70).mono ?_
 rintro e w2 ⟨⟨fp,vD,L,m,k,rfl,hk,⟨aD,cD,rfl,hG⟩,l,hl40,hF⟩,hb⟩
 replace hB:=hB.trans (hb.mono hB.size)
 have hw2:=hB.size
 have hT2:=hT.below hb
 have hl2:=hll.below hb
 have hZ:Blk (w2.alloc (.cells #[.int .i64 0,.int .i64 0,.slice none 0 0] 29)) w2.heap.size 29 (cellsF 0 0 (.slice none 0 0)):=Blk.new w2 29 _
 have hbz:Below w2.heap.size w2 (w2.alloc (.cells #[.int .i64 0,.int .i64 0,.slice none 0 0] 29)):=(Below.refl _ _).alloc (Nat.le_refl _) _
 have hbt:=hT2.lt
 generalize hBf:w1.heap.size=Bf at hF
 clear hb hT t0 t1 t2 t3 hxx hll hBf
 go_wp2_with (first
  | (refine wpList_alloc30 rfl rfl ?_;generalize w2.alloc (.cells #[.int .i64 0,.int .i64 0,.slice none 0 0] 29)=w3 at *)
  | (refine wpList_store30 rfl _ _ rfl w2.heap.size (40:Int) m (.slice aD L.length cD) rfl rfl hZ rfl rfl ?_;intro w5 hZ5 t5;have hDB:=hbz.trans (t5.below (Nat.le_refl _));have HK:Hid (Kp w w5 Bf fp b1 w2.heap.size va root online al cl aD cD L l m k ls):=Lib.hid ⟨hF.below hDB,hG.below hDB,hT2.below hDB,hl2.below hDB,hZ5,hB.trans (hDB.mono hw2)⟩;generalize w2.heap.size=tD at *;clear hZ t5 hDB hZ5 hbz hl2 hF hG hT2 hB)
  | (go_at_call 10;refine(awake9 _).mono ?_;rintro e w4 ⟨rfl,hb⟩;replace HK:=Lib.hid (HK.out.below hb);clear hb;have t1:=HK.out.c1;have t2:=HK.out.c2;have t3:=HK.out.c3))
 replace HK:=Lib.hid HK.out.drew
 clear t1 t2 t3
 refine Rd.region (fun X=>X.cell? ⟨b1,1,none⟩=some (.int .i64 root)∧X.cell? ⟨b1,2,none⟩=some (.int .i64 online)∧X.cell? ⟨b1,3,none⟩=some (.slice al ls.length cl)) 14 [0,1,2,3,4,5,6,9,10,11,12,13] [0,1,2,3,4,5,6,7,8,9,10,11,12,13] (by kernel_rfl) (by kernel_rfl) (by kernel_rfl) (by kernel_rfl) rfl ⟨HK.out.c1,HK.out.c2,HK.out.c3⟩ ?_
 generalize w4.drew=w4 at *
 refine Rd.seq_float (.pointer (some ⟨fp,0,none⟩)) (by simp only[gA,gC];rfl) rfl (by rfl) (fun X _=>by go_simp) ?_
 simp only[Act.put,sA,sB,sC]
 refine Rd.seq_float (.pointer (some ⟨b1,1,none⟩)) (by simp only[gA,gB,gC];rfl) rfl (by rfl) (fun X _=>by go_simp) ?_
 simp only[Act.put,sA,sB,sC]
 refine Rd.seq_float (.int .i64 root) (by simp only[gA,gB,gC];rfl) rfl (by rfl) (fun X hX=>by have hx1:=hX.1;clear hX;go_simp) ?_
 simp only[Act.put,sA,sB,sC]
 refine Rd.seq_float (.pointer (some ⟨b1,2,none⟩)) (by simp only[gA,gB,gC];rfl) rfl (by rfl) (fun X _=>by go_simp) ?_
 simp only[Act.put,sA,sB,sC]
 refine Rd.seq_float (.int .i64 online) (by simp only[gA,gB,gC];rfl) rfl (by rfl) (fun X hX=>by have hx1:=hX.2.1;clear hX;go_simp) ?_
 simp only[Act.put,sA,sB,sC]
 refine Rd.seq_float (.pointer (some ⟨b1,3,none⟩)) (by simp only[gA,gB,gC];rfl) rfl (by rfl) (fun X _=>by go_simp) ?_
 simp only[Act.put,sA,sB,sC]
 refine Rd.seq_float (.slice al ls.length cl) (by simp only[gA,gB,gC];rfl) rfl (by rfl) (fun X hX=>by have hx1:=hX.2.2;clear hX;go_simp) ?_
 simp only[Act.put,sA,sB,sC]
 refine Rd.seq_move (by simp only[gA,gB,gC];rfl) rfl (by rfl) (fun K hK=>?_)
 go_simp
 refine(Reals_any _ ls w4 HK.out.R (by omega)).mono ?_
 rintro e w6 ⟨⟨u6,rfl,hu⟩,hb⟩
 obtain⟨ua,uc,rfl⟩:=hu.sl
 replace HK:=Lib.hid (HK.out.below hb)
 clear hb
 refine hK _ _ (fun _=>⟨HK.out.c1,HK.out.c2,HK.out.c3⟩) ?_
 clear hK K
 refine Rd.seq_move (by simp only[gA,gB,gC];rfl) rfl (by rfl) (fun K hK=>?_)
 go_simp
 refine(Rates_any fp _ L l m k ua uc ls root online w6 HK.out.F hu hr (by omega)).mono ?_
 rintro e w7 ⟨⟨vrw7,rfl,hok,hno⟩,hb⟩
 have HOKw7:=Lib.hid hok
 have HNOw7:=Lib.hid hno
 replace HK:=Lib.hid (HK.out.below hb)
 clear hb hok hno hu
 refine hK _ _ (fun _=>⟨HK.out.c1,HK.out.c2,HK.out.c3⟩) ?_
 clear hK K
 refine Rd.seq_float (.tuple #[vrw7,.int .i64 (errA L ls root online)]) (by simp only[gA,gB,gC];rfl) rfl (by rfl) (fun X _=>by go_simp) ?_
 simp only[Act.put,sA,sB,sC]
 refine Rd.seq_float (vrw7) (by simp only[gA,gB,gC];rfl) rfl (by rfl) (fun X _=>by go_simp) ?_
 simp only[Act.put,sA,sB,sC]
 refine Rd.seq_float (.int .i64 (errA L ls root online)) (by simp only[gA,gB,gC];rfl) rfl (by rfl) (fun X _=>by go_simp) ?_
 simp only[Act.put,sA,sB,sC]
 refine Rd.seq_float (vrw7) (by simp only[gA,gB,gC];rfl) rfl (by rfl) (fun X _=>by go_simp) ?_
 simp only[Act.put,sA,sB,sC]
 refine Rd.seq_float (.int .i64 (errA L ls root online)) (by simp only[gA,gB,gC];rfl) rfl (by rfl) (fun X _=>by go_simp) ?_
 simp only[Act.put,sA,sB,sC]
 refine Rd.seq_end ?_
 by_cases hA:errA L ls root online=0
 ·have hA':=errA_more hA (by omega)
  rw[hA]
  obtain⟨F,ho1,ho2,hfw⟩:=errA_ok HK.out.F.ok hA
  have HR0:=HOKw7.out hA
  obtain⟨⟨ar,nr,cr⟩,rfl,hrow⟩:=HR0.sl
  have hnr:nr=ls.length:=by have h:=hrow.len;rw[rlist_len] at h;exact h
  subst hnr
  have HR:=Lib.hid hrow
  clear HR0 hrow
  have hsx:=shX_more (ls:=ls) ho1
  have HMO:Hid (∀j,j<ls.length→(rlist L ls root online).getD j 0≤(rlist L ls root (online+1)).getD j 0):=Lib.hid fun j hj=>by rw[rlist_at hj,rlist_at hj];exact leaf_more F hsx.2.1 hsx.1 hsx.2.2 hj
  clear hfw HOKw7 HNOw7 hsx
  have t1:=HK.out.c1
  have t2:=HK.out.c2
  have t3:=HK.out.c3
  go_wp2_with fail
  replace HK:=Lib.hid HK.out.drew
  replace HR:=Lib.hid (HR.out.below2 ((Same.drew w7).below _))
  clear t1 t2 t3
  refine Rd.region (fun X=>X.cell? ⟨b1,1,none⟩=some (.int .i64 root)∧X.cell? ⟨b1,2,none⟩=some (.int .i64 online)∧X.cell? ⟨b1,3,none⟩=some (.slice al ls.length cl)) 15 [0,1,2,3,4,5,6,7,10,11,12,13,14] [0,1,2,3,4,5,6,7,8,9,10,11,12,13,14] (by kernel_rfl) (by kernel_rfl) (by kernel_rfl) (by kernel_rfl) rfl ⟨HK.out.c1,HK.out.c2,HK.out.c3⟩ ?_
  generalize w7.drew=w7 at *
  refine Rd.seq_float (.pointer (some ⟨fp,0,none⟩)) (by simp only[gA,gC];rfl) rfl (by rfl) (fun X _=>by go_simp) ?_
  simp only[Act.put,sA,sB,sC]
  refine Rd.seq_float (.pointer (some ⟨b1,1,none⟩)) (by simp only[gA,gB,gC];rfl) rfl (by rfl) (fun X _=>by go_simp) ?_
  simp only[Act.put,sA,sB,sC]
  refine Rd.seq_float (.int .i64 root) (by simp only[gA,gB,gC];rfl) rfl (by rfl) (fun X hX=>by have hx1:=hX.1;clear hX;go_simp) ?_
  simp only[Act.put,sA,sB,sC]
  refine Rd.seq_float (.pointer (some ⟨b1,2,none⟩)) (by simp only[gA,gB,gC];rfl) rfl (by rfl) (fun X _=>by go_simp) ?_
  simp only[Act.put,sA,sB,sC]
  refine Rd.seq_float (.int .i64 online) (by simp only[gA,gB,gC];rfl) rfl (by rfl) (fun X hX=>by have hx1:=hX.2.1;clear hX;go_simp) ?_
  simp only[Act.put,sA,sB,sC]
  refine Rd.seq_float (.int .i64 (online+1)) (by simp only[gA,gB,gC];rfl) rfl (by rfl) (fun X _=>by have h:=IntWalk.i64_in (online+1) (by omega);go_simp) ?_
  simp only[Act.put,sA,sB,sC]
  refine Rd.seq_float (.pointer (some ⟨b1,3,none⟩)) (by simp only[gA,gB,gC];rfl) rfl (by rfl) (fun X _=>by go_simp) ?_
  simp only[Act.put,sA,sB,sC]
  refine Rd.seq_float (.slice al ls.length cl) (by simp only[gA,gB,gC];rfl) rfl (by rfl) (fun X hX=>by have hx1:=hX.2.2;clear hX;go_simp) ?_
  simp only[Act.put,sA,sB,sC]
  refine Rd.seq_move (by simp only[gA,gB,gC];rfl) rfl (by rfl) (fun K hK=>?_)
  go_simp
  refine(Reals_any _ ls w7 HK.out.R (by omega)).mono ?_
  rintro e w16 ⟨⟨u6,rfl,hu⟩,hb⟩
  obtain⟨ua,uc,rfl⟩:=hu.sl
  replace HK:=Lib.hid (HK.out.below hb)
  replace HR:=Lib.hid (HR.out.below2 hb)
  clear hb
  refine hK _ _ (fun _=>⟨HK.out.c1,HK.out.c2,HK.out.c3⟩) ?_
  clear hK K
  refine Rd.seq_move (by simp only[gA,gB,gC];rfl) rfl (by rfl) (fun K hK=>?_)
  go_simp
  refine(Rates_any fp _ L l m k ua uc ls root (online+1) w16 HK.out.F hu hr (by omega)).mono ?_
  rintro e w17 ⟨⟨vrw17,rfl,hok,hno⟩,hb⟩
  have HOKw17:=Lib.hid hok
  have HNOw17:=Lib.hid hno
  replace HK:=Lib.hid (HK.out.below hb)
  replace HR:=Lib.hid (HR.out.below2 hb)
  clear hb hok hno hu
  refine hK _ _ (fun _=>⟨HK.out.c1,HK.out.c2,HK.out.c3⟩) ?_
  clear hK K
  refine Rd.seq_float (.tuple #[vrw17,.int .i64 (errA L ls root (online+1))]) (by simp only[gA,gB,gC];rfl) rfl (by rfl) (fun X _=>by go_simp) ?_
  simp only[Act.put,sA,sB,sC]
  refine Rd.seq_float (vrw17) (by simp only[gA,gB,gC];rfl) rfl (by rfl) (fun X _=>by go_simp) ?_
  simp only[Act.put,sA,sB,sC]
  refine Rd.seq_float (.int .i64 (errA L ls root (online+1))) (by simp only[gA,gB,gC];rfl) rfl (by rfl) (fun X _=>by go_simp) ?_
  simp only[Act.put,sA,sB,sC]
  refine Rd.seq_float (vrw17) (by simp only[gA,gB,gC];rfl) rfl (by rfl) (fun X _=>by go_simp) ?_
  simp only[Act.put,sA,sB,sC]
  refine Rd.seq_float (.int .i64 (errA L ls root (online+1))) (by simp only[gA,gB,gC];rfl) rfl (by rfl) (fun X _=>by go_simp) ?_
  simp only[Act.put,sA,sB,sC]
  refine Rd.seq_end ?_
  rw[hA']
  have HR0:=HOKw17.out hA'
  obtain⟨⟨ab,nr,cs⟩,rfl,hrow⟩:=HR0.sl
  have hnr:nr=ls.length:=by have h:=hrow.len;rw[rlist_len] at h;exact h
  subst hnr
  have HS:=Lib.hid hrow
  clear HR0 hrow
  clear HOKw17 HNOw17 hA'
  go_wp2_with fail
  have HK0:=HK
  have HR1:=HR
  have HS1:=HS
  clear HK HR HS
  go_loopw [67] (fun i wr=>∃j:Nat,j≤ls.length∧i= .int .i64 (j:Int)∧Hid (Kp w wr Bf fp b1 tD va root online al cl aD cD L l m k ls)∧Hid (RowQ wr (.slice ar ls.length cr) (rlist L ls root online))∧Hid (RowQ wr (.slice ab ls.length cs) (rlist L ls root (online+1)))) (fun i _=>ls.length - (intOf i).toNat)
  case atStart=>exact⟨0,Nat.zero_le _,rfl,HK0,HR1,HS1⟩
  case round=>
   clear HK0 HR1 HS1
   obtain⟨j,hj,rfl,HK,HR,HS⟩:=hrel
   by_cases hlt:j<ls.length
   ·have HLE:Hid (¬ 0<cmpQ ((rlist L ls root online).getD j 0) ((rlist L ls root (online+1)).getD j 0)):=Lib.hid fun h=>Rat.not_lt.2 (HMO.out j hlt) (cmpQ_gt.1 h)
    replace HK:=Lib.hid HK.out.drew
    replace HR:=Lib.hid (HR.out.below2 ((Same.drew wr).below _))
    replace HS:=Lib.hid (HS.out.below2 ((Same.drew wr).below _))
    obtain⟨B9,p,q,rfl,d0,d1,hqj⟩:=HR.out.at (j:=j) (by rw[rlist_len];exact hlt)
    obtain⟨B8,p2,q2,rfl,d2,d3,hqk⟩:=HS.out.at (j:=j) (by rw[rlist_len];exact hlt)
    have l9:=World.block_lt_of_cell? _ _ d0
    have l8:=World.block_lt_of_cell? _ _ d2
    go_wp2_with fail
    generalize (rlist L ls root online).getD j 0=rj at *
    generalize (rlist L ls root (online+1)).getD j 0=sj at *
    refine Rd.region (fun X=>X.cell? ⟨B9,j*2,none⟩=some (.slice p.a p.n p.c)∧X.cell? ⟨B9,j*2+1,none⟩=some (.slice q.a q.n q.c)∧X.cell? ⟨B8,j*2,none⟩=some (.slice p2.a p2.n p2.c)∧X.cell? ⟨B8,j*2+1,none⟩=some (.slice q2.a q2.n q2.c)) 10 [0,1,2,3,4,5,6,7,9] [0,1,2,3,4,5,6,7,8,9] (by kernel_rfl) (by kernel_rfl) (by kernel_rfl) (by kernel_rfl) rfl ⟨d0,d1,d2,d3⟩ ?_
    generalize wr.drew=w9 at *
    refine Rd.seq_float (.slice (some ⟨B9,0,none⟩) ls.length cr) (by simp only[gA,gC];rfl) rfl (by rfl) (fun X _=>by go_simp) ?_
    simp only[Act.put,sA,sB,sC]
    refine Rd.seq_float (.int .i64 (j:Int)) (by simp only[gA,gB,gC];rfl) rfl (by rfl) (fun X _=>by go_simp) ?_
    simp only[Act.put,sA,sB,sC]
    refine Rd.seq_float (.pointer (some ⟨B9,j*2,none⟩)) (by simp only[gA,gB,gC];rfl) rfl (by rfl) (fun X _=>by go_simp) ?_
    simp only[Act.put,sA,sB,sC]
    refine Rd.seq_float (.agg #[.slice p.a p.n p.c,.slice q.a q.n q.c]) (by simp only[gA,gB,gC];rfl) rfl (by rfl) (fun X hX=>by have hx1:=hX.1;have hx2:=hX.2.1;clear hX;go_simp) ?_
    simp only[Act.put,sA,sB,sC]
    refine Rd.seq_float (.slice (some ⟨B8,0,none⟩) ls.length cs) (by simp only[gA,gB,gC];rfl) rfl (by rfl) (fun X _=>by go_simp) ?_
    simp only[Act.put,sA,sB,sC]
    refine Rd.seq_float (.int .i64 (j:Int)) (by simp only[gA,gB,gC];rfl) rfl (by rfl) (fun X _=>by go_simp) ?_
    simp only[Act.put,sA,sB,sC]
    refine Rd.seq_float (.pointer (some ⟨B8,j*2,none⟩)) (by simp only[gA,gB,gC];rfl) rfl (by rfl) (fun X _=>by go_simp) ?_
    simp only[Act.put,sA,sB,sC]
    refine Rd.seq_float (.agg #[.slice p2.a p2.n p2.c,.slice q2.a q2.n q2.c]) (by simp only[gA,gB,gC];rfl) rfl (by rfl) (fun X hX=>by have hx1:=hX.2.2.1;have hx2:=hX.2.2.2;clear hX;go_simp) ?_
    simp only[Act.put,sA,sB,sC]
    refine Rd.seq_move (by simp only[gA,gB,gC];rfl) rfl (by rfl) (fun K hK=>?_)
    go_simp
    refine(Qcmp p q p2 q2 _ _ _ hqj hqk).mono ?_
    rintro e w11 ⟨rfl,hb⟩
    replace HK:=Lib.hid (HK.out.below hb)
    replace HR:=Lib.hid (HR.out.below2 hb)
    replace HS:=Lib.hid (HS.out.below2 hb)
    have e0:=(hb.cell (p:=⟨B9,j*2,none⟩) l9).trans d0
    have e1:=(hb.cell (p:=⟨B9,j*2+1,none⟩) l9).trans d1
    have e2:=(hb.cell (p:=⟨B8,j*2,none⟩) l8).trans d2
    have e3:=(hb.cell (p:=⟨B8,j*2+1,none⟩) l8).trans d3
    clear hb d0 d1 d2 d3
    refine hK _ _ (fun _=>⟨e0,e1,e2,e3⟩) ?_
    clear hK K
    refine Rd.seq_float (.bool false) (by simp only[gA,gB,gC];rfl) rfl (by rfl) (fun X _=>by have hx1:=HLE.out;go_simp) ?_
    simp only[Act.put,sA,sB,sC]
    refine Rd.seq_end ?_
    go_wp2_with fail
    go_round
    case rel=>exact⟨j+1,by omega,by go_num,HK,HR,HS⟩
    case measure=>simp[intOf];omega
   ·have ej:j=ls.length:=by omega
    subst ej
    go_wp2_with fail
    go_ret
    rw[←HW.out]
    exact⟨rfl,HK.out.bel⟩
 ·have hA2:(errA L ls root online != 0)=true:=by simpa using hA
  clear HOKw7 HNOw7
  go_wp2_with fail
  go_ret
  rw[←HW.out]
  exact⟨rfl,HK.out.bel⟩
theorem smore_any (va vl:Value) (root online:Int) (xs:List (Nat×Int×Int)) (ls:List Lf) (w:World) (hx:RowA w va xs) (hl:RowL w vl ls) (hr:I64 root) (ho:I64 online):
  Calls Tryz.prog 6 #[.agg #[va,.int .i64 root,.int .i64 online,vl]] w fun e w'=>e= .returned (.bool true)∧Below w.heap.size w w':=by
 by_cases hn:40<xs.length∨70<ls.length
 ·exact smore_no va vl root online xs ls w hx hl hr ho hn
 ·by_cases hm:60<online
  ·exact smore_many va vl root online xs ls w hx hl hr ho (by omega) (by omega) hm
  ·exact smore_yes va vl root online xs ls w hx hl hr ho (by omega) (by omega) hm
end Go.Proofs.YtohifgjeebhijaaGreatDoor
