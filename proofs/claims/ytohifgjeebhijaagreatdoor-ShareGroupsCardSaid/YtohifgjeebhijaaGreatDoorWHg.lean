/-
  What this claim needs; no condition of its own. Told short by a script from longer texts.
-/
import Derived.Test.YtohifgjeebhijaaGreatDoorWGg
import Derived.Test.YtohifgjeebhijaaGreatDoorWAl
namespace Go.Proofs.YtohifgjeebhijaaGreatDoor
set_option maxRecDepth 100000
set_option maxHeartbeats 4000000
open Go.RowKit Go.Maps Go.Rq
abbrev nilS:Sl:=⟨none,0,0⟩
theorem groups_no (va vl:Value) (root online:Int) (xs:List (Nat×Int×Int)) (ls:List Lf) (w:World) (hx:RowA w va xs) (hl:RowL w vl ls) (_hr:I64 root) (_ho:I64 online) (hn:40<xs.length∨70<ls.length):
  Calls Tryz.prog 7 #[.agg #[va,.int .i64 root,.int .i64 online,vl]] w fun e w'=>e= .returned (.bool true)∧Below w.heap.size w w':=by
 obtain⟨al,cl,rfl⟩:=hl.sl
 have hB:=(Below.refl w.heap.size w).alloc (Nat.le_refl _) (.cells #[va,.int .i64 root,.int .i64 online,.slice al ls.length cl] 25)
 have hT:Blk (w.alloc (.cells #[va,.int .i64 root,.int .i64 online,.slice al ls.length cl] 25)) w.heap.size 25 #[va,.int .i64 root,.int .i64 online,.slice al ls.length cl]:=Blk.new w 25 _
 have hxx:=hx.below hB
 have hll:=hl.below hB
 clear hx hl
 go_enter Tryz.func7,Tryz.ntmps7
 generalize hb1:w.heap.size=b1 at hT
 have HW:=Lib.hid hb1
 have t0:=hT.at 0
 have t1:=hT.at 1
 have t2:=hT.at 2
 have t3:=hT.at 3
 simp only[gA,gB,gC] at t0 t1 t2 t3
 go_wp2_with fail
 clear hb1
 generalize w.alloc (.cells #[va,.int .i64 root,.int .i64 online,.slice al ls.length cl] 25)=w1 at *
 refine(made_no va _ root online xs ls w1 hxx hll hn).mono ?_
 rintro e w2 ⟨⟨r0,m0,a0,n0,c0,rfl⟩,hb⟩
 replace hB:=hB.trans (hb.mono hB.size)
 have hw2:=hB.size
 have hZ:Blk (w2.alloc (.cells #[.int .i64 0,.int .i64 0,.slice none 0 0] 29)) w2.heap.size 29 (cellsF 0 0 (.slice none 0 0)):=Blk.new w2 29 _
 replace hB:=Below.allocS hB (.cells #[.int .i64 0,.int .i64 0,.slice none 0 0] 29)
 clear hb hT t0 t1 t2 t3 hxx hll
 go_wp2_with (first
  | (refine wpList_alloc30 rfl rfl ?_;generalize w2.alloc (.cells #[.int .i64 0,.int .i64 0,.slice none 0 0] 29)=w3 at *)
  | (refine wpList_store30 rfl _ _ rfl w2.heap.size r0 m0 (.slice a0 n0 c0) rfl rfl hZ rfl rfl ?_;intro w5 hZ5 t5;replace hB:=hB.trans (t5.below hw2);clear hZ t5)
  | (go_at_call 10;refine(awake9 _).mono ?_;rintro e w4 ⟨rfl,hb⟩;replace hB:=hB.trans (hb.mono hB.size);clear hb))
 go_ret
 rw[←HW.out]
 exact⟨rfl,hB⟩
theorem groups_yes (va vl:Value) (root online:Int) (xs:List (Nat×Int×Int)) (ls:List Lf) (w:World) (hx:RowA w va xs) (hl:RowL w vl ls) (hr:I64 root) (_ho:I64 online) (h40:xs.length≤40) (h70:ls.length≤70):
  Calls Tryz.prog 7 #[.agg #[va,.int .i64 root,.int .i64 online,vl]] w fun e w'=>e= .returned (.bool true)∧Below w.heap.size w w':=by
 obtain⟨al,cl,rfl⟩:=hl.sl
 have hB:=(Below.refl w.heap.size w).alloc (Nat.le_refl _) (.cells #[va,.int .i64 root,.int .i64 online,.slice al ls.length cl] 25)
 have hT:Blk (w.alloc (.cells #[va,.int .i64 root,.int .i64 online,.slice al ls.length cl] 25)) w.heap.size 25 #[va,.int .i64 root,.int .i64 online,.slice al ls.length cl]:=Blk.new w 25 _
 have hxx:=hx.below hB
 have hll:=hl.below hB
 clear hx hl
 go_enter Tryz.func7,Tryz.ntmps7
 generalize hb1:w.heap.size=b1 at hT
 have HW:=Lib.hid hb1
 have t0:=hT.at 0
 have t1:=hT.at 1
 have t2:=hT.at 2
 have t3:=hT.at 3
 simp only[gA,gB,gC] at t0 t1 t2 t3
 go_wp2_with fail
 clear hb1
 generalize w.alloc (.cells #[va,.int .i64 root,.int .i64 online,.slice al ls.length cl] 25)=w1 at *
 refine(made_yes va _ root online xs ls w1 hxx hll h40 h70).mono ?_
 rintro e w2 ⟨⟨fp,vD,L,m,k,rfl,hk,⟨aD,cD,rfl,hG⟩,l,hl40,hF⟩,hb⟩
 replace hB:=hB.trans (hb.mono hB.size)
 have hw2:=hB.size
 have hT2:=hT.below hb
 have hl2:=hll.below hb
 have hZ:Blk (w2.alloc (.cells #[.int .i64 0,.int .i64 0,.slice none 0 0] 29)) w2.heap.size 29 (cellsF 0 0 (.slice none 0 0)):=Blk.new w2 29 _
 have hbz:Below w2.heap.size w2 (w2.alloc (.cells #[.int .i64 0,.int .i64 0,.slice none 0 0] 29)):=(Below.refl _ _).alloc (Nat.le_refl _) _
 have hbt:=hT2.lt
 generalize hBf:w1.heap.size=Bf at hF
 clear hb hT t0 t1 t2 t3 hxx hll hBf
 go_wp2_with (first
  | (refine wpList_alloc30 rfl rfl ?_;generalize w2.alloc (.cells #[.int .i64 0,.int .i64 0,.slice none 0 0] 29)=w3 at *)
  | (refine wpList_store30 rfl _ _ rfl w2.heap.size (40:Int) m (.slice aD L.length cD) rfl rfl hZ rfl rfl ?_;intro w5 hZ5 t5;have hDB:=hbz.trans (t5.below (Nat.le_refl _));have HK:Hid (Kp w w5 Bf fp b1 w2.heap.size va root online al cl aD cD L l m k ls):=Lib.hid ⟨hF.below hDB,hG.below hDB,hT2.below hDB,hl2.below hDB,hZ5,hB.trans (hDB.mono hw2)⟩;generalize w2.heap.size=tD at *;clear hZ t5 hDB hZ5 hbz hl2 hF hG hT2 hB)
  | (go_at_call 10;refine(awake9 _).mono ?_;rintro e w4 ⟨rfl,hb⟩;replace HK:=Lib.hid (HK.out.below hb);clear hb;have t1:=HK.out.c1;have t2:=HK.out.c2;have t3:=HK.out.c3))
 replace HK:=Lib.hid HK.out.drew
 clear t1 t2 t3
 refine Rd.region (fun X=>X.cell? ⟨b1,1,none⟩=some (.int .i64 root)∧X.cell? ⟨b1,2,none⟩=some (.int .i64 online)∧X.cell? ⟨b1,3,none⟩=some (.slice al ls.length cl)) 14 [0,1,2,3,4,5,6,9,10,11,12,13] [0,1,2,3,4,5,6,7,8,9,10,11,12,13] (by kernel_rfl) (by kernel_rfl) (by kernel_rfl) (by kernel_rfl) rfl ⟨HK.out.c1,HK.out.c2,HK.out.c3⟩ ?_
 generalize w4.drew=w4 at *
 refine Rd.seq_float (.pointer (some ⟨fp,0,none⟩)) (by simp only[gA,gC];rfl) rfl (by rfl) (fun X _=>by go_simp) ?_
 simp only[Act.put,sA,sB,sC]
 refine Rd.seq_float (.pointer (some ⟨b1,1,none⟩)) (by simp only[gA,gB,gC];rfl) rfl (by rfl) (fun X _=>by go_simp) ?_
 simp only[Act.put,sA,sB,sC]
 refine Rd.seq_float (.int .i64 root) (by simp only[gA,gB,gC];rfl) rfl (by rfl) (fun X hX=>by have hx1:=hX.1;clear hX;go_simp) ?_
 simp only[Act.put,sA,sB,sC]
 refine Rd.seq_float (.pointer (some ⟨b1,2,none⟩)) (by simp only[gA,gB,gC];rfl) rfl (by rfl) (fun X _=>by go_simp) ?_
 simp only[Act.put,sA,sB,sC]
 refine Rd.seq_float (.int .i64 online) (by simp only[gA,gB,gC];rfl) rfl (by rfl) (fun X hX=>by have hx1:=hX.2.1;clear hX;go_simp) ?_
 simp only[Act.put,sA,sB,sC]
 refine Rd.seq_float (.pointer (some ⟨b1,3,none⟩)) (by simp only[gA,gB,gC];rfl) rfl (by rfl) (fun X _=>by go_simp) ?_
 simp only[Act.put,sA,sB,sC]
 refine Rd.seq_float (.slice al ls.length cl) (by simp only[gA,gB,gC];rfl) rfl (by rfl) (fun X hX=>by have hx1:=hX.2.2;clear hX;go_simp) ?_
 simp only[Act.put,sA,sB,sC]
 refine Rd.seq_move (by simp only[gA,gB,gC];rfl) rfl (by rfl) (fun K hK=>?_)
 go_simp
 refine(Reals_any _ ls w4 HK.out.R (by omega)).mono ?_
 rintro e w6 ⟨⟨u6,rfl,hu⟩,hb⟩
 obtain⟨ua,uc,rfl⟩:=hu.sl
 replace HK:=Lib.hid (HK.out.below hb)
 clear hb
 refine hK _ _ (fun _=>⟨HK.out.c1,HK.out.c2,HK.out.c3⟩) ?_
 clear hK K
 refine Rd.seq_move (by simp only[gA,gB,gC];rfl) rfl (by rfl) (fun K hK=>?_)
 go_simp
 refine(Rates_any fp _ L l m k ua uc ls root online w6 HK.out.F hu hr (by omega)).mono ?_
 rintro e w7 ⟨⟨vrw7,rfl,hok,hno⟩,hb⟩
 have HOKw7:=Lib.hid hok
 have HNOw7:=Lib.hid hno
 replace HK:=Lib.hid (HK.out.below hb)
 clear hb hok hno hu
 refine hK _ _ (fun _=>⟨HK.out.c1,HK.out.c2,HK.out.c3⟩) ?_
 clear hK K
 refine Rd.seq_float (.tuple #[vrw7,.int .i64 (errA L ls root online)]) (by simp only[gA,gB,gC];rfl) rfl (by rfl) (fun X _=>by go_simp) ?_
 simp only[Act.put,sA,sB,sC]
 refine Rd.seq_float (vrw7) (by simp only[gA,gB,gC];rfl) rfl (by rfl) (fun X _=>by go_simp) ?_
 simp only[Act.put,sA,sB,sC]
 refine Rd.seq_float (.int .i64 (errA L ls root online)) (by simp only[gA,gB,gC];rfl) rfl (by rfl) (fun X _=>by go_simp) ?_
 simp only[Act.put,sA,sB,sC]
 refine Rd.seq_float (vrw7) (by simp only[gA,gB,gC];rfl) rfl (by rfl) (fun X _=>by go_simp) ?_
 simp only[Act.put,sA,sB,sC]
 refine Rd.seq_float (.int .i64 (errA L ls root online)) (by simp only[gA,gB,gC];rfl) rfl (by rfl) (fun X _=>by go_simp) ?_
 simp only[Act.put,sA,sB,sC]
 refine Rd.seq_end ?_
 by_cases hA:errA L ls root online=0
 ·obtain⟨F,ho1,ho2,hfw⟩:=errA_ok HK.out.F.ok hA
  have n64:=F.n64
  have HR0:=HOKw7.out hA
  obtain⟨⟨ar,nr,cr⟩,rfl,hrow⟩:=HR0.sl
  have hnr:nr=ls.length:=by have h:=hrow.len;rw[rlist_len] at h;exact h
  subst hnr
  have HR:=Lib.hid hrow
  clear HR0 hrow
  have HLF:Hid (∀j,j<ls.length→(rlist L ls root online).getD j 0=leafR L ls root (shX ls online) j):=Lib.hid fun j hj=>rlist_at hj
  have HSZ:Hid (∀y j,j≤ls.length→Sz (sumI (leafR L ls root (shX ls online)) (bs L ls y j))):=Lib.hid fun y j hj=>part_sz F ho1 hfw _ (fun i hi=>Nat.lt_of_lt_of_le (bs_mem hi) hj) (by have:=bs_len L ls y j;omega)
  have hsr:=shX_range ls online
  have HALL:Hid (∀y,belowB L y root=true→sumI (leafR L ls root (shX ls online)) (bs L ls y ls.length)=rate L ls root (shX ls online) y∧rate L ls root (shX ls online) y≤((many L ls y:Nat):Rat)):=Lib.hid fun y hy=>⟨by rw[bs_all];exact sum_rate F hsr.1 hsr.2 9 y hy (by omega),(rate_range F hsr.1 hsr.2 (pth L y).length y hy (Nat.le_refl _)).2⟩
  have HRT:Hid (belowB L root root=true∧many L ls root=ls.length∧rate L ls root (shX ls online) root=shX ls online):=Lib.hid ⟨F.self,many_root F,rate_root _⟩
  have HHL:Hid (∀j,j<ls.length→has L (lf ls j).1=true):=Lib.hid fun j hj=>below_has (F.grp hj)
  have HOKL:=Lib.hid F.ok
  have HA:=Lib.hid hA
  clear hsr F hfw HOKw7 HNOw7 hA
  have t1:=HK.out.c1
  have t2:=HK.out.c2
  have t3:=HK.out.c3
  go_wp2_with fail
  replace HK:=Lib.hid HK.out.drew
  replace HR:=Lib.hid (HR.out.below2 ((Same.drew w7).below _))
  clear t1 t2 t3
  refine Rd.region (fun X=>X.cell? ⟨b1,1,none⟩=some (.int .i64 root)∧X.cell? ⟨b1,2,none⟩=some (.int .i64 online)∧X.cell? ⟨b1,3,none⟩=some (.slice al ls.length cl)) 14 [0,1,2,3,4,5,6,9,10,11,12,13] [0,1,2,3,4,5,6,7,8,9,10,11,12,13] (by kernel_rfl) (by kernel_rfl) (by kernel_rfl) (by kernel_rfl) rfl ⟨HK.out.c1,HK.out.c2,HK.out.c3⟩ ?_
  generalize w7.drew=w7 at *
  refine Rd.seq_float (.pointer (some ⟨fp,0,none⟩)) (by simp only[gA,gC];rfl) rfl (by rfl) (fun X _=>by go_simp) ?_
  simp only[Act.put,sA,sB,sC]
  refine Rd.seq_float (.pointer (some ⟨b1,1,none⟩)) (by simp only[gA,gB,gC];rfl) rfl (by rfl) (fun X _=>by go_simp) ?_
  simp only[Act.put,sA,sB,sC]
  refine Rd.seq_float (.int .i64 root) (by simp only[gA,gB,gC];rfl) rfl (by rfl) (fun X hX=>by have hx1:=hX.1;clear hX;go_simp) ?_
  simp only[Act.put,sA,sB,sC]
  refine Rd.seq_float (.pointer (some ⟨b1,2,none⟩)) (by simp only[gA,gB,gC];rfl) rfl (by rfl) (fun X _=>by go_simp) ?_
  simp only[Act.put,sA,sB,sC]
  refine Rd.seq_float (.int .i64 online) (by simp only[gA,gB,gC];rfl) rfl (by rfl) (fun X hX=>by have hx1:=hX.2.1;clear hX;go_simp) ?_
  simp only[Act.put,sA,sB,sC]
  refine Rd.seq_float (.pointer (some ⟨b1,3,none⟩)) (by simp only[gA,gB,gC];rfl) rfl (by rfl) (fun X _=>by go_simp) ?_
  simp only[Act.put,sA,sB,sC]
  refine Rd.seq_float (.slice al ls.length cl) (by simp only[gA,gB,gC];rfl) rfl (by rfl) (fun X hX=>by have hx1:=hX.2.2;clear hX;go_simp) ?_
  simp only[Act.put,sA,sB,sC]
  refine Rd.seq_move (by simp only[gA,gB,gC];rfl) rfl (by rfl) (fun K hK=>?_)
  go_simp
  refine(Reals_any _ ls w7 HK.out.R (by omega)).mono ?_
  rintro e w16 ⟨⟨u6,rfl,hu⟩,hb⟩
  obtain⟨ua,uc,rfl⟩:=hu.sl
  replace HK:=Lib.hid (HK.out.below hb)
  replace HR:=Lib.hid (HR.out.below2 hb)
  clear hb
  refine hK _ _ (fun _=>⟨HK.out.c1,HK.out.c2,HK.out.c3⟩) ?_
  clear hK K
  refine Rd.seq_move (by simp only[gA,gB,gC];rfl) rfl (by rfl) (fun K hK=>?_)
  go_simp
  refine(Groups_any fp _ L l m k ua uc ls root online w16 HK.out.F hu hr (by omega)).mono ?_
  rintro e w17 ⟨⟨vrw17,rfl,hok,hno⟩,hb⟩
  have HOKw17:=Lib.hid hok
  have HNOw17:=Lib.hid hno
  replace HK:=Lib.hid (HK.out.below hb)
  replace HR:=Lib.hid (HR.out.below2 hb)
  clear hb hok hno hu
  refine hK _ _ (fun _=>⟨HK.out.c1,HK.out.c2,HK.out.c3⟩) ?_
  clear hK K
  refine Rd.seq_float (.tuple #[vrw17,.int .i64 (errA L ls root online)]) (by simp only[gA,gB,gC];rfl) rfl (by rfl) (fun X _=>by go_simp) ?_
  simp only[Act.put,sA,sB,sC]
  refine Rd.seq_float (vrw17) (by simp only[gA,gB,gC];rfl) rfl (by rfl) (fun X _=>by go_simp) ?_
  simp only[Act.put,sA,sB,sC]
  refine Rd.seq_float (.int .i64 (errA L ls root online)) (by simp only[gA,gB,gC];rfl) rfl (by rfl) (fun X _=>by go_simp) ?_
  simp only[Act.put,sA,sB,sC]
  refine Rd.seq_float (vrw17) (by simp only[gA,gB,gC];rfl) rfl (by rfl) (fun X _=>by go_simp) ?_
  simp only[Act.put,sA,sB,sC]
  refine Rd.seq_float (.int .i64 (errA L ls root online)) (by simp only[gA,gB,gC];rfl) rfl (by rfl) (fun X _=>by go_simp) ?_
  simp only[Act.put,sA,sB,sC]
  refine Rd.seq_end ?_
  rw[HA.out] at *
  obtain⟨gm,N,rfl,hgm⟩:=HOKw17.out rfl
  obtain⟨V,hV,hS⟩:=hgm
  have HV:=Lib.hid hV
  have HSV:Hid (∀x,((belowB L x root&&decide (0<many L ls x))=false→V x=none)∧((belowB L x root&&decide (0<many L ls x))=true→∃p q:Sl,V x=some (.agg #[.slice p.a p.n p.c,.slice q.a q.n q.c])∧RQ w17 p q (rate L ls root (shX ls online) x))):=Lib.hid hS
  clear HOKw17 HNOw17 hS
  go_wp2_with (first | (at_range;refine wpList_rangeV rfl _ Tryz.underlying39 rfl rfl hV ?_;intro w0 cnt hr0 hb0))
  clear hV
  have HB0:=Lib.hid hb0
  have HR0:=Lib.hid hr0
  clear hb0 hr0
  go_loopw [66] (fun _ wr=>∃(vs:List Int) (cnt:Nat),Hid (Rv wr gm w17.heap.size N V vs cnt)∧Hid (Below w17.heap.size w17 wr)) (fun _ wr=>wr.rangeLeft gm w17.heap.size)
  case atStart=>exact⟨[],cnt,HR0,HB0⟩
  case round=>
   clear HR0 HB0
   obtain⟨vs,cnt,HRV,HWL⟩:=hrel
   have hrv:=HRV.out
   clear HRV
   go_wp2_with (first | (at_next;refine wpList_nextV rfl _ rfl rfl hrv ?_ ?_))
   ·intro _
    have hVr:=HV.out.below HWL.out
    have hlk:=hVr.look2 Tryz.underlying39 (zero49 wr) hr
    replace HK:=Lib.hid (HK.out.below HWL.out)
    have t1:=HK.out.c1
    have hb4:Below wr.heap.size wr (wr.alloc (.cells #[.slice none 0 0,.slice none 0 0] 49)):=(Below.refl _ _).alloc (Nat.le_refl _) _
    have hA4:Blk (wr.alloc (.cells #[.slice none 0 0,.slice none 0 0] 49)) wr.heap.size 49 #[.slice none 0 0,.slice none 0 0]:=Blk.new wr 49 _
    clear hVr hrv
    by_cases hlen:0<ls.length
    ·have hSr:(belowB L root root&&decide (0<many L ls root))=true:=by rw[HRT.out.1,HRT.out.2.1];simpa using hlen
     obtain⟨px,qx,hVy,hqx⟩:=(HSV.out root).2 hSr
     rw[HRT.out.2.2] at hqx
     rw[hVy] at hlk
     simp only[Option.getD_some,Option.isSome_some] at hlk
     replace hqx:=hqx.below HWL.out
     have HLN:=Lib.hid hlen
     have hmin:((min online.toNat ls.length:Nat):Int)=min online (ls.length:Int):=by omega
     have HQI:=Lib.hid (fun W=>Qint (min online.toNat ls.length) (by omega) W)
     rw[hmin] at HQI
     have HEQ:Hid (shX ls online=((min online.toNat ls.length:Nat):Rat)):=Lib.hid rfl
     clear hmin hSr hVy hlen
     go_wp2_with (first
      | (refine wpList_alloc49 rfl rfl ?_;generalize wr.alloc (.cells #[.slice none 0 0,.slice none 0 0] 49)=w21 at *)
      | (refine wpList_store49 rfl _ _ rfl wr.heap.size px qx rfl rfl hA4 rfl ?_;intro w22 hS8 t22;have hb:=hb4.trans (t22.below (Nat.le_refl _));replace HK:=Lib.hid (HK.out.below hb);replace hqx:=hqx.below hb;clear hA4 t22 hb4 hb))
     generalize wr.heap.size=b16 at *
     replace HK:=Lib.hid (HK.out.below (Below.drewS (Below.refl _ _)))
     replace hS8:=hS8.drew
     replace hqx:=hqx.below ((Same.drew w22).below _)
     refine Rd.region (fun X=>X.cell? ⟨b16,0,none⟩=some (.slice px.a px.n px.c)∧X.cell? ⟨b16,1,none⟩=some (.slice qx.a qx.n qx.c)∧X.cell? ⟨b1,3,none⟩=some (.slice al ls.length cl)∧X.cell? ⟨b1,2,none⟩=some (.int .i64 online)) 23 [0,1,2,3,4,5,6,7,8,9,10,11,12,13,14,15,16,19,20,21,22] [0,1,2,3,4,5,6,7,8,9,10,11,12,13,14,15,16,17,18,19,20,21,22] (by kernel_rfl) (by kernel_rfl) (by kernel_rfl) (by kernel_rfl) rfl ⟨cQ0 hS8,cQ1 hS8,HK.out.c3,HK.out.c2⟩ ?_
     generalize w22.drew=w9 at *
     refine Rd.seq_float (.bool true) (by simp only[gA,gC];rfl) rfl (by rfl) (fun X _=>by go_simp) ?_
     simp only[Act.put,sA,sB,sC]
     refine Rd.seq_float (.pointer (some ⟨b1,3,none⟩)) (by simp only[gA,gB,gC];rfl) rfl (by rfl) (fun X _=>by go_simp) ?_
     simp only[Act.put,sA,sB,sC]
     refine Rd.seq_float (.slice al ls.length cl) (by simp only[gA,gB,gC];rfl) rfl (by rfl) (fun X hX=>by have hx1:=hX.2.2.1;clear hX;go_simp) ?_
     simp only[Act.put,sA,sB,sC]
     refine Rd.seq_float (.int .i64 (ls.length:Int)) (by simp only[gA,gB,gC];rfl) rfl (by rfl) (fun X _=>by go_simp) ?_
     simp only[Act.put,sA,sB,sC]
     refine Rd.seq_float (.bool true) (by simp only[gA,gB,gC];rfl) rfl (by rfl) (fun X _=>by have hx1:=HLN.out;go_simp<;>omega) ?_
     simp only[Act.put,sA,sB,sC]
     refine Rd.seq_float (.bool true) (by simp only[gA,gB,gC];rfl) rfl (by rfl) (fun X _=>by go_simp) ?_
     simp only[Act.put,sA,sB,sC]
     refine Rd.seq_float (.bool true) (by simp only[gA,gB,gC];rfl) rfl (by rfl) (fun X _=>by go_simp) ?_
     simp only[Act.put,sA,sB,sC]
     refine Rd.seq_float (.bool true) (by simp only[gA,gB,gC];rfl) rfl (by rfl) (fun X _=>by go_simp) ?_
     simp only[Act.put,sA,sB,sC]
     refine Rd.seq_float (.bool false) (by simp only[gA,gB,gC];rfl) rfl (by rfl) (fun X _=>by go_simp) ?_
     simp only[Act.put,sA,sB,sC]
     refine Rd.seq_float (.bool false) (by simp only[gA,gB,gC];rfl) rfl (by rfl) (fun X _=>by go_simp) ?_
     simp only[Act.put,sA,sB,sC]
     refine Rd.seq_float (.agg #[.slice px.a px.n px.c,.slice qx.a qx.n qx.c]) (by simp only[gA,gB,gC];rfl) rfl (by rfl) (fun X hX=>by have hx1:=hX.1;have hx2:=hX.2.1;clear hX;go_simp) ?_
     simp only[Act.put,sA,sB,sC]
     refine Rd.seq_float (.pointer (some ⟨b1,2,none⟩)) (by simp only[gA,gB,gC];rfl) rfl (by rfl) (fun X _=>by go_simp) ?_
     simp only[Act.put,sA,sB,sC]
     refine Rd.seq_float (.int .i64 online) (by simp only[gA,gB,gC];rfl) rfl (by rfl) (fun X hX=>by have hx1:=hX.2.2.2;clear hX;go_simp) ?_
     simp only[Act.put,sA,sB,sC]
     refine Rd.seq_float (.pointer (some ⟨b1,3,none⟩)) (by simp only[gA,gB,gC];rfl) rfl (by rfl) (fun X _=>by go_simp) ?_
     simp only[Act.put,sA,sB,sC]
     refine Rd.seq_float (.slice al ls.length cl) (by simp only[gA,gB,gC];rfl) rfl (by rfl) (fun X hX=>by have hx1:=hX.2.2.1;clear hX;go_simp) ?_
     simp only[Act.put,sA,sB,sC]
     refine Rd.seq_float (.int .i64 (ls.length:Int)) (by simp only[gA,gB,gC];rfl) rfl (by rfl) (fun X _=>by go_simp) ?_
     simp only[Act.put,sA,sB,sC]
     refine Rd.seq_float (.int .i64 (min online (ls.length:Int))) (by simp only[gA,gB,gC];rfl) rfl (by rfl) (fun X _=>by go_simp) ?_
     simp only[Act.put,sA,sB,sC]
     refine Rd.seq_move (by simp only[gA,gB,gC];rfl) rfl (by rfl) (fun K hK=>?_)
     go_simp
     refine(HQI.out w9).mono ?_
     rintro e w20 ⟨p1,q1,rfl,hq1,hb⟩
     replace hS8:=hS8.below hb
     replace hqx:=hqx.below hb
     replace HK:=Lib.hid (HK.out.below hb)
     clear hb
     refine hK _ _ (fun _=>⟨cQ0 hS8,cQ1 hS8,HK.out.c3,HK.out.c2⟩) ?_
     clear hK K
     refine Rd.seq_move (by simp only[gA,gB,gC];rfl) rfl (by rfl) (fun K hK=>?_)
     go_simp
     refine(Qcmp px qx p1 q1 _ _ _ hqx hq1).mono ?_
     rintro e w21 ⟨rfl,hb⟩
     rw[HEQ.out,cmpQ_self]
     replace hS8:=hS8.below hb
     replace HK:=Lib.hid (HK.out.below hb)
     clear hb
     refine hK _ _ (fun _=>⟨cQ0 hS8,cQ1 hS8,HK.out.c3,HK.out.c2⟩) ?_
     clear hK K
     refine Rd.seq_float (.bool true) (by simp only[gA,gB,gC];rfl) rfl (by rfl) (fun X _=>by go_simp) ?_
     simp only[Act.put,sA,sB,sC]
     refine Rd.seq_float (.bool true) (by simp only[gA,gB,gC];rfl) rfl (by rfl) (fun X _=>by go_simp) ?_
     simp only[Act.put,sA,sB,sC]
     refine Rd.seq_float (.bool true) (by simp only[gA,gB,gC];rfl) rfl (by rfl) (fun X _=>by go_simp) ?_
     simp only[Act.put,sA,sB,sC]
     refine Rd.seq_float (.bool true) (by simp only[gA,gB,gC];rfl) rfl (by rfl) (fun X _=>by go_simp) ?_
     simp only[Act.put,sA,sB,sC]
     refine Rd.seq_end ?_
     go_wp2_with fail
     go_ret
     rw[←HW.out]
     exact⟨rfl,HK.out.bel⟩
    ·have hSr:(belowB L root root&&decide (0<many L ls root))=false:=by rw[HRT.out.1,HRT.out.2.1];simpa using hlen
     have hVy:=(HSV.out root).1 hSr
     rw[hVy] at hlk
     simp only[Option.getD_none,Option.isSome_none] at hlk
     have HLN:=Lib.hid hlen
     clear hSr hVy hlen
     go_wp2_with (first
      | (refine wpList_alloc49 rfl rfl ?_;generalize wr.alloc (.cells #[.slice none 0 0,.slice none 0 0] 49)=w21 at *)
      | (refine wpList_store49 rfl _ _ rfl wr.heap.size nilS nilS rfl rfl hA4 rfl ?_;intro w22 hS8 t22;have hb:=hb4.trans (t22.below (Nat.le_refl _));replace HK:=Lib.hid (HK.out.below hb);clear hA4 t22 hb4 hb))
     generalize wr.heap.size=b16 at *
     replace HK:=Lib.hid (HK.out.below (Below.drewS (Below.refl _ _)))
     replace hS8:=hS8.drew
     refine Rd.region (fun X=>X.cell? ⟨b16,0,none⟩=some (.slice nilS.a nilS.n nilS.c)∧X.cell? ⟨b16,1,none⟩=some (.slice nilS.a nilS.n nilS.c)∧X.cell? ⟨b1,3,none⟩=some (.slice al ls.length cl)∧X.cell? ⟨b1,2,none⟩=some (.int .i64 online)) 23 [0,1,2,3,4,5,6,7,8,9,10,11,12,13,14,15,16,17,18,19,20,21,22] [0,1,2,3,4,5,6,7,8,9,10,11,12,13,14,15,16,17,18,19,20,21,22] (by kernel_rfl) (by kernel_rfl) (by kernel_rfl) (by kernel_rfl) rfl ⟨cQ0 hS8,cQ1 hS8,HK.out.c3,HK.out.c2⟩ ?_
     generalize w22.drew=w9 at *
     refine Rd.seq_float (.bool false) (by simp only[gA,gC];rfl) rfl (by rfl) (fun X _=>by go_simp) ?_
     simp only[Act.put,sA,sB,sC]
     refine Rd.seq_float (.pointer (some ⟨b1,3,none⟩)) (by simp only[gA,gB,gC];rfl) rfl (by rfl) (fun X _=>by go_simp) ?_
     simp only[Act.put,sA,sB,sC]
     refine Rd.seq_float (.slice al ls.length cl) (by simp only[gA,gB,gC];rfl) rfl (by rfl) (fun X hX=>by have hx1:=hX.2.2.1;clear hX;go_simp) ?_
     simp only[Act.put,sA,sB,sC]
     refine Rd.seq_float (.int .i64 (ls.length:Int)) (by simp only[gA,gB,gC];rfl) rfl (by rfl) (fun X _=>by go_simp) ?_
     simp only[Act.put,sA,sB,sC]
     refine Rd.seq_float (.bool false) (by simp only[gA,gB,gC];rfl) rfl (by rfl) (fun X _=>by have hx1:=HLN.out;go_simp<;>omega) ?_
     simp only[Act.put,sA,sB,sC]
     refine Rd.seq_float (.bool true) (by simp only[gA,gB,gC];rfl) rfl (by rfl) (fun X _=>by go_simp) ?_
     simp only[Act.put,sA,sB,sC]
     refine Rd.seq_float (.bool true) (by simp only[gA,gB,gC];rfl) rfl (by rfl) (fun X _=>by go_simp) ?_
     simp only[Act.put,sA,sB,sC]
     refine Rd.seq_float (.bool false) (by simp only[gA,gB,gC];rfl) rfl (by rfl) (fun X _=>by go_simp) ?_
     simp only[Act.put,sA,sB,sC]
     refine Rd.seq_float (.bool true) (by simp only[gA,gB,gC];rfl) rfl (by rfl) (fun X _=>by go_simp) ?_
     simp only[Act.put,sA,sB,sC]
     refine Rd.seq_float (.bool true) (by simp only[gA,gB,gC];rfl) rfl (by rfl) (fun X _=>by go_simp) ?_
     simp only[Act.put,sA,sB,sC]
     refine Rd.seq_skip (by simp only[gA,gB,gC];rfl) rfl (by rfl) ?_
     simp only[Act.put,sA,sB,sC]
     refine Rd.seq_skip (by simp only[gA,gB,gC];rfl) rfl (by rfl) ?_
     simp only[Act.put,sA,sB,sC]
     refine Rd.seq_skip (by simp only[gA,gB,gC];rfl) rfl (by rfl) ?_
     simp only[Act.put,sA,sB,sC]
     refine Rd.seq_skip (by simp only[gA,gB,gC];rfl) rfl (by rfl) ?_
     simp only[Act.put,sA,sB,sC]
     refine Rd.seq_skip (by simp only[gA,gB,gC];rfl) rfl (by rfl) ?_
     simp only[Act.put,sA,sB,sC]
     refine Rd.seq_skip (by simp only[gA,gB,gC];rfl) rfl (by rfl) ?_
     simp only[Act.put,sA,sB,sC]
     refine Rd.seq_skip (by simp only[gA,gB,gC];rfl) rfl (by rfl) ?_
     simp only[Act.put,sA,sB,sC]
     refine Rd.seq_skip (by simp only[gA,gB,gC];rfl) rfl (by rfl) ?_
     simp only[Act.put,sA,sB,sC]
     refine Rd.seq_skip (by simp only[gA,gB,gC];rfl) rfl (by rfl) ?_
     simp only[Act.put,sA,sB,sC]
     refine Rd.seq_skip (by simp only[gA,gB,gC];rfl) rfl (by rfl) ?_
     simp only[Act.put,sA,sB,sC]
     refine Rd.seq_float (.bool true) (by simp only[gA,gB,gC];rfl) rfl (by rfl) (fun X _=>by go_simp) ?_
     simp only[Act.put,sA,sB,sC]
     refine Rd.seq_float (.bool true) (by simp only[gA,gB,gC];rfl) rfl (by rfl) (fun X _=>by go_simp) ?_
     simp only[Act.put,sA,sB,sC]
     refine Rd.seq_float (.bool true) (by simp only[gA,gB,gC];rfl) rfl (by rfl) (fun X _=>by go_simp) ?_
     simp only[Act.put,sA,sB,sC]
     refine Rd.seq_end ?_
     go_wp2_with fail
     go_ret
     rw[←HW.out]
     exact⟨rfl,HK.out.bel⟩
   ·intro y cv w1 cnt1 hI hG hnot hr1 hlt hg1 hen
    have hrw:w17.heap.size≤wr.heap.size:=HWL.out.size
    have hb1:Below w17.heap.size w17 w1:=HWL.out.grown hg1 hrw (fun j e=>by cases e;exact Nat.le_refl _)
    have HM:Hid (∀W:World,Rv W gm w17.heap.size N V (y::vs) cnt1→W.rangeLeft gm w17.heap.size<wr.rangeLeft gm w17.heap.size):=Lib.hid fun W hW=>by rw[hW.left,hrv.left];exact hlt
    have hSy:(belowB L y root&&decide (0<many L ls y))=true:=by
     cases h:(belowB L y root&&decide (0<many L ls y)) with
     | false=>rw[(HSV.out y).1 h] at hG;cases hG
     | true=>rfl
    obtain⟨px,qx,hVy,hqx⟩:=(HSV.out y).2 hSy
    rw[hVy] at hG
    cases hG
    have hby:belowB L y root=true:=by simp only[Bool.and_eq_true] at hSy;exact hSy.1
    have hmy:0<many L ls y:=by simp only[Bool.and_eq_true,decide_eq_true_eq] at hSy;exact hSy.2
    have hml:=many_le L ls y
    have HSUM:=Lib.hid (HALL.out y hby).1
    have HLE:Hid (¬ 0<cmpQ (rate L ls root (shX ls online) y) ((many L ls y:Nat):Rat)):=Lib.hid (cmp_le (HALL.out y hby).2)
    have HN0:Hid ((((many L ls y:Nat):Int)==0)=false):=Lib.hid (beq_ff (by omega))
    have HIN:=Lib.hid (fun W=>Qint (many L ls y) (by omega) W)
    have HC16:Hid (∀i X,i<ls.length→Below w17.heap.size w17 X→Calls Tryz.prog 16 #[.agg (cellsF (40:Int) m (.slice aD L.length cD)),.int .i64 (lf ls i).1,.int .i64 y] X fun e w'=>e= .returned (.bool (belowB L (lf ls i).1 y))∧Below X.heap.size X w'):=Lib.hid fun i X hi hX=>rBelow_any (40:Int) m aD cD L (lf ls i).1 y m k X (HK.out.G.below hX) HOKL.out (HHL.out i hi)
    have hbrw1:w17.heap.size≤w1.heap.size:=hb1.size
    have hba:Below w1.heap.size w1 (w1.alloc (.cells #[.slice none 0 0,.slice none 0 0] 49)):=(Below.refl _ _).alloc (Nat.le_refl _) _
    have hA1:Blk (w1.alloc (.cells #[.slice none 0 0,.slice none 0 0] 49)) w1.heap.size 49 #[.slice none 0 0,.slice none 0 0]:=Blk.new w1 49 _
    have HQX:=Lib.hid hqx
    clear hSy hVy hby hmy hnot hrv hg1 hrw hqx hlt
    go_wp2_with (first
     | (refine wpList_alloc49 (w:=w1) rfl rfl ?_;generalize w1.alloc (.cells #[.slice none 0 0,.slice none 0 0] 49)=w2 at *)
     | (refine wpList_store49 rfl _ _ rfl w1.heap.size px qx rfl rfl hA1 rfl ?_;intro w3 hX3 t3';have hb3:=hba.trans (t3'.below (Nat.le_refl _));have HRV:=Lib.hid (hr1.below hb3);have HW3:=Lib.hid (hb1.trans (hb3.mono hbrw1));have HX11:=Lib.hid hX3;clear hba hA1 hX3 t3' hb3 hr1 hb1 hen)
     | (go_at_call 18;refine(Qint 0 (by omega) w3).mono ?_;rintro e w4 ⟨ps,qs,rfl,hss,hb⟩;rw[nil_rat] at hss;replace HRV:=Lib.hid (HRV.out.below hb);replace HW3:=Lib.hid (HW3.out.trans (hb.mono HW3.out.size));replace HX11:=Lib.hid (HX11.out.below hb);clear hb;have hb4:Below w4.heap.size w4 (w4.alloc (.cells #[.slice none 0 0,.slice none 0 0] 49)):=(Below.refl _ _).alloc (Nat.le_refl _) _;have hA4:Blk (w4.alloc (.cells #[.slice none 0 0,.slice none 0 0] 49)) w4.heap.size 49 #[.slice none 0 0,.slice none 0 0]:=Blk.new w4 49 _)
     | (refine wpList_alloc49 (w:=w4) rfl rfl ?_;generalize w4.alloc (.cells #[.slice none 0 0,.slice none 0 0] 49)=w5 at *)
     | (refine wpList_store49 rfl _ _ rfl w4.heap.size ps qs rfl rfl hA4 rfl ?_;intro w6 hS6 t6;have hb:=hb4.trans (t6.below (Nat.le_refl _));have HB6:=Lib.hid hb;have HS6:=Lib.hid hS6;have HSS:=Lib.hid (hss.below hb);have t3:=(HK.out.below (HW3.out.trans (hb.mono HW3.out.size))).c3;clear hb4 hA4 hS6 t6 hb hss))
    clear t3
    have hl11:=HX11.out.lt
    generalize w1.heap.size=b11 at *
    have hw34:=HW3.out.size
    go_loopw [13,75] (fun nv i wr=>∃(j:Nat) (ps qs:Sl),j≤ls.length∧i= .int .i64 (j:Int)∧nv= .int .i64 (((bs L ls y j).length:Nat):Int)∧Hid (Below w4.heap.size w4 wr)∧Hid (Blk wr w4.heap.size 49 (cellsQ ps qs))∧Hid (RQ wr ps qs (sumI (leafR L ls root (shX ls online)) (bs L ls y j)))) (fun _ i _=>ls.length - (intOf i).toNat)
    case atStart=>exact⟨0,ps,qs,Nat.zero_le _,rfl,rfl,HB6,HS6,HSS⟩
    case round=>
     clear HB6 HS6 HSS
     obtain⟨j,ps,qs,hj,rfl,rfl,HWr,HS,HSS⟩:=hrel
     by_cases hlt:j<ls.length
     ·have HX:=Lib.hid (HW3.out.trans (HWr.out.mono hw34))
      obtain⟨bl,off,rfl,hx0,hx1,_,_⟩:=(HK.out.R.below HX.out).at hlt
      obtain⟨lg,lw,hla⟩: ∃lg lw,lf ls j=(lg,lw):=⟨_,_,rfl⟩
      have hc16:=HC16.out j
      have hby0:= @bs_yes L ls y j
      have hbn0:= @bs_no L ls y j
      rw[hla] at hx0 hx1 hc16 hby0 hbn0
      dsimp only at hx0 hx1 hc16 hby0 hbn0
      have HC:=Lib.hid hc16
      have HBY:=Lib.hid hby0
      have HBN:=Lib.hid hbn0
      have hb0:Below wr.heap.size wr (wr.alloc (.cells #[.int .i64 0,.int .i64 0] 64)):=(Below.refl _ _).alloc (Nat.le_refl _) _
      have hA9:Blk (wr.alloc (.cells #[.int .i64 0,.int .i64 0] 64)) wr.heap.size 64 #[.int .i64 0,.int .i64 0]:=Blk.new wr 64 _
      have hwr:=HWr.out.size
      clear hla hc16 hby0 hbn0
      cases hbe:belowB L lg y with
      | true=>
       replace HBY:=Lib.hid (HBY.out hbe)
       clear HBN
       go_wp2_with (first
        | (refine wpList_alloc64 rfl rfl ?_;generalize wr.alloc (.cells #[.int .i64 0,.int .i64 0] 64)=w9 at *)
        | (refine wpList_store64 rfl _ _ rfl wr.heap.size lg lw rfl rfl hA9 rfl ?_;intro w8 hS10 t9;have hb:=hb0.trans (t9.below (Nat.le_refl _));replace HWr:=Lib.hid (HWr.out.trans (hb.mono hwr));replace HX:=Lib.hid (HW3.out.trans (HWr.out.mono hw34));have hS:=HS.out.below hb;have hss:=HSS.out.below hb;have hD:=(HK.out.below HX.out).D;have hc0:w8.cell? ⟨wr.heap.size,0,none⟩=some (.int .i64 lg):=(by rw[hS10.at];rfl);clear hA9 t9 hb0 hb hS10 hx0 hx1 HS HSS)
        | (refine wpList_load30 rfl _ rfl tD (40:Int) m (.slice aD L.length cD) rfl hD ?_)
        | (go_at_call 16;refine(HC.out w8 hlt HX.out).mono ?_;rw[hbe];rintro e w7' ⟨rfl,hb⟩;replace HWr:=Lib.hid (HWr.out.trans (hb.mono HWr.out.size));replace hS:=hS.below hb;replace hss:=hss.below hb;clear hb hD hc0 HX))
       obtain⟨B9,p,q,e9,dd0,dd1,hqj0⟩:=RowQ.at HR.out (j:=j) (by rw[rlist_len];exact hlt)
       subst e9
       rw[HLF.out j hlt] at hqj0
       have l90:=World.block_lt_of_cell? _ _ dd0
       have HX:=HW3.out.trans (HWr.out.mono hw34)
       have d00:=(HX.cell (p:=⟨B9,j*2,none⟩) l90).trans dd0
       have d10:=(HX.cell (p:=⟨B9,j*2+1,none⟩) l90).trans dd1
       have hqj1:=hqj0.below HX
       have hb:=Below.drewS (Below.refl w7'.heap.size w7')
       have hqj:=hqj1.below hb
       have d0:=(hb.cell (p:=⟨B9,j*2,none⟩) (World.block_lt_of_cell? _ _ d00)).trans d00
       have d1:=(hb.cell (p:=⟨B9,j*2+1,none⟩) (World.block_lt_of_cell? _ _ d10)).trans d10
       replace HWr:=Lib.hid (HWr.out.trans (hb.mono HWr.out.size))
       replace hS:=hS.below hb
       replace hss:=hss.below hb
       have hz:=HSZ.out y (j+1) hlt
       rw[HBY.out,sumI_snoc] at hz
       have HZ:=Lib.hid hz
       have hB9:B9<w4.heap.size:=Nat.lt_of_lt_of_le l90 hw34
       clear hqj0 hqj1 d00 d10 dd0 dd1 HX hb hz l90
       have l9:=World.block_lt_of_cell? _ _ d0
       go_wp2_with fail
       refine Rd.region (fun X=>X.cell? ⟨w4.heap.size,0,none⟩=some (.slice ps.a ps.n ps.c)∧X.cell? ⟨w4.heap.size,1,none⟩=some (.slice qs.a qs.n qs.c)∧X.cell? ⟨B9,j*2,none⟩=some (.slice p.a p.n p.c)∧X.cell? ⟨B9,j*2+1,none⟩=some (.slice q.a q.n q.c)) 6 [0,1,2,3,4] [0,1,2,3,4,5,6] (by kernel_rfl) (by kernel_rfl) (by kernel_rfl) (by kernel_rfl) rfl ⟨cQ0 hS,cQ1 hS,d0,d1⟩ ?_
       generalize w7'.drew=w7 at *
       refine Rd.seq_float (.agg #[.slice ps.a ps.n ps.c,.slice qs.a qs.n qs.c]) (by simp only[gA,gC];rfl) rfl (by rfl) (fun X hX=>by have hx1:=hX.1;have hx2:=hX.2.1;clear hX;go_simp) ?_
       simp only[Act.put,sA,sB,sC]
       refine Rd.seq_float (.slice (some ⟨B9,0,none⟩) ls.length cr) (by simp only[gA,gB,gC];rfl) rfl (by rfl) (fun X _=>by go_simp) ?_
       simp only[Act.put,sA,sB,sC]
       refine Rd.seq_float (.int .i64 (j:Int)) (by simp only[gA,gB,gC];rfl) rfl (by rfl) (fun X _=>by go_simp) ?_
       simp only[Act.put,sA,sB,sC]
       refine Rd.seq_float (.pointer (some ⟨B9,j*2,none⟩)) (by simp only[gA,gB,gC];rfl) rfl (by rfl) (fun X _=>by go_simp) ?_
       simp only[Act.put,sA,sB,sC]
       refine Rd.seq_float (.agg #[.slice p.a p.n p.c,.slice q.a q.n q.c]) (by simp only[gA,gB,gC];rfl) rfl (by rfl) (fun X hX=>by have hx1:=hX.2.2.1;have hx2:=hX.2.2.2;clear hX;go_simp) ?_
       simp only[Act.put,sA,sB,sC]
       refine Rd.seq_move (by simp only[gA,gB,gC];rfl) rfl (by rfl) (fun K hK=>?_)
       go_simp
       refine(Qadd ps qs p q _ _ _ hss hqj HZ.out).mono ?_
       rintro e w14 ⟨px2,qx2,rfl,hsx,hb⟩
       replace hS:=hS.below hb
       replace HWr:=Lib.hid (HWr.out.trans (hb.mono HWr.out.size))
       have d0':=(hb.cell (p:=⟨B9,j*2,none⟩) l9).trans d0
       have d1':=(hb.cell (p:=⟨B9,j*2+1,none⟩) l9).trans d1
       have hl9:B9<w14.heap.size:=Nat.lt_of_lt_of_le l9 hb.size
       clear hb hss d0 d1
       refine hK _ _ (fun _=>⟨cQ0 hS,cQ1 hS,d0',d1'⟩) ?_
       clear hK K
       refine Rd.seq_move (by simp only[gA,gB,gC];rfl) rfl (by rfl) (fun K hK=>?_)
       refine wp_store49 _ _ rfl w4.heap.size px2 qx2 rfl rfl hS rfl (fun w15 hS9 t15=>?_)
       replace HWr:=Lib.hid (HWr.out.trans (t15.below (Nat.le_refl _)))
       have HSX:=Lib.hid (hsx.turnQ t15 hS)
       clear t15 hS hsx d0' d1'
       refine hK _ _ (fun h=>absurd h (by decide)) ?_
       refine Rd.seq_end ?_
       go_wp2_with fail
       go_round
       case rel=>exact⟨j+1,px2,qx2,by omega,by go_num,by have hbl:=bs_len L ls y j;rw[HBY.out,List.length_append,List.length_singleton];rw[IntWalk.wrap64_in _ (by omega)];rfl,HWr,Lib.hid hS9,by rw[HBY.out,sumI_snoc];exact HSX⟩
       case measure=>simp[intOf];omega
      | false=>
       replace HBN:=Lib.hid (HBN.out hbe)
       clear HBY
       go_wp2_with (first
        | (refine wpList_alloc64 rfl rfl ?_;generalize wr.alloc (.cells #[.int .i64 0,.int .i64 0] 64)=w9 at *)
        | (refine wpList_store64 rfl _ _ rfl wr.heap.size lg lw rfl rfl hA9 rfl ?_;intro w8 hS10 t9;have hb:=hb0.trans (t9.below (Nat.le_refl _));replace HWr:=Lib.hid (HWr.out.trans (hb.mono hwr));replace HX:=Lib.hid (HW3.out.trans (HWr.out.mono hw34));replace HS:=Lib.hid (HS.out.below hb);replace HSS:=Lib.hid (HSS.out.below hb);have hD:=(HK.out.below HX.out).D;have hc0:w8.cell? ⟨wr.heap.size,0,none⟩=some (.int .i64 lg):=(by rw[hS10.at];rfl);clear hA9 t9 hb0 hb hS10 hx0 hx1)
        | (refine wpList_load30 rfl _ rfl tD (40:Int) m (.slice aD L.length cD) rfl hD ?_)
        | (go_at_call 16;refine(HC.out w8 hlt HX.out).mono ?_;rw[hbe];rintro e w7' ⟨rfl,hb⟩;replace HWr:=Lib.hid (HWr.out.trans (hb.mono HWr.out.size));replace HS:=Lib.hid (HS.out.below hb);replace HSS:=Lib.hid (HSS.out.below hb);clear hb hD hc0 HX))
       go_round
       case rel=>exact⟨j+1,ps,qs,by omega,by go_num,by rw[HBN.out],HWr,HS,by rw[HBN.out];exact HSS⟩
       case measure=>simp[intOf];omega
     ·have ej:j=ls.length:=by omega
      subst ej
      have hnl:(bs L ls y ls.length).length=many L ls y:=bl_len L ls y
      rw[hnl]
      have hsm:=HSS.out
      rw[HSUM.out] at hsm
      have hb:=Below.drewS (Below.refl wr.heap.size wr)
      replace HWr:=Lib.hid (HWr.out.trans (hb.mono HWr.out.size))
      have hS:=HS.out.below hb
      have hss:=hsm.below hb
      have hX11:=(HX11.out.below (HWr.out))
      have hqx:=(HQX.out.below HW3.out).below HWr.out
      clear HS HSS hsm hb hnl
      go_wp2_with fail
      refine Rd.region (fun X=>X.cell? ⟨w4.heap.size,0,none⟩=some (.slice ps.a ps.n ps.c)∧X.cell? ⟨w4.heap.size,1,none⟩=some (.slice qs.a qs.n qs.c)∧X.cell? ⟨b11,0,none⟩=some (.slice px.a px.n px.c)∧X.cell? ⟨b11,1,none⟩=some (.slice qx.a qx.n qx.c)) 15 [0,1,2,3,4,6,7,8,9,10,13,14] [0,1,2,3,4,5,6,7,8,9,10,11,12,13,14] (by kernel_rfl) (by kernel_rfl) (by kernel_rfl) (by kernel_rfl) rfl ⟨cQ0 hS,cQ1 hS,cQ0 hX11,cQ1 hX11⟩ ?_
      generalize wr.drew=w7 at *
      refine Rd.seq_float (.int .i64 ((many L ls y:Nat):Int)) (by simp only[gA,gC];rfl) rfl (by rfl) (fun X _=>by go_simp) ?_
      simp only[Act.put,sA,sB,sC]
      refine Rd.seq_float (.bool false) (by simp only[gA,gB,gC];rfl) rfl (by rfl) (fun X _=>by have hx1:=HN0.out;go_simp) ?_
      simp only[Act.put,sA,sB,sC]
      refine Rd.seq_float (.bool false) (by simp only[gA,gB,gC];rfl) rfl (by rfl) (fun X _=>by go_simp) ?_
      simp only[Act.put,sA,sB,sC]
      refine Rd.seq_float (.agg #[.slice ps.a ps.n ps.c,.slice qs.a qs.n qs.c]) (by simp only[gA,gB,gC];rfl) rfl (by rfl) (fun X hX=>by have hx1:=hX.1;have hx2:=hX.2.1;clear hX;go_simp) ?_
      simp only[Act.put,sA,sB,sC]
      refine Rd.seq_float (.agg #[.slice px.a px.n px.c,.slice qx.a qx.n qx.c]) (by simp only[gA,gB,gC];rfl) rfl (by rfl) (fun X hX=>by have hx1:=hX.2.2.1;have hx2:=hX.2.2.2;clear hX;go_simp) ?_
      simp only[Act.put,sA,sB,sC]
      refine Rd.seq_move (by simp only[gA,gB,gC];rfl) rfl (by rfl) (fun K hK=>?_)
      go_simp
      refine(Qcmp ps qs px qx _ _ _ hss hqx).mono ?_
      rintro e w16 ⟨rfl,hb⟩
      rw[cmpQ_self]
      replace hS:=hS.below hb
      replace hX11:=hX11.below hb
      replace hqx:=hqx.below hb
      replace HWr:=Lib.hid (HWr.out.trans (hb.mono HWr.out.size))
      clear hb hss
      refine hK _ _ (fun _=>⟨cQ0 hS,cQ1 hS,cQ0 hX11,cQ1 hX11⟩) ?_
      clear hK K
      refine Rd.seq_float (.bool false) (by simp only[gA,gB,gC];rfl) rfl (by rfl) (fun X _=>by go_simp) ?_
      simp only[Act.put,sA,sB,sC]
      refine Rd.seq_float (.bool false) (by simp only[gA,gB,gC];rfl) rfl (by rfl) (fun X _=>by go_simp) ?_
      simp only[Act.put,sA,sB,sC]
      refine Rd.seq_float (.bool false) (by simp only[gA,gB,gC];rfl) rfl (by rfl) (fun X _=>by go_simp) ?_
      simp only[Act.put,sA,sB,sC]
      refine Rd.seq_float (.agg #[.slice px.a px.n px.c,.slice qx.a qx.n qx.c]) (by simp only[gA,gB,gC];rfl) rfl (by rfl) (fun X hX=>by have hx1:=hX.2.2.1;have hx2:=hX.2.2.2;clear hX;go_simp) ?_
      simp only[Act.put,sA,sB,sC]
      refine Rd.seq_float (.int .i64 ((many L ls y:Nat):Int)) (by simp only[gA,gB,gC];rfl) rfl (by rfl) (fun X _=>by go_simp) ?_
      simp only[Act.put,sA,sB,sC]
      refine Rd.seq_move (by simp only[gA,gB,gC];rfl) rfl (by rfl) (fun K hK=>?_)
      go_simp
      refine(HIN.out w16).mono ?_
      rintro e w17 ⟨p1,q1,rfl,hq1,hb⟩
      replace hS:=hS.below hb
      replace hX11:=hX11.below hb
      replace hqx:=hqx.below hb
      replace HWr:=Lib.hid (HWr.out.trans (hb.mono HWr.out.size))
      clear hb
      refine hK _ _ (fun _=>⟨cQ0 hS,cQ1 hS,cQ0 hX11,cQ1 hX11⟩) ?_
      clear hK K
      refine Rd.seq_move (by simp only[gA,gB,gC];rfl) rfl (by rfl) (fun K hK=>?_)
      go_simp
      refine(Qcmp px qx p1 q1 _ _ _ hqx hq1).mono ?_
      rintro e w18 ⟨rfl,hb⟩
      replace hS:=hS.below hb
      replace hX11:=hX11.below hb
      replace HWr:=Lib.hid (HWr.out.trans (hb.mono HWr.out.size))
      clear hb hqx hq1
      refine hK _ _ (fun _=>⟨cQ0 hS,cQ1 hS,cQ0 hX11,cQ1 hX11⟩) ?_
      clear hK K
      refine Rd.seq_float (.bool false) (by simp only[gA,gB,gC];rfl) rfl (by rfl) (fun X _=>by have hx1:=HLE.out;go_simp) ?_
      simp only[Act.put,sA,sB,sC]
      refine Rd.seq_float (.bool false) (by simp only[gA,gB,gC];rfl) rfl (by rfl) (fun X _=>by go_simp) ?_
      simp only[Act.put,sA,sB,sC]
      refine Rd.seq_end ?_
      go_wp2_with fail
      go_round
      case rel=>exact⟨y::vs,cnt1,Lib.hid (HRV.out.below HWr.out),Lib.hid (HW3.out.trans (HWr.out.mono hw34))⟩
      case measure=>exact HM.out _ (HRV.out.below HWr.out)
 ·have HNA:=Lib.hid hA
  have hA2:(errA L ls root online != 0)=true:=by simpa using hA
  clear HOKw7 HNOw7 hA
  have t1:=HK.out.c1
  have t2:=HK.out.c2
  have t3:=HK.out.c3
  go_wp2_with fail
  replace HK:=Lib.hid HK.out.drew
  clear t1 t2 t3
  refine Rd.region (fun X=>X.cell? ⟨b1,1,none⟩=some (.int .i64 root)∧X.cell? ⟨b1,2,none⟩=some (.int .i64 online)∧X.cell? ⟨b1,3,none⟩=some (.slice al ls.length cl)) 14 [0,1,2,3,4,5,6,9,10,11,12,13] [0,1,2,3,4,5,6,7,8,9,10,11,12,13] (by kernel_rfl) (by kernel_rfl) (by kernel_rfl) (by kernel_rfl) rfl ⟨HK.out.c1,HK.out.c2,HK.out.c3⟩ ?_
  generalize w7.drew=w7 at *
  refine Rd.seq_float (.pointer (some ⟨fp,0,none⟩)) (by simp only[gA,gC];rfl) rfl (by rfl) (fun X _=>by go_simp) ?_
  simp only[Act.put,sA,sB,sC]
  refine Rd.seq_float (.pointer (some ⟨b1,1,none⟩)) (by simp only[gA,gB,gC];rfl) rfl (by rfl) (fun X _=>by go_simp) ?_
  simp only[Act.put,sA,sB,sC]
  refine Rd.seq_float (.int .i64 root) (by simp only[gA,gB,gC];rfl) rfl (by rfl) (fun X hX=>by have hx1:=hX.1;clear hX;go_simp) ?_
  simp only[Act.put,sA,sB,sC]
  refine Rd.seq_float (.pointer (some ⟨b1,2,none⟩)) (by simp only[gA,gB,gC];rfl) rfl (by rfl) (fun X _=>by go_simp) ?_
  simp only[Act.put,sA,sB,sC]
  refine Rd.seq_float (.int .i64 online) (by simp only[gA,gB,gC];rfl) rfl (by rfl) (fun X hX=>by have hx1:=hX.2.1;clear hX;go_simp) ?_
  simp only[Act.put,sA,sB,sC]
  refine Rd.seq_float (.pointer (some ⟨b1,3,none⟩)) (by simp only[gA,gB,gC];rfl) rfl (by rfl) (fun X _=>by go_simp) ?_
  simp only[Act.put,sA,sB,sC]
  refine Rd.seq_float (.slice al ls.length cl) (by simp only[gA,gB,gC];rfl) rfl (by rfl) (fun X hX=>by have hx1:=hX.2.2;clear hX;go_simp) ?_
  simp only[Act.put,sA,sB,sC]
  refine Rd.seq_move (by simp only[gA,gB,gC];rfl) rfl (by rfl) (fun K hK=>?_)
  go_simp
  refine(Reals_any _ ls w7 HK.out.R (by omega)).mono ?_
  rintro e w16 ⟨⟨u6,rfl,hu⟩,hb⟩
  obtain⟨ua,uc,rfl⟩:=hu.sl
  replace HK:=Lib.hid (HK.out.below hb)
  clear hb
  refine hK _ _ (fun _=>⟨HK.out.c1,HK.out.c2,HK.out.c3⟩) ?_
  clear hK K
  refine Rd.seq_move (by simp only[gA,gB,gC];rfl) rfl (by rfl) (fun K hK=>?_)
  go_simp
  refine(Groups_any fp _ L l m k ua uc ls root online w16 HK.out.F hu hr (by omega)).mono ?_
  rintro e w17 ⟨⟨vrw17,rfl,hok,hno⟩,hb⟩
  have HOKw17:=Lib.hid hok
  have HNOw17:=Lib.hid hno
  replace HK:=Lib.hid (HK.out.below hb)
  clear hb hok hno hu
  refine hK _ _ (fun _=>⟨HK.out.c1,HK.out.c2,HK.out.c3⟩) ?_
  clear hK K
  refine Rd.seq_float (.tuple #[vrw17,.int .i64 (errA L ls root online)]) (by simp only[gA,gB,gC];rfl) rfl (by rfl) (fun X _=>by go_simp) ?_
  simp only[Act.put,sA,sB,sC]
  refine Rd.seq_float (vrw17) (by simp only[gA,gB,gC];rfl) rfl (by rfl) (fun X _=>by go_simp) ?_
  simp only[Act.put,sA,sB,sC]
  refine Rd.seq_float (.int .i64 (errA L ls root online)) (by simp only[gA,gB,gC];rfl) rfl (by rfl) (fun X _=>by go_simp) ?_
  simp only[Act.put,sA,sB,sC]
  refine Rd.seq_float (vrw17) (by simp only[gA,gB,gC];rfl) rfl (by rfl) (fun X _=>by go_simp) ?_
  simp only[Act.put,sA,sB,sC]
  refine Rd.seq_float (.int .i64 (errA L ls root online)) (by simp only[gA,gB,gC];rfl) rfl (by rfl) (fun X _=>by go_simp) ?_
  simp only[Act.put,sA,sB,sC]
  refine Rd.seq_end ?_
  clear HOKw17 HNOw17
  go_wp2_with fail
  go_ret
  rw[←HW.out]
  exact⟨rfl,HK.out.bel⟩
theorem groups_any (va vl:Value) (root online:Int) (xs:List (Nat×Int×Int)) (ls:List Lf) (w:World) (hx:RowA w va xs) (hl:RowL w vl ls) (hr:I64 root) (ho:I64 online):
  Calls Tryz.prog 7 #[.agg #[va,.int .i64 root,.int .i64 online,vl]] w fun e w'=>e= .returned (.bool true)∧Below w.heap.size w w':=by
 by_cases hn:40<xs.length∨70<ls.length
 ·exact groups_no va vl root online xs ls w hx hl hr ho hn
 ·exact groups_yes va vl root online xs ls w hx hl hr ho (by omega) (by omega)
end Go.Proofs.YtohifgjeebhijaaGreatDoor
