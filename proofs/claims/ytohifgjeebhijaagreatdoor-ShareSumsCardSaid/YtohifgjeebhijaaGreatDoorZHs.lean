/-
  What this claim needs; no condition of its own. Told short by a script from longer texts.
-/
import Derived.Test.YtohifgjeebhijaaGreatDoorZGg
import Derived.Test.YtohifgjeebhijaaGreatDoorZAl
namespace Go.Proofs.YtohifgjeebhijaaGreatDoor
set_option maxRecDepth 100000
set_option maxHeartbeats 4000000
open Go.RowKit Go.Maps Go.Rq
theorem ssum_no (va vl:Value) (root online:Int) (xs:List (Nat×Int×Int)) (ls:List Lf) (w:World) (hx:RowA w va xs) (hl:RowL w vl ls) (_hr:I64 root) (_ho:I64 online) (hn:40<xs.length∨70<ls.length):
  Calls Tryz.prog 4 #[.agg #[va,.int .i64 root,.int .i64 online,vl]] w fun e w'=>e= .returned (.bool true)∧Below w.heap.size w w':=by
 obtain⟨al,cl,rfl⟩:=hl.sl
 have hB:=(Below.refl w.heap.size w).alloc (Nat.le_refl _) (.cells #[va,.int .i64 root,.int .i64 online,.slice al ls.length cl] 25)
 have hT:Blk (w.alloc (.cells #[va,.int .i64 root,.int .i64 online,.slice al ls.length cl] 25)) w.heap.size 25 #[va,.int .i64 root,.int .i64 online,.slice al ls.length cl]:=Blk.new w 25 _
 have hxx:=hx.below hB
 have hll:=hl.below hB
 clear hx hl
 go_enter Tryz.func4,Tryz.ntmps4
 generalize hb1:w.heap.size=b1 at hT
 have HW:=Lib.hid hb1
 have t0:=hT.at 0
 have t1:=hT.at 1
 have t2:=hT.at 2
 have t3:=hT.at 3
 simp only[gA,gB,gC] at t0 t1 t2 t3
 go_wp2_with fail
 clear hb1
 generalize w.alloc (.cells #[va,.int .i64 root,.int .i64 online,.slice al ls.length cl] 25)=w1 at *
 refine(made_no va _ root online xs ls w1 hxx hll hn).mono ?_
 rintro e w2 ⟨⟨r0,m0,a0,n0,c0,rfl⟩,hb⟩
 replace hB:=hB.trans (hb.mono hB.size)
 have hw2:=hB.size
 have hZ:Blk (w2.alloc (.cells #[.int .i64 0,.int .i64 0,.slice none 0 0] 29)) w2.heap.size 29 (cellsF 0 0 (.slice none 0 0)):=Blk.new w2 29 _
 replace hB:=Below.allocS hB (.cells #[.int .i64 0,.int .i64 0,.slice none 0 0] 29)
 clear hb hT t0 t1 t2 t3 hxx hll
 go_wp2_with (first
  | (refine wpList_alloc30 rfl rfl ?_;generalize w2.alloc (.cells #[.int .i64 0,.int .i64 0,.slice none 0 0] 29)=w3 at *)
  | (refine wpList_store30 rfl _ _ rfl w2.heap.size r0 m0 (.slice a0 n0 c0) rfl rfl hZ rfl rfl ?_;intro w5 hZ5 t5;replace hB:=hB.trans (t5.below hw2);clear hZ t5)
  | (go_at_call 10;refine(awake9 _).mono ?_;rintro e w4 ⟨rfl,hb⟩;replace hB:=hB.trans (hb.mono hB.size);clear hb))
 go_ret
 rw[←HW.out]
 exact⟨rfl,hB⟩
theorem ssum_yes (va vl:Value) (root online:Int) (xs:List (Nat×Int×Int)) (ls:List Lf) (w:World) (hx:RowA w va xs) (hl:RowL w vl ls) (hr:I64 root) (_ho:I64 online) (h40:xs.length≤40) (h70:ls.length≤70):
  Calls Tryz.prog 4 #[.agg #[va,.int .i64 root,.int .i64 online,vl]] w fun e w'=>e= .returned (.bool true)∧Below w.heap.size w w':=by
 obtain⟨al,cl,rfl⟩:=hl.sl
 have hB:=(Below.refl w.heap.size w).alloc (Nat.le_refl _) (.cells #[va,.int .i64 root,.int .i64 online,.slice al ls.length cl] 25)
 have hT:Blk (w.alloc (.cells #[va,.int .i64 root,.int .i64 online,.slice al ls.length cl] 25)) w.heap.size 25 #[va,.int .i64 root,.int .i64 online,.slice al ls.length cl]:=Blk.new w 25 _
 have hxx:=hx.below hB
 have hll:=hl.below hB
 clear hx hl
 go_enter Tryz.func4,Tryz.ntmps4
 generalize hb1:w.heap.size=b1 at hT
 have HW:=Lib.hid hb1
 have t0:=hT.at 0
 have t1:=hT.at 1
 have t2:=hT.at 2
 have t3:=hT.at 3
 simp only[gA,gB,gC] at t0 t1 t2 t3
 go_wp2_with fail
 clear hb1
 generalize w.alloc (.cells #[va,.int .i64 root,.int .i64 online,.slice al ls.length cl] 25)=w1 at *
 refine(made_yes va _ root online xs ls w1 hxx hll h40 h70).mono ?_
 rintro e w2 ⟨⟨fp,vD,L,m,k,rfl,hk,⟨aD,cD,rfl,hG⟩,l,hl40,hF⟩,hb⟩
 replace hB:=hB.trans (hb.mono hB.size)
 have hw2:=hB.size
 have hT2:=hT.below hb
 have hl2:=hll.below hb
 have hZ:Blk (w2.alloc (.cells #[.int .i64 0,.int .i64 0,.slice none 0 0] 29)) w2.heap.size 29 (cellsF 0 0 (.slice none 0 0)):=Blk.new w2 29 _
 have hbz:Below w2.heap.size w2 (w2.alloc (.cells #[.int .i64 0,.int .i64 0,.slice none 0 0] 29)):=(Below.refl _ _).alloc (Nat.le_refl _) _
 have hbt:=hT2.lt
 generalize hBf:w1.heap.size=Bf at hF
 clear hb hT t0 t1 t2 t3 hxx hll hBf
 go_wp2_with (first
  | (refine wpList_alloc30 rfl rfl ?_;generalize w2.alloc (.cells #[.int .i64 0,.int .i64 0,.slice none 0 0] 29)=w3 at *)
  | (refine wpList_store30 rfl _ _ rfl w2.heap.size (40:Int) m (.slice aD L.length cD) rfl rfl hZ rfl rfl ?_;intro w5 hZ5 t5;have hDB:=hbz.trans (t5.below (Nat.le_refl _));have HK:Hid (Kp w w5 Bf fp b1 w2.heap.size va root online al cl aD cD L l m k ls):=Lib.hid ⟨hF.below hDB,hG.below hDB,hT2.below hDB,hl2.below hDB,hZ5,hB.trans (hDB.mono hw2)⟩;generalize w2.heap.size=tD at *;clear hZ t5 hDB hZ5 hbz hl2 hF hG hT2 hB)
  | (go_at_call 10;refine(awake9 _).mono ?_;rintro e w4 ⟨rfl,hb⟩;replace HK:=Lib.hid (HK.out.below hb);clear hb;have t1:=HK.out.c1;have t2:=HK.out.c2;have t3:=HK.out.c3))
 replace HK:=Lib.hid HK.out.drew
 clear t1 t2 t3
 refine Rd.region (fun X=>X.cell? ⟨b1,1,none⟩=some (.int .i64 root)∧X.cell? ⟨b1,2,none⟩=some (.int .i64 online)∧X.cell? ⟨b1,3,none⟩=some (.slice al ls.length cl)) 14 [0,1,2,3,4,5,6,9,10,11,12,13] [0,1,2,3,4,5,6,7,8,9,10,11,12,13] (by kernel_rfl) (by kernel_rfl) (by kernel_rfl) (by kernel_rfl) rfl ⟨HK.out.c1,HK.out.c2,HK.out.c3⟩ ?_
 generalize w4.drew=w4 at *
 refine Rd.seq_float (.pointer (some ⟨fp,0,none⟩)) (by simp only[gA,gC];rfl) rfl (by rfl) (fun X _=>by go_simp) ?_
 simp only[Act.put,sA,sB,sC]
 refine Rd.seq_float (.pointer (some ⟨b1,1,none⟩)) (by simp only[gA,gB,gC];rfl) rfl (by rfl) (fun X _=>by go_simp) ?_
 simp only[Act.put,sA,sB,sC]
 refine Rd.seq_float (.int .i64 root) (by simp only[gA,gB,gC];rfl) rfl (by rfl) (fun X hX=>by have hx1:=hX.1;clear hX;go_simp) ?_
 simp only[Act.put,sA,sB,sC]
 refine Rd.seq_float (.pointer (some ⟨b1,2,none⟩)) (by simp only[gA,gB,gC];rfl) rfl (by rfl) (fun X _=>by go_simp) ?_
 simp only[Act.put,sA,sB,sC]
 refine Rd.seq_float (.int .i64 online) (by simp only[gA,gB,gC];rfl) rfl (by rfl) (fun X hX=>by have hx1:=hX.2.1;clear hX;go_simp) ?_
 simp only[Act.put,sA,sB,sC]
 refine Rd.seq_float (.pointer (some ⟨b1,3,none⟩)) (by simp only[gA,gB,gC];rfl) rfl (by rfl) (fun X _=>by go_simp) ?_
 simp only[Act.put,sA,sB,sC]
 refine Rd.seq_float (.slice al ls.length cl) (by simp only[gA,gB,gC];rfl) rfl (by rfl) (fun X hX=>by have hx1:=hX.2.2;clear hX;go_simp) ?_
 simp only[Act.put,sA,sB,sC]
 refine Rd.seq_move (by simp only[gA,gB,gC];rfl) rfl (by rfl) (fun K hK=>?_)
 go_simp
 refine(Reals_any _ ls w4 HK.out.R (by omega)).mono ?_
 rintro e w6 ⟨⟨u6,rfl,hu⟩,hb⟩
 obtain⟨ua,uc,rfl⟩:=hu.sl
 replace HK:=Lib.hid (HK.out.below hb)
 clear hb
 refine hK _ _ (fun _=>⟨HK.out.c1,HK.out.c2,HK.out.c3⟩) ?_
 clear hK K
 refine Rd.seq_move (by simp only[gA,gB,gC];rfl) rfl (by rfl) (fun K hK=>?_)
 go_simp
 refine(Rates_any fp _ L l m k ua uc ls root online w6 HK.out.F hu hr (by omega)).mono ?_
 rintro e w7 ⟨⟨vrw7,rfl,hok,hno⟩,hb⟩
 have HOKw7:=Lib.hid hok
 have HNOw7:=Lib.hid hno
 replace HK:=Lib.hid (HK.out.below hb)
 clear hb hok hno hu
 refine hK _ _ (fun _=>⟨HK.out.c1,HK.out.c2,HK.out.c3⟩) ?_
 clear hK K
 refine Rd.seq_float (.tuple #[vrw7,.int .i64 (errA L ls root online)]) (by simp only[gA,gB,gC];rfl) rfl (by rfl) (fun X _=>by go_simp) ?_
 simp only[Act.put,sA,sB,sC]
 refine Rd.seq_float (vrw7) (by simp only[gA,gB,gC];rfl) rfl (by rfl) (fun X _=>by go_simp) ?_
 simp only[Act.put,sA,sB,sC]
 refine Rd.seq_float (.int .i64 (errA L ls root online)) (by simp only[gA,gB,gC];rfl) rfl (by rfl) (fun X _=>by go_simp) ?_
 simp only[Act.put,sA,sB,sC]
 refine Rd.seq_float (vrw7) (by simp only[gA,gB,gC];rfl) rfl (by rfl) (fun X _=>by go_simp) ?_
 simp only[Act.put,sA,sB,sC]
 refine Rd.seq_float (.int .i64 (errA L ls root online)) (by simp only[gA,gB,gC];rfl) rfl (by rfl) (fun X _=>by go_simp) ?_
 simp only[Act.put,sA,sB,sC]
 refine Rd.seq_end ?_
 by_cases hA:errA L ls root online=0
 ·rw[hA]
  obtain⟨F,ho1,ho2,hfw⟩:=errA_ok HK.out.F.ok hA
  have n64:=F.n64
  have HR0:=HOKw7.out hA
  obtain⟨⟨ar,nr,cr⟩,rfl,hrow⟩:=HR0.sl
  have hnr:nr=ls.length:=by have h:=hrow.len;rw[rlist_len] at h;exact h
  subst hnr
  have HR:=Lib.hid hrow
  clear HR0 hrow
  have HLF:Hid (∀j,j<ls.length→(rlist L ls root online).getD j 0=leafR L ls root (shX ls online) j∧0<leafR L ls root (shX ls online) j∧leafR L ls root (shX ls online) j≤1):=Lib.hid fun j hj=>⟨rlist_at hj,leaf_all F ho1 hj⟩
  have HSZ:Hid (∀j,j≤ls.length→Sz (sumI (leafR L ls root (shX ls online)) (List.range j))):=Lib.hid fun j hj=>part_sz F ho1 hfw _ (fun i hi=>by have:=List.mem_range.1 hi;omega) (by simp;omega)
  have HALL:Hid (sumI (leafR L ls root (shX ls online)) (List.range ls.length)=shX ls online):=Lib.hid (sum_all F)
  have H0:=Lib.hid (Qint 0 (by omega) w7)
  have T1:True:=trivial
  clear F hfw HOKw7 HNOw7
  go_wp2_with (first
   | (go_at_call 18;refine H0.out.mono ?_;rintro e w8 ⟨ps,qs,rfl,hss,hb⟩;replace HK:=Lib.hid (HK.out.below hb);replace HR:=Lib.hid (HR.out.below2 hb);clear hb;have hb8:Below w8.heap.size w8 (w8.alloc (.cells #[.slice none 0 0,.slice none 0 0] 49)):=(Below.refl _ _).alloc (Nat.le_refl _) _;have hA8:Blk (w8.alloc (.cells #[.slice none 0 0,.slice none 0 0] 49)) w8.heap.size 49 #[.slice none 0 0,.slice none 0 0]:=Blk.new w8 49 _)
   | (refine wpList_alloc49 rfl rfl ?_;generalize w8.alloc (.cells #[.slice none 0 0,.slice none 0 0] 49)=w17 at *)
   | (refine wpList_store49 rfl _ _ rfl w8.heap.size ps qs rfl rfl hA8 rfl ?_;intro w18 hS8 t8;have hB8:=Lib.hid (hb8.trans (t8.below (Nat.le_refl _)));have HS8:=Lib.hid hS8;have HSS:=Lib.hid (hss.below hB8.out);clear hA8 t8 hb8 hS8 hss))
  clear H0
  have hl8:=HS8.out.lt
  have hk8:b1<w8.heap.size:=HK.out.T.lt
  go_loopw [44] (fun i wr=>∃(j:Nat) (ps qs:Sl),j≤ls.length∧i= .int .i64 (j:Int)∧Hid (Below w8.heap.size w8 wr)∧Hid (Blk wr w8.heap.size 49 (cellsQ ps qs))∧Hid (RQ wr ps qs (sumI (leafR L ls root (shX ls online)) (List.range j)))) (fun i _=>ls.length - (intOf i).toNat)
  case atStart=>exact⟨0,ps,qs,Nat.zero_le _,rfl,hB8,HS8,HSS⟩
  case round=>
   clear hB8 HS8 HSS hl8
   obtain⟨j,ps,qs,hj,rfl,HW18,HS8,HSS⟩:=hrel
   have hS8:=HS8.out
   have hss:=HSS.out
   have hl8:=hS8.lt
   clear HS8 HSS
   by_cases hlt:j<ls.length
   ·obtain⟨B9,p,q,rfl,d0,d1,hqj⟩:=RowQ.at (HR.out.below2 HW18.out) (j:=j) (by rw[rlist_len];exact hlt)
    obtain⟨hrj,hr0,hr1⟩:=HLF.out j hlt
    rw[hrj] at hqj
    have HC1:=Lib.hid (cmp_le hr1)
    have HC0:=Lib.hid (cmp_gt hr0)
    have HSN:=Lib.hid (sum_snoc (f:=leafR L ls root (shX ls online)) j)
    have hz:=HSZ.out (j+1) hlt
    rw[HSN.out] at hz
    have HZ:=Lib.hid hz
    have hb0:Below wr.heap.size wr (wr.alloc (.cells #[.slice none 0 0,.slice none 0 0] 49)):=(Below.refl _ _).alloc (Nat.le_refl _) _
    have hA9:Blk (wr.alloc (.cells #[.slice none 0 0,.slice none 0 0] 49)) wr.heap.size 49 #[.slice none 0 0,.slice none 0 0]:=Blk.new wr 49 _
    clear hrj hr0 hr1 hz
    go_wp2_with (first
     | (refine wpList_alloc49 rfl rfl ?_;generalize wr.alloc (.cells #[.slice none 0 0,.slice none 0 0] 49)=w19 at *)
     | (refine wpList_store49 rfl _ _ rfl wr.heap.size p q rfl rfl hA9 rfl ?_;intro w9 hQB t9;have hb:=Below.drewS (hb0.trans (t9.below (Nat.le_refl _)));replace hqj:=hqj.below hb;replace hQB:=hQB.drew;replace HW18:=Lib.hid (HW18.out.trans (hb.mono HW18.out.size));replace hS8:=hS8.below hb;replace hss:=hss.below hb;clear hb hb0 t9 hA9 d0 d1))
    have hne9:wr.heap.size≠w8.heap.size:=by omega
    generalize wr.heap.size=b9 at *
    generalize leafR L ls root (shX ls online) j=lj at *
    refine Rd.region (fun X=>X.cell? ⟨b9,0,none⟩=some (.slice p.a p.n p.c)∧X.cell? ⟨b9,1,none⟩=some (.slice q.a q.n q.c)) 10 [0,3,4,5,8,9] [0,1,2,3,4,5,6,7,8,9] (by kernel_rfl) (by kernel_rfl) (by kernel_rfl) (by kernel_rfl) rfl ⟨cQ0 hQB,cQ1 hQB⟩ ?_
    generalize w9.drew=w9 at *
    refine Rd.seq_float (.agg #[.slice p.a p.n p.c,.slice q.a q.n q.c]) (by simp only[gA,gC];rfl) rfl (by rfl) (fun X hX=>by have hx1:=hX.1;have hx2:=hX.2;clear hX;go_simp) ?_
    simp only[Act.put,sA,sB,sC]
    refine Rd.seq_move (by simp only[gA,gB,gC];rfl) rfl (by rfl) (fun K hK=>?_)
    go_simp
    refine(Qint 1 (by omega) w9).mono ?_
    rintro e w10 ⟨p1,q1,rfl,hq1,hb⟩
    replace HW18:=Lib.hid (HW18.out.trans (hb.mono HW18.out.size))
    replace hS8:=hS8.below hb
    replace hss:=hss.below hb
    replace hqj:=hqj.below hb
    replace hQB:=hQB.below hb
    clear hb
    refine hK _ _ (fun _=>⟨cQ0 hQB,cQ1 hQB⟩) ?_
    clear hK K
    refine Rd.seq_move (by simp only[gA,gB,gC];rfl) rfl (by rfl) (fun K hK=>?_)
    go_simp
    refine(Qcmp p q p1 q1 _ _ _ hqj hq1).mono ?_
    rintro e w11 ⟨rfl,hb⟩
    rw[one_rat]
    replace HW18:=Lib.hid (HW18.out.trans (hb.mono HW18.out.size))
    replace hS8:=hS8.below hb
    replace hss:=hss.below hb
    replace hqj:=hqj.below hb
    replace hQB:=hQB.below hb
    clear hb hq1
    refine hK _ _ (fun _=>⟨cQ0 hQB,cQ1 hQB⟩) ?_
    clear hK K
    refine Rd.seq_float (.bool false) (by simp only[gA,gB,gC];rfl) rfl (by rfl) (fun X _=>by have hx1:=HC1.out;go_simp) ?_
    simp only[Act.put,sA,sB,sC]
    refine Rd.seq_float (.bool false) (by simp only[gA,gB,gC];rfl) rfl (by rfl) (fun X _=>by go_simp) ?_
    simp only[Act.put,sA,sB,sC]
    refine Rd.seq_float (.agg #[.slice p.a p.n p.c,.slice q.a q.n q.c]) (by simp only[gA,gB,gC];rfl) rfl (by rfl) (fun X hX=>by have hx1:=hX.1;have hx2:=hX.2;clear hX;go_simp) ?_
    simp only[Act.put,sA,sB,sC]
    refine Rd.seq_move (by simp only[gA,gB,gC];rfl) rfl (by rfl) (fun K hK=>?_)
    go_simp
    refine(Qint 0 (by omega) w11).mono ?_
    rintro e w12 ⟨p1,q1,rfl,hq1,hb⟩
    replace HW18:=Lib.hid (HW18.out.trans (hb.mono HW18.out.size))
    replace hS8:=hS8.below hb
    replace hss:=hss.below hb
    replace hqj:=hqj.below hb
    replace hQB:=hQB.below hb
    clear hb
    refine hK _ _ (fun _=>⟨cQ0 hQB,cQ1 hQB⟩) ?_
    clear hK K
    refine Rd.seq_move (by simp only[gA,gB,gC];rfl) rfl (by rfl) (fun K hK=>?_)
    go_simp
    refine(Qcmp p q p1 q1 _ _ _ hqj hq1).mono ?_
    rintro e w13 ⟨rfl,hb⟩
    rw[nil_rat]
    replace HW18:=Lib.hid (HW18.out.trans (hb.mono HW18.out.size))
    replace hS8:=hS8.below hb
    replace hss:=hss.below hb
    replace hqj:=hqj.below hb
    replace hQB:=hQB.below hb
    clear hb hq1
    refine hK _ _ (fun _=>⟨cQ0 hQB,cQ1 hQB⟩) ?_
    clear hK K
    refine Rd.seq_float (.bool false) (by simp only[gA,gB,gC];rfl) rfl (by rfl) (fun X _=>by have hx1:=HC0.out;go_simp) ?_
    simp only[Act.put,sA,sB,sC]
    refine Rd.seq_float (.bool false) (by simp only[gA,gB,gC];rfl) rfl (by rfl) (fun X _=>by go_simp) ?_
    simp only[Act.put,sA,sB,sC]
    refine Rd.seq_end ?_
    have e0:=cQ0 hS8
    have e1:=cQ1 hS8
    have e2:=cQ0 hQB
    have e3:=cQ1 hQB
    have hbw:=HW18.out.size
    go_wp2_with (first
     | (go_at_call 20;refine(Qadd ps qs p q _ _ _ hss hqj HZ.out).mono ?_;rintro e w14 ⟨px,qx,rfl,hsx,hb⟩;replace hS8:=hS8.below hb;replace HW18:=Lib.hid (HW18.out.trans (hb.mono hbw));clear hb hss e0 e1 e2 e3)
     | (refine wpList_store49 rfl _ _ rfl w8.heap.size px qx rfl rfl hS8 rfl ?_;intro w15 hS9 t15;replace HW18:=Lib.hid (HW18.out.trans (t15.below (Nat.le_refl _)));have HSX:=Lib.hid (hsx.turnQ t15 hS8);clear t15 hS8 hsx))
    go_round
    case rel=>exact⟨j+1,px,qx,by omega,by go_num,HW18,Lib.hid hS9,by rw[HSN.out];exact HSX⟩
    case measure=>simp[intOf];omega
   ·have ej:j=ls.length:=by omega
    subst ej
    replace HK:=Lib.hid (HK.out.below HW18.out).drew
    have hmin:((min online.toNat ls.length:Nat):Int)=min online (ls.length:Int):=by omega
    have HQI:=Lib.hid (fun W=>Qint (min online.toNat ls.length) (by omega) W)
    rw[hmin] at HQI
    have HEQ:Hid (sumI (leafR L ls root (shX ls online)) (List.range ls.length)=((min online.toNat ls.length:Nat):Rat)):=Lib.hid (by rw[HALL.out];rfl)
    clear hmin
    go_wp2_with fail
    replace hS8:=hS8.drew
    replace hss:=hss.below ((Same.drew wr).below _)
    refine Rd.region (fun X=>X.cell? ⟨w8.heap.size,0,none⟩=some (.slice ps.a ps.n ps.c)∧X.cell? ⟨w8.heap.size,1,none⟩=some (.slice qs.a qs.n qs.c)∧X.cell? ⟨b1,3,none⟩=some (.slice al ls.length cl)∧X.cell? ⟨b1,2,none⟩=some (.int .i64 online)) 18 [0,1,2,3,4,5,6,7,8,9,10,11,12,15,16,17] [0,1,2,3,4,5,6,7,8,9,10,11,12,13,14,15,16,17] (by kernel_rfl) (by kernel_rfl) (by kernel_rfl) (by kernel_rfl) rfl ⟨cQ0 hS8,cQ1 hS8,HK.out.c3,HK.out.c2⟩ ?_
    generalize wr.drew=w9 at *
    refine Rd.seq_float (.slice ar ls.length cr) (by simp only[gA,gC];rfl) rfl (by rfl) (fun X _=>by go_simp) ?_
    simp only[Act.put,sA,sB,sC]
    refine Rd.seq_float (.int .i64 (ls.length:Int)) (by simp only[gA,gB,gC];rfl) rfl (by rfl) (fun X _=>by go_simp) ?_
    simp only[Act.put,sA,sB,sC]
    refine Rd.seq_float (.pointer (some ⟨b1,3,none⟩)) (by simp only[gA,gB,gC];rfl) rfl (by rfl) (fun X _=>by go_simp) ?_
    simp only[Act.put,sA,sB,sC]
    refine Rd.seq_float (.slice al ls.length cl) (by simp only[gA,gB,gC];rfl) rfl (by rfl) (fun X hX=>by have hx1:=hX.2.2.1;clear hX;go_simp) ?_
    simp only[Act.put,sA,sB,sC]
    refine Rd.seq_float (.int .i64 (ls.length:Int)) (by simp only[gA,gB,gC];rfl) rfl (by rfl) (fun X _=>by go_simp) ?_
    simp only[Act.put,sA,sB,sC]
    refine Rd.seq_float (.bool true) (by simp only[gA,gB,gC];rfl) rfl (by rfl) (fun X _=>by go_simp) ?_
    simp only[Act.put,sA,sB,sC]
    refine Rd.seq_float (.bool true) (by simp only[gA,gB,gC];rfl) rfl (by rfl) (fun X _=>by go_simp) ?_
    simp only[Act.put,sA,sB,sC]
    refine Rd.seq_float (.agg #[.slice ps.a ps.n ps.c,.slice qs.a qs.n qs.c]) (by simp only[gA,gB,gC];rfl) rfl (by rfl) (fun X hX=>by have hx1:=hX.1;have hx2:=hX.2.1;clear hX;go_simp) ?_
    simp only[Act.put,sA,sB,sC]
    refine Rd.seq_float (.pointer (some ⟨b1,2,none⟩)) (by simp only[gA,gB,gC];rfl) rfl (by rfl) (fun X _=>by go_simp) ?_
    simp only[Act.put,sA,sB,sC]
    refine Rd.seq_float (.int .i64 online) (by simp only[gA,gB,gC];rfl) rfl (by rfl) (fun X hX=>by have hx1:=hX.2.2.2;clear hX;go_simp) ?_
    simp only[Act.put,sA,sB,sC]
    refine Rd.seq_float (.slice ar ls.length cr) (by simp only[gA,gB,gC];rfl) rfl (by rfl) (fun X _=>by go_simp) ?_
    simp only[Act.put,sA,sB,sC]
    refine Rd.seq_float (.int .i64 (ls.length:Int)) (by simp only[gA,gB,gC];rfl) rfl (by rfl) (fun X _=>by go_simp) ?_
    simp only[Act.put,sA,sB,sC]
    refine Rd.seq_float (.int .i64 (min online (ls.length:Int))) (by simp only[gA,gB,gC];rfl) rfl (by rfl) (fun X _=>by go_simp) ?_
    simp only[Act.put,sA,sB,sC]
    refine Rd.seq_move (by simp only[gA,gB,gC];rfl) rfl (by rfl) (fun K hK=>?_)
    go_simp
    refine(HQI.out w9).mono ?_
    rintro e w20 ⟨p1,q1,rfl,hq1,hb⟩
    replace hS8:=hS8.below hb
    replace hss:=hss.below hb
    replace HK:=Lib.hid (HK.out.below hb)
    clear hb
    refine hK _ _ (fun _=>⟨cQ0 hS8,cQ1 hS8,HK.out.c3,HK.out.c2⟩) ?_
    clear hK K
    refine Rd.seq_move (by simp only[gA,gB,gC];rfl) rfl (by rfl) (fun K hK=>?_)
    go_simp
    refine(Qcmp ps qs p1 q1 _ _ _ hss hq1).mono ?_
    rintro e w21 ⟨rfl,hb⟩
    rw[HEQ.out,cmpQ_self]
    replace hS8:=hS8.below hb
    replace HK:=Lib.hid (HK.out.below hb)
    clear hb
    refine hK _ _ (fun _=>⟨cQ0 hS8,cQ1 hS8,HK.out.c3,HK.out.c2⟩) ?_
    clear hK K
    refine Rd.seq_float (.bool true) (by simp only[gA,gB,gC];rfl) rfl (by rfl) (fun X _=>by go_simp) ?_
    simp only[Act.put,sA,sB,sC]
    refine Rd.seq_float (.bool true) (by simp only[gA,gB,gC];rfl) rfl (by rfl) (fun X _=>by go_simp) ?_
    simp only[Act.put,sA,sB,sC]
    refine Rd.seq_float (.bool true) (by simp only[gA,gB,gC];rfl) rfl (by rfl) (fun X _=>by go_simp) ?_
    simp only[Act.put,sA,sB,sC]
    refine Rd.seq_end ?_
    go_wp2_with fail
    go_ret
    rw[←HW.out]
    exact⟨rfl,HK.out.bel⟩
 ·have hA2:(errA L ls root online != 0)=true:=by simpa using hA
  have hv:=HNOw7.out hA
  subst hv
  clear HOKw7 HNOw7
  go_wp2_with fail
  go_ret
  rw[←HW.out]
  exact⟨rfl,HK.out.bel⟩
theorem ssum_any (va vl:Value) (root online:Int) (xs:List (Nat×Int×Int)) (ls:List Lf) (w:World) (hx:RowA w va xs) (hl:RowL w vl ls) (hr:I64 root) (ho:I64 online):
  Calls Tryz.prog 4 #[.agg #[va,.int .i64 root,.int .i64 online,vl]] w fun e w'=>e= .returned (.bool true)∧Below w.heap.size w w':=by
 by_cases hn:40<xs.length∨70<ls.length
 ·exact ssum_no va vl root online xs ls w hx hl hr ho hn
 ·exact ssum_yes va vl root online xs ls w hx hl hr ho (by omega) (by omega)
end Go.Proofs.YtohifgjeebhijaaGreatDoor
