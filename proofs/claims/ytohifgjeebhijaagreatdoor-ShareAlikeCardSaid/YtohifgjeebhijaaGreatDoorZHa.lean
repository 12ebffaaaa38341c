/-
  What this claim needs; no condition of its own. Told short by a script from longer texts.
-/
import Derived.Test.YtohifgjeebhijaaGreatDoorZGg
import Derived.Test.YtohifgjeebhijaaGreatDoorZAl
namespace Go.Proofs.YtohifgjeebhijaaGreatDoor
set_option maxRecDepth 100000
set_option maxHeartbeats 4000000
open Go.RowKit Go.Maps Go.Rq
theorem int_of (b:Int) (h1:0≤b) (h2:b<9223372036854775808) (w:World):Calls Tryz.prog 18 #[.int .i64 b] w fun e w'=>∃x y:Sl,e= .returned (.agg #[.slice x.a x.n x.c,.slice y.a y.n y.c])∧RQ w' x y ((b.toNat:Nat):Rat)∧Below w.heap.size w w':=by
 have h:=Qint b.toNat (by omega) w
 have e:((b.toNat:Nat):Int)=b:=by omega
 rw[e] at h
 exact h
theorem prod_sz {L:List Gr} {m k:Int} {ls:List Lf} {root:Int} (F:Fits L m k ls root) {online:Int} (ho:1≤online) (hf:fewB L ls root=true) {i:Nat} (hi:i<ls.length) (n:Nat) (hn:n≤10000):Sz (leafR L ls root (shX ls online) i*((n:Nat):Rat)):=by
 have hx:=shX_range ls online
 obtain⟨D,hD,hD2,hw,_⟩:=all_whole F hx.1 hx.2 ⟨_,rfl⟩ hf
 have h1:=leaf_all F ho hi
 refine Sz.whole (D:=D) (B:=10000) hD (whole_mul n (hw i hi)) (Rat.mul_nonneg (Rat.le_of_lt h1.1) Rat.natCast_nonneg) ?_ (Nat.le_trans hD2 (big_le (by omega))) (big_small 3000 (by decide) (by omega))
 have h2:((n:Nat):Rat)≤((10000:Nat):Rat):=Rat.natCast_le_natCast.2 hn
 have h3:=le_mul (n:=n) h1.2
 have h4:(1:Rat)*((n:Nat):Rat)=((n:Nat):Rat):=by grind
 rw[h4] at h3
 exact Rat.le_trans h3 h2
theorem alike_no (va vl:Value) (root online:Int) (xs:List (Nat×Int×Int)) (ls:List Lf) (w:World) (hx:RowA w va xs) (hl:RowL w vl ls) (_hr:I64 root) (_ho:I64 online) (hn:40<xs.length∨70<ls.length):
  Calls Tryz.prog 5 #[.agg #[va,.int .i64 root,.int .i64 online,vl]] w fun e w'=>e= .returned (.bool true)∧Below w.heap.size w w':=by
 obtain⟨al,cl,rfl⟩:=hl.sl
 have hB:=(Below.refl w.heap.size w).alloc (Nat.le_refl _) (.cells #[va,.int .i64 root,.int .i64 online,.slice al ls.length cl] 25)
 have hT:Blk (w.alloc (.cells #[va,.int .i64 root,.int .i64 online,.slice al ls.length cl] 25)) w.heap.size 25 #[va,.int .i64 root,.int .i64 online,.slice al ls.length cl]:=Blk.new w 25 _
 have hxx:=hx.below hB
 have hll:=hl.below hB
 clear hx hl
 go_enter Tryz.func5,Tryz.ntmps5
 generalize hb1:w.heap.size=b1 at hT
 have HW:=Lib.hid hb1
 have t0:=hT.at 0
 have t1:=hT.at 1
 have t2:=hT.at 2
 have t3:=hT.at 3
 simp only[gA,gB,gC] at t0 t1 t2 t3
 go_wp2_with fail
 clear hb1
 generalize w.alloc (.cells #[va,.int .i64 root,.int .i64 online,.slice al ls.length cl] 25)=w1 at *
 refine(made_no va _ root online xs ls w1 hxx hll hn).mono ?_
 rintro e w2 ⟨⟨r0,m0,a0,n0,c0,rfl⟩,hb⟩
 replace hB:=hB.trans (hb.mono hB.size)
 have hw2:=hB.size
 have hZ:Blk (w2.alloc (.cells #[.int .i64 0,.int .i64 0,.slice none 0 0] 29)) w2.heap.size 29 (cellsF 0 0 (.slice none 0 0)):=Blk.new w2 29 _
 replace hB:=Below.allocS hB (.cells #[.int .i64 0,.int .i64 0,.slice none 0 0] 29)
 clear hb hT t0 t1 t2 t3 hxx hll
 go_wp2_with (first
  | (refine wpList_alloc30 rfl rfl ?_;generalize w2.alloc (.cells #[.int .i64 0,.int .i64 0,.slice none 0 0] 29)=w3 at *)
  | (refine wpList_store30 rfl _ _ rfl w2.heap.size r0 m0 (.slice a0 n0 c0) rfl rfl hZ rfl rfl ?_;intro w5 hZ5 t5;replace hB:=hB.trans (t5.below hw2);clear hZ t5)
  | (go_at_call 10;refine(awake9 _).mono ?_;rintro e w4 ⟨rfl,hb⟩;replace hB:=hB.trans (hb.mono hB.size);clear hb))
 go_ret
 rw[←HW.out]
 exact⟨rfl,hB⟩
theorem alike_many (va vl:Value) (root online:Int) (xs:List (Nat×Int×Int)) (ls:List Lf) (w:World) (hx:RowA w va xs) (hl:RowL w vl ls) (_hr:I64 root) (_ho:I64 online) (h40:xs.length≤40) (h70:ls.length≤70) (hm:(24:Int)<(ls.length:Int)):
  Calls Tryz.prog 5 #[.agg #[va,.int .i64 root,.int .i64 online,vl]] w fun e w'=>e= .returned (.bool true)∧Below w.heap.size w w':=by
 obtain⟨al,cl,rfl⟩:=hl.sl
 have hB:=(Below.refl w.heap.size w).alloc (Nat.le_refl _) (.cells #[va,.int .i64 root,.int .i64 online,.slice al ls.length cl] 25)
 have hT:Blk (w.alloc (.cells #[va,.int .i64 root,.int .i64 online,.slice al ls.length cl] 25)) w.heap.size 25 #[va,.int .i64 root,.int .i64 online,.slice al ls.length cl]:=Blk.new w 25 _
 have hxx:=hx.below hB
 have hll:=hl.below hB
 clear hx hl
 go_enter Tryz.func5,Tryz.ntmps5
 generalize hb1:w.heap.size=b1 at hT
 have HW:=Lib.hid hb1
 have t0:=hT.at 0
 have t1:=hT.at 1
 have t2:=hT.at 2
 have t3:=hT.at 3
 simp only[gA,gB,gC] at t0 t1 t2 t3
 go_wp2_with fail
 clear hb1
 generalize w.alloc (.cells #[va,.int .i64 root,.int .i64 online,.slice al ls.length cl] 25)=w1 at *
 refine(made_yes va _ root online xs ls w1 hxx hll h40 h70).mono ?_
 rintro e w2 ⟨⟨fp,vD,L,m,k,rfl,hk,⟨aD,cD,rfl,hG⟩,l,hl40,hF⟩,hb⟩
 replace hB:=hB.trans (hb.mono hB.size)
 have hw2:=hB.size
 have hT2:=hT.below hb
 have hl2:=hll.below hb
 have hZ:Blk (w2.alloc (.cells #[.int .i64 0,.int .i64 0,.slice none 0 0] 29)) w2.heap.size 29 (cellsF 0 0 (.slice none 0 0)):=Blk.new w2 29 _
 have hbz:Below w2.heap.size w2 (w2.alloc (.cells #[.int .i64 0,.int .i64 0,.slice none 0 0] 29)):=(Below.refl _ _).alloc (Nat.le_refl _) _
 have hbt:=hT2.lt
 generalize hBf:w1.heap.size=Bf at hF
 clear hb hT t0 t1 t2 t3 hxx hll hBf
 go_wp2_with (first
  | (refine wpList_alloc30 rfl rfl ?_;generalize w2.alloc (.cells #[.int .i64 0,.int .i64 0,.slice none 0 0] 29)=w3 at *)
  | (refine wpList_store30 rfl _ _ rfl w2.heap.size (40:Int) m (.slice aD L.length cD) rfl rfl hZ rfl rfl ?_;intro w5 hZ5 t5;have hDB:=hbz.trans (t5.below (Nat.le_refl _));have HK:Hid (Kp w w5 Bf fp b1 w2.heap.size va root online al cl aD cD L l m k ls):=Lib.hid ⟨hF.below hDB,hG.below hDB,hT2.below hDB,hl2.below hDB,hZ5,hB.trans (hDB.mono hw2)⟩;generalize w2.heap.size=tD at *;clear hZ t5 hDB hZ5 hbz hl2 hF hG hT2 hB)
  | (go_at_call 10;refine(awake9 _).mono ?_;rintro e w4 ⟨rfl,hb⟩;replace HK:=Lib.hid (HK.out.below hb);clear hb;have t1:=HK.out.c1;have t2:=HK.out.c2;have t3:=HK.out.c3))
 go_ret
 rw[←HW.out]
 exact⟨rfl,HK.out.bel⟩
theorem alike_yes (va vl:Value) (root online:Int) (xs:List (Nat×Int×Int)) (ls:List Lf) (w:World) (hx:RowA w va xs) (hl:RowL w vl ls) (hr:I64 root) (_ho:I64 online) (h40:xs.length≤40) (h70:ls.length≤70) (hm: ¬(24:Int)<(ls.length:Int)):
  Calls Tryz.prog 5 #[.agg #[va,.int .i64 root,.int .i64 online,vl]] w fun e w'=>e= .returned (.bool true)∧Below w.heap.size w w':=by
 obtain⟨al,cl,rfl⟩:=hl.sl
 have hB:=(Below.refl w.heap.size w).alloc (Nat.le_refl _) (.cells #[va,.int .i64 root,.int .i64 online,.slice al ls.length cl] 25)
 have hT:Blk (w.alloc (.cells #[va,.int .i64 root,.int .i64 online,.slice al ls.length cl] 25)) w.heap.size 25 #[va,.int .i64 root,.int .i64 online,.slice al ls.length cl]:=Blk.new w 25 _
 have hxx:=hx.below hB
 have hll:=hl.below hB
 clear hx hl
 go_enter Tryz.func5,Tryz.ntmps5
 generalize hb1:w.heap.size=b1 at hT
 have HW:=Lib.hid hb1
 have t0:=hT.at 0
 have t1:=hT.at 1
 have t2:=hT.at 2
 have t3:=hT.at 3
 simp only[gA,gB,gC] at t0 t1 t2 t3
 go_wp2_with fail
 clear hb1
 generalize w.alloc (.cells #[va,.int .i64 root,.int .i64 online,.slice al ls.length cl] 25)=w1 at *
 refine(made_yes va _ root online xs ls w1 hxx hll h40 h70).mono ?_
 rintro e w2 ⟨⟨fp,vD,L,m,k,rfl,hk,⟨aD,cD,rfl,hG⟩,l,hl40,hF⟩,hb⟩
 replace hB:=hB.trans (hb.mono hB.size)
 have hw2:=hB.size
 have hT2:=hT.below hb
 have hl2:=hll.below hb
 have hZ:Blk (w2.alloc (.cells #[.int .i64 0,.int .i64 0,.slice none 0 0] 29)) w2.heap.size 29 (cellsF 0 0 (.slice none 0 0)):=Blk.new w2 29 _
 have hbz:Below w2.heap.size w2 (w2.alloc (.cells #[.int .i64 0,.int .i64 0,.slice none 0 0] 29)):=(Below.refl _ _).alloc (Nat.le_refl _) _
 have hbt:=hT2.lt
 generalize hBf:w1.heap.size=Bf at hF
 clear hb hT t0 t1 t2 t3 hxx hll hBf
 go_wp2_with (first
  | (refine wpList_alloc30 rfl rfl ?_;generalize w2.alloc (.cells #[.int .i64 0,.int .i64 0,.slice none 0 0] 29)=w3 at *)
  | (refine wpList_store30 rfl _ _ rfl w2.heap.size (40:Int) m (.slice aD L.length cD) rfl rfl hZ rfl rfl ?_;intro w5 hZ5 t5;have hDB:=hbz.trans (t5.below (Nat.le_refl _));have HK:Hid (Kp w w5 Bf fp b1 w2.heap.size va root online al cl aD cD L l m k ls):=Lib.hid ⟨hF.below hDB,hG.below hDB,hT2.below hDB,hl2.below hDB,hZ5,hB.trans (hDB.mono hw2)⟩;generalize w2.heap.size=tD at *;clear hZ t5 hDB hZ5 hbz hl2 hF hG hT2 hB)
  | (go_at_call 10;refine(awake9 _).mono ?_;rintro e w4 ⟨rfl,hb⟩;replace HK:=Lib.hid (HK.out.below hb);clear hb;have t1:=HK.out.c1;have t2:=HK.out.c2;have t3:=HK.out.c3))
 replace HK:=Lib.hid HK.out.drew
 clear t1 t2 t3
 refine Rd.region (fun X=>X.cell? ⟨b1,1,none⟩=some (.int .i64 root)∧X.cell? ⟨b1,2,none⟩=some (.int .i64 online)∧X.cell? ⟨b1,3,none⟩=some (.slice al ls.length cl)) 14 [0,1,2,3,4,5,6,9,10,11,12,13] [0,1,2,3,4,5,6,7,8,9,10,11,12,13] (by kernel_rfl) (by kernel_rfl) (by kernel_rfl) (by kernel_rfl) rfl ⟨HK.out.c1,HK.out.c2,HK.out.c3⟩ ?_
 generalize w4.drew=w4 at *
 refine Rd.seq_float (.pointer (some ⟨fp,0,none⟩)) (by simp only[gA,gC];rfl) rfl (by rfl) (fun X _=>by go_simp) ?_
 simp only[Act.put,sA,sB,sC]
 refine Rd.seq_float (.pointer (some ⟨b1,1,none⟩)) (by simp only[gA,gB,gC];rfl) rfl (by rfl) (fun X _=>by go_simp) ?_
 simp only[Act.put,sA,sB,sC]
 refine Rd.seq_float (.int .i64 root) (by simp only[gA,gB,gC];rfl) rfl (by rfl) (fun X hX=>by have hx1:=hX.1;clear hX;go_simp) ?_
 simp only[Act.put,sA,sB,sC]
 refine Rd.seq_float (.pointer (some ⟨b1,2,none⟩)) (by simp only[gA,gB,gC];rfl) rfl (by rfl) (fun X _=>by go_simp) ?_
 simp only[Act.put,sA,sB,sC]
 refine Rd.seq_float (.int .i64 online) (by simp only[gA,gB,gC];rfl) rfl (by rfl) (fun X hX=>by have hx1:=hX.2.1;clear hX;go_simp) ?_
 simp only[Act.put,sA,sB,sC]
 refine Rd.seq_float (.pointer (some ⟨b1,3,none⟩)) (by simp only[gA,gB,gC];rfl) rfl (by rfl) (fun X _=>by go_simp) ?_
 simp only[Act.put,sA,sB,sC]
 refine Rd.seq_float (.slice al ls.length cl) (by simp only[gA,gB,gC];rfl) rfl (by rfl) (fun X hX=>by have hx1:=hX.2.2;clear hX;go_simp) ?_
 simp only[Act.put,sA,sB,sC]
 refine Rd.seq_move (by simp only[gA,gB,gC];rfl) rfl (by rfl) (fun K hK=>?_)
 go_simp
 refine(Reals_any _ ls w4 HK.out.R (by omega)).mono ?_
 rintro e w6 ⟨⟨u6,rfl,hu⟩,hb⟩
 obtain⟨ua,uc,rfl⟩:=hu.sl
 replace HK:=Lib.hid (HK.out.below hb)
 clear hb
 refine hK _ _ (fun _=>⟨HK.out.c1,HK.out.c2,HK.out.c3⟩) ?_
 clear hK K
 refine Rd.seq_move (by simp only[gA,gB,gC];rfl) rfl (by rfl) (fun K hK=>?_)
 go_simp
 refine(Rates_any fp _ L l m k ua uc ls root online w6 HK.out.F hu hr (by omega)).mono ?_
 rintro e w7 ⟨⟨vrw7,rfl,hok,hno⟩,hb⟩
 have HOKw7:=Lib.hid hok
 have HNOw7:=Lib.hid hno
 replace HK:=Lib.hid (HK.out.below hb)
 clear hb hok hno hu
 refine hK _ _ (fun _=>⟨HK.out.c1,HK.out.c2,HK.out.c3⟩) ?_
 clear hK K
 refine Rd.seq_float (.tuple #[vrw7,.int .i64 (errA L ls root online)]) (by simp only[gA,gB,gC];rfl) rfl (by rfl) (fun X _=>by go_simp) ?_
 simp only[Act.put,sA,sB,sC]
 refine Rd.seq_float (vrw7) (by simp only[gA,gB,gC];rfl) rfl (by rfl) (fun X _=>by go_simp) ?_
 simp only[Act.put,sA,sB,sC]
 refine Rd.seq_float (.int .i64 (errA L ls root online)) (by simp only[gA,gB,gC];rfl) rfl (by rfl) (fun X _=>by go_simp) ?_
 simp only[Act.put,sA,sB,sC]
 refine Rd.seq_float (vrw7) (by simp only[gA,gB,gC];rfl) rfl (by rfl) (fun X _=>by go_simp) ?_
 simp only[Act.put,sA,sB,sC]
 refine Rd.seq_float (.int .i64 (errA L ls root online)) (by simp only[gA,gB,gC];rfl) rfl (by rfl) (fun X _=>by go_simp) ?_
 simp only[Act.put,sA,sB,sC]
 refine Rd.seq_end ?_
 by_cases hA:errA L ls root online=0
 ·rw[hA]
  obtain⟨F,ho1,ho2,hfw⟩:=errA_ok HK.out.F.ok hA
  have HR0:=HOKw7.out hA
  obtain⟨⟨ar,nr,cr⟩,rfl,hrow⟩:=HR0.sl
  have hnr:nr=ls.length:=by have h:=hrow.len;rw[rlist_len] at h;exact h
  subst hnr
  have HR:=Lib.hid hrow
  clear HR0 hrow
  have HLF:Hid (∀j,j<ls.length→(rlist L ls root online).getD j 0=leafR L ls root (shX ls online) j∧(∀n,n≤10000→Sz (leafR L ls root (shX ls online) j*((n:Nat):Rat)))∧1≤(lf ls j).2∧(lf ls j).2≤10000):=Lib.hid fun j hj=>⟨rlist_at hj,fun n hn=>prod_sz F ho1 hfw hj n hn,F.wt _ (lf_mem hj)⟩
  have H0:=Lib.hid (Qint 1 (by omega) w7)
  clear F hfw HOKw7 HNOw7
  go_wp2_with (first
   | (go_at_call 18;refine H0.out.mono ?_;rintro e w8 ⟨p1,q1,rfl,hss,hb⟩;rw[one_rat] at hss;replace HK:=Lib.hid (HK.out.below hb);replace HR:=Lib.hid (HR.out.below2 hb);clear hb;have hb8:Below w8.heap.size w8 (w8.alloc (.cells #[.slice none 0 0,.slice none 0 0] 49)):=(Below.refl _ _).alloc (Nat.le_refl _) _;have hA8:Blk (w8.alloc (.cells #[.slice none 0 0,.slice none 0 0] 49)) w8.heap.size 49 #[.slice none 0 0,.slice none 0 0]:=Blk.new w8 49 _)
   | (refine wpList_alloc49 rfl rfl ?_;generalize w8.alloc (.cells #[.slice none 0 0,.slice none 0 0] 49)=w17 at *)
   | (refine wpList_store49 rfl _ _ rfl w8.heap.size p1 q1 rfl rfl hA8 rfl ?_;intro w18 hS8 t8;have hb:=hb8.trans (t8.below (Nat.le_refl _));replace HK:=Lib.hid (HK.out.below hb);replace HR:=Lib.hid (HR.out.below2 hb);have HS8:=Lib.hid hS8;have HSS:=Lib.hid (hss.below hb);have t3:=HK.out.c3;clear hA8 t8 hb8 hb hS8 hss))
  clear H0 t3
  generalize w8.heap.size=b8 at *
  go_loopw [50] (fun v wr=>∃i:Nat,i≤ls.length∧v= .int .i64 (i:Int)∧Hid (Below w18.heap.size w18 wr)) (fun v _=>ls.length - (intOf v).toNat)
  case atStart=>exact⟨0,Nat.zero_le _,rfl,Lib.hid (Below.refl _ _)⟩
  case round=>
   obtain⟨i,hi,rfl,HW18⟩:=hrel
   by_cases hlt:i<ls.length
   ·obtain⟨bl,off,rfl,hx0,hx1,_,_⟩:=(HK.out.R.below HW18.out).at hlt
    have hbl:=World.block_lt_of_cell? _ _ hx0
    have hb0:Below wr.heap.size wr (wr.alloc (.cells #[.int .i64 0,.int .i64 0] 64)):=(Below.refl _ _).alloc (Nat.le_refl _) _
    have hA9:Blk (wr.alloc (.cells #[.int .i64 0,.int .i64 0] 64)) wr.heap.size 64 #[.int .i64 0,.int .i64 0]:=Blk.new wr 64 _
    obtain⟨ag,aw,hla⟩: ∃ag aw,lf ls i=(ag,aw):=⟨_,_,rfl⟩
    have HLA:=Lib.hid hla
    rw[hla] at hx0 hx1
    dsimp only at hx0 hx1
    clear hla
    go_wp2_with (first
     | (refine wpList_alloc64 rfl rfl ?_;generalize wr.alloc (.cells #[.int .i64 0,.int .i64 0] 64)=w9 at *)
     | (refine wpList_store64 rfl _ _ rfl wr.heap.size ag aw rfl rfl hA9 rfl ?_;intro w10 hS10 t9;have hb:=hb0.trans (t9.below (Nat.le_refl _));have HW10:=Lib.hid (HW18.out.trans (hb.mono HW18.out.size));have HS10:=Lib.hid hS10;have t3:=(HK.out.below HW10.out).c3;clear hA9 t9 hb0 hb hS10 hx0 hx1))
    clear t3
    generalize wr.heap.size=b10 at *
    go_loopw [58] (fun v wr=>∃kk:Nat,kk≤ls.length∧v= .int .i64 (kk:Int)∧Hid (Below w10.heap.size w10 wr)) (fun v _=>ls.length - (intOf v).toNat)
    case atStart=>exact⟨0,Nat.zero_le _,rfl,Lib.hid (Below.refl _ _)⟩
    case round=>
     obtain⟨kk,hkk,rfl,HWr⟩:=hrel
     by_cases hlk:kk<ls.length
     ·obtain⟨bl2,off2,e2,hx0,hx1,_,_⟩:=((HK.out.below HW10.out).below HWr.out).R.at hlk
      injection e2 with e2
      injection e2 with e3 e4 _
      subst e3 e4
      have hb0:Below wr.heap.size wr (wr.alloc (.cells #[.int .i64 0,.int .i64 0] 64)):=(Below.refl _ _).alloc (Nat.le_refl _) _
      have hA9:Blk (wr.alloc (.cells #[.int .i64 0,.int .i64 0] 64)) wr.heap.size 64 #[.int .i64 0,.int .i64 0]:=Blk.new wr 64 _
      obtain⟨bg,bw,hlb⟩: ∃bg bw,lf ls kk=(bg,bw):=⟨_,_,rfl⟩
      have HLB:=Lib.hid hlb
      rw[hlb] at hx0 hx1
      dsimp only at hx0 hx1
      clear hlb
      go_wp2_with (first
       | (refine wpList_alloc64 rfl rfl ?_;generalize wr.alloc (.cells #[.int .i64 0,.int .i64 0] 64)=w11 at *)
       | (refine wpList_store64 rfl _ _ rfl wr.heap.size bg bw rfl rfl hA9 rfl ?_;intro w12 hS12 t9;have hb:=hb0.trans (t9.below (Nat.le_refl _));have HW12:=Lib.hid (HWr.out.trans (hb.mono HWr.out.size));have HS12:=Lib.hid hS12;clear hA9 t9 hb0 hb hS12 hx0 hx1))
      generalize wr.heap.size=b12 at *
      have HB18:=Lib.hid (HW10.out.trans (HW12.out.mono HW10.out.size))
      obtain⟨B9,pi,qi,rfl,di0,di1,hqi⟩:=RowQ.at (HR.out.below2 HB18.out) (j:=i) (by rw[rlist_len];exact hlt)
      obtain⟨B9',pk,qk,e9,dk0,dk1,hqk⟩:=RowQ.at (HR.out.below2 HB18.out) (j:=kk) (by rw[rlist_len];exact hlk)
      injection e9 with e9
      injection e9 with e9 _ _
      subst e9
      obtain⟨hri,hzi,hwi1,hwi2⟩:=HLF.out i hlt
      obtain⟨hrk,hzk,hwk1,hwk2⟩:=HLF.out kk hlk
      rw[hri] at hqi
      rw[hrk] at hqk
      rw[HLA.out] at hwi1 hwi2
      rw[HLB.out] at hwk1 hwk2
      dsimp only at hwi1 hwi2 hwk1 hwk2
      have l9:=World.block_lt_of_cell? _ _ di0
      have HC:Hid (∀X,Below w12.heap.size w12 X→X.cell? ⟨b10,0,none⟩=some (.int .i64 ag)∧X.cell? ⟨b10,1,none⟩=some (.int .i64 aw)∧X.cell? ⟨b12,0,none⟩=some (.int .i64 bg)∧X.cell? ⟨b12,1,none⟩=some (.int .i64 bw)∧X.cell? ⟨B9,i*2,none⟩=some (.slice pi.a pi.n pi.c)∧X.cell? ⟨B9,i*2+1,none⟩=some (.slice qi.a qi.n qi.c)∧X.cell? ⟨B9,kk*2,none⟩=some (.slice pk.a pk.n pk.c)∧X.cell? ⟨B9,kk*2+1,none⟩=some (.slice qk.a qk.n qk.c)∧X.cell? ⟨b8,0,none⟩=some (.slice p1.a p1.n p1.c)∧X.cell? ⟨b8,1,none⟩=some (.slice q1.a q1.n q1.c)):=Lib.hid fun X hX=>by
       have h1:=(HS10.out.below HW12.out).below hX
       have h2:=HS12.out.below hX
       have h3:=(HS8.out.below HB18.out).below hX
       exact⟨by rw[h1.at];rfl,by rw[h1.at];rfl,by rw[h2.at];rfl,by rw[h2.at];rfl,(hX.cell (p:=⟨B9,i*2,none⟩) l9).trans di0,(hX.cell (p:=⟨B9,i*2+1,none⟩) l9).trans di1,(hX.cell (p:=⟨B9,kk*2,none⟩) l9).trans dk0,(hX.cell (p:=⟨B9,kk*2+1,none⟩) l9).trans dk1,cQ0 h3,cQ1 h3⟩
      have HQ:Hid (∀X,Below w12.heap.size w12 X→RQ X pi qi (leafR L ls root (shX ls online) i)∧RQ X pk qk (leafR L ls root (shX ls online) kk)∧RQ X p1 q1 1):=Lib.hid fun X hX=>⟨hqi.below hX,hqk.below hX,(HSS.out.below HB18.out).below hX⟩
      clear di0 di1 dk0 dk1 hqi hqk hri hrk l9
      by_cases hg:ag=bg
      ·have HNE:Hid ((ag != bg)=false):=Lib.hid (by simpa using hg)
       have HGG:=Lib.hid hg
       clear hg
       by_cases he1:cmpQ (leafR L ls root (shX ls online) i) 1=0
       ·have HE1:=Lib.hid he1
        have hX:Below w12.heap.size w12 w12.drew:=Below.drewS (Below.refl _ _)
        refine Rd.region (fun X=>Below w12.heap.size w12 X) 23 [0,1,2,3,4,5,6,7,8,9,10,12,13,14,15,16,17,18,19,20,21,22] [0,1,2,3,4,5,6,7,8,9,10,11,12,13,14,15,16,17,18,19,20,21,22] (by kernel_rfl) (by kernel_rfl) (by kernel_rfl) (by kernel_rfl) rfl hX ?_
        generalize w12.drew=w13 at *
        refine Rd.seq_float (.pointer (some ⟨b10,0,none⟩)) (by simp only[gA,gC];rfl) rfl (by rfl) (fun X _=>by go_simp) ?_
        simp only[Act.put,sA,sB,sC]
        refine Rd.seq_float (.int .i64 ag) (by simp only[gA,gB,gC];rfl) rfl (by rfl) (fun X hX=>by have hx:=HC.out X hX;have hc0:=hx.1;clear hx hX;go_simp) ?_
        simp only[Act.put,sA,sB,sC]
        refine Rd.seq_float (.pointer (some ⟨b12,0,none⟩)) (by simp only[gA,gB,gC];rfl) rfl (by rfl) (fun X _=>by go_simp) ?_
        simp only[Act.put,sA,sB,sC]
        refine Rd.seq_float (.int .i64 bg) (by simp only[gA,gB,gC];rfl) rfl (by rfl) (fun X hX=>by have hx:=HC.out X hX;have hc2:=hx.2.2.1;clear hx hX;go_simp) ?_
        simp only[Act.put,sA,sB,sC]
        refine Rd.seq_float (.bool false) (by simp only[gA,gB,gC];rfl) rfl (by rfl) (fun X _=>by have hx1:=HNE.out;go_simp) ?_
        simp only[Act.put,sA,sB,sC]
        refine Rd.seq_float (.bool false) (by simp only[gA,gB,gC];rfl) rfl (by rfl) (fun X _=>by go_simp) ?_
        simp only[Act.put,sA,sB,sC]
        refine Rd.seq_float (.slice (some ⟨B9,0,none⟩) ls.length cr) (by simp only[gA,gB,gC];rfl) rfl (by rfl) (fun X _=>by go_simp) ?_
        simp only[Act.put,sA,sB,sC]
        refine Rd.seq_float (.int .i64 (i:Int)) (by simp only[gA,gB,gC];rfl) rfl (by rfl) (fun X _=>by go_simp) ?_
        simp only[Act.put,sA,sB,sC]
        refine Rd.seq_float (.pointer (some ⟨B9,i*2,none⟩)) (by simp only[gA,gB,gC];rfl) rfl (by rfl) (fun X _=>by go_simp) ?_
        simp only[Act.put,sA,sB,sC]
        refine Rd.seq_float (.agg #[.slice pi.a pi.n pi.c,.slice qi.a qi.n qi.c]) (by simp only[gA,gB,gC];rfl) rfl (by rfl) (fun X hX=>by have hx:=HC.out X hX;have hc4:=hx.2.2.2.2.1;have hc5:=hx.2.2.2.2.2.1;clear hx hX;go_simp) ?_
        simp only[Act.put,sA,sB,sC]
        refine Rd.seq_float (.agg #[.slice p1.a p1.n p1.c,.slice q1.a q1.n q1.c]) (by simp only[gA,gB,gC];rfl) rfl (by rfl) (fun X hX=>by have hx:=HC.out X hX;have hc8:=hx.2.2.2.2.2.2.2.2.1;have hc9:=hx.2.2.2.2.2.2.2.2.2;clear hx hX;go_simp) ?_
        simp only[Act.put,sA,sB,sC]
        refine Rd.seq_move (by simp only[gA,gB,gC];rfl) rfl (by rfl) (fun K hK=>?_)
        go_simp
        refine(Qcmp pi qi p1 q1 _ _ _ ((HQ.out _ hX).1) ((HQ.out _ hX).2.2)).mono ?_
        rintro e w14 ⟨rfl,hb⟩
        replace hX:=hX.trans (hb.mono hX.size)
        clear hb
        refine hK _ _ (fun _=>hX) ?_
        clear hK K
        refine Rd.seq_float (.bool true) (by simp only[gA,gB,gC];rfl) rfl (by rfl) (fun X _=>by have hx1:=HE1.out;go_simp) ?_
        simp only[Act.put,sA,sB,sC]
        refine Rd.seq_float (.bool true) (by simp only[gA,gB,gC];rfl) rfl (by rfl) (fun X _=>by go_simp) ?_
        simp only[Act.put,sA,sB,sC]
        refine Rd.seq_float (.bool true) (by simp only[gA,gB,gC];rfl) rfl (by rfl) (fun X _=>by go_simp) ?_
        simp only[Act.put,sA,sB,sC]
        refine Rd.seq_skip (by simp only[gA,gB,gC];rfl) rfl (by rfl) ?_
        simp only[Act.put,sA,sB,sC]
        refine Rd.seq_skip (by simp only[gA,gB,gC];rfl) rfl (by rfl) ?_
        simp only[Act.put,sA,sB,sC]
        refine Rd.seq_skip (by simp only[gA,gB,gC];rfl) rfl (by rfl) ?_
        simp only[Act.put,sA,sB,sC]
        refine Rd.seq_skip (by simp only[gA,gB,gC];rfl) rfl (by rfl) ?_
        simp only[Act.put,sA,sB,sC]
        refine Rd.seq_skip (by simp only[gA,gB,gC];rfl) rfl (by rfl) ?_
        simp only[Act.put,sA,sB,sC]
        refine Rd.seq_skip (by simp only[gA,gB,gC];rfl) rfl (by rfl) ?_
        simp only[Act.put,sA,sB,sC]
        refine Rd.seq_skip (by simp only[gA,gB,gC];rfl) rfl (by rfl) ?_
        simp only[Act.put,sA,sB,sC]
        refine Rd.seq_float (.bool true) (by simp only[gA,gB,gC];rfl) rfl (by rfl) (fun X _=>by go_simp) ?_
        simp only[Act.put,sA,sB,sC]
        refine Rd.seq_end ?_
        go_wp2_with fail
        go_round
        case rel=>exact⟨kk+1,by omega,by go_num,Lib.hid (HW12.out.trans (hX.mono HW12.out.size))⟩
        case measure=>simp[intOf];omega
       ·have HE1:Hid ((cmpQ (leafR L ls root (shX ls online) i) 1==0)=false):=Lib.hid (beq_ff he1)
        by_cases he2:cmpQ (leafR L ls root (shX ls online) kk) 1=0
        ·have HE2:=Lib.hid he2
         have hX:Below w12.heap.size w12 w12.drew:=Below.drewS (Below.refl _ _)
         refine Rd.region (fun X=>Below w12.heap.size w12 X) 23 [0,1,2,3,4,5,6,7,8,9,10,12,13,14,15,16,17,18,19,21,22] [0,1,2,3,4,5,6,7,8,9,10,11,12,13,14,15,16,17,18,19,20,21,22] (by kernel_rfl) (by kernel_rfl) (by kernel_rfl) (by kernel_rfl) rfl hX ?_
         generalize w12.drew=w13 at *
         refine Rd.seq_float (.pointer (some ⟨b10,0,none⟩)) (by simp only[gA,gC];rfl) rfl (by rfl) (fun X _=>by go_simp) ?_
         simp only[Act.put,sA,sB,sC]
         refine Rd.seq_float (.int .i64 ag) (by simp only[gA,gB,gC];rfl) rfl (by rfl) (fun X hX=>by have hx:=HC.out X hX;have hc0:=hx.1;clear hx hX;go_simp) ?_
         simp only[Act.put,sA,sB,sC]
         refine Rd.seq_float (.pointer (some ⟨b12,0,none⟩)) (by simp only[gA,gB,gC];rfl) rfl (by rfl) (fun X _=>by go_simp) ?_
         simp only[Act.put,sA,sB,sC]
         refine Rd.seq_float (.int .i64 bg) (by simp only[gA,gB,gC];rfl) rfl (by rfl) (fun X hX=>by have hx:=HC.out X hX;have hc2:=hx.2.2.1;clear hx hX;go_simp) ?_
         simp only[Act.put,sA,sB,sC]
         refine Rd.seq_float (.bool false) (by simp only[gA,gB,gC];rfl) rfl (by rfl) (fun X _=>by have hx1:=HNE.out;go_simp) ?_
         simp only[Act.put,sA,sB,sC]
         refine Rd.seq_float (.bool false) (by simp only[gA,gB,gC];rfl) rfl (by rfl) (fun X _=>by go_simp) ?_
         simp only[Act.put,sA,sB,sC]
         refine Rd.seq_float (.slice (some ⟨B9,0,none⟩) ls.length cr) (by simp only[gA,gB,gC];rfl) rfl (by rfl) (fun X _=>by go_simp) ?_
         simp only[Act.put,sA,sB,sC]
         refine Rd.seq_float (.int .i64 (i:Int)) (by simp only[gA,gB,gC];rfl) rfl (by rfl) (fun X _=>by go_simp) ?_
         simp only[Act.put,sA,sB,sC]
         refine Rd.seq_float (.pointer (some ⟨B9,i*2,none⟩)) (by simp only[gA,gB,gC];rfl) rfl (by rfl) (fun X _=>by go_simp) ?_
         simp only[Act.put,sA,sB,sC]
         refine Rd.seq_float (.agg #[.slice pi.a pi.n pi.c,.slice qi.a qi.n qi.c]) (by simp only[gA,gB,gC];rfl) rfl (by rfl) (fun X hX=>by have hx:=HC.out X hX;have hc4:=hx.2.2.2.2.1;have hc5:=hx.2.2.2.2.2.1;clear hx hX;go_simp) ?_
         simp only[Act.put,sA,sB,sC]
         refine Rd.seq_float (.agg #[.slice p1.a p1.n p1.c,.slice q1.a q1.n q1.c]) (by simp only[gA,gB,gC];rfl) rfl (by rfl) (fun X hX=>by have hx:=HC.out X hX;have hc8:=hx.2.2.2.2.2.2.2.2.1;have hc9:=hx.2.2.2.2.2.2.2.2.2;clear hx hX;go_simp) ?_
         simp only[Act.put,sA,sB,sC]
         refine Rd.seq_move (by simp only[gA,gB,gC];rfl) rfl (by rfl) (fun K hK=>?_)
         go_simp
         refine(Qcmp pi qi p1 q1 _ _ _ ((HQ.out _ hX).1) ((HQ.out _ hX).2.2)).mono ?_
         rintro e w14 ⟨rfl,hb⟩
         replace hX:=hX.trans (hb.mono hX.size)
         clear hb
         refine hK _ _ (fun _=>hX) ?_
         clear hK K
         refine Rd.seq_float (.bool false) (by simp only[gA,gB,gC];rfl) rfl (by rfl) (fun X _=>by have hx1:=HE1.out;go_simp) ?_
         simp only[Act.put,sA,sB,sC]
         refine Rd.seq_float (.bool false) (by simp only[gA,gB,gC];rfl) rfl (by rfl) (fun X _=>by go_simp) ?_
         simp only[Act.put,sA,sB,sC]
         refine Rd.seq_float (.bool false) (by simp only[gA,gB,gC];rfl) rfl (by rfl) (fun X _=>by go_simp) ?_
         simp only[Act.put,sA,sB,sC]
         refine Rd.seq_float (.slice (some ⟨B9,0,none⟩) ls.length cr) (by simp only[gA,gB,gC];rfl) rfl (by rfl) (fun X _=>by go_simp) ?_
         simp only[Act.put,sA,sB,sC]
         refine Rd.seq_float (.int .i64 (kk:Int)) (by simp only[gA,gB,gC];rfl) rfl (by rfl) (fun X _=>by go_simp) ?_
         simp only[Act.put,sA,sB,sC]
         refine Rd.seq_float (.pointer (some ⟨B9,kk*2,none⟩)) (by simp only[gA,gB,gC];rfl) rfl (by rfl) (fun X _=>by go_simp) ?_
         simp only[Act.put,sA,sB,sC]
         refine Rd.seq_float (.agg #[.slice pk.a pk.n pk.c,.slice qk.a qk.n qk.c]) (by simp only[gA,gB,gC];rfl) rfl (by rfl) (fun X hX=>by have hx:=HC.out X hX;have hc6:=hx.2.2.2.2.2.2.1;have hc7:=hx.2.2.2.2.2.2.2.1;clear hx hX;go_simp) ?_
         simp only[Act.put,sA,sB,sC]
         refine Rd.seq_float (.agg #[.slice p1.a p1.n p1.c,.slice q1.a q1.n q1.c]) (by simp only[gA,gB,gC];rfl) rfl (by rfl) (fun X hX=>by have hx:=HC.out X hX;have hc8:=hx.2.2.2.2.2.2.2.2.1;have hc9:=hx.2.2.2.2.2.2.2.2.2;clear hx hX;go_simp) ?_
         simp only[Act.put,sA,sB,sC]
         refine Rd.seq_move (by simp only[gA,gB,gC];rfl) rfl (by rfl) (fun K hK=>?_)
         go_simp
         refine(Qcmp pk qk p1 q1 _ _ _ ((HQ.out _ hX).2.1) ((HQ.out _ hX).2.2)).mono ?_
         rintro e w15 ⟨rfl,hb⟩
         replace hX:=hX.trans (hb.mono hX.size)
         clear hb
         refine hK _ _ (fun _=>hX) ?_
         clear hK K
         refine Rd.seq_float (.bool true) (by simp only[gA,gB,gC];rfl) rfl (by rfl) (fun X _=>by have hx1:=HE2.out;go_simp) ?_
         simp only[Act.put,sA,sB,sC]
         refine Rd.seq_float (.bool true) (by simp only[gA,gB,gC];rfl) rfl (by rfl) (fun X _=>by go_simp) ?_
         simp only[Act.put,sA,sB,sC]
         refine Rd.seq_end ?_
         go_wp2_with fail
         go_round
         case rel=>exact⟨kk+1,by omega,by go_num,Lib.hid (HW12.out.trans (hX.mono HW12.out.size))⟩
         case measure=>simp[intOf];omega
        ·have HE2:Hid ((cmpQ (leafR L ls root (shX ls online) kk) 1==0)=false):=Lib.hid (beq_ff he2)
         have HEQ:Hid (leafR L ls root (shX ls online) i*((bw.toNat:Nat):Rat)=leafR L ls root (shX ls online) kk*((aw.toNat:Nat):Rat)):=Lib.hid (by
          have h:=leaf_alike (L:=L) (ls:=ls) (root:=root) (x:=shX ls online) (i:=i) (j:=kk) (by rw[HLA.out,HLB.out];exact HGG.out) (fun e=>he1 (by rw[e,cmpQ_self])) (fun e=>he2 (by rw[e,cmpQ_self]))
          rw[HLA.out,HLB.out] at h
          exact h)
         have HZ1:=Lib.hid (hzi bw.toNat (by omega))
         have HZ2:=Lib.hid (hzk aw.toNat (by omega))
         have HIB:=Lib.hid (fun W=>int_of bw (by omega) (by omega) W)
         have HIA:=Lib.hid (fun W=>int_of aw (by omega) (by omega) W)
         clear hzi hzk
         have hX:Below w12.heap.size w12 w12.drew:=Below.drewS (Below.refl _ _)
         refine Rd.region (fun X=>Below w12.heap.size w12 X) 23 [0,1,2,3,4,5,6,7,8,9,10,12,13,14,15,16,17,18,19,21,22] [0,1,2,3,4,5,6,7,8,9,10,11,12,13,14,15,16,17,18,19,20,21,22] (by kernel_rfl) (by kernel_rfl) (by kernel_rfl) (by kernel_rfl) rfl hX ?_
         generalize w12.drew=w13 at *
         refine Rd.seq_float (.pointer (some ⟨b10,0,none⟩)) (by simp only[gA,gC];rfl) rfl (by rfl) (fun X _=>by go_simp) ?_
         simp only[Act.put,sA,sB,sC]
         refine Rd.seq_float (.int .i64 ag) (by simp only[gA,gB,gC];rfl) rfl (by rfl) (fun X hX=>by have hx:=HC.out X hX;have hc0:=hx.1;clear hx hX;go_simp) ?_
         simp only[Act.put,sA,sB,sC]
         refine Rd.seq_float (.pointer (some ⟨b12,0,none⟩)) (by simp only[gA,gB,gC];rfl) rfl (by rfl) (fun X _=>by go_simp) ?_
         simp only[Act.put,sA,sB,sC]
         refine Rd.seq_float (.int .i64 bg) (by simp only[gA,gB,gC];rfl) rfl (by rfl) (fun X hX=>by have hx:=HC.out X hX;have hc2:=hx.2.2.1;clear hx hX;go_simp) ?_
         simp only[Act.put,sA,sB,sC]
         refine Rd.seq_float (.bool false) (by simp only[gA,gB,gC];rfl) rfl (by rfl) (fun X _=>by have hx1:=HNE.out;go_simp) ?_
         simp only[Act.put,sA,sB,sC]
         refine Rd.seq_float (.bool false) (by simp only[gA,gB,gC];rfl) rfl (by rfl) (fun X _=>by go_simp) ?_
         simp only[Act.put,sA,sB,sC]
         refine Rd.seq_float (.slice (some ⟨B9,0,none⟩) ls.length cr) (by simp only[gA,gB,gC];rfl) rfl (by rfl) (fun X _=>by go_simp) ?_
         simp only[Act.put,sA,sB,sC]
         refine Rd.seq_float (.int .i64 (i:Int)) (by simp only[gA,gB,gC];rfl) rfl (by rfl) (fun X _=>by go_simp) ?_
         simp only[Act.put,sA,sB,sC]
         refine Rd.seq_float (.pointer (some ⟨B9,i*2,none⟩)) (by simp only[gA,gB,gC];rfl) rfl (by rfl) (fun X _=>by go_simp) ?_
         simp only[Act.put,sA,sB,sC]
         refine Rd.seq_float (.agg #[.slice pi.a pi.n pi.c,.slice qi.a qi.n qi.c]) (by simp only[gA,gB,gC];rfl) rfl (by rfl) (fun X hX=>by have hx:=HC.out X hX;have hc4:=hx.2.2.2.2.1;have hc5:=hx.2.2.2.2.2.1;clear hx hX;go_simp) ?_
         simp only[Act.put,sA,sB,sC]
         refine Rd.seq_float (.agg #[.slice p1.a p1.n p1.c,.slice q1.a q1.n q1.c]) (by simp only[gA,gB,gC];rfl) rfl (by rfl) (fun X hX=>by have hx:=HC.out X hX;have hc8:=hx.2.2.2.2.2.2.2.2.1;have hc9:=hx.2.2.2.2.2.2.2.2.2;clear hx hX;go_simp) ?_
         simp only[Act.put,sA,sB,sC]
         refine Rd.seq_move (by simp only[gA,gB,gC];rfl) rfl (by rfl) (fun K hK=>?_)
         go_simp
         refine(Qcmp pi qi p1 q1 _ _ _ ((HQ.out _ hX).1) ((HQ.out _ hX).2.2)).mono ?_
         rintro e w14 ⟨rfl,hb⟩
         replace hX:=hX.trans (hb.mono hX.size)
         clear hb
         refine hK _ _ (fun _=>hX) ?_
         clear hK K
         refine Rd.seq_float (.bool false) (by simp only[gA,gB,gC];rfl) rfl (by rfl) (fun X _=>by have hx1:=HE1.out;go_simp) ?_
         simp only[Act.put,sA,sB,sC]
         refine Rd.seq_float (.bool false) (by simp only[gA,gB,gC];rfl) rfl (by rfl) (fun X _=>by go_simp) ?_
         simp only[Act.put,sA,sB,sC]
         refine Rd.seq_float (.bool false) (by simp only[gA,gB,gC];rfl) rfl (by rfl) (fun X _=>by go_simp) ?_
         simp only[Act.put,sA,sB,sC]
         refine Rd.seq_float (.slice (some ⟨B9,0,none⟩) ls.length cr) (by simp only[gA,gB,gC];rfl) rfl (by rfl) (fun X _=>by go_simp) ?_
         simp only[Act.put,sA,sB,sC]
         refine Rd.seq_float (.int .i64 (kk:Int)) (by simp only[gA,gB,gC];rfl) rfl (by rfl) (fun X _=>by go_simp) ?_
         simp only[Act.put,sA,sB,sC]
         refine Rd.seq_float (.pointer (some ⟨B9,kk*2,none⟩)) (by simp only[gA,gB,gC];rfl) rfl (by rfl) (fun X _=>by go_simp) ?_
         simp only[Act.put,sA,sB,sC]
         refine Rd.seq_float (.agg #[.slice pk.a pk.n pk.c,.slice qk.a qk.n qk.c]) (by simp only[gA,gB,gC];rfl) rfl (by rfl) (fun X hX=>by have hx:=HC.out X hX;have hc6:=hx.2.2.2.2.2.2.1;have hc7:=hx.2.2.2.2.2.2.2.1;clear hx hX;go_simp) ?_
         simp only[Act.put,sA,sB,sC]
         refine Rd.seq_float (.agg #[.slice p1.a p1.n p1.c,.slice q1.a q1.n q1.c]) (by simp only[gA,gB,gC];rfl) rfl (by rfl) (fun X hX=>by have hx:=HC.out X hX;have hc8:=hx.2.2.2.2.2.2.2.2.1;have hc9:=hx.2.2.2.2.2.2.2.2.2;clear hx hX;go_simp) ?_
         simp only[Act.put,sA,sB,sC]
         refine Rd.seq_move (by simp only[gA,gB,gC];rfl) rfl (by rfl) (fun K hK=>?_)
         go_simp
         refine(Qcmp pk qk p1 q1 _ _ _ ((HQ.out _ hX).2.1) ((HQ.out _ hX).2.2)).mono ?_
         rintro e w15 ⟨rfl,hb⟩
         replace hX:=hX.trans (hb.mono hX.size)
         clear hb
         refine hK _ _ (fun _=>hX) ?_
         clear hK K
         refine Rd.seq_float (.bool false) (by simp only[gA,gB,gC];rfl) rfl (by rfl) (fun X _=>by have hx1:=HE2.out;go_simp) ?_
         simp only[Act.put,sA,sB,sC]
         refine Rd.seq_float (.bool false) (by simp only[gA,gB,gC];rfl) rfl (by rfl) (fun X _=>by go_simp) ?_
         simp only[Act.put,sA,sB,sC]
         refine Rd.seq_end ?_
         go_wp2_with fail
         replace hX:=Below.drewS hX
         refine Rd.region (fun X=>Below w12.heap.size w12 X) 18 [0,1,2,3,4,5,8,9,10,11,12,13,17] [0,1,2,3,4,5,8,9,10,11,12,13,6,7,14,15,16,17] (by kernel_rfl) (by kernel_rfl) (by kernel_rfl) (by kernel_rfl) rfl hX ?_
         generalize w15.drew=w15 at *
         refine Rd.seq_float (.slice (some ⟨B9,0,none⟩) ls.length cr) (by simp only[gA,gC];rfl) rfl (by rfl) (fun X _=>by go_simp) ?_
         simp only[Act.put,sA,sB,sC]
         refine Rd.seq_float (.int .i64 (i:Int)) (by simp only[gA,gB,gC];rfl) rfl (by rfl) (fun X _=>by go_simp) ?_
         simp only[Act.put,sA,sB,sC]
         refine Rd.seq_float (.pointer (some ⟨B9,i*2,none⟩)) (by simp only[gA,gB,gC];rfl) rfl (by rfl) (fun X _=>by go_simp) ?_
         simp only[Act.put,sA,sB,sC]
         refine Rd.seq_float (.agg #[.slice pi.a pi.n pi.c,.slice qi.a qi.n qi.c]) (by simp only[gA,gB,gC];rfl) rfl (by rfl) (fun X hX=>by have hx:=HC.out X hX;have hc4:=hx.2.2.2.2.1;have hc5:=hx.2.2.2.2.2.1;clear hx hX;go_simp) ?_
         simp only[Act.put,sA,sB,sC]
         refine Rd.seq_float (.pointer (some ⟨b12,1,none⟩)) (by simp only[gA,gB,gC];rfl) rfl (by rfl) (fun X _=>by go_simp) ?_
         simp only[Act.put,sA,sB,sC]
         refine Rd.seq_float (.int .i64 bw) (by simp only[gA,gB,gC];rfl) rfl (by rfl) (fun X hX=>by have hx:=HC.out X hX;have hc3:=hx.2.2.2.1;clear hx hX;go_simp) ?_
         simp only[Act.put,sA,sB,sC]
         refine Rd.seq_float (.slice (some ⟨B9,0,none⟩) ls.length cr) (by simp only[gA,gB,gC];rfl) rfl (by rfl) (fun X _=>by go_simp) ?_
         simp only[Act.put,sA,sB,sC]
         refine Rd.seq_float (.int .i64 (kk:Int)) (by simp only[gA,gB,gC];rfl) rfl (by rfl) (fun X _=>by go_simp) ?_
         simp only[Act.put,sA,sB,sC]
         refine Rd.seq_float (.pointer (some ⟨B9,kk*2,none⟩)) (by simp only[gA,gB,gC];rfl) rfl (by rfl) (fun X _=>by go_simp) ?_
         simp only[Act.put,sA,sB,sC]
         refine Rd.seq_float (.agg #[.slice pk.a pk.n pk.c,.slice qk.a qk.n qk.c]) (by simp only[gA,gB,gC];rfl) rfl (by rfl) (fun X hX=>by have hx:=HC.out X hX;have hc6:=hx.2.2.2.2.2.2.1;have hc7:=hx.2.2.2.2.2.2.2.1;clear hx hX;go_simp) ?_
         simp only[Act.put,sA,sB,sC]
         refine Rd.seq_float (.pointer (some ⟨b10,1,none⟩)) (by simp only[gA,gB,gC];rfl) rfl (by rfl) (fun X _=>by go_simp) ?_
         simp only[Act.put,sA,sB,sC]
         refine Rd.seq_float (.int .i64 aw) (by simp only[gA,gB,gC];rfl) rfl (by rfl) (fun X hX=>by have hx:=HC.out X hX;have hc1:=hx.2.1;clear hx hX;go_simp) ?_
         simp only[Act.put,sA,sB,sC]
         refine Rd.seq_move (by simp only[gA,gB,gC];rfl) rfl (by rfl) (fun K hK=>?_)
         go_simp
         refine(HIB.out w15).mono ?_
         rintro e w16 ⟨pa,qa,rfl,hqa,hb⟩
         replace hX:=hX.trans (hb.mono hX.size)
         clear hb
         refine hK _ _ (fun _=>hX) ?_
         clear hK K
         refine Rd.seq_move (by simp only[gA,gB,gC];rfl) rfl (by rfl) (fun K hK=>?_)
         go_simp
         refine(Qmul pi qi pa qa _ _ _ ((HQ.out _ hX).1) hqa HZ1.out).mono ?_
         rintro e w17 ⟨pb,qb,rfl,hqb,hb⟩
         clear hqa
         replace hX:=hX.trans (hb.mono hX.size)
         clear hb
         refine hK _ _ (fun _=>hX) ?_
         clear hK K
         refine Rd.seq_move (by simp only[gA,gB,gC];rfl) rfl (by rfl) (fun K hK=>?_)
         go_simp
         refine(HIA.out w17).mono ?_
         rintro e w18 ⟨pa,qa,rfl,hqa,hb⟩
         replace hqb:=hqb.below hb
         replace hX:=hX.trans (hb.mono hX.size)
         clear hb
         refine hK _ _ (fun _=>hX) ?_
         clear hK K
         refine Rd.seq_move (by simp only[gA,gB,gC];rfl) rfl (by rfl) (fun K hK=>?_)
         go_simp
         refine(Qmul pk qk pa qa _ _ _ ((HQ.out _ hX).2.1) hqa HZ2.out).mono ?_
         rintro e w19 ⟨pc,qc,rfl,hqc,hb⟩
         replace hqb:=hqb.below hb
         clear hqa
         replace hX:=hX.trans (hb.mono hX.size)
         clear hb
         refine hK _ _ (fun _=>hX) ?_
         clear hK K
         refine Rd.seq_move (by simp only[gA,gB,gC];rfl) rfl (by rfl) (fun K hK=>?_)
         go_simp
         rw[HEQ.out] at hqb
         refine(Qcmp pb qb pc qc _ _ _ hqb hqc).mono ?_
         rintro e w20 ⟨rfl,hb⟩
         rw[cmpQ_self]
         replace hX:=hX.trans (hb.mono hX.size)
         clear hb
         refine hK _ _ (fun _=>hX) ?_
         clear hK K
         refine Rd.seq_float (.bool false) (by simp only[gA,gB,gC];rfl) rfl (by rfl) (fun X _=>by go_simp) ?_
         simp only[Act.put,sA,sB,sC]
         refine Rd.seq_end ?_
         go_wp2_with fail
         go_round
         case rel=>exact⟨kk+1,by omega,by go_num,Lib.hid (HW12.out.trans (hX.mono HW12.out.size))⟩
         case measure=>simp[intOf];omega
      ·have HNE:Hid ((ag != bg)=true):=Lib.hid (by simpa using hg)
       have hX:Below w12.heap.size w12 w12.drew:=Below.drewS (Below.refl _ _)
       refine Rd.region (fun X=>Below w12.heap.size w12 X) 23 [0,1,2,3,4,5,6,7,8,9,10,11,12,13,14,15,16,17,18,19,20,21,22] [0,1,2,3,4,5,6,7,8,9,10,11,12,13,14,15,16,17,18,19,20,21,22] (by kernel_rfl) (by kernel_rfl) (by kernel_rfl) (by kernel_rfl) rfl hX ?_
       generalize w12.drew=w13 at *
       refine Rd.seq_float (.pointer (some ⟨b10,0,none⟩)) (by simp only[gA,gC];rfl) rfl (by rfl) (fun X _=>by go_simp) ?_
       simp only[Act.put,sA,sB,sC]
       refine Rd.seq_float (.int .i64 ag) (by simp only[gA,gB,gC];rfl) rfl (by rfl) (fun X hX=>by have hx:=HC.out X hX;have hc0:=hx.1;clear hx hX;go_simp) ?_
       simp only[Act.put,sA,sB,sC]
       refine Rd.seq_float (.pointer (some ⟨b12,0,none⟩)) (by simp only[gA,gB,gC];rfl) rfl (by rfl) (fun X _=>by go_simp) ?_
       simp only[Act.put,sA,sB,sC]
       refine Rd.seq_float (.int .i64 bg) (by simp only[gA,gB,gC];rfl) rfl (by rfl) (fun X hX=>by have hx:=HC.out X hX;have hc2:=hx.2.2.1;clear hx hX;go_simp) ?_
       simp only[Act.put,sA,sB,sC]
       refine Rd.seq_float (.bool true) (by simp only[gA,gB,gC];rfl) rfl (by rfl) (fun X _=>by have hx1:=HNE.out;go_simp) ?_
       simp only[Act.put,sA,sB,sC]
       refine Rd.seq_float (.bool true) (by simp only[gA,gB,gC];rfl) rfl (by rfl) (fun X _=>by go_simp) ?_
       simp only[Act.put,sA,sB,sC]
       refine Rd.seq_skip (by simp only[gA,gB,gC];rfl) rfl (by rfl) ?_
       simp only[Act.put,sA,sB,sC]
       refine Rd.seq_skip (by simp only[gA,gB,gC];rfl) rfl (by rfl) ?_
       simp only[Act.put,sA,sB,sC]
       refine Rd.seq_skip (by simp only[gA,gB,gC];rfl) rfl (by rfl) ?_
       simp only[Act.put,sA,sB,sC]
       refine Rd.seq_skip (by simp only[gA,gB,gC];rfl) rfl (by rfl) ?_
       simp only[Act.put,sA,sB,sC]
       refine Rd.seq_skip (by simp only[gA,gB,gC];rfl) rfl (by rfl) ?_
       simp only[Act.put,sA,sB,sC]
       refine Rd.seq_skip (by simp only[gA,gB,gC];rfl) rfl (by rfl) ?_
       simp only[Act.put,sA,sB,sC]
       refine Rd.seq_skip (by simp only[gA,gB,gC];rfl) rfl (by rfl) ?_
       simp only[Act.put,sA,sB,sC]
       refine Rd.seq_float (.bool true) (by simp only[gA,gB,gC];rfl) rfl (by rfl) (fun X _=>by go_simp) ?_
       simp only[Act.put,sA,sB,sC]
       refine Rd.seq_float (.bool true) (by simp only[gA,gB,gC];rfl) rfl (by rfl) (fun X _=>by go_simp) ?_
       simp only[Act.put,sA,sB,sC]
       refine Rd.seq_skip (by simp only[gA,gB,gC];rfl) rfl (by rfl) ?_
       simp only[Act.put,sA,sB,sC]
       refine Rd.seq_skip (by simp only[gA,gB,gC];rfl) rfl (by rfl) ?_
       simp only[Act.put,sA,sB,sC]
       refine Rd.seq_skip (by simp only[gA,gB,gC];rfl) rfl (by rfl) ?_
       simp only[Act.put,sA,sB,sC]
       refine Rd.seq_skip (by simp only[gA,gB,gC];rfl) rfl (by rfl) ?_
       simp only[Act.put,sA,sB,sC]
       refine Rd.seq_skip (by simp only[gA,gB,gC];rfl) rfl (by rfl) ?_
       simp only[Act.put,sA,sB,sC]
       refine Rd.seq_skip (by simp only[gA,gB,gC];rfl) rfl (by rfl) ?_
       simp only[Act.put,sA,sB,sC]
       refine Rd.seq_skip (by simp only[gA,gB,gC];rfl) rfl (by rfl) ?_
       simp only[Act.put,sA,sB,sC]
       refine Rd.seq_float (.bool true) (by simp only[gA,gB,gC];rfl) rfl (by rfl) (fun X _=>by go_simp) ?_
       simp only[Act.put,sA,sB,sC]
       refine Rd.seq_end ?_
       go_wp2_with fail
       go_round
       case rel=>exact⟨kk+1,by omega,by go_num,Lib.hid (HW12.out.trans (hX.mono HW12.out.size))⟩
       case measure=>simp[intOf];omega
     ·have ej:kk=ls.length:=by omega
      subst ej
      go_wp2_with fail
      go_round
      case rel=>exact⟨i+1,by omega,by go_num,Lib.hid (HW10.out.trans (HWr.out.mono HW10.out.size))⟩
      case measure=>simp[intOf];omega
   ·have ej:i=ls.length:=by omega
    subst ej
    replace HK:=Lib.hid (HK.out.below HW18.out)
    go_wp2_with fail
    go_ret
    rw[←HW.out]
    exact⟨rfl,HK.out.bel⟩
 ·have hA2:(errA L ls root online != 0)=true:=by simpa using hA
  clear HOKw7 HNOw7
  go_wp2_with fail
  go_ret
  rw[←HW.out]
  exact⟨rfl,HK.out.bel⟩
theorem alike_any (va vl:Value) (root online:Int) (xs:List (Nat×Int×Int)) (ls:List Lf) (w:World) (hx:RowA w va xs) (hl:RowL w vl ls) (hr:I64 root) (ho:I64 online):
  Calls Tryz.prog 5 #[.agg #[va,.int .i64 root,.int .i64 online,vl]] w fun e w'=>e= .returned (.bool true)∧Below w.heap.size w w':=by
 by_cases hn:40<xs.length∨70<ls.length
 ·exact alike_no va vl root online xs ls w hx hl hr ho hn
 ·by_cases hm:(24:Int)<(ls.length:Int)
  ·exact alike_many va vl root online xs ls w hx hl hr ho (by omega) (by omega) hm
  ·exact alike_yes va vl root online xs ls w hx hl hr ho (by omega) (by omega) hm
end Go.Proofs.YtohifgjeebhijaaGreatDoor
