/-
  What this claim needs; no condition of its own. Told short by a script from longer texts.
-/
import Derived.OwnWalk
import Derived.Test.YtohifgjeebhijaaGreatDoorWBk
import Derived.Test.YtohifgjeebhijaaGreatDoorWShelh
import Derived.Test.YtohifgjeebhijaaGreatDoorWAl
namespace Go.Proofs.YtohifgjeebhijaaGreatDoor
set_option maxRecDepth 100000
set_option maxHeartbeats 2000000
open Go.RowKit Go.Dig Go.Shelf Go.Proofs
theorem made_zerosU (n:Nat):(madeCells (Value.int .u64 0).cells (n*1)).toList=(List.replicate n 0).map encU:=by
 show (madeCells #[Value.int .u64 0] (n*1)).toList=_
 rw[toList_madeCells_one,Nat.mul_one,List.map_replicate];rfl
theorem set_zeros (out:List Nat) (k d:Nat):(out++List.replicate (k+1) 0).set out.length d=(out++[d])++List.replicate k 0:=by
 rw[List.set_append_right _ _ (Nat.le_refl _),Nat.sub_self,List.replicate_succ,sC]
 simp
theorem nAdd_any (v1 v2:Value) (la lb:List Nat) (w:World) (h1:RowU w v1 la) (h2:RowU w v2 lb) (s1:SmallU la) (s2:SmallU lb) (hl1:la.length≤100000) (hl2:lb.length≤100000):
  Calls Tryz.prog 39 #[v1,v2] w fun e w'=>∃v,e= .returned v∧RowU w' v (L (V la+V lb))∧Below w.heap.size w w':=by
 obtain⟨i0,hi,hz0,hz1,hz2⟩:=info_parts Tryz.info94
 have R1:=Lib.hid h1
 have R2:=Lib.hid h2
 obtain⟨ad1,cap1,rfl,hc1,-⟩:=h1
 obtain⟨ad2,cap2,rfl,hc2,-⟩:=h2
 have HS:=Lib.hid (And.intro s1 s2)
 clear s1 s2
 by_cases hle:la.length<lb.length
 ·go_enter Tryz.func39,Tryz.ntmps39
  go_wp2_with (at_make;refine wpList_make_full w rfl _ _ 47 rfl w.heap.size 94 i0 (.int .u64 0) 1 Tryz.underlying47 hi hz0 hz1 .i64 .i64 _ _ (lb.length+1) rfl rfl (by omega) (by omega) (by rw[hz2];omega) (by unfold maxLen;omega) (Nat.le_refl _) ?_;intro w1 hown hgrow)
  rw[made_zerosU] at hown
  have hb1:Below w.heap.size w w1:=(Below.refl _ w).grown hgrow (Nat.le_refl _) (fun j ej=>by cases ej)
  go_wp2_with fail
  go_loopw [7,18] (fun c i wr=>∃(k cy:Nat) (out:List Nat),k≤lb.length∧c= .int .u64 (cy:Int)∧i= .int .i64 (k:Int)∧Own64 wr w.heap.size w.heap.size (lb.length+1) (lb.length+1) (out++List.replicate (lb.length - k+1) 0)∧out.length=k∧Hid (AddI 18446744073709551616 la lb out cy k)∧Below w.heap.size w wr) (fun _ i _=>lb.length - (intOf i).toNat)
  case atStart=>exact⟨0,0,[],by omega,rfl,rfl,hown,rfl,Lib.hid (AddI.zero _ _),hb1⟩
  case round=>
   clear hown hgrow hb1
   obtain⟨k,cy,out,hk,rfl,rfl,hO,hol,HI,hB⟩:=hrel
   by_cases hlt:k<lb.length
   ·have hcy:=HI.out.low
    have HI2:=Lib.hid (Lib.hid (HI.out.step (by omega) HS.out.1 HS.out.2))
    have hx:=HS.out.1.getD (by omega) k
    have hy:=HS.out.2.getD (by omega) k
    have H1:=Lib.hid (limb_any _ la k wr (R1.out.below hB) (by omega) (by omega))
    have H2:=Lib.hid (limb_any _ lb k wr (R2.out.below hB) (by omega) (by omega))
    have hc2:=HI2.out.out.low
    generalize la.getD k 0=x at HI2 hx H1 hc2
    generalize lb.getD k 0=y at HI2 hy H2 hc2
    obtain⟨d,hd⟩: ∃d,(x+y+cy) % 18446744073709551616=d:=⟨_,rfl⟩
    obtain⟨c2,hc2e⟩: ∃c2,(x+y+cy) / 18446744073709551616=c2:=⟨_,rfl⟩
    have hadd:=Tryz.add64 x y cy d c2 hcy hd hc2e
    rw[hd,hc2e] at HI2
    clear HI hd hc2e hc2
    have hfz:=hO.frozen k
    have hcz:=hO.cell (j:=k) (by omega)
    have HS2:=Lib.hid (hO.set k d)
    rw[show lb.length - k+1=(lb.length - (k+1)+1)+1 by omega,←hol,set_zeros,hol] at HS2
    go_wp2_with fail
    refine H1.out.mono ?_
    rintro e w2 ⟨rfl,rfl⟩
    go_wp2_with fail
    refine H2.out.mono ?_
    rintro e w2 ⟨rfl,rfl⟩
    go_wp2_with fail
    exact⟨⟨k+1,c2,out++[d],by omega,rfl,by go_num,HS2.out,by simp[hol],HI2.out,hB.setCell (p:=⟨w.heap.size,k,none⟩) (Nat.le_refl _) _⟩,by simp[intOf];omega⟩
   ·have hkn:k=lb.length:=by omega
    subst hkn
    have hfz:=hO.frozen lb.length
    have hcz:=hO.cell (j:=lb.length) (by omega)
    have HS2:=Lib.hid (hO.set lb.length cy)
    have hval:V (out++[cy])=V la+V lb:=by
     have e:=HI.out.eq
     rw[val_take_all la (by omega),val_take_all lb (by omega)] at e
     show val _ _=_
     rw[val_snoc,hol]
     exact e
    have hsm:SmallU (out++[cy]):=HI.out.small.snoc (by have:=HI.out.low;omega)
    have HT:Hid (trim (out++[cy])=L (V la+V lb)):=Lib.hid (by rw[trim_L hsm,hval])
    rw[show lb.length - lb.length+1=0+1 by omega,←hol,set_zeros,hol] at HS2
    simp only[List.replicate_zero,List.append_nil] at HS2
    clear HI hO hval hsm
    go_wp2_with fail
    have hO2:=HS2.out
    have hB2:Below w.heap.size w (wr.setCell ⟨w.heap.size,lb.length,none⟩ (.int .u64 (cy:Int))):=hB.setCell (p:=⟨w.heap.size,lb.length,none⟩) (Nat.le_refl _) _
    generalize wr.setCell ⟨w.heap.size,lb.length,none⟩ (.int .u64 (cy:Int))=W2 at hO2 hB2 ⊢
    have hl9:(out++[cy]).length=lb.length+1:=by simp[hol]
    have H38:=nTrim_any (some ⟨w.heap.size,0,none⟩) (lb.length+1) (out++[cy]) W2 (by rw[hl9];exact hO2.row) (by omega)
    have hT2:=RowU.trimmed hO2.row
    rw[hl9] at H38
    rw[HT.out] at hT2
    refine H38.mono ?_
    rintro e w3 ⟨rfl,hb3⟩
    go_wp2_with fail
    go_ret
    exact⟨_,rfl,hT2.below hb3,hB2.trans (hb3.mono hB2.size)⟩
 ·go_enter Tryz.func39,Tryz.ntmps39
  go_wp2_with (at_make;refine wpList_make_full w rfl _ _ 47 rfl w.heap.size 94 i0 (.int .u64 0) 1 Tryz.underlying47 hi hz0 hz1 .i64 .i64 _ _ (la.length+1) rfl rfl (by omega) (by omega) (by rw[hz2];omega) (by unfold maxLen;omega) (Nat.le_refl _) ?_;intro w1 hown hgrow)
  rw[made_zerosU] at hown
  have hb1:Below w.heap.size w w1:=(Below.refl _ w).grown hgrow (Nat.le_refl _) (fun j ej=>by cases ej)
  go_wp2_with fail
  go_loopw [7,18] (fun c i wr=>∃(k cy:Nat) (out:List Nat),k≤la.length∧c= .int .u64 (cy:Int)∧i= .int .i64 (k:Int)∧Own64 wr w.heap.size w.heap.size (la.length+1) (la.length+1) (out++List.replicate (la.length - k+1) 0)∧out.length=k∧Hid (AddI 18446744073709551616 la lb out cy k)∧Below w.heap.size w wr) (fun _ i _=>la.length - (intOf i).toNat)
  case atStart=>exact⟨0,0,[],by omega,rfl,rfl,hown,rfl,Lib.hid (AddI.zero _ _),hb1⟩
  case round=>
   clear hown hgrow hb1
   obtain⟨k,cy,out,hk,rfl,rfl,hO,hol,HI,hB⟩:=hrel
   by_cases hlt:k<la.length
   ·have hcy:=HI.out.low
    have HI2:=Lib.hid (Lib.hid (HI.out.step (by omega) HS.out.1 HS.out.2))
    have hx:=HS.out.1.getD (by omega) k
    have hy:=HS.out.2.getD (by omega) k
    have H1:=Lib.hid (limb_any _ la k wr (R1.out.below hB) (by omega) (by omega))
    have H2:=Lib.hid (limb_any _ lb k wr (R2.out.below hB) (by omega) (by omega))
    have hc2:=HI2.out.out.low
    generalize la.getD k 0=x at HI2 hx H1 hc2
    generalize lb.getD k 0=y at HI2 hy H2 hc2
    obtain⟨d,hd⟩: ∃d,(x+y+cy) % 18446744073709551616=d:=⟨_,rfl⟩
    obtain⟨c2,hc2e⟩: ∃c2,(x+y+cy) / 18446744073709551616=c2:=⟨_,rfl⟩
    have hadd:=Tryz.add64 x y cy d c2 hcy hd hc2e
    rw[hd,hc2e] at HI2
    clear HI hd hc2e hc2
    have hfz:=hO.frozen k
    have hcz:=hO.cell (j:=k) (by omega)
    have HS2:=Lib.hid (hO.set k d)
    rw[show la.length - k+1=(la.length - (k+1)+1)+1 by omega,←hol,set_zeros,hol] at HS2
    go_wp2_with fail
    refine H1.out.mono ?_
    rintro e w2 ⟨rfl,rfl⟩
    go_wp2_with fail
    refine H2.out.mono ?_
    rintro e w2 ⟨rfl,rfl⟩
    go_wp2_with fail
    exact⟨⟨k+1,c2,out++[d],by omega,rfl,by go_num,HS2.out,by simp[hol],HI2.out,hB.setCell (p:=⟨w.heap.size,k,none⟩) (Nat.le_refl _) _⟩,by simp[intOf];omega⟩
   ·have hkn:k=la.length:=by omega
    subst hkn
    have hfz:=hO.frozen la.length
    have hcz:=hO.cell (j:=la.length) (by omega)
    have HS2:=Lib.hid (hO.set la.length cy)
    have hval:V (out++[cy])=V la+V lb:=by
     have e:=HI.out.eq
     rw[val_take_all la (by omega),val_take_all lb (by omega)] at e
     show val _ _=_
     rw[val_snoc,hol]
     exact e
    have hsm:SmallU (out++[cy]):=HI.out.small.snoc (by have:=HI.out.low;omega)
    have HT:Hid (trim (out++[cy])=L (V la+V lb)):=Lib.hid (by rw[trim_L hsm,hval])
    rw[show la.length - la.length+1=0+1 by omega,←hol,set_zeros,hol] at HS2
    simp only[List.replicate_zero,List.append_nil] at HS2
    clear HI hO hval hsm
    go_wp2_with fail
    have hO2:=HS2.out
    have hB2:Below w.heap.size w (wr.setCell ⟨w.heap.size,la.length,none⟩ (.int .u64 (cy:Int))):=hB.setCell (p:=⟨w.heap.size,la.length,none⟩) (Nat.le_refl _) _
    generalize wr.setCell ⟨w.heap.size,la.length,none⟩ (.int .u64 (cy:Int))=W2 at hO2 hB2 ⊢
    have hl9:(out++[cy]).length=la.length+1:=by simp[hol]
    have H38:=nTrim_any (some ⟨w.heap.size,0,none⟩) (la.length+1) (out++[cy]) W2 (by rw[hl9];exact hO2.row) (by omega)
    have hT2:=RowU.trimmed hO2.row
    rw[hl9] at H38
    rw[HT.out] at hT2
    refine H38.mono ?_
    rintro e w3 ⟨rfl,hb3⟩
    go_wp2_with fail
    go_ret
    exact⟨_,rfl,hT2.below hb3,hB2.trans (hb3.mono hB2.size)⟩
theorem nSub_any (v1 v2:Value) (a b:Nat) (w:World) (h1:RowU w v1 (L a)) (h2:RowU w v2 (L b)) (hl1:(L a).length≤100000) (hab:b≤a):
  Calls Tryz.prog 189 #[v1,v2] w fun e w'=>∃v,e= .returned (.tuple #[v,.int .i64 0])∧RowU w' v (L (a - b))∧Below w.heap.size w w':=by
 obtain⟨i0,hi,hz0,hz1,hz2⟩:=info_parts Tryz.info94
 have hl2:(L b).length≤(L a).length:=dig_mono (by omega) hab
 have H22:=Lib.hid (nCmp_any v1 v2 (L a) (L b) w h1 h2 (small_L a) (small_L b) (by omega) (by omega))
 rw[V_L,V_L] at H22
 have hcz:0≤cmpZ a b:=by
  unfold cmpZ;split
  ·omega
  ·split<;>omega
 generalize cmpZ a b=z at H22 hcz
 have R1:=Lib.hid h1
 have R2:=Lib.hid h2
 obtain⟨ad1,cap1,rfl,hc1,-⟩:=h1
 obtain⟨ad2,cap2,rfl,hc2,-⟩:=h2
 have HS:=Lib.hid (And.intro (small_L a) (small_L b))
 have HAB:=Lib.hid hab
 go_enter Tryz.func189,Tryz.ntmps189
 go_wp2_with fail
 refine H22.out.mono ?_
 rintro e w0 ⟨rfl,hb0⟩
 have R1':=R1.out.below hb0
 have R2':=R2.out.below hb0
 have H41:=Lib.hid (fun(k:Nat) (hk:k≤100000) (W:World) (hb:Below w0.heap.size w0 W)=>limb_any (.slice ad2 (L b).length cap2) (L b) k W (R2'.below hb) (by omega) (by omega))
 have HR1:=Lib.hid R1'
 have HB0:=Lib.hid hb0
 clear R1 R2 R1' R2' H22 hb0
 obtain⟨w,rfl⟩: ∃w',w'=w0:=⟨_,rfl⟩
 go_wp2_with (at_make;refine wpList_make_full w rfl _ _ 47 rfl w.heap.size 94 i0 (.int .u64 0) 1 Tryz.underlying47 hi hz0 hz1 .i64 .i64 _ _ (L a).length rfl rfl (by omega) (by omega) (by rw[hz2];omega) (by unfold maxLen;omega) (Nat.le_refl _) ?_;intro w1 hown hgrow)
 rw[made_zerosU] at hown
 have hb1:Below w.heap.size w w1:=(Below.refl _ w).grown hgrow (Nat.le_refl _) (fun j ej=>by cases ej)
 go_wp2_with fail
 go_loopw [7,18] (fun c i wr=>∃(k bo:Nat) (out:List Nat),k≤(L a).length∧c= .int .u64 (bo:Int)∧i= .int .i64 (k:Int)∧Own64 wr w.heap.size w.heap.size (L a).length (L a).length (out++List.replicate ((L a).length - k) 0)∧out.length=k∧Hid (SubI 18446744073709551616 (L a) (L b) out bo k)∧Below w.heap.size w wr) (fun _ i _=>(L a).length - (intOf i).toNat)
 case atStart=>exact⟨0,0,[],by omega,rfl,rfl,hown,rfl,Lib.hid (SubI.zero _ _),hb1⟩
 case round=>
  clear hown hgrow hb1
  obtain⟨k,bo,out,hk,rfl,rfl,hO,hol,HI,hB⟩:=hrel
  have hbo:=HI.out.low
  by_cases hlt:k<(L a).length
  ·obtain⟨b1,o1,rfl,hb1,c1⟩:=HR1.out.cell hlt
   replace c1:wr.drew.cell? ⟨b1,o1+k,none⟩=some (.int .u64 ((L a).getD k 0:Nat)):=(hB.cell (p:=⟨b1,o1+k,none⟩) hb1).trans c1
   have hx:=HS.out.1.getD (by omega) k
   have hy:=HS.out.2.getD (by omega) k
   have HI2:Hid (Hid (SubI 18446744073709551616 (L a) (L b) (out++[((L a).getD k 0+18446744073709551616 - (L b).getD k 0 - bo) % 18446744073709551616]) (if (L a).getD k 0<(L b).getD k 0+bo then 1 else 0) (k+1))):=Lib.hid (Lib.hid (by
    by_cases hbr:(L a).getD k 0<(L b).getD k 0+bo
    ·rw[if_pos hbr,Nat.mod_eq_of_lt (by omega)]
     exact HI.out.borrowed HS.out.2 (by omega) hbr
    ·rw[if_neg hbr,show ((L a).getD k 0+18446744073709551616 - (L b).getD k 0 - bo) % 18446744073709551616=(L a).getD k 0 - (L b).getD k 0 - bo by omega]
     exact HI.out.plain HS.out.1 (by omega) (by omega)))
   replace H41:=Lib.hid (H41.out k (by omega))
   generalize (L a).getD k 0=x at c1 hx HI2
   generalize (L b).getD k 0=y at hy HI2 H41
   obtain⟨d,hd⟩: ∃d,(x+18446744073709551616 - y - bo) % 18446744073709551616=d:=⟨_,rfl⟩
   obtain⟨b2,hb2e⟩: ∃b2,(if x<y+bo then 1 else 0)=b2:=⟨_,rfl⟩
   have hsub:=Tryz.sub64 x y bo d b2 hbo hd hb2e
   rw[hd,hb2e] at HI2
   clear HI hd hb2e
   have hO1:Own64 wr.drew w.heap.size w.heap.size (L a).length (L a).length (out++List.replicate ((L a).length - k) 0):=hO
   have hB1:Below w.heap.size w wr.drew:=hB.drew
   clear hO hB
   go_wp2_with fail
   refine Rd.region (fun X=>X.cell? ⟨b1,o1+k,none⟩=some (.int .u64 (x:Int))∧Below w.heap.size w X) 16 [0,1,2,3,4,5,6,7,9,11,12,13,14] [0,1,2,3,4,5,6,7,9,8,10,11,12,13,14,15,16] (by kernel_rfl) (by kernel_rfl) (by kernel_rfl) (by kernel_rfl) rfl ⟨c1,hB1⟩ ?_
   generalize wr.drew=W1 at c1 hO1 hB1 ⊢
   refine Rd.seq_float (.slice (some ⟨w.heap.size,0,none⟩) (L a).length (L a).length) (by simp only[gA,gC];rfl) rfl (by rfl) (fun X _=>by go_simp) ?_
   simp only[Act.put,sA,sB,sC]
   refine Rd.seq_float (.int .i64 (k:Int)) (by simp only[gA,gB,gC];rfl) rfl (by rfl) (fun X _=>by go_simp) ?_
   simp only[Act.put,sA,sB,sC]
   refine Rd.seq_float (.slice (some ⟨b1,o1,none⟩) (L a).length cap1) (by simp only[gA,gB,gC];rfl) rfl (by rfl) (fun X _=>by go_simp) ?_
   simp only[Act.put,sA,sB,sC]
   refine Rd.seq_float (.int .i64 (k:Int)) (by simp only[gA,gB,gC];rfl) rfl (by rfl) (fun X _=>by go_simp) ?_
   simp only[Act.put,sA,sB,sC]
   refine Rd.seq_float (.pointer (some ⟨b1,o1+k,none⟩)) (by simp only[gA,gB,gC];rfl) rfl (by rfl) (fun X _=>by go_simp) ?_
   simp only[Act.put,sA,sB,sC]
   refine Rd.seq_float (.int .u64 (x:Int)) (by simp only[gA,gB,gC];rfl) rfl (by rfl) (fun X hX=>by have h1:=hX.1;go_simp) ?_
   simp only[Act.put,sA,sB,sC]
   refine Rd.seq_float (.slice ad2 (L b).length cap2) (by simp only[gA,gB,gC];rfl) rfl (by rfl) (fun X _=>by go_simp) ?_
   simp only[Act.put,sA,sB,sC]
   refine Rd.seq_float (.int .i64 (k:Int)) (by simp only[gA,gB,gC];rfl) rfl (by rfl) (fun X _=>by go_simp) ?_
   simp only[Act.put,sA,sB,sC]
   refine Rd.seq_float (.int .u64 (bo:Int)) (by simp only[gA,gB,gC];rfl) rfl (by rfl) (fun X _=>by go_simp) ?_
   simp only[Act.put,sA,sB,sC]
   refine Rd.seq_move (by simp only[gA,gB,gC];rfl) rfl (by rfl) (fun K hK=>?_)
   go_simp
   refine(H41.out W1 hB1).mono ?_
   rintro e W2 ⟨rfl,rfl⟩
   refine hK _ _ (fun _=>⟨c1,hB1⟩) ?_
   clear hK K
   refine Rd.seq_move (by simp only[gA,gB,gC];rfl) rfl (by rfl) (fun K hK=>?_)
   go_simp
   refine hK _ _ (fun _=>⟨c1,hB1⟩) ?_
   clear hK K
   refine Rd.seq_float (.tuple #[.int .u64 (d:Int),.int .u64 (b2:Int)]) (by simp only[gA,gB,gC];rfl) rfl (by rfl) (fun X _=>by go_simp) ?_
   simp only[Act.put,sA,sB,sC]
   refine Rd.seq_float (.int .u64 (d:Int)) (by simp only[gA,gB,gC];rfl) rfl (by rfl) (fun X _=>by go_simp) ?_
   simp only[Act.put,sA,sB,sC]
   refine Rd.seq_float (.int .u64 (b2:Int)) (by simp only[gA,gB,gC];rfl) rfl (by rfl) (fun X _=>by go_simp) ?_
   simp only[Act.put,sA,sB,sC]
   refine Rd.seq_float (.pointer (some ⟨w.heap.size,k,none⟩)) (by simp only[gA,gB,gC];rfl) rfl (by rfl) (fun X _=>by go_simp) ?_
   simp only[Act.put,sA,sB,sC]
   refine Rd.seq_move (by simp only[gA,gB,gC];rfl) rfl (by rfl) (fun K hK=>?_)
   go_simp
   have hfz:=hO1.frozen k
   have hcz:=hO1.cell (j:=k) hlt
   go_simp
   refine hK _ _ (fun _=>⟨((hB1.setCell (p:=⟨w.heap.size,k,none⟩) (Nat.le_refl _) (.int .u64 (d:Int))).cell (p:=⟨b1,o1+k,none⟩) hb1).trans (((hB1.cell (p:=⟨b1,o1+k,none⟩) hb1).symm.trans c1)),hB1.setCell (p:=⟨w.heap.size,k,none⟩) (Nat.le_refl _) _⟩) ?_
   clear hK K
   refine Rd.seq_move (by simp only[gA,gB,gC];rfl) rfl (by rfl) (fun K hK=>?_)
   go_simp
   refine hK _ _ (fun h=>absurd h (by omega)) ?_
   refine Rd.seq_end ?_
   have HS2:=hO1.set k d
   rw[show (L a).length - k=((L a).length - (k+1))+1 by omega,←hol,set_zeros,hol] at HS2
   have hB2:Below w.heap.size w (W1.setCell ⟨w.heap.size,k,none⟩ (.int .u64 (d:Int))):=hB1.setCell (p:=⟨w.heap.size,k,none⟩) (Nat.le_refl _) _
   generalize W1.setCell ⟨w.heap.size,k,none⟩ (.int .u64 (d:Int))=W3 at HS2 hB2 ⊢
   go_wp2_with fail
   go_round
   case rel=>exact⟨k+1,b2,out++[d],by omega,rfl,by go_num,HS2,by simp[hol],HI2.out,hB2⟩
   case measure=>simp[intOf];omega
  ·have hkn:k=(L a).length:=by omega
   subst hkn
   have HT:Hid (trim out=L (a - b)):=Lib.hid (by
    have h1:=HI.out.done (by omega) hl2 (by rw[dig_val (by omega),dig_val (by omega)];exact HAB.out)
    rw[trim_L HI.out.small]
    show L (val _ _)=_
    rw[h1.2,dig_val (by omega),dig_val (by omega)])
   have hO2:Own64 wr w.heap.size w.heap.size (L a).length (L a).length out:=by
    have h:=hO
    rw[Nat.sub_self,List.replicate_zero,List.append_nil] at h
    exact h
   clear HI hO
   have H38:=nTrim_any (some ⟨w.heap.size,0,none⟩) (L a).length out wr (by rw[hol];exact hO2.row) (by omega)
   have hT2:=RowU.trimmed hO2.row
   rw[hol] at H38
   rw[HT.out] at hT2
   have H38h:=Lib.hid H38
   clear H38
   go_wp2_with fail
   refine H38h.out.mono ?_
   rintro e w3 ⟨rfl,hb3⟩
   go_wp2_with fail
   go_ret2
   exact⟨_,rfl,hT2.below hb3,HB0.out.trans ((hB.trans (hb3.mono hB.size)).mono HB0.out.size)⟩
end Go.Proofs.YtohifgjeebhijaaGreatDoor
