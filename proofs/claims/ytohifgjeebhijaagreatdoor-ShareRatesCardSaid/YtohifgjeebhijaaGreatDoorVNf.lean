import Derived.OwnWalk
import Derived.Test.YtohifgjeebhijaaGreatDoorVBk
import Derived.Test.YtohifgjeebhijaaGreatDoorVShelh
namespace Go.Proofs.YtohifgjeebhijaaGreatDoor
set_option maxRecDepth 100000
set_option maxHeartbeats 2000000
open Go.RowKit Go.Dig Go.Shelf Go.Proofs
theorem eI (n:Nat):(madeCells (Value.int .u64 0).cells (n*1)).toList=(List.replicate n 0).map lj:=by
 show (madeCells #[Value.int .u64 0] (n*1)).toList=_;rw[toList_madeCells_one,Nat.mul_one,List.map_replicate];rfl
theorem sZ (out:List Nat) (k d:Nat):(out++List.replicate (k+1) 0).set out.length d=(out++[d])++List.replicate k 0:=by
 rw[List.set_append_right _ _ lr,Nat.sub_self,List.replicate_succ,sC];simp
theorem Cy {p:Prop} (h:p:=by have h1:=hX.1;go_simp):p:=h
theorem wK (v1 v2:Value) (a b:Nat) (w:World) (h1:aH w v1 (L a)) (h2:aH w v2 (L b)) (hl1:(L a).length≤100000) (hab:b≤a):
  Calls Tryz.prog 189 #[v1,v2] w fun e w'=>∃v,e= .returned (.tuple #[v,.int .i64 0])∧aH w' v (L (a - b))∧Below w.heap.size w w':=by
 obtain⟨i0,hi,hz0,hz1,hz2⟩:=info_parts Tryz.info94;have hl2:(L b).length≤(L a).length:=dN A3 hab;have H22:=Hd (oK v1 v2 (L a) (L b) w h1 h2 (bH a) (bH b) A3 A3);rw[V_L,V_L] at H22;have hcz:0≤bJ a b:=by
  unfold bJ;split
  ·omega
  ·split<;>omega
 generalize bJ a b=z at H22 hcz;have R1:=Hd h1;have R2:=Hd h2;obtain⟨ad1,cap1,rfl,hc1,-⟩:=h1;obtain⟨ad2,cap2,rfl,hc2,-⟩:=h2;have HS:=Hd (And.intro (bH a) (bH b));have HAB:=Hd hab;go_enter Tryz.func189,Tryz.ntmps189
 go_wp2_with fail
 refine H22.mono ?_;rintro e w0 ⟨rfl,hb0⟩;have R1':=R1.below hb0;have R2':=R2.below hb0;have H41:=Hd (fun(k:Nat) (hk:k≤100000) (W:World) (hb:Below w0.heap.size w0 W)=>uI (.slice ad2 (L b).length cap2) (L b) k W (R2'.below hb) A3 A3);have HR1:=Hd R1';have HB0:=Hd hb0;clear R1 R2 R1' R2' H22 hb0;obtain⟨w,rfl⟩: ∃w',w'=w0:=⟨_,rfl⟩
 go_wp2_with (at_make;refine wpList_make_full w rfl _ _ 47 rfl w.heap.size 94 i0 (.int .u64 0) 1 Tryz.underlying47 hi hz0 hz1 .i64 .i64 _ _ (L a).length rfl rfl A3 A3 (by rw[hz2];omega) Cu lr ?_;intro w1 hown hgrow)
 rw[eI] at hown;have hb1:Below w.heap.size w w1:=(Below.refl _ w).grown hgrow lr (fun j ej=>by cases ej)
 go_wp2_with fail
 go_loopw [7,18] (fun c i wr=>∃(k bo:Nat) (out:List Nat),k≤(L a).length∧c= .int .u64 (bo:Int)∧i= .int .i64 (k:Int)∧ay wr w.heap.size w.heap.size (L a).length (L a).length (out++List.replicate ((L a).length - k) 0)∧out.length=k∧Hid (gU 18446744073709551616 (L a) (L b) out bo k)∧Below w.heap.size w wr) (fun _ i _=>(L a).length - (intOf i).toNat)
 case atStart=>exact⟨0,0,[],A3,rfl,rfl,hown,rfl,Hd (gU.zero _ _),hb1⟩
 case round=>
  clear hown hgrow hb1;obtain⟨k,bo,out,hk,rfl,rfl,hO,hol,HI,hB⟩:=hrel;have hbo:=HI.low;by_cases hlt:k<(L a).length
  ·obtain⟨b1,o1,rfl,hb1,c1⟩:=HR1.cell hlt;replace c1:wr.drew.cell? ⟨b1,o1+k,none⟩=some (.int .u64 ((L a).getD k 0:Nat)):=(hB.cell (p:=⟨b1,o1+k,none⟩) hb1).trans c1;have hx:=HS.1.getD A3 k;have hy:=HS.2.getD A3 k;have HI2:Hid (Hid (gU 18446744073709551616 (L a) (L b) (out++[((L a).getD k 0+18446744073709551616 - (L b).getD k 0 - bo) % 18446744073709551616]) (if (L a).getD k 0<(L b).getD k 0+bo then 1 else 0) (k+1))):=Hd (Hd (by
    by_cases hbr:(L a).getD k 0<(L b).getD k 0+bo
    ·rw[if_pos hbr,Nat.mod_eq_of_lt A3];exact HI.borrowed HS.2 A3 hbr
    ·rw[if_neg hbr,show ((L a).getD k 0+18446744073709551616 - (L b).getD k 0 - bo) % 18446744073709551616=(L a).getD k 0 - (L b).getD k 0 - bo by omega];exact HI.plain HS.1 A3 A3))
   replace H41:=Hd (H41.out k A3);generalize (L a).getD k 0=x at c1 hx HI2;generalize (L b).getD k 0=y at hy HI2 H41;obtain⟨d,hd⟩: ∃d,(x+18446744073709551616 - y - bo) % 18446744073709551616=d:=⟨_,rfl⟩
   obtain⟨b2,hb2e⟩: ∃b2,(if x<y+bo then 1 else 0)=b2:=⟨_,rfl⟩
   have hsub:=Tryz.sub64 x y bo d b2 hbo hd hb2e;rw[hd,hb2e] at HI2;clear HI hd hb2e;have hO1:ay wr.drew w.heap.size w.heap.size (L a).length (L a).length (out++List.replicate ((L a).length - k) 0):=hO;have hB1:Below w.heap.size w wr.drew:=hB.drew;clear hO hB
   go_wp2_with fail
   refine Rd.rg (fun X=>X.cell? ⟨b1,o1+k,none⟩=some (.int .u64 (x:Int))∧Below w.heap.size w X) 16 [0,1,2,3,4,5,6,7,9,11,12,13,14] [0,1,2,3,4,5,6,7,9,8,10,11,12,13,14,15,16] ⟨c1,hB1⟩ ?_;generalize wr.drew=W1 at c1 hO1 hB1 ⊢;refine Rd.sf (.slice (some ⟨w.heap.size,0,none⟩) (L a).length (L a).length) ?_;refine Rd.sf (.int .i64 (k:Int)) ?_;refine Rd.sf (.slice (some ⟨b1,o1,none⟩) (L a).length cap1) ?_;refine Rd.sf (.int .i64 (k:Int)) ?_;refine Rd.sf (.pointer (some ⟨b1,o1+k,none⟩)) ?_;refine Rd.sg (.int .u64 (x:Int)) ?_ (y:=fun X hX=>Cy);refine Rd.sf (.slice ad2 (L b).length cap2) ?_;refine Rd.sf (.int .i64 (k:Int)) ?_;refine Rd.sf (.int .u64 (bo:Int)) ?_;refine Rd.sm fun K hK=>?_
   go_simp;refine(H41.out W1 hB1).mono ?_;rintro e W2 ⟨rfl,rfl⟩;refine hK _ _ (fun _=>⟨c1,hB1⟩) ?_;clear hK K;refine Rd.sm fun K hK=>?_
   go_simp;refine hK _ _ (fun _=>⟨c1,hB1⟩) ?_;clear hK K;refine Rd.sf (.tuple #[.int .u64 (d:Int),.int .u64 (b2:Int)]) ?_;refine Rd.sf (.int .u64 (d:Int)) ?_;refine Rd.sf (.int .u64 (b2:Int)) ?_;refine Rd.sf (.pointer (some ⟨w.heap.size,k,none⟩)) ?_;refine Rd.sm fun K hK=>?_
   go_simp;have hfz:=hO1.frozen k;have hcz:=hO1.cell (j:=k) hlt;go_simp;refine hK _ _ (fun _=>⟨((hB1.setCell (p:=⟨w.heap.size,k,none⟩) lr (.int .u64 (d:Int))).cell (p:=⟨b1,o1+k,none⟩) hb1).trans (((hB1.cell (p:=⟨b1,o1+k,none⟩) hb1).symm.trans c1)),hB1.setCell (p:=⟨w.heap.size,k,none⟩) lr _⟩) ?_;clear hK K;refine Rd.sm fun K hK=>?_
   go_simp;refine hK _ _ (fun h=>absurd h A3) ?_;refine Rd.seq_end ?_;have HS2:=hO1.set k d;rw[show (L a).length - k=((L a).length - (k+1))+1 by omega,←hol,sZ,hol] at HS2;have hB2:Below w.heap.size w (W1.setCell ⟨w.heap.size,k,none⟩ (.int .u64 (d:Int))):=hB1.setCell (p:=⟨w.heap.size,k,none⟩) lr _;generalize W1.setCell ⟨w.heap.size,k,none⟩ (.int .u64 (d:Int))=W3 at HS2 hB2 ⊢
   go_wp2_with fail
   go_round
   case rel=>exact⟨k+1,b2,out++[d],A3,rfl,Cw,HS2,by simp[hol],HI2.out,hB2⟩
   case measure=>simp[intOf];omega
  ·have hkn:k=(L a).length:=A3
   subst hkn;have HT:Hid (bq out=L (a - b)):=Hd (by
    have h1:=HI.done A3 hl2 (by rw[bU A3,bU A3];exact HAB.out);rw[d6 HI.small];show L (val _ _)=_;rw[h1.2,bU A3,bU A3])
   have hO2:ay wr w.heap.size w.heap.size (L a).length (L a).length out:=by
    have h:=hO;rw[Nat.sub_self,List.replicate_zero,List.append_nil] at h;exact h
   clear HI hO;have H38:=b7 (some ⟨w.heap.size,0,none⟩) (L a).length out wr (by rw[hol];exact hO2.row) A3;have hT2:=aH.trimmed hO2.row;rw[hol] at H38;rw[HT.out] at hT2;have H38h:=Hd H38;clear H38
   go_wp2_with fail
   refine H38h.mono ?_;rintro e w3 ⟨rfl,hb3⟩
   go_wp2_with fail
   go_ret2
   exact⟨_,rfl,hT2.below hb3,HB0.trans ((hB.tr hb3).mono HB0.size)⟩
end Go.Proofs.YtohifgjeebhijaaGreatDoor
