import Derived.Test.YtohifgjeebhijaaGreatDoorVNf
import Derived.Test.YtohifgjeebhijaaGreatDoorVShelf
import Derived.Test.YtohifgjeebhijaaGreatDoorVDa
namespace Go.Proofs.YtohifgjeebhijaaGreatDoor
set_option maxRecDepth 100000
set_option maxHeartbeats 4000000
open Go.RowKit Go.Dig Go.Shelf Go.Proofs
theorem lp (x m y z h0 l0 l1 c1 l2 c2:Nat) (w:World) (hh:h0+c1+c2<18446744073709551616)
  (H70:Hid (Calls Tryz.prog 134 #[.int .u64 (x:Int),.int .u64 (m:Int)] w fun e w'=>e= .returned (.tuple #[.int .u64 (h0:Int),.int .u64 (l0:Int)])∧w'=w))
  (A1: ∀w,(callFunc 77 #[.int .u64 (l0:Int),.int .u64 (y:Int),.int .u64 0]).run Tryz.prog w= .ok (.value (.tuple #[.int .u64 (l1:Int),.int .u64 (c1:Int)])) w)
  (A2: ∀w,(callFunc 77 #[.int .u64 (l1:Int),.int .u64 (z:Int),.int .u64 0]).run Tryz.prog w= .ok (.value (.tuple #[.int .u64 (l2:Int),.int .u64 (c2:Int)])) w):
  Calls Tryz.prog 115 #[.int .u64 (x:Int),.int .u64 (m:Int),.int .u64 (y:Int),.int .u64 (z:Int)] w fun e w'=>
   e= .returned (.tuple #[.int .u64 (l2:Int),.int .u64 ((h0+c1+c2:Nat):Int)])∧w=w':=by
 have hh2:h0+c1<18446744073709551616:=A3
 go_enter Tryz.func115,Tryz.ntmps115
 go_wp2_with fail
 refine H70.mono ?_;rintro e w1 ⟨rfl,rfl⟩
 go_wp2_with fail
 go_ret2
 exact⟨rfl,rfl⟩
theorem jv (x m y z lo hi:Nat) (w:World) (hx:x<18446744073709551616) (hm:m<18446744073709551616) (hy:y<18446744073709551616) (hz:z<18446744073709551616) (hlo:lo=(y+x*m+z) % 18446744073709551616) (hhi:hi=(y+x*m+z) / 18446744073709551616):
  Calls Tryz.prog 115 #[.int .u64 (x:Int),.int .u64 (m:Int),.int .u64 (y:Int),.int .u64 (z:Int)] w fun e w'=>
   e= .returned (.tuple #[.int .u64 (lo:Int),.int .u64 (hi:Int)])∧w=w':=by
 have hle:x*m≤18446744073709551615*18446744073709551615:=Nat.mul_le_mul A3 A3;have H70:=Tryz.bits_Mul64 x m hx hm w;obtain⟨p,hp⟩: ∃p,p=x*m:=⟨_,rfl⟩
 rw[←hp] at hle H70 hlo hhi;have hfin:p / 18446744073709551616+(p % 18446744073709551616+y+0) / 18446744073709551616+((p % 18446744073709551616+y+0) % 18446744073709551616+z+0) / 18446744073709551616=hi:=A3
 have hfin2:((p % 18446744073709551616+y+0) % 18446744073709551616+z+0) % 18446744073709551616=lo:=A3
 have h:=lp x m y z (p / 18446744073709551616) (p % 18446744073709551616) ((p % 18446744073709551616+y+0) % 18446744073709551616) ((p % 18446744073709551616+y+0) / 18446744073709551616)
  (((p % 18446744073709551616+y+0) % 18446744073709551616+z+0) % 18446744073709551616) (((p % 18446744073709551616+y+0) % 18446744073709551616+z+0) / 18446744073709551616) w A3 (Hd H70)
  (fun w=>Tryz.add64 _ y 0 _ _ A3 rfl rfl w) (fun w=>Tryz.add64 _ z 0 _ _ A3 rfl rfl w)
 rw[hfin,hfin2] at h;exact h
theorem g9 (base g n cap i c0:Nat) (o la:List Nat) (v:Value) (m:Nat) (w:World) (hO:ay w base g n cap o) (hA:aH w v la) (hne: ∀b off k c,v= .slice (some ⟨b,off,none⟩) k c→la≠[]→b≠g)
  (so:a7 o) (sa:a7 la) (hm:m<18446744073709551616) (hin:i+la.length≤n) (hl:la.length≤100000):
  Calls Tryz.prog 79 #[.slice (some ⟨g,i,none⟩) la.length c0,v,.int .u64 (m:Int)] w fun e w'=>∃(cy:Nat) (o':List Nat),e= .returned (.int .u64 (cy:Int))∧ay w' base g n cap o'∧iK 18446744073709551616 la o o' m cy i la.length∧Fr (· =g) w w':=by
 have R1:=Hd hA;obtain⟨ad1,cap1,rfl,hc1,-⟩:=hA;have HO:=Hd hO;have HS:=Hd (And.intro so sa);have hol:o.length=n:=hO.len;have HNE:=Hd hne;clear hO so sa hne;go_enter Tryz.func79,Tryz.ntmps79
 go_wp2_with fail
 go_loopw [7,11] (fun c j wr=>∃(k cy:Nat) (out:List Nat),k≤la.length∧c= .int .u64 (cy:Int)∧j= .int .i64 (k:Int)∧ay wr base g n cap out∧Hid (iK 18446744073709551616 la o out m cy i k)∧Fr (· =g) w wr) (fun _ j _=>la.length - (intOf j).toNat)
 case atStart=>exact⟨0,0,o,A3,rfl,rfl,HO.out,Hd (iK.zero A3 HS.1),Fr.refl _ _⟩
 case round=>
  obtain⟨k,cy,out,hk,rfl,rfl,hO,HI,hF⟩:=hrel;have hcy:=HI.low;by_cases hlt:k<la.length
  ·have HI2:=Hd (Hd (HI.step A3 HS.2 hm A3));obtain⟨b1,o1,rfl,hb1,c1⟩:=R1.cell hlt;have hbg:=HNE.out b1 o1 _ _ rfl (by rintro rfl;simp at hlt);replace c1:wr.drew.cell? ⟨b1,o1+k,none⟩=some (.int .u64 (la.getD k 0:Nat)):=(hF.cell (p:=⟨b1,o1+k,none⟩) hb1 hbg).trans c1;have c2:wr.drew.cell? ⟨g,i+k,none⟩=some (.int .u64 (out.getD (i+k) 0:Nat)):=hO.cell (j:=i+k) A3;have hx:=HS.2.getD A3 k;have hz:=HI.small.getD A3 (i+k);clear HI;rw[Nat.mul_comm m] at HI2;generalize la.getD k 0=x at c1 hx HI2;generalize out.getD (i+k) 0=z at c2 hz HI2;obtain⟨lo,hlo⟩: ∃lo,lo=(z+x*m+cy) % 18446744073709551616:=⟨_,rfl⟩
   obtain⟨hi,hhi⟩: ∃hi,hi=(z+x*m+cy) / 18446744073709551616:=⟨_,rfl⟩
   rw[←hlo,←hhi] at HI2;have HLO:=Hd hlo;have HHI:=Hd hhi;have hO1:ay wr.drew base g n cap out:=hO;have hF1:Fr (· =g) w wr.drew:=hF.drew;clear hlo hhi hO hF
   go_wp2_with fail
   refine Rd.regionK (fun X=>X.cell? ⟨b1,o1+k,none⟩=some (.int .u64 (x:Int))∧X.cell? ⟨g,i+k,none⟩=some (.int .u64 (z:Int))) 17 [0,1,2,3,4,6,7,8,9,11,13,14,15,16] [5,10] [0,1,2,3,4,5,6,7,8,9,10,11,12,13,14,15,16,17,18] Cx Cx Cx Cx rfl ⟨c1,c2⟩ ?_;generalize wr.drew=W1 at c1 c2 hO1 hF1 ⊢;refine Rd.kg (.slice (some ⟨g,i,none⟩) la.length c0) ?_ (y:=fun X=>Ca);refine Rd.kg (.int .i64 (k:Int)) ?_ (y:=fun X=>Ca);refine Rd.kg (.slice (some ⟨b1,o1,none⟩) la.length cap1) ?_ (y:=fun X=>Ca);refine Rd.kg (.int .i64 (k:Int)) ?_ (y:=fun X=>Ca);refine Rd.kg (.pointer (some ⟨b1,o1+k,none⟩)) ?_ (y:=fun X=>Ca);refine Rd.seqK_float (.int .u64 (x:Int)) BC rfl rfl Cp (fun X hX=>Cy) ?_;simp only[Act.put,sA,sB,sC];refine Rd.kg (.int .u64 (m:Int)) ?_ (y:=fun X=>Ca);refine Rd.kg (.slice (some ⟨g,i,none⟩) la.length c0) ?_ (y:=fun X=>Ca);refine Rd.kg (.int .i64 (k:Int)) ?_ (y:=fun X=>Ca);refine Rd.kg (.pointer (some ⟨g,i+k,none⟩)) ?_ (y:=fun X=>Ca);refine Rd.seqK_float (.int .u64 (z:Int)) BC rfl rfl Cp (fun X hX=>by have h1:=hX.2;go_simp) ?_;simp only[Act.put,sA,sB,sC];refine Rd.kg (.int .u64 (cy:Int)) ?_ (y:=fun X=>Ca);refine Rd.seqK_move BC rfl rfl Cp (fun K hK=>?_);go_simp;refine(jv x m z cy lo hi W1 hx hm hz hcy HLO.out HHI.out).mono ?_;rintro e W2 ⟨rfl,rfl⟩;refine hK _ _ (fun _=>⟨c1,c2⟩) ?_;clear hK K;refine Rd.kg (.tuple #[.int .u64 (lo:Int),.int .u64 (hi:Int)]) ?_ (y:=fun X=>Ca);refine Rd.kg (.int .u64 (lo:Int)) ?_ (y:=fun X=>Ca);refine Rd.kg (.int .u64 (hi:Int)) ?_ (y:=fun X=>Ca);refine Rd.kg (.pointer (some ⟨g,i+k,none⟩)) ?_ (y:=fun X=>Ca);refine Rd.seqK_move BC rfl rfl Cp (fun K hK=>?_);go_simp;have hfz:=hO1.frozen (i+k);go_simp;refine hK _ _ (fun h=>absurd h A3) ?_;clear hK K;refine Rd.seqK_move BC rfl rfl Cp (fun K hK=>?_);go_simp;refine hK _ _ (fun h=>absurd h A3) ?_;refine Rd.seqK_end ?_;have hO2:=hO1.set (i+k) lo;have hF2:Fr (· =g) w (W1.setCell ⟨g,i+k,none⟩ (.int .u64 (lo:Int))):=hF1.setCell (.inr rfl) _;generalize W1.setCell ⟨g,i+k,none⟩ (.int .u64 (lo:Int))=W3 at hO2 hF2 ⊢
   go_wp2_with fail
   go_round
   case rel=>exact⟨k+1,hi,_,A3,rfl,Cw,hO2,HI2.out,hF2⟩
   case measure=>simp[intOf];omega
  ·have hkl:k=la.length:=A3
   have HI2:Hid (iK 18446744073709551616 la o out m cy i la.length):=Hd (by rw[←hkl];exact HI.out);clear HI
   go_wp2_with fail
   go_ret;exact⟨cy,out,rfl,hO,HI2.out,hF⟩
theorem vo (v1 v2:Value) (la lb:List Nat) (w:World) (h1:aH w v1 la) (h2:aH w v2 lb) (s1:a7 la) (s2:a7 lb) (hl1:la.length≤100000) (hl2:lb.length≤100000):
  Calls Tryz.prog 40 #[v1,v2] w fun e w'=>∃v,e= .returned v∧aH w' v (L (V la*V lb))∧Below w.heap.size w w':=by
 obtain⟨i0,hi,hz0,hz1,hz2⟩:=info_parts Tryz.info94;have hne1: ∀b off k c,v1= .slice (some ⟨b,off,none⟩) k c→la≠[]→b≠w.heap.size:=by
  intro b off k c e hla;obtain⟨ad,cp,e2,_,h3⟩:=h1;obtain⟨b',off',e3,h4,_⟩:=h3 hla;rw[e2,e3] at e;cases e;omega
 have R1:=Hd h1;have R2:=Hd h2;obtain⟨ad1,cap1,rfl,hc1,-⟩:=h1;obtain⟨ad2,cap2,rfl,hc2,-⟩:=h2;have HS:=Hd (And.intro s1 s2);have HNE:=Hd hne1;clear s1 s2 hne1;obtain⟨nn,hnn⟩: ∃nn,nn=la.length+lb.length:=⟨_,rfl⟩
 have hnl:nn≤200000:=A3
 have HNN:=Hd hnn;clear hnn;go_enter Tryz.func40,Tryz.ntmps40
 go_wp2_with (at_make;refine wpList_make_full w rfl _ _ 47 rfl w.heap.size 94 i0 (.int .u64 0) 1 Tryz.underlying47 hi hz0 hz1 .i64 .i64 _ _ nn rfl rfl BQ BQ (by rw[hz2];omega) Cu lr ?_;intro w1 hown hgrow)
 rw[eI] at hown;have hb1:Below w.heap.size w w1:=(Below.refl _ w).grown hgrow lr (fun j ej=>by cases ej)
 go_wp2_with fail
 go_loopw [15] (fun j wr=>∃(k:Nat) (o:List Nat),k≤lb.length∧j= .int .i64 (k:Int)∧ay wr w.heap.size w.heap.size nn nn o∧Hid (Small 18446744073709551616 o∧val 18446744073709551616 o=val 18446744073709551616 la*val 18446744073709551616 (lb.take k)∧∀j,k+la.length≤j→o.getD j 0=0)∧Below w.heap.size w wr) (fun j _=>lb.length - (intOf j).toNat)
 case atStart=>exact⟨0,List.replicate nn 0,Nat.zero_le _,rfl,hown,Hd ⟨Small.zeros A3 _,by rw[iS];simp[val],fun j _=>BN⟩,hb1⟩
 case round=>
  clear hown hgrow hb1;obtain⟨k,o,hk,rfl,hO,HI,hB⟩:=hrel;have hN:=HNN.out;by_cases hlt:k<lb.length
  ·obtain⟨b2,o2,rfl,hb2,c2⟩:=R2.cell hlt;replace c2:wr.drew.cell? ⟨b2,o2+k,none⟩=some (.int .u64 (lb.getD k 0:Nat)):=(hB.cell (p:=⟨b2,o2+k,none⟩) hb2).trans c2;have hy:=HS.2.getD A3 k;have HVT:=Hd (bS (B:=18446744073709551616) lb k);generalize lb.getD k 0=y at c2 hy HVT;have hol:=hO.len;have H48:=Hd (fun(W:World) (hO:ay W w.heap.size w.heap.size nn nn o) (hA:aH W (.slice ad1 la.length cap1) la)=>g9 w.heap.size w.heap.size nn nn k (nn - k) o la (.slice ad1 la.length cap1) y W hO hA HNE.out HI.1 HS.1 hy A3 A3);have hO1:ay wr.drew w.heap.size w.heap.size nn nn o:=hO;have hB1:Below w.heap.size w wr.drew:=hB.drew;have HHO:=Hd HI.out;have hkn:k+la.length<nn:=A3
   clear hO hB HI hN hol
   go_wp2_with fail
   refine Rd.regionK (fun X=>X.cell? ⟨b2,o2+k,none⟩=some (.int .u64 (y:Int))) 19 [0,1,2,3,4,5,6,7,8,9,10,11,12,13,14,15,18] [16] [0,1,2,3,4,5,6,7,8,9,10,11,12,13,14,15,16,17,18,19] Cx Cx Cx Cx rfl c2 ?_;generalize wr.drew=W1 at c2 hO1 hB1 ⊢;refine Rd.kg (.slice (some ⟨w.heap.size,0,none⟩) nn nn) ?_ (y:=fun X=>Ca);refine Rd.kg (.int .i64 (k:Int)) ?_ (y:=fun X=>Ca);refine Rd.kg (.slice ad1 la.length cap1) ?_ (y:=fun X=>Ca);refine Rd.kg (.int .i64 (la.length:Int)) ?_ (y:=fun X=>Ca);refine Rd.kg (.int .i64 ((k:Int)+la.length)) ?_ (y:=fun X=>Cv);refine Rd.kg (.slice (some ⟨w.heap.size,0,none⟩) nn nn) ?_ (y:=fun X=>Ca);refine Rd.kg (.int .i64 (k:Int)) ?_ (y:=fun X=>Ca);refine Rd.kg (.int .i64 (k:Int)) ?_ (y:=fun X=>Ca);refine Rd.kg (.slice ad1 la.length cap1) ?_ (y:=fun X=>Ca);refine Rd.kg (.int .i64 (la.length:Int)) ?_ (y:=fun X=>Ca);refine Rd.kg (.int .i64 ((k:Int)+la.length)) ?_ (y:=fun X=>Cv);refine Rd.kg (.slice (some ⟨w.heap.size,k,none⟩) la.length (nn - k)) ?_ (y:=fun X=>by go_simp;rw[if_pos A3,if_pos A3,if_neg A3,show ((k:Int)+la.length).toNat - k=la.length by omega]);refine Rd.kg (.slice ad1 la.length cap1) ?_ (y:=fun X=>Ca);refine Rd.kg (.slice (some ⟨b2,o2,none⟩) lb.length cap2) ?_ (y:=fun X=>Ca);refine Rd.kg (.int .i64 (k:Int)) ?_ (y:=fun X=>Ca);refine Rd.kg (.pointer (some ⟨b2,o2+k,none⟩)) ?_ (y:=fun X=>Ca);refine Rd.seqK_float (.int .u64 (y:Int)) BC rfl rfl Cp (fun X hX=>Ca) ?_;simp only[Act.put,sA,sB,sC];refine Rd.seqK_move BC rfl rfl Cp (fun K hK=>?_);go_simp;refine(H48.out W1 hO1 (R1.below hB1)).mono ?_;rintro e W2 ⟨cy,out,rfl,hO2,HM,hF2⟩;have hB2:Below w.heap.size w W2:=hB1.trans (hF2.below hB1.size (fun k e=>A3));refine hK _ _ (fun _=>(hF2.cell (p:=⟨b2,o2+k,none⟩) (Nat.lt_of_lt_of_le hb2 hB1.size) (by show ¬b2=w.heap.size;omega)).trans c2) ?_;clear hK K;refine Rd.kg (.pointer (some ⟨w.heap.size,k+la.length,none⟩)) ?_ (y:=fun X=>by go_simp;rw[if_pos A3,show ((k:Int)+la.length).toNat=k+la.length by omega]);refine Rd.seqK_move BC rfl rfl Cp (fun K hK=>?_);go_simp;have hfz:=hO2.frozen (k+la.length);have hcz:=hO2.cell (j:=k+la.length) A3;go_simp;refine hK _ _ (fun h=>absurd h A3) ?_;refine Rd.seqK_end ?_;have hol2:o.length=nn:=hO1.len;have hN:=HNN.out;have hz0':o.getD (k+la.length) 0=0:=HHO.2.2 _ lr;have hzz:out.getD (k+la.length) 0=0:=by rw[HM.rest _ lr,hz0']
   have hd:=HM.done (by rw[hol2];omega) hz0';rw[hzz,Nat.zero_add] at hd;have HE:Hid (Hid (Small 18446744073709551616 (out.set (k+la.length) cy)∧val 18446744073709551616 (out.set (k+la.length) cy)=val 18446744073709551616 la*val 18446744073709551616 (lb.take (k+1))∧∀j,k+1+la.length≤j→(out.set (k+la.length) cy).getD j 0=0)):=Hd (Hd (by
    refine⟨hd.1,?_,fun j hj=>by rw[hd.2.2 j hj];exact HHO.2.2 j A3⟩;rw[hd.2.1,HHO.2.1,HVT.out,Nat.mul_add,←Nat.mul_assoc,←Nat.mul_assoc];congr 1;rw[Nat.mul_right_comm,Nat.mul_comm (18446744073709551616 ^ k*val 18446744073709551616 la) y,Nat.mul_comm (val 18446744073709551616 la) (18446744073709551616 ^ k),Nat.mul_comm y]))
   have hO3:=hO2.set (k+la.length) cy;have hB3:Below w.heap.size w (W2.setCell ⟨w.heap.size,k+la.length,none⟩ (.int .u64 (cy:Int))):=hB2.setCell (p:=⟨w.heap.size,k+la.length,none⟩) lr _;clear hd hzz hz0' HM hN HHO HVT hO1 hO2 hB1 hB2 c2 hF2;generalize W2.setCell ⟨w.heap.size,k+la.length,none⟩ (.int .u64 (cy:Int))=W3 at hO3 hB3 ⊢
   go_wp2_with fail
   go_round
   case rel=>exact⟨k+1,_,A3,Cw,hO3,HE.out,hB3⟩
   case measure=>simp[intOf];omega
  ·have hki:k=lb.length:=A3
   have hol:=hO.len;have HT:Hid (bq o=L (V la*V lb)):=Hd (by
    obtain⟨h1,h2,h3⟩:=HI.out;rw[d6 h1];show L (val _ _)=_;rw[h2,hki,List.take_length])
   have H38:=b7 (some ⟨w.heap.size,0,none⟩) nn o wr (by rw[hol];exact hO.row) A3;have hT2:=aH.trimmed hO.row;rw[hol] at H38;rw[HT.out] at hT2;have H38h:=Hd H38;clear H38 HI hN hol
   go_wp2_with fail
   refine H38h.mono ?_;rintro e w3 ⟨rfl,hb3⟩
   go_wp2_with fail
   go_ret;exact⟨_,rfl,hT2.below hb3,hB.tr hb3⟩
theorem ay.sub_cell {w:World} {base g N cap:Nat} {pre s post:List Nat} (h:ay w base g N cap (pre++s++post)) {j:Nat} (hj:j<s.length):w.cell? ⟨g,pre.length+j,none⟩=some (.int .u64 (s.getD j 0:Nat)):=by
 have hl:=h.len;simp only[List.length_append] at hl;rw[h.cell (j:=pre.length+j) A3,wX pre s post hj]
theorem r8 (base g N cap c0 cap2:Nat) (ad2:Option Addr) (pre s post dl:List Nat) (w:World) (hO:ay w base g N cap (pre++s++post)) (hD:aH w (.slice ad2 dl.length cap2) dl)
  (ss:a7 s) (sd:a7 dl) (hl:s.length=dl.length+1) (hn:1≤dl.length) (hnl:dl.length≤100000) (hlt:V s<18446744073709551616*V dl):
  Calls Tryz.prog 145 #[.slice (some ⟨g,pre.length,none⟩) s.length c0,.slice ad2 dl.length cap2] w fun e w'=>∃t:Nat,e= .returned (.int .u64 (t:Int))∧t<18446744073709551616∧V s / V dl≤t∧Below w.heap.size w w':=by
 have c1:w.cell? ⟨g,pre.length+dl.length,none⟩=some (.int .u64 (s.getD dl.length 0:Nat)):=hO.sub_cell A3;have c2:w.cell? ⟨g,pre.length+(dl.length - 1),none⟩=some (.int .u64 (s.getD (dl.length - 1) 0:Nat)):=hO.sub_cell A3;obtain⟨b2,o2,rfl,hlb,c3⟩:=hD.cell (j:=dl.length - 1) A3;have hlg:=hO.lt.2;have hdp:0<V dl:=by apply Nat.pos_of_ne_zero;intro e;rw[e] at hlt;omega
 have HT:=Hd (fun h=>s9 (B:=18446744073709551616) A3 ss hl hn h);have hx:=ss.getD A3 dl.length;have hz:=ss.getD A3 (dl.length - 1);have hy:=sd.getD A3 (dl.length - 1);have HMAX:Hid (V s / V dl≤18446744073709551615):=Hd (by
  have:V s / V dl<18446744073709551616:=by rw[Nat.div_lt_iff_lt_mul hdp];exact hlt
  omega)
 have hdcap:dl.length≤cap2:=by obtain⟨_,_,e,h1,_⟩:=hD;cases e;exact h1
 generalize V s / V dl=qq at HMAX HT ⊢;generalize s.getD dl.length 0=x at c1 hx HT;generalize s.getD (dl.length - 1) 0=z at c2 hz HT;generalize dl.getD (dl.length - 1) 0=y at c3 hy HT;clear hO hD ss sd hlt hdp;by_cases hge:y≤x
 ·go_enter Tryz.func145,Tryz.ntmps145
  go_wp2_with fail
  go_region
  go_wp2_with fail
  go_ret;exact⟨18446744073709551615,rfl,A3,HMAX.out,(Below.refl _ _).drew⟩
 ·have hy0:0<y:=A3
  have HQ:Hid (qq≤(z+18446744073709551616*x) / y):=Hd (HT.out hy0);have HQL:Hid ((z+18446744073709551616*x) / y<18446744073709551616):=Hd (iu hz A3);have H62:=Hd (fun(W:World)=>lH x z y W A3 hy hz);generalize (z+18446744073709551616*x) / y=q at HQ H62 HQL;generalize (z+18446744073709551616*x) % y=r at H62;clear HT;go_enter Tryz.func145,Tryz.ntmps145
  go_wp2_with fail
  go_region
  have hB1:Below w.heap.size w w.drew:=(Below.refl _ _).drew;replace c1:w.drew.cell? ⟨g,pre.length+dl.length,none⟩=some (.int .u64 (x:Int)):=c1;replace c2:w.drew.cell? ⟨g,pre.length+(dl.length - 1),none⟩=some (.int .u64 (z:Int)):=c2;replace c3:w.drew.cell? ⟨b2,o2+(dl.length - 1),none⟩=some (.int .u64 (y:Int)):=c3;replace hlg:g<w.drew.heap.size:=hlg;replace hlb:b2<w.drew.heap.size:=hlb;generalize w.drew=W0 at c1 c2 c3 hlg hlb hB1 ⊢
  go_wp2_with fail
  refine Rd.regionK (fun X=>X.cell? ⟨g,pre.length+dl.length,none⟩=some (.int .u64 (x:Int))∧X.cell? ⟨g,pre.length+(dl.length - 1),none⟩=some (.int .u64 (z:Int))∧X.cell? ⟨b2,o2+(dl.length - 1),none⟩=some (.int .u64 (y:Int))) 19 [0,1,2,4,5,6,7,9,10,11,12,15,16,17,18] [3,8,13] [0,1,2,3,4,5,6,7,8,9,10,11,12,13,14,15,16,17,18,19] Cx Cx Cx Cx rfl ⟨c1,c2,c3⟩ ?_;replace hB1:Below w.heap.size w W0.drew:=hB1.drew;replace c1:W0.drew.cell? ⟨g,pre.length+dl.length,none⟩=some (.int .u64 (x:Int)):=c1;replace c2:W0.drew.cell? ⟨g,pre.length+(dl.length - 1),none⟩=some (.int .u64 (z:Int)):=c2;replace c3:W0.drew.cell? ⟨b2,o2+(dl.length - 1),none⟩=some (.int .u64 (y:Int)):=c3;replace hlg:g<W0.drew.heap.size:=hlg;replace hlb:b2<W0.drew.heap.size:=hlb;generalize W0.drew=W1 at c1 c2 c3 hlg hlb hB1 ⊢;refine Rd.kg (.slice (some ⟨g,pre.length,none⟩) s.length c0) ?_ (y:=fun X=>Ca);refine Rd.kg (.int .i64 (dl.length:Int)) ?_ (y:=fun X=>Ca);refine Rd.kg (.pointer (some ⟨g,pre.length+dl.length,none⟩)) ?_ (y:=fun X=>by go_simp;omega);refine Rd.seqK_float (.int .u64 (x:Int)) BC rfl rfl Cp (fun X hX=>Cy) ?_;simp only[Act.put,sA,sB,sC];refine Rd.kg (.slice (some ⟨g,pre.length,none⟩) s.length c0) ?_ (y:=fun X=>Ca);refine Rd.kg (.int .i64 (dl.length:Int)) ?_ (y:=fun X=>Ca);refine Rd.kg (.int .i64 ((dl.length:Int) - 1)) ?_ (y:=fun X=>Cv);refine Rd.kg (.pointer (some ⟨g,pre.length+(dl.length - 1),none⟩)) ?_ (y:=fun X=>by go_simp;intro h;exfalso;omega);refine Rd.seqK_float (.int .u64 (z:Int)) BC rfl rfl Cp (fun X hX=>by have h1:=hX.2.1;go_simp) ?_;simp only[Act.put,sA,sB,sC];refine Rd.kg (.slice (some ⟨b2,o2,none⟩) dl.length cap2) ?_ (y:=fun X=>Ca);refine Rd.kg (.int .i64 (dl.length:Int)) ?_ (y:=fun X=>Ca);refine Rd.kg (.int .i64 ((dl.length:Int) - 1)) ?_ (y:=fun X=>Cv);refine Rd.kg (.pointer (some ⟨b2,o2+(dl.length - 1),none⟩)) ?_ (y:=fun X=>by go_simp;intro h;exfalso;omega);refine Rd.seqK_float (.int .u64 (y:Int)) BC rfl rfl Cp (fun X hX=>by have h1:=hX.2.2;go_simp) ?_;simp only[Act.put,sA,sB,sC];refine Rd.seqK_move BC rfl rfl Cp (fun K hK=>?_);go_simp;refine(H62.out W1).mono ?_;rintro e W2 ⟨rfl,hb2w⟩;refine hK _ _ (fun _=>⟨(hb2w.cell (p:=⟨g,pre.length+dl.length,none⟩) hlg).trans c1,(hb2w.cell (p:=⟨g,pre.length+(dl.length - 1),none⟩) hlg).trans c2,(hb2w.cell (p:=⟨b2,o2+(dl.length - 1),none⟩) hlb).trans c3⟩) ?_;clear hK K;refine Rd.kg (.tuple #[.int .u64 (q:Int),.int .u64 (r:Int)]) ?_ (y:=fun X=>Ca);refine Rd.kg (.int .u64 (q:Int)) ?_ (y:=fun X=>Ca);refine Rd.kg (.int .u64 (r:Int)) ?_ (y:=fun X=>Ca);refine Rd.kg (.int .u64 (q:Int)) ?_ (y:=fun X=>Ca);refine Rd.seqK_move BC rfl rfl Cp (fun K hK=>?_);go_simp;refine hK _ _ (fun h=>absurd h A3) ?_;refine Rd.seqK_end ?_
  go_wp2_with fail
  go_ret;exact⟨q,rfl,HQL.out,HQ.out,hB1.tr hb2w⟩
theorem m7 (base g N cap c0 cap2:Nat) (ad2:Option Addr) (pre s post dl:List Nat) (t:Nat) (w:World) (hO:ay w base g N cap (pre++s++post)) (hD:aH w (.slice ad2 dl.length cap2) dl) (hne: ∀b off,ad2=some ⟨b,off,none⟩→b≠g)
  (ss:a7 s) (sd:a7 dl) (hl:s.length=dl.length+1) (ht:t<18446744073709551616) (hnl:dl.length≤100000):
  Calls Tryz.prog 146 #[.slice (some ⟨g,pre.length,none⟩) s.length c0,.slice ad2 dl.length cap2,.int .u64 (t:Int)] w fun e w'=>∃(s':List Nat) (bo:Nat),e= .returned (.int .u64 (bo:Int))∧ay w' base g N cap (pre++s'++post)∧a7 s'∧s'.length=s.length∧bo≤1∧
   V s'+t*V dl=V s+18446744073709551616 ^ s.length*bo∧Fr (· =g) w w':=by
 have HO:=Hd hO;have R2:=Hd hD;have HS:=Hd (And.intro ss sd);have HNE:=Hd hne;have HL:=Hd hl;have hl1:dl.length<s.length:=A3
 clear hO hD ss sd hne hl;go_enter Tryz.func146,Tryz.ntmps146
 go_wp2_with fail
 go_loopw [8,9,15] (fun c b i wr=>∃(j cy bo:Nat) (s':List Nat),j≤dl.length∧c= .int .u64 (cy:Int)∧b= .int .u64 (bo:Int)∧i= .int .i64 (j:Int)∧ay wr base g N cap (pre++s'++post)∧s'.length=s.length∧Hid (ib 18446744073709551616 t dl s s' cy bo j)∧Fr (· =g) w wr) (fun _ _ i _=>dl.length - (intOf i).toNat)
 case atStart=>exact⟨0,0,0,s,A3,rfl,rfl,rfl,HO.out,rfl,Hd (ib.zero A3 HS.1),Fr.refl _ _⟩
 case round=>
  obtain⟨j,cy,bo,s',hj,rfl,rfl,rfl,hO,hsl,HI,hF⟩:=hrel;have hcy:=HI.car;have hbo:=HI.low;by_cases hlt:j<dl.length
  ·obtain⟨b2,o2,rfl,hb2,c2⟩:=R2.cell hlt;have hbg:=HNE.out b2 o2 rfl;have hjs:j<s.length:=A3
   replace c2:wr.cell? ⟨b2,o2+j,none⟩=some (.int .u64 (dl.getD j 0:Nat)):=(hF.cell (p:=⟨b2,o2+j,none⟩) hb2 hbg).trans c2;have c1:wr.cell? ⟨g,pre.length+j,none⟩=some (.int .u64 (s'.getD j 0:Nat)):=hO.sub_cell A3;rw[HI.rest j lr] at c1;have hy:=HS.2.getD A3 j;have hx:=HS.1.getD A3 j;have HST:=Hd (fun(lo hi r b':Nat) h1 h2 h3 h4=>HI.step (lo:=lo) (hi:=hi) (r:=r) (b':=b') A3 HS.1 HS.2 ht A3 h1 h2 h3 h4);generalize dl.getD j 0=y at c2 hy HST;generalize s.getD j 0=x at c1 hx HST;obtain⟨lo,hlo⟩: ∃lo,lo=(cy+y*t+0) % 18446744073709551616:=⟨_,rfl⟩
   obtain⟨hi,hhi⟩: ∃hi,hi=(cy+y*t+0) / 18446744073709551616:=⟨_,rfl⟩
   obtain⟨r,hr⟩: ∃r,(x+18446744073709551616 - lo - bo) % 18446744073709551616=r:=⟨_,rfl⟩
   obtain⟨b',hb'⟩: ∃b',(if x<lo+bo then 1 else 0)=b':=⟨_,rfl⟩
   have HI2:=Hd (Hd (HST.out lo hi r b' hlo hhi hr.symm hb'.symm));have H61:=Hd (jv y t cy 0 lo hi wr hy ht hcy A3 hlo hhi);have hsub:=Tryz.sub64 x lo bo r b' hbo hr hb';have hfz:=hO.frozen (pre.length+j);have hO2:=hO.set (pre.length+j) r;rw[jB pre s' post r A3] at hO2;have HO2:=Hd hO2;clear hO2 HST HI hlo hhi hr hb'
   go_wp2_with fail
   refine H61.mono ?_;rintro e w2 ⟨rfl,rfl⟩
   go_wp2_with fail
   exact⟨⟨j+1,hi,b',s'.set j r,A3,rfl,rfl,Cw,HO2.out,by rw[List.length_set];exact hsl,HI2.out,hF.setCell (.inr rfl) _⟩,by simp[intOf];omega⟩
  ·have hjn:j=dl.length:=A3
   subst hjn;have c1:wr.cell? ⟨g,pre.length+dl.length,none⟩=some (.int .u64 (s'.getD dl.length 0:Nat)):=hO.sub_cell A3;rw[HI.rest dl.length lr] at c1;have hx:=HS.1.getD A3 dl.length;have HST:=Hd (fun(r b':Nat) h3 h4=>HI.done (r:=r) (b':=b') A3 HS.1 HL.out h3 h4);generalize s.getD dl.length 0=x at c1 hx HST;obtain⟨r,hr⟩: ∃r,(x+18446744073709551616 - cy - bo) % 18446744073709551616=r:=⟨_,rfl⟩
   obtain⟨b',hb'⟩: ∃b',(if x<cy+bo then 1 else 0)=b':=⟨_,rfl⟩
   have HI2:=Hd (HST.out r b' hr.symm hb'.symm);have hsub:=Tryz.sub64 x cy bo r b' hbo hr hb';have hfz:=hO.frozen (pre.length+dl.length);have hO2:=hO.set (pre.length+dl.length) r;rw[jB pre s' post r A3] at hO2;have HO2:=Hd hO2;clear hO2 HST HI hr hb'
   go_wp2_with fail
   go_ret;obtain⟨i1,i2,i3,i4⟩:=HI2.out;exact⟨s'.set dl.length r,b',rfl,HO2.out,i1,i2,i3,i4,hF.setCell (.inr rfl) _⟩
theorem og (base g N cap c0 cap2:Nat) (ad2:Option Addr) (pre s post dl:List Nat) (w:World) (hO:ay w base g N cap (pre++s++post)) (hD:aH w (.slice ad2 dl.length cap2) dl) (hne: ∀b off,ad2=some ⟨b,off,none⟩→b≠g)
  (ss:a7 s) (sd:a7 dl) (hl:s.length=dl.length+1) (hnl:dl.length≤100000):
  Calls Tryz.prog 147 #[.slice (some ⟨g,pre.length,none⟩) s.length c0,.slice ad2 dl.length cap2] w fun e w'=>∃(s':List Nat) (c:Nat),e= .returned (.int .u64 (c:Int))∧ay w' base g N cap (pre++s'++post)∧a7 s'∧s'.length=s.length∧c≤1∧
   V s'+18446744073709551616 ^ s.length*c=V s+V dl∧Fr (· =g) w w':=by
 have HO:=Hd hO;have R2:=Hd hD;have HS:=Hd (And.intro ss sd);have HNE:=Hd hne;have HL:=Hd hl;have hl1:dl.length<s.length:=A3
 clear hO hD ss sd hne hl;go_enter Tryz.func147,Tryz.ntmps147
 go_wp2_with fail
 go_loopw [6,11] (fun c i wr=>∃(j cy:Nat) (s':List Nat),j≤dl.length∧c= .int .u64 (cy:Int)∧i= .int .i64 (j:Int)∧ay wr base g N cap (pre++s'++post)∧s'.length=s.length∧Hid (ij 18446744073709551616 dl s s' cy j)∧Fr (· =g) w wr) (fun _ i _=>dl.length - (intOf i).toNat)
 case atStart=>exact⟨0,0,s,A3,rfl,rfl,HO.out,rfl,Hd (ij.zero HS.1),Fr.refl _ _⟩
 case round=>
  obtain⟨j,cy,s',hj,rfl,rfl,hO,hsl,HI,hF⟩:=hrel;have hcy:=HI.low;by_cases hlt:j<dl.length
  ·obtain⟨b2,o2,rfl,hb2,d2⟩:=R2.cell hlt;have hbg:=HNE.out b2 o2 rfl;have hjs:j<s.length:=A3
   replace d2:wr.drew.cell? ⟨b2,o2+j,none⟩=some (.int .u64 (dl.getD j 0:Nat)):=(hF.cell (p:=⟨b2,o2+j,none⟩) hb2 hbg).trans d2;have d1:wr.drew.cell? ⟨g,pre.length+j,none⟩=some (.int .u64 (s'.getD j 0:Nat)):=hO.sub_cell A3;rw[HI.rest j lr] at d1;have HST:=Hd (fun(r c':Nat) h1 h2=>HI.step (r:=r) (c':=c') A3 HS.1 HS.2 A3 h1 h2);generalize dl.getD j 0=y at d2 HST;generalize s.getD j 0=x at d1 HST;obtain⟨r,hr⟩: ∃r,(x+y+cy) % 18446744073709551616=r:=⟨_,rfl⟩
   obtain⟨c2,hc2⟩: ∃c2,(x+y+cy) / 18446744073709551616=c2:=⟨_,rfl⟩
   have HI2:=Hd (Hd (HST.out r c2 hr.symm hc2.symm));have hadd:=Tryz.add64 x y cy r c2 hcy hr hc2;have hO2:=hO.set (pre.length+j) r;rw[jB pre s' post r A3] at hO2;have HO2:Hid (ay (wr.drew.setCell ⟨g,pre.length+j,none⟩ (.int .u64 (r:Int))) base g N cap (pre++s'.set j r++post)):=Hd hO2;have hO1:ay wr.drew base g N cap (pre++s'++post):=hO;have hF1:Fr (· =g) w wr.drew:=hF.drew;clear hO2 HST HI hr hc2 hO hF
   go_wp2_with fail
   refine Rd.regionK (fun X=>X.cell? ⟨g,pre.length+j,none⟩=some (.int .u64 (x:Int))∧X.cell? ⟨b2,o2+j,none⟩=some (.int .u64 (y:Int))) 16 [0,1,2,3,4,6,7,8,10,12,13,14,15] [5,9] [0,1,2,3,4,5,6,7,8,9,10,11,12,13,14,15,16,17] Cx Cx Cx Cx rfl ⟨d1,d2⟩ ?_;generalize wr.drew=W1 at d1 d2 hO1 hF1 HO2 ⊢;refine Rd.kg (.slice (some ⟨g,pre.length,none⟩) s.length c0) ?_ (y:=fun X=>Ca);refine Rd.kg (.int .i64 (j:Int)) ?_ (y:=fun X=>Ca);refine Rd.kg (.slice (some ⟨g,pre.length,none⟩) s.length c0) ?_ (y:=fun X=>Ca);refine Rd.kg (.int .i64 (j:Int)) ?_ (y:=fun X=>Ca);refine Rd.kg (.pointer (some ⟨g,pre.length+j,none⟩)) ?_ (y:=fun X=>Ca);refine Rd.seqK_float (.int .u64 (x:Int)) BC rfl rfl Cp (fun X hX=>Cy) ?_;simp only[Act.put,sA,sB,sC];refine Rd.kg (.slice (some ⟨b2,o2,none⟩) dl.length cap2) ?_ (y:=fun X=>Ca);refine Rd.kg (.int .i64 (j:Int)) ?_ (y:=fun X=>Ca);refine Rd.kg (.pointer (some ⟨b2,o2+j,none⟩)) ?_ (y:=fun X=>Ca);refine Rd.seqK_float (.int .u64 (y:Int)) BC rfl rfl Cp (fun X hX=>by have h1:=hX.2;go_simp) ?_;simp only[Act.put,sA,sB,sC];refine Rd.kg (.int .u64 (cy:Int)) ?_ (y:=fun X=>Ca);refine Rd.seqK_move BC rfl rfl Cp (fun K hK=>?_);go_simp;refine hK _ _ (fun _=>⟨d1,d2⟩) ?_;clear hK K;refine Rd.kg (.tuple #[.int .u64 (r:Int),.int .u64 (c2:Int)]) ?_ (y:=fun X=>Ca);refine Rd.kg (.int .u64 (r:Int)) ?_ (y:=fun X=>Ca);refine Rd.kg (.int .u64 (c2:Int)) ?_ (y:=fun X=>Ca);refine Rd.kg (.pointer (some ⟨g,pre.length+j,none⟩)) ?_ (y:=fun X=>Ca);refine Rd.seqK_move BC rfl rfl Cp (fun K hK=>?_);go_simp;have hfz:=hO1.frozen (pre.length+j);go_simp;refine hK _ _ (fun h=>absurd h A3) ?_;clear hK K;refine Rd.seqK_move BC rfl rfl Cp (fun K hK=>?_);go_simp;refine hK _ _ (fun h=>absurd h A3) ?_;refine Rd.seqK_end ?_;have hF2:Fr (· =g) w (W1.setCell ⟨g,pre.length+j,none⟩ (.int .u64 (r:Int))):=hF1.setCell (.inr rfl) _;have hO3:=HO2.out;clear HO2;generalize W1.setCell ⟨g,pre.length+j,none⟩ (.int .u64 (r:Int))=W3 at hO3 hF2 ⊢
   go_wp2_with fail
   go_round
   case rel=>exact⟨j+1,c2,s'.set j r,A3,rfl,Cw,hO3,by rw[List.length_set];exact hsl,HI2.out,hF2⟩
   case measure=>simp[intOf];omega
  ·have hjn:j=dl.length:=A3
   subst hjn;have c1:wr.cell? ⟨g,pre.length+dl.length,none⟩=some (.int .u64 (s'.getD dl.length 0:Nat)):=hO.sub_cell A3;rw[HI.rest dl.length lr] at c1;have HST:=Hd (fun(r c':Nat) h3 h4=>HI.done (r:=r) (c':=c') A3 HS.1 HL.out h3 h4);generalize s.getD dl.length 0=x at c1 HST;obtain⟨r,hr⟩: ∃r,(x+0+cy) % 18446744073709551616=r:=⟨_,rfl⟩
   obtain⟨c2,hc2⟩: ∃c2,(x+0+cy) / 18446744073709551616=c2:=⟨_,rfl⟩
   have HI2:=Hd (HST.out r c2 hr.symm hc2.symm);have hadd: ∀w,(callFunc 77 #[.int .u64 (x:Int),.int .u64 0,.int .u64 (cy:Int)]).run Tryz.prog w= .ok (.value (.tuple #[.int .u64 (r:Int),.int .u64 (c2:Int)])) w:=fun w=>Tryz.add64 x 0 cy r c2 hcy hr hc2 w
   have hfz:=hO.frozen (pre.length+dl.length);have hO2:=hO.set (pre.length+dl.length) r;rw[jB pre s' post r A3] at hO2;have HO2:=Hd hO2;clear hO2 HST HI hr hc2
   go_wp2_with fail
   go_ret;obtain⟨i1,i2,i3,i4⟩:=HI2.out;exact⟨s'.set dl.length r,c2,rfl,HO2.out,i1,i2,i3,i4,hF.setCell (.inr rfl) _⟩
theorem k8.pos {M vs vd t vp:Nat} (h:k8 M vs vd t vp 1):0<t:=by
 apply Nat.pos_of_ne_zero;rintro rfl;have h1:=h.eq;have h2:=h.lt;rw[Nat.zero_mul] at h1;omega
theorem po (base g N cap c0 cap2:Nat) (ad2:Option Addr) (pre s post dl:List Nat) (w:World) (hO:ay w base g N cap (pre++s++post)) (hD:aH w (.slice ad2 dl.length cap2) dl) (hne: ∀b off,ad2=some ⟨b,off,none⟩→b≠g)
  (ss:a7 s) (sd:a7 dl) (hl:s.length=dl.length+1) (hn:1≤dl.length) (hnl:dl.length≤100000) (hlt:V s<18446744073709551616*V dl):
  Calls Tryz.prog 133 #[.slice (some ⟨g,pre.length,none⟩) s.length c0,.slice ad2 dl.length cap2] w fun e w'=>∃(s':List Nat) (q:Nat),e= .returned (.int .u64 (q:Int))∧q=V s / V dl∧V s'=V s % V dl∧ay w' base g N cap (pre++s'++post)∧a7 s'∧s'.length=s.length∧Fr (· =g) w w':=by
 have H72:=Hd (r8 base g N cap c0 cap2 ad2 pre s post dl w hO hD ss sd hl hn hnl hlt);have HO:=Hd hO;have R2:=Hd hD;have HS:=Hd (And.intro ss sd);have HNE:=Hd hne;have HL:=Hd hl;have hdp:0<V dl:=by apply Nat.pos_of_ne_zero;intro e;rw[e] at hlt;omega
 have HDP:=Hd hdp;clear hO hD ss sd hne hl hlt hdp;go_enter Tryz.func133,Tryz.ntmps133
 go_wp2_with fail
 refine H72.mono ?_;rintro e w1 ⟨t0,rfl,ht0,hge,hb1⟩;have HGE:=Hd hge;clear hge H72;have hO1:ay w1 base g N cap (pre++s++post):=(Fr.of_below (G:=fun _=>False) hb1).owns HO.out (fun h=>h);have H73:=Hd (m7 base g N cap c0 cap2 ad2 pre s post dl t0 w1 hO1 (R2.below hb1) HNE.out HS.1 HS.2 HL.out ht0 hnl);clear hO1
 go_wp2_with fail
 refine H73.mono ?_;rintro e w2 ⟨s1,b1,rfl,hO2,hs1,hsl1,hbo1,heq1,hF2⟩;have HF2:Fr (· =g) w w2:=(Fr.of_below (G:=(· =g)) hb1).trans hF2 (fun _ _ h=>h);have HI0:Hid (k8 (18446744073709551616 ^ s.length) (V s) (V dl) t0 (V s1) b1):=Hd ⟨hbo1,HGE.out,heq1,by have:=d9 (B:=18446744073709551616) A3 s1 hs1;rw[hsl1] at this;exact this⟩;clear H73 heq1 hF2 hb1 HGE HO
 go_wp2_with fail
 go_loopw [5,6] (fun a b wr=>∃(t bo:Nat) (s':List Nat),t<18446744073709551616∧bo≤1∧a= .int .u64 (t:Int)∧b= .int .u64 (bo:Int)∧ay wr base g N cap (pre++s'++post)∧a7 s'∧s'.length=s.length∧Hid (k8 (18446744073709551616 ^ s.length) (V s) (V dl) t (V s') bo)∧Fr (· =g) w wr) (fun a _ _=>(intOf a).toNat)
 case atStart=>exact⟨t0,b1,s1,ht0,hbo1,rfl,rfl,hO2,hs1,hsl1,HI0,HF2⟩
 case round=>
  clear hO2 hs1 hsl1 HI0 HF2 hbo1 ht0;obtain⟨t,bo,s',ht,hbo,rfl,rfl,hO,hss,hsl,HI,hF⟩:=hrel;by_cases h0:bo=0
  ·subst h0;have HD:=Hd (HI.done HDP.out);clear HI
   go_wp2_with fail
   go_ret;exact⟨s',t,rfl,HD.1,HD.2,hO,hss,hsl,hF⟩
  ·have h1:bo=1:=A3
   subst h1;have htp:=k8.pos HI.out;have R3:aH wr (.slice ad2 dl.length cap2) dl:=hF.lim R2.out (fun b off e _=>HNE.out b off e);have H74:=og base g N cap c0 cap2 ad2 pre s' post dl wr hO R3 HNE.out hss HS.2 (by rw[hsl];exact HL.out) hnl;rw[hsl] at H74;have H74h:=Hd H74;clear H74 R3
   go_wp2_with fail
   refine H74h.mono ?_;rintro e w3 ⟨s2,c,rfl,hO3,hs3,hsl3,hc3,heq3,hF3⟩;have HL3:=HI.less rfl HDP.out hc3 heq3 (by have:=d9 (B:=18446744073709551616) A3 s2 hs3;rw[hsl3] at this;exact this);have HI3:=Hd (Hd HL3.2.2);have hc1:c≤1:=hc3;clear HL3 heq3 HI H74h;have hF4:Fr (· =g) w w3:=hF.trans hF3 (fun _ _ h=>h);clear hF hF3
   go_wp2_with fail
   go_round
   case rel=>exact⟨t - 1,1 - c,s2,A3,A3,Cw,Cw,hO3,hs3,hsl3,HI3.out,hF4⟩
   case measure=>simp[intOf];omega
theorem kO (v:Value) (la:List Nat) (m:Nat) (w:World) (h:aH w v la) (s:a7 la) (hm:m<18446744073709551616) (hl:la.length≤100000):
  Calls Tryz.prog 132 #[v,.int .u64 (m:Int)] w fun e w'=>∃(g:Nat) (o:List Nat),e= .returned (.slice (some ⟨g,0,none⟩) (la.length+1) (la.length+1))∧ay w' w.heap.size g (la.length+1) (la.length+1) o∧a7 o∧V o=m*V la∧Below w.heap.size w w':=by
 obtain⟨i0,hi,hz0,hz1,hz2⟩:=info_parts Tryz.info94;have hne1: ∀b off k c,v= .slice (some ⟨b,off,none⟩) k c→la≠[]→b≠w.heap.size:=by
  intro b off k c e hla;obtain⟨ad,cp,e2,_,h3⟩:=h;obtain⟨b',off',e3,h4,_⟩:=h3 hla;rw[e2,e3] at e;cases e;omega
 have R1:=Hd h;obtain⟨ad1,cap1,rfl,hc1,-⟩:=h;have HS:=Hd s;have HNE:=Hd hne1;clear s hne1;obtain⟨nn,hnn⟩: ∃nn,nn=la.length+1:=⟨_,rfl⟩
 rw[←hnn];have hnl:la.length<nn:=A3
 have hnl2:nn≤100001:=A3
 have HNN:=Hd hnn;clear hnn;go_enter Tryz.func132,Tryz.ntmps132
 go_wp2_with (at_make;refine wpList_make_full w rfl _ _ 47 rfl w.heap.size 94 i0 (.int .u64 0) 1 Tryz.underlying47 hi hz0 hz1 .i64 .i64 _ _ nn rfl rfl BQ BQ (by rw[hz2];omega) Cu lr ?_;intro w1 hown hgrow)
 rw[eI] at hown;have hb1:Below w.heap.size w w1:=(Below.refl _ w).grown hgrow lr (fun j ej=>by cases ej);have H48:=Hd (g9 w.heap.size w.heap.size nn nn 0 nn (List.replicate nn 0) la (.slice ad1 la.length cap1) m w1 hown (R1.below hb1) HNE.out (Small.zeros A3 _) HS.out hm A3 A3);clear hown hgrow
 go_wp2_with fail
 refine H48.mono ?_;rintro e w2 ⟨cy,out,rfl,hO,HM,hF⟩;have hB2:Below w.heap.size w w2:=hb1.trans (hF.below hb1.size (fun k e=>A3));have hz9:(List.replicate nn 0).getD (0+la.length) 0=0:=BN
 have hd:=HM.done Cq hz9;rw[HM.rest _ lr,hz9,Nat.zero_add,Nat.zero_add] at hd;have HD:=Hd hd;clear hd hz9 HM;have hfz:=hO.frozen la.length;have hcz:=hO.cell (j:=la.length) A3;have HO3:=Hd (hO.set la.length cy)
 go_wp2_with fail
 go_ret;refine⟨w.heap.size,out.set la.length cy,rfl,HO3.out,HD.1,?_,hB2.setCell (p:=⟨w.heap.size,la.length,none⟩) lr _⟩;have e:=HD.2.1;rw[iS,Nat.pow_zero,Nat.one_mul,Nat.zero_add] at e;exact e
end Go.Proofs.YtohifgjeebhijaaGreatDoor
namespace Go.Proofs.YtohifgjeebhijaaGreatDoor
set_option maxRecDepth 100000
set_option maxHeartbeats 8000000
open Go.RowKit Go.Dig Go.Shelf Go.Proofs Go.Dv
attribute [local go_sem] Oper.semAt_some
theorem ay.base {w:World} {base base' g n cap:Nat} {l:List Nat} (h:ay w base g n cap l) (hb:base'≤base):ay w base' g n cap l:=by
 refine⟨h.1,?_⟩;rcases h.2 with ⟨h',_⟩ | ⟨g',cap',cur,h',h1,rest⟩
 ·cases h'
 ·exact .inr ⟨g',cap',cur,h',Nat.le_trans hb h1,rest⟩
theorem gT {F:Fence} {n:Nat} {P:Program} (w:World) {ops:Array Oper} {rest:List Oper} {o:Oper} {a:Act} {Q:Exit→Act→World→Prop}
  (hg:o.guard=none) (l c:Operand) (t:TypeId) (hop:o.op=Op.makeSlice t l c)
  (base:Nat) (e:TypeId) (i:TypeInfo) (z:Value) (size:Nat) (h1:P.underlying t=some (.slice e)) (h2:P.info? e=some i) (h3:i.zero=some z) (h4:i.size=size)
  (kl kc:IntKind) (L C:Int) (m:Nat) (hl:a.eval l= .int kl L) (hc:a.eval c= .int kc C) (hL:L=(m:Int)) (hC:C=(m:Int)) (b2:i.bytes*m≤281474976710656) (b3:m≤maxLen) (b4:base≤w.heap.size)
  (hK: ∀w',w'.ownsRow base e size (.slice (some ⟨w.heap.size,0,none⟩) m m) m (madeCells z.cells (m*size)).toList→w.grownBy w' none→wpListIn F n P ops Q rest (a.put o.dst (.slice (some ⟨w.heap.size,0,none⟩) m m)) w'):
  wpListIn F n P ops Q (o::rest) a w:=by
 refine wpListIn_plain hg fun K hK'=>?_
 obtain⟨w',hrun,r1,r2⟩:=run_make_full (P:=P) w base t e i z size h1 h2 h3 h4 kl kc m b2 b3 b4;subst hL;subst hC;unfold Oper.wpIn;refine⟨?_,?_⟩
 ·simp[Oper.about,hop]
 ·rw[Oper.semAt_plain F _ _ (by rw[hop];intro c hc';cases hc')];simp[execOp,hop,hl,hc,hrun,Result.andThen];exact hK' _ _ (hK w' r1 r2)
theorem Lim.keep {q:IntKind} {W W':World} {row:Option Nat} {v:Value} {l:List Nat} (h:Lim q W v l) (hg:W.grownBy W' row) (hr: ∀r,row=some r→∃o:Obj,W.heap[r]? =some o∧o.isCells=false):Lim q W' v l:=by
 obtain⟨ad,cap,rfl,h1,h2⟩:=h;refine⟨ad,cap,rfl,h1,fun hne=>?_⟩;obtain⟨b,off,rfl,hb,hc⟩:=h2 hne;exact⟨b,off,rfl,Nat.lt_of_lt_of_le hb hg.size,fun j hj=>cell_kept (hc j hj) hg hr⟩
theorem Fr.put (W:World) (p:Addr) (u:Value):Fr (· =p.block) W (W.setCell p u):=(Fr.refl (· =p.block) W).setCell (p:=p) (.inr rfl) u
def rR (w:World) (Bd B9 B10 Bb g1 g2 g3 n N1 M:Nat) (od:List Nat) (d a:Nat) (m:Nat) (W:World):Prop:=
 ∃Q R:List Nat,Hid (eC 18446744073709551616 d a Q R m∧∀j,j<m→Q.getD j 0=0)∧ay W w.heap.size g1 N1 N1 R∧ay W w.heap.size g3 M M Q∧ay W w.heap.size g2 (n+1) (n+1) od∧Boxed W w.heap.size 3 (.int .i64 (n:Int))∧
  Boxed W Bd 47 (.slice (some ⟨g2,0,none⟩) n (n+1))∧Boxed W B9 47 (.slice (some ⟨g1,0,none⟩) N1 N1)∧Boxed W B10 47 (.slice (some ⟨g3,0,none⟩) M M)∧Boxed W Bb 47 (.slice (some ⟨g3,0,none⟩) M M)∧Below w.heap.size w W
theorem rR.own {w:World} {Bd B9 B10 Bb g1 g2 g3 n N1 M:Nat} {od:List Nat} {d a B:Nat} (hB:w.heap.size≤B):OwnFrom B (rR w Bd B9 B10 Bb g1 g2 g3 n N1 M od d a):=by
 rintro m X Y row ⟨Q,R,H,h1,h2,h3,h4,h5,h6,h7,h8,hF⟩ hg hr;have hr2:=fun r e=>(hr r e).2
 exact⟨Q,R,H,fY h1 hg hr2,fY h2 hg hr2,fY h3 hg hr2,cE h4 hg hr2,cE h5 hg hr2,cE h6 hg hr2,cE h7 hg hr2,cE h8 hg hr2,ownFrom_below (β:=Unit) lr hB () X Y row hF hg hr⟩
theorem qm (base g1 g2 n N1 k d a:Nat) (Q R dl:List Nat) (W:World) (h:eC 18446744073709551616 d a Q R (k+1)) (hdl:dl.length=n) (hsd:a7 dl) (hvd:V dl=d) (hd0:0<d) (hdn:d≤18446744073709551616 ^ n) (hk:k+(n+1)≤N1) (hkQ:k<Q.length)
  (hn:1≤n) (hnl:n≤100000) (hne:g2≠g1) (hO:ay W base g1 N1 N1 R) (hD:aH W (.slice (some ⟨g2,0,none⟩) n (n+1)) dl):
  Calls Tryz.prog 133 #[.slice (some ⟨g1,k,none⟩) (n+1) (N1 - k),.slice (some ⟨g2,0,none⟩) n (n+1)] W fun e W'=>∃(q:Nat) (R':List Nat),e= .returned (.int .u64 (q:Int))∧ay W' base g1 N1 N1 R'∧eC 18446744073709551616 d a (Q.set k q) R' k∧Fr (· =g1) W W':=by
 have hR:=hO.len;have e1:(R.take k).length=k:=BU
 have e2:((R.drop k).take (n+1)).length=n+1:=by rw[List.length_take,List.length_drop];omega
 have e3:R.take k++(R.drop k).take (n+1)++R.drop (k+(n+1))=R:=by
  rw[List.append_assoc,←List.drop_drop,List.take_append_drop,List.take_append_drop]
 obtain⟨p1,p2,p3⟩:=h.part A3 hdn A3;have H:=po base g1 N1 N1 (N1 - k) (n+1) (some ⟨g2,0,none⟩) (R.take k) ((R.drop k).take (n+1)) (R.drop (k+(n+1))) dl W (by rw[e3];exact hO) (by rw[hdl];exact hD) (fun b off e=>by cases e;exact hne) ((h.small.drop k).take (n+1)) hsd (by rw[e2,hdl]) A3 A3
  (by show val _ _<_;rw[p1,hvd];exact p2)
 rw[e1,e2,hdl] at H;refine H.mono ?_;rintro e W' ⟨s',q,rfl,hq,hs',hO',hss,hsl,hF⟩;rw[hvd] at hq hs';exact⟨q,_,rfl,hO',h.step A3 hdn hd0 A3 hkQ hss hsl hq hs',hF⟩
theorem nm (v1:Value) (b2 o2 cap2 y s sc:Nat) (la lb:List Nat) (w:World) (h1:aH w v1 la) (h2:aH w (.slice (some ⟨b2,o2,none⟩) lb.length cap2) lb) (s1:a7 la) (s2:a7 lb) (hl1:la.length≤1000) (hn:2≤lb.length) (hnm:lb.length≤la.length)
  (hb2:b2<w.heap.size) (c2:w.cell? ⟨b2,o2+(lb.length - 1),none⟩=some (.int .u64 (y:Int))) (hyl:y<18446744073709551616) (hs:s+Lib.bitLen y=64) (hsc:IntKind.u64.wrap (2 ^ min s 64)=(sc:Int)) (hsl:sc<18446744073709551616) (hs0:0<sc)
  (hd:sc*V lb<18446744073709551616 ^ lb.length) (hd0:0<V lb) (hst:sc*V la<18446744073709551616 ^ (la.length - lb.length+1)*(sc*V lb)):
  Calls Tryz.prog 114 #[v1,.slice (some ⟨b2,o2,none⟩) lb.length cap2] w fun e w'=>∃q r,e= .returned (.tuple #[q,r])∧aH w' q (L (V la / V lb))∧aH w' r (L (V la % V lb))∧Below w.heap.size w w':=by
 obtain⟨i0,hi,hz0,hz1,hz2⟩:=info_parts Tryz.info94;have R1:=Hd h1;have R2:=Hd h2;have HH:=Hd (And.intro s1 (And.intro s2 (And.intro hd (And.intro hd0 hst))));have HL:=Hd (fun W=>vO y s W hyl hs);clear h2 s1 s2 hd hd0 hst hs;obtain⟨ad1,cap1,rfl,hc1,-⟩:=h1;refine(callsIn_wide (n:=3)).1 ?_;refine callsIn_of_wp_marks Tryz.func114 rfl trivial ?_ rfl;simp only[Tryz.ntmps114,List.size_toArray,List.length_cons,List.length_nil,Nat.reduceAdd,Nat.reduceSub,Array.replicate_succ,Array.replicate_zero,List.push_toArray,List.append_toArray,List.nil_append,List.cons_append]
 gi_wp2_with fail
 refine⟨trivial,?_⟩;refine(callsIn_wide.2 (HL.out _)).mono ?_;rintro e w' ⟨rfl,rfl⟩;have bN:=Boxed.new w 3 (.int .i64 (lb.length:Int));have hB1:Below w.heap.size w (w.alloc (.cells #[.int .i64 (lb.length:Int)] 3)):=(Below.refl _ w).alloc lr _;have hz1':(w.alloc (.cells #[.int .i64 (lb.length:Int)] 3)).heap.size=w.heap.size+1:=World.size_alloc _ _;generalize w.alloc (.cells #[.int .i64 (lb.length:Int)] 3)=W1 at bN hB1 hz1' ⊢;clear HL c2
 gi_wp2_with fail
 refine wpIn_wide.2 (Rd.regionF (fun X=>X.cell? ⟨w.heap.size,0,none⟩=some (.int .i64 (lb.length:Int))) [0,1,3,4] [0,1,3] 2 [4,5,6] 5 [2,4,6] (fun a' W=>∃Bd g2 od,a'={ tmps:=List.toArray (.slice ad1 la.length cap1:: .slice (some ⟨b2,o2,none⟩) lb.length cap2::undef::undef:: .slice none 0 0:: .slice none 0 0:: .pointer (some ⟨w.heap.size,0,none⟩):: .int .u64 (sc:Int):: .pointer (some ⟨Bd,0,none⟩)::undef::undef::undef:: .slice (some ⟨b2,o2,none⟩) lb.length cap2:: .int .i64 (lb.length:Int):: .slice (some ⟨b2,o2,none⟩) lb.length cap2:: .int .i64 (lb.length:Int):: .int .i64 ((lb.length:Int) - 1):: .pointer (some ⟨b2,o2+(lb.length - 1),none⟩):: .int .u64 (y:Int):: .int .i64 (s:Int):: .int .u64 (sc:Int):: .slice (some ⟨b2,o2,none⟩) lb.length cap2:: .int .u64 (sc:Int):: .slice (some ⟨g2,0,none⟩) (lb.length+1) (lb.length+1):: .int .i64 (lb.length:Int):: .slice (some ⟨g2,0,none⟩) lb.length (lb.length+1)::undef::undef::undef::undef::undef::undef::undef::undef::undef::undef::undef::undef::undef::undef::undef::undef::undef::undef::undef::undef::undef::undef::undef::undef::undef::undef::undef::undef::undef::undef::undef::undef::[]),defers:=[] }∧ay W w.heap.size g2 (lb.length+1) (lb.length+1) od∧Hid (a7 od∧V od=sc*V lb)∧Boxed W Bd 47 (.slice (some ⟨g2,0,none⟩) lb.length (lb.length+1))∧Boxed W w.heap.size 3 (.int .i64 (lb.length:Int))∧Bd≠g2∧w.heap.size<Bd∧w.heap.size<g2∧Below w.heap.size w W) Cx Cx Cx rfl rfl bN.cell ?pre ?behind)
 case pre=>
  replace bN:Boxed W1.drew w.heap.size 3 (.int .i64 (lb.length:Int)):=bN;replace hB1:=hB1.drew;replace hz1':W1.drew.heap.size=w.heap.size+1:=hz1';have H64:=Hd (fun W (h:Below w.heap.size w W)=>kO (.slice (some ⟨b2,o2,none⟩) lb.length cap2) lb sc W (R2.below h) HH.2.1 hsl A3);generalize W1.drew=W1 at bN hB1 hz1' ⊢;refine Rd.pre_float (.slice (some ⟨b2,o2,none⟩) lb.length cap2) (by simp only[gA,gC];rfl) rfl Cp (fun X _=>Ca) ?_;simp only[Act.put,sA,sB,sC];refine Rd.pre_float (.int .u64 (sc:Int)) BC rfl Cp (fun X _=>Ca) ?_;simp only[Act.put,sA,sB,sC];refine Rd.pre_float (.int .i64 (lb.length:Int)) BC rfl Cp (fun X _=>Ca) ?_;simp only[Act.put,sA,sB,sC];refine Rd.pre_end ?_;refine Rd.fork_both BC BC Cp Cp (fun K hK=>?_) (fun K hK=>?_)
  ·go_simp;refine(H64.out W1 hB1).mono ?_;rintro e W2 ⟨g2,od,rfl,hO,hso,hvo,hb⟩;have bN2:Boxed W2 w.heap.size 3 (.int .i64 (lb.length:Int)):=(Fr.of_below (G:=fun _=>False) hb).boxed bN (fun h=>h);refine hK _ _ bN2.cell ?_;clear hK K;refine Rd.pre_float (.slice (some ⟨g2,0,none⟩) lb.length (lb.length+1)) BC rfl Cp (fun X _=>by go_simp;intro h9;omega) ?_;simp only[Act.put,sA,sB,sC];refine Rd.pre_move BC rfl Cp (fun K hK=>?_);go_simp;have hO3:=hO.alloc (.cells #[.slice none 0 0] 47);have bD:=Boxed.new W2 47 (.slice none 0 0);have bN3:=bN2.alloc (.cells #[.slice none 0 0] 47);have hgl:=hO.lt;have hB3:Below w.heap.size w (W2.alloc (.cells #[.slice none 0 0] 47)):=(hB1.trans (hb.mono A3)).alloc (by have:=hB1.size;have:=hb.size;omega) _;refine hK _ _ bN3.cell ?_;clear hK K;refine Rd.pre_move BC rfl Cp (fun K hK=>?_);have hcd:=bD.cell;have hfd:=bD.frozen;go_simp;have bD2:=Boxed.new W2 47 (.slice (some ⟨g2,0,none⟩) lb.length (lb.length+1));refine hK _ _ ?_ (Rd.pre_end ⟨W2.heap.size,g2,od,rfl,?_,Hd ⟨hso,hvo⟩,bD2,?_,A3,by have:=bN2.lt;omega,A3,?_⟩)
   ·exact(bN2.alloc _).cell
   ·exact ay.base (hO.alloc _) A3
   ·exact bN2.alloc _
   ·exact(hB1.trans (hb.mono A3)).alloc (by have:=bN2.lt;omega) _
  ·go_simp;have bD:=Boxed.new W1 47 (.slice none 0 0);have bN2:=bN.alloc (.cells #[.slice none 0 0] 47);have hB2:Below w.heap.size w (W1.alloc (.cells #[.slice none 0 0] 47)):=hB1.alloc A3 _;have hz2':(W1.alloc (.cells #[.slice none 0 0] 47)).heap.size=w.heap.size+2:=by rw[World.size_alloc];omega
   rw[hz1'] at bD;refine hK _ _ bN2.cell ?_;clear hK K;generalize W1.alloc (.cells #[.slice none 0 0] 47)=W2 at bD bN2 hB2 hz2' ⊢;refine Rd.pre_move BC rfl Cp (fun K hK=>?_);go_simp;refine(H64.out W2 hB2).mono ?_;rintro e W3 ⟨g2,od,rfl,hO,hso,hvo,hb⟩;have bN3:Boxed W3 w.heap.size 3 (.int .i64 (lb.length:Int)):=(Fr.of_below (G:=fun _=>False) hb).boxed bN2 (fun h=>h);have bD3:=(Fr.of_below (G:=fun _=>False) hb).boxed bD (fun h=>h);have hgl:=hO.lt;have hB3:Below w.heap.size w W3:=hB2.trans (hb.mono A3);refine hK _ _ bN3.cell ?_;clear hK K;refine Rd.pre_float (.slice (some ⟨g2,0,none⟩) lb.length (lb.length+1)) BC rfl Cp (fun X _=>by go_simp;intro h9;omega) ?_;simp only[Act.put,sA,sB,sC];refine Rd.pre_move BC rfl Cp (fun K hK=>?_);have hcd:=bD3.cell;have hfd:=bD3.frozen;go_simp;have bD2:=bD3.set (.slice (some ⟨g2,0,none⟩) lb.length (lb.length+1));refine hK _ _ ?_ (Rd.pre_end ⟨w.heap.size+1,g2,od,rfl,?_,Hd ⟨hso,hvo⟩,bD2,?_,A3,A3,A3,?_⟩)
   ·exact(bN3.other A3 _).cell
   ·exact ay.base ((Fr.put _ ⟨w.heap.size+1,0,none⟩ _).owns hO (by show ¬g2=w.heap.size+1;omega)) A3
   ·exact bN3.other A3 _
   ·exact hB3.setCell (p:=⟨w.heap.size+1,0,none⟩) (by show w.heap.size≤w.heap.size+1;omega) _
 case behind=>
  rintro a' W ⟨Bd,g2,od,rfl,hOd,HD,bD,bN,hne1,hne2,hne3,hB⟩
  gi_wp2_with fail
  refine⟨trivial,?_⟩;refine(callsIn_wide.2 (kO _ la sc W (R1.below hB) HH.1 hsl A3)).mono ?_;rintro e W2 ⟨g1,oa,rfl,hOa,hsa,hva,hb⟩;obtain⟨HA⟩:Nonempty (Hid (a7 oa∧V oa=sc*V la)):=⟨Hd ⟨hsa,hva⟩⟩
  clear hsa hva;have hF:=Fr.of_below (G:=fun _=>False) hb;have hg1':=hOa.lt;have hg2':=hOd.lt;have hBd':=bD.lt;have hBn':=bN.lt;have n1:g2≠g1:=A3
  have n3:Bd≠g1:=A3
  have n4:w.heap.size<g1:=A3
  clear hg1' hg2' hBd' hBn';replace hOd:ay W2 w.heap.size g2 (lb.length+1) (lb.length+1) od:=hF.owns hOd (fun h=>h);replace bD:=hF.boxed bD (fun h=>h);replace bN:=hF.boxed bN (fun h=>h);have hg1:=hOa.lt;have hg2:=hOd.lt;have hBd:=bD.lt;have hBn:=bN.lt;replace hOa:ay W2 w.heap.size g1 (la.length+1) (la.length+1) oa:=ay.base hOa hB.size;replace hB:Below w.heap.size w W2:=hB.tr hb;clear hb hF;obtain⟨M,hM⟩: ∃M,M+lb.length=la.length+1:=⟨la.length+1 - lb.length,A3⟩
  have HM:=Hd hM;have hM0:1≤M:=A3
  have hM1:M≤1000:=A3
  clear hM;have hcN:=(bN.alloc (.cells #[.slice (some ⟨g1,0,none⟩) (la.length+1) (la.length+1)] 47)).cell
  gi_wp2_with (gi_at_make;refine gT _ rfl _ _ 47 rfl w.heap.size 94 i0 (.int .u64 0) 1 Tryz.underlying47 hi hz0 hz1 .i64 .i64 _ _ M rfl rfl (by have:=HM.out;omega) (by have:=HM.out;omega) (by rw[hz2];omega) Cu (by rw[World.size_alloc];omega) ?_;intro w1 hown hgrow)
  have hF:=Fr.of_grown (G:=fun _=>False) hgrow (fun k _ e=>by cases e);have b9:=hF.boxed (Boxed.new W2 47 (.slice (some ⟨g1,0,none⟩) (la.length+1) (la.length+1))) (fun h=>h);replace bN:=hF.boxed (bN.alloc _) (fun h=>h);replace bD:=hF.boxed (bD.alloc _) (fun h=>h);replace hOa:ay w1 w.heap.size g1 (la.length+1) (la.length+1) oa:=hF.owns (hOa.alloc _) (fun h=>h);replace hOd:ay w1 w.heap.size g2 (lb.length+1) (lb.length+1) od:=hF.owns (hOd.alloc _) (fun h=>h);have hB9:w.heap.size≤W2.heap.size:=hB.size;replace hB:Below w.heap.size w w1:=(hB.alloc hB.size _).grown hgrow (by rw[World.size_alloc];omega) (fun j ej=>by cases ej);rw[World.size_alloc,eI] at hown;have hg3:=hown.lt (W2.heap.size+1) rfl;clear hgrow hF hcN;generalize W2.heap.size=B9 at *;obtain⟨g3,hg3e⟩: ∃g3,g3=B9+1:=⟨_,rfl⟩
  rw[←hg3e] at hown hg3 ⊢;refine⟨trivial,?_⟩;refine(callsIn_wide.2 (dY _ _ _ _)).mono ?_;rintro e w' ⟨rfl,rfl⟩;simp only[World.size_alloc];have b10:=(Boxed.new w1 47 (.slice (some ⟨g3,0,none⟩) M M)).alloc (.cells #[.slice (some ⟨g3,0,none⟩) M M] 47);have bb:=Boxed.new (w1.alloc (.cells #[.slice (some ⟨g3,0,none⟩) M M] 47)) 47 (.slice (some ⟨g3,0,none⟩) M M);rw[World.size_alloc] at bb;replace hOa:ay _ w.heap.size g1 (la.length+1) (la.length+1) oa:=(hOa.alloc (.cells #[.slice (some ⟨g3,0,none⟩) M M] 47)).alloc (.cells #[.slice (some ⟨g3,0,none⟩) M M] 47);replace hOd:ay _ w.heap.size g2 (lb.length+1) (lb.length+1) od:=(hOd.alloc (.cells #[.slice (some ⟨g3,0,none⟩) M M] 47)).alloc (.cells #[.slice (some ⟨g3,0,none⟩) M M] 47);replace hown:ay _ w.heap.size g3 M M (List.replicate M 0):=(hown.alloc (.cells #[.slice (some ⟨g3,0,none⟩) M M] 47)).alloc (.cells #[.slice (some ⟨g3,0,none⟩) M M] 47);replace bN:=(bN.alloc (.cells #[.slice (some ⟨g3,0,none⟩) M M] 47)).alloc (.cells #[.slice (some ⟨g3,0,none⟩) M M] 47);replace bD:=(bD.alloc (.cells #[.slice (some ⟨g3,0,none⟩) M M] 47)).alloc (.cells #[.slice (some ⟨g3,0,none⟩) M M] 47);replace b9:=(b9.alloc (.cells #[.slice (some ⟨g3,0,none⟩) M M] 47)).alloc (.cells #[.slice (some ⟨g3,0,none⟩) M M] 47);replace hB:Below w.heap.size w ((w1.alloc (.cells #[.slice (some ⟨g3,0,none⟩) M M] 47)).alloc (.cells #[.slice (some ⟨g3,0,none⟩) M M] 47)):=(hB.alloc hB.size _).alloc (by rw[World.size_alloc];have:=hB.size;omega) _;have hsz:((w1.alloc (.cells #[.slice (some ⟨g3,0,none⟩) M M] 47)).alloc (.cells #[.slice (some ⟨g3,0,none⟩) M M] 47)).heap.size=w1.heap.size+2:=B4
  generalize (w1.alloc (.cells #[.slice (some ⟨g3,0,none⟩) M M] 47)).alloc (.cells #[.slice (some ⟨g3,0,none⟩) M M] 47)=W6 at bN bD b9 b10 bb hOa hOd hown hB hsz ⊢;generalize w1.heap.size=B10 at *;have n2:g3≠g1:=A3
  have n5:g3≠g2:=A3
  have n6:g3≠Bd:=A3
  have n7:B9<g3:=A3
  have n8:g3<B10:=A3
  have HG:=Hd hg3e;clear hg3e;have HV:Hid (a7 (od.take lb.length)∧(od.take lb.length).length=lb.length∧V (od.take lb.length)=sc*V lb):=Hd (by
   have hol:=hOd.len;refine⟨HD.1.take _,BU,?_⟩;have e:=br (B:=18446744073709551616) od lb.length A3;have e2:=HD.2;have e3:=HH.2.2.1;have e4:val 18446744073709551616 (od.drop lb.length)=0:=by
    apply Nat.eq_zero_of_not_pos;intro hp;have h5:18446744073709551616 ^ lb.length*1≤18446744073709551616 ^ lb.length*val 18446744073709551616 (od.drop lb.length):=Nat.mul_le_mul_left _ hp;change val _ _=_ at e2;omega
   rw[e4,Nat.mul_zero,Nat.add_zero] at e;show val _ _=_;rw[←e];exact e2)
  have HLI:Hid (eC 18446744073709551616 (sc*V lb) (sc*V la) (List.replicate M 0) oa M∧∀j,j<M→(List.replicate M 0).getD j 0=0):=Hd ⟨eC.start A3 HA.1 HA.2 (by have:=hOa.len;have:=HM.out;omega) (by have h9:=HH.2.2.2.2;rw[show la.length - lb.length+1=M by have:=HM.out;omega] at h9;exact h9),fun j _=>BN⟩;have hd0:0<sc*V lb:=Nat.mul_pos hs0 HH.2.2.2.1;have HD0:=Hd hd0;have HDn:=Hd (Nat.le_of_lt HH.2.2.1);clear hd0
  gi_wp2_with fail
  refine fA (B10+1) (some ⟨g3,0,none⟩) M M A3 (fun _=>0) rfl rfl bb.cell
   (rR w Bd B9 B10 (B10+1) g1 g2 g3 lb.length (la.length+1) M od (sc*V lb) (sc*V la)) (fun _ _=>False) (rR.own A3) (fun _ _ _ _ hs _ _=>hs)
   (fun k W hk hi=>by
    obtain⟨Q,R,H,hOr,hOq,hOd,bN,bD,b9,b10,bb,hF⟩:=hi;refine⟨bb.cell,g3,0,rfl,?_⟩;rw[Nat.zero_add,hOq.cell hk,H.2 k A3])
   ⟨_,oa,HLI,hOa,hown,hOd,bN,bD,b9,b10,bb,hB⟩
   (fun k=>{ tmps:=List.toArray (.slice ad1 la.length cap1:: .slice (some ⟨b2,o2,none⟩) lb.length cap2::undef::undef:: .slice none 0 0:: .slice none 0 0:: .pointer (some ⟨w.heap.size,0,none⟩):: .int .u64 (sc:Int):: .pointer (some ⟨Bd,0,none⟩):: .pointer (some ⟨B9,0,none⟩):: .pointer (some ⟨B10,0,none⟩):: .int .i64 (k:Int):: .slice (some ⟨b2,o2,none⟩) lb.length cap2:: .int .i64 (lb.length:Int):: .slice (some ⟨b2,o2,none⟩) lb.length cap2:: .int .i64 (lb.length:Int):: .int .i64 ((lb.length:Int) - 1):: .pointer (some ⟨b2,o2+(lb.length - 1),none⟩):: .int .u64 (y:Int):: .int .i64 (s:Int):: .int .u64 (sc:Int):: .slice (some ⟨b2,o2,none⟩) lb.length cap2:: .int .u64 (sc:Int):: .slice (some ⟨g2,0,none⟩) (lb.length+1) (lb.length+1):: .int .i64 (lb.length:Int):: .slice (some ⟨g2,0,none⟩) lb.length (lb.length+1):: .slice ad1 la.length cap1:: .int .u64 (sc:Int):: .slice (some ⟨g1,0,none⟩) (la.length+1) (la.length+1):: .slice ad1 la.length cap1:: .int .i64 (la.length:Int):: .int .i64 (lb.length:Int):: .int .i64 ((la.length:Int) - lb.length):: .int .i64 ((la.length:Int) - lb.length+1):: .slice (some ⟨g3,0,none⟩) M M:: .slice (some ⟨g3,0,none⟩) M M:: .func (.func 112) #[] #[.pointer (some ⟨B10+1,0,none⟩)]:: .int .i64 (k:Int):: .int .u64 ((0:Nat):Int)::undef::undef::undef::undef::undef::undef::undef::undef::undef::undef::undef::undef::undef::undef::undef::undef::undef::undef::undef::[]),defers:=[] }) ?assign ?body ?done ?stop
  case assign=>
   intro ll k W K hK
   gi_wp2
   exact hK
  case stop=>
   rintro D c W hD h hK;exact h.elim
  case body=>
   clear hOa hown hOd bN bD b9 b10 bb hB HLI HA HD;rintro ll k W hk _ _ ⟨Q,R,H,hOr,hOq,hOd,bN,bD,b9,b10,bb,hB⟩;have hM:=HM.out;have hOql:=hOq.len;have H65:=Hd (fun(X:World) (hO:ay X w.heap.size g1 (la.length+1) (la.length+1) R) (hD:ay X w.heap.size g2 (lb.length+1) (lb.length+1) od)=>qm w.heap.size g1 g2 lb.length (la.length+1) k (sc*V lb) (sc*V la) Q R (od.take lb.length) X H.1 HV.2.1 HV.1 HV.2.2 HD0.out HDn.out A3 A3 A3 A3 n1 hO ((ay.row hD).take (by have:=hD.len;omega)));clear hM hOql
   gi_wp2_with fail
   refine Rd.regionInK (fun X=>X.cell? ⟨B10,0,none⟩=some (.slice (some ⟨g3,0,none⟩) M M)∧X.cell? ⟨B9,0,none⟩=some (.slice (some ⟨g1,0,none⟩) (la.length+1) (la.length+1))∧X.cell? ⟨w.heap.size,0,none⟩=some (.int .i64 (lb.length:Int))∧X.cell? ⟨Bd,0,none⟩=some (.slice (some ⟨g2,0,none⟩) lb.length (lb.length+1))) 12 [1,3,4,6,7,8,11] [0,2,5,9] [0,1,2,3,4,5,6,7,8,9,10,11,12] Cx Cx Cx Cx Cx rfl ⟨b10.cell,b9.cell,bN.cell,bD.cell⟩ ?_;replace bN:Boxed W.drew w.heap.size 3 (.int .i64 (lb.length:Int)):=bN;replace bD:Boxed W.drew Bd 47 (.slice (some ⟨g2,0,none⟩) lb.length (lb.length+1)):=bD;replace b9:Boxed W.drew B9 47 (.slice (some ⟨g1,0,none⟩) (la.length+1) (la.length+1)):=b9;replace b10:Boxed W.drew B10 47 (.slice (some ⟨g3,0,none⟩) M M):=b10;replace bb:Boxed W.drew (B10+1) 47 (.slice (some ⟨g3,0,none⟩) M M):=bb;replace hOr:ay W.drew w.heap.size g1 (la.length+1) (la.length+1) R:=hOr;replace hOq:ay W.drew w.heap.size g3 M M Q:=hOq;replace hOd:ay W.drew w.heap.size g2 (lb.length+1) (lb.length+1) od:=hOd;replace hB:=hB.drew;have hKf:KeepsFrom W6.heap.size W W.drew:=(KeepsOthers.drew _).from _;generalize W.drew=W1 at bN bD b9 b10 bb hOr hOq hOd hB hKf ⊢;have hM:=HM.out;have hkn:(k:Int)+lb.length+1≤la.length+1:=A3
   clear hM;refine Rd.seqK_float (.slice (some ⟨g3,0,none⟩) M M) (by simp only[gA,gC];rfl) rfl rfl Cp (fun X hX=>Cy) ?_;simp only[Act.put,sA,sB,sC];refine Rd.kg (.int .i64 (k:Int)) ?_ (y:=fun X=>Ca);refine Rd.seqK_float (.slice (some ⟨g1,0,none⟩) (la.length+1) (la.length+1)) BC rfl rfl Cp (fun X hX=>by have h1:=hX.2.1;go_simp) ?_;simp only[Act.put,sA,sB,sC];refine Rd.kg (.int .i64 (k:Int)) ?_ (y:=fun X=>Ca);refine Rd.kg (.int .i64 (k:Int)) ?_ (y:=fun X=>Ca);refine Rd.seqK_float (.int .i64 (lb.length:Int)) BC rfl rfl Cp (fun X hX=>by have h1:=hX.2.2.1;go_simp) ?_;simp only[Act.put,sA,sB,sC];refine Rd.kg (.int .i64 ((k:Int)+lb.length)) ?_ (y:=fun X=>Cv);refine Rd.kg (.int .i64 ((k:Int)+lb.length+1)) ?_ (y:=fun X=>Cv);refine Rd.kg (.slice (some ⟨g1,k,none⟩) (lb.length+1) (la.length+1 - k)) ?_ (y:=fun X=>by go_simp;rw[if_pos A3,if_pos A3,if_neg A3,show ((k:Int)+lb.length+1).toNat - k=lb.length+1 by omega]);refine Rd.seqK_float (.slice (some ⟨g2,0,none⟩) lb.length (lb.length+1)) BC rfl rfl Cp (fun X hX=>by have h1:=hX.2.2.2;go_simp) ?_;simp only[Act.put,sA,sB,sC];refine Rd.seqK_move BC rfl rfl Cp (fun K hK=>?_);go_simp;refine(H65.out W1 hOr hOd).mono ?_;rintro e W2 ⟨q,R',rfl,hOr2,hLI,hF⟩;have HLI2:=Hd (Hd hLI);clear hLI;replace hOq:ay W2 w.heap.size g3 M M Q:=hF.owns hOq n2;replace hOd:ay W2 w.heap.size g2 (lb.length+1) (lb.length+1) od:=hF.owns hOd n1;replace bN:=hF.boxed bN A3;replace bD:=hF.boxed bD n3;replace b9:=hF.boxed b9 A3;replace b10:=hF.boxed b10 A3;replace bb:=hF.boxed bb A3;replace hKf:KeepsFrom W6.heap.size W W2:=hKf.trans ⟨hF.size,fun i o h9 hi _=>(hF.block i (Array.getElem?_eq_some_iff.1 hi).1 A3).trans hi⟩;replace hB:Below w.heap.size w W2:=hB.trans (hF.below hB.size (fun k e=>A3));refine hK _ _ (fun _=>⟨b10.cell,b9.cell,bN.cell,bD.cell⟩) ?_;clear hF hOr;clear hK K;refine Rd.kg (.pointer (some ⟨g3,k,none⟩)) ?_ (y:=fun X=>Ca);refine Rd.seqK_move BC rfl rfl Cp (fun K hK=>?_);go_simp;have hfz:=hOq.frozen k;have hcz:=hOq.cell hk;go_simp;have hP:=Fr.put W2 ⟨g3,k,none⟩ (.int .u64 (q:Int));refine hK _ _ (fun h=>absurd h A3) ?_;refine Rd.seqK_end ?_;refine⟨hKf.trans ((KeepsOthers.setCell _ _ _).from _),Q.set k q,R',Hd ⟨HLI2.out,fun j hj=>?_⟩,hP.owns hOr2 (fun e=>n2 e.symm),hOq.set k q,hP.owns hOd (fun e=>n5 e.symm),hP.boxed bN (by show ¬w.heap.size=g3;omega),hP.boxed bD (fun e=>n6 e.symm),hP.boxed b9 (by show ¬B9=g3;omega),hP.boxed b10 (by show ¬B10=g3;omega),hP.boxed bb (by show ¬B10+1=g3;omega),hB.setCell (p:=⟨g3,k,none⟩) (by show w.heap.size≤g3;omega) _⟩;rw[Go.Dig.getD_set_ne A3];exact H.2 j A3
  case done=>
   rintro D W hD ⟨Q,R,H,hOr,hOq,hOd,bN,bD,b9,b10,bb,hB⟩ hK;have hD2:B10+2≤D:=A3
   have HE:=Hd H.1.done;have HSR:=Hd (And.intro H.1.small H.1.smallQ);have H50:=Hd (fM w.heap.size g1 (la.length+1) (la.length+1) R sc W hOr H.1.small A3 hs0 hsl);have hc9:=b9.cell;clear H bN bD bb hOd hOa hown HLI HA HD
   gi_wp2_with fail
   refine⟨trivial,?_⟩;refine(callsIn_wide.2 H50.out).mono ?_;rintro e W2 ⟨rfl,⟨R2,hOr2,hsr2,hvr2⟩,hF⟩;have HR2:=Hd (And.intro hsr2 hvr2);clear hsr2 hvr2 H50 hc9 hOr;replace hOq:ay W2 w.heap.size g3 M M Q:=hF.owns hOq n2;replace b9:=hF.boxed b9 A3;replace b10:=hF.boxed b10 A3;replace hK:=(hF.block D (Array.getElem?_eq_some_iff.1 hK).1 A3).trans hK;replace hB:Below w.heap.size w W2:=hB.trans (hF.below hB.size (fun k e=>A3));clear hF;obtain⟨qa,qc,hqe,hqr⟩:=df hOq.row;obtain⟨ra,rc,hre,hrr⟩:=df hOr2.row;have eq1:bq Q=L (V la / V lb):=by
    rw[d6 HSR.2];have h9:=HE.1;rw[Nat.mul_comm sc,Nat.mul_comm sc,(iW hs0).1] at h9;exact congrArg L h9
   have er1:bq R2=L (V la % V lb):=by
    rw[d6 HR2.1,HR2.2];have h9:=HE.2;have h8:=(iW (N:=V la) (y:=V lb) hs0).2;rw[Nat.mul_comm sc,Nat.mul_comm sc] at h9;rw[←h8];exact congrArg (fun z=>L (z / sc)) h9
   have hol:=hOq.len;have hol2:=hOr2.len;have H38:=fun(X:World) (h:aH X (.slice (some ⟨g3,0,none⟩) Q.length M) Q)=>b7 (some ⟨g3,0,none⟩) M Q X h A3
   have H39:=fun(X:World) (h:aH X (.slice (some ⟨g1,0,none⟩) R2.length (la.length+1)) R2)=>b7 (some ⟨g1,0,none⟩) (la.length+1) R2 X h A3
   rw[hol,hqe] at H38;rw[hol2,hre] at H39;rw[eq1] at hqr H38;rw[er1] at hrr H39;have HH38:=Hd H38;have HH39:=Hd H39;clear H38 H39 hol hol2 eq1 er1 hqe hre HE HSR HR2
   gi_wp2_with fail
   refine wpIn_wide.2 (Rd.regionK (fun X=>X.cell? ⟨B10,0,none⟩=some (.slice (some ⟨g3,0,none⟩) M M)∧X.cell? ⟨B9,0,none⟩=some (.slice (some ⟨g1,0,none⟩) (la.length+1) (la.length+1))) 5 [4] [0,2] [0,2,1,3,4,5] Cx Cx Cx Cx rfl ⟨b10.cell,b9.cell⟩ ?_);replace b9:Boxed W2.drew B9 47 (.slice (some ⟨g1,0,none⟩) (la.length+1) (la.length+1)):=b9;replace b10:Boxed W2.drew B10 47 (.slice (some ⟨g3,0,none⟩) M M):=b10;replace hOr2:ay W2.drew w.heap.size g1 (la.length+1) (la.length+1) R2:=hOr2;replace hOq:ay W2.drew w.heap.size g3 M M Q:=hOq;replace hqr:aH W2.drew (.slice qa (L (V la / V lb)).length qc) (L (V la / V lb)):=hqr;replace hrr:aH W2.drew (.slice ra (L (V la % V lb)).length rc) (L (V la % V lb)):=hrr;replace hK:W2.drew.heap[D]? =some (.deferred (some [])):=hK;replace hB:=hB.drew;generalize W2.drew=W3 at b9 b10 hOr2 hOq hqr hrr hK hB ⊢;refine Rd.seqK_float (.slice (some ⟨g3,0,none⟩) M M) (by simp only[gA,gC];rfl) rfl rfl Cp (fun X hX=>Cy) ?_;simp only[Act.put,sA,sB,sC];refine Rd.seqK_float (.slice (some ⟨g1,0,none⟩) (la.length+1) (la.length+1)) BC rfl rfl Cp (fun X hX=>by have h1:=hX.2;go_simp) ?_;simp only[Act.put,sA,sB,sC];refine Rd.seqK_move BC rfl rfl Cp (fun K hK0=>?_);go_simp;have hK1:=hK0;refine(HH38.out W3 hOq.row).mono ?_;rintro e W4 ⟨rfl,hb⟩;have hF:=Fr.of_below (G:=fun _=>False) hb;replace b9:=hF.boxed b9 (fun h=>h);replace b10:=hF.boxed b10 (fun h=>h);replace hOr2:ay W4 w.heap.size g1 (la.length+1) (la.length+1) R2:=hF.owns hOr2 (fun h=>h);replace hqr:=hqr.below hb;replace hrr:=hrr.below hb;replace hK:=(hb.block D (Array.getElem?_eq_some_iff.1 hK).1).trans hK;replace hB:Below w.heap.size w W4:=hB.tr hb;refine hK1 _ _ (fun _=>⟨b10.cell,b9.cell⟩) ?_;clear hF hb hOq;clear hK1;clear hK0 K;refine Rd.seqK_move BC rfl rfl Cp (fun K hK0=>?_);go_simp;have hK1:=hK0;refine(HH39.out W4 hOr2.row).mono ?_;rintro e W5 ⟨rfl,hb⟩;have hF:=Fr.of_below (G:=fun _=>False) hb;replace b9:=hF.boxed b9 (fun h=>h);replace b10:=hF.boxed b10 (fun h=>h);replace hOr2:ay W5 w.heap.size g1 (la.length+1) (la.length+1) R2:=hF.owns hOr2 (fun h=>h);replace hqr:=hqr.below hb;replace hrr:=hrr.below hb;replace hK:=(hb.block D (Array.getElem?_eq_some_iff.1 hK).1).trans hK;replace hB:Below w.heap.size w W5:=hB.tr hb;refine hK1 _ _ (fun _=>⟨b10.cell,b9.cell⟩) ?_;clear hF hb;clear hK1;clear hK0 K;refine Rd.kg (.slice qa (L (V la / V lb)).length qc) ?_ (y:=fun X=>Ca);refine Rd.seqK_move BC rfl rfl Cp (fun K hK0=>?_);go_simp;refine hK0 _ _ (fun h=>absurd h A3) ?_;refine Rd.seqK_end ?_
   gi_wp2_with fail
   refine⟨B4,.inl ⟨_,_,rfl,run_takeDeferred hK,?_⟩⟩;have hr9: ∀r,some D=some r→∃o:Obj,W5.heap[r]? =some o∧o.isCells=false:=fun r e=>by cases e;exact⟨_,hK,rfl⟩
   have hqr9:=hqr.keep (grownBy_putObj' W5 D (.deferred none)) hr9;have hrr9:=hrr.keep (grownBy_putObj' W5 D (.deferred none)) hr9;refine⟨.tuple #[.slice qa (L (V la / V lb)).length qc,.slice ra (L (V la % V lb)).length rc],?_,_,_,rfl,hqr9,hrr9,hB.trans (belowK_b (w:=w) lr W5 D _ _ A3 hK rfl rfl)⟩;simp[results,Tryz.f114,go_sem]
theorem oq (v1 v2:Value) (a b:Nat) (w:World) (h1:aH w v1 (L a)) (h2:aH w v2 (L b)) (hl1:(L a).length≤1000) (hn:2≤(L b).length) (hnm:(L b).length≤(L a).length):
  Calls Tryz.prog 114 #[v1,v2] w fun e w'=>∃q r,e= .returned (.tuple #[q,r])∧aH w' q (L (a / b))∧aH w' r (L (a % b))∧Below w.heap.size w w':=by
 obtain⟨ad2,cap2,rfl,hc2,-⟩:=id h2;obtain⟨b2,o2,rfl,hb2,c2⟩:=h2.cell (j:=(L b).length - 1) A3;have hb0:b≠0:=fun e=>by rw[e,show L 0=[] from rfl] at hn;simp at hn
 have hbig:18446744073709551616 ^ ((L b).length - 1)≤b:=gh A3 hb0;have hblt:b<18446744073709551616 ^ (L b).length:=eM A3 b;have halt:a<18446744073709551616 ^ (L a).length:=eM A3 a;have hvb:=V_L b;have e1:=br (B:=18446744073709551616) (L b) ((L b).length - 1) A3;rw[bY _ _ A3,show (L b).length - 1+1=(L b).length by omega,List.drop_length] at e1;have hy:=(bH b).getD A3 ((L b).length - 1);have ht:=d9 (B:=18446744073709551616) A3 ((L b).take ((L b).length - 1)) ((bH b).take _);rw[List.length_take,Nat.min_eq_left A3] at ht;change val _ _=b at hvb;rw[hvb] at e1;generalize (L b).getD ((L b).length - 1) 0=y at c2 e1 hy;simp only[val,Nat.mul_zero,Nat.add_zero] at e1;generalize val 18446744073709551616 ((L b).take ((L b).length - 1))=tl at e1 ht;obtain⟨p,hp⟩: ∃p,p=18446744073709551616 ^ ((L b).length - 1):=⟨_,rfl⟩
 have hpp:18446744073709551616 ^ (L b).length=p*18446744073709551616:=by rw[hp,←Nat.pow_succ];congr 1;omega
 rw[←hp] at e1 ht hbig;have hy0:y≠0:=by rintro rfl;omega
 obtain⟨s,hs⟩: ∃s,s+Lib.bitLen y=64:=⟨64 - Lib.bitLen y,by have:=lQ hy;omega⟩
 obtain⟨g1,g2,g3⟩:=ko hy0 hy hs;have hs0:0<2 ^ s:=Nat.pow_pos A3;have hsl:2 ^ s<18446744073709551616:=by
  have:2 ^ s≤2 ^ 63:=Nat.pow_le_pow_right A3 g3;omega
 have hd:2 ^ s*b<18446744073709551616 ^ (L b).length:=by
  rw[hpp,e1];have h3:y*2 ^ s+2 ^ s≤18446744073709551616:=by
   rw[show 18446744073709551616=2 ^ (64 - s)*2 ^ s by rw[←Nat.pow_add,show 64 - s+s=64 by omega]] at g2 ⊢;have:=Nat.lt_of_mul_lt_mul_right g2;have:=Nat.mul_le_mul_right (2 ^ s) this;rw[Nat.succ_mul] at this;exact this
  have h4:2 ^ s*tl<2 ^ s*p:=Nat.mul_lt_mul_of_pos_left ht hs0;have h5:=Nat.mul_le_mul_left p h3;rw[Nat.mul_add] at h5;rw[Nat.mul_add,Nat.mul_left_comm];have h6:p*(2 ^ s*y)=p*(y*2 ^ s):=by rw[Nat.mul_comm (2 ^ s)]
  have h7:2 ^ s*p=p*2 ^ s:=Nat.mul_comm _ _;omega
 refine(nm v1 b2 o2 cap2 y s (2 ^ s) (L a) (L b) w h1 h2 (bH a) (bH b) hl1 hn hnm hb2 c2 hy hs ?_ hsl hs0 (by rw[V_L];exact hd) (by rw[V_L];omega) ?_).mono ?_
 ·rw[Nat.min_eq_left A3,IntKind.wrap_u64];have:((2 ^ s:Nat):Int)=2 ^ s:=B4
  rw[←this];omega
 ·rw[V_L,V_L,Nat.mul_left_comm];refine Nat.mul_lt_mul_of_pos_left ?_ hs0;refine Nat.lt_of_lt_of_le halt ?_;refine Nat.le_trans ?_ (Nat.mul_le_mul_left _ hbig);rw[hp,←Nat.pow_add];exact Nat.pow_le_pow_right A3 A3
 ·intro e w' h;rw[V_L,V_L] at h;exact h
end Go.Proofs.YtohifgjeebhijaaGreatDoor
