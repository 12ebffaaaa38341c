/-
  What this claim needs; no condition of its own. Told short by a script from longer texts.
-/
import Derived.Test.YtohifgjeebhijaaGreatDoorWNd
import Derived.Test.YtohifgjeebhijaaGreatDoorWNg
import Derived.Test.YtohifgjeebhijaaGreatDoorWRd
import Derived.Test.YtohifgjeebhijaaGreatDoorWRq
import Derived.Deep.QuietTactic
import Derived.OwnWalk
import Derived.OwnWalkIn
import Derived.Test.YtohifgjeebhijaaGreatDoorWAl
namespace Go.Proofs.YtohifgjeebhijaaGreatDoor
open Go.RowKit Go.Dig Go.Shelf Go.Proofs
theorem len_add (a b:Nat):(L (a+b)).length≤(L a).length+(L b).length+1:=by
 rw[dig_len (by omega)]
 have h1:a<18446744073709551616 ^ (L a).length:=dig_lt (B:=18446744073709551616) (by omega) a
 have h2:b<18446744073709551616 ^ (L b).length:=dig_lt (B:=18446744073709551616) (by omega) b
 have h3:18446744073709551616 ^ (L a).length≤18446744073709551616 ^ ((L a).length+(L b).length):=Nat.pow_le_pow_right (by omega) (by omega)
 have h4:18446744073709551616 ^ (L b).length≤18446744073709551616 ^ ((L a).length+(L b).length):=Nat.pow_le_pow_right (by omega) (by omega)
 rw[Nat.pow_succ]
 omega
theorem len_mul (a b:Nat):(L (a*b)).length≤(L a).length+(L b).length:=by
 rw[dig_len (by omega),Nat.pow_add]
 have h1:a<18446744073709551616 ^ (L a).length:=dig_lt (B:=18446744073709551616) (by omega) a
 have h2:b<18446744073709551616 ^ (L b).length:=dig_lt (B:=18446744073709551616) (by omega) b
 exact Nat.mul_lt_mul'' h1 h2
theorem len_mono {a b:Nat} (h:a≤b):(L a).length≤(L b).length:=dig_mono (by omega) h
section
variable (v1 v2:Value) (a b:Nat) (w:World)
theorem add_nat (h1:RowU w v1 (L a)) (h2:RowU w v2 (L b)) (l1:(L a).length≤1000) (l2:(L b).length≤1000):
  Calls Tryz.prog 39 #[v1,v2] w fun e w'=>∃v,e= .returned v∧RowU w' v (L (a+b))∧Below w.heap.size w w':=by
 have h:=nAdd_any v1 v2 (L a) (L b) w h1 h2 (small_L a) (small_L b) (by omega) (by omega)
 rw[V_L,V_L] at h
 exact h
theorem mul_nat (h1:RowU w v1 (L a)) (h2:RowU w v2 (L b)) (l1:(L a).length≤1000) (l2:(L b).length≤1000):
  Calls Tryz.prog 40 #[v1,v2] w fun e w'=>∃v,e= .returned v∧RowU w' v (L (a*b))∧Below w.heap.size w w':=by
 have h:=nMul_any v1 v2 (L a) (L b) w h1 h2 (small_L a) (small_L b) (by omega) (by omega)
 rw[V_L,V_L] at h
 exact h
theorem cmp_nat (h1:RowU w v1 (L a)) (h2:RowU w v2 (L b)) (l1:(L a).length≤1000) (l2:(L b).length≤1000):
  Calls Tryz.prog 37 #[v1,v2] w fun e w'=>e= .returned (.int .i64 (cmpZ a b))∧Below w.heap.size w w':=by
 have h:=nCmp_any v1 v2 (L a) (L b) w h1 h2 (small_L a) (small_L b) (by omega) (by omega)
 rw[V_L,V_L] at h
 exact h
theorem sub_nat (h1:RowU w v1 (L a)) (h2:RowU w v2 (L b)) (l1:(L a).length≤1000) (hab:b≤a):
  Calls Tryz.prog 189 #[v1,v2] w fun e w'=>∃v,e= .returned (.tuple #[v,.int .i64 0])∧RowU w' v (L (a - b))∧Below w.heap.size w w':=nSub_any v1 v2 a b w h1 h2 (by omega) hab
end
end Go.Proofs.YtohifgjeebhijaaGreatDoor
namespace Go.Proofs.YtohifgjeebhijaaGreatDoor
set_option maxRecDepth 100000
set_option maxHeartbeats 4000000
open Go.RowKit Go.Dig Go.Shelf Go.Proofs
theorem ntrim_nat (v:Value) (a:Nat) (w:World) (h:RowU w v (L a)) (hl:(L a).length≤1000):
  Calls Tryz.prog 70 #[v] w fun e w'=>∃ad c,e= .returned (.slice ad (L a).length c)∧(a=0→ad=none∧c=0)∧RowU w' (.slice ad (L a).length c) (L a)∧Below w.heap.size w w':=by
 have R:=h
 obtain⟨ad,cap,rfl,hcap,-⟩:=h
 have et:trim (L a)=L a:=by rw[trim_L (small_L a),V_L]
 refine(nTrim_any ad cap (L a) w R (by omega)).mono ?_
 rintro e w' ⟨rfl,hb⟩
 unfold trimV
 rw[et]
 by_cases h0:L a=[]
 ·rw[if_pos h0,h0]
  exact⟨none,0,rfl,fun _=>⟨rfl,rfl⟩,⟨_,_,rfl,Nat.le_refl _,fun h=>absurd rfl h⟩,hb⟩
 ·rw[if_neg h0]
  exact⟨ad,cap,rfl,fun e=>absurd ((dig_nil (by omega) a).2 e) h0,R.below hb,hb⟩
theorem clone_nat (ad:Option Addr) (c a n:Nat) (w:World) (hn:n=(L a).length) (h:RowU w (.slice ad n c) (L a)) (h0:a=0→ad=none∧c=0) (hl:(L a).length≤1000):
  Calls Tryz.prog 92 #[.slice ad n c] w fun e w'=>∃v,e= .returned v∧RowU w' v (L a)∧Below w.heap.size w w':=by
 subst hn
 by_cases ha:a=0
 ·obtain⟨rfl,rfl⟩:=h0 ha
  subst ha
  refine(Clone_nil w).mono ?_
  rintro e w' ⟨rfl,rfl⟩
  exact⟨_,rfl,h,Below.refl _ _⟩
 ·refine(Clone_any _ (L a) w h (fun e=>ha ((dig_nil (by omega) a).1 e)) (by omega)).mono ?_
  rintro e w' ⟨g,cap,rfl,hO,hb⟩
  exact⟨_,rfl,hO.row,hb⟩
theorem len_pos {a:Nat} (h:a≠0):0<(L a).length:=List.length_pos_iff.2 (fun e=>h ((dig_nil (by omega) a).1 e))
theorem len_one {b:Nat} (h0:b≠0) (h:(L b).length=1):b<18446744073709551616∧(L b).getD 0 0=b:=by
 have h1:b<18446744073709551616 ^ 1:=(dig_len (by omega) b 1).1 (Nat.le_of_eq h)
 rw[Nat.pow_one] at h1
 refine⟨h1,?_⟩
 have e:L b=b % 18446744073709551616::L (b / 18446744073709551616):=dig_step (by omega) h0
 rw[e,Nat.mod_eq_of_lt h1]
 rfl
theorem DivMod_less (v1 v2:Value) (a b:Nat) (w:World) (h1:RowU w v1 (L a)) (h2:RowU w v2 (L b)) (l1:(L a).length≤1000) (l2:(L b).length≤1000) (hb:b≠0) (hab:a<b):
  Calls Tryz.prog 76 #[v1,v2] w fun e w'=>∃q r,e= .returned (.tuple #[q,r,.int .i64 0])∧RowU w' q (L (a / b))∧RowU w' r (L (a % b))∧Below w.heap.size w w':=by
 have R1:=Lib.hid h1
 have R2:=Lib.hid h2
 clear h1 h2
 obtain⟨na,hna⟩: ∃na,na=(L a).length:=⟨_,rfl⟩
 obtain⟨nb,hnb⟩: ∃nb,nb=(L b).length:=⟨_,rfl⟩
 have HNA:=Lib.hid hna
 have HNB:=Lib.hid hnb
 have hz:0<nb:=by rw[hnb];exact len_pos hb
 have HAB:=Lib.hid hab
 clear hb hab
 clear hna hnb
 have H38:=ntrim_nat v1 a w R1.out (by have:=HNA.out;omega)
 rw[←HNA.out] at H38
 have HH:=Lib.hid H38
 clear H38
 go_enter Tryz.func76,Tryz.ntmps76
 go_wp2_with fail
 refine HH.out.mono ?_
 rintro e w1 ⟨ad1,c1,rfl,z1,r1,hb1⟩
 have Z1:=Lib.hid z1
 clear z1 HH
 have H38:=ntrim_nat v2 b w1 (R2.out.below hb1) (by have:=HNB.out;omega)
 rw[←HNB.out] at H38
 have HH:=Lib.hid H38
 clear H38
 go_wp2_with fail
 refine HH.out.mono ?_
 rintro e w2 ⟨ad2,c2,rfl,z2,r2,hb2⟩
 clear HH z2
 replace r1:=r1.below hb2
 have hB:=hb1.trans (hb2.mono hb1.size)
 clear hb1 hb2
 have H22:=Lib.hid (cmp_nat (.slice ad1 na c1) (.slice ad2 nb c2) a b w2 r1 r2 (by have:=HNA.out;omega) (by have:=HNB.out;omega))
 rw[show cmpZ a b= -1 by unfold cmpZ;rw[if_pos HAB.out]] at H22
 go_wp2_with fail
 refine H22.out.mono ?_
 rintro e w3 ⟨rfl,hb⟩
 replace r1:=r1.below hb
 replace r2:=r2.below hb
 replace hB:=hB.trans (hb.mono hB.size)
 clear hb H22
 have H49:=Lib.hid (clone_nat ad1 c1 a na w3 HNA.out r1 Z1.out (by have:=HNA.out;omega))
 go_wp2_with fail
 refine H49.out.mono ?_
 rintro e w4 ⟨v,rfl,hr,hb⟩
 replace hB:=hB.trans (hb.mono hB.size)
 clear hb H49
 obtain⟨ad4,c4,rfl,-,-⟩:=id hr
 go_wp2_with fail
 go_ret3
 refine⟨_,_,rfl,?_,?_,hB⟩
 ·rw[Nat.div_eq_of_lt HAB.out];exact⟨_,_,rfl,Nat.le_refl _,fun h=>absurd rfl h⟩
 ·rw[Nat.mod_eq_of_lt HAB.out];exact hr
theorem DivMod_one (v1 v2:Value) (a b:Nat) (w:World) (h1:RowU w v1 (L a)) (h2:RowU w v2 (L b)) (l1:(L a).length≤1000) (l2:(L b).length≤1000) (hb:b≠0) (hab:b≤a) (ho:(L b).length=1):
  Calls Tryz.prog 76 #[v1,v2] w fun e w'=>∃q r,e= .returned (.tuple #[q,r,.int .i64 0])∧RowU w' q (L (a / b))∧RowU w' r (L (a % b))∧Below w.heap.size w w':=by
 have R1:=Lib.hid h1
 have R2:=Lib.hid h2
 clear h1 h2
 obtain⟨na,hna⟩: ∃na,na=(L a).length:=⟨_,rfl⟩
 obtain⟨nb,hnb⟩: ∃nb,nb=(L b).length:=⟨_,rfl⟩
 have HNA:=Lib.hid hna
 have HNB:=Lib.hid hnb
 have hz:nb=1:=by rw[hnb,ho]
 have hz2:0<na:=by rw[hna];exact len_pos (by omega)
 have HAB:=Lib.hid hab
 have HB:=Lib.hid hb
 have HO:=Lib.hid (len_one hb ho)
 clear hb hab ho
 subst hz
 clear hna hnb
 have H38:=ntrim_nat v1 a w R1.out (by have:=HNA.out;omega)
 rw[←HNA.out] at H38
 have HH:=Lib.hid H38
 clear H38
 go_enter Tryz.func76,Tryz.ntmps76
 go_wp2_with fail
 refine HH.out.mono ?_
 rintro e w1 ⟨ad1,c1,rfl,z1,r1,hb1⟩
 have Z1:=Lib.hid z1
 clear z1 HH
 have H38:=ntrim_nat v2 b w1 (R2.out.below hb1) (by have:=HNB.out;omega)
 rw[←HNB.out] at H38
 have HH:=Lib.hid H38
 clear H38
 go_wp2_with fail
 refine HH.out.mono ?_
 rintro e w2 ⟨ad2,c2,rfl,z2,r2,hb2⟩
 clear HH z2
 replace r1:=r1.below hb2
 have hB:=hb1.trans (hb2.mono hb1.size)
 clear hb1 hb2
 have H22:=Lib.hid (cmp_nat (.slice ad1 na c1) (.slice ad2 1 c2) a b w2 r1 r2 (by have:=HNA.out;omega) (by have:=HNB.out;omega))
 have hcz:0≤cmpZ a b:=by unfold cmpZ;rw[if_neg (by have:=HAB.out;omega)];split<;>omega
 generalize cmpZ a b=cz at H22 hcz
 go_wp2_with fail
 refine H22.out.mono ?_
 rintro e w3 ⟨rfl,hb⟩
 replace r1:=r1.below hb
 replace r2:=r2.below hb
 replace hB:=hB.trans (hb.mono hB.size)
 clear hb H22
 have H49:=Clone_any (.slice ad1 na c1) (L a) w3 r1 (fun e=>by have:=HNA.out;rw[e] at this;simp at this;omega) (by have:=HNA.out;omega)
 rw[←HNA.out] at H49
 have HH:=Lib.hid H49
 clear H49
 go_wp2_with fail
 refine HH.out.mono ?_
 rintro e w4 ⟨g,cap,rfl,hO,hb⟩
 replace r2:=r2.below hb
 have hws:=hB.size
 replace hB:=hB.trans (hb.mono hB.size)
 have hgw:=hO.lt
 clear HH
 obtain⟨b2,o2,rfl,hb2,cc⟩:=r2.cell (j:=0) (by have:=HNB.out;omega)
 rw[HO.out.2,Nat.add_zero] at cc
 have H50:=Lib.hid (divLimb_any w3.heap.size g na cap (L a) b w4 hO (small_L a) (by have:=HNA.out;omega) (by have:=HB.out;omega) HO.out.1)
 clear hO hb r1
 go_wp2_with fail
 refine H50.out.mono ?_
 rintro e w5 ⟨rfl,⟨Q,hOq,hsq,hvq⟩,hF⟩
 rw[V_L] at hvq ⊢
 have HVQ:=Lib.hid (And.intro hsq hvq)
 replace hB:Below w.heap.size w w5:=hB.trans (hF.below hB.size (fun k e=>by omega))
 clear H50 hF hsq hvq cc r2
 obtain⟨qa,qc,hqe,hqr⟩:=trimV_slice hOq.row
 have eq1:trim Q=L (a / b):=by rw[trim_L HVQ.out.1,HVQ.out.2]
 have hol:=hOq.len
 have H38:=nTrim_any (some ⟨g,0,none⟩) cap Q w5 (by rw[hol];exact hOq.row) (by have:=HNA.out;omega)
 rw[hol,hqe] at H38
 rw[eq1] at H38 hqr
 have HH:=Lib.hid H38
 clear H38 hol hqe eq1 hOq
 have hmb:a % b<18446744073709551616:=Nat.lt_trans (Nat.mod_lt _ (Nat.pos_of_ne_zero HB.out)) HO.out.1
 obtain⟨mm,hmm⟩: ∃mm,mm=a % b:=⟨_,rfl⟩
 have HMM:=Lib.hid hmm
 rw[←hmm] at hmb ⊢
 clear hmm
 go_wp2_with fail
 refine HH.out.mono ?_
 rintro e w6 ⟨rfl,hb⟩
 replace hqr:=hqr.below hb
 replace hB:=hB.trans (hb.mono hB.size)
 clear hb HH
 have H17:=Lib.hid (nOf_any mm w6 hmb)
 go_wp2_with fail
 refine H17.out.mono ?_
 rintro e w7 ⟨v,rfl,hr,hb⟩
 replace hqr:=hqr.below hb
 replace hB:=hB.trans (hb.mono hB.size)
 obtain⟨ad7,c7,rfl,-,-⟩:=id hr
 clear hb H17
 go_wp2_with fail
 go_ret3
 exact⟨_,_,rfl,hqr,by rw[←HMM.out];exact hr,hB⟩
theorem DivMod_long (v1 v2:Value) (a b:Nat) (w:World) (h1:RowU w v1 (L a)) (h2:RowU w v2 (L b)) (l1:(L a).length≤1000) (l2:(L b).length≤1000) (hb:b≠0) (hab:b≤a) (ho:(L b).length≠1):
  Calls Tryz.prog 76 #[v1,v2] w fun e w'=>∃q r,e= .returned (.tuple #[q,r,.int .i64 0])∧RowU w' q (L (a / b))∧RowU w' r (L (a % b))∧Below w.heap.size w w':=by
 have R1:=Lib.hid h1
 have R2:=Lib.hid h2
 clear h1 h2
 obtain⟨na,hna⟩: ∃na,na=(L a).length:=⟨_,rfl⟩
 obtain⟨nb,hnb⟩: ∃nb,nb=(L b).length:=⟨_,rfl⟩
 have HNA:=Lib.hid hna
 have HNB:=Lib.hid hnb
 have hz:2≤nb:=by have:=len_pos hb;omega
 have hz2:nb≤na:=by have:=len_mono hab;omega
 have HAB:=Lib.hid hab
 clear hb hab ho
 clear hna hnb
 have H38:=ntrim_nat v1 a w R1.out (by have:=HNA.out;omega)
 rw[←HNA.out] at H38
 have HH:=Lib.hid H38
 clear H38
 go_enter Tryz.func76,Tryz.ntmps76
 go_wp2_with fail
 refine HH.out.mono ?_
 rintro e w1 ⟨ad1,c1,rfl,z1,r1,hb1⟩
 have Z1:=Lib.hid z1
 clear z1 HH
 have H38:=ntrim_nat v2 b w1 (R2.out.below hb1) (by have:=HNB.out;omega)
 rw[←HNB.out] at H38
 have HH:=Lib.hid H38
 clear H38
 go_wp2_with fail
 refine HH.out.mono ?_
 rintro e w2 ⟨ad2,c2,rfl,z2,r2,hb2⟩
 clear HH z2
 replace r1:=r1.below hb2
 have hB:=hb1.trans (hb2.mono hb1.size)
 clear hb1 hb2
 have H22:=Lib.hid (cmp_nat (.slice ad1 na c1) (.slice ad2 nb c2) a b w2 r1 r2 (by have:=HNA.out;omega) (by have:=HNB.out;omega))
 have hcz:0≤cmpZ a b:=by unfold cmpZ;rw[if_neg (by have:=HAB.out;omega)];split<;>omega
 generalize cmpZ a b=cz at H22 hcz
 go_wp2_with fail
 refine H22.out.mono ?_
 rintro e w3 ⟨rfl,hb⟩
 replace r1:=r1.below hb
 replace r2:=r2.below hb
 replace hB:=hB.trans (hb.mono hB.size)
 clear hb H22
 have H51:=Lib.hid (divLong_any (.slice ad1 na c1) (.slice ad2 nb c2) a b w3 r1 r2 (by have:=HNA.out;omega) (by have:=HNB.out;omega) (by have:=HNB.out;have:=HNA.out;omega))
 have hnb1:((nb:Int)==1)=false:=by rw[beq_eq_false_iff_ne];omega
 go_wp2_with fail
 refine H51.out.mono ?_
 rintro e w4 ⟨q,r,rfl,hq,hr,hb⟩
 replace hB:=hB.trans (hb.mono hB.size)
 obtain⟨ad7,c7,rfl,-,-⟩:=id hq
 obtain⟨ad8,c8,rfl,-,-⟩:=id hr
 clear hb H51
 go_wp2_with fail
 go_ret3
 exact⟨_,_,rfl,hq,hr,hB⟩
theorem divmod_nat (v1 v2:Value) (a b:Nat) (w:World) (h1:RowU w v1 (L a)) (h2:RowU w v2 (L b)) (l1:(L a).length≤1000) (l2:(L b).length≤1000) (hb:b≠0):
  Calls Tryz.prog 76 #[v1,v2] w fun e w'=>∃q r,e= .returned (.tuple #[q,r,.int .i64 0])∧RowU w' q (L (a / b))∧RowU w' r (L (a % b))∧Below w.heap.size w w':=by
 by_cases hab:a<b
 ·exact DivMod_less v1 v2 a b w h1 h2 l1 l2 hb hab
 ·by_cases ho:(L b).length=1
  ·exact DivMod_one v1 v2 a b w h1 h2 l1 l2 hb (by omega) ho
  ·exact DivMod_long v1 v2 a b w h1 h2 l1 l2 hb (by omega) ho
end Go.Proofs.YtohifgjeebhijaaGreatDoor
namespace Go.Proofs.YtohifgjeebhijaaGreatDoor
open Go.RowKit Go.Dig Go.Shelf Go.Proofs
theorem gcd_nat (v1 v2:Value) (a b:Nat) (w:World) (h1:RowU w v1 (L a)) (h2:RowU w v2 (L b)) (l1:(L a).length≤1000) (l2:(L b).length≤1000):
  Calls Tryz.prog 75 #[v1,v2] w fun e w'=>∃v,e= .returned v∧RowU w' v (L (Nat.gcd a b))∧Below w.heap.size w w':=by
 have R1:=Lib.hid h1
 have R2:=Lib.hid h2
 have HLL:=Lib.hid (And.intro l1 l2)
 have HT:=Lib.hid (ntrim_nat v1 a w h1 l1)
 clear h1 h2 l1 l2
 go_enter Tryz.func75,Tryz.ntmps75
 go_wp2_with fail
 refine HT.out.mono ?_
 rintro e w1 ⟨ad1,c1,rfl,z1,r1,hb1⟩
 have Z1:=Lib.hid z1
 clear z1 HT
 have HT:=Lib.hid (ntrim_nat v2 b w1 (R2.out.below hb1) HLL.out.2)
 go_wp2_with fail
 refine HT.out.mono ?_
 rintro e w2 ⟨ad2,c2,rfl,z2,r2,hb2⟩
 clear HT z2
 replace r1:=r1.below hb2
 have hB:=hb1.trans (hb2.mono hb1.size)
 clear hb1 hb2
 go_wp2_with fail
 go_loopg [0,1] b (fun k A B wr=>∃(x:Nat) (ad1 ad2:Option Addr) (c1 c2 n1 n2:Nat),A= .slice ad1 n1 c1∧B= .slice ad2 n2 c2∧Hid (n1=(L x).length∧n2=(L k).length∧(x=0→ad1=none∧c1=0)∧Nat.gcd x k=Nat.gcd a b∧(L x).length≤1000∧(L k).length≤1000)∧RowU wr (.slice ad1 n1 c1) (L x)∧RowU wr (.slice ad2 n2 c2) (L k)∧Below w.heap.size w wr)
 case atStart=>exact⟨a,ad1,ad2,c1,c2,_,_,rfl,rfl,Lib.hid ⟨rfl,rfl,Z1.out,rfl,HLL.out.1,HLL.out.2⟩,r1,r2,hB⟩
 case round=>
  clear r1 r2 hB Z1 R1 R2
  obtain⟨x,ad1,ad2,c1,c2,n1,n2,rfl,rfl,HI,r1,r2,hB⟩:=hrel
  by_cases hk:gk=0
  ·have hz:n2=0:=by rw[HI.out.2.1,hk];rfl
   subst hz
   have HE:Hid (Nat.gcd a b=x):=Lib.hid (by rw[←HI.out.2.2.2.1,hk,Nat.gcd_zero_right])
   have H49:=Lib.hid (clone_nat ad1 c1 x n1 wr HI.out.1 r1 HI.out.2.2.1 HI.out.2.2.2.2.1)
   clear hk
   go_wp2_with fail
   refine H49.out.mono ?_
   rintro e w4 ⟨v,rfl,hr,hb⟩
   obtain⟨ad4,c4,rfl,-,-⟩:=id hr
   replace hB:=hB.trans (hb.mono hB.size)
   go_wp2_with fail
   go_ret
   exact⟨_,rfl,by rw[HE.out];exact hr,hB⟩
  ·have hz:0<n2:=by rw[HI.out.2.1];exact len_pos hk
   have H29:=Lib.hid (divmod_nat (.slice ad1 n1 c1) (.slice ad2 n2 c2) x gk wr r1 r2 HI.out.2.2.2.2.1 HI.out.2.2.2.2.2 hk)
   have HLT:Hid (x % gk<gk):=Lib.hid (Nat.mod_lt _ (Nat.pos_of_ne_zero hk))
   have hz2:((n2:Int)>0):=by omega
   have HK:=Lib.hid hk
   clear hk
   go_wp2_with fail
   refine H29.out.mono ?_
   rintro e w3 ⟨q,r,rfl,hq,hr,hb⟩
   obtain⟨ad3,c3,rfl,-,-⟩:=id hq
   obtain⟨ad4,c4,rfl,-,-⟩:=id hr
   replace r2:=r2.below hb
   replace hB:=hB.trans (hb.mono hB.size)
   have HI2:Hid (Hid (n2=(L gk).length∧(L (x % gk)).length=(L (x % gk)).length∧(gk=0→ad2=none∧c2=0)∧Nat.gcd gk (x % gk)=Nat.gcd a b∧(L gk).length≤1000∧(L (x % gk)).length≤1000)):=Lib.hid (Lib.hid ⟨HI.out.2.1,rfl,fun e=>absurd e HK.out,by rw[←HI.out.2.2.2.1,←gcd_step],HI.out.2.2.2.2.2,Nat.le_trans (len_mono (Nat.le_of_lt HLT.out)) HI.out.2.2.2.2.2⟩)
   clear hb H29 HI r1 hq
   go_wp2_with fail
   go_roundg (x % gk)
   case measure=>exact HLT.out
   case rel=>exact⟨gk,ad2,ad4,c2,c4,_,_,rfl,rfl,Lib.hid ⟨HI2.out.out.1,rfl,HI2.out.out.2.2⟩,r2,hr,hB⟩
end Go.Proofs.YtohifgjeebhijaaGreatDoor
namespace Go.Proofs.YtohifgjeebhijaaGreatDoor
open Go.RowKit Go.Dig Go.Shelf Go.Proofs
abbrev Own32 (w:World) (base g n cap:Nat) (l:List Nat):Prop:=w.ownsRow base 3 1 (.slice (some ⟨g,0,none⟩) n cap) n (l.map encN)
theorem Own32.cell {w:World} {base g n cap:Nat} {l:List Nat} (h:Own32 w base g n cap l) {j:Nat} (hj:j<n):w.cell? ⟨g,j,none⟩=some (.int .i64 (l.getD j 0:Nat)):=by
 have hl:l.length=n:=by have:=h.1;simpa using this
 rw[h.cellAt j (by omega)]
 simp[List.getD,show j<l.length by omega,encN]
theorem Own32.set {w:World} {base g n cap:Nat} {l:List Nat} (h:Own32 w base g n cap l) (j x:Nat):Own32 (w.setCell ⟨g,j,none⟩ (.int .i64 (x:Int))) base g n cap (l.set j x):=by
 have h1:=(h.stored j (.int .i64 (x:Int))).1
 rw[show (.int .i64 (x:Int):Value)=encN x from rfl,←List.map_set] at h1
 exact h1
theorem Own32.below {w w':World} {base g n cap:Nat} {l:List Nat} (h:Own32 w base g n cap l) (hb:Below w.heap.size w w'):Own32 w' base g n cap l:=(Fr.of_below (G:=fun _=>False) hb).owns h (fun h=>h)
theorem Own32.row {w:World} {base g n cap:Nat} {l:List Nat} (h:Own32 w base g n cap l):Row w (.slice (some ⟨g,0,none⟩) n cap) l:=by
 have hl:l.length=n:=by have:=h.1;simpa using this
 subst hl
 exact Row.of_owns h
theorem append_left (w:World) (g x n c:Nat) (ad:Option Addr) (l:List Nat) (hO:Own32 w g g 1 1 [x]) (hr:Row w (.slice ad n c) l) (hn:n=l.length) (hl:l.length≤100000):
  ∃v' w',(Builtin.append_ #[51,51] 51 #[.slice (some ⟨g,0,none⟩) 1 1,.slice ad n c]).run Tryz.prog w= .ok v' w'∧(∃g' c',v'= .slice (some ⟨g',0,none⟩) (x::l).length c'∧g≤g')∧Row w' v' (x::l)∧w.grownBy w' (some g):=by
 obtain⟨i0,hi,hz0,hz1,hz2⟩:=info_parts Tryz.info3
 subst hn
 have hgw:=(World.ownsRow.lt hO g rfl).2
 obtain⟨ad',c',e,hc,h2⟩:=hr
 cases e
 cases ad with
 | none=>
  have h0:l=[]:=by
   apply Classical.byContradiction
   intro hne
   obtain⟨b,off,e,_⟩:=h2 hne
   cases e
  subst h0
  refine⟨.slice (some ⟨g,0,none⟩) 1 1,w,?_,⟨g,1,rfl,Nat.le_refl _⟩,hO.row,World.grownBy.refl _ _⟩
  simp[Builtin.append_,run_underlying Tryz.underlying51,sizeOf,typeInfo,hi,Builtin.lenOf,Builtin.firstCells,storeCells]
 | some ad=>
  have hnews: ∀(j:Nat) (u:Value),(l.map encN)[j]? =some u→w.cell? (Addr.add ad j)=some u:=by
   intro j u hu
   have hj:j<l.length:=by have:=(List.getElem?_eq_some_iff.1 hu).1;simpa using this
   obtain⟨b,off,e,hb,hcell⟩:=h2 (by rintro rfl;simp at hj)
   cases e
   rw[Addr.add_lit,hcell j hj]
   simp[hj,encN] at hu
   rw[←hu]
   simp[List.getD,hj]
  obtain⟨v',w',hrun,h4,h5,_⟩:=run_append_own (P:=Tryz.prog) w g 51 51 3 i0 (.int .i64 0) 1 8 Tryz.underlying51 hi hz0 hz1 hz2 rfl (by decide) _ 1 _ hO ad l.length c (l.map encN) (by simp) hnews
   (fun u hu=>by simp[encN] at hu;obtain⟨x,_,rfl⟩:=hu;rfl) (by unfold maxLen;omega) (by omega) (by omega)
  obtain⟨g',c',e'⟩:=owns_form h4 (by omega)
  have hgg:=(World.ownsRow.lt h4 g' (by rw[e'];rfl)).1
  refine⟨v',w',hrun,⟨g',c',by rw[e',List.length_cons,Nat.add_comm],hgg⟩,?_,h5⟩
  refine Row.of_owns (B:=g) ?_
  rw[List.length_cons,Nat.add_comm]
  exact h4
end Go.Proofs.YtohifgjeebhijaaGreatDoor
namespace Go.Proofs.YtohifgjeebhijaaGreatDoor
open Go.RowKit Go.Dig Go.Shelf Go.Proofs
end Go.Proofs.YtohifgjeebhijaaGreatDoor
namespace Go.Proofs.YtohifgjeebhijaaGreatDoor
set_option maxRecDepth 100000
set_option maxHeartbeats 4000000
open Go.RowKit Go.Dig Go.Shelf Go.Proofs
def Pair (w:World) (B:Nat) (t:TypeId) (x y:Value):Prop:=w.heap[B]? =some (.cells #[x,y] t)
section
variable {w w':World} {B C:Nat} {t:TypeId} {x y:Value}
theorem Pair.new (w:World) (t:TypeId) (x y:Value):Pair (w.alloc (.cells #[x,y] t)) w.heap.size t x y:=World.alloc_heap_new w _
theorem Pair.lt (h:Pair w B t x y):B<w.heap.size:=(Array.getElem?_eq_some_iff.1 h).1
theorem Pair.c0 (h:Pair w B t x y):w.cell? ⟨B,0,none⟩=some x:=by simp[World.cell?,show w.heap[B]? =_ from h]
theorem Pair.c1 (h:Pair w B t x y):w.cell? ⟨B,1,none⟩=some y:=by simp[World.cell?,show w.heap[B]? =_ from h]
theorem Pair.z0 (h:Pair w B t x y):w.frozen? ⟨B,0,none⟩=false:=by simp[World.frozen?,show w.heap[B]? =_ from h]
theorem Pair.z1 (h:Pair w B t x y):w.frozen? ⟨B,1,none⟩=false:=by simp[World.frozen?,show w.heap[B]? =_ from h]
theorem Pair.below (h:Pair w B t x y) (hb:Below w.heap.size w w'):Pair w' B t x y:=(hb.block B h.lt).trans h
theorem Pair.alloc (h:Pair w B t x y) (o:Obj):Pair (w.alloc o) B t x y:=(Below.heap_alloc _ _ _ h.lt).trans h
theorem cell_set (w:World) (B k:Nat) (x:Value) (o:Obj) (c:Array Value) (e:TypeId) (z:Nat×Nat) (h:w.heap[B]? =some o) (ho:o= .cells c e z):(w.setCell ⟨B,k,none⟩ x).heap[B]? =some (.cells (c.setIfInBounds k x) e z):=by
 have hl:B<w.heap.size:=(Array.getElem?_eq_some_iff.1 h).1
 subst ho
 unfold World.setCell
 simp[Array.getElem?_modify,h]
theorem Pair.set (h:Pair w B t x y) (x' y':Value):Pair ((w.setCell ⟨B,0,none⟩ x').setCell ⟨B,1,none⟩ y') B t x' y':=by
 have h1:=cell_set w B 0 x' _ _ _ _ h rfl
 have h2:=cell_set _ B 1 y' _ _ _ _ h1 rfl
 unfold Pair
 simpa using h2
theorem Pair.other (h:Pair w C t x y) (hne:C≠B) (x' y':Value):Pair ((w.setCell ⟨B,0,none⟩ x').setCell ⟨B,1,none⟩ y') C t x y:=
 (Below.heap_setCell _ _ _ _ hne).trans ((Below.heap_setCell _ _ _ _ hne).trans h)
theorem Lim.pset {q:IntKind} {v:Value} {l:List Nat} {p r:Option Addr} {n c m d:Nat} (h:Lim q w v l) (hp:Pair w B t (.slice p n c) (.slice r m d)) (x' y':Value):Lim q ((w.setCell ⟨B,0,none⟩ x').setCell ⟨B,1,none⟩ y') v l:=by
 obtain⟨ad,cap,e,h1,h2⟩:=h
 refine⟨ad,cap,e,h1,fun hne=>?_⟩
 obtain⟨b,off,rfl,hb,hc⟩:=h2 hne
 have hbB:b≠B:=by
  rintro rfl
  have h3:=hc 0 (List.length_pos_iff.2 hne)
  simp only[World.cell?,show w.heap[b]? =_ from hp] at h3
  match off,h3 with
  | 0,h3=>simp at h3
  | 1,h3=>simp at h3
  | k+2,h3=>simp at h3
 refine⟨b,off,rfl,by simpa[World.setCell] using hb,fun j hj=>?_⟩
 rw[World.cell?_of_block (w:=w) ((Below.heap_setCell _ _ _ _ hbB).trans (Below.heap_setCell _ _ _ _ hbB)),hc j hj]
theorem Below.pset {B0:Nat} (h:Below B0 w w') (hB:B0≤B) (x' y':Value):Below B0 w ((w'.setCell ⟨B,0,none⟩ x').setCell ⟨B,1,none⟩ y'):=(h.setCell (p:=⟨B,0,none⟩) hB x').setCell (p:=⟨B,1,none⟩) hB y'
theorem Pair.drew (h:Pair w B t x y):Pair w.drew B t x y:=h
end
structure Sl where
 a:Option Addr
 n:Nat
 c:Nat
abbrev RU (w:World) (p:Sl) (x:Nat):Prop:=RowU w (.slice p.a p.n p.c) (L x)
abbrev RD (w:World) (p:Sl) (x:Nat):Prop:=Row w (.slice p.a p.n p.c) (D x)
theorem RowU.sl {w:World} {v:Value} {x:Nat} (h:RowU w v (L x)): ∃p:Sl,v= .slice p.a p.n p.c∧RU w p x:=by
 obtain⟨a,c,rfl,h1,h2⟩:=h
 exact⟨⟨a,(L x).length,c⟩,rfl,⟨a,c,rfl,h1,h2⟩⟩
theorem Row.sl {w:World} {v:Value} {x:Nat} (h:Row w v (D x)): ∃p:Sl,v= .slice p.a p.n p.c∧RD w p x:=by
 obtain⟨a,c,rfl,h1,h2⟩:=h
 exact⟨⟨a,(D x).length,c⟩,rfl,⟨a,c,rfl,h1,h2⟩⟩
theorem RU.len {w:World} {p:Sl} {x:Nat} (h:RU w p x):p.n=(L x).length:=by
 obtain⟨a,c,e,-,-⟩:=h
 cases p;cases e;rfl
theorem RD.len {w:World} {p:Sl} {x:Nat} (h:RD w p x):p.n=(D x).length:=by
 obtain⟨a,c,e,-,-⟩:=h
 cases p;cases e;rfl
theorem RU.zero {w:World} {x:Nat} (h:x=0):RowU w (.slice none 0 0) (L x):=by subst h;exact⟨_,_,rfl,Nat.le_refl _,fun h=>absurd rfl h⟩
theorem zero_eq (a:Nat):(cmpZ a 0==0)=decide (a=0):=by
 by_cases h0:a=0
 ·rw[h0,cmpZ_eq];simp
 ·rw[cmpZ_gt (by omega)];simp[h0]
theorem one_eq (a:Nat):(cmpZ a 1==0)=decide (a=1):=by
 rcases Nat.lt_trichotomy a 1 with h0 | h0 | h0
 ·rw[cmpZ_lt h0];simp;omega
 ·rw[h0,cmpZ_eq];simp
 ·rw[cmpZ_gt h0];simp;omega
theorem one_row (a:Nat) (h:a<18446744073709551616):(L a).length≤1:=(dig_len (by omega) a 1).2 (by omega)
theorem isZero_nat (v:Value) (a:Nat) (w:World) (h:RowU w v (L a)) (hl:(L a).length≤1000) (t:Bool) (ht:t=decide (a=0)):
  Calls Tryz.prog 74 #[v] w fun e w'=>e= .returned (.bool t)∧Below w.heap.size w w':=by
 have H1:=Lib.hid (cmp_nat v (.slice none 0 0) a 0 w h (RU.zero rfl) hl (by show (0:Nat)≤1000;omega))
 have HZ:=Lib.hid (zero_eq a)
 have HT:=Lib.hid ht
 clear h hl ht
 go_enter Tryz.func74,Tryz.ntmps74
 go_wp2_with fail
 refine H1.out.mono ?_
 rintro e w1 ⟨rfl,hb⟩
 generalize cmpZ a 0=z at HZ
 go_wp2_with fail
 go_ret
 exact⟨by rw[HT.out,←HZ.out];rfl,hb⟩
theorem isOne_nat (v:Value) (a:Nat) (w:World) (h:RowU w v (L a)) (hl:(L a).length≤1000) (t:Bool) (ht:t=decide (a=1)):
  Calls Tryz.prog 57 #[v] w fun e w'=>e= .returned (.bool t)∧Below w.heap.size w w':=by
 have H1:=Lib.hid (nOf_any 1 w (by omega))
 have HZ:=Lib.hid (one_eq a)
 have HT:=Lib.hid ht
 clear ht
 go_enter Tryz.func57,Tryz.ntmps57
 go_wp2_with fail
 refine H1.out.mono ?_
 rintro e w1 ⟨x,rfl,rx,hb⟩
 have H2:=Lib.hid (cmp_nat v x a 1 w1 (h.below hb) rx hl (Nat.le_trans (one_row 1 (by omega)) (by omega)))
 clear H1
 go_wp2_with fail
 refine H2.out.mono ?_
 rintro e w2 ⟨rfl,hb2⟩
 generalize cmpZ a 1=z at HZ
 go_wp2_with fail
 go_ret
 exact⟨by rw[HT.out,←HZ.out];rfl,hb.trans (hb2.mono hb.size)⟩
theorem gcd_le_r (a:Nat) {b:Nat} (h:b≠0):Nat.gcd a b≤b:=Nat.gcd_le_right a (Nat.pos_of_ne_zero h)
theorem of_nat (v0 v1:Value) (a b:Nat) (w:World) (h0:RowU w v0 (L a)) (h1:RowU w v1 (L b)) (l0:(L a).length≤500) (l1:(L b).length≤500) (hb:b≠0):
  Calls Tryz.prog 38 #[v0,v1] w fun e w'=>∃p q:Sl,e= .returned (.tuple #[.agg #[.slice p.a p.n p.c,.slice q.a q.n q.c],.int .i64 0])∧RU w' p (a / Nat.gcd a b)∧RU w' q (b / Nat.gcd a b)∧Below w.heap.size w w':=by
 have hp:=Pair.new w 49 (.slice none 0 0) (.slice none 0 0)
 have hB:Below w.heap.size w (w.alloc (.cells #[.slice none 0 0,.slice none 0 0] 49)):=(Below.refl _ w).alloc (Nat.le_refl _) _
 replace h0:=h0.below hB
 replace h1:=h1.below hB
 have H1:=Lib.hid (isZero_nat v1 b _ h1 (by omega) false (by simp[hb]))
 have HG:Hid (Nat.gcd a b≠0):=Lib.hid (fun e=>hb (Nat.eq_zero_of_gcd_eq_zero_right e))
 have HL:=Lib.hid (Nat.le_trans (len_mono (gcd_le_r a hb)) (Nat.le_trans l1 (by omega)):(L (Nat.gcd a b)).length≤1000)
 clear hb
 go_enter Tryz.func38,Tryz.ntmps38
 go_wp2_with fail
 refine H1.out.mono ?_
 rintro e w1 ⟨rfl,hb⟩
 replace h0:=h0.below hb
 replace h1:=h1.below hb
 replace hp:=hp.below hb
 replace hB:=hB.trans (hb.mono hB.size)
 clear hb H1
 have H2:=Lib.hid (gcd_nat v0 v1 a b w1 h0 h1 (by omega) (by omega))
 go_wp2_with fail
 refine H2.out.mono ?_
 rintro e w2 ⟨g,rfl,rg,hb⟩
 replace h0:=h0.below hb
 replace h1:=h1.below hb
 replace hp:=hp.below hb
 replace hB:=hB.trans (hb.mono hB.size)
 clear hb H2
 have H3:=Lib.hid (divmod_nat v0 g a (Nat.gcd a b) w2 h0 rg (by omega) HL.out HG.out)
 go_wp2_with fail
 refine H3.out.mono ?_
 rintro e w3 ⟨p,r,rfl,rp,-,hb⟩
 replace h1:=h1.below hb
 replace rg:=rg.below hb
 replace hp:=hp.below hb
 replace hB:=hB.trans (hb.mono hB.size)
 clear hb H3 h0
 obtain⟨p,rfl,rp⟩:=rp.sl
 have H4:=Lib.hid (divmod_nat v1 g b (Nat.gcd a b) w3 h1 rg (by omega) HL.out HG.out)
 go_wp2_with fail
 refine H4.out.mono ?_
 rintro e w4 ⟨q,s,rfl,rq,-,hb⟩
 replace rp:=rp.below hb
 replace hp:=hp.below hb
 replace hB:=hB.trans (hb.mono hB.size)
 clear hb H4 h1
 obtain⟨q,rfl,rq⟩:=rq.sl
 have hc0:=hp.c0
 have hc1:=hp.c1
 have hz0:=hp.z0
 have hz1:=hp.z1
 go_wp2_with fail
 clear hc0 hc1 hz0 hz1
 replace rp:=rp.pset hp (.slice p.a p.n p.c) (.slice q.a q.n q.c)
 replace rq:=rq.pset hp (.slice p.a p.n p.c) (.slice q.a q.n q.c)
 replace hp:=hp.set (.slice p.a p.n p.c) (.slice q.a q.n q.c)
 replace hB:=Below.pset hB (Nat.le_refl _) (.slice p.a p.n p.c) (.slice q.a q.n q.c)
 generalize (w4.setCell ⟨w.heap.size,0,none⟩ (.slice p.a p.n p.c)).setCell ⟨w.heap.size,1,none⟩ (.slice q.a q.n q.c)=W at rp rq hp hB ⊢
 refine bodyPost_ret (v:=.tuple #[.agg #[.slice p.a p.n p.c,.slice q.a q.n q.c],.int .i64 0]) ?_ rfl ⟨p,q,rfl,rp,rq,hB⟩
 simp[results,Tryz.f38,go_sem,hp.c0,hp.c1]
end Go.Proofs.YtohifgjeebhijaaGreatDoor
namespace Go.Proofs.YtohifgjeebhijaaGreatDoor
open Go.RowKit Go.Dig Go.Shelf Go.Proofs
theorem len_mul_le {a b m n:Nat} (h1:(L a).length≤m) (h2:(L b).length≤n):(L (a*b)).length≤m+n:=Nat.le_trans (len_mul a b) (by omega)
theorem len_add_le {a b m n:Nat} (h1:(L a).length≤m) (h2:(L b).length≤n):(L (a+b)).length≤m+n+1:=Nat.le_trans (len_add a b) (by omega)
theorem len_div_le {a b m:Nat} (h:(L a).length≤m):(L (a / b)).length≤m:=Nat.le_trans (len_mono (Nat.div_le_self a b)) h
theorem len_sub_le {a b m:Nat} (h:(L a).length≤m):(L (a - b)).length≤m:=Nat.le_trans (len_mono (Nat.sub_le a b)) h
theorem crossed_nat (a1 b1 a2 b2:Sl) (a b c d:Nat) (w:World) (ra1:RU w a1 a) (rb1:RU w b1 b) (ra2:RU w a2 c) (rb2:RU w b2 d) (la:Hid ((L a).length≤100)) (lb:Hid ((L b).length≤100)) (lc:Hid ((L c).length≤100)) (ld:Hid ((L d).length≤100)):
  Calls Tryz.prog 36 #[.agg #[.slice a1.a a1.n a1.c,.slice b1.a b1.n b1.c],.agg #[.slice a2.a a2.n a2.c,.slice b2.a b2.n b2.c]] w fun e w'=>∃p q:Sl,e= .returned (.tuple #[.slice p.a p.n p.c,.slice q.a q.n q.c])∧RU w' p (a*d)∧RU w' q (c*b)∧Below w.heap.size w w':=by
 go_enter Tryz.func36,Tryz.ntmps36
 have hb:Below w.heap.size w ((w.alloc (.cells #[.slice a1.a a1.n a1.c,.slice b1.a b1.n b1.c] 49)).alloc (.cells #[.slice a2.a a2.n a2.c,.slice b2.a b2.n b2.c] 49)):=(((Below.refl _ _).alloc (Nat.le_refl _) _).alloc (by simp) _)
 replace ra1:=ra1.below hb
 replace rb1:=rb1.below hb
 replace ra2:=ra2.below hb
 replace rb2:=rb2.below hb
 have hB:=hb
 have P1:Pair ((w.alloc (.cells #[.slice a1.a a1.n a1.c,.slice b1.a b1.n b1.c] 49)).alloc (.cells #[.slice a2.a a2.n a2.c,.slice b2.a b2.n b2.c] 49)) (w.heap.size) 49 (.slice a1.a a1.n a1.c) (.slice b1.a b1.n b1.c):=by
  have h:=(Pair.new w 49 (.slice a1.a a1.n a1.c) (.slice b1.a b1.n b1.c)).alloc (.cells #[.slice a2.a a2.n a2.c,.slice b2.a b2.n b2.c] 49)
  simpa only[World.size_alloc] using h
 have P2:Pair ((w.alloc (.cells #[.slice a1.a a1.n a1.c,.slice b1.a b1.n b1.c] 49)).alloc (.cells #[.slice a2.a a2.n a2.c,.slice b2.a b2.n b2.c] 49)) (w.heap.size+1) 49 (.slice a2.a a2.n a2.c) (.slice b2.a b2.n b2.c):=by
  have h:=Pair.new (w.alloc (.cells #[.slice a1.a a1.n a1.c,.slice b1.a b1.n b1.c] 49)) 49 (.slice a2.a a2.n a2.c) (.slice b2.a b2.n b2.c)
  simpa only[World.size_alloc] using h
 clear hb
 have c0P1:=P1.c0
 have c1P1:=P1.c1
 have c0P2:=P2.c0
 have c1P2:=P2.c1
 go_wp2_with fail
 clear c0P1 c1P1 c0P2 c1P2
 have hb:Below ((w.alloc (.cells #[.slice a1.a a1.n a1.c,.slice b1.a b1.n b1.c] 49)).alloc (.cells #[.slice a2.a a2.n a2.c,.slice b2.a b2.n b2.c] 49)).heap.size ((w.alloc (.cells #[.slice a1.a a1.n a1.c,.slice b1.a b1.n b1.c] 49)).alloc (.cells #[.slice a2.a a2.n a2.c,.slice b2.a b2.n b2.c] 49)) ((w.alloc (.cells #[.slice a1.a a1.n a1.c,.slice b1.a b1.n b1.c] 49)).alloc (.cells #[.slice a2.a a2.n a2.c,.slice b2.a b2.n b2.c] 49)).drew:=(Below.refl _ _).drew
 replace P1:=P1.below hb
 replace P2:=P2.below hb
 replace ra1:=ra1.below hb
 replace rb1:=rb1.below hb
 replace ra2:=ra2.below hb
 replace rb2:=rb2.below hb
 replace hB:=hB.trans (hb.mono hB.size)
 clear hb
 refine Rd.regionT (fun X=>Pair X (w.heap.size) 49 (.slice a1.a a1.n a1.c) (.slice b1.a b1.n b1.c)∧Pair X (w.heap.size+1) 49 (.slice a2.a a2.n a2.c) (.slice b2.a b2.n b2.c)) [0,1,2,3,5,6,7,8,10,11] (.one 0 (.one 1 (.one 2 (.one 3 (.one 5 (.one 6 (.one 7 (.one 8 (.one 4 (.one 9 (.one 10 (.one 11 .done)))))))))))) (fun ac W=>∃(p:Sl) (q:Sl) (y2 y3 y6 y7 y8 y9 y10 y11 y12 y13 y14 y15:Value),ac={ tmps:=List.toArray (.agg #[.slice a1.a a1.n a1.c,.slice b1.a b1.n b1.c]:: .agg #[.slice a2.a a2.n a2.c,.slice b2.a b2.n b2.c]::y2::y3:: .slice p.a p.n p.c:: .slice q.a q.n q.c::y6::y7::y8::y9::y10::y11::y12::y13::y14::y15::[]),defers:=[] }∧RU W p (a*d)∧RU W q (c*b)∧Below w.heap.size w W) (by kernel_rfl) (by kernel_rfl) (by kernel_rfl) ⟨P1,P2⟩ ?tree ?next
 case tree=>
  generalize ((w.alloc (.cells #[.slice a1.a a1.n a1.c,.slice b1.a b1.n b1.c] 49)).alloc (.cells #[.slice a2.a a2.n a2.c,.slice b2.a b2.n b2.c] 49)).drew=w3 at P1 P2 ra1 rb1 ra2 rb2 hB ⊢
  refine Rd.tr_float (.pointer (some ⟨w.heap.size,0,none⟩)) (by simp only[gA,gC];rfl) rfl (by rfl) (fun X _=>by go_simp) ?_
  simp only[Act.put,sA,sB,sC]
  refine Rd.tr_float (.slice a1.a a1.n a1.c) (by simp only[gA,gB,gC];rfl) rfl (by rfl) (fun X hX=>by have h0:=hX.1.c0;have h1:=hX.1.c1;go_simp) ?_
  simp only[Act.put,sA,sB,sC]
  refine Rd.tr_float (.pointer (some ⟨w.heap.size+1,1,none⟩)) (by simp only[gA,gB,gC];rfl) rfl (by rfl) (fun X _=>by go_simp) ?_
  simp only[Act.put,sA,sB,sC]
  refine Rd.tr_float (.slice b2.a b2.n b2.c) (by simp only[gA,gB,gC];rfl) rfl (by rfl) (fun X hX=>by have h0:=hX.2.c0;have h1:=hX.2.c1;go_simp) ?_
  simp only[Act.put,sA,sB,sC]
  refine Rd.tr_float (.pointer (some ⟨w.heap.size+1,0,none⟩)) (by simp only[gA,gB,gC];rfl) rfl (by rfl) (fun X _=>by go_simp) ?_
  simp only[Act.put,sA,sB,sC]
  refine Rd.tr_float (.slice a2.a a2.n a2.c) (by simp only[gA,gB,gC];rfl) rfl (by rfl) (fun X hX=>by have h0:=hX.2.c0;have h1:=hX.2.c1;go_simp) ?_
  simp only[Act.put,sA,sB,sC]
  refine Rd.tr_float (.pointer (some ⟨w.heap.size,1,none⟩)) (by simp only[gA,gB,gC];rfl) rfl (by rfl) (fun X _=>by go_simp) ?_
  simp only[Act.put,sA,sB,sC]
  refine Rd.tr_float (.slice b1.a b1.n b1.c) (by simp only[gA,gB,gC];rfl) rfl (by rfl) (fun X hX=>by have h0:=hX.1.c0;have h1:=hX.1.c1;go_simp) ?_
  simp only[Act.put,sA,sB,sC]
  refine Rd.tr_move (by simp only[gA,gB,gC];rfl) rfl (by rfl) (fun K hK=>?_)
  have H6:=Lib.hid (mul_nat (.slice a1.a a1.n a1.c) (.slice b2.a b2.n b2.c) (a) (d) w3 ra1 rb2 (Nat.le_trans la.out (by omega)) (Nat.le_trans ld.out (by omega)))
  go_simp
  refine H6.out.mono ?_
  rintro e w7 ⟨v5,rfl,rx4,hb⟩
  clear H6
  replace P1:=P1.below hb
  replace P2:=P2.below hb
  replace ra1:=ra1.below hb
  replace rb1:=rb1.below hb
  replace ra2:=ra2.below hb
  replace rb2:=rb2.below hb
  replace hB:=hB.trans (hb.mono hB.size)
  clear hb
  obtain⟨x4,rfl,rx4⟩:=rx4.sl
  have HLx4:Hid ((L (a*d)).length≤200):=Lib.hid (len_mul_le la.out ld.out)
  refine hK _ _ ⟨P1,P2⟩ ?_
  clear hK K
  refine Rd.tr_move (by simp only[gA,gB,gC];rfl) rfl (by rfl) (fun K hK=>?_)
  have H10:=Lib.hid (mul_nat (.slice a2.a a2.n a2.c) (.slice b1.a b1.n b1.c) (c) (b) w7 ra2 rb1 (Nat.le_trans lc.out (by omega)) (Nat.le_trans lb.out (by omega)))
  go_simp
  refine H10.out.mono ?_
  rintro e w11 ⟨v9,rfl,rx8,hb⟩
  clear H10
  replace P1:=P1.below hb
  replace P2:=P2.below hb
  replace ra1:=ra1.below hb
  replace rb1:=rb1.below hb
  replace ra2:=ra2.below hb
  replace rb2:=rb2.below hb
  replace rx4:=rx4.below hb
  replace hB:=hB.trans (hb.mono hB.size)
  clear hb
  obtain⟨x8,rfl,rx8⟩:=rx8.sl
  have HLx8:Hid ((L (c*b)).length≤200):=Lib.hid (len_mul_le lc.out lb.out)
  refine hK _ _ ⟨P1,P2⟩ ?_
  clear hK K
  refine Rd.tr_float (.slice x4.a x4.n x4.c) (by simp only[gA,gB,gC];rfl) rfl (by rfl) (fun X _=>by go_simp) ?_
  simp only[Act.put,sA,sB,sC]
  refine Rd.tr_float (.slice x8.a x8.n x8.c) (by simp only[gA,gB,gC];rfl) rfl (by rfl) (fun X _=>by go_simp) ?_
  simp only[Act.put,sA,sB,sC]
  exact Rd.tr_end (⟨x4,x8,_,_,_,_,_,_,_,_,_,_,_,_,rfl,rx4,rx8,hB⟩)
 case next=>
  rintro a3 W ⟨p,q,_,_,_,_,_,_,_,_,_,_,_,_,rfl,rp,rq,hB⟩
  go_wp2_with fail
  go_ret2
  exact⟨p,q,rfl,rp,rq,hB⟩
end Go.Proofs.YtohifgjeebhijaaGreatDoor
namespace Go.Proofs.YtohifgjeebhijaaGreatDoor
set_option maxRecDepth 100000
set_option maxHeartbeats 4000000
open Go.RowKit Go.Dig Go.Shelf Go.Proofs
theorem nGood_nat (v:Value) (x:Nat) (w:World) (h:RowU w v (L x)) (hl:(L x).length≤1000):Calls Tryz.prog 186 #[v] w fun e w'=>e= .returned (.bool true)∧w=w':=by
 have h1:=nGood_any v (L x) w h (by omega)
 rw[goodB_L] at h1
 exact h1
theorem gcd_len (x:Nat) {y n:Nat} (hy:y≠0) (h:(L y).length≤n):(L (Nat.gcd x y)).length≤n:=Nat.le_trans (len_mono (gcd_le_r x hy)) h
theorem qcmp_nat (a1 b1 a2 b2:Sl) (a b c d:Nat) (w:World) (ra1:RU w a1 a) (rb1:RU w b1 b) (ra2:RU w a2 c) (rb2:RU w b2 d) (la:Hid ((L a).length≤100)) (lb:Hid ((L b).length≤100)) (lc:Hid ((L c).length≤100)) (ld:Hid ((L d).length≤100)):
  Calls Tryz.prog 19 #[.agg #[.slice a1.a a1.n a1.c,.slice b1.a b1.n b1.c],.agg #[.slice a2.a a2.n a2.c,.slice b2.a b2.n b2.c]] w fun e w'=>e= .returned (.int .i64 (cmpZ (a*d) (c*b)))∧Below w.heap.size w w':=by
 go_enter Tryz.func19,Tryz.ntmps19
 have hb:Below w.heap.size w ((w.alloc (.cells #[.slice a1.a a1.n a1.c,.slice b1.a b1.n b1.c] 49)).alloc (.cells #[.slice a2.a a2.n a2.c,.slice b2.a b2.n b2.c] 49)):=(((Below.refl _ _).alloc (Nat.le_refl _) _).alloc (by simp) _)
 replace ra1:=ra1.below hb
 replace rb1:=rb1.below hb
 replace ra2:=ra2.below hb
 replace rb2:=rb2.below hb
 have hB:=hb
 have P1:Pair ((w.alloc (.cells #[.slice a1.a a1.n a1.c,.slice b1.a b1.n b1.c] 49)).alloc (.cells #[.slice a2.a a2.n a2.c,.slice b2.a b2.n b2.c] 49)) (w.heap.size) 49 (.slice a1.a a1.n a1.c) (.slice b1.a b1.n b1.c):=by
  have h:=(Pair.new w 49 (.slice a1.a a1.n a1.c) (.slice b1.a b1.n b1.c)).alloc (.cells #[.slice a2.a a2.n a2.c,.slice b2.a b2.n b2.c] 49)
  simpa only[World.size_alloc] using h
 have P2:Pair ((w.alloc (.cells #[.slice a1.a a1.n a1.c,.slice b1.a b1.n b1.c] 49)).alloc (.cells #[.slice a2.a a2.n a2.c,.slice b2.a b2.n b2.c] 49)) (w.heap.size+1) 49 (.slice a2.a a2.n a2.c) (.slice b2.a b2.n b2.c):=by
  have h:=Pair.new (w.alloc (.cells #[.slice a1.a a1.n a1.c,.slice b1.a b1.n b1.c] 49)) 49 (.slice a2.a a2.n a2.c) (.slice b2.a b2.n b2.c)
  simpa only[World.size_alloc] using h
 clear hb
 have c0P1:=P1.c0
 have c1P1:=P1.c1
 have c0P2:=P2.c0
 have c1P2:=P2.c1
 have H5:=Lib.hid (crossed_nat a1 b1 a2 b2 (a) (b) (c) (d) ((w.alloc (.cells #[.slice a1.a a1.n a1.c,.slice b1.a b1.n b1.c] 49)).alloc (.cells #[.slice a2.a a2.n a2.c,.slice b2.a b2.n b2.c] 49)) ra1 rb1 ra2 rb2 (Lib.hid (Nat.le_trans la.out (by omega))) (Lib.hid (Nat.le_trans lb.out (by omega))) (Lib.hid (Nat.le_trans lc.out (by omega))) (Lib.hid (Nat.le_trans ld.out (by omega))))
 go_wp2_with fail
 clear c0P1 c1P1 c0P2 c1P2
 refine H5.out.mono ?_
 rintro e w6 ⟨x3,x4,rfl,rx3,rx4,hb⟩
 clear H5
 replace P1:=P1.below hb
 replace P2:=P2.below hb
 replace ra1:=ra1.below hb
 replace rb1:=rb1.below hb
 replace ra2:=ra2.below hb
 replace rb2:=rb2.below hb
 replace hB:=hB.trans (hb.mono hB.size)
 clear hb
 have HLx3:Hid ((L (a*d)).length≤200):=Lib.hid (len_mul_le la.out ld.out)
 have HLx4:Hid ((L (c*b)).length≤200):=Lib.hid (len_mul_le lc.out lb.out)
 have c0P1:=P1.c0
 have c1P1:=P1.c1
 have c0P2:=P2.c0
 have c1P2:=P2.c1
 have H7:=Lib.hid (cmp_nat (.slice x3.a x3.n x3.c) (.slice x4.a x4.n x4.c) (a*d) (c*b) w6 rx3 rx4 (Nat.le_trans HLx3.out (by omega)) (Nat.le_trans HLx4.out (by omega)))
 go_wp2_with fail
 clear c0P1 c1P1 c0P2 c1P2
 refine H7.out.mono ?_
 rintro e w8 ⟨rfl,hb⟩
 clear H7
 replace P1:=P1.below hb
 replace P2:=P2.below hb
 replace ra1:=ra1.below hb
 replace rb1:=rb1.below hb
 replace ra2:=ra2.below hb
 replace rb2:=rb2.below hb
 replace rx3:=rx3.below hb
 replace rx4:=rx4.below hb
 replace hB:=hB.trans (hb.mono hB.size)
 clear hb
 go_wp2_with fail
 go_ret
 exact⟨rfl,hB⟩
theorem qgood_nat (a1 b1:Sl) (a b:Nat) (w:World) (ra1:RU w a1 a) (rb1:RU w b1 b) (la:Hid ((L a).length≤500)) (lb:Hid ((L b).length≤500)) (HNE:Hid (b≠0)) (t:Bool) (HT:Hid (t=decide (Nat.gcd a b=1))):
  Calls Tryz.prog 171 #[.agg #[.slice a1.a a1.n a1.c,.slice b1.a b1.n b1.c]] w fun e w'=>e= .returned (.bool t)∧Below w.heap.size w w':=by
 go_enter Tryz.func171,Tryz.ntmps171
 have hb:Below w.heap.size w (w.alloc (.cells #[.slice a1.a a1.n a1.c,.slice b1.a b1.n b1.c] 49)):=((Below.refl _ _).alloc (Nat.le_refl _) _)
 replace ra1:=ra1.below hb
 replace rb1:=rb1.below hb
 have hB:=hb
 have P1:Pair (w.alloc (.cells #[.slice a1.a a1.n a1.c,.slice b1.a b1.n b1.c] 49)) (w.heap.size) 49 (.slice a1.a a1.n a1.c) (.slice b1.a b1.n b1.c):=by
  have h:=Pair.new w 49 (.slice a1.a a1.n a1.c) (.slice b1.a b1.n b1.c)
  simpa only[World.size_alloc] using h
 clear hb
 have c0P1:=P1.c0
 have c1P1:=P1.c1
 have H2:=Lib.hid (nGood_nat (.slice a1.a a1.n a1.c) (a) (w.alloc (.cells #[.slice a1.a a1.n a1.c,.slice b1.a b1.n b1.c] 49)) ra1 (Nat.le_trans la.out (by omega)))
 go_wp2_with fail
 clear c0P1 c1P1
 refine H2.out.mono ?_
 rintro e w3 ⟨rfl,rfl⟩
 clear H2
 have c0P1:=P1.c0
 have c1P1:=P1.c1
 have H4:=Lib.hid (nGood_nat (.slice b1.a b1.n b1.c) (b) (w.alloc (.cells #[.slice a1.a a1.n a1.c,.slice b1.a b1.n b1.c] 49)) rb1 (Nat.le_trans lb.out (by omega)))
 go_wp2_with fail
 clear c0P1 c1P1
 refine H4.out.mono ?_
 rintro e w5 ⟨rfl,rfl⟩
 clear H4
 have c0P1:=P1.c0
 have c1P1:=P1.c1
 have H6:=Lib.hid (isZero_nat (.slice b1.a b1.n b1.c) (b) (w.alloc (.cells #[.slice a1.a a1.n a1.c,.slice b1.a b1.n b1.c] 49)) rb1 (Nat.le_trans lb.out (by omega)) false (by simp[HNE.out]))
 go_wp2_with fail
 clear c0P1 c1P1
 refine H6.out.mono ?_
 rintro e w7 ⟨rfl,hb⟩
 clear H6
 replace P1:=P1.below hb
 replace ra1:=ra1.below hb
 replace rb1:=rb1.below hb
 replace hB:=hB.trans (hb.mono hB.size)
 clear hb
 have c0P1:=P1.c0
 have c1P1:=P1.c1
 have H10:=Lib.hid (gcd_nat (.slice a1.a a1.n a1.c) (.slice b1.a b1.n b1.c) (a) (b) w7 ra1 rb1 (Nat.le_trans la.out (by omega)) (Nat.le_trans lb.out (by omega)))
 go_wp2_with fail
 clear c0P1 c1P1
 refine H10.out.mono ?_
 rintro e w11 ⟨v9,rfl,rx8,hb⟩
 clear H10
 replace P1:=P1.below hb
 replace ra1:=ra1.below hb
 replace rb1:=rb1.below hb
 replace hB:=hB.trans (hb.mono hB.size)
 clear hb
 obtain⟨x8,rfl,rx8⟩:=rx8.sl
 have HLx8:Hid ((L (Nat.gcd a b)).length≤500):=Lib.hid (gcd_len a HNE.out lb.out)
 have c0P1:=P1.c0
 have c1P1:=P1.c1
 have H12:=Lib.hid (isOne_nat (.slice x8.a x8.n x8.c) (Nat.gcd a b) w11 rx8 (Nat.le_trans HLx8.out (by omega)) t HT.out)
 go_wp2_with fail
 clear c0P1 c1P1
 refine H12.out.mono ?_
 rintro e w13 ⟨rfl,hb⟩
 clear H12
 replace P1:=P1.below hb
 replace ra1:=ra1.below hb
 replace rb1:=rb1.below hb
 replace rx8:=rx8.below hb
 replace hB:=hB.trans (hb.mono hB.size)
 clear hb
 go_wp2_with fail
 go_ret
 exact⟨rfl,hB⟩
theorem qsub_nat (a1 b1 a2 b2:Sl) (a b c d:Nat) (w:World) (ra1:RU w a1 a) (rb1:RU w b1 b) (ra2:RU w a2 c) (rb2:RU w b2 d) (la:Hid ((L a).length≤100)) (lb:Hid ((L b).length≤100)) (lc:Hid ((L c).length≤100)) (ld:Hid ((L d).length≤100)) (HLE:Hid (c*b≤a*d)) (HNE:Hid (b*d≠0)):
  Calls Tryz.prog 179 #[.agg #[.slice a1.a a1.n a1.c,.slice b1.a b1.n b1.c],.agg #[.slice a2.a a2.n a2.c,.slice b2.a b2.n b2.c]] w fun e w'=>∃p q:Sl,e= .returned (.tuple #[.agg #[.slice p.a p.n p.c,.slice q.a q.n q.c],.int .i64 0])∧RU w' p (((a*d) - (c*b)) / Nat.gcd ((a*d) - (c*b)) (b*d))∧RU w' q ((b*d) / Nat.gcd ((a*d) - (c*b)) (b*d))∧Below w.heap.size w w':=by
 go_enter Tryz.func179,Tryz.ntmps179
 have hb:Below w.heap.size w (((w.alloc (.cells #[.slice a1.a a1.n a1.c,.slice b1.a b1.n b1.c] 49)).alloc (.cells #[.slice a2.a a2.n a2.c,.slice b2.a b2.n b2.c] 49)).alloc (.cells #[.slice none 0 0,.slice none 0 0] 49)):=((((Below.refl _ _).alloc (Nat.le_refl _) _).alloc (by simp) _).alloc (by simp;omega) _)
 replace ra1:=ra1.below hb
 replace rb1:=rb1.below hb
 replace ra2:=ra2.below hb
 replace rb2:=rb2.below hb
 have hB:=hb
 have P1:Pair (((w.alloc (.cells #[.slice a1.a a1.n a1.c,.slice b1.a b1.n b1.c] 49)).alloc (.cells #[.slice a2.a a2.n a2.c,.slice b2.a b2.n b2.c] 49)).alloc (.cells #[.slice none 0 0,.slice none 0 0] 49)) (w.heap.size) 49 (.slice a1.a a1.n a1.c) (.slice b1.a b1.n b1.c):=by
  have h:=((Pair.new w 49 (.slice a1.a a1.n a1.c) (.slice b1.a b1.n b1.c)).alloc (.cells #[.slice a2.a a2.n a2.c,.slice b2.a b2.n b2.c] 49)).alloc (.cells #[.slice none 0 0,.slice none 0 0] 49)
  simpa only[World.size_alloc] using h
 have P2:Pair (((w.alloc (.cells #[.slice a1.a a1.n a1.c,.slice b1.a b1.n b1.c] 49)).alloc (.cells #[.slice a2.a a2.n a2.c,.slice b2.a b2.n b2.c] 49)).alloc (.cells #[.slice none 0 0,.slice none 0 0] 49)) (w.heap.size+1) 49 (.slice a2.a a2.n a2.c) (.slice b2.a b2.n b2.c):=by
  have h:=(Pair.new (w.alloc (.cells #[.slice a1.a a1.n a1.c,.slice b1.a b1.n b1.c] 49)) 49 (.slice a2.a a2.n a2.c) (.slice b2.a b2.n b2.c)).alloc (.cells #[.slice none 0 0,.slice none 0 0] 49)
  simpa only[World.size_alloc] using h
 have P3:Pair (((w.alloc (.cells #[.slice a1.a a1.n a1.c,.slice b1.a b1.n b1.c] 49)).alloc (.cells #[.slice a2.a a2.n a2.c,.slice b2.a b2.n b2.c] 49)).alloc (.cells #[.slice none 0 0,.slice none 0 0] 49)) (w.heap.size+1+1) 49 (.slice none 0 0) (.slice none 0 0):=by
  have h:=Pair.new ((w.alloc (.cells #[.slice a1.a a1.n a1.c,.slice b1.a b1.n b1.c] 49)).alloc (.cells #[.slice a2.a a2.n a2.c,.slice b2.a b2.n b2.c] 49)) 49 (.slice none 0 0) (.slice none 0 0)
  simpa only[World.size_alloc] using h
 clear hb
 have c0P1:=P1.c0
 have c1P1:=P1.c1
 have c0P2:=P2.c0
 have c1P2:=P2.c1
 have c0P3:=P3.c0
 have c1P3:=P3.c1
 have H6:=Lib.hid (crossed_nat a1 b1 a2 b2 (a) (b) (c) (d) (((w.alloc (.cells #[.slice a1.a a1.n a1.c,.slice b1.a b1.n b1.c] 49)).alloc (.cells #[.slice a2.a a2.n a2.c,.slice b2.a b2.n b2.c] 49)).alloc (.cells #[.slice none 0 0,.slice none 0 0] 49)) ra1 rb1 ra2 rb2 (Lib.hid (Nat.le_trans la.out (by omega))) (Lib.hid (Nat.le_trans lb.out (by omega))) (Lib.hid (Nat.le_trans lc.out (by omega))) (Lib.hid (Nat.le_trans ld.out (by omega))))
 go_wp2_with fail
 clear c0P1 c1P1 c0P2 c1P2 c0P3 c1P3
 refine H6.out.mono ?_
 rintro e w7 ⟨x4,x5,rfl,rx4,rx5,hb⟩
 clear H6
 replace P1:=P1.below hb
 replace P2:=P2.below hb
 replace P3:=P3.below hb
 replace ra1:=ra1.below hb
 replace rb1:=rb1.below hb
 replace ra2:=ra2.below hb
 replace rb2:=rb2.below hb
 replace hB:=hB.trans (hb.mono hB.size)
 clear hb
 have HLx4:Hid ((L (a*d)).length≤200):=Lib.hid (len_mul_le la.out ld.out)
 have HLx5:Hid ((L (c*b)).length≤200):=Lib.hid (len_mul_le lc.out lb.out)
 have c0P1:=P1.c0
 have c1P1:=P1.c1
 have c0P2:=P2.c0
 have c1P2:=P2.c1
 have c0P3:=P3.c0
 have c1P3:=P3.c1
 have H10:=Lib.hid (sub_nat (.slice x4.a x4.n x4.c) (.slice x5.a x5.n x5.c) (a*d) (c*b) w7 rx4 rx5 (Nat.le_trans HLx4.out (by omega)) HLE.out)
 go_wp2_with fail
 clear c0P1 c1P1 c0P2 c1P2 c0P3 c1P3
 refine H10.out.mono ?_
 rintro e w11 ⟨v9,rfl,rx8,hb⟩
 clear H10
 replace P1:=P1.below hb
 replace P2:=P2.below hb
 replace P3:=P3.below hb
 replace ra1:=ra1.below hb
 replace rb1:=rb1.below hb
 replace ra2:=ra2.below hb
 replace rb2:=rb2.below hb
 replace rx4:=rx4.below hb
 replace rx5:=rx5.below hb
 replace hB:=hB.trans (hb.mono hB.size)
 clear hb
 obtain⟨x8,rfl,rx8⟩:=rx8.sl
 have HLx8:Hid ((L ((a*d) - (c*b))).length≤200):=Lib.hid (len_sub_le HLx4.out)
 have c0P1:=P1.c0
 have c1P1:=P1.c1
 have c0P2:=P2.c0
 have c1P2:=P2.c1
 have c0P3:=P3.c0
 have c1P3:=P3.c1
 have H14:=Lib.hid (mul_nat (.slice b1.a b1.n b1.c) (.slice b2.a b2.n b2.c) (b) (d) w11 rb1 rb2 (Nat.le_trans lb.out (by omega)) (Nat.le_trans ld.out (by omega)))
 go_wp2_with fail
 clear c0P1 c1P1 c0P2 c1P2 c0P3 c1P3
 refine H14.out.mono ?_
 rintro e w15 ⟨v13,rfl,rx12,hb⟩
 clear H14
 replace P1:=P1.below hb
 replace P2:=P2.below hb
 replace P3:=P3.below hb
 replace ra1:=ra1.below hb
 replace rb1:=rb1.below hb
 replace ra2:=ra2.below hb
 replace rb2:=rb2.below hb
 replace rx4:=rx4.below hb
 replace rx5:=rx5.below hb
 replace rx8:=rx8.below hb
 replace hB:=hB.trans (hb.mono hB.size)
 clear hb
 obtain⟨x12,rfl,rx12⟩:=rx12.sl
 have HLx12:Hid ((L (b*d)).length≤200):=Lib.hid (len_mul_le lb.out ld.out)
 have c0P1:=P1.c0
 have c1P1:=P1.c1
 have c0P2:=P2.c0
 have c1P2:=P2.c1
 have c0P3:=P3.c0
 have c1P3:=P3.c1
 have H18:=Lib.hid (of_nat (.slice x8.a x8.n x8.c) (.slice x12.a x12.n x12.c) ((a*d) - (c*b)) (b*d) w15 rx8 rx12 (Nat.le_trans HLx8.out (by omega)) (Nat.le_trans HLx12.out (by omega)) HNE.out)
 go_wp2_with fail
 clear c0P1 c1P1 c0P2 c1P2 c0P3 c1P3
 refine H18.out.mono ?_
 rintro e w19 ⟨x16,x17,rfl,rx16,rx17,hb⟩
 clear H18
 replace P1:=P1.below hb
 replace P2:=P2.below hb
 replace P3:=P3.below hb
 replace ra1:=ra1.below hb
 replace rb1:=rb1.below hb
 replace ra2:=ra2.below hb
 replace rb2:=rb2.below hb
 replace rx4:=rx4.below hb
 replace rx5:=rx5.below hb
 replace rx8:=rx8.below hb
 replace rx12:=rx12.below hb
 replace hB:=hB.trans (hb.mono hB.size)
 clear hb
 have HLx16:Hid ((L (((a*d) - (c*b)) / Nat.gcd ((a*d) - (c*b)) (b*d))).length≤200):=Lib.hid (len_div_le HLx8.out)
 have HLx17:Hid ((L ((b*d) / Nat.gcd ((a*d) - (c*b)) (b*d))).length≤200):=Lib.hid (len_div_le HLx12.out)
 have c0P1:=P1.c0
 have c1P1:=P1.c1
 have c0P2:=P2.c0
 have c1P2:=P2.c1
 have c0P3:=P3.c0
 have c1P3:=P3.c1
 have z0P3:=P3.z0
 have z1P3:=P3.z1
 go_wp2_with fail
 replace ra1:=ra1.pset P3 (.slice x16.a x16.n x16.c) (.slice x17.a x17.n x17.c)
 replace rb1:=rb1.pset P3 (.slice x16.a x16.n x16.c) (.slice x17.a x17.n x17.c)
 replace ra2:=ra2.pset P3 (.slice x16.a x16.n x16.c) (.slice x17.a x17.n x17.c)
 replace rb2:=rb2.pset P3 (.slice x16.a x16.n x16.c) (.slice x17.a x17.n x17.c)
 replace rx4:=rx4.pset P3 (.slice x16.a x16.n x16.c) (.slice x17.a x17.n x17.c)
 replace rx5:=rx5.pset P3 (.slice x16.a x16.n x16.c) (.slice x17.a x17.n x17.c)
 replace rx8:=rx8.pset P3 (.slice x16.a x16.n x16.c) (.slice x17.a x17.n x17.c)
 replace rx12:=rx12.pset P3 (.slice x16.a x16.n x16.c) (.slice x17.a x17.n x17.c)
 replace rx16:=rx16.pset P3 (.slice x16.a x16.n x16.c) (.slice x17.a x17.n x17.c)
 replace rx17:=rx17.pset P3 (.slice x16.a x16.n x16.c) (.slice x17.a x17.n x17.c)
 replace hB:=Below.pset hB (by omega:w.heap.size≤w.heap.size+1+1) (.slice x16.a x16.n x16.c) (.slice x17.a x17.n x17.c)
 have P3x:=P3.set (.slice x16.a x16.n x16.c) (.slice x17.a x17.n x17.c)
 generalize (w19.setCell ⟨w.heap.size+1+1,0,none⟩ (.slice x16.a x16.n x16.c)).setCell ⟨w.heap.size+1+1,1,none⟩ (.slice x17.a x17.n x17.c)=WW at ra1 rb1 ra2 rb2 rx4 rx5 rx8 rx12 rx16 rx17 P3x hB ⊢
 refine bodyPost_ret (v:=.tuple #[.agg #[.slice x16.a x16.n x16.c,.slice x17.a x17.n x17.c],.int .i64 0]) ?_ rfl (⟨x16,x17,rfl,rx16,rx17,hB⟩)
 simp[results,Tryz.f179,go_sem,P3x.c0,P3x.c1]
theorem qdiv_nat (a1 b1 a2 b2:Sl) (a b c d:Nat) (w:World) (ra1:RU w a1 a) (rb1:RU w b1 b) (ra2:RU w a2 c) (rb2:RU w b2 d) (la:Hid ((L a).length≤100)) (lb:Hid ((L b).length≤100)) (lc:Hid ((L c).length≤100)) (ld:Hid ((L d).length≤100)) (HNE:Hid (c*b≠0)):
  Calls Tryz.prog 178 #[.agg #[.slice a1.a a1.n a1.c,.slice b1.a b1.n b1.c],.agg #[.slice a2.a a2.n a2.c,.slice b2.a b2.n b2.c]] w fun e w'=>∃p q:Sl,e= .returned (.tuple #[.agg #[.slice p.a p.n p.c,.slice q.a q.n q.c],.int .i64 0])∧RU w' p ((a*d) / Nat.gcd (a*d) (c*b))∧RU w' q ((c*b) / Nat.gcd (a*d) (c*b))∧Below w.heap.size w w':=by
 go_enter Tryz.func178,Tryz.ntmps178
 have hb:Below w.heap.size w (((w.alloc (.cells #[.slice a1.a a1.n a1.c,.slice b1.a b1.n b1.c] 49)).alloc (.cells #[.slice a2.a a2.n a2.c,.slice b2.a b2.n b2.c] 49)).alloc (.cells #[.slice none 0 0,.slice none 0 0] 49)):=((((Below.refl _ _).alloc (Nat.le_refl _) _).alloc (by simp) _).alloc (by simp;omega) _)
 replace ra1:=ra1.below hb
 replace rb1:=rb1.below hb
 replace ra2:=ra2.below hb
 replace rb2:=rb2.below hb
 have hB:=hb
 have P1:Pair (((w.alloc (.cells #[.slice a1.a a1.n a1.c,.slice b1.a b1.n b1.c] 49)).alloc (.cells #[.slice a2.a a2.n a2.c,.slice b2.a b2.n b2.c] 49)).alloc (.cells #[.slice none 0 0,.slice none 0 0] 49)) (w.heap.size) 49 (.slice a1.a a1.n a1.c) (.slice b1.a b1.n b1.c):=by
  have h:=((Pair.new w 49 (.slice a1.a a1.n a1.c) (.slice b1.a b1.n b1.c)).alloc (.cells #[.slice a2.a a2.n a2.c,.slice b2.a b2.n b2.c] 49)).alloc (.cells #[.slice none 0 0,.slice none 0 0] 49)
  simpa only[World.size_alloc] using h
 have P2:Pair (((w.alloc (.cells #[.slice a1.a a1.n a1.c,.slice b1.a b1.n b1.c] 49)).alloc (.cells #[.slice a2.a a2.n a2.c,.slice b2.a b2.n b2.c] 49)).alloc (.cells #[.slice none 0 0,.slice none 0 0] 49)) (w.heap.size+1) 49 (.slice a2.a a2.n a2.c) (.slice b2.a b2.n b2.c):=by
  have h:=(Pair.new (w.alloc (.cells #[.slice a1.a a1.n a1.c,.slice b1.a b1.n b1.c] 49)) 49 (.slice a2.a a2.n a2.c) (.slice b2.a b2.n b2.c)).alloc (.cells #[.slice none 0 0,.slice none 0 0] 49)
  simpa only[World.size_alloc] using h
 have P3:Pair (((w.alloc (.cells #[.slice a1.a a1.n a1.c,.slice b1.a b1.n b1.c] 49)).alloc (.cells #[.slice a2.a a2.n a2.c,.slice b2.a b2.n b2.c] 49)).alloc (.cells #[.slice none 0 0,.slice none 0 0] 49)) (w.heap.size+1+1) 49 (.slice none 0 0) (.slice none 0 0):=by
  have h:=Pair.new ((w.alloc (.cells #[.slice a1.a a1.n a1.c,.slice b1.a b1.n b1.c] 49)).alloc (.cells #[.slice a2.a a2.n a2.c,.slice b2.a b2.n b2.c] 49)) 49 (.slice none 0 0) (.slice none 0 0)
  simpa only[World.size_alloc] using h
 clear hb
 have c0P1:=P1.c0
 have c1P1:=P1.c1
 have c0P2:=P2.c0
 have c1P2:=P2.c1
 have c0P3:=P3.c0
 have c1P3:=P3.c1
 have H6:=Lib.hid (crossed_nat a1 b1 a2 b2 (a) (b) (c) (d) (((w.alloc (.cells #[.slice a1.a a1.n a1.c,.slice b1.a b1.n b1.c] 49)).alloc (.cells #[.slice a2.a a2.n a2.c,.slice b2.a b2.n b2.c] 49)).alloc (.cells #[.slice none 0 0,.slice none 0 0] 49)) ra1 rb1 ra2 rb2 (Lib.hid (Nat.le_trans la.out (by omega))) (Lib.hid (Nat.le_trans lb.out (by omega))) (Lib.hid (Nat.le_trans lc.out (by omega))) (Lib.hid (Nat.le_trans ld.out (by omega))))
 go_wp2_with fail
 clear c0P1 c1P1 c0P2 c1P2 c0P3 c1P3
 refine H6.out.mono ?_
 rintro e w7 ⟨x4,x5,rfl,rx4,rx5,hb⟩
 clear H6
 replace P1:=P1.below hb
 replace P2:=P2.below hb
 replace P3:=P3.below hb
 replace ra1:=ra1.below hb
 replace rb1:=rb1.below hb
 replace ra2:=ra2.below hb
 replace rb2:=rb2.below hb
 replace hB:=hB.trans (hb.mono hB.size)
 clear hb
 have HLx4:Hid ((L (a*d)).length≤200):=Lib.hid (len_mul_le la.out ld.out)
 have HLx5:Hid ((L (c*b)).length≤200):=Lib.hid (len_mul_le lc.out lb.out)
 have c0P1:=P1.c0
 have c1P1:=P1.c1
 have c0P2:=P2.c0
 have c1P2:=P2.c1
 have c0P3:=P3.c0
 have c1P3:=P3.c1
 have H10:=Lib.hid (of_nat (.slice x4.a x4.n x4.c) (.slice x5.a x5.n x5.c) (a*d) (c*b) w7 rx4 rx5 (Nat.le_trans HLx4.out (by omega)) (Nat.le_trans HLx5.out (by omega)) HNE.out)
 go_wp2_with fail
 clear c0P1 c1P1 c0P2 c1P2 c0P3 c1P3
 refine H10.out.mono ?_
 rintro e w11 ⟨x8,x9,rfl,rx8,rx9,hb⟩
 clear H10
 replace P1:=P1.below hb
 replace P2:=P2.below hb
 replace P3:=P3.below hb
 replace ra1:=ra1.below hb
 replace rb1:=rb1.below hb
 replace ra2:=ra2.below hb
 replace rb2:=rb2.below hb
 replace rx4:=rx4.below hb
 replace rx5:=rx5.below hb
 replace hB:=hB.trans (hb.mono hB.size)
 clear hb
 have HLx8:Hid ((L ((a*d) / Nat.gcd (a*d) (c*b))).length≤200):=Lib.hid (len_div_le HLx4.out)
 have HLx9:Hid ((L ((c*b) / Nat.gcd (a*d) (c*b))).length≤200):=Lib.hid (len_div_le HLx5.out)
 have c0P1:=P1.c0
 have c1P1:=P1.c1
 have c0P2:=P2.c0
 have c1P2:=P2.c1
 have c0P3:=P3.c0
 have c1P3:=P3.c1
 have z0P3:=P3.z0
 have z1P3:=P3.z1
 go_wp2_with fail
 replace ra1:=ra1.pset P3 (.slice x8.a x8.n x8.c) (.slice x9.a x9.n x9.c)
 replace rb1:=rb1.pset P3 (.slice x8.a x8.n x8.c) (.slice x9.a x9.n x9.c)
 replace ra2:=ra2.pset P3 (.slice x8.a x8.n x8.c) (.slice x9.a x9.n x9.c)
 replace rb2:=rb2.pset P3 (.slice x8.a x8.n x8.c) (.slice x9.a x9.n x9.c)
 replace rx4:=rx4.pset P3 (.slice x8.a x8.n x8.c) (.slice x9.a x9.n x9.c)
 replace rx5:=rx5.pset P3 (.slice x8.a x8.n x8.c) (.slice x9.a x9.n x9.c)
 replace rx8:=rx8.pset P3 (.slice x8.a x8.n x8.c) (.slice x9.a x9.n x9.c)
 replace rx9:=rx9.pset P3 (.slice x8.a x8.n x8.c) (.slice x9.a x9.n x9.c)
 replace hB:=Below.pset hB (by omega:w.heap.size≤w.heap.size+1+1) (.slice x8.a x8.n x8.c) (.slice x9.a x9.n x9.c)
 have P3x:=P3.set (.slice x8.a x8.n x8.c) (.slice x9.a x9.n x9.c)
 generalize (w11.setCell ⟨w.heap.size+1+1,0,none⟩ (.slice x8.a x8.n x8.c)).setCell ⟨w.heap.size+1+1,1,none⟩ (.slice x9.a x9.n x9.c)=WW at ra1 rb1 ra2 rb2 rx4 rx5 rx8 rx9 P3x hB ⊢
 refine bodyPost_ret (v:=.tuple #[.agg #[.slice x8.a x8.n x8.c,.slice x9.a x9.n x9.c],.int .i64 0]) ?_ rfl (⟨x8,x9,rfl,rx8,rx9,hB⟩)
 simp[results,Tryz.f178,go_sem,P3x.c0,P3x.c1]
end Go.Proofs.YtohifgjeebhijaaGreatDoor
namespace Go.Proofs.YtohifgjeebhijaaGreatDoor
set_option maxRecDepth 100000
set_option maxHeartbeats 4000000
open Go.RowKit Go.Dig Go.Shelf Go.Proofs
theorem wrap_u64 (n:Nat) (h:n<18446744073709551616):IntKind.u64.wrap (n:Int)=(n:Int):=by
 have e:(2:Int) ^ IntKind.u64.bits=18446744073709551616:=by decide
 simp only[IntKind.wrap,e]
 rw[if_neg (by simp[IntKind.signed])]
 omega
theorem qadd_nat (a1 b1 a2 b2:Sl) (a b c d:Nat) (w:World) (ra1:RU w a1 a) (rb1:RU w b1 b) (ra2:RU w a2 c) (rb2:RU w b2 d) (la:Hid ((L a).length≤100)) (lb:Hid ((L b).length≤100)) (lc:Hid ((L c).length≤100)) (ld:Hid ((L d).length≤100)) (HNE:Hid (b*d≠0)):
  Calls Tryz.prog 20 #[.agg #[.slice a1.a a1.n a1.c,.slice b1.a b1.n b1.c],.agg #[.slice a2.a a2.n a2.c,.slice b2.a b2.n b2.c]] w fun e w'=>∃p q:Sl,e= .returned (.agg #[.slice p.a p.n p.c,.slice q.a q.n q.c])∧RU w' p (((a*d)+(c*b)) / Nat.gcd ((a*d)+(c*b)) (b*d))∧RU w' q ((b*d) / Nat.gcd ((a*d)+(c*b)) (b*d))∧Below w.heap.size w w':=by
 go_enter Tryz.func20,Tryz.ntmps20
 have hb:Below w.heap.size w (((w.alloc (.cells #[.slice a1.a a1.n a1.c,.slice b1.a b1.n b1.c] 49)).alloc (.cells #[.slice a2.a a2.n a2.c,.slice b2.a b2.n b2.c] 49)).alloc (.cells #[.slice none 0 0,.slice none 0 0] 49)):=((((Below.refl _ _).alloc (Nat.le_refl _) _).alloc (by simp) _).alloc (by simp;omega) _)
 replace ra1:=ra1.below hb
 replace rb1:=rb1.below hb
 replace ra2:=ra2.below hb
 replace rb2:=rb2.below hb
 have hB:=hb
 have P1:Pair (((w.alloc (.cells #[.slice a1.a a1.n a1.c,.slice b1.a b1.n b1.c] 49)).alloc (.cells #[.slice a2.a a2.n a2.c,.slice b2.a b2.n b2.c] 49)).alloc (.cells #[.slice none 0 0,.slice none 0 0] 49)) (w.heap.size) 49 (.slice a1.a a1.n a1.c) (.slice b1.a b1.n b1.c):=by
  have h:=((Pair.new w 49 (.slice a1.a a1.n a1.c) (.slice b1.a b1.n b1.c)).alloc (.cells #[.slice a2.a a2.n a2.c,.slice b2.a b2.n b2.c] 49)).alloc (.cells #[.slice none 0 0,.slice none 0 0] 49)
  simpa only[World.size_alloc] using h
 have P2:Pair (((w.alloc (.cells #[.slice a1.a a1.n a1.c,.slice b1.a b1.n b1.c] 49)).alloc (.cells #[.slice a2.a a2.n a2.c,.slice b2.a b2.n b2.c] 49)).alloc (.cells #[.slice none 0 0,.slice none 0 0] 49)) (w.heap.size+1) 49 (.slice a2.a a2.n a2.c) (.slice b2.a b2.n b2.c):=by
  have h:=(Pair.new (w.alloc (.cells #[.slice a1.a a1.n a1.c,.slice b1.a b1.n b1.c] 49)) 49 (.slice a2.a a2.n a2.c) (.slice b2.a b2.n b2.c)).alloc (.cells #[.slice none 0 0,.slice none 0 0] 49)
  simpa only[World.size_alloc] using h
 have P3:Pair (((w.alloc (.cells #[.slice a1.a a1.n a1.c,.slice b1.a b1.n b1.c] 49)).alloc (.cells #[.slice a2.a a2.n a2.c,.slice b2.a b2.n b2.c] 49)).alloc (.cells #[.slice none 0 0,.slice none 0 0] 49)) (w.heap.size+1+1) 49 (.slice none 0 0) (.slice none 0 0):=by
  have h:=Pair.new ((w.alloc (.cells #[.slice a1.a a1.n a1.c,.slice b1.a b1.n b1.c] 49)).alloc (.cells #[.slice a2.a a2.n a2.c,.slice b2.a b2.n b2.c] 49)) 49 (.slice none 0 0) (.slice none 0 0)
  simpa only[World.size_alloc] using h
 clear hb
 have c0P1:=P1.c0
 have c1P1:=P1.c1
 have c0P2:=P2.c0
 have c1P2:=P2.c1
 have c0P3:=P3.c0
 have c1P3:=P3.c1
 have H6:=Lib.hid (crossed_nat a1 b1 a2 b2 (a) (b) (c) (d) (((w.alloc (.cells #[.slice a1.a a1.n a1.c,.slice b1.a b1.n b1.c] 49)).alloc (.cells #[.slice a2.a a2.n a2.c,.slice b2.a b2.n b2.c] 49)).alloc (.cells #[.slice none 0 0,.slice none 0 0] 49)) ra1 rb1 ra2 rb2 (Lib.hid (Nat.le_trans la.out (by omega))) (Lib.hid (Nat.le_trans lb.out (by omega))) (Lib.hid (Nat.le_trans lc.out (by omega))) (Lib.hid (Nat.le_trans ld.out (by omega))))
 go_wp2_with fail
 clear c0P1 c1P1 c0P2 c1P2 c0P3 c1P3
 refine H6.out.mono ?_
 rintro e w7 ⟨x4,x5,rfl,rx4,rx5,hb⟩
 clear H6
 replace P1:=P1.below hb
 replace P2:=P2.below hb
 replace P3:=P3.below hb
 replace ra1:=ra1.below hb
 replace rb1:=rb1.below hb
 replace ra2:=ra2.below hb
 replace rb2:=rb2.below hb
 replace hB:=hB.trans (hb.mono hB.size)
 clear hb
 have HLx4:Hid ((L (a*d)).length≤200):=Lib.hid (len_mul_le la.out ld.out)
 have HLx5:Hid ((L (c*b)).length≤200):=Lib.hid (len_mul_le lc.out lb.out)
 have c0P1:=P1.c0
 have c1P1:=P1.c1
 have c0P2:=P2.c0
 have c1P2:=P2.c1
 have c0P3:=P3.c0
 have c1P3:=P3.c1
 go_wp2_with fail
 clear c0P1 c1P1 c0P2 c1P2 c0P3 c1P3
 have hb:Below w7.heap.size w7 w7.drew:=(Below.refl _ _).drew
 replace P1:=P1.below hb
 replace P2:=P2.below hb
 replace P3:=P3.below hb
 replace ra1:=ra1.below hb
 replace rb1:=rb1.below hb
 replace ra2:=ra2.below hb
 replace rb2:=rb2.below hb
 replace rx4:=rx4.below hb
 replace rx5:=rx5.below hb
 replace hB:=hB.trans (hb.mono hB.size)
 clear hb
 refine Rd.regionT (fun X=>Pair X (w.heap.size) 49 (.slice a1.a a1.n a1.c) (.slice b1.a b1.n b1.c)∧Pair X (w.heap.size+1) 49 (.slice a2.a a2.n a2.c) (.slice b2.a b2.n b2.c)∧Pair X (w.heap.size+1+1) 49 (.slice none 0 0) (.slice none 0 0)) [0,1,3,4,5,6,9,10,11,14] (.one 0 (.one 1 (.one 3 (.one 4 (.one 5 (.one 6 (.two 2 (.two 7 (.two 8 (.one 9 (.one 10 (.one 11 (.one 12 (.one 13 (.one 14 .done)))))) 12 (.one 8 (.one 9 (.one 10 (.one 11 (.one 13 (.one 14 .done))))))) 12 (.one 7 (.one 8 (.one 9 (.one 10 (.one 11 (.one 13 (.one 14 .done)))))))) 12 (.one 2 (.one 7 (.one 8 (.one 9 (.one 10 (.one 11 (.one 13 (.one 14 .done))))))))))))))) (fun ac W=>∃(BB:Nat) (p:Sl) (q:Sl) (y8 y15 y16 y17 y18 y19 y20 y21 y22 y23 y24 y25 y26:Value),ac={ tmps:=List.toArray (.agg #[.slice a1.a a1.n a1.c,.slice b1.a b1.n b1.c]:: .agg #[.slice a2.a a2.n a2.c,.slice b2.a b2.n b2.c]:: .pointer (some ⟨w.heap.size,0,none⟩):: .pointer (some ⟨w.heap.size+1,0,none⟩):: .pointer (some ⟨w.heap.size+1+1,0,none⟩):: .slice x4.a x4.n x4.c:: .slice x5.a x5.n x5.c:: .pointer (some ⟨BB,0,none⟩)::y8:: .tuple #[.slice x4.a x4.n x4.c,.slice x5.a x5.n x5.c]:: .agg #[.slice a1.a a1.n a1.c,.slice b1.a b1.n b1.c]:: .agg #[.slice a2.a a2.n a2.c,.slice b2.a b2.n b2.c]:: .tuple #[.slice x4.a x4.n x4.c,.slice x5.a x5.n x5.c]:: .slice x4.a x4.n x4.c:: .slice x5.a x5.n x5.c::y15::y16::y17::y18::y19::y20::y21::y22::y23::y24::y25::y26::undef::[]),defers:=[] }∧RU W p (((a*d)+(c*b)) / Nat.gcd ((a*d)+(c*b)) (b*d))∧RU W q ((b*d) / Nat.gcd ((a*d)+(c*b)) (b*d))∧Pair W BB 49 (.slice p.a p.n p.c) (.slice q.a q.n q.c)∧Pair W (w.heap.size+1+1) 49 (.slice none 0 0) (.slice none 0 0)∧Below w.heap.size w W) (by kernel_rfl) (by kernel_rfl) (by kernel_rfl) ⟨P1,P2,P3⟩ ?tree ?next
 case tree=>
  generalize w7.drew=w8 at P1 P2 P3 ra1 rb1 ra2 rb2 rx4 rx5 hB ⊢
  refine Rd.tr_float (.slice x4.a x4.n x4.c) (by simp only[gA,gC];rfl) rfl (by rfl) (fun X _=>by go_simp) ?_
  simp only[Act.put,sA,sB,sC]
  refine Rd.tr_float (.slice x5.a x5.n x5.c) (by simp only[gA,gB,gC];rfl) rfl (by rfl) (fun X _=>by go_simp) ?_
  simp only[Act.put,sA,sB,sC]
  refine Rd.tr_float (.pointer (some ⟨w.heap.size,1,none⟩)) (by simp only[gA,gB,gC];rfl) rfl (by rfl) (fun X _=>by go_simp) ?_
  simp only[Act.put,sA,sB,sC]
  refine Rd.tr_float (.slice b1.a b1.n b1.c) (by simp only[gA,gB,gC];rfl) rfl (by rfl) (fun X hX=>by have h0:=hX.1.c0;have h1:=hX.1.c1;go_simp) ?_
  simp only[Act.put,sA,sB,sC]
  refine Rd.tr_float (.pointer (some ⟨w.heap.size+1,1,none⟩)) (by simp only[gA,gB,gC];rfl) rfl (by rfl) (fun X _=>by go_simp) ?_
  simp only[Act.put,sA,sB,sC]
  refine Rd.tr_float (.slice b2.a b2.n b2.c) (by simp only[gA,gB,gC];rfl) rfl (by rfl) (fun X hX=>by have h0:=hX.2.1.c0;have h1:=hX.2.1.c1;go_simp) ?_
  simp only[Act.put,sA,sB,sC]
  refine Rd.tr_two (by simp only[gA,gB,gC];rfl) (by rfl) (by simp only[gA,gB,gC];rfl) (by rfl) (fun K hK=>?_) (fun K hK=>?_)
  ·skip
   have H11:=Lib.hid (add_nat (.slice x4.a x4.n x4.c) (.slice x5.a x5.n x5.c) (a*d) (c*b) w8 rx4 rx5 (Nat.le_trans HLx4.out (by omega)) (Nat.le_trans HLx5.out (by omega)))
   go_simp
   refine H11.out.mono ?_
   rintro e w12 ⟨v10,rfl,rx9,hb⟩
   clear H11
   replace P1:=P1.below hb
   replace P2:=P2.below hb
   replace P3:=P3.below hb
   replace ra1:=ra1.below hb
   replace rb1:=rb1.below hb
   replace ra2:=ra2.below hb
   replace rb2:=rb2.below hb
   replace rx4:=rx4.below hb
   replace rx5:=rx5.below hb
   replace hB:=hB.trans (hb.mono hB.size)
   clear hb
   obtain⟨x9,rfl,rx9⟩:=rx9.sl
   have HLx9:Hid ((L ((a*d)+(c*b))).length≤401):=Lib.hid (len_add_le HLx4.out HLx5.out)
   refine hK _ _ ⟨P1,P2,P3⟩ ?_
   clear hK K
   refine Rd.tr_two (by simp only[gA,gB,gC];rfl) (by rfl) (by simp only[gA,gB,gC];rfl) (by rfl) (fun K hK=>?_) (fun K hK=>?_)
   ·skip
    have H15:=Lib.hid (mul_nat (.slice b1.a b1.n b1.c) (.slice b2.a b2.n b2.c) (b) (d) w12 rb1 rb2 (Nat.le_trans lb.out (by omega)) (Nat.le_trans ld.out (by omega)))
    go_simp
    refine H15.out.mono ?_
    rintro e w16 ⟨v14,rfl,rx13,hb⟩
    clear H15
    replace P1:=P1.below hb
    replace P2:=P2.below hb
    replace P3:=P3.below hb
    replace ra1:=ra1.below hb
    replace rb1:=rb1.below hb
    replace ra2:=ra2.below hb
    replace rb2:=rb2.below hb
    replace rx4:=rx4.below hb
    replace rx5:=rx5.below hb
    replace rx9:=rx9.below hb
    replace hB:=hB.trans (hb.mono hB.size)
    clear hb
    obtain⟨x13,rfl,rx13⟩:=rx13.sl
    have HLx13:Hid ((L (b*d)).length≤200):=Lib.hid (len_mul_le lb.out ld.out)
    refine hK _ _ ⟨P1,P2,P3⟩ ?_
    clear hK K
    refine Rd.tr_two (by simp only[gA,gB,gC];rfl) (by rfl) (by simp only[gA,gB,gC];rfl) (by rfl) (fun K hK=>?_) (fun K hK=>?_)
    ·skip
     have H19:=Lib.hid (of_nat (.slice x9.a x9.n x9.c) (.slice x13.a x13.n x13.c) ((a*d)+(c*b)) (b*d) w16 rx9 rx13 (Nat.le_trans HLx9.out (by omega)) (Nat.le_trans HLx13.out (by omega)) HNE.out)
     go_simp
     refine H19.out.mono ?_
     rintro e w20 ⟨x17,x18,rfl,rx17,rx18,hb⟩
     clear H19
     replace P1:=P1.below hb
     replace P2:=P2.below hb
     replace P3:=P3.below hb
     replace ra1:=ra1.below hb
     replace rb1:=rb1.below hb
     replace ra2:=ra2.below hb
     replace rb2:=rb2.below hb
     replace rx4:=rx4.below hb
     replace rx5:=rx5.below hb
     replace rx9:=rx9.below hb
     replace rx13:=rx13.below hb
     replace hB:=hB.trans (hb.mono hB.size)
     clear hb
     have HLx17:Hid ((L (((a*d)+(c*b)) / Nat.gcd ((a*d)+(c*b)) (b*d))).length≤401):=Lib.hid (len_div_le HLx9.out)
     have HLx18:Hid ((L ((b*d) / Nat.gcd ((a*d)+(c*b)) (b*d))).length≤200):=Lib.hid (len_div_le HLx13.out)
     refine hK _ _ ⟨P1,P2,P3⟩ ?_
     clear hK K
     refine Rd.tr_float (.tuple #[.agg #[.slice x17.a x17.n x17.c,.slice x18.a x18.n x18.c],.int .i64 0]) (by simp only[gA,gB,gC];rfl) rfl (by rfl) (fun X _=>by go_simp) ?_
     simp only[Act.put,sA,sB,sC]
     refine Rd.tr_float (.agg #[.slice x17.a x17.n x17.c,.slice x18.a x18.n x18.c]) (by simp only[gA,gB,gC];rfl) rfl (by rfl) (fun X _=>by go_simp) ?_
     simp only[Act.put,sA,sB,sC]
     refine Rd.tr_float (.int .i64 0) (by simp only[gA,gB,gC];rfl) rfl (by rfl) (fun X _=>by go_simp) ?_
     simp only[Act.put,sA,sB,sC]
     refine Rd.tr_move (by simp only[gA,gB,gC];rfl) rfl (by rfl) (fun K hK=>?_)
     go_simp
     have P21:=Pair.new w20 49 (.slice none 0 0) (.slice none 0 0)
     have nP1P21:=Nat.ne_of_lt P1.lt
     have nP2P21:=Nat.ne_of_lt P2.lt
     have nP3P21:=Nat.ne_of_lt P3.lt
     have gP21:=hB.size
     have hb:Below w20.heap.size w20 (w20.alloc (.cells #[.slice none 0 0,.slice none 0 0] 49)):=(Below.refl _ _).alloc (Nat.le_refl _) _
     replace P1:=P1.below hb
     replace P2:=P2.below hb
     replace P3:=P3.below hb
     replace ra1:=ra1.below hb
     replace rb1:=rb1.below hb
     replace ra2:=ra2.below hb
     replace rb2:=rb2.below hb
     replace rx4:=rx4.below hb
     replace rx5:=rx5.below hb
     replace rx9:=rx9.below hb
     replace rx13:=rx13.below hb
     replace rx17:=rx17.below hb
     replace rx18:=rx18.below hb
     replace hB:=hB.trans (hb.mono hB.size)
     clear hb
     generalize w20.alloc (.cells #[.slice none 0 0,.slice none 0 0] 49)=w23 at P1 P2 P3 ra1 rb1 ra2 rb2 rx4 rx5 rx9 rx13 rx17 rx18 P21 hB ⊢
     generalize w20.heap.size=B22 at nP1P21 nP2P21 nP3P21 P21 gP21 ⊢
     refine hK _ _ ⟨P1,P2,P3⟩ ?_
     clear hK K
     refine Rd.tr_move (by simp only[gA,gB,gC];rfl) rfl (by rfl) (fun K hK=>?_)
     have c0P21:=P21.c0
     have c1P21:=P21.c1
     have z0P21:=P21.z0
     have z1P21:=P21.z1
     go_simp
     clear c0P21 c1P21 z0P21 z1P21
     replace ra1:=ra1.pset P21 (.slice x17.a x17.n x17.c) (.slice x18.a x18.n x18.c)
     replace rb1:=rb1.pset P21 (.slice x17.a x17.n x17.c) (.slice x18.a x18.n x18.c)
     replace ra2:=ra2.pset P21 (.slice x17.a x17.n x17.c) (.slice x18.a x18.n x18.c)
     replace rb2:=rb2.pset P21 (.slice x17.a x17.n x17.c) (.slice x18.a x18.n x18.c)
     replace rx4:=rx4.pset P21 (.slice x17.a x17.n x17.c) (.slice x18.a x18.n x18.c)
     replace rx5:=rx5.pset P21 (.slice x17.a x17.n x17.c) (.slice x18.a x18.n x18.c)
     replace rx9:=rx9.pset P21 (.slice x17.a x17.n x17.c) (.slice x18.a x18.n x18.c)
     replace rx13:=rx13.pset P21 (.slice x17.a x17.n x17.c) (.slice x18.a x18.n x18.c)
     replace rx17:=rx17.pset P21 (.slice x17.a x17.n x17.c) (.slice x18.a x18.n x18.c)
     replace rx18:=rx18.pset P21 (.slice x17.a x17.n x17.c) (.slice x18.a x18.n x18.c)
     replace P1:=P1.other (B:=B22) nP1P21 (.slice x17.a x17.n x17.c) (.slice x18.a x18.n x18.c)
     replace P2:=P2.other (B:=B22) nP2P21 (.slice x17.a x17.n x17.c) (.slice x18.a x18.n x18.c)
     replace P3:=P3.other (B:=B22) nP3P21 (.slice x17.a x17.n x17.c) (.slice x18.a x18.n x18.c)
     replace hB:=Below.pset hB gP21 (.slice x17.a x17.n x17.c) (.slice x18.a x18.n x18.c)
     replace P21:=P21.set (.slice x17.a x17.n x17.c) (.slice x18.a x18.n x18.c)
     generalize (w23.setCell ⟨B22,0,none⟩ (.slice x17.a x17.n x17.c)).setCell ⟨B22,1,none⟩ (.slice x18.a x18.n x18.c)=w24 at P1 P2 P3 P21 ra1 rb1 ra2 rb2 rx4 rx5 rx9 rx13 rx17 rx18 hB ⊢
     refine hK _ _ ⟨P1,P2,P3⟩ ?_
     clear hK K
     refine Rd.tr_float (.int .i64 0) (by simp only[gA,gB,gC];rfl) rfl (by rfl) (fun X _=>by go_simp) ?_
     simp only[Act.put,sA,sB,sC]
     exact Rd.tr_end (⟨B22,x17,x18,_,_,_,_,_,_,_,_,_,_,_,_,_,rfl,rx17,rx18,P21,P3,hB⟩)
    ·skip
     go_simp
     have P25:=Pair.new w16 49 (.slice none 0 0) (.slice none 0 0)
     have nP1P25:=Nat.ne_of_lt P1.lt
     have nP2P25:=Nat.ne_of_lt P2.lt
     have nP3P25:=Nat.ne_of_lt P3.lt
     have gP25:=hB.size
     have hb:Below w16.heap.size w16 (w16.alloc (.cells #[.slice none 0 0,.slice none 0 0] 49)):=(Below.refl _ _).alloc (Nat.le_refl _) _
     replace P1:=P1.below hb
     replace P2:=P2.below hb
     replace P3:=P3.below hb
     replace ra1:=ra1.below hb
     replace rb1:=rb1.below hb
     replace ra2:=ra2.below hb
     replace rb2:=rb2.below hb
     replace rx4:=rx4.below hb
     replace rx5:=rx5.below hb
     replace rx9:=rx9.below hb
     replace rx13:=rx13.below hb
     replace hB:=hB.trans (hb.mono hB.size)
     clear hb
     generalize w16.alloc (.cells #[.slice none 0 0,.slice none 0 0] 49)=w27 at P1 P2 P3 ra1 rb1 ra2 rb2 rx4 rx5 rx9 rx13 P25 hB ⊢
     generalize w16.heap.size=B26 at nP1P25 nP2P25 nP3P25 P25 gP25 ⊢
     refine hK _ _ ⟨P1,P2,P3⟩ ?_
     clear hK K
     refine Rd.tr_move (by simp only[gA,gB,gC];rfl) rfl (by rfl) (fun K hK=>?_)
     have H30:=Lib.hid (of_nat (.slice x9.a x9.n x9.c) (.slice x13.a x13.n x13.c) ((a*d)+(c*b)) (b*d) w27 rx9 rx13 (Nat.le_trans HLx9.out (by omega)) (Nat.le_trans HLx13.out (by omega)) HNE.out)
     go_simp
     refine H30.out.mono ?_
     rintro e w31 ⟨x28,x29,rfl,rx28,rx29,hb⟩
     clear H30
     replace P1:=P1.below hb
     replace P2:=P2.below hb
     replace P3:=P3.below hb
     replace P25:=P25.below hb
     replace ra1:=ra1.below hb
     replace rb1:=rb1.below hb
     replace ra2:=ra2.below hb
     replace rb2:=rb2.below hb
     replace rx4:=rx4.below hb
     replace rx5:=rx5.below hb
     replace rx9:=rx9.below hb
     replace rx13:=rx13.below hb
     replace hB:=hB.trans (hb.mono hB.size)
     clear hb
     have HLx28:Hid ((L (((a*d)+(c*b)) / Nat.gcd ((a*d)+(c*b)) (b*d))).length≤401):=Lib.hid (len_div_le HLx9.out)
     have HLx29:Hid ((L ((b*d) / Nat.gcd ((a*d)+(c*b)) (b*d))).length≤200):=Lib.hid (len_div_le HLx13.out)
     refine hK _ _ ⟨P1,P2,P3⟩ ?_
     clear hK K
     refine Rd.tr_float (.tuple #[.agg #[.slice x28.a x28.n x28.c,.slice x29.a x29.n x29.c],.int .i64 0]) (by simp only[gA,gB,gC];rfl) rfl (by rfl) (fun X _=>by go_simp) ?_
     simp only[Act.put,sA,sB,sC]
     refine Rd.tr_float (.agg #[.slice x28.a x28.n x28.c,.slice x29.a x29.n x29.c]) (by simp only[gA,gB,gC];rfl) rfl (by rfl) (fun X _=>by go_simp) ?_
     simp only[Act.put,sA,sB,sC]
     refine Rd.tr_float (.int .i64 0) (by simp only[gA,gB,gC];rfl) rfl (by rfl) (fun X _=>by go_simp) ?_
     simp only[Act.put,sA,sB,sC]
     refine Rd.tr_move (by simp only[gA,gB,gC];rfl) rfl (by rfl) (fun K hK=>?_)
     have c0P25:=P25.c0
     have c1P25:=P25.c1
     have z0P25:=P25.z0
     have z1P25:=P25.z1
     go_simp
     clear c0P25 c1P25 z0P25 z1P25
     replace ra1:=ra1.pset P25 (.slice x28.a x28.n x28.c) (.slice x29.a x29.n x29.c)
     replace rb1:=rb1.pset P25 (.slice x28.a x28.n x28.c) (.slice x29.a x29.n x29.c)
     replace ra2:=ra2.pset P25 (.slice x28.a x28.n x28.c) (.slice x29.a x29.n x29.c)
     replace rb2:=rb2.pset P25 (.slice x28.a x28.n x28.c) (.slice x29.a x29.n x29.c)
     replace rx4:=rx4.pset P25 (.slice x28.a x28.n x28.c) (.slice x29.a x29.n x29.c)
     replace rx5:=rx5.pset P25 (.slice x28.a x28.n x28.c) (.slice x29.a x29.n x29.c)
     replace rx9:=rx9.pset P25 (.slice x28.a x28.n x28.c) (.slice x29.a x29.n x29.c)
     replace rx13:=rx13.pset P25 (.slice x28.a x28.n x28.c) (.slice x29.a x29.n x29.c)
     replace rx28:=rx28.pset P25 (.slice x28.a x28.n x28.c) (.slice x29.a x29.n x29.c)
     replace rx29:=rx29.pset P25 (.slice x28.a x28.n x28.c) (.slice x29.a x29.n x29.c)
     replace P1:=P1.other (B:=B26) nP1P25 (.slice x28.a x28.n x28.c) (.slice x29.a x29.n x29.c)
     replace P2:=P2.other (B:=B26) nP2P25 (.slice x28.a x28.n x28.c) (.slice x29.a x29.n x29.c)
     replace P3:=P3.other (B:=B26) nP3P25 (.slice x28.a x28.n x28.c) (.slice x29.a x29.n x29.c)
     replace hB:=Below.pset hB gP25 (.slice x28.a x28.n x28.c) (.slice x29.a x29.n x29.c)
     replace P25:=P25.set (.slice x28.a x28.n x28.c) (.slice x29.a x29.n x29.c)
     generalize (w31.setCell ⟨B26,0,none⟩ (.slice x28.a x28.n x28.c)).setCell ⟨B26,1,none⟩ (.slice x29.a x29.n x29.c)=w32 at P1 P2 P3 P25 ra1 rb1 ra2 rb2 rx4 rx5 rx9 rx13 rx28 rx29 hB ⊢
     refine hK _ _ ⟨P1,P2,P3⟩ ?_
     clear hK K
     refine Rd.tr_float (.int .i64 0) (by simp only[gA,gB,gC];rfl) rfl (by rfl) (fun X _=>by go_simp) ?_
     simp only[Act.put,sA,sB,sC]
     exact Rd.tr_end (⟨B26,x28,x29,_,_,_,_,_,_,_,_,_,_,_,_,_,rfl,rx28,rx29,P25,P3,hB⟩)
   ·skip
    go_simp
    have P33:=Pair.new w12 49 (.slice none 0 0) (.slice none 0 0)
    have nP1P33:=Nat.ne_of_lt P1.lt
    have nP2P33:=Nat.ne_of_lt P2.lt
    have nP3P33:=Nat.ne_of_lt P3.lt
    have gP33:=hB.size
    have hb:Below w12.heap.size w12 (w12.alloc (.cells #[.slice none 0 0,.slice none 0 0] 49)):=(Below.refl _ _).alloc (Nat.le_refl _) _
    replace P1:=P1.below hb
    replace P2:=P2.below hb
    replace P3:=P3.below hb
    replace ra1:=ra1.below hb
    replace rb1:=rb1.below hb
    replace ra2:=ra2.below hb
    replace rb2:=rb2.below hb
    replace rx4:=rx4.below hb
    replace rx5:=rx5.below hb
    replace rx9:=rx9.below hb
    replace hB:=hB.trans (hb.mono hB.size)
    clear hb
    generalize w12.alloc (.cells #[.slice none 0 0,.slice none 0 0] 49)=w35 at P1 P2 P3 ra1 rb1 ra2 rb2 rx4 rx5 rx9 P33 hB ⊢
    generalize w12.heap.size=B34 at nP1P33 nP2P33 nP3P33 P33 gP33 ⊢
    refine hK _ _ ⟨P1,P2,P3⟩ ?_
    clear hK K
    refine Rd.tr_move (by simp only[gA,gB,gC];rfl) rfl (by rfl) (fun K hK=>?_)
    have H38:=Lib.hid (mul_nat (.slice b1.a b1.n b1.c) (.slice b2.a b2.n b2.c) (b) (d) w35 rb1 rb2 (Nat.le_trans lb.out (by omega)) (Nat.le_trans ld.out (by omega)))
    go_simp
    refine H38.out.mono ?_
    rintro e w39 ⟨v37,rfl,rx36,hb⟩
    clear H38
    replace P1:=P1.below hb
    replace P2:=P2.below hb
    replace P3:=P3.below hb
    replace P33:=P33.below hb
    replace ra1:=ra1.below hb
    replace rb1:=rb1.below hb
    replace ra2:=ra2.below hb
    replace rb2:=rb2.below hb
    replace rx4:=rx4.below hb
    replace rx5:=rx5.below hb
    replace rx9:=rx9.below hb
    replace hB:=hB.trans (hb.mono hB.size)
    clear hb
    obtain⟨x36,rfl,rx36⟩:=rx36.sl
    have HLx36:Hid ((L (b*d)).length≤200):=Lib.hid (len_mul_le lb.out ld.out)
    refine hK _ _ ⟨P1,P2,P3⟩ ?_
    clear hK K
    refine Rd.tr_move (by simp only[gA,gB,gC];rfl) rfl (by rfl) (fun K hK=>?_)
    have H42:=Lib.hid (of_nat (.slice x9.a x9.n x9.c) (.slice x36.a x36.n x36.c) ((a*d)+(c*b)) (b*d) w39 rx9 rx36 (Nat.le_trans HLx9.out (by omega)) (Nat.le_trans HLx36.out (by omega)) HNE.out)
    go_simp
    refine H42.out.mono ?_
    rintro e w43 ⟨x40,x41,rfl,rx40,rx41,hb⟩
    clear H42
    replace P1:=P1.below hb
    replace P2:=P2.below hb
    replace P3:=P3.below hb
    replace P33:=P33.below hb
    replace ra1:=ra1.below hb
    replace rb1:=rb1.below hb
    replace ra2:=ra2.below hb
    replace rb2:=rb2.below hb
    replace rx4:=rx4.below hb
    replace rx5:=rx5.below hb
    replace rx9:=rx9.below hb
    replace rx36:=rx36.below hb
    replace hB:=hB.trans (hb.mono hB.size)
    clear hb
    have HLx40:Hid ((L (((a*d)+(c*b)) / Nat.gcd ((a*d)+(c*b)) (b*d))).length≤401):=Lib.hid (len_div_le HLx9.out)
    have HLx41:Hid ((L ((b*d) / Nat.gcd ((a*d)+(c*b)) (b*d))).length≤200):=Lib.hid (len_div_le HLx36.out)
    refine hK _ _ ⟨P1,P2,P3⟩ ?_
    clear hK K
    refine Rd.tr_float (.tuple #[.agg #[.slice x40.a x40.n x40.c,.slice x41.a x41.n x41.c],.int .i64 0]) (by simp only[gA,gB,gC];rfl) rfl (by rfl) (fun X _=>by go_simp) ?_
    simp only[Act.put,sA,sB,sC]
    refine Rd.tr_float (.agg #[.slice x40.a x40.n x40.c,.slice x41.a x41.n x41.c]) (by simp only[gA,gB,gC];rfl) rfl (by rfl) (fun X _=>by go_simp) ?_
    simp only[Act.put,sA,sB,sC]
    refine Rd.tr_float (.int .i64 0) (by simp only[gA,gB,gC];rfl) rfl (by rfl) (fun X _=>by go_simp) ?_
    simp only[Act.put,sA,sB,sC]
    refine Rd.tr_move (by simp only[gA,gB,gC];rfl) rfl (by rfl) (fun K hK=>?_)
    have c0P33:=P33.c0
    have c1P33:=P33.c1
    have z0P33:=P33.z0
    have z1P33:=P33.z1
    go_simp
    clear c0P33 c1P33 z0P33 z1P33
    replace ra1:=ra1.pset P33 (.slice x40.a x40.n x40.c) (.slice x41.a x41.n x41.c)
    replace rb1:=rb1.pset P33 (.slice x40.a x40.n x40.c) (.slice x41.a x41.n x41.c)
    replace ra2:=ra2.pset P33 (.slice x40.a x40.n x40.c) (.slice x41.a x41.n x41.c)
    replace rb2:=rb2.pset P33 (.slice x40.a x40.n x40.c) (.slice x41.a x41.n x41.c)
    replace rx4:=rx4.pset P33 (.slice x40.a x40.n x40.c) (.slice x41.a x41.n x41.c)
    replace rx5:=rx5.pset P33 (.slice x40.a x40.n x40.c) (.slice x41.a x41.n x41.c)
    replace rx9:=rx9.pset P33 (.slice x40.a x40.n x40.c) (.slice x41.a x41.n x41.c)
    replace rx36:=rx36.pset P33 (.slice x40.a x40.n x40.c) (.slice x41.a x41.n x41.c)
    replace rx40:=rx40.pset P33 (.slice x40.a x40.n x40.c) (.slice x41.a x41.n x41.c)
    replace rx41:=rx41.pset P33 (.slice x40.a x40.n x40.c) (.slice x41.a x41.n x41.c)
    replace P1:=P1.other (B:=B34) nP1P33 (.slice x40.a x40.n x40.c) (.slice x41.a x41.n x41.c)
    replace P2:=P2.other (B:=B34) nP2P33 (.slice x40.a x40.n x40.c) (.slice x41.a x41.n x41.c)
    replace P3:=P3.other (B:=B34) nP3P33 (.slice x40.a x40.n x40.c) (.slice x41.a x41.n x41.c)
    replace hB:=Below.pset hB gP33 (.slice x40.a x40.n x40.c) (.slice x41.a x41.n x41.c)
    replace P33:=P33.set (.slice x40.a x40.n x40.c) (.slice x41.a x41.n x41.c)
    generalize (w43.setCell ⟨B34,0,none⟩ (.slice x40.a x40.n x40.c)).setCell ⟨B34,1,none⟩ (.slice x41.a x41.n x41.c)=w44 at P1 P2 P3 P33 ra1 rb1 ra2 rb2 rx4 rx5 rx9 rx36 rx40 rx41 hB ⊢
    refine hK _ _ ⟨P1,P2,P3⟩ ?_
    clear hK K
    refine Rd.tr_float (.int .i64 0) (by simp only[gA,gB,gC];rfl) rfl (by rfl) (fun X _=>by go_simp) ?_
    simp only[Act.put,sA,sB,sC]
    exact Rd.tr_end (⟨B34,x40,x41,_,_,_,_,_,_,_,_,_,_,_,_,_,rfl,rx40,rx41,P33,P3,hB⟩)
  ·skip
   go_simp
   have P45:=Pair.new w8 49 (.slice none 0 0) (.slice none 0 0)
   have nP1P45:=Nat.ne_of_lt P1.lt
   have nP2P45:=Nat.ne_of_lt P2.lt
   have nP3P45:=Nat.ne_of_lt P3.lt
   have gP45:=hB.size
   have hb:Below w8.heap.size w8 (w8.alloc (.cells #[.slice none 0 0,.slice none 0 0] 49)):=(Below.refl _ _).alloc (Nat.le_refl _) _
   replace P1:=P1.below hb
   replace P2:=P2.below hb
   replace P3:=P3.below hb
   replace ra1:=ra1.below hb
   replace rb1:=rb1.below hb
   replace ra2:=ra2.below hb
   replace rb2:=rb2.below hb
   replace rx4:=rx4.below hb
   replace rx5:=rx5.below hb
   replace hB:=hB.trans (hb.mono hB.size)
   clear hb
   generalize w8.alloc (.cells #[.slice none 0 0,.slice none 0 0] 49)=w47 at P1 P2 P3 ra1 rb1 ra2 rb2 rx4 rx5 P45 hB ⊢
   generalize w8.heap.size=B46 at nP1P45 nP2P45 nP3P45 P45 gP45 ⊢
   refine hK _ _ ⟨P1,P2,P3⟩ ?_
   clear hK K
   refine Rd.tr_move (by simp only[gA,gB,gC];rfl) rfl (by rfl) (fun K hK=>?_)
   have H50:=Lib.hid (add_nat (.slice x4.a x4.n x4.c) (.slice x5.a x5.n x5.c) (a*d) (c*b) w47 rx4 rx5 (Nat.le_trans HLx4.out (by omega)) (Nat.le_trans HLx5.out (by omega)))
   go_simp
   refine H50.out.mono ?_
   rintro e w51 ⟨v49,rfl,rx48,hb⟩
   clear H50
   replace P1:=P1.below hb
   replace P2:=P2.below hb
   replace P3:=P3.below hb
   replace P45:=P45.below hb
   replace ra1:=ra1.below hb
   replace rb1:=rb1.below hb
   replace ra2:=ra2.below hb
   replace rb2:=rb2.below hb
   replace rx4:=rx4.below hb
   replace rx5:=rx5.below hb
   replace hB:=hB.trans (hb.mono hB.size)
   clear hb
   obtain⟨x48,rfl,rx48⟩:=rx48.sl
   have HLx48:Hid ((L ((a*d)+(c*b))).length≤401):=Lib.hid (len_add_le HLx4.out HLx5.out)
   refine hK _ _ ⟨P1,P2,P3⟩ ?_
   clear hK K
   refine Rd.tr_move (by simp only[gA,gB,gC];rfl) rfl (by rfl) (fun K hK=>?_)
   have H54:=Lib.hid (mul_nat (.slice b1.a b1.n b1.c) (.slice b2.a b2.n b2.c) (b) (d) w51 rb1 rb2 (Nat.le_trans lb.out (by omega)) (Nat.le_trans ld.out (by omega)))
   go_simp
   refine H54.out.mono ?_
   rintro e w55 ⟨v53,rfl,rx52,hb⟩
   clear H54
   replace P1:=P1.below hb
   replace P2:=P2.below hb
   replace P3:=P3.below hb
   replace P45:=P45.below hb
   replace ra1:=ra1.below hb
   replace rb1:=rb1.below hb
   replace ra2:=ra2.below hb
   replace rb2:=rb2.below hb
   replace rx4:=rx4.below hb
   replace rx5:=rx5.below hb
   replace rx48:=rx48.below hb
   replace hB:=hB.trans (hb.mono hB.size)
   clear hb
   obtain⟨x52,rfl,rx52⟩:=rx52.sl
   have HLx52:Hid ((L (b*d)).length≤200):=Lib.hid (len_mul_le lb.out ld.out)
   refine hK _ _ ⟨P1,P2,P3⟩ ?_
   clear hK K
   refine Rd.tr_move (by simp only[gA,gB,gC];rfl) rfl (by rfl) (fun K hK=>?_)
   have H58:=Lib.hid (of_nat (.slice x48.a x48.n x48.c) (.slice x52.a x52.n x52.c) ((a*d)+(c*b)) (b*d) w55 rx48 rx52 (Nat.le_trans HLx48.out (by omega)) (Nat.le_trans HLx52.out (by omega)) HNE.out)
   go_simp
   refine H58.out.mono ?_
   rintro e w59 ⟨x56,x57,rfl,rx56,rx57,hb⟩
   clear H58
   replace P1:=P1.below hb
   replace P2:=P2.below hb
   replace P3:=P3.below hb
   replace P45:=P45.below hb
   replace ra1:=ra1.below hb
   replace rb1:=rb1.below hb
   replace ra2:=ra2.below hb
   replace rb2:=rb2.below hb
   replace rx4:=rx4.below hb
   replace rx5:=rx5.below hb
   replace rx48:=rx48.below hb
   replace rx52:=rx52.below hb
   replace hB:=hB.trans (hb.mono hB.size)
   clear hb
   have HLx56:Hid ((L (((a*d)+(c*b)) / Nat.gcd ((a*d)+(c*b)) (b*d))).length≤401):=Lib.hid (len_div_le HLx48.out)
   have HLx57:Hid ((L ((b*d) / Nat.gcd ((a*d)+(c*b)) (b*d))).length≤200):=Lib.hid (len_div_le HLx52.out)
   refine hK _ _ ⟨P1,P2,P3⟩ ?_
   clear hK K
   refine Rd.tr_float (.tuple #[.agg #[.slice x56.a x56.n x56.c,.slice x57.a x57.n x57.c],.int .i64 0]) (by simp only[gA,gB,gC];rfl) rfl (by rfl) (fun X _=>by go_simp) ?_
   simp only[Act.put,sA,sB,sC]
   refine Rd.tr_float (.agg #[.slice x56.a x56.n x56.c,.slice x57.a x57.n x57.c]) (by simp only[gA,gB,gC];rfl) rfl (by rfl) (fun X _=>by go_simp) ?_
   simp only[Act.put,sA,sB,sC]
   refine Rd.tr_float (.int .i64 0) (by simp only[gA,gB,gC];rfl) rfl (by rfl) (fun X _=>by go_simp) ?_
   simp only[Act.put,sA,sB,sC]
   refine Rd.tr_move (by simp only[gA,gB,gC];rfl) rfl (by rfl) (fun K hK=>?_)
   have c0P45:=P45.c0
   have c1P45:=P45.c1
   have z0P45:=P45.z0
   have z1P45:=P45.z1
   go_simp
   clear c0P45 c1P45 z0P45 z1P45
   replace ra1:=ra1.pset P45 (.slice x56.a x56.n x56.c) (.slice x57.a x57.n x57.c)
   replace rb1:=rb1.pset P45 (.slice x56.a x56.n x56.c) (.slice x57.a x57.n x57.c)
   replace ra2:=ra2.pset P45 (.slice x56.a x56.n x56.c) (.slice x57.a x57.n x57.c)
   replace rb2:=rb2.pset P45 (.slice x56.a x56.n x56.c) (.slice x57.a x57.n x57.c)
   replace rx4:=rx4.pset P45 (.slice x56.a x56.n x56.c) (.slice x57.a x57.n x57.c)
   replace rx5:=rx5.pset P45 (.slice x56.a x56.n x56.c) (.slice x57.a x57.n x57.c)
   replace rx48:=rx48.pset P45 (.slice x56.a x56.n x56.c) (.slice x57.a x57.n x57.c)
   replace rx52:=rx52.pset P45 (.slice x56.a x56.n x56.c) (.slice x57.a x57.n x57.c)
   replace rx56:=rx56.pset P45 (.slice x56.a x56.n x56.c) (.slice x57.a x57.n x57.c)
   replace rx57:=rx57.pset P45 (.slice x56.a x56.n x56.c) (.slice x57.a x57.n x57.c)
   replace P1:=P1.other (B:=B46) nP1P45 (.slice x56.a x56.n x56.c) (.slice x57.a x57.n x57.c)
   replace P2:=P2.other (B:=B46) nP2P45 (.slice x56.a x56.n x56.c) (.slice x57.a x57.n x57.c)
   replace P3:=P3.other (B:=B46) nP3P45 (.slice x56.a x56.n x56.c) (.slice x57.a x57.n x57.c)
   replace hB:=Below.pset hB gP45 (.slice x56.a x56.n x56.c) (.slice x57.a x57.n x57.c)
   replace P45:=P45.set (.slice x56.a x56.n x56.c) (.slice x57.a x57.n x57.c)
   generalize (w59.setCell ⟨B46,0,none⟩ (.slice x56.a x56.n x56.c)).setCell ⟨B46,1,none⟩ (.slice x57.a x57.n x57.c)=w60 at P1 P2 P3 P45 ra1 rb1 ra2 rb2 rx4 rx5 rx48 rx52 rx56 rx57 hB ⊢
   refine hK _ _ ⟨P1,P2,P3⟩ ?_
   clear hK K
   refine Rd.tr_float (.int .i64 0) (by simp only[gA,gB,gC];rfl) rfl (by rfl) (fun X _=>by go_simp) ?_
   simp only[Act.put,sA,sB,sC]
   exact Rd.tr_end (⟨B46,x56,x57,_,_,_,_,_,_,_,_,_,_,_,_,_,rfl,rx56,rx57,P45,P3,hB⟩)
 case next=>
  rintro a3 W ⟨BB,p,q,_,_,_,_,_,_,_,_,_,_,_,_,_,rfl,rp,rq,PB,PR,hB⟩
  have c0:=PB.c0
  have c1:=PB.c1
  have e0:=PR.c0
  have e1:=PR.c1
  have z0:=PR.z0
  have z1:=PR.z1
  go_wp2_with fail
  replace rp:=rp.pset PR (.slice p.a p.n p.c) (.slice q.a q.n q.c)
  replace rq:=rq.pset PR (.slice p.a p.n p.c) (.slice q.a q.n q.c)
  replace hB:=Below.pset hB (by omega:w.heap.size≤w.heap.size+1+1) (.slice p.a p.n p.c) (.slice q.a q.n q.c)
  have PRx:=PR.set (.slice p.a p.n p.c) (.slice q.a q.n q.c)
  generalize (W.setCell ⟨w.heap.size+1+1,0,none⟩ (.slice p.a p.n p.c)).setCell ⟨w.heap.size+1+1,1,none⟩ (.slice q.a q.n q.c)=WW at rp rq PRx hB ⊢
  refine bodyPost_ret (v:=.agg #[.slice p.a p.n p.c,.slice q.a q.n q.c]) ?_ rfl (⟨p,q,rfl,rp,rq,hB⟩)
  simp[results,Tryz.f20,go_sem,PRx.c0,PRx.c1]
theorem qmul_nat (a1 b1 a2 b2:Sl) (a b c d:Nat) (w:World) (ra1:RU w a1 a) (rb1:RU w b1 b) (ra2:RU w a2 c) (rb2:RU w b2 d) (la:Hid ((L a).length≤100)) (lb:Hid ((L b).length≤100)) (lc:Hid ((L c).length≤100)) (ld:Hid ((L d).length≤100)) (HNE:Hid (b*d≠0)):
  Calls Tryz.prog 21 #[.agg #[.slice a1.a a1.n a1.c,.slice b1.a b1.n b1.c],.agg #[.slice a2.a a2.n a2.c,.slice b2.a b2.n b2.c]] w fun e w'=>∃p q:Sl,e= .returned (.agg #[.slice p.a p.n p.c,.slice q.a q.n q.c])∧RU w' p ((a*c) / Nat.gcd (a*c) (b*d))∧RU w' q ((b*d) / Nat.gcd (a*c) (b*d))∧Below w.heap.size w w':=by
 go_enter Tryz.func21,Tryz.ntmps21
 have hb:Below w.heap.size w (((w.alloc (.cells #[.slice a1.a a1.n a1.c,.slice b1.a b1.n b1.c] 49)).alloc (.cells #[.slice a2.a a2.n a2.c,.slice b2.a b2.n b2.c] 49)).alloc (.cells #[.slice none 0 0,.slice none 0 0] 49)):=((((Below.refl _ _).alloc (Nat.le_refl _) _).alloc (by simp) _).alloc (by simp;omega) _)
 replace ra1:=ra1.below hb
 replace rb1:=rb1.below hb
 replace ra2:=ra2.below hb
 replace rb2:=rb2.below hb
 have hB:=hb
 have P1:Pair (((w.alloc (.cells #[.slice a1.a a1.n a1.c,.slice b1.a b1.n b1.c] 49)).alloc (.cells #[.slice a2.a a2.n a2.c,.slice b2.a b2.n b2.c] 49)).alloc (.cells #[.slice none 0 0,.slice none 0 0] 49)) (w.heap.size) 49 (.slice a1.a a1.n a1.c) (.slice b1.a b1.n b1.c):=by
  have h:=((Pair.new w 49 (.slice a1.a a1.n a1.c) (.slice b1.a b1.n b1.c)).alloc (.cells #[.slice a2.a a2.n a2.c,.slice b2.a b2.n b2.c] 49)).alloc (.cells #[.slice none 0 0,.slice none 0 0] 49)
  simpa only[World.size_alloc] using h
 have P2:Pair (((w.alloc (.cells #[.slice a1.a a1.n a1.c,.slice b1.a b1.n b1.c] 49)).alloc (.cells #[.slice a2.a a2.n a2.c,.slice b2.a b2.n b2.c] 49)).alloc (.cells #[.slice none 0 0,.slice none 0 0] 49)) (w.heap.size+1) 49 (.slice a2.a a2.n a2.c) (.slice b2.a b2.n b2.c):=by
  have h:=(Pair.new (w.alloc (.cells #[.slice a1.a a1.n a1.c,.slice b1.a b1.n b1.c] 49)) 49 (.slice a2.a a2.n a2.c) (.slice b2.a b2.n b2.c)).alloc (.cells #[.slice none 0 0,.slice none 0 0] 49)
  simpa only[World.size_alloc] using h
 have P3:Pair (((w.alloc (.cells #[.slice a1.a a1.n a1.c,.slice b1.a b1.n b1.c] 49)).alloc (.cells #[.slice a2.a a2.n a2.c,.slice b2.a b2.n b2.c] 49)).alloc (.cells #[.slice none 0 0,.slice none 0 0] 49)) (w.heap.size+1+1) 49 (.slice none 0 0) (.slice none 0 0):=by
  have h:=Pair.new ((w.alloc (.cells #[.slice a1.a a1.n a1.c,.slice b1.a b1.n b1.c] 49)).alloc (.cells #[.slice a2.a a2.n a2.c,.slice b2.a b2.n b2.c] 49)) 49 (.slice none 0 0) (.slice none 0 0)
  simpa only[World.size_alloc] using h
 clear hb
 have c0P1:=P1.c0
 have c1P1:=P1.c1
 have c0P2:=P2.c0
 have c1P2:=P2.c1
 have c0P3:=P3.c0
 have c1P3:=P3.c1
 go_wp2_with fail
 clear c0P1 c1P1 c0P2 c1P2 c0P3 c1P3
 have hb:Below (((w.alloc (.cells #[.slice a1.a a1.n a1.c,.slice b1.a b1.n b1.c] 49)).alloc (.cells #[.slice a2.a a2.n a2.c,.slice b2.a b2.n b2.c] 49)).alloc (.cells #[.slice none 0 0,.slice none 0 0] 49)).heap.size (((w.alloc (.cells #[.slice a1.a a1.n a1.c,.slice b1.a b1.n b1.c] 49)).alloc (.cells #[.slice a2.a a2.n a2.c,.slice b2.a b2.n b2.c] 49)).alloc (.cells #[.slice none 0 0,.slice none 0 0] 49)) (((w.alloc (.cells #[.slice a1.a a1.n a1.c,.slice b1.a b1.n b1.c] 49)).alloc (.cells #[.slice a2.a a2.n a2.c,.slice b2.a b2.n b2.c] 49)).alloc (.cells #[.slice none 0 0,.slice none 0 0] 49)).drew:=(Below.refl _ _).drew
 replace P1:=P1.below hb
 replace P2:=P2.below hb
 replace P3:=P3.below hb
 replace ra1:=ra1.below hb
 replace rb1:=rb1.below hb
 replace ra2:=ra2.below hb
 replace rb2:=rb2.below hb
 replace hB:=hB.trans (hb.mono hB.size)
 clear hb
 refine Rd.regionT (fun X=>Pair X (w.heap.size) 49 (.slice a1.a a1.n a1.c) (.slice b1.a b1.n b1.c)∧Pair X (w.heap.size+1) 49 (.slice a2.a a2.n a2.c) (.slice b2.a b2.n b2.c)∧Pair X (w.heap.size+1+1) 49 (.slice none 0 0) (.slice none 0 0)) [0,1,2,3,5,6,7,8,11,12,13,16] (.one 0 (.one 1 (.one 2 (.one 3 (.one 5 (.one 6 (.one 7 (.one 8 (.two 4 (.two 9 (.two 10 (.one 11 (.one 12 (.one 13 (.one 14 (.one 15 (.one 16 .done)))))) 14 (.one 10 (.one 11 (.one 12 (.one 13 (.one 15 (.one 16 .done))))))) 14 (.one 9 (.one 10 (.one 11 (.one 12 (.one 13 (.one 15 (.one 16 .done)))))))) 14 (.one 4 (.one 9 (.one 10 (.one 11 (.one 12 (.one 13 (.one 15 (.one 16 .done))))))))))))))))) (fun ac W=>∃(BB:Nat) (p:Sl) (q:Sl) (y6 y7 y8 y9 y10 y11 y12 y13 y14 y15 y16 y17 y18 y19 y20:Value),ac={ tmps:=List.toArray (.agg #[.slice a1.a a1.n a1.c,.slice b1.a b1.n b1.c]:: .agg #[.slice a2.a a2.n a2.c,.slice b2.a b2.n b2.c]:: .pointer (some ⟨w.heap.size,0,none⟩):: .pointer (some ⟨w.heap.size+1,0,none⟩):: .pointer (some ⟨w.heap.size+1+1,0,none⟩):: .pointer (some ⟨BB,0,none⟩)::y6::y7::y8::y9::y10::y11::y12::y13::y14::y15::y16::y17::y18::y19::y20::undef::[]),defers:=[] }∧RU W p ((a*c) / Nat.gcd (a*c) (b*d))∧RU W q ((b*d) / Nat.gcd (a*c) (b*d))∧Pair W BB 49 (.slice p.a p.n p.c) (.slice q.a q.n q.c)∧Pair W (w.heap.size+1+1) 49 (.slice none 0 0) (.slice none 0 0)∧Below w.heap.size w W) (by kernel_rfl) (by kernel_rfl) (by kernel_rfl) ⟨P1,P2,P3⟩ ?tree ?next
 case tree=>
  generalize (((w.alloc (.cells #[.slice a1.a a1.n a1.c,.slice b1.a b1.n b1.c] 49)).alloc (.cells #[.slice a2.a a2.n a2.c,.slice b2.a b2.n b2.c] 49)).alloc (.cells #[.slice none 0 0,.slice none 0 0] 49)).drew=w4 at P1 P2 P3 ra1 rb1 ra2 rb2 hB ⊢
  refine Rd.tr_float (.pointer (some ⟨w.heap.size,0,none⟩)) (by simp only[gA,gC];rfl) rfl (by rfl) (fun X _=>by go_simp) ?_
  simp only[Act.put,sA,sB,sC]
  refine Rd.tr_float (.slice a1.a a1.n a1.c) (by simp only[gA,gB,gC];rfl) rfl (by rfl) (fun X hX=>by have h0:=hX.1.c0;have h1:=hX.1.c1;go_simp) ?_
  simp only[Act.put,sA,sB,sC]
  refine Rd.tr_float (.pointer (some ⟨w.heap.size+1,0,none⟩)) (by simp only[gA,gB,gC];rfl) rfl (by rfl) (fun X _=>by go_simp) ?_
  simp only[Act.put,sA,sB,sC]
  refine Rd.tr_float (.slice a2.a a2.n a2.c) (by simp only[gA,gB,gC];rfl) rfl (by rfl) (fun X hX=>by have h0:=hX.2.1.c0;have h1:=hX.2.1.c1;go_simp) ?_
  simp only[Act.put,sA,sB,sC]
  refine Rd.tr_float (.pointer (some ⟨w.heap.size,1,none⟩)) (by simp only[gA,gB,gC];rfl) rfl (by rfl) (fun X _=>by go_simp) ?_
  simp only[Act.put,sA,sB,sC]
  refine Rd.tr_float (.slice b1.a b1.n b1.c) (by simp only[gA,gB,gC];rfl) rfl (by rfl) (fun X hX=>by have h0:=hX.1.c0;have h1:=hX.1.c1;go_simp) ?_
  simp only[Act.put,sA,sB,sC]
  refine Rd.tr_float (.pointer (some ⟨w.heap.size+1,1,none⟩)) (by simp only[gA,gB,gC];rfl) rfl (by rfl) (fun X _=>by go_simp) ?_
  simp only[Act.put,sA,sB,sC]
  refine Rd.tr_float (.slice b2.a b2.n b2.c) (by simp only[gA,gB,gC];rfl) rfl (by rfl) (fun X hX=>by have h0:=hX.2.1.c0;have h1:=hX.2.1.c1;go_simp) ?_
  simp only[Act.put,sA,sB,sC]
  refine Rd.tr_two (by simp only[gA,gB,gC];rfl) (by rfl) (by simp only[gA,gB,gC];rfl) (by rfl) (fun K hK=>?_) (fun K hK=>?_)
  ·skip
   have H7:=Lib.hid (mul_nat (.slice a1.a a1.n a1.c) (.slice a2.a a2.n a2.c) (a) (c) w4 ra1 ra2 (Nat.le_trans la.out (by omega)) (Nat.le_trans lc.out (by omega)))
   go_simp
   refine H7.out.mono ?_
   rintro e w8 ⟨v6,rfl,rx5,hb⟩
   clear H7
   replace P1:=P1.below hb
   replace P2:=P2.below hb
   replace P3:=P3.below hb
   replace ra1:=ra1.below hb
   replace rb1:=rb1.below hb
   replace ra2:=ra2.below hb
   replace rb2:=rb2.below hb
   replace hB:=hB.trans (hb.mono hB.size)
   clear hb
   obtain⟨x5,rfl,rx5⟩:=rx5.sl
   have HLx5:Hid ((L (a*c)).length≤200):=Lib.hid (len_mul_le la.out lc.out)
   refine hK _ _ ⟨P1,P2,P3⟩ ?_
   clear hK K
   refine Rd.tr_two (by simp only[gA,gB,gC];rfl) (by rfl) (by simp only[gA,gB,gC];rfl) (by rfl) (fun K hK=>?_) (fun K hK=>?_)
   ·skip
    have H11:=Lib.hid (mul_nat (.slice b1.a b1.n b1.c) (.slice b2.a b2.n b2.c) (b) (d) w8 rb1 rb2 (Nat.le_trans lb.out (by omega)) (Nat.le_trans ld.out (by omega)))
    go_simp
    refine H11.out.mono ?_
    rintro e w12 ⟨v10,rfl,rx9,hb⟩
    clear H11
    replace P1:=P1.below hb
    replace P2:=P2.below hb
    replace P3:=P3.below hb
    replace ra1:=ra1.below hb
    replace rb1:=rb1.below hb
    replace ra2:=ra2.below hb
    replace rb2:=rb2.below hb
    replace rx5:=rx5.below hb
    replace hB:=hB.trans (hb.mono hB.size)
    clear hb
    obtain⟨x9,rfl,rx9⟩:=rx9.sl
    have HLx9:Hid ((L (b*d)).length≤200):=Lib.hid (len_mul_le lb.out ld.out)
    refine hK _ _ ⟨P1,P2,P3⟩ ?_
    clear hK K
    refine Rd.tr_two (by simp only[gA,gB,gC];rfl) (by rfl) (by simp only[gA,gB,gC];rfl) (by rfl) (fun K hK=>?_) (fun K hK=>?_)
    ·skip
     have H15:=Lib.hid (of_nat (.slice x5.a x5.n x5.c) (.slice x9.a x9.n x9.c) (a*c) (b*d) w12 rx5 rx9 (Nat.le_trans HLx5.out (by omega)) (Nat.le_trans HLx9.out (by omega)) HNE.out)
     go_simp
     refine H15.out.mono ?_
     rintro e w16 ⟨x13,x14,rfl,rx13,rx14,hb⟩
     clear H15
     replace P1:=P1.below hb
     replace P2:=P2.below hb
     replace P3:=P3.below hb
     replace ra1:=ra1.below hb
     replace rb1:=rb1.below hb
     replace ra2:=ra2.below hb
     replace rb2:=rb2.below hb
     replace rx5:=rx5.below hb
     replace rx9:=rx9.below hb
     replace hB:=hB.trans (hb.mono hB.size)
     clear hb
     have HLx13:Hid ((L ((a*c) / Nat.gcd (a*c) (b*d))).length≤200):=Lib.hid (len_div_le HLx5.out)
     have HLx14:Hid ((L ((b*d) / Nat.gcd (a*c) (b*d))).length≤200):=Lib.hid (len_div_le HLx9.out)
     refine hK _ _ ⟨P1,P2,P3⟩ ?_
     clear hK K
     refine Rd.tr_float (.tuple #[.agg #[.slice x13.a x13.n x13.c,.slice x14.a x14.n x14.c],.int .i64 0]) (by simp only[gA,gB,gC];rfl) rfl (by rfl) (fun X _=>by go_simp) ?_
     simp only[Act.put,sA,sB,sC]
     refine Rd.tr_float (.agg #[.slice x13.a x13.n x13.c,.slice x14.a x14.n x14.c]) (by simp only[gA,gB,gC];rfl) rfl (by rfl) (fun X _=>by go_simp) ?_
     simp only[Act.put,sA,sB,sC]
     refine Rd.tr_float (.int .i64 0) (by simp only[gA,gB,gC];rfl) rfl (by rfl) (fun X _=>by go_simp) ?_
     simp only[Act.put,sA,sB,sC]
     refine Rd.tr_move (by simp only[gA,gB,gC];rfl) rfl (by rfl) (fun K hK=>?_)
     go_simp
     have P17:=Pair.new w16 49 (.slice none 0 0) (.slice none 0 0)
     have nP1P17:=Nat.ne_of_lt P1.lt
     have nP2P17:=Nat.ne_of_lt P2.lt
     have nP3P17:=Nat.ne_of_lt P3.lt
     have gP17:=hB.size
     have hb:Below w16.heap.size w16 (w16.alloc (.cells #[.slice none 0 0,.slice none 0 0] 49)):=(Below.refl _ _).alloc (Nat.le_refl _) _
     replace P1:=P1.below hb
     replace P2:=P2.below hb
     replace P3:=P3.below hb
     replace ra1:=ra1.below hb
     replace rb1:=rb1.below hb
     replace ra2:=ra2.below hb
     replace rb2:=rb2.below hb
     replace rx5:=rx5.below hb
     replace rx9:=rx9.below hb
     replace rx13:=rx13.below hb
     replace rx14:=rx14.below hb
     replace hB:=hB.trans (hb.mono hB.size)
     clear hb
     generalize w16.alloc (.cells #[.slice none 0 0,.slice none 0 0] 49)=w19 at P1 P2 P3 ra1 rb1 ra2 rb2 rx5 rx9 rx13 rx14 P17 hB ⊢
     generalize w16.heap.size=B18 at nP1P17 nP2P17 nP3P17 P17 gP17 ⊢
     refine hK _ _ ⟨P1,P2,P3⟩ ?_
     clear hK K
     refine Rd.tr_move (by simp only[gA,gB,gC];rfl) rfl (by rfl) (fun K hK=>?_)
     have c0P17:=P17.c0
     have c1P17:=P17.c1
     have z0P17:=P17.z0
     have z1P17:=P17.z1
     go_simp
     clear c0P17 c1P17 z0P17 z1P17
     replace ra1:=ra1.pset P17 (.slice x13.a x13.n x13.c) (.slice x14.a x14.n x14.c)
     replace rb1:=rb1.pset P17 (.slice x13.a x13.n x13.c) (.slice x14.a x14.n x14.c)
     replace ra2:=ra2.pset P17 (.slice x13.a x13.n x13.c) (.slice x14.a x14.n x14.c)
     replace rb2:=rb2.pset P17 (.slice x13.a x13.n x13.c) (.slice x14.a x14.n x14.c)
     replace rx5:=rx5.pset P17 (.slice x13.a x13.n x13.c) (.slice x14.a x14.n x14.c)
     replace rx9:=rx9.pset P17 (.slice x13.a x13.n x13.c) (.slice x14.a x14.n x14.c)
     replace rx13:=rx13.pset P17 (.slice x13.a x13.n x13.c) (.slice x14.a x14.n x14.c)
     replace rx14:=rx14.pset P17 (.slice x13.a x13.n x13.c) (.slice x14.a x14.n x14.c)
     replace P1:=P1.other (B:=B18) nP1P17 (.slice x13.a x13.n x13.c) (.slice x14.a x14.n x14.c)
     replace P2:=P2.other (B:=B18) nP2P17 (.slice x13.a x13.n x13.c) (.slice x14.a x14.n x14.c)
     replace P3:=P3.other (B:=B18) nP3P17 (.slice x13.a x13.n x13.c) (.slice x14.a x14.n x14.c)
     replace hB:=Below.pset hB gP17 (.slice x13.a x13.n x13.c) (.slice x14.a x14.n x14.c)
     replace P17:=P17.set (.slice x13.a x13.n x13.c) (.slice x14.a x14.n x14.c)
     generalize (w19.setCell ⟨B18,0,none⟩ (.slice x13.a x13.n x13.c)).setCell ⟨B18,1,none⟩ (.slice x14.a x14.n x14.c)=w20 at P1 P2 P3 P17 ra1 rb1 ra2 rb2 rx5 rx9 rx13 rx14 hB ⊢
     refine hK _ _ ⟨P1,P2,P3⟩ ?_
     clear hK K
     refine Rd.tr_float (.int .i64 0) (by simp only[gA,gB,gC];rfl) rfl (by rfl) (fun X _=>by go_simp) ?_
     simp only[Act.put,sA,sB,sC]
     exact Rd.tr_end (⟨B18,x13,x14,_,_,_,_,_,_,_,_,_,_,_,_,_,_,_,rfl,rx13,rx14,P17,P3,hB⟩)
    ·skip
     go_simp
     have P21:=Pair.new w12 49 (.slice none 0 0) (.slice none 0 0)
     have nP1P21:=Nat.ne_of_lt P1.lt
     have nP2P21:=Nat.ne_of_lt P2.lt
     have nP3P21:=Nat.ne_of_lt P3.lt
     have gP21:=hB.size
     have hb:Below w12.heap.size w12 (w12.alloc (.cells #[.slice none 0 0,.slice none 0 0] 49)):=(Below.refl _ _).alloc (Nat.le_refl _) _
     replace P1:=P1.below hb
     replace P2:=P2.below hb
     replace P3:=P3.below hb
     replace ra1:=ra1.below hb
     replace rb1:=rb1.below hb
     replace ra2:=ra2.below hb
     replace rb2:=rb2.below hb
     replace rx5:=rx5.below hb
     replace rx9:=rx9.below hb
     replace hB:=hB.trans (hb.mono hB.size)
     clear hb
     generalize w12.alloc (.cells #[.slice none 0 0,.slice none 0 0] 49)=w23 at P1 P2 P3 ra1 rb1 ra2 rb2 rx5 rx9 P21 hB ⊢
     generalize w12.heap.size=B22 at nP1P21 nP2P21 nP3P21 P21 gP21 ⊢
     refine hK _ _ ⟨P1,P2,P3⟩ ?_
     clear hK K
     refine Rd.tr_move (by simp only[gA,gB,gC];rfl) rfl (by rfl) (fun K hK=>?_)
     have H26:=Lib.hid (of_nat (.slice x5.a x5.n x5.c) (.slice x9.a x9.n x9.c) (a*c) (b*d) w23 rx5 rx9 (Nat.le_trans HLx5.out (by omega)) (Nat.le_trans HLx9.out (by omega)) HNE.out)
     go_simp
     refine H26.out.mono ?_
     rintro e w27 ⟨x24,x25,rfl,rx24,rx25,hb⟩
     clear H26
     replace P1:=P1.below hb
     replace P2:=P2.below hb
     replace P3:=P3.below hb
     replace P21:=P21.below hb
     replace ra1:=ra1.below hb
     replace rb1:=rb1.below hb
     replace ra2:=ra2.below hb
     replace rb2:=rb2.below hb
     replace rx5:=rx5.below hb
     replace rx9:=rx9.below hb
     replace hB:=hB.trans (hb.mono hB.size)
     clear hb
     have HLx24:Hid ((L ((a*c) / Nat.gcd (a*c) (b*d))).length≤200):=Lib.hid (len_div_le HLx5.out)
     have HLx25:Hid ((L ((b*d) / Nat.gcd (a*c) (b*d))).length≤200):=Lib.hid (len_div_le HLx9.out)
     refine hK _ _ ⟨P1,P2,P3⟩ ?_
     clear hK K
     refine Rd.tr_float (.tuple #[.agg #[.slice x24.a x24.n x24.c,.slice x25.a x25.n x25.c],.int .i64 0]) (by simp only[gA,gB,gC];rfl) rfl (by rfl) (fun X _=>by go_simp) ?_
     simp only[Act.put,sA,sB,sC]
     refine Rd.tr_float (.agg #[.slice x24.a x24.n x24.c,.slice x25.a x25.n x25.c]) (by simp only[gA,gB,gC];rfl) rfl (by rfl) (fun X _=>by go_simp) ?_
     simp only[Act.put,sA,sB,sC]
     refine Rd.tr_float (.int .i64 0) (by simp only[gA,gB,gC];rfl) rfl (by rfl) (fun X _=>by go_simp) ?_
     simp only[Act.put,sA,sB,sC]
     refine Rd.tr_move (by simp only[gA,gB,gC];rfl) rfl (by rfl) (fun K hK=>?_)
     have c0P21:=P21.c0
     have c1P21:=P21.c1
     have z0P21:=P21.z0
     have z1P21:=P21.z1
     go_simp
     clear c0P21 c1P21 z0P21 z1P21
     replace ra1:=ra1.pset P21 (.slice x24.a x24.n x24.c) (.slice x25.a x25.n x25.c)
     replace rb1:=rb1.pset P21 (.slice x24.a x24.n x24.c) (.slice x25.a x25.n x25.c)
     replace ra2:=ra2.pset P21 (.slice x24.a x24.n x24.c) (.slice x25.a x25.n x25.c)
     replace rb2:=rb2.pset P21 (.slice x24.a x24.n x24.c) (.slice x25.a x25.n x25.c)
     replace rx5:=rx5.pset P21 (.slice x24.a x24.n x24.c) (.slice x25.a x25.n x25.c)
     replace rx9:=rx9.pset P21 (.slice x24.a x24.n x24.c) (.slice x25.a x25.n x25.c)
     replace rx24:=rx24.pset P21 (.slice x24.a x24.n x24.c) (.slice x25.a x25.n x25.c)
     replace rx25:=rx25.pset P21 (.slice x24.a x24.n x24.c) (.slice x25.a x25.n x25.c)
     replace P1:=P1.other (B:=B22) nP1P21 (.slice x24.a x24.n x24.c) (.slice x25.a x25.n x25.c)
     replace P2:=P2.other (B:=B22) nP2P21 (.slice x24.a x24.n x24.c) (.slice x25.a x25.n x25.c)
     replace P3:=P3.other (B:=B22) nP3P21 (.slice x24.a x24.n x24.c) (.slice x25.a x25.n x25.c)
     replace hB:=Below.pset hB gP21 (.slice x24.a x24.n x24.c) (.slice x25.a x25.n x25.c)
     replace P21:=P21.set (.slice x24.a x24.n x24.c) (.slice x25.a x25.n x25.c)
     generalize (w27.setCell ⟨B22,0,none⟩ (.slice x24.a x24.n x24.c)).setCell ⟨B22,1,none⟩ (.slice x25.a x25.n x25.c)=w28 at P1 P2 P3 P21 ra1 rb1 ra2 rb2 rx5 rx9 rx24 rx25 hB ⊢
     refine hK _ _ ⟨P1,P2,P3⟩ ?_
     clear hK K
     refine Rd.tr_float (.int .i64 0) (by simp only[gA,gB,gC];rfl) rfl (by rfl) (fun X _=>by go_simp) ?_
     simp only[Act.put,sA,sB,sC]
     exact Rd.tr_end (⟨B22,x24,x25,_,_,_,_,_,_,_,_,_,_,_,_,_,_,_,rfl,rx24,rx25,P21,P3,hB⟩)
   ·skip
    go_simp
    have P29:=Pair.new w8 49 (.slice none 0 0) (.slice none 0 0)
    have nP1P29:=Nat.ne_of_lt P1.lt
    have nP2P29:=Nat.ne_of_lt P2.lt
    have nP3P29:=Nat.ne_of_lt P3.lt
    have gP29:=hB.size
    have hb:Below w8.heap.size w8 (w8.alloc (.cells #[.slice none 0 0,.slice none 0 0] 49)):=(Below.refl _ _).alloc (Nat.le_refl _) _
    replace P1:=P1.below hb
    replace P2:=P2.below hb
    replace P3:=P3.below hb
    replace ra1:=ra1.below hb
    replace rb1:=rb1.below hb
    replace ra2:=ra2.below hb
    replace rb2:=rb2.below hb
    replace rx5:=rx5.below hb
    replace hB:=hB.trans (hb.mono hB.size)
    clear hb
    generalize w8.alloc (.cells #[.slice none 0 0,.slice none 0 0] 49)=w31 at P1 P2 P3 ra1 rb1 ra2 rb2 rx5 P29 hB ⊢
    generalize w8.heap.size=B30 at nP1P29 nP2P29 nP3P29 P29 gP29 ⊢
    refine hK _ _ ⟨P1,P2,P3⟩ ?_
    clear hK K
    refine Rd.tr_move (by simp only[gA,gB,gC];rfl) rfl (by rfl) (fun K hK=>?_)
    have H34:=Lib.hid (mul_nat (.slice b1.a b1.n b1.c) (.slice b2.a b2.n b2.c) (b) (d) w31 rb1 rb2 (Nat.le_trans lb.out (by omega)) (Nat.le_trans ld.out (by omega)))
    go_simp
    refine H34.out.mono ?_
    rintro e w35 ⟨v33,rfl,rx32,hb⟩
    clear H34
    replace P1:=P1.below hb
    replace P2:=P2.below hb
    replace P3:=P3.below hb
    replace P29:=P29.below hb
    replace ra1:=ra1.below hb
    replace rb1:=rb1.below hb
    replace ra2:=ra2.below hb
    replace rb2:=rb2.below hb
    replace rx5:=rx5.below hb
    replace hB:=hB.trans (hb.mono hB.size)
    clear hb
    obtain⟨x32,rfl,rx32⟩:=rx32.sl
    have HLx32:Hid ((L (b*d)).length≤200):=Lib.hid (len_mul_le lb.out ld.out)
    refine hK _ _ ⟨P1,P2,P3⟩ ?_
    clear hK K
    refine Rd.tr_move (by simp only[gA,gB,gC];rfl) rfl (by rfl) (fun K hK=>?_)
    have H38:=Lib.hid (of_nat (.slice x5.a x5.n x5.c) (.slice x32.a x32.n x32.c) (a*c) (b*d) w35 rx5 rx32 (Nat.le_trans HLx5.out (by omega)) (Nat.le_trans HLx32.out (by omega)) HNE.out)
    go_simp
    refine H38.out.mono ?_
    rintro e w39 ⟨x36,x37,rfl,rx36,rx37,hb⟩
    clear H38
    replace P1:=P1.below hb
    replace P2:=P2.below hb
    replace P3:=P3.below hb
    replace P29:=P29.below hb
    replace ra1:=ra1.below hb
    replace rb1:=rb1.below hb
    replace ra2:=ra2.below hb
    replace rb2:=rb2.below hb
    replace rx5:=rx5.below hb
    replace rx32:=rx32.below hb
    replace hB:=hB.trans (hb.mono hB.size)
    clear hb
    have HLx36:Hid ((L ((a*c) / Nat.gcd (a*c) (b*d))).length≤200):=Lib.hid (len_div_le HLx5.out)
    have HLx37:Hid ((L ((b*d) / Nat.gcd (a*c) (b*d))).length≤200):=Lib.hid (len_div_le HLx32.out)
    refine hK _ _ ⟨P1,P2,P3⟩ ?_
    clear hK K
    refine Rd.tr_float (.tuple #[.agg #[.slice x36.a x36.n x36.c,.slice x37.a x37.n x37.c],.int .i64 0]) (by simp only[gA,gB,gC];rfl) rfl (by rfl) (fun X _=>by go_simp) ?_
    simp only[Act.put,sA,sB,sC]
    refine Rd.tr_float (.agg #[.slice x36.a x36.n x36.c,.slice x37.a x37.n x37.c]) (by simp only[gA,gB,gC];rfl) rfl (by rfl) (fun X _=>by go_simp) ?_
    simp only[Act.put,sA,sB,sC]
    refine Rd.tr_float (.int .i64 0) (by simp only[gA,gB,gC];rfl) rfl (by rfl) (fun X _=>by go_simp) ?_
    simp only[Act.put,sA,sB,sC]
    refine Rd.tr_move (by simp only[gA,gB,gC];rfl) rfl (by rfl) (fun K hK=>?_)
    have c0P29:=P29.c0
    have c1P29:=P29.c1
    have z0P29:=P29.z0
    have z1P29:=P29.z1
    go_simp
    clear c0P29 c1P29 z0P29 z1P29
    replace ra1:=ra1.pset P29 (.slice x36.a x36.n x36.c) (.slice x37.a x37.n x37.c)
    replace rb1:=rb1.pset P29 (.slice x36.a x36.n x36.c) (.slice x37.a x37.n x37.c)
    replace ra2:=ra2.pset P29 (.slice x36.a x36.n x36.c) (.slice x37.a x37.n x37.c)
    replace rb2:=rb2.pset P29 (.slice x36.a x36.n x36.c) (.slice x37.a x37.n x37.c)
    replace rx5:=rx5.pset P29 (.slice x36.a x36.n x36.c) (.slice x37.a x37.n x37.c)
    replace rx32:=rx32.pset P29 (.slice x36.a x36.n x36.c) (.slice x37.a x37.n x37.c)
    replace rx36:=rx36.pset P29 (.slice x36.a x36.n x36.c) (.slice x37.a x37.n x37.c)
    replace rx37:=rx37.pset P29 (.slice x36.a x36.n x36.c) (.slice x37.a x37.n x37.c)
    replace P1:=P1.other (B:=B30) nP1P29 (.slice x36.a x36.n x36.c) (.slice x37.a x37.n x37.c)
    replace P2:=P2.other (B:=B30) nP2P29 (.slice x36.a x36.n x36.c) (.slice x37.a x37.n x37.c)
    replace P3:=P3.other (B:=B30) nP3P29 (.slice x36.a x36.n x36.c) (.slice x37.a x37.n x37.c)
    replace hB:=Below.pset hB gP29 (.slice x36.a x36.n x36.c) (.slice x37.a x37.n x37.c)
    replace P29:=P29.set (.slice x36.a x36.n x36.c) (.slice x37.a x37.n x37.c)
    generalize (w39.setCell ⟨B30,0,none⟩ (.slice x36.a x36.n x36.c)).setCell ⟨B30,1,none⟩ (.slice x37.a x37.n x37.c)=w40 at P1 P2 P3 P29 ra1 rb1 ra2 rb2 rx5 rx32 rx36 rx37 hB ⊢
    refine hK _ _ ⟨P1,P2,P3⟩ ?_
    clear hK K
    refine Rd.tr_float (.int .i64 0) (by simp only[gA,gB,gC];rfl) rfl (by rfl) (fun X _=>by go_simp) ?_
    simp only[Act.put,sA,sB,sC]
    exact Rd.tr_end (⟨B30,x36,x37,_,_,_,_,_,_,_,_,_,_,_,_,_,_,_,rfl,rx36,rx37,P29,P3,hB⟩)
  ·skip
   go_simp
   have P41:=Pair.new w4 49 (.slice none 0 0) (.slice none 0 0)
   have nP1P41:=Nat.ne_of_lt P1.lt
   have nP2P41:=Nat.ne_of_lt P2.lt
   have nP3P41:=Nat.ne_of_lt P3.lt
   have gP41:=hB.size
   have hb:Below w4.heap.size w4 (w4.alloc (.cells #[.slice none 0 0,.slice none 0 0] 49)):=(Below.refl _ _).alloc (Nat.le_refl _) _
   replace P1:=P1.below hb
   replace P2:=P2.below hb
   replace P3:=P3.below hb
   replace ra1:=ra1.below hb
   replace rb1:=rb1.below hb
   replace ra2:=ra2.below hb
   replace rb2:=rb2.below hb
   replace hB:=hB.trans (hb.mono hB.size)
   clear hb
   generalize w4.alloc (.cells #[.slice none 0 0,.slice none 0 0] 49)=w43 at P1 P2 P3 ra1 rb1 ra2 rb2 P41 hB ⊢
   generalize w4.heap.size=B42 at nP1P41 nP2P41 nP3P41 P41 gP41 ⊢
   refine hK _ _ ⟨P1,P2,P3⟩ ?_
   clear hK K
   refine Rd.tr_move (by simp only[gA,gB,gC];rfl) rfl (by rfl) (fun K hK=>?_)
   have H46:=Lib.hid (mul_nat (.slice a1.a a1.n a1.c) (.slice a2.a a2.n a2.c) (a) (c) w43 ra1 ra2 (Nat.le_trans la.out (by omega)) (Nat.le_trans lc.out (by omega)))
   go_simp
   refine H46.out.mono ?_
   rintro e w47 ⟨v45,rfl,rx44,hb⟩
   clear H46
   replace P1:=P1.below hb
   replace P2:=P2.below hb
   replace P3:=P3.below hb
   replace P41:=P41.below hb
   replace ra1:=ra1.below hb
   replace rb1:=rb1.below hb
   replace ra2:=ra2.below hb
   replace rb2:=rb2.below hb
   replace hB:=hB.trans (hb.mono hB.size)
   clear hb
   obtain⟨x44,rfl,rx44⟩:=rx44.sl
   have HLx44:Hid ((L (a*c)).length≤200):=Lib.hid (len_mul_le la.out lc.out)
   refine hK _ _ ⟨P1,P2,P3⟩ ?_
   clear hK K
   refine Rd.tr_move (by simp only[gA,gB,gC];rfl) rfl (by rfl) (fun K hK=>?_)
   have H50:=Lib.hid (mul_nat (.slice b1.a b1.n b1.c) (.slice b2.a b2.n b2.c) (b) (d) w47 rb1 rb2 (Nat.le_trans lb.out (by omega)) (Nat.le_trans ld.out (by omega)))
   go_simp
   refine H50.out.mono ?_
   rintro e w51 ⟨v49,rfl,rx48,hb⟩
   clear H50
   replace P1:=P1.below hb
   replace P2:=P2.below hb
   replace P3:=P3.below hb
   replace P41:=P41.below hb
   replace ra1:=ra1.below hb
   replace rb1:=rb1.below hb
   replace ra2:=ra2.below hb
   replace rb2:=rb2.below hb
   replace rx44:=rx44.below hb
   replace hB:=hB.trans (hb.mono hB.size)
   clear hb
   obtain⟨x48,rfl,rx48⟩:=rx48.sl
   have HLx48:Hid ((L (b*d)).length≤200):=Lib.hid (len_mul_le lb.out ld.out)
   refine hK _ _ ⟨P1,P2,P3⟩ ?_
   clear hK K
   refine Rd.tr_move (by simp only[gA,gB,gC];rfl) rfl (by rfl) (fun K hK=>?_)
   have H54:=Lib.hid (of_nat (.slice x44.a x44.n x44.c) (.slice x48.a x48.n x48.c) (a*c) (b*d) w51 rx44 rx48 (Nat.le_trans HLx44.out (by omega)) (Nat.le_trans HLx48.out (by omega)) HNE.out)
   go_simp
   refine H54.out.mono ?_
   rintro e w55 ⟨x52,x53,rfl,rx52,rx53,hb⟩
   clear H54
   replace P1:=P1.below hb
   replace P2:=P2.below hb
   replace P3:=P3.below hb
   replace P41:=P41.below hb
   replace ra1:=ra1.below hb
   replace rb1:=rb1.below hb
   replace ra2:=ra2.below hb
   replace rb2:=rb2.below hb
   replace rx44:=rx44.below hb
   replace rx48:=rx48.below hb
   replace hB:=hB.trans (hb.mono hB.size)
   clear hb
   have HLx52:Hid ((L ((a*c) / Nat.gcd (a*c) (b*d))).length≤200):=Lib.hid (len_div_le HLx44.out)
   have HLx53:Hid ((L ((b*d) / Nat.gcd (a*c) (b*d))).length≤200):=Lib.hid (len_div_le HLx48.out)
   refine hK _ _ ⟨P1,P2,P3⟩ ?_
   clear hK K
   refine Rd.tr_float (.tuple #[.agg #[.slice x52.a x52.n x52.c,.slice x53.a x53.n x53.c],.int .i64 0]) (by simp only[gA,gB,gC];rfl) rfl (by rfl) (fun X _=>by go_simp) ?_
   simp only[Act.put,sA,sB,sC]
   refine Rd.tr_float (.agg #[.slice x52.a x52.n x52.c,.slice x53.a x53.n x53.c]) (by simp only[gA,gB,gC];rfl) rfl (by rfl) (fun X _=>by go_simp) ?_
   simp only[Act.put,sA,sB,sC]
   refine Rd.tr_float (.int .i64 0) (by simp only[gA,gB,gC];rfl) rfl (by rfl) (fun X _=>by go_simp) ?_
   simp only[Act.put,sA,sB,sC]
   refine Rd.tr_move (by simp only[gA,gB,gC];rfl) rfl (by rfl) (fun K hK=>?_)
   have c0P41:=P41.c0
   have c1P41:=P41.c1
   have z0P41:=P41.z0
   have z1P41:=P41.z1
   go_simp
   clear c0P41 c1P41 z0P41 z1P41
   replace ra1:=ra1.pset P41 (.slice x52.a x52.n x52.c) (.slice x53.a x53.n x53.c)
   replace rb1:=rb1.pset P41 (.slice x52.a x52.n x52.c) (.slice x53.a x53.n x53.c)
   replace ra2:=ra2.pset P41 (.slice x52.a x52.n x52.c) (.slice x53.a x53.n x53.c)
   replace rb2:=rb2.pset P41 (.slice x52.a x52.n x52.c) (.slice x53.a x53.n x53.c)
   replace rx44:=rx44.pset P41 (.slice x52.a x52.n x52.c) (.slice x53.a x53.n x53.c)
   replace rx48:=rx48.pset P41 (.slice x52.a x52.n x52.c) (.slice x53.a x53.n x53.c)
   replace rx52:=rx52.pset P41 (.slice x52.a x52.n x52.c) (.slice x53.a x53.n x53.c)
   replace rx53:=rx53.pset P41 (.slice x52.a x52.n x52.c) (.slice x53.a x53.n x53.c)
   replace P1:=P1.other (B:=B42) nP1P41 (.slice x52.a x52.n x52.c) (.slice x53.a x53.n x53.c)
   replace P2:=P2.other (B:=B42) nP2P41 (.slice x52.a x52.n x52.c) (.slice x53.a x53.n x53.c)
   replace P3:=P3.other (B:=B42) nP3P41 (.slice x52.a x52.n x52.c) (.slice x53.a x53.n x53.c)
   replace hB:=Below.pset hB gP41 (.slice x52.a x52.n x52.c) (.slice x53.a x53.n x53.c)
   replace P41:=P41.set (.slice x52.a x52.n x52.c) (.slice x53.a x53.n x53.c)
   generalize (w55.setCell ⟨B42,0,none⟩ (.slice x52.a x52.n x52.c)).setCell ⟨B42,1,none⟩ (.slice x53.a x53.n x53.c)=w56 at P1 P2 P3 P41 ra1 rb1 ra2 rb2 rx44 rx48 rx52 rx53 hB ⊢
   refine hK _ _ ⟨P1,P2,P3⟩ ?_
   clear hK K
   refine Rd.tr_float (.int .i64 0) (by simp only[gA,gB,gC];rfl) rfl (by rfl) (fun X _=>by go_simp) ?_
   simp only[Act.put,sA,sB,sC]
   exact Rd.tr_end (⟨B42,x52,x53,_,_,_,_,_,_,_,_,_,_,_,_,_,_,_,rfl,rx52,rx53,P41,P3,hB⟩)
 case next=>
  rintro a3 W ⟨BB,p,q,_,_,_,_,_,_,_,_,_,_,_,_,_,_,_,rfl,rp,rq,PB,PR,hB⟩
  have c0:=PB.c0
  have c1:=PB.c1
  have e0:=PR.c0
  have e1:=PR.c1
  have z0:=PR.z0
  have z1:=PR.z1
  go_wp2_with fail
  replace rp:=rp.pset PR (.slice p.a p.n p.c) (.slice q.a q.n q.c)
  replace rq:=rq.pset PR (.slice p.a p.n p.c) (.slice q.a q.n q.c)
  replace hB:=Below.pset hB (by omega:w.heap.size≤w.heap.size+1+1) (.slice p.a p.n p.c) (.slice q.a q.n q.c)
  have PRx:=PR.set (.slice p.a p.n p.c) (.slice q.a q.n q.c)
  generalize (W.setCell ⟨w.heap.size+1+1,0,none⟩ (.slice p.a p.n p.c)).setCell ⟨w.heap.size+1+1,1,none⟩ (.slice q.a q.n q.c)=WW at rp rq PRx hB ⊢
  refine bodyPost_ret (v:=.agg #[.slice p.a p.n p.c,.slice q.a q.n q.c]) ?_ rfl (⟨p,q,rfl,rp,rq,hB⟩)
  simp[results,Tryz.f21,go_sem,PRx.c0,PRx.c1]
theorem qint_pos (n:Nat) (hn:Hid (n<9223372036854775808)) (w:World):
  Calls Tryz.prog 18 #[.int .i64 (n:Int)] w fun e w'=>∃p q:Sl,e= .returned (.agg #[.slice p.a p.n p.c,.slice q.a q.n q.c])∧RU w' p n∧RU w' q 1∧Below w.heap.size w w':=by
 have hwr:IntKind.u64.wrap (n:Int)=(n:Int):=by have:=hn.out;exact wrap_u64 n (by omega)
 go_enter Tryz.func18,Tryz.ntmps18
 have hb:Below w.heap.size w (w.alloc (.cells #[.slice none 0 0,.slice none 0 0] 49)):=((Below.refl _ _).alloc (Nat.le_refl _) _)
 have hB:=hb
 have P1:Pair (w.alloc (.cells #[.slice none 0 0,.slice none 0 0] 49)) (w.heap.size) 49 (.slice none 0 0) (.slice none 0 0):=by
  have h:=Pair.new w 49 (.slice none 0 0) (.slice none 0 0)
  simpa only[World.size_alloc] using h
 clear hb
 have c0P1:=P1.c0
 have c1P1:=P1.c1
 have H4:=Lib.hid (nOf_any n (w.alloc (.cells #[.slice none 0 0,.slice none 0 0] 49)) (Nat.lt_trans hn.out (by omega)))
 go_wp2_with fail
 clear c0P1 c1P1
 refine H4.out.mono ?_
 rintro e w5 ⟨v3,rfl,rx2,hb⟩
 clear H4
 replace P1:=P1.below hb
 replace hB:=hB.trans (hb.mono hB.size)
 clear hb
 obtain⟨x2,rfl,rx2⟩:=rx2.sl
 have HLx2:Hid ((L (n)).length≤1):=Lib.hid (one_row n (Nat.lt_trans hn.out (by omega)))
 have c0P1:=P1.c0
 have c1P1:=P1.c1
 have H8:=Lib.hid (nOf_any (1) w5 (by omega))
 go_wp2_with fail
 clear c0P1 c1P1
 refine H8.out.mono ?_
 rintro e w9 ⟨v7,rfl,rx6,hb⟩
 clear H8
 replace P1:=P1.below hb
 replace rx2:=rx2.below hb
 replace hB:=hB.trans (hb.mono hB.size)
 clear hb
 obtain⟨x6,rfl,rx6⟩:=rx6.sl
 have HLx6:Hid ((L (1)).length≤1):=Lib.hid (one_row (1) (by omega))
 have c0P1:=P1.c0
 have c1P1:=P1.c1
 have z0P1:=P1.z0
 have z1P1:=P1.z1
 go_wp2_with fail
 replace rx2:=rx2.pset P1 (.slice x2.a x2.n x2.c) (.slice x6.a x6.n x6.c)
 replace rx6:=rx6.pset P1 (.slice x2.a x2.n x2.c) (.slice x6.a x6.n x6.c)
 replace hB:=Below.pset hB (by omega:w.heap.size≤w.heap.size) (.slice x2.a x2.n x2.c) (.slice x6.a x6.n x6.c)
 have P1x:=P1.set (.slice x2.a x2.n x2.c) (.slice x6.a x6.n x6.c)
 generalize (w9.setCell ⟨w.heap.size,0,none⟩ (.slice x2.a x2.n x2.c)).setCell ⟨w.heap.size,1,none⟩ (.slice x6.a x6.n x6.c)=WW at rx2 rx6 P1x hB ⊢
 refine bodyPost_ret (v:=.agg #[.slice x2.a x2.n x2.c,.slice x6.a x6.n x6.c]) ?_ rfl (⟨x2,x6,rfl,rx2,rx6,hB⟩)
 simp[results,Tryz.f18,go_sem,P1x.c0,P1x.c1]
end Go.Proofs.YtohifgjeebhijaaGreatDoor
namespace Go.Proofs.YtohifgjeebhijaaGreatDoor
set_option maxRecDepth 100000
set_option maxHeartbeats 4000000
open Go.RowKit Go.Dig Go.Shelf Go.Proofs
theorem text_short {n k:Nat} (h:(L n).length≤k):(text n).length≤20*k+1:=by
 unfold text
 split
 ·simp
 ·have h2:(Dig.bytes (dig 10 n)).length=(dig 10 n).length:=by simp[Dig.bytes]
  have h3:n<18446744073709551616 ^ k:=(dig_len (by omega) n k).1 h
  have h4:(18446744073709551616:Nat) ^ k≤10 ^ (20*k):=by
   rw[Nat.pow_mul];exact Nat.pow_le_pow_left (by decide) k
  have h5:(dig 10 n).length≤20*k:=(dig_len (by omega) n (20*k)).2 (Nat.lt_of_lt_of_le h3 h4)
  omega
theorem text_nat (v:Value) (x:Nat) (w:World) (h:RowU w v (L x)) (hl:(L x).length≤1000):
  Calls Tryz.prog 58 #[v] w fun e w'=>e= .returned (.string ⟨(text x).toArray⟩)∧Below w.heap.size w w':=by
 have h1:=nText_any v (L x) w h (small_L x) hl
 rw[V_L] at h1
 exact h1
theorem str_app (a b:List UInt8):(⟨a.toArray⟩:ByteArray)++(⟨b.toArray⟩:ByteArray)=⟨(a++b).toArray⟩:=by
 apply ByteArray.ext
 rw[ByteArray.data_append]
 simp
def qtext (x y:Nat):List UInt8:=if y=1 then text x else text x++47::text y
theorem qtext_one {x y:Nat} (h:y=1):(⟨(text x).toArray⟩:ByteArray)=⟨(qtext x y).toArray⟩:=by unfold qtext;rw[if_pos h]
theorem qtext_more {x y:Nat} (h:y≠1):(⟨(text x).toArray⟩:ByteArray)++(⟨#[47]⟩:ByteArray)++(⟨(text y).toArray⟩:ByteArray)=⟨(qtext x y).toArray⟩:=by
 unfold qtext
 rw[if_neg h,show (⟨#[47]⟩:ByteArray)=⟨[(47:UInt8)].toArray⟩ from rfl,str_app,str_app]
 simp
theorem qtext_whole (a1 b1:Sl) (a b:Nat) (w:World) (ra1:RU w a1 a) (rb1:RU w b1 b) (la:Hid ((L a).length≤500)) (lb:Hid ((L b).length≤500)) (HO:Hid (b=1)):
  Calls Tryz.prog 26 #[.agg #[.slice a1.a a1.n a1.c,.slice b1.a b1.n b1.c]] w fun e w'=>e= .returned (.string ⟨(qtext a b).toArray⟩)∧Below w.heap.size w w':=by
 go_enter Tryz.func26,Tryz.ntmps26
 have hb:Below w.heap.size w (w.alloc (.cells #[.slice a1.a a1.n a1.c,.slice b1.a b1.n b1.c] 49)):=((Below.refl _ _).alloc (Nat.le_refl _) _)
 replace ra1:=ra1.below hb
 replace rb1:=rb1.below hb
 have hB:=hb
 have P1:Pair (w.alloc (.cells #[.slice a1.a a1.n a1.c,.slice b1.a b1.n b1.c] 49)) (w.heap.size) 49 (.slice a1.a a1.n a1.c) (.slice b1.a b1.n b1.c):=by
  have h:=Pair.new w 49 (.slice a1.a a1.n a1.c) (.slice b1.a b1.n b1.c)
  simpa only[World.size_alloc] using h
 clear hb
 have c0P1:=P1.c0
 have c1P1:=P1.c1
 have H2:=Lib.hid (isOne_nat (.slice b1.a b1.n b1.c) (b) (w.alloc (.cells #[.slice a1.a a1.n a1.c,.slice b1.a b1.n b1.c] 49)) rb1 (Nat.le_trans lb.out (by omega)) true (by simp[HO.out]))
 go_wp2_with fail
 clear c0P1 c1P1
 refine H2.out.mono ?_
 rintro e w3 ⟨rfl,hb⟩
 clear H2
 replace P1:=P1.below hb
 replace ra1:=ra1.below hb
 replace rb1:=rb1.below hb
 replace hB:=hB.trans (hb.mono hB.size)
 clear hb
 have c0P1:=P1.c0
 have c1P1:=P1.c1
 have H4:=Lib.hid (text_nat (.slice a1.a a1.n a1.c) (a) w3 ra1 (Nat.le_trans la.out (by omega)))
 go_wp2_with fail
 clear c0P1 c1P1
 refine H4.out.mono ?_
 rintro e w5 ⟨rfl,hb⟩
 clear H4
 replace P1:=P1.below hb
 replace ra1:=ra1.below hb
 replace rb1:=rb1.below hb
 replace hB:=hB.trans (hb.mono hB.size)
 clear hb
 go_wp2_with fail
 go_ret
 exact⟨by rw[←qtext_one HO.out];rfl,hB⟩
theorem qtext_part (a1 b1:Sl) (a b:Nat) (w:World) (ra1:RU w a1 a) (rb1:RU w b1 b) (la:Hid ((L a).length≤500)) (lb:Hid ((L b).length≤500)) (HO:Hid (b≠1)):
  Calls Tryz.prog 26 #[.agg #[.slice a1.a a1.n a1.c,.slice b1.a b1.n b1.c]] w fun e w'=>e= .returned (.string ⟨(qtext a b).toArray⟩)∧Below w.heap.size w w':=by
 go_enter Tryz.func26,Tryz.ntmps26
 have hb:Below w.heap.size w (w.alloc (.cells #[.slice a1.a a1.n a1.c,.slice b1.a b1.n b1.c] 49)):=((Below.refl _ _).alloc (Nat.le_refl _) _)
 replace ra1:=ra1.below hb
 replace rb1:=rb1.below hb
 have hB:=hb
 have P1:Pair (w.alloc (.cells #[.slice a1.a a1.n a1.c,.slice b1.a b1.n b1.c] 49)) (w.heap.size) 49 (.slice a1.a a1.n a1.c) (.slice b1.a b1.n b1.c):=by
  have h:=Pair.new w 49 (.slice a1.a a1.n a1.c) (.slice b1.a b1.n b1.c)
  simpa only[World.size_alloc] using h
 clear hb
 have c0P1:=P1.c0
 have c1P1:=P1.c1
 have H2:=Lib.hid (isOne_nat (.slice b1.a b1.n b1.c) (b) (w.alloc (.cells #[.slice a1.a a1.n a1.c,.slice b1.a b1.n b1.c] 49)) rb1 (Nat.le_trans lb.out (by omega)) false (by simp[HO.out]))
 go_wp2_with fail
 clear c0P1 c1P1
 refine H2.out.mono ?_
 rintro e w3 ⟨rfl,hb⟩
 clear H2
 replace P1:=P1.below hb
 replace ra1:=ra1.below hb
 replace rb1:=rb1.below hb
 replace hB:=hB.trans (hb.mono hB.size)
 clear hb
 have hta:=text_short la.out
 have htb:=text_short lb.out
 have c0P1:=P1.c0
 have c1P1:=P1.c1
 go_wp2_with fail
 clear c0P1 c1P1
 have hb:Below w3.heap.size w3 w3.drew:=(Below.refl _ _).drew
 replace P1:=P1.below hb
 replace ra1:=ra1.below hb
 replace rb1:=rb1.below hb
 replace hB:=hB.trans (hb.mono hB.size)
 clear hb
 refine Rd.regionT (fun X=>Pair X (w.heap.size) 49 (.slice a1.a a1.n a1.c) (.slice b1.a b1.n b1.c)) [0,1,3,4,5,7,8] (.one 0 (.one 1 (.one 4 (.one 5 (.one 2 (.one 3 (.one 6 (.one 7 (.one 8 .done))))))))) (fun ac W=>∃(y9 y10 y11 y12 y13 y14 y15 y16:Value),ac={ tmps:=List.toArray (.agg #[.slice a1.a a1.n a1.c,.slice b1.a b1.n b1.c]:: .pointer (some ⟨w.heap.size,0,none⟩):: .string ⟨(qtext a b).toArray⟩:: .pointer (some ⟨w.heap.size,1,none⟩):: .slice b1.a b1.n b1.c:: .bool false::undef::undef::undef::y9::y10::y11::y12::y13::y14::y15::y16::[]),defers:=[] }∧Below w.heap.size w W) (by kernel_rfl) (by kernel_rfl) (by kernel_rfl) P1 ?tree ?next
 case tree=>
  generalize w3.drew=w4 at P1 ra1 rb1 hB ⊢
  refine Rd.tr_float (.pointer (some ⟨w.heap.size,0,none⟩)) (by simp only[gA,gC];rfl) rfl (by rfl) (fun X _=>by go_simp) ?_
  simp only[Act.put,sA,sB,sC]
  refine Rd.tr_float (.slice a1.a a1.n a1.c) (by simp only[gA,gB,gC];rfl) rfl (by rfl) (fun X hX=>by have h0:=hX.c0;have h1:=hX.c1;go_simp) ?_
  simp only[Act.put,sA,sB,sC]
  refine Rd.tr_float (.pointer (some ⟨w.heap.size,1,none⟩)) (by simp only[gA,gB,gC];rfl) rfl (by rfl) (fun X _=>by go_simp) ?_
  simp only[Act.put,sA,sB,sC]
  refine Rd.tr_float (.slice b1.a b1.n b1.c) (by simp only[gA,gB,gC];rfl) rfl (by rfl) (fun X hX=>by have h0:=hX.c0;have h1:=hX.c1;go_simp) ?_
  simp only[Act.put,sA,sB,sC]
  refine Rd.tr_move (by simp only[gA,gB,gC];rfl) rfl (by rfl) (fun K hK=>?_)
  have H5:=Lib.hid (text_nat (.slice a1.a a1.n a1.c) (a) w4 ra1 (Nat.le_trans la.out (by omega)))
  go_simp
  refine H5.out.mono ?_
  rintro e w6 ⟨rfl,hb⟩
  clear H5
  replace P1:=P1.below hb
  replace ra1:=ra1.below hb
  replace rb1:=rb1.below hb
  replace hB:=hB.trans (hb.mono hB.size)
  clear hb
  refine hK _ _ P1 ?_
  clear hK K
  refine Rd.tr_float (.string ((⟨(text a).toArray⟩:ByteArray)++(⟨#[47]⟩:ByteArray))) (by simp only[gA,gB,gC];rfl) rfl (by rfl) (fun X _=>by go_simp;omega) ?_
  simp only[Act.put,sA,sB,sC]
  refine Rd.tr_move (by simp only[gA,gB,gC];rfl) rfl (by rfl) (fun K hK=>?_)
  have H7:=Lib.hid (text_nat (.slice b1.a b1.n b1.c) (b) w6 rb1 (Nat.le_trans lb.out (by omega)))
  go_simp
  refine H7.out.mono ?_
  rintro e w8 ⟨rfl,hb⟩
  clear H7
  replace P1:=P1.below hb
  replace ra1:=ra1.below hb
  replace rb1:=rb1.below hb
  replace hB:=hB.trans (hb.mono hB.size)
  clear hb
  refine hK _ _ P1 ?_
  clear hK K
  refine Rd.tr_float (.string (((⟨(text a).toArray⟩:ByteArray)++(⟨#[47]⟩:ByteArray))++(⟨(text b).toArray⟩:ByteArray))) (by simp only[gA,gB,gC];rfl) rfl (by rfl) (fun X _=>by go_simp;omega) ?_
  simp only[Act.put,sA,sB,sC]
  refine Rd.tr_float (.string (((⟨(text a).toArray⟩:ByteArray)++(⟨#[47]⟩:ByteArray))++(⟨(text b).toArray⟩:ByteArray))) (by simp only[gA,gB,gC];rfl) rfl (by rfl) (fun X _=>by go_simp) ?_
  simp only[Act.put,sA,sB,sC]
  exact Rd.tr_end (by rw[←qtext_more HO.out];exact⟨_,_,_,_,_,_,_,_,rfl,hB⟩)
 case next=>
  rintro a3 W ⟨_,_,_,_,_,_,_,_,rfl,hB⟩
  go_wp2_with fail
  go_ret
  exact⟨rfl,hB⟩
theorem qtext_nat (a1 b1:Sl) (a b:Nat) (w:World) (ra1:RU w a1 a) (rb1:RU w b1 b) (la:Hid ((L a).length≤500)) (lb:Hid ((L b).length≤500)):
  Calls Tryz.prog 26 #[.agg #[.slice a1.a a1.n a1.c,.slice b1.a b1.n b1.c]] w fun e w'=>e= .returned (.string ⟨(qtext a b).toArray⟩)∧Below w.heap.size w w':=by
 by_cases h:b=1
 ·exact qtext_whole a1 b1 a b w ra1 rb1 la lb (Lib.hid h)
 ·exact qtext_part a1 b1 a b w ra1 rb1 la lb (Lib.hid h)
end Go.Proofs.YtohifgjeebhijaaGreatDoor
namespace Go.Proofs.YtohifgjeebhijaaGreatDoor
open Go.RowKit Go.Dig Go.Shelf Go.Proofs Go.Rq
structure Sz (r:Rat):Prop where
 pos:0≤r
 num:(L (N r)).length≤100
 den:(L r.den).length≤100
def RQ (w:World) (p q:Sl) (r:Rat):Prop:=Sz r∧RU w p (N r)∧RU w q r.den
def RK (w:World) (p q:Sl) (r:Rat):Prop:=Sz r∧RD w p (N r)∧RD w q r.den
theorem RQ.below {w w':World} {p q:Sl} {r:Rat} (h:RQ w p q r) (hb:Below w.heap.size w w'):RQ w' p q r:=⟨h.1,h.2.1.below hb,h.2.2.below hb⟩
theorem RK.below {w w':World} {p q:Sl} {r:Rat} (h:RK w p q r) (hb:Below w.heap.size w w'):RK w' p q r:=⟨h.1,h.2.1.below hb,h.2.2.below hb⟩
section
variable {w:World} {B:Nat} {t:TypeId} {p q p1 p2:Sl} {r:Rat}
theorem RQ.pset {a b:Option Addr} {n c m d:Nat} (h:RQ w p q r) (hp:Pair w B t (.slice a n c) (.slice b m d)) (x' y':Value):RQ ((w.setCell ⟨B,0,none⟩ x').setCell ⟨B,1,none⟩ y') p q r:=
 ⟨h.1,h.2.1.pset hp x' y',h.2.2.pset hp x' y'⟩
theorem RK.pset {a b:Option Addr} {n c m d:Nat} (h:RK w p q r) (hp:Pair w B t (.slice a n c) (.slice b m d)) (x' y':Value):RK ((w.setCell ⟨B,0,none⟩ x').setCell ⟨B,1,none⟩ y') p q r:=
 ⟨h.1,h.2.1.pset hp x' y',h.2.2.pset hp x' y'⟩
end
def big (k:Nat):Nat:=2 ^ k
theorem big_add (a b:Nat):big a*big b=big (a+b):=(Nat.pow_add 2 a b).symm
theorem big_lt {a b:Nat} (h:a<b):big a<big b:=Nat.pow_lt_pow_right (by omega) h
theorem big_le {a b:Nat} (h:a≤b):big a≤big b:=Nat.pow_le_pow_right (by omega) h
theorem big_lim:(18446744073709551616:Nat) ^ 100=big 6400:=by decide+kernel
theorem len_big (n:Nat) (h:n<big 6400):(L n).length≤100:=(dig_len (by omega) n 100).2 (by rw[big_lim];exact h)
theorem Sz.rat {n D:Nat} (hD:D≠0) (hn:n<big 6400) (hd:D<big 6400):Sz (Rq.rat n D):=by
 refine⟨rat_nonneg n D,?_,?_⟩
 ·rw[rat_N n hD];exact len_big _ (Nat.lt_of_le_of_lt (Nat.div_le_self _ _) hn)
 ·rw[rat_den n hD];exact len_big _ (Nat.lt_of_le_of_lt (Nat.div_le_self _ _) hd)
theorem pow_mul_lt {a b:Nat} (ha:a≤big 3000) (hb:b≤big 3000):a*b<big 6400:=
 Nat.lt_of_le_of_lt (Nat.mul_le_mul ha hb) (by rw[big_add];exact big_lt (by decide))
theorem Sz.whole {D B:Nat} {r:Rat} (hD:D≠0) (hw:Whole D r) (_h0:0≤r) (hB:r≤B) (hd:D≤big 3000) (hb:B≤big 3000):Sz r:=by
 obtain⟨n,e,hn⟩:=whole_eq hD hw
 rw[e]
 have h1:(n:Rat)≤((B*D:Nat):Rat):=by rw[←hn,Rat.natCast_mul];exact le_mul hB
 have h2:n≤B*D:=Rat.natCast_le_natCast.1 h1
 exact Sz.rat hD (Nat.lt_of_le_of_lt h2 (pow_mul_lt hb hd)) (Nat.lt_of_le_of_lt hd (big_lt (by decide)))
theorem N_nat (n:Nat):N (n:Rat)=n:=by
 rw[←rat_int,rat_N n (by omega)];simp
theorem den_nat (n:Nat):((n:Rat)).den=1:=by
 rw[←rat_int,rat_den n (by omega)];simp
theorem Sz.nat (n:Nat) (h:n<18446744073709551616):Sz (n:Rat):=by
 have:=one_row n h
 have:=one_row 1 (by omega)
 exact⟨Rat.natCast_nonneg,by rw[N_nat];omega,by rw[den_nat];omega⟩
def cmpQ (r s:Rat):Int:=if r<s then -1 else if s<r then 1 else 0
theorem cmp_rat {r s:Rat} (h1:0≤r) (h2:0≤s):cmpZ (N r*s.den) (N s*r.den)=cmpQ r s:=by
 have e1:=rat_back h1
 have e2:=rat_back h2
 have g1:=rat_lt (N r) (N s) r.den_nz s.den_nz
 have g2:=rat_lt (N s) (N r) s.den_nz r.den_nz
 rw[e1,e2] at g1 g2
 unfold cmpZ cmpQ
 simp only[g1,g2]
theorem cmpQ_gt {r s:Rat}:(0<cmpQ r s)↔s<r:=by
 unfold cmpQ
 by_cases h1:r<s
 ·rw[if_pos h1];exact⟨fun h=>absurd h (by decide),fun h=>absurd h (by grind)⟩
 ·rw[if_neg h1]
  by_cases h2:s<r
  ·rw[if_pos h2];exact⟨fun _=>h2,fun _=>by decide⟩
  ·rw[if_neg h2];exact⟨fun h=>absurd h (by decide),fun h=>absurd h h2⟩
theorem cmpQ_self (r:Rat):cmpQ r r=0:=by
 unfold cmpQ
 rw[if_neg (by grind),if_neg (by grind)]
theorem add_parts {r s:Rat} (h1:0≤r) (h2:0≤s):N (r+s)=(N r*s.den+N s*r.den) / Nat.gcd (N r*s.den+N s*r.den) (r.den*s.den)∧(r+s).den=r.den*s.den / Nat.gcd (N r*s.den+N s*r.den) (r.den*s.den):=by
 have e:r+s=Rq.rat (N r*s.den+N s*r.den) (r.den*s.den):=by rw[←rat_add _ _ r.den_nz s.den_nz,rat_back h1,rat_back h2]
 have hz:=Nat.mul_ne_zero r.den_nz s.den_nz
 exact⟨by
  conv=>lhs;rw[e]
  rw[rat_N _ hz],by
   conv=>lhs;rw[e]
   rw[rat_den _ hz]⟩
theorem sub_le {r s:Rat} (h1:0≤r) (h2:0≤s) (h:s≤r):N s*r.den≤N r*s.den:=by
 refine Nat.not_lt.1 fun h3=>?_
 have:=(rat_lt (N r) (N s) r.den_nz s.den_nz).2 h3
 rw[rat_back h1,rat_back h2] at this
 grind
theorem sub_parts {r s:Rat} (h1:0≤r) (h2:0≤s) (h:s≤r):N (r - s)=(N r*s.den - N s*r.den) / Nat.gcd (N r*s.den - N s*r.den) (r.den*s.den)∧(r - s).den=r.den*s.den / Nat.gcd (N r*s.den - N s*r.den) (r.den*s.den):=by
 have e:r - s=Rq.rat (N r*s.den - N s*r.den) (r.den*s.den):=by rw[←rat_sub _ _ r.den_nz s.den_nz (sub_le h1 h2 h),rat_back h1,rat_back h2]
 have hz:=Nat.mul_ne_zero r.den_nz s.den_nz
 exact⟨by
  conv=>lhs;rw[e]
  rw[rat_N _ hz],by
   conv=>lhs;rw[e]
   rw[rat_den _ hz]⟩
theorem mul_parts {r s:Rat} (h1:0≤r) (h2:0≤s):N (r*s)=(N r*N s) / Nat.gcd (N r*N s) (r.den*s.den)∧(r*s).den=r.den*s.den / Nat.gcd (N r*N s) (r.den*s.den):=by
 have e:r*s=Rq.rat (N r*N s) (r.den*s.den):=by rw[←rat_mul _ _ r.den_nz s.den_nz,rat_back h1,rat_back h2]
 have hz:=Nat.mul_ne_zero r.den_nz s.den_nz
 exact⟨by
  conv=>lhs;rw[e]
  rw[rat_N _ hz],by
   conv=>lhs;rw[e]
   rw[rat_den _ hz]⟩
theorem N_ne {s:Rat} (h1:0≤s) (h2:s≠0):N s≠0:=by
 intro e
 have:=rat_back h1
 rw[e] at this
 apply h2
 rw[←this,rat_eq]
 have:=pos_cast s.den_nz
 grind
theorem div_parts {r s:Rat} (h1:0≤r) (h2:0≤s) (h:s≠0):N (r / s)=(N r*s.den) / Nat.gcd (N r*s.den) (N s*r.den)∧(r / s).den=N s*r.den / Nat.gcd (N r*s.den) (N s*r.den):=by
 have e:r / s=Rq.rat (N r*s.den) (N s*r.den):=by rw[←rat_div _ r.den_nz s.den_nz (N_ne h2 h),rat_back h1,rat_back h2]
 have hz:=Nat.mul_ne_zero (N_ne h2 h) r.den_nz
 exact⟨by
  conv=>lhs;rw[e]
  rw[rat_N _ hz],by
   conv=>lhs;rw[e]
   rw[rat_den _ hz]⟩
section
variable (p q p2 q2:Sl) (r s:Rat) (w:World)
theorem Qadd (h1:RQ w p q r) (h2:RQ w p2 q2 s) (hz:Sz (r+s)):
  Calls Tryz.prog 20 #[.agg #[.slice p.a p.n p.c,.slice q.a q.n q.c],.agg #[.slice p2.a p2.n p2.c,.slice q2.a q2.n q2.c]] w fun e w'=>∃x y:Sl,e= .returned (.agg #[.slice x.a x.n x.c,.slice y.a y.n y.c])∧RQ w' x y (r+s)∧Below w.heap.size w w':=by
 refine(qadd_nat p q p2 q2 (N r) r.den (N s) s.den w h1.2.1 h1.2.2 h2.2.1 h2.2.2 (Lib.hid h1.1.num) (Lib.hid h1.1.den) (Lib.hid h2.1.num) (Lib.hid h2.1.den) (Lib.hid (Nat.mul_ne_zero r.den_nz s.den_nz))).mono ?_
 rintro e w' ⟨x,y,rfl,hx,hy,hb⟩
 have e:=add_parts h1.1.pos h2.1.pos
 refine⟨x,y,rfl,⟨hz,?_,?_⟩,hb⟩
 ·rw[e.1];exact hx
 ·rw[e.2];exact hy
theorem Qmul (h1:RQ w p q r) (h2:RQ w p2 q2 s) (hz:Sz (r*s)):
  Calls Tryz.prog 21 #[.agg #[.slice p.a p.n p.c,.slice q.a q.n q.c],.agg #[.slice p2.a p2.n p2.c,.slice q2.a q2.n q2.c]] w fun e w'=>∃x y:Sl,e= .returned (.agg #[.slice x.a x.n x.c,.slice y.a y.n y.c])∧RQ w' x y (r*s)∧Below w.heap.size w w':=by
 refine(qmul_nat p q p2 q2 (N r) r.den (N s) s.den w h1.2.1 h1.2.2 h2.2.1 h2.2.2 (Lib.hid h1.1.num) (Lib.hid h1.1.den) (Lib.hid h2.1.num) (Lib.hid h2.1.den) (Lib.hid (Nat.mul_ne_zero r.den_nz s.den_nz))).mono ?_
 rintro e w' ⟨x,y,rfl,hx,hy,hb⟩
 have e:=mul_parts h1.1.pos h2.1.pos
 refine⟨x,y,rfl,⟨hz,?_,?_⟩,hb⟩
 ·rw[e.1];exact hx
 ·rw[e.2];exact hy
theorem Qsub (h1:RQ w p q r) (h2:RQ w p2 q2 s) (hz:Sz (r - s)) (hle:s≤r):
  Calls Tryz.prog 179 #[.agg #[.slice p.a p.n p.c,.slice q.a q.n q.c],.agg #[.slice p2.a p2.n p2.c,.slice q2.a q2.n q2.c]] w fun e w'=>∃x y:Sl,e= .returned (.tuple #[.agg #[.slice x.a x.n x.c,.slice y.a y.n y.c],.int .i64 0])∧RQ w' x y (r - s)∧Below w.heap.size w w':=by
 refine(qsub_nat p q p2 q2 (N r) r.den (N s) s.den w h1.2.1 h1.2.2 h2.2.1 h2.2.2 (Lib.hid h1.1.num) (Lib.hid h1.1.den) (Lib.hid h2.1.num) (Lib.hid h2.1.den) (Lib.hid (sub_le h1.1.pos h2.1.pos hle)) (Lib.hid (Nat.mul_ne_zero r.den_nz s.den_nz))).mono ?_
 rintro e w' ⟨x,y,rfl,hx,hy,hb⟩
 have e:=sub_parts h1.1.pos h2.1.pos hle
 refine⟨x,y,rfl,⟨hz,?_,?_⟩,hb⟩
 ·rw[e.1];exact hx
 ·rw[e.2];exact hy
theorem Qdiv (h1:RQ w p q r) (h2:RQ w p2 q2 s) (hz:Sz (r / s)) (hs:s≠0):
  Calls Tryz.prog 178 #[.agg #[.slice p.a p.n p.c,.slice q.a q.n q.c],.agg #[.slice p2.a p2.n p2.c,.slice q2.a q2.n q2.c]] w fun e w'=>∃x y:Sl,e= .returned (.tuple #[.agg #[.slice x.a x.n x.c,.slice y.a y.n y.c],.int .i64 0])∧RQ w' x y (r / s)∧Below w.heap.size w w':=by
 refine(qdiv_nat p q p2 q2 (N r) r.den (N s) s.den w h1.2.1 h1.2.2 h2.2.1 h2.2.2 (Lib.hid h1.1.num) (Lib.hid h1.1.den) (Lib.hid h2.1.num) (Lib.hid h2.1.den) (Lib.hid (Nat.mul_ne_zero (N_ne h2.1.pos hs) r.den_nz))).mono ?_
 rintro e w' ⟨x,y,rfl,hx,hy,hb⟩
 have e:=div_parts h1.1.pos h2.1.pos hs
 refine⟨x,y,rfl,⟨hz,?_,?_⟩,hb⟩
 ·rw[e.1];exact hx
 ·rw[e.2];exact hy
theorem Qcmp (h1:RQ w p q r) (h2:RQ w p2 q2 s):
  Calls Tryz.prog 19 #[.agg #[.slice p.a p.n p.c,.slice q.a q.n q.c],.agg #[.slice p2.a p2.n p2.c,.slice q2.a q2.n q2.c]] w fun e w'=>e= .returned (.int .i64 (cmpQ r s))∧Below w.heap.size w w':=by
 rw[←cmp_rat h1.1.pos h2.1.pos]
 exact qcmp_nat p q p2 q2 (N r) r.den (N s) s.den w h1.2.1 h1.2.2 h2.2.1 h2.2.2 (Lib.hid h1.1.num) (Lib.hid h1.1.den) (Lib.hid h2.1.num) (Lib.hid h2.1.den)
theorem Qgood (h1:RQ w p q r):
  Calls Tryz.prog 171 #[.agg #[.slice p.a p.n p.c,.slice q.a q.n q.c]] w fun e w'=>e= .returned (.bool true)∧Below w.heap.size w w':=
 qgood_nat p q (N r) r.den w h1.2.1 h1.2.2 (Lib.hid (Nat.le_trans h1.1.num (by omega))) (Lib.hid (Nat.le_trans h1.1.den (by omega))) (Lib.hid r.den_nz) true (Lib.hid (by simp[N_gcd h1.1.pos]))
theorem Qtext (h1:RQ w p q r):
  Calls Tryz.prog 26 #[.agg #[.slice p.a p.n p.c,.slice q.a q.n q.c]] w fun e w'=>e= .returned (.string ⟨(qtext (N r) r.den).toArray⟩)∧Below w.heap.size w w':=
 qtext_nat p q (N r) r.den w h1.2.1 h1.2.2 (Lib.hid (Nat.le_trans h1.1.num (by omega))) (Lib.hid (Nat.le_trans h1.1.den (by omega)))
end
theorem Qint (n:Nat) (hn:n<9223372036854775808) (w:World):
  Calls Tryz.prog 18 #[.int .i64 (n:Int)] w fun e w'=>∃x y:Sl,e= .returned (.agg #[.slice x.a x.n x.c,.slice y.a y.n y.c])∧RQ w' x y (n:Rat)∧Below w.heap.size w w':=by
 refine(qint_pos n (Lib.hid hn) w).mono ?_
 rintro e w' ⟨x,y,rfl,hx,hy,hb⟩
 exact⟨x,y,rfl,⟨Sz.nat n (by omega),by rw[N_nat];exact hx,by rw[den_nat];exact hy⟩,hb⟩
end Go.Proofs.YtohifgjeebhijaaGreatDoor
namespace Go.Proofs.YtohifgjeebhijaaGreatDoor
set_option maxHeartbeats 1000000
open Go.RowKit Go.Dig Go.Shelf Go.Proofs Go.Rq
def RowI (w:World) (v:Value) (l:List Int):Prop:=
 ∃ad cap,v= .slice ad l.length cap∧l.length≤cap∧(l≠[]→∃b off,ad=some ⟨b,off,none⟩∧b<w.heap.size∧∀j,j<l.length→w.cell? ⟨b,off+j,none⟩=some (.int .i64 (l.getD j 0)))
abbrev RI (w:World) (p:Sl) (l:List Int):Prop:=RowI w (.slice p.a p.n p.c) l
theorem RowI.below {w w':World} {v:Value} {l:List Int} (h:RowI w v l) (hb:Below w.heap.size w w'):RowI w' v l:=by
 obtain⟨ad,cap,rfl,hcap,h2⟩:=h
 refine⟨ad,cap,rfl,hcap,fun hl=>?_⟩
 obtain⟨b,off,rfl,hlt,hc⟩:=h2 hl
 exact⟨b,off,rfl,Nat.lt_of_lt_of_le hlt hb.size,fun j hj=>(hb.cell (p:=⟨b,off+j,none⟩) hlt).trans (hc j hj)⟩
theorem RowI.sl {w:World} {v:Value} {l:List Int} (h:RowI w v l): ∃p:Sl,v= .slice p.a p.n p.c∧RI w p l:=by
 obtain⟨ad,cap,rfl,h2⟩:=h
 exact⟨⟨ad,l.length,cap⟩,rfl,ad,cap,rfl,h2⟩
theorem RI.len {w:World} {p:Sl} {l:List Int} (h:RI w p l):p.n=l.length:=by
 obtain⟨ad,cap,e,_⟩:=h
 injection e with e1 e2 e3
theorem RI.open {w:World} {p:Sl} {l:List Int} (h:RI w p l) (hne:l≠[]): ∃b off,p.a=some ⟨b,off,none⟩∧b<w.heap.size∧∀j,j<l.length→w.cell? ⟨b,off+j,none⟩=some (.int .i64 (l.getD j 0)):=by
 obtain⟨ad,cap,e,_,h2⟩:=h
 injection e with e1 e2 e3
 rw[e1]
 exact h2 hne
section
variable {w:World} {B:Nat} {t:TypeId}
theorem RowI.pset {v:Value} {l:List Int} {p r:Option Addr} {n c m d:Nat} (h:RowI w v l) (hp:Pair w B t (.slice p n c) (.slice r m d)) (x' y':Value):RowI ((w.setCell ⟨B,0,none⟩ x').setCell ⟨B,1,none⟩ y') v l:=by
 obtain⟨ad,cap,e,h1,h2⟩:=h
 refine⟨ad,cap,e,h1,fun hne=>?_⟩
 obtain⟨b,off,rfl,hb,hc⟩:=h2 hne
 have hbB:b≠B:=by
  rintro rfl
  have h3:=hc 0 (List.length_pos_iff.2 hne)
  simp only[World.cell?,show w.heap[b]? =_ from hp] at h3
  match off,h3 with
  | 0,h3=>simp at h3
  | 1,h3=>simp at h3
  | k+2,h3=>simp at h3
 refine⟨b,off,rfl,by simpa[World.setCell] using hb,fun j hj=>?_⟩
 rw[World.cell?_of_block (w:=w) ((Below.heap_setCell _ _ _ _ hbB).trans (Below.heap_setCell _ _ _ _ hbB)),hc j hj]
end
theorem idrop_at {l:List Int} {k:Nat} (h:k<l.length):l.drop k=l.getD k 0::l.drop (k+1):=by
 rw[List.drop_eq_getElem_cons h];simp[h]
theorem getD_memF {l:List Int} {k:Nat} (h:k<l.length):l.getD k 0∈l:=by
 simp[List.getD_eq_getElem?_getD,h]
theorem sum_any (p:Sl) (l:List Int) (w:World) (h:RI w p l) (hl:l.length≤100) (hx: ∀x∈l,0≤x∧x≤10000):
  Calls Tryz.prog 175 #[.slice p.a p.n p.c] w fun e w'=>e= .returned (.int .i64 l.sum)∧w=w':=by
 rw[h.len]
 have HX:=Lib.hid hx
 clear hx
 by_cases hne:l=[]
 ·subst hne
  clear h
  go_enter Tryz.func175,Tryz.ntmps175
  go_wp2_with fail
  refine wp_loop_rounds 1 ?_
  rw[rounds_succ]
  go_wp2_with fail
  go_ret
  exact⟨rfl,rfl⟩
 ·obtain⟨b,off,ea,_,hc⟩:=h.open hne
  rw[ea]
  have HC:=Lib.hid hc
  clear hc h
  generalize hs:l.sum=S
  have HS:=Lib.hid hs
  clear hs
  go_enter Tryz.func175,Tryz.ntmps175
  go_wp2_with fail
  go_loop [3,8] (fun s i=>∃(k:Nat) (z:Int),k≤l.length∧i= .int .i64 k∧s= .int .i64 z∧0≤z∧z≤10000*k∧Hid (S=z+(l.drop k).sum)) (fun _ i=>l.length - (intOf i).toNat)
  case atStart=>exact⟨0,0,Nat.zero_le _,rfl,rfl,by omega,by omega,Lib.hid (by rw[List.drop_zero,HS.out];omega)⟩
  case round=>
   obtain⟨k,z,hk,rfl,rfl,hz0,hz1,H⟩:=hrel
   by_cases hlt:k<l.length
   ·have hc:=HC.out k hlt
    have hx:=HX.out _ (getD_memF hlt)
    have h1:=H.out
    rw[idrop_at hlt,List.sum_cons] at h1
    generalize l.getD k 0=c at hc hx h1
    obtain⟨hx0,hx1⟩:=hx
    have H2:Hid (S=(z+c)+(l.drop (k+1)).sum):=Lib.hid (by omega)
    clear h1 H
    go_wp2_with fail
    go_round
    case rel=>exact⟨k+1,z+c,by omega,by go_num,rfl,by omega,by omega,H2⟩
    case measure=>simp[intOf];omega
   ·have h1:=H.out
    rw[List.drop_of_length_le (by omega),List.sum_nil] at h1
    have HF:Hid (S=z):=Lib.hid (by omega)
    clear h1 H
    go_wp2_with fail
    go_ret
    refine⟨?_,rfl⟩
    rw[HF.out]
    rfl
def noW (x:Int):Bool:=decide (x<1)||decide (10000<x)
def noC (x:Int):Bool:=decide (x<0)||decide (64<x)
theorem noWeight_any (x:Int) (w:World):Calls Tryz.prog 173 #[.int .i64 x] w fun e w'=>e= .returned (.bool (noW x))∧w=w':=by
 unfold noW
 go_enter Tryz.func173,Tryz.ntmps173
 by_cases h:x<1
 ·go_wp2_with fail
  go_ret
  exact⟨by simp[h],rfl⟩
 ·go_wp2_with fail
  go_ret
  exact⟨by
   have h': ¬x<1:=by omega
   simp[h'],rfl⟩
theorem noCap_any (x:Int) (w:World):Calls Tryz.prog 174 #[.int .i64 x] w fun e w'=>e= .returned (.bool (noC x))∧w=w':=by
 unfold noC
 go_enter Tryz.func174,Tryz.ntmps174
 by_cases h:x<0
 ·go_wp2_with fail
  go_ret
  exact⟨by simp[h],rfl⟩
 ·go_wp2_with fail
  go_ret
  exact⟨by
   have h': ¬x<0:=by omega
   simp[h'],rfl⟩
theorem index_any (p:Sl) (l:List Int) (w:World) (h:RI w p l) (hl:l.length≤200) (g:Nat) (φ:Int→Bool) (eg: ∀args w,(callFunc g args).run Tryz.prog w= .ok (.enter g args) w)
  (hf: ∀x w,Calls Tryz.prog g #[.int .i64 x] w fun e w'=>e= .returned (.bool (φ x))∧w=w'):
  Calls Tryz.prog 187 #[.slice p.a p.n p.c,.func (.func g) #[] #[]] w fun e w'=>∃z:Int,e= .returned (.int .i64 z)∧decide (0≤z)=l.any φ∧w=w':=by
 rw[h.len]
 have HFn:=Lib.hid hf
 clear hf
 by_cases hne:l=[]
 ·subst hne
  clear h
  go_enter Tryz.func187,Tryz.ntmps187
  go_wp2_with fail
  refine wp_loop_rounds 1 ?_
  rw[rounds_succ]
  go_wp2_with fail
  go_ret
  exact⟨-1,rfl,by simp,rfl⟩
 ·obtain⟨b,off,ea,_,hc⟩:=h.open hne
  rw[ea]
  have HC:=Lib.hid hc
  clear hc h
  generalize hs:l.any φ=S
  have HS:=Lib.hid hs
  clear hs
  go_enter Tryz.func187,Tryz.ntmps187
  go_wp2_with fail
  go_loop [8] (fun i=>∃(k:Nat),k≤l.length∧i= .int .i64 k∧Hid (S=(l.drop k).any φ)) (fun i=>l.length - (intOf i).toNat)
  case atStart=>exact⟨0,Nat.zero_le _,rfl,Lib.hid (by rw[List.drop_zero,HS.out])⟩
  case round=>
   obtain⟨k,hk,rfl,H⟩:=hrel
   by_cases hlt:k<l.length
   ·have hc:=HC.out k hlt
    have h1:=H.out
    rw[idrop_at hlt,List.any_cons] at h1
    generalize l.getD k 0=c at hc h1
    cases hp:φ c
    ·rw[hp] at h1
     have H2:=Lib.hid h1
     have HG:=Lib.hid (HFn.out c w)
     rw[hp] at HG
     clear h1 H
     go_wp2_with fail
     refine HG.out.mono ?_
     rintro e w' ⟨rfl,rfl⟩
     go_wp2_with fail
     go_round
     case rel=>exact⟨k+1,by omega,by go_num,Lib.hid (by rw[H2.out,Bool.false_or])⟩
     case measure=>simp[intOf];omega
    ·rw[hp] at h1
     have H2:=Lib.hid h1
     have HG:=Lib.hid (HFn.out c w)
     rw[hp] at HG
     clear h1 H
     go_wp2_with fail
     refine HG.out.mono ?_
     rintro e w' ⟨rfl,rfl⟩
     go_wp2_with fail
     go_ret
     exact⟨k,rfl,by rw[H2.out];simp,rfl⟩
   ·have h1:=H.out
    rw[List.drop_of_length_le (by omega)] at h1
    have HF:=Lib.hid h1
    clear h1 H
    go_wp2_with fail
    go_ret
    exact⟨-1,rfl,by rw[HF.out];simp,rfl⟩
theorem contains_any (p:Sl) (l:List Int) (w:World) (h:RI w p l) (hl:l.length≤200) (g:Nat) (φ:Int→Bool) (eg: ∀args w,(callFunc g args).run Tryz.prog w= .ok (.enter g args) w)
  (hf: ∀x w,Calls Tryz.prog g #[.int .i64 x] w fun e w'=>e= .returned (.bool (φ x))∧w=w'):
  Calls Tryz.prog 172 #[.slice p.a p.n p.c,.func (.func g) #[] #[]] w fun e w'=>e= .returned (.bool (l.any φ))∧w=w':=by
 have H:=Lib.hid (index_any p l w h hl g φ eg hf)
 clear hf
 go_enter Tryz.func172,Tryz.ntmps172
 go_wp2_with fail
 refine H.out.mono ?_
 rintro e w' ⟨z,rfl,hz,rfl⟩
 have HZ:=Lib.hid hz
 clear hz
 go_wp2_with fail
 go_ret
 exact⟨by rw[←HZ.out];rfl,rfl⟩
end Go.Proofs.YtohifgjeebhijaaGreatDoor
namespace Go.Proofs.YtohifgjeebhijaaGreatDoor
set_option maxRecDepth 100000
set_option maxHeartbeats 4000000
open Go.RowKit Go.Dig Go.Shelf Go.Proofs Go.Rq
theorem uncapped_any (wt cp:Nat) (p q:Sl) (l:Rat) (w:World) (hl:RQ w p q l) (hw:wt≤10000) (HZ:Hid (Sz (l*wt))):
  Calls Tryz.prog 155 #[.agg #[.int .i64 (wt:Int),.int .i64 (cp:Int)],.agg #[.slice p.a p.n p.c,.slice q.a q.n q.c]] w fun e w'=>∃x y:Sl,e= .returned (.agg #[.slice x.a x.n x.c,.slice y.a y.n y.c])∧RQ w' x y (l*(wt:Rat))∧Below w.heap.size w w':=by
 go_enter Tryz.func155,Tryz.ntmps155
 have hb:Below w.heap.size w (((w.alloc (.cells #[.int .i64 (wt:Int),.int .i64 (cp:Int)] 201)).alloc (.cells #[.slice p.a p.n p.c,.slice q.a q.n q.c] 49)).alloc (.cells #[.slice none 0 0,.slice none 0 0] 49)):=((((Below.refl _ _).alloc (Nat.le_refl _) _).alloc (by simp) _).alloc (by simp;omega) _)
 replace hl:=hl.below hb
 have hB:=hb
 have P1:Pair (((w.alloc (.cells #[.int .i64 (wt:Int),.int .i64 (cp:Int)] 201)).alloc (.cells #[.slice p.a p.n p.c,.slice q.a q.n q.c] 49)).alloc (.cells #[.slice none 0 0,.slice none 0 0] 49)) (w.heap.size) 201 (.int .i64 (wt:Int)) (.int .i64 (cp:Int)):=by
  have h:=((Pair.new w 201 (.int .i64 (wt:Int)) (.int .i64 (cp:Int))).alloc (.cells #[.slice p.a p.n p.c,.slice q.a q.n q.c] 49)).alloc (.cells #[.slice none 0 0,.slice none 0 0] 49)
  simpa only[World.size_alloc] using h
 have P2:Pair (((w.alloc (.cells #[.int .i64 (wt:Int),.int .i64 (cp:Int)] 201)).alloc (.cells #[.slice p.a p.n p.c,.slice q.a q.n q.c] 49)).alloc (.cells #[.slice none 0 0,.slice none 0 0] 49)) (w.heap.size+1) 49 (.slice p.a p.n p.c) (.slice q.a q.n q.c):=by
  have h:=(Pair.new (w.alloc (.cells #[.int .i64 (wt:Int),.int .i64 (cp:Int)] 201)) 49 (.slice p.a p.n p.c) (.slice q.a q.n q.c)).alloc (.cells #[.slice none 0 0,.slice none 0 0] 49)
  simpa only[World.size_alloc] using h
 have P3:Pair (((w.alloc (.cells #[.int .i64 (wt:Int),.int .i64 (cp:Int)] 201)).alloc (.cells #[.slice p.a p.n p.c,.slice q.a q.n q.c] 49)).alloc (.cells #[.slice none 0 0,.slice none 0 0] 49)) (w.heap.size+1+1) 49 (.slice none 0 0) (.slice none 0 0):=by
  have h:=Pair.new ((w.alloc (.cells #[.int .i64 (wt:Int),.int .i64 (cp:Int)] 201)).alloc (.cells #[.slice p.a p.n p.c,.slice q.a q.n q.c] 49)) 49 (.slice none 0 0) (.slice none 0 0)
  simpa only[World.size_alloc] using h
 clear hb
 have c0P1:=P1.c0
 have c1P1:=P1.c1
 have c0P2:=P2.c0
 have c1P2:=P2.c1
 have c0P3:=P3.c0
 have c1P3:=P3.c1
 go_wp2_with fail
 clear c0P1 c1P1 c0P2 c1P2 c0P3 c1P3
 have hb:Below (((w.alloc (.cells #[.int .i64 (wt:Int),.int .i64 (cp:Int)] 201)).alloc (.cells #[.slice p.a p.n p.c,.slice q.a q.n q.c] 49)).alloc (.cells #[.slice none 0 0,.slice none 0 0] 49)).heap.size (((w.alloc (.cells #[.int .i64 (wt:Int),.int .i64 (cp:Int)] 201)).alloc (.cells #[.slice p.a p.n p.c,.slice q.a q.n q.c] 49)).alloc (.cells #[.slice none 0 0,.slice none 0 0] 49)) (((w.alloc (.cells #[.int .i64 (wt:Int),.int .i64 (cp:Int)] 201)).alloc (.cells #[.slice p.a p.n p.c,.slice q.a q.n q.c] 49)).alloc (.cells #[.slice none 0 0,.slice none 0 0] 49)).drew:=(Below.refl _ _).drew
 replace P1:=P1.below hb
 replace P2:=P2.below hb
 replace P3:=P3.below hb
 replace hl:=hl.below hb
 replace hB:=hB.trans (hb.mono hB.size)
 clear hb
 refine Rd.regionT (fun X=>Pair X (w.heap.size) 201 (.int .i64 (wt:Int)) (.int .i64 (cp:Int))∧Pair X (w.heap.size+1) 49 (.slice p.a p.n p.c) (.slice q.a q.n q.c)) [0,1,3] (.one 0 (.one 1 (.one 3 (.one 2 (.one 4 (.one 5 .done)))))) (fun ac W=>∃(x:Sl) (y:Sl) (y5 y6 y7 y8 y9:Value),ac={ tmps:=List.toArray (.agg #[.int .i64 (wt:Int),.int .i64 (cp:Int)]:: .agg #[.slice p.a p.n p.c,.slice q.a q.n q.c]:: .pointer (some ⟨w.heap.size,0,none⟩):: .pointer (some ⟨w.heap.size+1,0,none⟩):: .pointer (some ⟨w.heap.size+1+1,0,none⟩)::y5::y6::y7::y8::y9::[]),defers:=[] }∧RQ W x y (l*(wt:Rat))∧Pair W (w.heap.size+1+1) 49 (.slice x.a x.n x.c) (.slice y.a y.n y.c)∧Below w.heap.size w W) (by kernel_rfl) (by kernel_rfl) (by kernel_rfl) ⟨P1,P2⟩ ?tree ?next
 case tree=>
  generalize (((w.alloc (.cells #[.int .i64 (wt:Int),.int .i64 (cp:Int)] 201)).alloc (.cells #[.slice p.a p.n p.c,.slice q.a q.n q.c] 49)).alloc (.cells #[.slice none 0 0,.slice none 0 0] 49)).drew=w4 at P1 P2 P3 hl hB ⊢
  refine Rd.tr_float (.pointer (some ⟨w.heap.size,0,none⟩)) (by simp only[gA,gC];rfl) rfl (by rfl) (fun X _=>by go_simp) ?_
  simp only[Act.put,sA,sB,sC]
  refine Rd.tr_float (.int .i64 (wt:Int)) (by simp only[gA,gB,gC];rfl) rfl (by rfl) (fun X hX=>by have h0:=hX.1.c0;have h1:=hX.1.c1;go_simp) ?_
  simp only[Act.put,sA,sB,sC]
  refine Rd.tr_float (.agg #[.slice p.a p.n p.c,.slice q.a q.n q.c]) (by simp only[gA,gB,gC];rfl) rfl (by rfl) (fun X hX=>by have h0:=hX.2.c0;have h1:=hX.2.c1;go_simp) ?_
  simp only[Act.put,sA,sB,sC]
  refine Rd.tr_move (by simp only[gA,gB,gC];rfl) rfl (by rfl) (fun K hK=>?_)
  have H7:=Lib.hid (Qint (wt) (by omega) w4)
  go_simp
  refine H7.out.mono ?_
  rintro e w8 ⟨x5,y6,rfl,rx5,hb⟩
  clear H7
  replace P1:=P1.below hb
  replace P2:=P2.below hb
  replace P3:=P3.below hb
  replace hl:=hl.below hb
  replace hB:=hB.trans (hb.mono hB.size)
  clear hb
  refine hK _ _ ⟨P1,P2⟩ ?_
  clear hK K
  refine Rd.tr_move (by simp only[gA,gB,gC];rfl) rfl (by rfl) (fun K hK=>?_)
  have H11:=Lib.hid (Qmul x5 y6 p q (((wt:Nat):Rat)) (l) w8 rx5 hl (by rw[Rat.mul_comm];exact HZ.out))
  go_simp
  refine H11.out.mono ?_
  rintro e w12 ⟨x9,y10,rfl,rx9,hb⟩
  clear H11
  replace P1:=P1.below hb
  replace P2:=P2.below hb
  replace P3:=P3.below hb
  replace hl:=hl.below hb
  replace rx5:=rx5.below hb
  replace hB:=hB.trans (hb.mono hB.size)
  clear hb
  rw[Rat.mul_comm] at rx9
  refine hK _ _ ⟨P1,P2⟩ ?_
  clear hK K
  refine Rd.tr_move (by simp only[gA,gB,gC];rfl) rfl (by rfl) (fun K hK=>?_)
  have c0P3:=P3.c0
  have c1P3:=P3.c1
  have z0P3:=P3.z0
  have z1P3:=P3.z1
  go_simp
  clear c0P3 c1P3 z0P3 z1P3
  replace hl:=hl.pset P3 (.slice x9.a x9.n x9.c) (.slice y10.a y10.n y10.c)
  replace rx5:=rx5.pset P3 (.slice x9.a x9.n x9.c) (.slice y10.a y10.n y10.c)
  replace rx9:=rx9.pset P3 (.slice x9.a x9.n x9.c) (.slice y10.a y10.n y10.c)
  replace P1:=P1.other (B:=w.heap.size+1+1) (by omega) (.slice x9.a x9.n x9.c) (.slice y10.a y10.n y10.c)
  replace P2:=P2.other (B:=w.heap.size+1+1) (by omega) (.slice x9.a x9.n x9.c) (.slice y10.a y10.n y10.c)
  replace hB:=Below.pset (B:=w.heap.size+1+1) hB (by omega) (.slice x9.a x9.n x9.c) (.slice y10.a y10.n y10.c)
  replace P3:=P3.set (.slice x9.a x9.n x9.c) (.slice y10.a y10.n y10.c)
  generalize (w12.setCell ⟨w.heap.size+1+1,0,none⟩ (.slice x9.a x9.n x9.c)).setCell ⟨w.heap.size+1+1,1,none⟩ (.slice y10.a y10.n y10.c)=w13 at P1 P2 P3 hl rx5 rx9 hB ⊢
  refine hK _ _ ⟨P1,P2⟩ ?_
  clear hK K
  exact Rd.tr_end (⟨x9,y10,_,_,_,_,_,rfl,rx9,P3,hB⟩)
 case next=>
  rintro a15 W14 ⟨x,y,y5,y6,y7,y8,y9,rfl,rx,PR,hB⟩
  go_wp2_with fail
  refine bodyPost_ret (v:=.agg #[.slice x.a x.n x.c,.slice y.a y.n y.c]) ?_ rfl ⟨x,y,rfl,rx,hB⟩
  simp[results,Tryz.f155,go_sem,PR.c0,PR.c1]
theorem isOver_any (wt cp:Nat) (p q:Sl) (l:Rat) (w:World) (hl:RQ w p q l) (hw:wt≤10000) (hc:cp≤64) (HZ:Hid (Sz (l*wt))):
  Calls Tryz.prog 154 #[.agg #[.int .i64 (wt:Int),.int .i64 (cp:Int)],.agg #[.slice p.a p.n p.c,.slice q.a q.n q.c]] w fun e w'=>e= .returned (.bool (decide ((cp:Rat)<l*(wt:Rat))))∧Below w.heap.size w w':=by
 go_enter Tryz.func154,Tryz.ntmps154
 have hb:Below w.heap.size w ((w.alloc (.cells #[.int .i64 (wt:Int),.int .i64 (cp:Int)] 201)).alloc (.cells #[.slice p.a p.n p.c,.slice q.a q.n q.c] 49)):=(((Below.refl _ _).alloc (Nat.le_refl _) _).alloc (by simp) _)
 replace hl:=hl.below hb
 have hB:=hb
 have P1:Pair ((w.alloc (.cells #[.int .i64 (wt:Int),.int .i64 (cp:Int)] 201)).alloc (.cells #[.slice p.a p.n p.c,.slice q.a q.n q.c] 49)) (w.heap.size) 201 (.int .i64 (wt:Int)) (.int .i64 (cp:Int)):=by
  have h:=(Pair.new w 201 (.int .i64 (wt:Int)) (.int .i64 (cp:Int))).alloc (.cells #[.slice p.a p.n p.c,.slice q.a q.n q.c] 49)
  simpa only[World.size_alloc] using h
 have P2:Pair ((w.alloc (.cells #[.int .i64 (wt:Int),.int .i64 (cp:Int)] 201)).alloc (.cells #[.slice p.a p.n p.c,.slice q.a q.n q.c] 49)) (w.heap.size+1) 49 (.slice p.a p.n p.c) (.slice q.a q.n q.c):=by
  have h:=Pair.new (w.alloc (.cells #[.int .i64 (wt:Int),.int .i64 (cp:Int)] 201)) 49 (.slice p.a p.n p.c) (.slice q.a q.n q.c)
  simpa only[World.size_alloc] using h
 clear hb
 have c0P1:=P1.c0
 have c1P1:=P1.c1
 have c0P2:=P2.c0
 have c1P2:=P2.c1
 go_wp2_with fail
 clear c0P1 c1P1 c0P2 c1P2
 have hb:Below ((w.alloc (.cells #[.int .i64 (wt:Int),.int .i64 (cp:Int)] 201)).alloc (.cells #[.slice p.a p.n p.c,.slice q.a q.n q.c] 49)).heap.size ((w.alloc (.cells #[.int .i64 (wt:Int),.int .i64 (cp:Int)] 201)).alloc (.cells #[.slice p.a p.n p.c,.slice q.a q.n q.c] 49)) ((w.alloc (.cells #[.int .i64 (wt:Int),.int .i64 (cp:Int)] 201)).alloc (.cells #[.slice p.a p.n p.c,.slice q.a q.n q.c] 49)).drew:=(Below.refl _ _).drew
 replace P1:=P1.below hb
 replace P2:=P2.below hb
 replace hl:=hl.below hb
 replace hB:=hB.trans (hb.mono hB.size)
 clear hb
 refine Rd.regionT (fun X=>Pair X (w.heap.size) 201 (.int .i64 (wt:Int)) (.int .i64 (cp:Int))∧Pair X (w.heap.size+1) 49 (.slice p.a p.n p.c) (.slice q.a q.n q.c)) [0,1,3,4,7,8] (.one 0 (.one 1 (.one 3 (.one 4 (.one 2 (.one 5 (.one 6 (.one 7 (.one 8 .done))))))))) (fun ac W=>∃(T:Bool) (y5 y6 y7 y8 y9 y10 y11 y12:Value),ac={ tmps:=List.toArray (.agg #[.int .i64 (wt:Int),.int .i64 (cp:Int)]:: .agg #[.slice p.a p.n p.c,.slice q.a q.n q.c]:: .pointer (some ⟨w.heap.size,0,none⟩):: .pointer (some ⟨w.heap.size+1,0,none⟩):: .bool T::y5::y6::y7::y8::y9::y10::y11::y12::[]),defers:=[] }∧T=decide ((cp:Rat)<l*(wt:Rat))∧Below w.heap.size w W) (by kernel_rfl) (by kernel_rfl) (by kernel_rfl) ⟨P1,P2⟩ ?tree ?next
 case tree=>
  generalize ((w.alloc (.cells #[.int .i64 (wt:Int),.int .i64 (cp:Int)] 201)).alloc (.cells #[.slice p.a p.n p.c,.slice q.a q.n q.c] 49)).drew=w3 at P1 P2 hl hB ⊢
  refine Rd.tr_float (.agg #[.int .i64 (wt:Int),.int .i64 (cp:Int)]) (by simp only[gA,gC];rfl) rfl (by rfl) (fun X hX=>by have h0:=hX.1.c0;have h1:=hX.1.c1;go_simp) ?_
  simp only[Act.put,sA,sB,sC]
  refine Rd.tr_float (.agg #[.slice p.a p.n p.c,.slice q.a q.n q.c]) (by simp only[gA,gB,gC];rfl) rfl (by rfl) (fun X hX=>by have h0:=hX.2.c0;have h1:=hX.2.c1;go_simp) ?_
  simp only[Act.put,sA,sB,sC]
  refine Rd.tr_float (.pointer (some ⟨w.heap.size,1,none⟩)) (by simp only[gA,gB,gC];rfl) rfl (by rfl) (fun X _=>by go_simp) ?_
  simp only[Act.put,sA,sB,sC]
  refine Rd.tr_float (.int .i64 (cp:Int)) (by simp only[gA,gB,gC];rfl) rfl (by rfl) (fun X hX=>by have h0:=hX.1.c0;have h1:=hX.1.c1;go_simp) ?_
  simp only[Act.put,sA,sB,sC]
  refine Rd.tr_move (by simp only[gA,gB,gC];rfl) rfl (by rfl) (fun K hK=>?_)
  have H6:=Lib.hid (uncapped_any wt cp p q (l) w3 hl hw HZ)
  go_simp
  refine H6.out.mono ?_
  rintro e w7 ⟨x4,y5,rfl,rx4,hb⟩
  clear H6
  replace P1:=P1.below hb
  replace P2:=P2.below hb
  replace hl:=hl.below hb
  replace hB:=hB.trans (hb.mono hB.size)
  clear hb
  refine hK _ _ ⟨P1,P2⟩ ?_
  clear hK K
  refine Rd.tr_move (by simp only[gA,gB,gC];rfl) rfl (by rfl) (fun K hK=>?_)
  have H10:=Lib.hid (Qint (cp) (by omega) w7)
  go_simp
  refine H10.out.mono ?_
  rintro e w11 ⟨x8,y9,rfl,rx8,hb⟩
  clear H10
  replace P1:=P1.below hb
  replace P2:=P2.below hb
  replace hl:=hl.below hb
  replace rx4:=rx4.below hb
  replace hB:=hB.trans (hb.mono hB.size)
  clear hb
  refine hK _ _ ⟨P1,P2⟩ ?_
  clear hK K
  refine Rd.tr_move (by simp only[gA,gB,gC];rfl) rfl (by rfl) (fun K hK=>?_)
  have H12:=Lib.hid (Qcmp x4 y5 x8 y9 (l*(wt:Rat)) (((cp:Nat):Rat)) w11 rx4 rx8)
  go_simp
  refine H12.out.mono ?_
  rintro e w13 ⟨rfl,hb⟩
  clear H12
  replace P1:=P1.below hb
  replace P2:=P2.below hb
  replace hl:=hl.below hb
  replace rx4:=rx4.below hb
  replace rx8:=rx8.below hb
  replace hB:=hB.trans (hb.mono hB.size)
  clear hb
  refine hK _ _ ⟨P1,P2⟩ ?_
  clear hK K
  refine Rd.tr_float (.bool (decide (0<(cmpQ (l*(wt:Rat)) (((cp:Nat):Rat)))))) (by simp only[gA,gB,gC];rfl) rfl (by rfl) (fun X _=>by go_simp) ?_
  simp only[Act.put,sA,sB,sC]
  refine Rd.tr_float (.bool (decide (0<(cmpQ (l*(wt:Rat)) (((cp:Nat):Rat)))))) (by simp only[gA,gB,gC];rfl) rfl (by rfl) (fun X _=>by go_simp) ?_
  simp only[Act.put,sA,sB,sC]
  exact Rd.tr_end (⟨_,_,_,_,_,_,_,_,_,rfl,(by simp only[cmpQ_gt]),hB⟩)
 case next=>
  rintro a15 W14 ⟨T,y5,y6,y7,y8,y9,y10,y11,y12,rfl,hT,hB⟩
  go_wp2_with fail
  go_ret
  exact⟨by rw[hT];rfl,hB⟩
theorem gets_high (wt cp:Nat) (p q:Sl) (l:Rat) (w:World) (hl:RQ w p q l) (hw:wt≤10000) (hc:cp≤64) (HZ:Hid (Sz (l*wt))) (HO:Hid ((cp:Rat)<l*(wt:Rat))):
  Calls Tryz.prog 141 #[.agg #[.int .i64 (wt:Int),.int .i64 (cp:Int)],.agg #[.slice p.a p.n p.c,.slice q.a q.n q.c]] w fun e w'=>∃x y:Sl,e= .returned (.agg #[.slice x.a x.n x.c,.slice y.a y.n y.c])∧RQ w' x y (given l (wt,cp))∧Below w.heap.size w w':=by
 go_enter Tryz.func141,Tryz.ntmps141
 have hb:Below w.heap.size w (((w.alloc (.cells #[.int .i64 (wt:Int),.int .i64 (cp:Int)] 201)).alloc (.cells #[.slice p.a p.n p.c,.slice q.a q.n q.c] 49)).alloc (.cells #[.slice none 0 0,.slice none 0 0] 49)):=((((Below.refl _ _).alloc (Nat.le_refl _) _).alloc (by simp) _).alloc (by simp;omega) _)
 replace hl:=hl.below hb
 have hB:=hb
 have P1:Pair (((w.alloc (.cells #[.int .i64 (wt:Int),.int .i64 (cp:Int)] 201)).alloc (.cells #[.slice p.a p.n p.c,.slice q.a q.n q.c] 49)).alloc (.cells #[.slice none 0 0,.slice none 0 0] 49)) (w.heap.size) 201 (.int .i64 (wt:Int)) (.int .i64 (cp:Int)):=by
  have h:=((Pair.new w 201 (.int .i64 (wt:Int)) (.int .i64 (cp:Int))).alloc (.cells #[.slice p.a p.n p.c,.slice q.a q.n q.c] 49)).alloc (.cells #[.slice none 0 0,.slice none 0 0] 49)
  simpa only[World.size_alloc] using h
 have P2:Pair (((w.alloc (.cells #[.int .i64 (wt:Int),.int .i64 (cp:Int)] 201)).alloc (.cells #[.slice p.a p.n p.c,.slice q.a q.n q.c] 49)).alloc (.cells #[.slice none 0 0,.slice none 0 0] 49)) (w.heap.size+1) 49 (.slice p.a p.n p.c) (.slice q.a q.n q.c):=by
  have h:=(Pair.new (w.alloc (.cells #[.int .i64 (wt:Int),.int .i64 (cp:Int)] 201)) 49 (.slice p.a p.n p.c) (.slice q.a q.n q.c)).alloc (.cells #[.slice none 0 0,.slice none 0 0] 49)
  simpa only[World.size_alloc] using h
 have P3:Pair (((w.alloc (.cells #[.int .i64 (wt:Int),.int .i64 (cp:Int)] 201)).alloc (.cells #[.slice p.a p.n p.c,.slice q.a q.n q.c] 49)).alloc (.cells #[.slice none 0 0,.slice none 0 0] 49)) (w.heap.size+1+1) 49 (.slice none 0 0) (.slice none 0 0):=by
  have h:=Pair.new ((w.alloc (.cells #[.int .i64 (wt:Int),.int .i64 (cp:Int)] 201)).alloc (.cells #[.slice p.a p.n p.c,.slice q.a q.n q.c] 49)) 49 (.slice none 0 0) (.slice none 0 0)
  simpa only[World.size_alloc] using h
 clear hb
 have c0P1:=P1.c0
 have c1P1:=P1.c1
 have c0P2:=P2.c0
 have c1P2:=P2.c1
 have c0P3:=P3.c0
 have c1P3:=P3.c1
 have H4:=Lib.hid (isOver_any wt cp p q (l) (((w.alloc (.cells #[.int .i64 (wt:Int),.int .i64 (cp:Int)] 201)).alloc (.cells #[.slice p.a p.n p.c,.slice q.a q.n q.c] 49)).alloc (.cells #[.slice none 0 0,.slice none 0 0] 49)) hl hw hc HZ)
 rw[decide_eq_true (HO.out)] at H4
 go_wp2_with fail
 clear c0P1 c1P1 c0P2 c1P2 c0P3 c1P3
 refine H4.out.mono ?_
 rintro e w5 ⟨rfl,hb⟩
 clear H4
 replace P1:=P1.below hb
 replace P2:=P2.below hb
 replace P3:=P3.below hb
 replace hl:=hl.below hb
 replace hB:=hB.trans (hb.mono hB.size)
 clear hb
 have c0P1:=P1.c0
 have c1P1:=P1.c1
 have c0P2:=P2.c0
 have c1P2:=P2.c1
 have c0P3:=P3.c0
 have c1P3:=P3.c1
 have H8:=Lib.hid (Qint (cp) (by omega) w5)
 go_wp2_with fail
 clear c0P1 c1P1 c0P2 c1P2 c0P3 c1P3
 refine H8.out.mono ?_
 rintro e w9 ⟨x6,y7,rfl,rx6,hb⟩
 clear H8
 replace P1:=P1.below hb
 replace P2:=P2.below hb
 replace P3:=P3.below hb
 replace hl:=hl.below hb
 replace hB:=hB.trans (hb.mono hB.size)
 clear hb
 have c0:=P3.c0
 have c1:=P3.c1
 have z0:=P3.z0
 have z1:=P3.z1
 go_wp2_with fail
 replace rx6:=rx6.pset P3 (.slice x6.a x6.n x6.c) (.slice y7.a y7.n y7.c)
 replace hB:=Below.pset (B:=w.heap.size+1+1) hB (by omega) (.slice x6.a x6.n x6.c) (.slice y7.a y7.n y7.c)
 have PR:=P3.set (.slice x6.a x6.n x6.c) (.slice y7.a y7.n y7.c)
 generalize (w9.setCell ⟨w.heap.size+1+1,0,none⟩ (.slice x6.a x6.n x6.c)).setCell ⟨w.heap.size+1+1,1,none⟩ (.slice y7.a y7.n y7.c)=WW at rx6 PR hB ⊢
 refine bodyPost_ret (v:=.agg #[.slice x6.a x6.n x6.c,.slice y7.a y7.n y7.c]) ?_ rfl ⟨x6,y7,rfl,by unfold given;rw[if_pos HO.out];exact rx6,hB⟩
 simp[results,Tryz.f141,go_sem,PR.c0,PR.c1]
theorem gets_low (wt cp:Nat) (p q:Sl) (l:Rat) (w:World) (hl:RQ w p q l) (hw:wt≤10000) (hc:cp≤64) (HZ:Hid (Sz (l*wt))) (HO:Hid (¬(cp:Rat)<l*(wt:Rat))):
  Calls Tryz.prog 141 #[.agg #[.int .i64 (wt:Int),.int .i64 (cp:Int)],.agg #[.slice p.a p.n p.c,.slice q.a q.n q.c]] w fun e w'=>∃x y:Sl,e= .returned (.agg #[.slice x.a x.n x.c,.slice y.a y.n y.c])∧RQ w' x y (given l (wt,cp))∧Below w.heap.size w w':=by
 go_enter Tryz.func141,Tryz.ntmps141
 have hb:Below w.heap.size w (((w.alloc (.cells #[.int .i64 (wt:Int),.int .i64 (cp:Int)] 201)).alloc (.cells #[.slice p.a p.n p.c,.slice q.a q.n q.c] 49)).alloc (.cells #[.slice none 0 0,.slice none 0 0] 49)):=((((Below.refl _ _).alloc (Nat.le_refl _) _).alloc (by simp) _).alloc (by simp;omega) _)
 replace hl:=hl.below hb
 have hB:=hb
 have P1:Pair (((w.alloc (.cells #[.int .i64 (wt:Int),.int .i64 (cp:Int)] 201)).alloc (.cells #[.slice p.a p.n p.c,.slice q.a q.n q.c] 49)).alloc (.cells #[.slice none 0 0,.slice none 0 0] 49)) (w.heap.size) 201 (.int .i64 (wt:Int)) (.int .i64 (cp:Int)):=by
  have h:=((Pair.new w 201 (.int .i64 (wt:Int)) (.int .i64 (cp:Int))).alloc (.cells #[.slice p.a p.n p.c,.slice q.a q.n q.c] 49)).alloc (.cells #[.slice none 0 0,.slice none 0 0] 49)
  simpa only[World.size_alloc] using h
 have P2:Pair (((w.alloc (.cells #[.int .i64 (wt:Int),.int .i64 (cp:Int)] 201)).alloc (.cells #[.slice p.a p.n p.c,.slice q.a q.n q.c] 49)).alloc (.cells #[.slice none 0 0,.slice none 0 0] 49)) (w.heap.size+1) 49 (.slice p.a p.n p.c) (.slice q.a q.n q.c):=by
  have h:=(Pair.new (w.alloc (.cells #[.int .i64 (wt:Int),.int .i64 (cp:Int)] 201)) 49 (.slice p.a p.n p.c) (.slice q.a q.n q.c)).alloc (.cells #[.slice none 0 0,.slice none 0 0] 49)
  simpa only[World.size_alloc] using h
 have P3:Pair (((w.alloc (.cells #[.int .i64 (wt:Int),.int .i64 (cp:Int)] 201)).alloc (.cells #[.slice p.a p.n p.c,.slice q.a q.n q.c] 49)).alloc (.cells #[.slice none 0 0,.slice none 0 0] 49)) (w.heap.size+1+1) 49 (.slice none 0 0) (.slice none 0 0):=by
  have h:=Pair.new ((w.alloc (.cells #[.int .i64 (wt:Int),.int .i64 (cp:Int)] 201)).alloc (.cells #[.slice p.a p.n p.c,.slice q.a q.n q.c] 49)) 49 (.slice none 0 0) (.slice none 0 0)
  simpa only[World.size_alloc] using h
 clear hb
 have c0P1:=P1.c0
 have c1P1:=P1.c1
 have c0P2:=P2.c0
 have c1P2:=P2.c1
 have c0P3:=P3.c0
 have c1P3:=P3.c1
 have H4:=Lib.hid (isOver_any wt cp p q (l) (((w.alloc (.cells #[.int .i64 (wt:Int),.int .i64 (cp:Int)] 201)).alloc (.cells #[.slice p.a p.n p.c,.slice q.a q.n q.c] 49)).alloc (.cells #[.slice none 0 0,.slice none 0 0] 49)) hl hw hc HZ)
 rw[decide_eq_false (HO.out)] at H4
 go_wp2_with fail
 clear c0P1 c1P1 c0P2 c1P2 c0P3 c1P3
 refine H4.out.mono ?_
 rintro e w5 ⟨rfl,hb⟩
 clear H4
 replace P1:=P1.below hb
 replace P2:=P2.below hb
 replace P3:=P3.below hb
 replace hl:=hl.below hb
 replace hB:=hB.trans (hb.mono hB.size)
 clear hb
 have c0P1:=P1.c0
 have c1P1:=P1.c1
 have c0P2:=P2.c0
 have c1P2:=P2.c1
 have c0P3:=P3.c0
 have c1P3:=P3.c1
 have H8:=Lib.hid (uncapped_any wt cp p q (l) w5 hl hw HZ)
 go_wp2_with fail
 clear c0P1 c1P1 c0P2 c1P2 c0P3 c1P3
 refine H8.out.mono ?_
 rintro e w9 ⟨x6,y7,rfl,rx6,hb⟩
 clear H8
 replace P1:=P1.below hb
 replace P2:=P2.below hb
 replace P3:=P3.below hb
 replace hl:=hl.below hb
 replace hB:=hB.trans (hb.mono hB.size)
 clear hb
 have c0:=P3.c0
 have c1:=P3.c1
 have z0:=P3.z0
 have z1:=P3.z1
 go_wp2_with fail
 replace rx6:=rx6.pset P3 (.slice x6.a x6.n x6.c) (.slice y7.a y7.n y7.c)
 replace hB:=Below.pset (B:=w.heap.size+1+1) hB (by omega) (.slice x6.a x6.n x6.c) (.slice y7.a y7.n y7.c)
 have PR:=P3.set (.slice x6.a x6.n x6.c) (.slice y7.a y7.n y7.c)
 generalize (w9.setCell ⟨w.heap.size+1+1,0,none⟩ (.slice x6.a x6.n x6.c)).setCell ⟨w.heap.size+1+1,1,none⟩ (.slice y7.a y7.n y7.c)=WW at rx6 PR hB ⊢
 refine bodyPost_ret (v:=.agg #[.slice x6.a x6.n x6.c,.slice y7.a y7.n y7.c]) ?_ rfl ⟨x6,y7,rfl,by unfold given;rw[if_neg HO.out];exact rx6,hB⟩
 simp[results,Tryz.f141,go_sem,PR.c0,PR.c1]
theorem gets_any (wt cp:Nat) (p q:Sl) (l:Rat) (w:World) (hl:RQ w p q l) (hw:wt≤10000) (hc:cp≤64) (HZ:Hid (Sz (l*wt))):
  Calls Tryz.prog 141 #[.agg #[.int .i64 (wt:Int),.int .i64 (cp:Int)],.agg #[.slice p.a p.n p.c,.slice q.a q.n q.c]] w fun e w'=>∃x y:Sl,e= .returned (.agg #[.slice x.a x.n x.c,.slice y.a y.n y.c])∧RQ w' x y (given l (wt,cp))∧Below w.heap.size w w':=by
 by_cases h:(cp:Rat)<l*(wt:Rat)
 ·exact gets_high wt cp p q l w hl hw hc HZ (Lib.hid h)
 ·exact gets_low wt cp p q l w hl hw hc HZ (Lib.hid h)
end Go.Proofs.YtohifgjeebhijaaGreatDoor
namespace Go.Proofs.YtohifgjeebhijaaGreatDoor
set_option maxRecDepth 100000
set_option maxHeartbeats 4000000
open Go.RowKit Go.Dig Go.Shelf Go.Proofs Go.Rq
def Blc (w:World) (B:Nat) (cs:List Value) (t:TypeId):Prop:=w.heap[B]? =some (.cells cs.toArray t)
section
variable {w w':World} {B:Nat} {cs:List Value} {t:TypeId}
theorem Blc.lt (h:Blc w B cs t):B<w.heap.size:=(Array.getElem?_eq_some_iff.1 h).1
theorem Blc.cell (h:Blc w B cs t) {j:Nat} {v:Value} (hj:cs[j]? =some v):w.cell? ⟨B,j,none⟩=some v:=by
 simp[World.cell?,show w.heap[B]? =_ from h,hj]
theorem Blc.frozen (h:Blc w B cs t) (j:Nat):w.frozen? ⟨B,j,none⟩=false:=by
 simp[World.frozen?,show w.heap[B]? =_ from h]
theorem Blc.set (h:Blc w B cs t) (j:Nat) (x:Value):Blc (w.setCell ⟨B,j,none⟩ x) B (cs.set j x) t:=by
 have h2:=cell_set w B j x _ _ _ _ h rfl
 unfold Blc
 rw[h2,sA]
theorem Blc.below (h:Blc w B cs t) (hb:Below w.heap.size w w'):Blc w' B cs t:=(hb.block B h.lt).trans h
theorem Blc.other (h:Blc w B cs t) {C:Nat} (hne:B≠C) (j:Nat) (x:Value):Blc (w.setCell ⟨C,j,none⟩ x) B cs t:=(Below.heap_setCell _ _ _ _ hne).trans h
theorem Blc.of_owns {base n:Nat} {size:Nat} {xs:List Value} (h:w.ownsRow base t size (.slice (some ⟨B,0,none⟩) n n) n xs):Blc w B xs t:=by
 obtain⟨h1,h2⟩:=h
 rcases h2 with ⟨e,_⟩ | ⟨g,cap,cur,e,_,hg,_,_,hs,ht⟩
 ·cases e
 ·cases e
  have e2:cur.toList=xs:=by rw[←ht,List.take_of_length_le (by rw[Array.length_toList,hs];exact Nat.le_refl _)]
  unfold Blc
  rw[hg,←e2]
end
def KB (w:World) (B:Nat) (ks:List Kid):Prop:=
 B<w.heap.size∧∀j,j<ks.length→(w.cell? ⟨B,j*2,none⟩=some (.int .i64 ((ks.getD j (0,0)).1:Int))∧w.frozen? ⟨B,j*2,none⟩=false)∧(w.cell? ⟨B,j*2+1,none⟩=some (.int .i64 ((ks.getD j (0,0)).2:Int))∧w.frozen? ⟨B,j*2+1,none⟩=false)
theorem KB.below {w w':World} {B:Nat} {ks:List Kid} (h:KB w B ks) (hb:Below w.heap.size w w'):KB w' B ks:=
 ⟨Nat.lt_of_lt_of_le h.1 hb.size,fun j hj=>by
  have h1:=h.2 j hj
  have e:=hb.block B h.1
  rw[World.cell?_of_block (w:=w) (a:=⟨B,j*2,none⟩) e,World.cell?_of_block (w:=w) (a:=⟨B,j*2+1,none⟩) e,World.frozen?_of_block (w:=w) (a:=⟨B,j*2,none⟩) e,World.frozen?_of_block (w:=w) (a:=⟨B,j*2+1,none⟩) e]
  exact h1⟩
theorem KB.lt {w:World} {B:Nat} {ks:List Kid} (h:KB w B ks):B<w.heap.size:=h.1
theorem KB.of_blk {w:World} {B:Nat} {ks:List Kid} {cs:List Value} {t:TypeId} (h:Blc w B cs t) (hc: ∀j,j<ks.length→cs[j*2]? =some (.int .i64 ((ks.getD j (0,0)).1:Int))∧cs[j*2+1]? =some (.int .i64 ((ks.getD j (0,0)).2:Int))):KB w B ks:=
 ⟨h.lt,fun j hj=>⟨⟨h.cell (hc j hj).1,h.frozen _⟩,⟨h.cell (hc j hj).2,h.frozen _⟩⟩⟩
theorem map_getD {ks:List Kid} (f:Kid→Int) {j:Nat} (h:j<ks.length):(ks.map f).getD j 0=f (ks.getD j (0,0)):=by
 simp[List.getD_eq_getElem?_getD,h]
theorem Tryz.info201:(Tryz.prog.info? 201).map (fun i=>(i.zero,i.size,i.bytes))=some (some (.agg #[.int .i64 0,.int .i64 0]),2,16):=by kernel_rfl
theorem made_two {n i:Nat} (h:i<n):(madeCells (Value.agg #[.int .i64 0,.int .i64 0]).cells n).toList[i]? =some (.int .i64 0):=by
 have e:(Value.agg #[.int .i64 0,.int .i64 0]).cells= #[.int .i64 0,.int .i64 0]:=by rfl
 rw[e]
 simp only[madeCells,Array.toList_map,Array.toList_range,List.getElem?_map,List.getElem?_range h,Option.map_some]
 have h2:i % 2<2:=Nat.mod_lt _ (by omega)
 show some (#[Value.int .i64 0,Value.int .i64 0][i % 2]!)=_
 generalize i % 2=r at h2
 match r,h2 with
 | 0,_=>rfl
 | 1,_=>rfl
theorem set_two {cs:List Value} {n k:Nat} (hlen:cs.length=n*2) (hk:k<n) (ks:List Kid) (x y:Int) (hx:x=((ks.getD k (0,0)).1:Int)) (hy:y=((ks.getD k (0,0)).2:Int))
  (h: ∀j,j<k→cs[j*2]? =some (.int .i64 ((ks.getD j (0,0)).1:Int))∧cs[j*2+1]? =some (.int .i64 ((ks.getD j (0,0)).2:Int))):
  ∀j,j<k+1→((cs.set (k*2) (.int .i64 x)).set (k*2+1) (.int .i64 y))[j*2]? =some (.int .i64 ((ks.getD j (0,0)).1:Int))∧((cs.set (k*2) (.int .i64 x)).set (k*2+1) (.int .i64 y))[j*2+1]? =some (.int .i64 ((ks.getD j (0,0)).2:Int)):=by
 intro j hj
 by_cases e:j=k
 ·subst e
  refine⟨?_,?_⟩
  ·rw[List.getElem?_set_ne (by omega),List.getElem?_set_self (by omega),hx]
  ·rw[List.getElem?_set_self (by rw[List.length_set];omega),hy]
 ·have h1:=h j (by omega)
  refine⟨?_,?_⟩
  ·rw[List.getElem?_set_ne (by omega),List.getElem?_set_ne (by omega)];exact h1.1
  ·rw[List.getElem?_set_ne (by omega),List.getElem?_set_ne (by omega)];exact h1.2
theorem set_ints {cs:List Value} {m i:Nat} {x:Int} (hlen:cs.length=m) (h: ∀j,j<m→∃z:Int,cs[j]? =some (.int .i64 z)): ∀j,j<m→∃z:Int,(cs.set i (.int .i64 x))[j]? =some (.int .i64 z):=by
 intro j hj
 by_cases e:i=j
 ·subst e
  exact⟨x,List.getElem?_set_self (by omega)⟩
 ·rw[List.getElem?_set_ne e]
  exact h j hj
theorem children_none (p q:Sl) (w:World) (ep:p.n=0) (eq:q.n=0):
  Calls Tryz.prog 140 #[.slice p.a p.n p.c,.slice q.a q.n q.c] w fun e w'=>∃B,e= .returned (.slice (some ⟨B,0,none⟩) 0 0)∧w.heap.size≤B∧KB w' B []∧Below w.heap.size w w':=by
 obtain⟨i0,hi,hz0,hz1,hz2⟩:=info_parts Tryz.info201
 rw[ep,eq]
 clear ep eq
 go_enter Tryz.func140,Tryz.ntmps140
 go_wp2_with (at_make;refine wpList_make_full _ rfl _ _ 198 rfl w.heap.size 201 i0 _ 2 Tryz.underlying198 hi hz0 hz1 .i64 .i64 _ _ 0 rfl rfl rfl rfl (by rw[hz2];omega) (by unfold maxLen;omega) (Nat.le_refl _) ?_;intro w1 hown hgrow)
 refine wp_loop_rounds 1 ?_
 rw[rounds_succ]
 go_wp2_with fail
 go_ret
 have hk:=Blc.of_owns hown
 refine⟨w.heap.size,rfl,Nat.le_refl _,KB.of_blk hk (fun j hj=>by simp at hj),?_⟩
 exact(Below.refl _ _).grown hgrow (Nat.le_refl _) (fun j ej=>by cases ej)
theorem children_some (p q:Sl) (ks:List Kid) (w:World) (hp:RI w p (ks.map fun k=>(k.1:Int))) (hq:RI w q (ks.map fun k=>(k.2:Int))) (hl:ks.length≤100) (hne:ks≠[]):
  Calls Tryz.prog 140 #[.slice p.a p.n p.c,.slice q.a q.n q.c] w fun e w'=>∃B,e= .returned (.slice (some ⟨B,0,none⟩) ks.length ks.length)∧w.heap.size≤B∧KB w' B ks∧Below w.heap.size w w':=by
 obtain⟨i0,hi,hz0,hz1,hz2⟩:=info_parts Tryz.info201
 have ep:=hp.len
 have eq:=hq.len
 rw[List.length_map] at ep eq
 obtain⟨b1,o1,ea1,hb1,hc1⟩:=hp.open (by simpa using hne)
 obtain⟨b2,o2,ea2,hb2,hc2⟩:=hq.open (by simpa using hne)
 rw[ep,eq,ea1,ea2]
 have HC1:Hid (∀j,j<ks.length→w.cell? ⟨b1,o1+j,none⟩=some (.int .i64 ((ks.getD j (0,0)).1:Int))):=Lib.hid (fun j hj=>by rw[hc1 j (by simpa using hj),map_getD _ hj])
 have HC2:Hid (∀j,j<ks.length→w.cell? ⟨b2,o2+j,none⟩=some (.int .i64 ((ks.getD j (0,0)).2:Int))):=Lib.hid (fun j hj=>by rw[hc2 j (by simpa using hj),map_getD _ hj])
 clear hp hq ep eq ea1 ea2 hc1 hc2 hne
 go_enter Tryz.func140,Tryz.ntmps140
 go_wp2_with (at_make;refine wpList_make_full _ rfl _ _ 198 rfl w.heap.size 201 i0 _ 2 Tryz.underlying198 hi hz0 hz1 .i64 .i64 _ _ ks.length rfl rfl rfl rfl (by rw[hz2];omega) (by unfold maxLen;omega) (Nat.le_refl _) ?_;intro w1 hown hgrow)
 have hk:=Blc.of_owns hown
 have hB:Below w.heap.size w w1:=(Below.refl _ _).grown hgrow (Nat.le_refl _) (fun j ej=>by cases ej)
 have hm: ∀j,j<ks.length*2→∃z:Int,(madeCells (Value.agg #[.int .i64 0,.int .i64 0]).cells (ks.length*2)).toList[j]? =some (.int .i64 z):=fun j hj=>⟨0,made_two hj⟩
 have hlen:(madeCells (Value.agg #[.int .i64 0,.int .i64 0]).cells (ks.length*2)).toList.length=ks.length*2:=by simp[size_madeCells]
 clear hown hgrow hi hz0 hz1 hz2
 generalize (madeCells (Value.agg #[.int .i64 0,.int .i64 0]).cells (ks.length*2)).toList=cs0 at hk hm hlen
 have HK:=Lib.hid hk
 have HM:=Lib.hid hm
 have HLn:=Lib.hid hlen
 clear hk hm hlen
 obtain⟨B,hBe⟩: ∃B,B=w.heap.size:=⟨_,rfl⟩
 have hBd:=Nat.le_of_eq hBe.symm
 rw[←hBe] at HK ⊢
 have HBe:=Lib.hid hBe
 clear hBe
 have HBw:=Lib.hid hB
 clear hB
 go_loopw [13] (fun i wr=>∃(k:Nat) (cs:List Value),k≤ks.length∧i= .int .i64 (k:Int)∧Hid (Blc wr B cs 201)∧Hid (cs.length=ks.length*2)∧Hid (∀j,j<ks.length*2→∃z:Int,cs[j]? =some (.int .i64 z))∧Hid (∀j,j<k→cs[j*2]? =some (.int .i64 ((ks.getD j (0,0)).1:Int))∧cs[j*2+1]? =some (.int .i64 ((ks.getD j (0,0)).2:Int)))∧Hid (Below w.heap.size w wr)) (fun i _=>ks.length - (intOf i).toNat)
 case atStart=>exact⟨0,cs0,Nat.zero_le _,rfl,HK,HLn,HM,Lib.hid (fun j hj=>absurd hj (by omega)),HBw⟩
 case round=>
  obtain⟨k,cs,hk,rfl,HK1,HL1,HM1,HD,HB1⟩:=hrel
  by_cases hlt:k<ks.length
  ·have c1:=(HB1.out.cell (p:=⟨b1,o1+k,none⟩) hb1).trans (HC1.out k hlt)
   have c2:=(HB1.out.cell (p:=⟨b2,o2+k,none⟩) hb2).trans (HC2.out k hlt)
   obtain⟨z1,hz1⟩:=HM1.out (k*2) (by omega)
   obtain⟨z2,hz2⟩:=HM1.out (k*2+1) (by omega)
   have c3:=HK1.out.cell hz1
   have c4:=HK1.out.cell hz2
   have f3:=HK1.out.frozen (k*2)
   have f4:=HK1.out.frozen (k*2+1)
   obtain⟨x,hx⟩: ∃x:Int,x=((ks.getD k (0,0)).1:Int):=⟨_,rfl⟩
   obtain⟨y,hy⟩: ∃y:Int,y=((ks.getD k (0,0)).2:Int):=⟨_,rfl⟩
   rw[←hx] at c1
   rw[←hy] at c2
   have HX:=Lib.hid hx
   have HY:=Lib.hid hy
   clear hx hy hz1 hz2
   go_wp2_with fail
   go_round
   case rel=>
    refine⟨k+1,(cs.set (k*2) (.int .i64 x)).set (k*2+1) (.int .i64 y),by omega,by go_num,?_,?_,?_,?_,?_⟩
    ·exact Lib.hid ((HK1.out.set _ _).set _ _)
    ·exact Lib.hid (by rw[List.length_set,List.length_set];exact HL1.out)
    ·exact Lib.hid (set_ints (by rw[List.length_set];exact HL1.out) (set_ints HL1.out HM1.out))
    ·exact Lib.hid (set_two HL1.out hlt ks x y HX.out HY.out HD.out)
    ·exact Lib.hid ((HB1.out.setCell (p:=⟨B,k*2,none⟩) hBd _).setCell (p:=⟨B,k*2+1,none⟩) hBd _)
   case measure=>simp[intOf];omega
  ·go_wp2_with fail
   go_ret
   exact⟨B,rfl,hBd,KB.of_blk HK1.out (fun j hj=>HD.out j (by omega)),HB1.out⟩
theorem children_any (p q:Sl) (ks:List Kid) (w:World) (hp:RI w p (ks.map fun k=>(k.1:Int))) (hq:RI w q (ks.map fun k=>(k.2:Int))) (hl:ks.length≤100):
  Calls Tryz.prog 140 #[.slice p.a p.n p.c,.slice q.a q.n q.c] w fun e w'=>∃B,e= .returned (.slice (some ⟨B,0,none⟩) ks.length ks.length)∧w.heap.size≤B∧KB w' B ks∧Below w.heap.size w w':=by
 by_cases hne:ks=[]
 ·subst hne
  exact children_none p q w (by rw[hp.len];rfl) (by rw[hq.len];rfl)
 ·exact children_some p q ks w hp hq hl hne
end Go.Proofs.YtohifgjeebhijaaGreatDoor
