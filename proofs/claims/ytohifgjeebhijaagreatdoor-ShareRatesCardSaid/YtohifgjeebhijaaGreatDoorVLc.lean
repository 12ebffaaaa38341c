import Derived.Test.YtohifgjeebhijaaGreatDoorVNd
import Derived.Test.YtohifgjeebhijaaGreatDoorVNg
import Derived.Test.YtohifgjeebhijaaGreatDoorVRq
namespace Go.Proofs.YtohifgjeebhijaaGreatDoor
open Go.RowKit Go.Dig Go.Shelf Go.Proofs
theorem xh (a b:Nat):(L (a+b)).length≤(L a).length+(L b).length+1:=by
 rw[cC A3];have h1:a<18446744073709551616 ^ (L a).length:=eM (B:=18446744073709551616) A3 a;have h2:b<18446744073709551616 ^ (L b).length:=eM (B:=18446744073709551616) A3 b;have h3:18446744073709551616 ^ (L a).length≤18446744073709551616 ^ ((L a).length+(L b).length):=Nat.pow_le_pow_right A3 A3;have h4:18446744073709551616 ^ (L b).length≤18446744073709551616 ^ ((L a).length+(L b).length):=Nat.pow_le_pow_right A3 A3;rw[Nat.pow_succ];omega
theorem xV (a b:Nat):(L (a*b)).length≤(L a).length+(L b).length:=by
 rw[cC A3,Nat.pow_add];have h1:a<18446744073709551616 ^ (L a).length:=eM (B:=18446744073709551616) A3 a;have h2:b<18446744073709551616 ^ (L b).length:=eM (B:=18446744073709551616) A3 b;exact Nat.mul_lt_mul'' h1 h2
theorem fb {a b:Nat} (h:a≤b):(L a).length≤(L b).length:=dN A3 h
theorem f8 (a:Nat):(D a).length≤5*(L a).length:=by
 have h:=vX (bH a);rw[V_L] at h;exact h
section
variable (v1 v2:Value) (a b:Nat) (w:World)
theorem eD (h1:aH w v1 (L a)) (h2:aH w v2 (L b)) (l1:(L a).length≤1000) (l2:(L b).length≤1000):
  Calls Tryz.prog 40 #[v1,v2] w fun e w'=>∃v,e= .returned v∧aH w' v (L (a*b))∧Below w.heap.size w w':=by
 have h:=vo v1 v2 (L a) (L b) w h1 h2 (bH a) (bH b) A3 A3;rw[V_L,V_L] at h;exact h
theorem gt (h1:aH w v1 (L a)) (h2:aH w v2 (L b)) (l1:(L a).length≤1000) (l2:(L b).length≤1000):
  Calls Tryz.prog 37 #[v1,v2] w fun e w'=>e= .returned (.int .i64 (bJ a b))∧Below w.heap.size w w':=by
 have h:=oK v1 v2 (L a) (L b) w h1 h2 (bH a) (bH b) A3 A3;rw[V_L,V_L] at h;exact h
theorem xt (h1:aH w v1 (L a)) (h2:aH w v2 (L b)) (l1:(L a).length≤1000) (hab:b≤a):
  Calls Tryz.prog 189 #[v1,v2] w fun e w'=>∃v,e= .returned (.tuple #[v,.int .i64 0])∧aH w' v (L (a - b))∧Below w.heap.size w w':=wK v1 v2 a b w h1 h2 A3 hab
theorem BA {p:Prop} (h:p:=by have:=f8 a;omega):p:=h
theorem cJ (h1:Row w v1 (D a)) (h2:Row w v2 (D b)) (l1:(L a).length≤1000) (l2:(L b).length≤1000):
  Calls Tryz.prog 110 #[v1,v2] w fun e w'=>∃v,e= .returned v∧Row w' v (D (a*b))∧Below w.heap.size w w':=jA v1 v2 a b w h1 h2 BA (by have:=f8 b;omega)
theorem wR (h1:Row w v1 (D a)) (h2:Row w v2 (D b)) (l1:(L a).length≤1000) (l2:(L b).length≤1000):
  Calls Tryz.prog 109 #[v1,v2] w fun e w'=>∃v,e= .returned v∧Row w' v (D (a+b))∧Below w.heap.size w w':=rH v1 v2 a b w h1 h2 BA (by have:=f8 b;omega)
end
set_option maxRecDepth 100000
set_option maxHeartbeats 4000000
theorem de (v:Value) (a:Nat) (w:World) (h:aH w v (L a)) (hl:(L a).length≤1000):
  Calls Tryz.prog 70 #[v] w fun e w'=>∃ad c,e= .returned (.slice ad (L a).length c)∧(a=0→ad=none∧c=0)∧aH w' (.slice ad (L a).length c) (L a)∧Below w.heap.size w w':=by
 have R:=h;obtain⟨ad,cap,rfl,hcap,-⟩:=h;have et:bq (L a)=L a:=by rw[d6 (bH a),V_L]
 refine(b7 ad cap (L a) w R A3).mono ?_;rintro e w' ⟨rfl,hb⟩;unfold dr;rw[et];by_cases h0:L a=[]
 ·rw[if_pos h0,h0];exact⟨none,0,rfl,fun _=>⟨rfl,rfl⟩,⟨_,_,rfl,Nat.le_refl _,fun h=>absurd rfl h⟩,hb⟩
 ·rw[if_neg h0];exact⟨ad,cap,rfl,fun e=>absurd ((dW A3 a).2 e) h0,R.below hb,hb⟩
theorem lz (ad:Option Addr) (c a n:Nat) (w:World) (hn:n=(L a).length) (h:aH w (.slice ad n c) (L a)) (h0:a=0→ad=none∧c=0) (hl:(L a).length≤1000):
  Calls Tryz.prog 92 #[.slice ad n c] w fun e w'=>∃v,e= .returned v∧aH w' v (L a)∧Below w.heap.size w w':=by
 subst hn;by_cases ha:a=0
 ·obtain⟨rfl,rfl⟩:=h0 ha;subst ha;refine(l4 w).mono ?_;rintro e w' ⟨rfl,rfl⟩;exact⟨_,rfl,h,Below.refl _ _⟩
 ·refine(iN _ (L a) w h (fun e=>ha ((dW A3 a).1 e)) A3).mono ?_;rintro e w' ⟨g,cap,rfl,hO,hb⟩;exact⟨_,rfl,hO.row,hb⟩
theorem jN {a:Nat} (h:a≠0):0<(L a).length:=List.length_pos_iff.2 (fun e=>h ((dW A3 a).1 e))
theorem xp {b:Nat} (h0:b≠0) (h:(L b).length=1):b<18446744073709551616∧(L b).getD 0 0=b:=by
 have h1:b<18446744073709551616 ^ 1:=(cC A3 b 1).1 (Nat.le_of_eq h);rw[Nat.pow_one] at h1;refine⟨h1,?_⟩;have e:L b=b % 18446744073709551616::L (b / 18446744073709551616):=fa A3 h0;rw[e,Nat.mod_eq_of_lt h1];rfl
theorem Ci {p:Prop} (h:p:=by have:=HNB.out;omega):p:=h
theorem Be {p:Prop} (h:p:=by have:=HNA.out;omega):p:=h
theorem nV (v1 v2:Value) (a b:Nat) (w:World) (h1:aH w v1 (L a)) (h2:aH w v2 (L b)) (l1:(L a).length≤1000) (l2:(L b).length≤1000) (hb:b≠0) (hab:a<b):
  Calls Tryz.prog 76 #[v1,v2] w fun e w'=>∃q r,e= .returned (.tuple #[q,r,.int .i64 0])∧aH w' q (L (a / b))∧aH w' r (L (a % b))∧Below w.heap.size w w':=by
 have R1:=Hd h1;have R2:=Hd h2;clear h1 h2;obtain⟨na,hna⟩: ∃na,na=(L a).length:=⟨_,rfl⟩
 obtain⟨nb,hnb⟩: ∃nb,nb=(L b).length:=⟨_,rfl⟩
 have HNA:=Hd hna;have HNB:=Hd hnb;have hz:0<nb:=by rw[hnb];exact jN hb
 have HAB:=Hd hab;clear hb hab;clear hna hnb;have H38:=de v1 a w R1.out Be;rw[←HNA.out] at H38;have HH:=Hd H38;clear H38;go_enter Tryz.func76,Tryz.ntmps76
 go_wp2_with fail
 refine HH.mono ?_;rintro e w1 ⟨ad1,c1,rfl,z1,r1,hb1⟩;have Z1:=Hd z1;clear z1 HH;have H38:=de v2 b w1 (R2.below hb1) Ci;rw[←HNB.out] at H38;have HH:=Hd H38;clear H38
 go_wp2_with fail
 refine HH.mono ?_;rintro e w2 ⟨ad2,c2,rfl,z2,r2,hb2⟩;clear HH z2;replace r1:=r1.below hb2;have hB:=hb1.tr hb2;clear hb1 hb2;have H22:=Hd (gt (.slice ad1 na c1) (.slice ad2 nb c2) a b w2 r1 r2 Be Ci);rw[show bJ a b= -1 by unfold bJ;rw[if_pos HAB.out]] at H22
 go_wp2_with fail
 refine H22.mono ?_;rintro e w3 ⟨rfl,hb⟩;replace r1:=r1.below hb;replace r2:=r2.below hb;replace hB:=hB.tr hb;clear hb H22;have H49:=Hd (lz ad1 c1 a na w3 HNA.out r1 Z1.out Be)
 go_wp2_with fail
 refine H49.mono ?_;rintro e w4 ⟨v,rfl,hr,hb⟩;replace hB:=hB.tr hb;clear hb H49;obtain⟨ad4,c4,rfl,-,-⟩:=id hr
 go_wp2_with fail
 go_ret3
 refine⟨_,_,rfl,?_,?_,hB⟩
 ·rw[Nat.div_eq_of_lt HAB.out];exact AA
 ·rw[Nat.mod_eq_of_lt HAB.out];exact hr
theorem q7 (v1 v2:Value) (a b:Nat) (w:World) (h1:aH w v1 (L a)) (h2:aH w v2 (L b)) (l1:(L a).length≤1000) (l2:(L b).length≤1000) (hb:b≠0) (hab:b≤a) (ho:(L b).length=1):
  Calls Tryz.prog 76 #[v1,v2] w fun e w'=>∃q r,e= .returned (.tuple #[q,r,.int .i64 0])∧aH w' q (L (a / b))∧aH w' r (L (a % b))∧Below w.heap.size w w':=by
 have R1:=Hd h1;have R2:=Hd h2;clear h1 h2;obtain⟨na,hna⟩: ∃na,na=(L a).length:=⟨_,rfl⟩
 obtain⟨nb,hnb⟩: ∃nb,nb=(L b).length:=⟨_,rfl⟩
 have HNA:=Hd hna;have HNB:=Hd hnb;have hz:nb=1:=by rw[hnb,ho]
 have hz2:0<na:=by rw[hna];exact jN A3
 have HAB:=Hd hab;have HB:=Hd hb;have HO:=Hd (xp hb ho);clear hb hab ho;subst hz;clear hna hnb;have H38:=de v1 a w R1.out Be;rw[←HNA.out] at H38;have HH:=Hd H38;clear H38;go_enter Tryz.func76,Tryz.ntmps76
 go_wp2_with fail
 refine HH.mono ?_;rintro e w1 ⟨ad1,c1,rfl,z1,r1,hb1⟩;have Z1:=Hd z1;clear z1 HH;have H38:=de v2 b w1 (R2.below hb1) Ci;rw[←HNB.out] at H38;have HH:=Hd H38;clear H38
 go_wp2_with fail
 refine HH.mono ?_;rintro e w2 ⟨ad2,c2,rfl,z2,r2,hb2⟩;clear HH z2;replace r1:=r1.below hb2;have hB:=hb1.tr hb2;clear hb1 hb2;have H22:=Hd (gt (.slice ad1 na c1) (.slice ad2 1 c2) a b w2 r1 r2 Be Ci);have hcz:0≤bJ a b:=by unfold bJ;rw[if_neg (by have:=HAB.out;omega)];split<;>omega
 generalize bJ a b=cz at H22 hcz
 go_wp2_with fail
 refine H22.mono ?_;rintro e w3 ⟨rfl,hb⟩;replace r1:=r1.below hb;replace r2:=r2.below hb;replace hB:=hB.tr hb;clear hb H22;have H49:=iN (.slice ad1 na c1) (L a) w3 r1 (fun e=>by have:=HNA.out;rw[e] at this;simp at this;omega) Be;rw[←HNA.out] at H49;have HH:=Hd H49;clear H49
 go_wp2_with fail
 refine HH.mono ?_;rintro e w4 ⟨g,cap,rfl,hO,hb⟩;replace r2:=r2.below hb;have hws:=hB.size;replace hB:=hB.tr hb;have hgw:=hO.lt;clear HH;obtain⟨b2,o2,rfl,hb2,cc⟩:=r2.cell (j:=0) Ci;rw[HO.2,Nat.add_zero] at cc;have H50:=Hd (fM w3.heap.size g na cap (L a) b w4 hO (bH a) Be (by have:=HB.out;omega) HO.1);clear hO hb r1
 go_wp2_with fail
 refine H50.mono ?_;rintro e w5 ⟨rfl,⟨Q,hOq,hsq,hvq⟩,hF⟩;rw[V_L] at hvq ⊢;have HVQ:=Hd (And.intro hsq hvq);replace hB:Below w.heap.size w w5:=hB.trans (hF.below hB.size (fun k e=>A3));clear H50 hF hsq hvq cc r2;obtain⟨qa,qc,hqe,hqr⟩:=df hOq.row;have eq1:bq Q=L (a / b):=by rw[d6 HVQ.1,HVQ.2]
 have hol:=hOq.len;have H38:=b7 (some ⟨g,0,none⟩) cap Q w5 (by rw[hol];exact hOq.row) Be;rw[hol,hqe] at H38;rw[eq1] at H38 hqr;have HH:=Hd H38;clear H38 hol hqe eq1 hOq;have hmb:a % b<18446744073709551616:=Nat.lt_trans (Nat.mod_lt _ (Nat.pos_of_ne_zero HB.out)) HO.1;obtain⟨mm,hmm⟩: ∃mm,mm=a % b:=⟨_,rfl⟩
 have HMM:=Hd hmm;rw[←hmm] at hmb ⊢;clear hmm
 go_wp2_with fail
 refine HH.mono ?_;rintro e w6 ⟨rfl,hb⟩;replace hqr:=hqr.below hb;replace hB:=hB.tr hb;clear hb HH;have H17:=Hd (jJ mm w6 hmb)
 go_wp2_with fail
 refine H17.mono ?_;rintro e w7 ⟨v,rfl,hr,hb⟩;replace hqr:=hqr.below hb;replace hB:=hB.tr hb;obtain⟨ad7,c7,rfl,-,-⟩:=id hr;clear hb H17
 go_wp2_with fail
 go_ret3
 exact⟨_,_,rfl,hqr,by rw[←HMM.out];exact hr,hB⟩
theorem oX (v1 v2:Value) (a b:Nat) (w:World) (h1:aH w v1 (L a)) (h2:aH w v2 (L b)) (l1:(L a).length≤1000) (l2:(L b).length≤1000) (hb:b≠0) (hab:b≤a) (ho:(L b).length≠1):
  Calls Tryz.prog 76 #[v1,v2] w fun e w'=>∃q r,e= .returned (.tuple #[q,r,.int .i64 0])∧aH w' q (L (a / b))∧aH w' r (L (a % b))∧Below w.heap.size w w':=by
 have R1:=Hd h1;have R2:=Hd h2;clear h1 h2;obtain⟨na,hna⟩: ∃na,na=(L a).length:=⟨_,rfl⟩
 obtain⟨nb,hnb⟩: ∃nb,nb=(L b).length:=⟨_,rfl⟩
 have HNA:=Hd hna;have HNB:=Hd hnb;have hz:2≤nb:=by have:=jN hb;omega
 have hz2:nb≤na:=by have:=fb hab;omega
 have HAB:=Hd hab;clear hb hab ho;clear hna hnb;have H38:=de v1 a w R1.out Be;rw[←HNA.out] at H38;have HH:=Hd H38;clear H38;go_enter Tryz.func76,Tryz.ntmps76
 go_wp2_with fail
 refine HH.mono ?_;rintro e w1 ⟨ad1,c1,rfl,z1,r1,hb1⟩;have Z1:=Hd z1;clear z1 HH;have H38:=de v2 b w1 (R2.below hb1) Ci;rw[←HNB.out] at H38;have HH:=Hd H38;clear H38
 go_wp2_with fail
 refine HH.mono ?_;rintro e w2 ⟨ad2,c2,rfl,z2,r2,hb2⟩;clear HH z2;replace r1:=r1.below hb2;have hB:=hb1.tr hb2;clear hb1 hb2;have H22:=Hd (gt (.slice ad1 na c1) (.slice ad2 nb c2) a b w2 r1 r2 Be Ci);have hcz:0≤bJ a b:=by unfold bJ;rw[if_neg (by have:=HAB.out;omega)];split<;>omega
 generalize bJ a b=cz at H22 hcz
 go_wp2_with fail
 refine H22.mono ?_;rintro e w3 ⟨rfl,hb⟩;replace r1:=r1.below hb;replace r2:=r2.below hb;replace hB:=hB.tr hb;clear hb H22;have H51:=Hd (oq (.slice ad1 na c1) (.slice ad2 nb c2) a b w3 r1 r2 Be Ci (by have:=HNB.out;have:=HNA.out;omega));have hnb1:((nb:Int)==1)=false:=BL
 go_wp2_with fail
 refine H51.mono ?_;rintro e w4 ⟨q,r,rfl,hq,hr,hb⟩;replace hB:=hB.tr hb;obtain⟨ad7,c7,rfl,-,-⟩:=id hq;obtain⟨ad8,c8,rfl,-,-⟩:=id hr;clear hb H51
 go_wp2_with fail
 go_ret3
 exact⟨_,_,rfl,hq,hr,hB⟩
theorem g5 (v1 v2:Value) (a b:Nat) (w:World) (h1:aH w v1 (L a)) (h2:aH w v2 (L b)) (l1:(L a).length≤1000) (l2:(L b).length≤1000) (hb:b≠0):
  Calls Tryz.prog 76 #[v1,v2] w fun e w'=>∃q r,e= .returned (.tuple #[q,r,.int .i64 0])∧aH w' q (L (a / b))∧aH w' r (L (a % b))∧Below w.heap.size w w':=by
 by_cases hab:a<b
 ·exact nV v1 v2 a b w h1 h2 l1 l2 hb hab
 ·by_cases ho:(L b).length=1
  ·exact q7 v1 v2 a b w h1 h2 l1 l2 hb A3 ho
  ·exact oX v1 v2 a b w h1 h2 l1 l2 hb A3 ho
theorem rX (v1 v2:Value) (a b:Nat) (w:World) (h1:aH w v1 (L a)) (h2:aH w v2 (L b)) (l1:(L a).length≤1000) (l2:(L b).length≤1000):
  Calls Tryz.prog 75 #[v1,v2] w fun e w'=>∃v,e= .returned v∧aH w' v (L (Nat.gcd a b))∧Below w.heap.size w w':=by
 have R1:=Hd h1;have R2:=Hd h2;have HLL:=Hd (And.intro l1 l2);have HT:=Hd (de v1 a w h1 l1);clear h1 h2 l1 l2;go_enter Tryz.func75,Tryz.ntmps75
 go_wp2_with fail
 refine HT.mono ?_;rintro e w1 ⟨ad1,c1,rfl,z1,r1,hb1⟩;have Z1:=Hd z1;clear z1 HT;have HT:=Hd (de v2 b w1 (R2.below hb1) HLL.2)
 go_wp2_with fail
 refine HT.mono ?_;rintro e w2 ⟨ad2,c2,rfl,z2,r2,hb2⟩;clear HT z2;replace r1:=r1.below hb2;have hB:=hb1.tr hb2;clear hb1 hb2
 go_wp2_with fail
 go_loopg [0,1] b (fun k A B wr=>∃(x:Nat) (ad1 ad2:Option Addr) (c1 c2 n1 n2:Nat),A= .slice ad1 n1 c1∧B= .slice ad2 n2 c2∧Hid (n1=(L x).length∧n2=(L k).length∧(x=0→ad1=none∧c1=0)∧Nat.gcd x k=Nat.gcd a b∧(L x).length≤1000∧(L k).length≤1000)∧aH wr (.slice ad1 n1 c1) (L x)∧aH wr (.slice ad2 n2 c2) (L k)∧Below w.heap.size w wr)
 case atStart=>exact⟨a,ad1,ad2,c1,c2,_,_,rfl,rfl,Hd ⟨rfl,rfl,Z1.out,rfl,HLL.1,HLL.2⟩,r1,r2,hB⟩
 case round=>
  clear r1 r2 hB Z1 R1 R2;obtain⟨x,ad1,ad2,c1,c2,n1,n2,rfl,rfl,HI,r1,r2,hB⟩:=hrel;by_cases hk:gk=0
  ·have hz:n2=0:=by rw[HI.2.1,hk];rfl
   subst hz;have HE:Hid (Nat.gcd a b=x):=Hd (by rw[←HI.2.2.2.1,hk,Nat.gcd_zero_right]);have H49:=Hd (lz ad1 c1 x n1 wr HI.1 r1 HI.2.2.1 HI.2.2.2.2.1);clear hk
   go_wp2_with fail
   refine H49.mono ?_;rintro e w4 ⟨v,rfl,hr,hb⟩;obtain⟨ad4,c4,rfl,-,-⟩:=id hr;replace hB:=hB.tr hb
   go_wp2_with fail
   go_ret;exact⟨_,rfl,by rw[HE.out];exact hr,hB⟩
  ·have hz:0<n2:=by rw[HI.2.1];exact jN hk
   have H29:=Hd (g5 (.slice ad1 n1 c1) (.slice ad2 n2 c2) x gk wr r1 r2 HI.2.2.2.2.1 HI.2.2.2.2.2 hk);have HLT:Hid (x % gk<gk):=Hd (Nat.mod_lt _ (Nat.pos_of_ne_zero hk));have hz2:((n2:Int)>0):=A3
   have HK:=Hd hk;clear hk
   go_wp2_with fail
   refine H29.mono ?_;rintro e w3 ⟨q,r,rfl,hq,hr,hb⟩;obtain⟨ad3,c3,rfl,-,-⟩:=id hq;obtain⟨ad4,c4,rfl,-,-⟩:=id hr;replace r2:=r2.below hb;replace hB:=hB.tr hb;have HI2:Hid (Hid (n2=(L gk).length∧(L (x % gk)).length=(L (x % gk)).length∧(gk=0→ad2=none∧c2=0)∧Nat.gcd gk (x % gk)=Nat.gcd a b∧(L gk).length≤1000∧(L (x % gk)).length≤1000)):=Hd (Hd ⟨HI.2.1,rfl,fun e=>absurd e HK.out,by rw[←HI.2.2.2.1,←oQ],HI.2.2.2.2.2,Nat.le_trans (fb (Nat.le_of_lt HLT.out)) HI.2.2.2.2.2⟩);clear hb H29 HI r1 hq
   go_wp2_with fail
   go_roundg (x % gk)
   case measure=>exact HLT.out
   case rel=>exact⟨gk,ad2,ad4,c2,c4,_,_,rfl,rfl,Hd ⟨HI2.out.1,rfl,HI2.out.2.2⟩,r2,hr,hB⟩
set_option maxHeartbeats 8000000
abbrev dL (w:World) (base g n cap:Nat) (l:List Nat):Prop:=w.ownsRow base 3 1 (.slice (some ⟨g,0,none⟩) n cap) n (l.map dz)
theorem dL.cell {w:World} {base g n cap:Nat} {l:List Nat} (h:dL w base g n cap l) {j:Nat} (hj:j<n):w.cell? ⟨g,j,none⟩=some (.int .i64 (l.getD j 0:Nat)):=by
 have hl:l.length=n:=by have:=h.1;simpa using this
 rw[h.cellAt j A3];simp[List.getD,show j<l.length by omega,dz]
theorem dL.set {w:World} {base g n cap:Nat} {l:List Nat} (h:dL w base g n cap l) (j x:Nat):dL (w.setCell ⟨g,j,none⟩ (.int .i64 (x:Int))) base g n cap (l.set j x):=by
 have h1:=(h.stored j (.int .i64 (x:Int))).1;rw[show (.int .i64 (x:Int):Value)=dz x from rfl,←List.map_set] at h1;exact h1
theorem dL.below {w w':World} {base g n cap:Nat} {l:List Nat} (h:dL w base g n cap l) (hb:Below w.heap.size w w'):dL w' base g n cap l:=(Fr.of_below (G:=fun _=>False) hb).owns h (fun h=>h)
theorem dL.row {w:World} {base g n cap:Nat} {l:List Nat} (h:dL w base g n cap l):Row w (.slice (some ⟨g,0,none⟩) n cap) l:=by
 have hl:l.length=n:=by have:=h.1;simpa using this
 subst hl;exact Row.of_owns h
theorem xf (ad:Option Addr) (cap n:Nat) (l:List Nat) (w:World) (hn:n=l.length) (h:Row w (.slice ad n cap) l) (hl:l.length≤1000000):
  Calls Tryz.prog 130 #[.slice ad n cap] w fun e w'=>e= .returned (.slice ad (bq l).length cap)∧w=w':=by
 subst hn;have hR:=Hd h;have hcap:l.length≤cap:=by obtain⟨_,_,e,h1,_⟩:=h;cases e;exact h1
 clear h;go_enter Tryz.func130,Tryz.ntmps130
 go_wp2_with fail
 go_loop [3] (fun i=>∃k:Nat,k≤l.length∧i= .int .i64 k∧Hid (bq (l.take k)=bq l)) (fun i=>(intOf i).toNat)
 case atStart=>exact⟨l.length,Nat.le_refl _,rfl,Hd (by rw[List.take_length])⟩
 case round=>
  obtain⟨k,hk,rfl,HK⟩:=hrel;by_cases h0:k=0
  ·subst h0;have H0:Hid (bq l=[]):=Hd HK.symm
   go_wp2_with fail
   go_ret;exact⟨by rw[H0.out];rfl,rfl⟩
  ·have hpos:0<k:=A3
   obtain⟨b,off,rfl,hb,hc⟩:=hR.cell (j:=k - 1) A3;have hsnoc:l.take k=l.take (k - 1)++[l.getD (k - 1) 0]:=by
    have e1:l.take k=l.take (k - 1+1):=by congr 1;omega
    rw[e1,List.take_add_one];simp[List.getD,show k - 1<l.length by omega]
   by_cases hz:l.getD (k - 1) 0=0
   ·have HK2:Hid (bq (l.take (k - 1))=bq l):=Hd (by rw[←HK.out,hsnoc,hz,dv]);rw[hz] at hc;clear hsnoc hz HK
    go_wp2_with fail
    go_round
    case rel=>exact⟨k - 1,A3,Cw,HK2⟩
    case measure=>simp[intOf];omega
   ·have HK2:Hid ((bq l).length=k):=Hd (by rw[←HK.out,hsnoc,gg _ hz,←hsnoc,List.length_take];omega);generalize l.getD (k - 1) 0=x at hc hz;clear hsnoc HK
    go_wp2_with fail
    go_ret;exact⟨by rw[HK2.out];rfl,rfl⟩
theorem append_left (w:World) (g x n c:Nat) (ad:Option Addr) (l:List Nat) (hO:dL w g g 1 1 [x]) (hr:Row w (.slice ad n c) l) (hn:n=l.length) (hl:l.length≤100000):
  ∃v' w',(Builtin.append_ #[51,51] 51 #[.slice (some ⟨g,0,none⟩) 1 1,.slice ad n c]).run Tryz.prog w= .ok v' w'∧(∃g' c',v'= .slice (some ⟨g',0,none⟩) (x::l).length c'∧g≤g')∧Row w' v' (x::l)∧w.grownBy w' (some g):=by
 obtain⟨i0,hi,hz0,hz1,hz2⟩:=info_parts Tryz.info3;subst hn;have hgw:=(World.ownsRow.lt hO g rfl).2;obtain⟨ad',c',e,hc,h2⟩:=hr;cases e;cases ad with
 | none=>
  have h0:l=[]:=by
   apply Classical.byContradiction;intro hne;obtain⟨b,off,e,_⟩:=h2 hne;cases e
  subst h0;refine⟨.slice (some ⟨g,0,none⟩) 1 1,w,?_,⟨g,1,rfl,Nat.le_refl _⟩,hO.row,World.grownBy.refl _ _⟩;simp[Builtin.append_,run_underlying Tryz.underlying51,sizeOf,typeInfo,hi,Builtin.lenOf,Builtin.firstCells,storeCells]
 | some ad=>
  have hnews: ∀(j:Nat) (u:Value),(l.map dz)[j]? =some u→w.cell? (Addr.add ad j)=some u:=by
   intro j u hu;have hj:j<l.length:=by have:=(List.getElem?_eq_some_iff.1 hu).1;simpa using this
   obtain⟨b,off,e,hb,hcell⟩:=h2 (by rintro rfl;simp at hj);cases e;rw[Addr.add_lit,hcell j hj];simp[hj,dz] at hu;rw[←hu];simp[List.getD,hj]
  obtain⟨v',w',hrun,h4,h5,_⟩:=run_append_own (P:=Tryz.prog) w g 51 51 3 i0 (.int .i64 0) 1 8 Tryz.underlying51 hi hz0 hz1 hz2 rfl BD _ 1 _ hO ad l.length c (l.map dz) B4 hnews
   (fun u hu=>by simp[dz] at hu;obtain⟨x,_,rfl⟩:=hu;rfl) Cu A3 A3
  obtain⟨g',c',e'⟩:=i7 h4 A3;have hgg:=(World.ownsRow.lt h4 g' (by rw[e'];rfl)).1;refine⟨v',w',hrun,⟨g',c',by rw[e',List.length_cons,Nat.add_comm],hgg⟩,?_,h5⟩;refine Row.of_owns (B:=g) ?_;rw[List.length_cons,Nat.add_comm];exact h4
theorem xk {a b:Nat} (h:a≤b):bJ a b≤0:=by
 unfold bJ;by_cases h9:a<b
 ·rw[if_pos h9];omega
 ·rw[if_neg h9,if_neg A3];omega
theorem yv {m:Nat} (h:m≤9999):(D m).length≤1:=(cC A3 m 1).2 A3
theorem zu {b m:Nat} (h:m≤9999):(D (b*m)).length≤(D b).length+1:=by
 rw[cC A3,Nat.pow_succ];have h1:b<10000 ^ (D b).length:=eM (B:=10000) A3 b;exact Nat.mul_lt_mul'' h1 A3
theorem zp {x l:Nat} (h:x<10000):bq (x::D l)=D (x+10000*l):=by
 rw[dJ (B:=10000) A3 _ (Small.cons h (b8 A3 l))];have e:val 10000 (x::D l)=x+10000*val 10000 (D l):=rfl;rw[e,bU A3]
theorem wb {a b:Nat} (h:a≤b):(D a).length≤(D b).length:=dN A3 h
theorem rE (v1 v2:Value) (a b:Nat) (w:World) (h1:Row w v1 (D a)) (h2:Row w v2 (D b)) (hl1:(D a).length≤10000) (hl2:(D b).length≤10000) (hb0:b≠0):
  Calls Tryz.prog 143 #[v1,v2] w fun e w'=>∃q r,e= .returned (.tuple #[q,r])∧Row w' q (D (a / b))∧Row w' r (D (a % b))∧Below w.heap.size w w':=by
 obtain⟨i0,hi,hz0,hz1,hz2⟩:=info_parts Tryz.info3;have R1:=Hd h1;have R2:=Hd h2;obtain⟨ad1,cap1,rfl,hc1,-⟩:=h1;have HB:=Hd (And.intro hb0 hl2);have HS:=Hd (b8 (B:=10000) A3 a);have HV:=Hd (bU (B:=10000) A3 a);clear h2 hb0 hl2;unfold D at R1 HS HV hl1 hc1;rw[show D a=dig 10000 a from rfl];generalize dig 10000 a=la at *;go_enter Tryz.func143,Tryz.ntmps143
 go_wp2_with (at_make;refine wpList_make_full w rfl _ _ 51 rfl w.heap.size 3 i0 (.int .i64 0) 1 Tryz.underlying51 hi hz0 hz1 .i64 .i64 _ _ la.length rfl rfl rfl rfl (by rw[hz2];omega) Cu lr ?_;intro w1 hown hgrow)
 rw[kE] at hown;have hb1:Below w.heap.size w w1:=(Below.refl _ w).grown hgrow lr (fun j ej=>by cases ej)
 go_wp2_with fail
 go_loopw [7,8] (fun lv i wr=>∃(k left nl:Nat) (adl:Option Addr) (cl:Nat) (out:List Nat),k≤la.length∧lv= .slice adl nl cl∧i= .int .i64 ((k:Int) - 1)∧dL wr w.heap.size w.heap.size la.length la.length out∧Row wr (.slice adl nl cl) (D left)∧Hid (nl=(D left).length∧lq 10000 la out b left k)∧Below w.heap.size w wr) (fun _ i _=>(intOf i+1).toNat)
 case atStart=>exact⟨la.length,0,0,none,0,_,Nat.le_refl _,rfl,Cw,hown,⟨_,_,rfl,Nat.le_refl _,fun h=>absurd rfl h⟩,Hd ⟨rfl,lq.zero A3 (Nat.pos_of_ne_zero HB.1)⟩,hb1⟩
 case round=>
  clear hown hgrow hb1;obtain⟨k,left,nl,adl,cl,out,hk,rfl,rfl,hO,hr,HI,hB⟩:=hrel;by_cases hz:k=0
  ·subst hz;have HE:=Hd HI.2.done;have hol:out.length=la.length:=HI.2.len;have H47:=Hd (kW _ out wr hO.row A3);have HT:Hid (bq out=D (a / b)):=Hd (by rw[dJ (B:=10000) A3 _ HI.2.small,HE.1,HV.out]);clear hol
   go_wp2_with fail
   refine H47.mono ?_;rintro e w' ⟨v',rfl,hv',rfl⟩;rw[HT.out] at hv';obtain⟨ad4,c4,rfl,-,-⟩:=id hv'
   go_wp2_with fail
   go_ret2
   refine⟨_,_,rfl,hv',?_,hB⟩;rw[show a % b=left by rw[HE.2,HV.out]];exact hr
  ·obtain⟨m,rfl⟩: ∃m,k=m+1:=⟨k - 1,A3⟩
   have hm:m<la.length:=A3
   obtain⟨b1,o1,rfl,hb1x,cx⟩:=R1.cell (j:=m) hm;replace cx:=(hB.cell (p:=⟨b1,o1+m,none⟩) hb1x).trans cx;have hx:=HS.getD A3 m;have HI2:=Hd (HI.2.step A3 HS.out hm);have hq:=iu hx HI.2.low;have hlow:=HI.2.low;have hdl:=wb (Nat.le_of_lt hlow);generalize la.getD m 0=x at cx hx HI2 hq;have e1:((m+1:Nat):Int) - 1=(m:Int):=A3
   rw[e1];have HHL:=Hd (And.intro hlow hdl);have HDN:=Hd (zp (l:=left) hx);clear e1 hz hlow hdl;obtain⟨lf,hlf⟩: ∃lf,lf=x+10000*left:=⟨_,rfl⟩
   rw[←hlf] at HI2 hq HDN;have HLF:=Hd hlf;clear hlf;have hOl:dL (wr.alloc (.cells #[.int .i64 (x:Int)] 3)) wr.heap.size wr.heap.size 1 1 [x]:=World.ownsRow_lit wr #[.int .i64 (x:Int)] 1 lr Cu rfl;have hbA:Below wr.heap.size wr (wr.alloc (.cells #[.int .i64 (x:Int)] 3)):=(Below.refl _ wr).alloc lr _;obtain⟨v',w2,hrun,⟨gl,cl2,rfl,hgl⟩,hrow,hg2⟩:=append_left _ _ x nl cl adl (D left) hOl (hr.below hbA) HI.1 (by have:=HHL.2;have:=HB.2;omega);have hb2:Below wr.heap.size wr w2:=hbA.grown hg2 B4 (fun k e=>by cases e;exact Nat.le_refl _);have HRUN:=Hd hrun;have hws:w.heap.size<wr.heap.size:=(World.ownsRow.lt hO w.heap.size rfl).2;clear hrun hOl hbA hg2 hr
   go_wp2_with (at_builtin;refine im rfl _ _ 51 51 rfl _ _ _ _ rfl rfl HRUN.out ?_)
   replace hO:dL w2 w.heap.size w.heap.size la.length la.length out:=dL.below hO hb2;replace hB:Below w.heap.size w w2:=hB.tr hb2;have hb2s:w.heap.size<gl:=Nat.lt_of_lt_of_le hws hgl;clear hb2 HRUN cx;have H47:=Hd (xf _ _ _ _ w2 rfl hrow (by rw[List.length_cons];have:=HHL.2;have:=HB.2;omega));have hrl:=hrow.take (ef _);rw[←eV] at hrl;rw[HDN.out] at H47 hrl;refine H47.mono ?_;rintro e w' ⟨rfl,rfl⟩;have hdl:(D lf).length≤10001:=by
    have h9:=ef (x::D left);rw[HDN.out,List.length_cons] at h9;have:=HHL.2;have:=HB.2;omega
   obtain⟨nL,hnL⟩: ∃nL,nL=(D lf).length:=⟨_,rfl⟩
   rw[←hnL] at hrl ⊢;have HNL:=Hd (And.intro hnL hdl);clear H47 hrow hnL hdl HDN;have hBp:0<b:=Nat.pos_of_ne_zero HB.1;have R2':=Hd (R2.below hB)
   go_wp2_with fail
   go_loopw [9,10] (fun lo hi wq=>∃(l h:Nat),l≤h∧h≤9999∧lo= .int .i64 (l:Int)∧hi= .int .i64 (h:Int)∧Hid (l≤lf / b∧lf / b≤h)∧Below w2.heap.size w2 wq) (fun lo hi _=>(intOf hi - intOf lo).toNat)
   case atStart=>exact⟨0,9999,A3,A3,rfl,rfl,Hd ⟨Nat.zero_le _,A3⟩,Below.refl _ _⟩
   case round=>
    obtain⟨lo,hi',hlh,hh,rfl,rfl,HQ,hBq⟩:=hrel;by_cases hlt:lo<hi'
    ·obtain⟨mid,hmid⟩: ∃mid,mid=(lo+hi'+1) / 2:=⟨_,rfl⟩
     have hm1:lo<mid:=A3
     have hm2:mid≤hi':=A3
     have hm3:((lo:Int)+hi'+1) / 2=(mid:Int):=A3
     have hm4:((lo:Int)+hi'+1).tdiv 2=(mid:Int):=by rw[Int.tdiv_eq_ediv_of_nonneg A3];exact hm3
     have H39:=Hd (fT mid wr A3);have HMID:=Hd hmid;clear hmid hm3
     go_wp2_with fail
     refine H39.mono ?_;rintro e w3 ⟨vm,rfl,hrm,hb3⟩;have hBq3:Below w2.heap.size w2 w3:=hBq.tr hb3;have H27:=Hd (jA v2 vm b mid w3 (R2'.below hBq3) hrm (by have:=HB.2;omega) (by have:=yv (m:=mid) A3;omega));clear H39 hb3 hrm
     go_wp2_with fail
     refine H27.mono ?_;rintro e w4 ⟨vp,rfl,hrp,hb4⟩;have hBq4:Below w2.heap.size w2 w4:=hBq3.tr hb4;have H20:=Hd (nj vp (.slice (some ⟨gl,0,none⟩) nL cl2) (b*mid) lf w4 hrp (hrl.below hBq4) (by have:=zu (b:=b) (m:=mid) A3;have:=HB.2;omega) (by have:=HNL.out;omega));clear H27 hb4 hrp hBq3 hBq;by_cases hcm:b*mid≤lf
     ·have HF:=Hd (wQ hBp HMID.out hlt HQ.2 hcm);have hcz:bJ (b*mid) lf≤0:=xk hcm;generalize bJ (b*mid) lf=cz at H20 hcz;clear hcm HQ
      go_wp2_with fail
      refine H20.mono ?_;rintro e w5 ⟨rfl,hb5⟩;have hBq5:Below w2.heap.size w2 w5:=hBq4.tr hb5;clear H20 hb5 hBq4
      go_wp2_with fail
      go_round
      case rel=>exact⟨mid,hi',hm2,hh,rfl,rfl,Hd ⟨HF.1,HF.2.2.2⟩,hBq5⟩
      case measure=>simp[intOf];omega
     ·have HF:=Hd (sy hBp HMID.out hlt (Nat.lt_of_not_le hcm));have HQ1:=Hd HQ.1;rw[dV (Nat.lt_of_not_le hcm)] at H20;clear hcm HQ
      go_wp2_with fail
      refine H20.mono ?_;rintro e w5 ⟨rfl,hb5⟩;have hBq5:Below w2.heap.size w2 w5:=hBq4.tr hb5;clear H20 hb5 hBq4
      go_wp2_with fail
      go_round
      case rel=>exact⟨lo,mid - 1,A3,A3,rfl,Cw,Hd ⟨HQ1.out,HF.1⟩,hBq5⟩
      case measure=>simp[intOf];omega
    ·have hle:hi'=lo:=A3
     subst hle;have hqe:hi'=lf / b:=by have:=HQ.out;omega
     have HQE:=Hd hqe;clear hqe HQ hlh;replace hO:dL wr w.heap.size w.heap.size la.length la.length out:=dL.below hO hBq;replace hrl:=hrl.below hBq;replace hB:Below w.heap.size w wr:=hB.tr hBq;clear hBq R2';have hfz:=hO.frozenAt m;have hcz:=hO.cell hm;have hO2:=hO.set m hi';have hP:=Fr.put wr ⟨w.heap.size,m,none⟩ (.int .i64 (hi':Int));have hB2:Below w.heap.size w (wr.setCell ⟨w.heap.size,m,none⟩ (.int .i64 (hi':Int))):=hB.setCell (p:=⟨w.heap.size,m,none⟩) lr _;have H39:=Hd (fT hi' (wr.setCell ⟨w.heap.size,m,none⟩ (.int .i64 (hi':Int))) A3);have hgl2:=hb2s;replace hrl:Row (wr.setCell ⟨w.heap.size,m,none⟩ (.int .i64 (hi':Int))) (.slice (some ⟨gl,0,none⟩) nL cl2) (D lf):=hP.lim hrl (fun b off e _=>by cases e;show ¬gl=w.heap.size;omega)
     go_wp2_with fail
     generalize wr.setCell ⟨w.heap.size,m,none⟩ (.int .i64 (hi':Int))=w3 at hO2 hB2 hrl H39 ⊢;refine H39.mono ?_;rintro e w4 ⟨vm,rfl,hrm,hb4⟩;replace hO2:=hO2.below hb4;replace hB2:=hB2.tr hb4;replace hrl:=hrl.below hb4;have H27:=Hd (jA v2 vm b hi' w4 (R2.below hB2) hrm (by have:=HB.2;omega) (by have:=yv (m:=hi') A3;omega));clear H39 hb4 hrm hO hB hP hfz hcz
     go_wp2_with fail
     refine H27.mono ?_;rintro e w5 ⟨vp,rfl,hrp,hb5⟩;replace hO2:=hO2.below hb5;replace hB2:=hB2.tr hb5;replace hrl:=hrl.below hb5;have HLE:Hid (b*hi'≤lf):=Hd (by rw[HQE.out];exact Nat.mul_div_le _ _);have H25:=Hd (rU (.slice (some ⟨gl,0,none⟩) nL cl2) vp lf (b*hi') w5 hrl hrp (by have:=HNL.2;omega) HLE.out);clear H27 hb5
     go_wp2_with fail
     refine H25.mono ?_;rintro e w6 ⟨v6,rfl,hr6,hb6⟩;replace hO2:=hO2.below hb6;replace hB2:=hB2.tr hb6;obtain⟨ad6,c6,rfl,-,-⟩:=id hr6;have HI3:=HI2.out;rw[←HQE.out] at HI3;have HI4:=Hd (Hd HI3);clear H25 hb6 hrl hrp HI3 HI2
     go_wp2_with fail
     go_round
     case rel=>exact⟨m,lf - b*hi',_,ad6,c6,_,A3,rfl,Cw,hO2,hr6,Hd ⟨rfl,HI4.out⟩,hB2⟩
     case measure=>simp[intOf]
theorem xE (v1 v2:Value) (a b:Nat) (w:World) (h1:Row w v1 (D a)) (h2:Row w v2 (D b)) (l1:(D a).length≤10000) (l2:(D b).length≤10000):
  Calls Tryz.prog 142 #[v1,v2] w fun e w'=>∃v,e= .returned v∧Row w' v (D (Nat.gcd a b))∧Below w.heap.size w w':=by
 have R1:=Hd h1;have R2:=Hd h2;have HLL:=Hd (And.intro l1 l2);obtain⟨ad1,c1,rfl,-,-⟩:=h1;obtain⟨ad2,c2,rfl,-,-⟩:=h2;clear l1 l2;go_enter Tryz.func142,Tryz.ntmps142
 go_wp2_with fail
 go_loopg [0,1] b (fun gk A B wr=>∃(x:Nat) (ad1 ad2:Option Addr) (c1 c2 n1 n2:Nat),A= .slice ad1 n1 c1∧B= .slice ad2 n2 c2∧Hid (n1=(D x).length∧n2=(D gk).length∧Nat.gcd x gk=Nat.gcd a b∧(D x).length≤10000∧(D gk).length≤10000)∧Row wr (.slice ad1 n1 c1) (D x)∧Row wr (.slice ad2 n2 c2) (D gk)∧Below w.heap.size w wr)
 case atStart=>exact⟨a,ad1,ad2,c1,c2,_,_,rfl,rfl,Hd ⟨rfl,rfl,rfl,HLL.1,HLL.2⟩,R1.out,R2.out,Below.refl _ _⟩
 case round=>
  clear R1 R2;obtain⟨x,ad1,ad2,c1,c2,n1,n2,rfl,rfl,HI,r1,r2,hB⟩:=hrel;by_cases hk:gk=0
  ·have hz:n2=0:=by rw[HI.2.1,hk];rfl
   subst hz;have HE:Hid (Nat.gcd a b=x):=Hd (by rw[←HI.2.2.1,hk,Nat.gcd_zero_right]);clear hk
   go_wp2_with fail
   go_ret;exact⟨_,rfl,by rw[HE.out];exact r1,hB⟩
  ·have hz:0<n2:=by rw[HI.2.1];exact List.length_pos_iff.2 (fun e=>hk ((dW A3 gk).1 e))
   have H29:=Hd (rE (.slice ad1 n1 c1) (.slice ad2 n2 c2) x gk wr r1 r2 HI.2.2.2.1 HI.2.2.2.2 hk);have HLT:Hid (x % gk<gk):=Hd (Nat.mod_lt _ (Nat.pos_of_ne_zero hk));have hz2:((n2:Int)>0):=A3
   clear hk
   go_wp2_with fail
   refine H29.mono ?_;rintro e w3 ⟨q,r,rfl,hq,hr,hb⟩;obtain⟨ad3,c3,rfl,-,-⟩:=id hq;obtain⟨ad4,c4,rfl,-,-⟩:=id hr;replace r2:=r2.below hb;replace hB:=hB.tr hb;have HI2:=Hd (Hd (And.intro HI.2.1 (And.intro (show Nat.gcd gk (x % gk)=Nat.gcd a b by rw[←HI.2.2.1,←oQ]) (And.intro HI.2.2.2.2 (Nat.le_trans (wb (Nat.le_of_lt HLT.out)) HI.2.2.2.2)))));clear hb H29 HI r1 hq
   go_wp2_with fail
   go_roundg (x % gk)
   case measure=>exact HLT.out
   case rel=>exact⟨gk,ad2,ad4,c2,c4,_,_,rfl,rfl,Hd ⟨HI2.out.1,rfl,HI2.out.2⟩,r2,hr,hB⟩
def ah (w:World) (B:Nat) (t:TypeId) (x y:Value):Prop:=w.heap[B]? =some (.cells #[x,y] t)
section
variable {w w':World} {B C:Nat} {t:TypeId} {x y:Value}
theorem ah.new (w:World) (t:TypeId) (x y:Value):ah (w.alloc (.cells #[x,y] t)) w.heap.size t x y:=World.alloc_heap_new w _
theorem ah.lt (h:ah w B t x y):B<w.heap.size:=(Array.getElem?_eq_some_iff.1 h).1
theorem ah.c0 (h:ah w B t x y):w.cell? ⟨B,0,none⟩=some x:=by simp[World.cell?,show w.heap[B]? =_ from h]
theorem ah.c1 (h:ah w B t x y):w.cell? ⟨B,1,none⟩=some y:=by simp[World.cell?,show w.heap[B]? =_ from h]
theorem ah.z0 (h:ah w B t x y):w.frozen? ⟨B,0,none⟩=false:=by simp[World.frozen?,show w.heap[B]? =_ from h]
theorem ah.z1 (h:ah w B t x y):w.frozen? ⟨B,1,none⟩=false:=by simp[World.frozen?,show w.heap[B]? =_ from h]
theorem ah.below (h:ah w B t x y) (hb:Below w.heap.size w w'):ah w' B t x y:=(hb.block B h.lt).trans h
theorem ah.alloc (h:ah w B t x y) (o:Obj):ah (w.alloc o) B t x y:=(Below.heap_alloc _ _ _ h.lt).trans h
theorem jW (w:World) (B k:Nat) (x:Value) (o:Obj) (c:Array Value) (e:TypeId) (z:Nat×Nat) (h:w.heap[B]? =some o) (ho:o= .cells c e z):(w.setCell ⟨B,k,none⟩ x).heap[B]? =some (.cells (c.setIfInBounds k x) e z):=by
 have hl:B<w.heap.size:=(Array.getElem?_eq_some_iff.1 h).1;subst ho;unfold World.setCell;simp[Array.getElem?_modify,h]
theorem ah.set (h:ah w B t x y) (x' y':Value):ah ((w.setCell ⟨B,0,none⟩ x').setCell ⟨B,1,none⟩ y') B t x' y':=by
 have h1:=jW w B 0 x' _ _ _ _ h rfl;have h2:=jW _ B 1 y' _ _ _ _ h1 rfl;unfold ah;simpa using h2
theorem ah.other (h:ah w C t x y) (hne:C≠B) (x' y':Value):ah ((w.setCell ⟨B,0,none⟩ x').setCell ⟨B,1,none⟩ y') C t x y:=
 (Below.heap_setCell _ _ _ _ hne).trans ((Below.heap_setCell _ _ _ _ hne).trans h)
theorem AB {p:Prop} (h:p:=by refine⟨b,off,rfl,by simpa[World.setCell] using hb,fun j hj=>?_⟩;rw[World.cell?_of_block (w:=w) ((Below.heap_setCell _ _ _ _ hbB).trans (Below.heap_setCell _ _ _ _ hbB)),hc j hj]):p:=h
theorem Lim.pset {q:IntKind} {v:Value} {l:List Nat} {p r:Option Addr} {n c m d:Nat} (h:Lim q w v l) (hp:ah w B t (.slice p n c) (.slice r m d)) (x' y':Value):Lim q ((w.setCell ⟨B,0,none⟩ x').setCell ⟨B,1,none⟩ y') v l:=by
 obtain⟨ad,cap,e,h1,h2⟩:=h;refine⟨ad,cap,e,h1,fun hne=>?_⟩;obtain⟨b,off,rfl,hb,hc⟩:=h2 hne;have hbB:b≠B:=by
  rintro rfl;have h3:=hc 0 (List.length_pos_iff.2 hne);simp only[World.cell?,show w.heap[b]? =_ from hp] at h3
  match off,h3 with
  | 0,h3=>simp at h3
  | 1,h3=>simp at h3
  | k+2,h3=>simp at h3
 exact AB
theorem Below.pset {B0:Nat} (h:Below B0 w w') (hB:B0≤B) (x' y':Value):Below B0 w ((w'.setCell ⟨B,0,none⟩ x').setCell ⟨B,1,none⟩ y'):=(h.setCell (p:=⟨B,0,none⟩) hB x').setCell (p:=⟨B,1,none⟩) hB y'
theorem ah.drew (h:ah w B t x y):ah w.drew B t x y:=h
end
structure Sl where
 a:Option Addr
 n:Nat
 c:Nat
abbrev RU (w:World) (p:Sl) (x:Nat):Prop:=aH w (.slice p.a p.n p.c) (L x)
abbrev RD (w:World) (p:Sl) (x:Nat):Prop:=Row w (.slice p.a p.n p.c) (D x)
theorem aH.sl {w:World} {v:Value} {x:Nat} (h:aH w v (L x)): ∃p:Sl,v= .slice p.a p.n p.c∧RU w p x:=by
 obtain⟨a,c,rfl,h1,h2⟩:=h;exact⟨⟨a,(L x).length,c⟩,rfl,⟨a,c,rfl,h1,h2⟩⟩
theorem Row.sl {w:World} {v:Value} {x:Nat} (h:Row w v (D x)): ∃p:Sl,v= .slice p.a p.n p.c∧RD w p x:=by
 obtain⟨a,c,rfl,h1,h2⟩:=h;exact⟨⟨a,(D x).length,c⟩,rfl,⟨a,c,rfl,h1,h2⟩⟩
theorem RU.len {w:World} {p:Sl} {x:Nat} (h:RU w p x):p.n=(L x).length:=by
 obtain⟨a,c,e,-,-⟩:=h;cases p;cases e;rfl
theorem RD.len {w:World} {p:Sl} {x:Nat} (h:RD w p x):p.n=(D x).length:=by
 obtain⟨a,c,e,-,-⟩:=h;cases p;cases e;rfl
theorem RU.zero {w:World} {x:Nat} (h:x=0):aH w (.slice none 0 0) (L x):=by subst h;exact⟨_,_,rfl,Nat.le_refl _,fun h=>absurd rfl h⟩
theorem yi (a:Nat):(bJ a 0==0)=decide (a=0):=by
 by_cases h0:a=0
 ·rw[h0,gy];simp
 ·rw[dV A3];simp[h0]
theorem yP (a:Nat):(bJ a 1==0)=decide (a=1):=by
 rcases Nat.lt_trichotomy a 1 with h0 | h0 | h0
 ·rw[fm h0];simp;omega
 ·rw[h0,gy];simp
 ·rw[dV h0];simp;omega
theorem fr (a:Nat) (h:a<18446744073709551616):(L a).length≤1:=(cC A3 a 1).2 A3
theorem kQ (v:Value) (a:Nat) (w:World) (h:aH w v (L a)) (hl:(L a).length≤1000) (t:Bool) (ht:t=decide (a=0)):
  Calls Tryz.prog 74 #[v] w fun e w'=>e= .returned (.bool t)∧Below w.heap.size w w':=by
 have H1:=Hd (gt v (.slice none 0 0) a 0 w h (RU.zero rfl) hl (by show (0:Nat)≤1000;omega));have HZ:=Hd (yi a);have HT:=Hd ht;clear h hl ht;go_enter Tryz.func74,Tryz.ntmps74
 go_wp2_with fail
 refine H1.mono ?_;rintro e w1 ⟨rfl,hb⟩;generalize bJ a 0=z at HZ
 go_wp2_with fail
 go_ret;exact⟨by rw[HT.out,←HZ.out];rfl,hb⟩
theorem jc (v:Value) (a:Nat) (w:World) (h:aH w v (L a)) (hl:(L a).length≤1000) (t:Bool) (ht:t=decide (a=1)):
  Calls Tryz.prog 57 #[v] w fun e w'=>e= .returned (.bool t)∧Below w.heap.size w w':=by
 have H1:=Hd (jJ 1 w A3);have HZ:=Hd (yP a);have HT:=Hd ht;clear ht;go_enter Tryz.func57,Tryz.ntmps57
 go_wp2_with fail
 refine H1.mono ?_;rintro e w1 ⟨x,rfl,rx,hb⟩;have H2:=Hd (gt v x a 1 w1 (h.below hb) rx hl (Nat.le_trans (fr 1 A3) A3));clear H1
 go_wp2_with fail
 refine H2.mono ?_;rintro e w2 ⟨rfl,hb2⟩;generalize bJ a 1=z at HZ
 go_wp2_with fail
 go_ret;exact⟨by rw[HT.out,←HZ.out];rfl,hb.tr hb2⟩
theorem pu (a:Nat) {b:Nat} (h:b≠0):Nat.gcd a b≤b:=Nat.gcd_le_right a (Nat.pos_of_ne_zero h)
theorem iP (v0 v1:Value) (a b:Nat) (w:World) (h0:aH w v0 (L a)) (h1:aH w v1 (L b)) (l0:(L a).length≤500) (l1:(L b).length≤500) (hb:b≠0):
  Calls Tryz.prog 38 #[v0,v1] w fun e w'=>∃p q:Sl,e= .returned (.tuple #[.agg #[.slice p.a p.n p.c,.slice q.a q.n q.c],.int .i64 0])∧RU w' p (a / Nat.gcd a b)∧RU w' q (b / Nat.gcd a b)∧Below w.heap.size w w':=by
 have hp:=ah.new w 49 (.slice none 0 0) (.slice none 0 0);have hB:Below w.heap.size w (w.alloc (.cells #[.slice none 0 0,.slice none 0 0] 49)):=(Below.refl _ w).alloc lr _;replace h0:=h0.below hB;replace h1:=h1.below hB;have H1:=Hd (kQ v1 b _ h1 A3 false (by simp[hb]));have HG:Hid (Nat.gcd a b≠0):=Hd (fun e=>hb (Nat.eq_zero_of_gcd_eq_zero_right e));have HL:=Hd (Nat.le_trans (fb (pu a hb)) (Nat.le_trans l1 A3):(L (Nat.gcd a b)).length≤1000);clear hb;go_enter Tryz.func38,Tryz.ntmps38
 go_wp2_with fail
 refine H1.mono ?_;rintro e w1 ⟨rfl,hb⟩;replace h0:=h0.below hb;replace h1:=h1.below hb;replace hp:=hp.below hb;replace hB:=hB.tr hb;clear hb H1;have H2:=Hd (rX v0 v1 a b w1 h0 h1 A3 A3)
 go_wp2_with fail
 refine H2.mono ?_;rintro e w2 ⟨g,rfl,rg,hb⟩;replace h0:=h0.below hb;replace h1:=h1.below hb;replace hp:=hp.below hb;replace hB:=hB.tr hb;clear hb H2;have H3:=Hd (g5 v0 g a (Nat.gcd a b) w2 h0 rg A3 HL.out HG.out)
 go_wp2_with fail
 refine H3.mono ?_;rintro e w3 ⟨p,r,rfl,rp,-,hb⟩;replace h1:=h1.below hb;replace rg:=rg.below hb;replace hp:=hp.below hb;replace hB:=hB.tr hb;clear hb H3 h0;obtain⟨p,rfl,rp⟩:=rp.sl;have H4:=Hd (g5 v1 g b (Nat.gcd a b) w3 h1 rg A3 HL.out HG.out)
 go_wp2_with fail
 refine H4.mono ?_;rintro e w4 ⟨q,s,rfl,rq,-,hb⟩;replace rp:=rp.below hb;replace hp:=hp.below hb;replace hB:=hB.tr hb;clear hb H4 h1;obtain⟨q,rfl,rq⟩:=rq.sl;have hc0:=hp.c0;have hc1:=hp.c1;have hz0:=hp.z0;have hz1:=hp.z1
 go_wp2_with fail
 clear hc0 hc1 hz0 hz1;replace rp:=rp.pset hp (.slice p.a p.n p.c) (.slice q.a q.n q.c);replace rq:=rq.pset hp (.slice p.a p.n p.c) (.slice q.a q.n q.c);replace hp:=hp.set (.slice p.a p.n p.c) (.slice q.a q.n q.c);replace hB:=Below.pset hB lr (.slice p.a p.n p.c) (.slice q.a q.n q.c);generalize (w4.setCell ⟨w.heap.size,0,none⟩ (.slice p.a p.n p.c)).setCell ⟨w.heap.size,1,none⟩ (.slice q.a q.n q.c)=W at rp rq hp hB ⊢;refine bodyPost_ret (v:=.tuple #[.agg #[.slice p.a p.n p.c,.slice q.a q.n q.c],.int .i64 0]) ?_ rfl ⟨p,q,rfl,rp,rq,hB⟩;simp[results,Tryz.f38,go_sem,hp.c0,hp.c1]
theorem aE {a b m n:Nat} (h1:(L a).length≤m) (h2:(L b).length≤n):(L (a*b)).length≤m+n:=Nat.le_trans (xV a b) A3
theorem qE {a b m n:Nat} (h1:(L a).length≤m) (h2:(L b).length≤n):(L (a+b)).length≤m+n+1:=Nat.le_trans (xh a b) A3
theorem aO {a b m:Nat} (h:(L a).length≤m):(L (a / b)).length≤m:=Nat.le_trans (fb (Nat.div_le_self a b)) h
theorem jU {a b m:Nat} (h:(L a).length≤m):(L (a - b)).length≤m:=Nat.le_trans (fb (Nat.sub_le a b)) h
theorem B5 {p:Prop} (h:p:=by have h0:=hX.2.c0;have h1:=hX.2.c1;go_simp):p:=h
theorem A5 {p:Prop} (h:p:=by have h0:=hX.1.c0;have h1:=hX.1.c1;go_simp):p:=h
theorem zQ {p:Prop} (h:p:=by simpa only[World.size_alloc] using h):p:=h
theorem fX (a1 b1 a2 b2:Sl) (a b c d:Nat) (w:World) (ra1:RU w a1 a) (rb1:RU w b1 b) (ra2:RU w a2 c) (rb2:RU w b2 d) (la:Hid ((L a).length≤100)) (lb:Hid ((L b).length≤100)) (lc:Hid ((L c).length≤100)) (ld:Hid ((L d).length≤100)):
  Calls Tryz.prog 36 #[.agg #[.slice a1.a a1.n a1.c,.slice b1.a b1.n b1.c],.agg #[.slice a2.a a2.n a2.c,.slice b2.a b2.n b2.c]] w fun e w'=>∃p q:Sl,e= .returned (.tuple #[.slice p.a p.n p.c,.slice q.a q.n q.c])∧RU w' p (a*d)∧RU w' q (c*b)∧Below w.heap.size w w':=by
 go_enter Tryz.func36,Tryz.ntmps36;have hb:Below w.heap.size w ((w.alloc (.cells #[.slice a1.a a1.n a1.c,.slice b1.a b1.n b1.c] 49)).alloc (.cells #[.slice a2.a a2.n a2.c,.slice b2.a b2.n b2.c] 49)):=(((Below.refl _ _).alloc lr _).alloc B4 _)
 replace ra1:=ra1.below hb;replace rb1:=rb1.below hb;replace ra2:=ra2.below hb;replace rb2:=rb2.below hb;have hB:=hb;have P1:ah ((w.alloc (.cells #[.slice a1.a a1.n a1.c,.slice b1.a b1.n b1.c] 49)).alloc (.cells #[.slice a2.a a2.n a2.c,.slice b2.a b2.n b2.c] 49)) (w.heap.size) 49 (.slice a1.a a1.n a1.c) (.slice b1.a b1.n b1.c):=by
  have h:=(ah.new w 49 (.slice a1.a a1.n a1.c) (.slice b1.a b1.n b1.c)).alloc (.cells #[.slice a2.a a2.n a2.c,.slice b2.a b2.n b2.c] 49);exact zQ
 have P2:ah ((w.alloc (.cells #[.slice a1.a a1.n a1.c,.slice b1.a b1.n b1.c] 49)).alloc (.cells #[.slice a2.a a2.n a2.c,.slice b2.a b2.n b2.c] 49)) (w.heap.size+1) 49 (.slice a2.a a2.n a2.c) (.slice b2.a b2.n b2.c):=by
  have h:=ah.new (w.alloc (.cells #[.slice a1.a a1.n a1.c,.slice b1.a b1.n b1.c] 49)) 49 (.slice a2.a a2.n a2.c) (.slice b2.a b2.n b2.c);exact zQ
 clear hb;have c0P1:=P1.c0;have c1P1:=P1.c1;have c0P2:=P2.c0;have c1P2:=P2.c1
 go_wp2_with fail
 clear c0P1 c1P1 c0P2 c1P2;have hb:Below ((w.alloc (.cells #[.slice a1.a a1.n a1.c,.slice b1.a b1.n b1.c] 49)).alloc (.cells #[.slice a2.a a2.n a2.c,.slice b2.a b2.n b2.c] 49)).heap.size ((w.alloc (.cells #[.slice a1.a a1.n a1.c,.slice b1.a b1.n b1.c] 49)).alloc (.cells #[.slice a2.a a2.n a2.c,.slice b2.a b2.n b2.c] 49)) ((w.alloc (.cells #[.slice a1.a a1.n a1.c,.slice b1.a b1.n b1.c] 49)).alloc (.cells #[.slice a2.a a2.n a2.c,.slice b2.a b2.n b2.c] 49)).drew:=(Below.refl _ _).drew;replace P1:=P1.below hb;replace P2:=P2.below hb;replace ra1:=ra1.below hb;replace rb1:=rb1.below hb;replace ra2:=ra2.below hb;replace rb2:=rb2.below hb;replace hB:=hB.tr hb;clear hb;refine Rd.regionT (fun X=>ah X (w.heap.size) 49 (.slice a1.a a1.n a1.c) (.slice b1.a b1.n b1.c)∧ah X (w.heap.size+1) 49 (.slice a2.a a2.n a2.c) (.slice b2.a b2.n b2.c)) [0,1,2,3,5,6,7,8,10,11] (.one 0 (.one 1 (.one 2 (.one 3 (.one 5 (.one 6 (.one 7 (.one 8 (.one 4 (.one 9 (.one 10 (.one 11 .done)))))))))))) (fun ac W=>∃(p:Sl) (q:Sl) (y2 y3 y6 y7 y8 y9 y10 y11 y12 y13 y14 y15:Value),ac={ tmps:=List.toArray (.agg #[.slice a1.a a1.n a1.c,.slice b1.a b1.n b1.c]:: .agg #[.slice a2.a a2.n a2.c,.slice b2.a b2.n b2.c]::y2::y3:: .slice p.a p.n p.c:: .slice q.a q.n q.c::y6::y7::y8::y9::y10::y11::y12::y13::y14::y15::[]),defers:=[] }∧RU W p (a*d)∧RU W q (c*b)∧Below w.heap.size w W) Cx Cx Cx ⟨P1,P2⟩ ?tree ?next
 case tree=>
  generalize ((w.alloc (.cells #[.slice a1.a a1.n a1.c,.slice b1.a b1.n b1.c] 49)).alloc (.cells #[.slice a2.a a2.n a2.c,.slice b2.a b2.n b2.c] 49)).drew=w3 at P1 P2 ra1 rb1 ra2 rb2 hB ⊢;refine Rd.tf (.pointer (some ⟨w.heap.size,0,none⟩)) ?_;refine Rd.tg (.slice a1.a a1.n a1.c) ?_ (y:=fun X hX=>A5);refine Rd.tf (.pointer (some ⟨w.heap.size+1,1,none⟩)) ?_;refine Rd.tg (.slice b2.a b2.n b2.c) ?_ (y:=fun X hX=>B5);refine Rd.tf (.pointer (some ⟨w.heap.size+1,0,none⟩)) ?_;refine Rd.tg (.slice a2.a a2.n a2.c) ?_ (y:=fun X hX=>B5);refine Rd.tf (.pointer (some ⟨w.heap.size,1,none⟩)) ?_;refine Rd.tg (.slice b1.a b1.n b1.c) ?_ (y:=fun X hX=>A5);refine Rd.tm fun K hK=>?_
  have H6:=Hd (eD (.slice a1.a a1.n a1.c) (.slice b2.a b2.n b2.c) (a) (d) w3 ra1 rb2 (Nat.le_trans la.out A3) (Nat.le_trans ld.out A3));go_simp;refine H6.mono ?_;rintro e w7 ⟨v5,rfl,rx4,hb⟩;clear H6;replace P1:=P1.below hb;replace P2:=P2.below hb;replace ra1:=ra1.below hb;replace rb1:=rb1.below hb;replace ra2:=ra2.below hb;replace rb2:=rb2.below hb;replace hB:=hB.tr hb;clear hb;obtain⟨x4,rfl,rx4⟩:=rx4.sl;have HLx4:Hid ((L (a*d)).length≤200):=Hd (aE la.out ld.out);refine hK _ _ ⟨P1,P2⟩ ?_;clear hK K;refine Rd.tm fun K hK=>?_
  have H10:=Hd (eD (.slice a2.a a2.n a2.c) (.slice b1.a b1.n b1.c) (c) (b) w7 ra2 rb1 (Nat.le_trans lc.out A3) (Nat.le_trans lb.out A3));go_simp;refine H10.mono ?_;rintro e w11 ⟨v9,rfl,rx8,hb⟩;clear H10;replace P1:=P1.below hb;replace P2:=P2.below hb;replace ra1:=ra1.below hb;replace rb1:=rb1.below hb;replace ra2:=ra2.below hb;replace rb2:=rb2.below hb;replace rx4:=rx4.below hb;replace hB:=hB.tr hb;clear hb;obtain⟨x8,rfl,rx8⟩:=rx8.sl;have HLx8:Hid ((L (c*b)).length≤200):=Hd (aE lc.out lb.out);refine hK _ _ ⟨P1,P2⟩ ?_;clear hK K;refine Rd.tf (.slice x4.a x4.n x4.c) ?_;refine Rd.tf (.slice x8.a x8.n x8.c) ?_;exact Rd.tr_end (⟨x4,x8,_,_,_,_,_,_,_,_,_,_,_,_,rfl,rx4,rx8,hB⟩)
 case next=>
  rintro a3 W ⟨p,q,_,_,_,_,_,_,_,_,_,_,_,_,rfl,rp,rq,hB⟩
  go_wp2_with fail
  go_ret2
  exact⟨p,q,rfl,rp,rq,hB⟩
theorem ma (v:Value) (x:Nat) (w:World) (h:aH w v (L x)) (hl:(L x).length≤1000):Calls Tryz.prog 186 #[v] w fun e w'=>e= .returned (.bool true)∧w=w':=by
 have h1:=sE v (L x) w h A3;rw[rQ] at h1;exact h1
theorem rG (x:Nat) {y n:Nat} (hy:y≠0) (h:(L y).length≤n):(L (Nat.gcd x y)).length≤n:=Nat.le_trans (fb (pu x hy)) h
theorem wc (a1 b1 a2 b2:Sl) (a b c d:Nat) (w:World) (ra1:RU w a1 a) (rb1:RU w b1 b) (ra2:RU w a2 c) (rb2:RU w b2 d) (la:Hid ((L a).length≤100)) (lb:Hid ((L b).length≤100)) (lc:Hid ((L c).length≤100)) (ld:Hid ((L d).length≤100)):
  Calls Tryz.prog 19 #[.agg #[.slice a1.a a1.n a1.c,.slice b1.a b1.n b1.c],.agg #[.slice a2.a a2.n a2.c,.slice b2.a b2.n b2.c]] w fun e w'=>e= .returned (.int .i64 (bJ (a*d) (c*b)))∧Below w.heap.size w w':=by
 go_enter Tryz.func19,Tryz.ntmps19;have hb:Below w.heap.size w ((w.alloc (.cells #[.slice a1.a a1.n a1.c,.slice b1.a b1.n b1.c] 49)).alloc (.cells #[.slice a2.a a2.n a2.c,.slice b2.a b2.n b2.c] 49)):=(((Below.refl _ _).alloc lr _).alloc B4 _)
 replace ra1:=ra1.below hb;replace rb1:=rb1.below hb;replace ra2:=ra2.below hb;replace rb2:=rb2.below hb;have hB:=hb;have P1:ah ((w.alloc (.cells #[.slice a1.a a1.n a1.c,.slice b1.a b1.n b1.c] 49)).alloc (.cells #[.slice a2.a a2.n a2.c,.slice b2.a b2.n b2.c] 49)) (w.heap.size) 49 (.slice a1.a a1.n a1.c) (.slice b1.a b1.n b1.c):=by
  have h:=(ah.new w 49 (.slice a1.a a1.n a1.c) (.slice b1.a b1.n b1.c)).alloc (.cells #[.slice a2.a a2.n a2.c,.slice b2.a b2.n b2.c] 49);exact zQ
 have P2:ah ((w.alloc (.cells #[.slice a1.a a1.n a1.c,.slice b1.a b1.n b1.c] 49)).alloc (.cells #[.slice a2.a a2.n a2.c,.slice b2.a b2.n b2.c] 49)) (w.heap.size+1) 49 (.slice a2.a a2.n a2.c) (.slice b2.a b2.n b2.c):=by
  have h:=ah.new (w.alloc (.cells #[.slice a1.a a1.n a1.c,.slice b1.a b1.n b1.c] 49)) 49 (.slice a2.a a2.n a2.c) (.slice b2.a b2.n b2.c);exact zQ
 clear hb;have c0P1:=P1.c0;have c1P1:=P1.c1;have c0P2:=P2.c0;have c1P2:=P2.c1;have H5:=Hd (fX a1 b1 a2 b2 (a) (b) (c) (d) ((w.alloc (.cells #[.slice a1.a a1.n a1.c,.slice b1.a b1.n b1.c] 49)).alloc (.cells #[.slice a2.a a2.n a2.c,.slice b2.a b2.n b2.c] 49)) ra1 rb1 ra2 rb2 (Hd (Nat.le_trans la.out A3)) (Hd (Nat.le_trans lb.out A3)) (Hd (Nat.le_trans lc.out A3)) (Hd (Nat.le_trans ld.out A3)))
 go_wp2_with fail
 clear c0P1 c1P1 c0P2 c1P2;refine H5.mono ?_;rintro e w6 ⟨x3,x4,rfl,rx3,rx4,hb⟩;clear H5;replace P1:=P1.below hb;replace P2:=P2.below hb;replace ra1:=ra1.below hb;replace rb1:=rb1.below hb;replace ra2:=ra2.below hb;replace rb2:=rb2.below hb;replace hB:=hB.tr hb;clear hb;have HLx3:Hid ((L (a*d)).length≤200):=Hd (aE la.out ld.out);have HLx4:Hid ((L (c*b)).length≤200):=Hd (aE lc.out lb.out);have c0P1:=P1.c0;have c1P1:=P1.c1;have c0P2:=P2.c0;have c1P2:=P2.c1;have H7:=Hd (gt (.slice x3.a x3.n x3.c) (.slice x4.a x4.n x4.c) (a*d) (c*b) w6 rx3 rx4 (Nat.le_trans HLx3.out A3) (Nat.le_trans HLx4.out A3))
 go_wp2_with fail
 clear c0P1 c1P1 c0P2 c1P2;refine H7.mono ?_;rintro e w8 ⟨rfl,hb⟩;clear H7;replace P1:=P1.below hb;replace P2:=P2.below hb;replace ra1:=ra1.below hb;replace rb1:=rb1.below hb;replace ra2:=ra2.below hb;replace rb2:=rb2.below hb;replace rx3:=rx3.below hb;replace rx4:=rx4.below hb;replace hB:=hB.tr hb;clear hb
 go_wp2_with fail
 go_ret;exact⟨rfl,hB⟩
theorem tB (a1 b1:Sl) (a b:Nat) (w:World) (ra1:RU w a1 a) (rb1:RU w b1 b) (la:Hid ((L a).length≤500)) (lb:Hid ((L b).length≤500)) (HNE:Hid (b≠0)) (t:Bool) (HT:Hid (t=decide (Nat.gcd a b=1))):
  Calls Tryz.prog 171 #[.agg #[.slice a1.a a1.n a1.c,.slice b1.a b1.n b1.c]] w fun e w'=>e= .returned (.bool t)∧Below w.heap.size w w':=by
 go_enter Tryz.func171,Tryz.ntmps171;have hb:Below w.heap.size w (w.alloc (.cells #[.slice a1.a a1.n a1.c,.slice b1.a b1.n b1.c] 49)):=((Below.refl _ _).alloc lr _)
 replace ra1:=ra1.below hb;replace rb1:=rb1.below hb;have hB:=hb;have P1:ah (w.alloc (.cells #[.slice a1.a a1.n a1.c,.slice b1.a b1.n b1.c] 49)) (w.heap.size) 49 (.slice a1.a a1.n a1.c) (.slice b1.a b1.n b1.c):=by
  have h:=ah.new w 49 (.slice a1.a a1.n a1.c) (.slice b1.a b1.n b1.c);exact zQ
 clear hb;have c0P1:=P1.c0;have c1P1:=P1.c1;have H2:=Hd (ma (.slice a1.a a1.n a1.c) (a) (w.alloc (.cells #[.slice a1.a a1.n a1.c,.slice b1.a b1.n b1.c] 49)) ra1 (Nat.le_trans la.out A3))
 go_wp2_with fail
 clear c0P1 c1P1;refine H2.mono ?_;rintro e w3 ⟨rfl,rfl⟩;clear H2;have c0P1:=P1.c0;have c1P1:=P1.c1;have H4:=Hd (ma (.slice b1.a b1.n b1.c) (b) (w.alloc (.cells #[.slice a1.a a1.n a1.c,.slice b1.a b1.n b1.c] 49)) rb1 (Nat.le_trans lb.out A3))
 go_wp2_with fail
 clear c0P1 c1P1;refine H4.mono ?_;rintro e w5 ⟨rfl,rfl⟩;clear H4;have c0P1:=P1.c0;have c1P1:=P1.c1;have H6:=Hd (kQ (.slice b1.a b1.n b1.c) (b) (w.alloc (.cells #[.slice a1.a a1.n a1.c,.slice b1.a b1.n b1.c] 49)) rb1 (Nat.le_trans lb.out A3) false (by simp[HNE.out]))
 go_wp2_with fail
 clear c0P1 c1P1;refine H6.mono ?_;rintro e w7 ⟨rfl,hb⟩;clear H6;replace P1:=P1.below hb;replace ra1:=ra1.below hb;replace rb1:=rb1.below hb;replace hB:=hB.tr hb;clear hb;have c0P1:=P1.c0;have c1P1:=P1.c1;have H10:=Hd (rX (.slice a1.a a1.n a1.c) (.slice b1.a b1.n b1.c) (a) (b) w7 ra1 rb1 (Nat.le_trans la.out A3) (Nat.le_trans lb.out A3))
 go_wp2_with fail
 clear c0P1 c1P1;refine H10.mono ?_;rintro e w11 ⟨v9,rfl,rx8,hb⟩;clear H10;replace P1:=P1.below hb;replace ra1:=ra1.below hb;replace rb1:=rb1.below hb;replace hB:=hB.tr hb;clear hb;obtain⟨x8,rfl,rx8⟩:=rx8.sl;have HLx8:Hid ((L (Nat.gcd a b)).length≤500):=Hd (rG a HNE.out lb.out);have c0P1:=P1.c0;have c1P1:=P1.c1;have H12:=Hd (jc (.slice x8.a x8.n x8.c) (Nat.gcd a b) w11 rx8 (Nat.le_trans HLx8.out A3) t HT.out)
 go_wp2_with fail
 clear c0P1 c1P1;refine H12.mono ?_;rintro e w13 ⟨rfl,hb⟩;clear H12;replace P1:=P1.below hb;replace ra1:=ra1.below hb;replace rb1:=rb1.below hb;replace rx8:=rx8.below hb;replace hB:=hB.tr hb;clear hb
 go_wp2_with fail
 go_ret;exact⟨rfl,hB⟩
theorem vR (a1 b1 a2 b2:Sl) (a b c d:Nat) (w:World) (ra1:RU w a1 a) (rb1:RU w b1 b) (ra2:RU w a2 c) (rb2:RU w b2 d) (la:Hid ((L a).length≤100)) (lb:Hid ((L b).length≤100)) (lc:Hid ((L c).length≤100)) (ld:Hid ((L d).length≤100)) (HLE:Hid (c*b≤a*d)) (HNE:Hid (b*d≠0)):
  Calls Tryz.prog 179 #[.agg #[.slice a1.a a1.n a1.c,.slice b1.a b1.n b1.c],.agg #[.slice a2.a a2.n a2.c,.slice b2.a b2.n b2.c]] w fun e w'=>∃p q:Sl,e= .returned (.tuple #[.agg #[.slice p.a p.n p.c,.slice q.a q.n q.c],.int .i64 0])∧RU w' p (((a*d) - (c*b)) / Nat.gcd ((a*d) - (c*b)) (b*d))∧RU w' q ((b*d) / Nat.gcd ((a*d) - (c*b)) (b*d))∧Below w.heap.size w w':=by
 go_enter Tryz.func179,Tryz.ntmps179;have hb:Below w.heap.size w (((w.alloc (.cells #[.slice a1.a a1.n a1.c,.slice b1.a b1.n b1.c] 49)).alloc (.cells #[.slice a2.a a2.n a2.c,.slice b2.a b2.n b2.c] 49)).alloc (.cells #[.slice none 0 0,.slice none 0 0] 49)):=((((Below.refl _ _).alloc lr _).alloc B4 _).alloc Cq _)
 replace ra1:=ra1.below hb;replace rb1:=rb1.below hb;replace ra2:=ra2.below hb;replace rb2:=rb2.below hb;have hB:=hb;have P1:ah (((w.alloc (.cells #[.slice a1.a a1.n a1.c,.slice b1.a b1.n b1.c] 49)).alloc (.cells #[.slice a2.a a2.n a2.c,.slice b2.a b2.n b2.c] 49)).alloc (.cells #[.slice none 0 0,.slice none 0 0] 49)) (w.heap.size) 49 (.slice a1.a a1.n a1.c) (.slice b1.a b1.n b1.c):=by
  have h:=((ah.new w 49 (.slice a1.a a1.n a1.c) (.slice b1.a b1.n b1.c)).alloc (.cells #[.slice a2.a a2.n a2.c,.slice b2.a b2.n b2.c] 49)).alloc (.cells #[.slice none 0 0,.slice none 0 0] 49);exact zQ
 have P2:ah (((w.alloc (.cells #[.slice a1.a a1.n a1.c,.slice b1.a b1.n b1.c] 49)).alloc (.cells #[.slice a2.a a2.n a2.c,.slice b2.a b2.n b2.c] 49)).alloc (.cells #[.slice none 0 0,.slice none 0 0] 49)) (w.heap.size+1) 49 (.slice a2.a a2.n a2.c) (.slice b2.a b2.n b2.c):=by
  have h:=(ah.new (w.alloc (.cells #[.slice a1.a a1.n a1.c,.slice b1.a b1.n b1.c] 49)) 49 (.slice a2.a a2.n a2.c) (.slice b2.a b2.n b2.c)).alloc (.cells #[.slice none 0 0,.slice none 0 0] 49);exact zQ
 have P3:ah (((w.alloc (.cells #[.slice a1.a a1.n a1.c,.slice b1.a b1.n b1.c] 49)).alloc (.cells #[.slice a2.a a2.n a2.c,.slice b2.a b2.n b2.c] 49)).alloc (.cells #[.slice none 0 0,.slice none 0 0] 49)) (w.heap.size+1+1) 49 (.slice none 0 0) (.slice none 0 0):=by
  have h:=ah.new ((w.alloc (.cells #[.slice a1.a a1.n a1.c,.slice b1.a b1.n b1.c] 49)).alloc (.cells #[.slice a2.a a2.n a2.c,.slice b2.a b2.n b2.c] 49)) 49 (.slice none 0 0) (.slice none 0 0);exact zQ
 clear hb;have c0P1:=P1.c0;have c1P1:=P1.c1;have c0P2:=P2.c0;have c1P2:=P2.c1;have c0P3:=P3.c0;have c1P3:=P3.c1;have H6:=Hd (fX a1 b1 a2 b2 (a) (b) (c) (d) (((w.alloc (.cells #[.slice a1.a a1.n a1.c,.slice b1.a b1.n b1.c] 49)).alloc (.cells #[.slice a2.a a2.n a2.c,.slice b2.a b2.n b2.c] 49)).alloc (.cells #[.slice none 0 0,.slice none 0 0] 49)) ra1 rb1 ra2 rb2 (Hd (Nat.le_trans la.out A3)) (Hd (Nat.le_trans lb.out A3)) (Hd (Nat.le_trans lc.out A3)) (Hd (Nat.le_trans ld.out A3)))
 go_wp2_with fail
 clear c0P1 c1P1 c0P2 c1P2 c0P3 c1P3;refine H6.mono ?_;rintro e w7 ⟨x4,x5,rfl,rx4,rx5,hb⟩;clear H6;replace P1:=P1.below hb;replace P2:=P2.below hb;replace P3:=P3.below hb;replace ra1:=ra1.below hb;replace rb1:=rb1.below hb;replace ra2:=ra2.below hb;replace rb2:=rb2.below hb;replace hB:=hB.tr hb;clear hb;have HLx4:Hid ((L (a*d)).length≤200):=Hd (aE la.out ld.out);have HLx5:Hid ((L (c*b)).length≤200):=Hd (aE lc.out lb.out);have c0P1:=P1.c0;have c1P1:=P1.c1;have c0P2:=P2.c0;have c1P2:=P2.c1;have c0P3:=P3.c0;have c1P3:=P3.c1;have H10:=Hd (xt (.slice x4.a x4.n x4.c) (.slice x5.a x5.n x5.c) (a*d) (c*b) w7 rx4 rx5 (Nat.le_trans HLx4.out A3) HLE.out)
 go_wp2_with fail
 clear c0P1 c1P1 c0P2 c1P2 c0P3 c1P3;refine H10.mono ?_;rintro e w11 ⟨v9,rfl,rx8,hb⟩;clear H10;replace P1:=P1.below hb;replace P2:=P2.below hb;replace P3:=P3.below hb;replace ra1:=ra1.below hb;replace rb1:=rb1.below hb;replace ra2:=ra2.below hb;replace rb2:=rb2.below hb;replace rx4:=rx4.below hb;replace rx5:=rx5.below hb;replace hB:=hB.tr hb;clear hb;obtain⟨x8,rfl,rx8⟩:=rx8.sl;have HLx8:Hid ((L ((a*d) - (c*b))).length≤200):=Hd (jU HLx4.out);have c0P1:=P1.c0;have c1P1:=P1.c1;have c0P2:=P2.c0;have c1P2:=P2.c1;have c0P3:=P3.c0;have c1P3:=P3.c1;have H14:=Hd (eD (.slice b1.a b1.n b1.c) (.slice b2.a b2.n b2.c) (b) (d) w11 rb1 rb2 (Nat.le_trans lb.out A3) (Nat.le_trans ld.out A3))
 go_wp2_with fail
 clear c0P1 c1P1 c0P2 c1P2 c0P3 c1P3;refine H14.mono ?_;rintro e w15 ⟨v13,rfl,rx12,hb⟩;clear H14;replace P1:=P1.below hb;replace P2:=P2.below hb;replace P3:=P3.below hb;replace ra1:=ra1.below hb;replace rb1:=rb1.below hb;replace ra2:=ra2.below hb;replace rb2:=rb2.below hb;replace rx4:=rx4.below hb;replace rx5:=rx5.below hb;replace rx8:=rx8.below hb;replace hB:=hB.tr hb;clear hb;obtain⟨x12,rfl,rx12⟩:=rx12.sl;have HLx12:Hid ((L (b*d)).length≤200):=Hd (aE lb.out ld.out);have c0P1:=P1.c0;have c1P1:=P1.c1;have c0P2:=P2.c0;have c1P2:=P2.c1;have c0P3:=P3.c0;have c1P3:=P3.c1;have H18:=Hd (iP (.slice x8.a x8.n x8.c) (.slice x12.a x12.n x12.c) ((a*d) - (c*b)) (b*d) w15 rx8 rx12 (Nat.le_trans HLx8.out A3) (Nat.le_trans HLx12.out A3) HNE.out)
 go_wp2_with fail
 clear c0P1 c1P1 c0P2 c1P2 c0P3 c1P3;refine H18.mono ?_;rintro e w19 ⟨x16,x17,rfl,rx16,rx17,hb⟩;clear H18;replace P1:=P1.below hb;replace P2:=P2.below hb;replace P3:=P3.below hb;replace ra1:=ra1.below hb;replace rb1:=rb1.below hb;replace ra2:=ra2.below hb;replace rb2:=rb2.below hb;replace rx4:=rx4.below hb;replace rx5:=rx5.below hb;replace rx8:=rx8.below hb;replace rx12:=rx12.below hb;replace hB:=hB.tr hb;clear hb;have HLx16:Hid ((L (((a*d) - (c*b)) / Nat.gcd ((a*d) - (c*b)) (b*d))).length≤200):=Hd (aO HLx8.out);have HLx17:Hid ((L ((b*d) / Nat.gcd ((a*d) - (c*b)) (b*d))).length≤200):=Hd (aO HLx12.out);have c0P1:=P1.c0;have c1P1:=P1.c1;have c0P2:=P2.c0;have c1P2:=P2.c1;have c0P3:=P3.c0;have c1P3:=P3.c1;have z0P3:=P3.z0;have z1P3:=P3.z1
 go_wp2_with fail
 replace ra1:=ra1.pset P3 (.slice x16.a x16.n x16.c) (.slice x17.a x17.n x17.c);replace rb1:=rb1.pset P3 (.slice x16.a x16.n x16.c) (.slice x17.a x17.n x17.c);replace ra2:=ra2.pset P3 (.slice x16.a x16.n x16.c) (.slice x17.a x17.n x17.c);replace rb2:=rb2.pset P3 (.slice x16.a x16.n x16.c) (.slice x17.a x17.n x17.c);replace rx4:=rx4.pset P3 (.slice x16.a x16.n x16.c) (.slice x17.a x17.n x17.c);replace rx5:=rx5.pset P3 (.slice x16.a x16.n x16.c) (.slice x17.a x17.n x17.c);replace rx8:=rx8.pset P3 (.slice x16.a x16.n x16.c) (.slice x17.a x17.n x17.c);replace rx12:=rx12.pset P3 (.slice x16.a x16.n x16.c) (.slice x17.a x17.n x17.c);replace rx16:=rx16.pset P3 (.slice x16.a x16.n x16.c) (.slice x17.a x17.n x17.c);replace rx17:=rx17.pset P3 (.slice x16.a x16.n x16.c) (.slice x17.a x17.n x17.c);replace hB:=Below.pset hB (by omega:w.heap.size≤w.heap.size+1+1) (.slice x16.a x16.n x16.c) (.slice x17.a x17.n x17.c);have P3x:=P3.set (.slice x16.a x16.n x16.c) (.slice x17.a x17.n x17.c);generalize (w19.setCell ⟨w.heap.size+1+1,0,none⟩ (.slice x16.a x16.n x16.c)).setCell ⟨w.heap.size+1+1,1,none⟩ (.slice x17.a x17.n x17.c)=WW at ra1 rb1 ra2 rb2 rx4 rx5 rx8 rx12 rx16 rx17 P3x hB ⊢;refine bodyPost_ret (v:=.tuple #[.agg #[.slice x16.a x16.n x16.c,.slice x17.a x17.n x17.c],.int .i64 0]) ?_ rfl (⟨x16,x17,rfl,rx16,rx17,hB⟩);simp[results,Tryz.f179,go_sem,P3x.c0,P3x.c1]
theorem ve (a1 b1 a2 b2:Sl) (a b c d:Nat) (w:World) (ra1:RU w a1 a) (rb1:RU w b1 b) (ra2:RU w a2 c) (rb2:RU w b2 d) (la:Hid ((L a).length≤100)) (lb:Hid ((L b).length≤100)) (lc:Hid ((L c).length≤100)) (ld:Hid ((L d).length≤100)) (HNE:Hid (c*b≠0)):
  Calls Tryz.prog 178 #[.agg #[.slice a1.a a1.n a1.c,.slice b1.a b1.n b1.c],.agg #[.slice a2.a a2.n a2.c,.slice b2.a b2.n b2.c]] w fun e w'=>∃p q:Sl,e= .returned (.tuple #[.agg #[.slice p.a p.n p.c,.slice q.a q.n q.c],.int .i64 0])∧RU w' p ((a*d) / Nat.gcd (a*d) (c*b))∧RU w' q ((c*b) / Nat.gcd (a*d) (c*b))∧Below w.heap.size w w':=by
 go_enter Tryz.func178,Tryz.ntmps178;have hb:Below w.heap.size w (((w.alloc (.cells #[.slice a1.a a1.n a1.c,.slice b1.a b1.n b1.c] 49)).alloc (.cells #[.slice a2.a a2.n a2.c,.slice b2.a b2.n b2.c] 49)).alloc (.cells #[.slice none 0 0,.slice none 0 0] 49)):=((((Below.refl _ _).alloc lr _).alloc B4 _).alloc Cq _)
 replace ra1:=ra1.below hb;replace rb1:=rb1.below hb;replace ra2:=ra2.below hb;replace rb2:=rb2.below hb;have hB:=hb;have P1:ah (((w.alloc (.cells #[.slice a1.a a1.n a1.c,.slice b1.a b1.n b1.c] 49)).alloc (.cells #[.slice a2.a a2.n a2.c,.slice b2.a b2.n b2.c] 49)).alloc (.cells #[.slice none 0 0,.slice none 0 0] 49)) (w.heap.size) 49 (.slice a1.a a1.n a1.c) (.slice b1.a b1.n b1.c):=by
  have h:=((ah.new w 49 (.slice a1.a a1.n a1.c) (.slice b1.a b1.n b1.c)).alloc (.cells #[.slice a2.a a2.n a2.c,.slice b2.a b2.n b2.c] 49)).alloc (.cells #[.slice none 0 0,.slice none 0 0] 49);exact zQ
 have P2:ah (((w.alloc (.cells #[.slice a1.a a1.n a1.c,.slice b1.a b1.n b1.c] 49)).alloc (.cells #[.slice a2.a a2.n a2.c,.slice b2.a b2.n b2.c] 49)).alloc (.cells #[.slice none 0 0,.slice none 0 0] 49)) (w.heap.size+1) 49 (.slice a2.a a2.n a2.c) (.slice b2.a b2.n b2.c):=by
  have h:=(ah.new (w.alloc (.cells #[.slice a1.a a1.n a1.c,.slice b1.a b1.n b1.c] 49)) 49 (.slice a2.a a2.n a2.c) (.slice b2.a b2.n b2.c)).alloc (.cells #[.slice none 0 0,.slice none 0 0] 49);exact zQ
 have P3:ah (((w.alloc (.cells #[.slice a1.a a1.n a1.c,.slice b1.a b1.n b1.c] 49)).alloc (.cells #[.slice a2.a a2.n a2.c,.slice b2.a b2.n b2.c] 49)).alloc (.cells #[.slice none 0 0,.slice none 0 0] 49)) (w.heap.size+1+1) 49 (.slice none 0 0) (.slice none 0 0):=by
  have h:=ah.new ((w.alloc (.cells #[.slice a1.a a1.n a1.c,.slice b1.a b1.n b1.c] 49)).alloc (.cells #[.slice a2.a a2.n a2.c,.slice b2.a b2.n b2.c] 49)) 49 (.slice none 0 0) (.slice none 0 0);exact zQ
 clear hb;have c0P1:=P1.c0;have c1P1:=P1.c1;have c0P2:=P2.c0;have c1P2:=P2.c1;have c0P3:=P3.c0;have c1P3:=P3.c1;have H6:=Hd (fX a1 b1 a2 b2 (a) (b) (c) (d) (((w.alloc (.cells #[.slice a1.a a1.n a1.c,.slice b1.a b1.n b1.c] 49)).alloc (.cells #[.slice a2.a a2.n a2.c,.slice b2.a b2.n b2.c] 49)).alloc (.cells #[.slice none 0 0,.slice none 0 0] 49)) ra1 rb1 ra2 rb2 (Hd (Nat.le_trans la.out A3)) (Hd (Nat.le_trans lb.out A3)) (Hd (Nat.le_trans lc.out A3)) (Hd (Nat.le_trans ld.out A3)))
 go_wp2_with fail
 clear c0P1 c1P1 c0P2 c1P2 c0P3 c1P3;refine H6.mono ?_;rintro e w7 ⟨x4,x5,rfl,rx4,rx5,hb⟩;clear H6;replace P1:=P1.below hb;replace P2:=P2.below hb;replace P3:=P3.below hb;replace ra1:=ra1.below hb;replace rb1:=rb1.below hb;replace ra2:=ra2.below hb;replace rb2:=rb2.below hb;replace hB:=hB.tr hb;clear hb;have HLx4:Hid ((L (a*d)).length≤200):=Hd (aE la.out ld.out);have HLx5:Hid ((L (c*b)).length≤200):=Hd (aE lc.out lb.out);have c0P1:=P1.c0;have c1P1:=P1.c1;have c0P2:=P2.c0;have c1P2:=P2.c1;have c0P3:=P3.c0;have c1P3:=P3.c1;have H10:=Hd (iP (.slice x4.a x4.n x4.c) (.slice x5.a x5.n x5.c) (a*d) (c*b) w7 rx4 rx5 (Nat.le_trans HLx4.out A3) (Nat.le_trans HLx5.out A3) HNE.out)
 go_wp2_with fail
 clear c0P1 c1P1 c0P2 c1P2 c0P3 c1P3;refine H10.mono ?_;rintro e w11 ⟨x8,x9,rfl,rx8,rx9,hb⟩;clear H10;replace P1:=P1.below hb;replace P2:=P2.below hb;replace P3:=P3.below hb;replace ra1:=ra1.below hb;replace rb1:=rb1.below hb;replace ra2:=ra2.below hb;replace rb2:=rb2.below hb;replace rx4:=rx4.below hb;replace rx5:=rx5.below hb;replace hB:=hB.tr hb;clear hb;have HLx8:Hid ((L ((a*d) / Nat.gcd (a*d) (c*b))).length≤200):=Hd (aO HLx4.out);have HLx9:Hid ((L ((c*b) / Nat.gcd (a*d) (c*b))).length≤200):=Hd (aO HLx5.out);have c0P1:=P1.c0;have c1P1:=P1.c1;have c0P2:=P2.c0;have c1P2:=P2.c1;have c0P3:=P3.c0;have c1P3:=P3.c1;have z0P3:=P3.z0;have z1P3:=P3.z1
 go_wp2_with fail
 replace ra1:=ra1.pset P3 (.slice x8.a x8.n x8.c) (.slice x9.a x9.n x9.c);replace rb1:=rb1.pset P3 (.slice x8.a x8.n x8.c) (.slice x9.a x9.n x9.c);replace ra2:=ra2.pset P3 (.slice x8.a x8.n x8.c) (.slice x9.a x9.n x9.c);replace rb2:=rb2.pset P3 (.slice x8.a x8.n x8.c) (.slice x9.a x9.n x9.c);replace rx4:=rx4.pset P3 (.slice x8.a x8.n x8.c) (.slice x9.a x9.n x9.c);replace rx5:=rx5.pset P3 (.slice x8.a x8.n x8.c) (.slice x9.a x9.n x9.c);replace rx8:=rx8.pset P3 (.slice x8.a x8.n x8.c) (.slice x9.a x9.n x9.c);replace rx9:=rx9.pset P3 (.slice x8.a x8.n x8.c) (.slice x9.a x9.n x9.c);replace hB:=Below.pset hB (by omega:w.heap.size≤w.heap.size+1+1) (.slice x8.a x8.n x8.c) (.slice x9.a x9.n x9.c);have P3x:=P3.set (.slice x8.a x8.n x8.c) (.slice x9.a x9.n x9.c);generalize (w11.setCell ⟨w.heap.size+1+1,0,none⟩ (.slice x8.a x8.n x8.c)).setCell ⟨w.heap.size+1+1,1,none⟩ (.slice x9.a x9.n x9.c)=WW at ra1 rb1 ra2 rb2 rx4 rx5 rx8 rx9 P3x hB ⊢;refine bodyPost_ret (v:=.tuple #[.agg #[.slice x8.a x8.n x8.c,.slice x9.a x9.n x9.c],.int .i64 0]) ?_ rfl (⟨x8,x9,rfl,rx8,rx9,hB⟩);simp[results,Tryz.f178,go_sem,P3x.c0,P3x.c1]
theorem wrap_u64 (n:Nat) (h:n<18446744073709551616):IntKind.u64.wrap (n:Int)=(n:Int):=by
 have e:(2:Int) ^ IntKind.u64.bits=18446744073709551616:=BD
 simp only[IntKind.wrap,e];rw[if_neg (by simp[IntKind.signed])];omega
theorem uR (a1 b1 a2 b2:Sl) (a b c d:Nat) (w:World) (ra1:RU w a1 a) (rb1:RU w b1 b) (ra2:RU w a2 c) (rb2:RU w b2 d) (la:Hid ((L a).length≤100)) (lb:Hid ((L b).length≤100)) (lc:Hid ((L c).length≤100)) (ld:Hid ((L d).length≤100)) (HNE:Hid (b*d≠0)):
  Calls Tryz.prog 21 #[.agg #[.slice a1.a a1.n a1.c,.slice b1.a b1.n b1.c],.agg #[.slice a2.a a2.n a2.c,.slice b2.a b2.n b2.c]] w fun e w'=>∃p q:Sl,e= .returned (.agg #[.slice p.a p.n p.c,.slice q.a q.n q.c])∧RU w' p ((a*c) / Nat.gcd (a*c) (b*d))∧RU w' q ((b*d) / Nat.gcd (a*c) (b*d))∧Below w.heap.size w w':=by
 go_enter Tryz.func21,Tryz.ntmps21;have hb:Below w.heap.size w (((w.alloc (.cells #[.slice a1.a a1.n a1.c,.slice b1.a b1.n b1.c] 49)).alloc (.cells #[.slice a2.a a2.n a2.c,.slice b2.a b2.n b2.c] 49)).alloc (.cells #[.slice none 0 0,.slice none 0 0] 49)):=((((Below.refl _ _).alloc lr _).alloc B4 _).alloc Cq _)
 replace ra1:=ra1.below hb;replace rb1:=rb1.below hb;replace ra2:=ra2.below hb;replace rb2:=rb2.below hb;have hB:=hb;have P1:ah (((w.alloc (.cells #[.slice a1.a a1.n a1.c,.slice b1.a b1.n b1.c] 49)).alloc (.cells #[.slice a2.a a2.n a2.c,.slice b2.a b2.n b2.c] 49)).alloc (.cells #[.slice none 0 0,.slice none 0 0] 49)) (w.heap.size) 49 (.slice a1.a a1.n a1.c) (.slice b1.a b1.n b1.c):=by
  have h:=((ah.new w 49 (.slice a1.a a1.n a1.c) (.slice b1.a b1.n b1.c)).alloc (.cells #[.slice a2.a a2.n a2.c,.slice b2.a b2.n b2.c] 49)).alloc (.cells #[.slice none 0 0,.slice none 0 0] 49);exact zQ
 have P2:ah (((w.alloc (.cells #[.slice a1.a a1.n a1.c,.slice b1.a b1.n b1.c] 49)).alloc (.cells #[.slice a2.a a2.n a2.c,.slice b2.a b2.n b2.c] 49)).alloc (.cells #[.slice none 0 0,.slice none 0 0] 49)) (w.heap.size+1) 49 (.slice a2.a a2.n a2.c) (.slice b2.a b2.n b2.c):=by
  have h:=(ah.new (w.alloc (.cells #[.slice a1.a a1.n a1.c,.slice b1.a b1.n b1.c] 49)) 49 (.slice a2.a a2.n a2.c) (.slice b2.a b2.n b2.c)).alloc (.cells #[.slice none 0 0,.slice none 0 0] 49);exact zQ
 have P3:ah (((w.alloc (.cells #[.slice a1.a a1.n a1.c,.slice b1.a b1.n b1.c] 49)).alloc (.cells #[.slice a2.a a2.n a2.c,.slice b2.a b2.n b2.c] 49)).alloc (.cells #[.slice none 0 0,.slice none 0 0] 49)) (w.heap.size+1+1) 49 (.slice none 0 0) (.slice none 0 0):=by
  have h:=ah.new ((w.alloc (.cells #[.slice a1.a a1.n a1.c,.slice b1.a b1.n b1.c] 49)).alloc (.cells #[.slice a2.a a2.n a2.c,.slice b2.a b2.n b2.c] 49)) 49 (.slice none 0 0) (.slice none 0 0);exact zQ
 clear hb;have c0P1:=P1.c0;have c1P1:=P1.c1;have c0P2:=P2.c0;have c1P2:=P2.c1;have c0P3:=P3.c0;have c1P3:=P3.c1
 go_wp2_with fail
 clear c0P1 c1P1 c0P2 c1P2 c0P3 c1P3;have hb:Below (((w.alloc (.cells #[.slice a1.a a1.n a1.c,.slice b1.a b1.n b1.c] 49)).alloc (.cells #[.slice a2.a a2.n a2.c,.slice b2.a b2.n b2.c] 49)).alloc (.cells #[.slice none 0 0,.slice none 0 0] 49)).heap.size (((w.alloc (.cells #[.slice a1.a a1.n a1.c,.slice b1.a b1.n b1.c] 49)).alloc (.cells #[.slice a2.a a2.n a2.c,.slice b2.a b2.n b2.c] 49)).alloc (.cells #[.slice none 0 0,.slice none 0 0] 49)) (((w.alloc (.cells #[.slice a1.a a1.n a1.c,.slice b1.a b1.n b1.c] 49)).alloc (.cells #[.slice a2.a a2.n a2.c,.slice b2.a b2.n b2.c] 49)).alloc (.cells #[.slice none 0 0,.slice none 0 0] 49)).drew:=(Below.refl _ _).drew;replace P1:=P1.below hb;replace P2:=P2.below hb;replace P3:=P3.below hb;replace ra1:=ra1.below hb;replace rb1:=rb1.below hb;replace ra2:=ra2.below hb;replace rb2:=rb2.below hb;replace hB:=hB.tr hb;clear hb;refine Rd.regionT (fun X=>ah X (w.heap.size) 49 (.slice a1.a a1.n a1.c) (.slice b1.a b1.n b1.c)∧ah X (w.heap.size+1) 49 (.slice a2.a a2.n a2.c) (.slice b2.a b2.n b2.c)∧ah X (w.heap.size+1+1) 49 (.slice none 0 0) (.slice none 0 0)) [0,1,2,3,5,6,7,8,11,12,13,16] (.one 0 (.one 1 (.one 2 (.one 3 (.one 5 (.one 6 (.one 7 (.one 8 (.two 4 (.two 9 (.two 10 (.one 11 (.one 12 (.one 13 (.one 14 (.one 15 (.one 16 .done)))))) 14 (.one 10 (.one 11 (.one 12 (.one 13 (.one 15 (.one 16 .done))))))) 14 (.one 9 (.one 10 (.one 11 (.one 12 (.one 13 (.one 15 (.one 16 .done)))))))) 14 (.one 4 (.one 9 (.one 10 (.one 11 (.one 12 (.one 13 (.one 15 (.one 16 .done))))))))))))))))) (fun ac W=>∃(BB:Nat) (p:Sl) (q:Sl) (y6 y7 y8 y9 y10 y11 y12 y13 y14 y15 y16 y17 y18 y19 y20:Value),ac={ tmps:=List.toArray (.agg #[.slice a1.a a1.n a1.c,.slice b1.a b1.n b1.c]:: .agg #[.slice a2.a a2.n a2.c,.slice b2.a b2.n b2.c]:: .pointer (some ⟨w.heap.size,0,none⟩):: .pointer (some ⟨w.heap.size+1,0,none⟩):: .pointer (some ⟨w.heap.size+1+1,0,none⟩):: .pointer (some ⟨BB,0,none⟩)::y6::y7::y8::y9::y10::y11::y12::y13::y14::y15::y16::y17::y18::y19::y20::undef::[]),defers:=[] }∧RU W p ((a*c) / Nat.gcd (a*c) (b*d))∧RU W q ((b*d) / Nat.gcd (a*c) (b*d))∧ah W BB 49 (.slice p.a p.n p.c) (.slice q.a q.n q.c)∧ah W (w.heap.size+1+1) 49 (.slice none 0 0) (.slice none 0 0)∧Below w.heap.size w W) Cx Cx Cx ⟨P1,P2,P3⟩ ?tree ?next
 case tree=>
  generalize (((w.alloc (.cells #[.slice a1.a a1.n a1.c,.slice b1.a b1.n b1.c] 49)).alloc (.cells #[.slice a2.a a2.n a2.c,.slice b2.a b2.n b2.c] 49)).alloc (.cells #[.slice none 0 0,.slice none 0 0] 49)).drew=w4 at P1 P2 P3 ra1 rb1 ra2 rb2 hB ⊢;refine Rd.tf (.pointer (some ⟨w.heap.size,0,none⟩)) ?_;refine Rd.tg (.slice a1.a a1.n a1.c) ?_ (y:=fun X hX=>A5);refine Rd.tf (.pointer (some ⟨w.heap.size+1,0,none⟩)) ?_;refine Rd.tg (.slice a2.a a2.n a2.c) ?_ (y:=fun X hX=>by have h0:=hX.2.1.c0;have h1:=hX.2.1.c1;go_simp);refine Rd.tf (.pointer (some ⟨w.heap.size,1,none⟩)) ?_;refine Rd.tg (.slice b1.a b1.n b1.c) ?_ (y:=fun X hX=>A5);refine Rd.tf (.pointer (some ⟨w.heap.size+1,1,none⟩)) ?_;refine Rd.tg (.slice b2.a b2.n b2.c) ?_ (y:=fun X hX=>by have h0:=hX.2.1.c0;have h1:=hX.2.1.c1;go_simp);refine Rd.tr_two BC Cp BC Cp (fun K hK=>?_) (fun K hK=>?_)
  ·skip
   have H7:=Hd (eD (.slice a1.a a1.n a1.c) (.slice a2.a a2.n a2.c) (a) (c) w4 ra1 ra2 (Nat.le_trans la.out A3) (Nat.le_trans lc.out A3));go_simp;refine H7.mono ?_;rintro e w8 ⟨v6,rfl,rx5,hb⟩;clear H7;replace P1:=P1.below hb;replace P2:=P2.below hb;replace P3:=P3.below hb;replace ra1:=ra1.below hb;replace rb1:=rb1.below hb;replace ra2:=ra2.below hb;replace rb2:=rb2.below hb;replace hB:=hB.tr hb;clear hb;obtain⟨x5,rfl,rx5⟩:=rx5.sl;have HLx5:Hid ((L (a*c)).length≤200):=Hd (aE la.out lc.out);refine hK _ _ ⟨P1,P2,P3⟩ ?_;clear hK K;refine Rd.tr_two BC Cp BC Cp (fun K hK=>?_) (fun K hK=>?_)
   ·skip
    have H11:=Hd (eD (.slice b1.a b1.n b1.c) (.slice b2.a b2.n b2.c) (b) (d) w8 rb1 rb2 (Nat.le_trans lb.out A3) (Nat.le_trans ld.out A3));go_simp;refine H11.mono ?_;rintro e w12 ⟨v10,rfl,rx9,hb⟩;clear H11;replace P1:=P1.below hb;replace P2:=P2.below hb;replace P3:=P3.below hb;replace ra1:=ra1.below hb;replace rb1:=rb1.below hb;replace ra2:=ra2.below hb;replace rb2:=rb2.below hb;replace rx5:=rx5.below hb;replace hB:=hB.tr hb;clear hb;obtain⟨x9,rfl,rx9⟩:=rx9.sl;have HLx9:Hid ((L (b*d)).length≤200):=Hd (aE lb.out ld.out);refine hK _ _ ⟨P1,P2,P3⟩ ?_;clear hK K;refine Rd.tr_two BC Cp BC Cp (fun K hK=>?_) (fun K hK=>?_)
    ·skip
     have H15:=Hd (iP (.slice x5.a x5.n x5.c) (.slice x9.a x9.n x9.c) (a*c) (b*d) w12 rx5 rx9 (Nat.le_trans HLx5.out A3) (Nat.le_trans HLx9.out A3) HNE.out);go_simp;refine H15.mono ?_;rintro e w16 ⟨x13,x14,rfl,rx13,rx14,hb⟩;clear H15;replace P1:=P1.below hb;replace P2:=P2.below hb;replace P3:=P3.below hb;replace ra1:=ra1.below hb;replace rb1:=rb1.below hb;replace ra2:=ra2.below hb;replace rb2:=rb2.below hb;replace rx5:=rx5.below hb;replace rx9:=rx9.below hb;replace hB:=hB.tr hb;clear hb;have HLx13:Hid ((L ((a*c) / Nat.gcd (a*c) (b*d))).length≤200):=Hd (aO HLx5.out);have HLx14:Hid ((L ((b*d) / Nat.gcd (a*c) (b*d))).length≤200):=Hd (aO HLx9.out);refine hK _ _ ⟨P1,P2,P3⟩ ?_;clear hK K;refine Rd.tf (.tuple #[.agg #[.slice x13.a x13.n x13.c,.slice x14.a x14.n x14.c],.int .i64 0]) ?_;refine Rd.tf (.agg #[.slice x13.a x13.n x13.c,.slice x14.a x14.n x14.c]) ?_;refine Rd.tf (.int .i64 0) ?_;refine Rd.tm fun K hK=>?_
     go_simp;have P17:=ah.new w16 49 (.slice none 0 0) (.slice none 0 0);have nP1P17:=Nat.ne_of_lt P1.lt;have nP2P17:=Nat.ne_of_lt P2.lt;have nP3P17:=Nat.ne_of_lt P3.lt;have gP17:=hB.size;have hb:Below w16.heap.size w16 (w16.alloc (.cells #[.slice none 0 0,.slice none 0 0] 49)):=(Below.refl _ _).alloc lr _;replace P1:=P1.below hb;replace P2:=P2.below hb;replace P3:=P3.below hb;replace ra1:=ra1.below hb;replace rb1:=rb1.below hb;replace ra2:=ra2.below hb;replace rb2:=rb2.below hb;replace rx5:=rx5.below hb;replace rx9:=rx9.below hb;replace rx13:=rx13.below hb;replace rx14:=rx14.below hb;replace hB:=hB.tr hb;clear hb;generalize w16.alloc (.cells #[.slice none 0 0,.slice none 0 0] 49)=w19 at P1 P2 P3 ra1 rb1 ra2 rb2 rx5 rx9 rx13 rx14 P17 hB ⊢;generalize w16.heap.size=B18 at nP1P17 nP2P17 nP3P17 P17 gP17 ⊢;refine hK _ _ ⟨P1,P2,P3⟩ ?_;clear hK K;refine Rd.tm fun K hK=>?_
     have c0P17:=P17.c0;have c1P17:=P17.c1;have z0P17:=P17.z0;have z1P17:=P17.z1;go_simp;clear c0P17 c1P17 z0P17 z1P17;replace ra1:=ra1.pset P17 (.slice x13.a x13.n x13.c) (.slice x14.a x14.n x14.c);replace rb1:=rb1.pset P17 (.slice x13.a x13.n x13.c) (.slice x14.a x14.n x14.c);replace ra2:=ra2.pset P17 (.slice x13.a x13.n x13.c) (.slice x14.a x14.n x14.c);replace rb2:=rb2.pset P17 (.slice x13.a x13.n x13.c) (.slice x14.a x14.n x14.c);replace rx5:=rx5.pset P17 (.slice x13.a x13.n x13.c) (.slice x14.a x14.n x14.c);replace rx9:=rx9.pset P17 (.slice x13.a x13.n x13.c) (.slice x14.a x14.n x14.c);replace rx13:=rx13.pset P17 (.slice x13.a x13.n x13.c) (.slice x14.a x14.n x14.c);replace rx14:=rx14.pset P17 (.slice x13.a x13.n x13.c) (.slice x14.a x14.n x14.c);replace P1:=P1.other (B:=B18) nP1P17 (.slice x13.a x13.n x13.c) (.slice x14.a x14.n x14.c);replace P2:=P2.other (B:=B18) nP2P17 (.slice x13.a x13.n x13.c) (.slice x14.a x14.n x14.c);replace P3:=P3.other (B:=B18) nP3P17 (.slice x13.a x13.n x13.c) (.slice x14.a x14.n x14.c);replace hB:=Below.pset hB gP17 (.slice x13.a x13.n x13.c) (.slice x14.a x14.n x14.c);replace P17:=P17.set (.slice x13.a x13.n x13.c) (.slice x14.a x14.n x14.c);generalize (w19.setCell ⟨B18,0,none⟩ (.slice x13.a x13.n x13.c)).setCell ⟨B18,1,none⟩ (.slice x14.a x14.n x14.c)=w20 at P1 P2 P3 P17 ra1 rb1 ra2 rb2 rx5 rx9 rx13 rx14 hB ⊢;refine hK _ _ ⟨P1,P2,P3⟩ ?_;clear hK K;refine Rd.tf (.int .i64 0) ?_;exact Rd.tr_end (⟨B18,x13,x14,_,_,_,_,_,_,_,_,_,_,_,_,_,_,_,rfl,rx13,rx14,P17,P3,hB⟩)
    ·skip
     go_simp;have P21:=ah.new w12 49 (.slice none 0 0) (.slice none 0 0);have nP1P21:=Nat.ne_of_lt P1.lt;have nP2P21:=Nat.ne_of_lt P2.lt;have nP3P21:=Nat.ne_of_lt P3.lt;have gP21:=hB.size;have hb:Below w12.heap.size w12 (w12.alloc (.cells #[.slice none 0 0,.slice none 0 0] 49)):=(Below.refl _ _).alloc lr _;replace P1:=P1.below hb;replace P2:=P2.below hb;replace P3:=P3.below hb;replace ra1:=ra1.below hb;replace rb1:=rb1.below hb;replace ra2:=ra2.below hb;replace rb2:=rb2.below hb;replace rx5:=rx5.below hb;replace rx9:=rx9.below hb;replace hB:=hB.tr hb;clear hb;generalize w12.alloc (.cells #[.slice none 0 0,.slice none 0 0] 49)=w23 at P1 P2 P3 ra1 rb1 ra2 rb2 rx5 rx9 P21 hB ⊢;generalize w12.heap.size=B22 at nP1P21 nP2P21 nP3P21 P21 gP21 ⊢;refine hK _ _ ⟨P1,P2,P3⟩ ?_;clear hK K;refine Rd.tm fun K hK=>?_
     have H26:=Hd (iP (.slice x5.a x5.n x5.c) (.slice x9.a x9.n x9.c) (a*c) (b*d) w23 rx5 rx9 (Nat.le_trans HLx5.out A3) (Nat.le_trans HLx9.out A3) HNE.out);go_simp;refine H26.mono ?_;rintro e w27 ⟨x24,x25,rfl,rx24,rx25,hb⟩;clear H26;replace P1:=P1.below hb;replace P2:=P2.below hb;replace P3:=P3.below hb;replace P21:=P21.below hb;replace ra1:=ra1.below hb;replace rb1:=rb1.below hb;replace ra2:=ra2.below hb;replace rb2:=rb2.below hb;replace rx5:=rx5.below hb;replace rx9:=rx9.below hb;replace hB:=hB.tr hb;clear hb;have HLx24:Hid ((L ((a*c) / Nat.gcd (a*c) (b*d))).length≤200):=Hd (aO HLx5.out);have HLx25:Hid ((L ((b*d) / Nat.gcd (a*c) (b*d))).length≤200):=Hd (aO HLx9.out);refine hK _ _ ⟨P1,P2,P3⟩ ?_;clear hK K;refine Rd.tf (.tuple #[.agg #[.slice x24.a x24.n x24.c,.slice x25.a x25.n x25.c],.int .i64 0]) ?_;refine Rd.tf (.agg #[.slice x24.a x24.n x24.c,.slice x25.a x25.n x25.c]) ?_;refine Rd.tf (.int .i64 0) ?_;refine Rd.tm fun K hK=>?_
     have c0P21:=P21.c0;have c1P21:=P21.c1;have z0P21:=P21.z0;have z1P21:=P21.z1;go_simp;clear c0P21 c1P21 z0P21 z1P21;replace ra1:=ra1.pset P21 (.slice x24.a x24.n x24.c) (.slice x25.a x25.n x25.c);replace rb1:=rb1.pset P21 (.slice x24.a x24.n x24.c) (.slice x25.a x25.n x25.c);replace ra2:=ra2.pset P21 (.slice x24.a x24.n x24.c) (.slice x25.a x25.n x25.c);replace rb2:=rb2.pset P21 (.slice x24.a x24.n x24.c) (.slice x25.a x25.n x25.c);replace rx5:=rx5.pset P21 (.slice x24.a x24.n x24.c) (.slice x25.a x25.n x25.c);replace rx9:=rx9.pset P21 (.slice x24.a x24.n x24.c) (.slice x25.a x25.n x25.c);replace rx24:=rx24.pset P21 (.slice x24.a x24.n x24.c) (.slice x25.a x25.n x25.c);replace rx25:=rx25.pset P21 (.slice x24.a x24.n x24.c) (.slice x25.a x25.n x25.c);replace P1:=P1.other (B:=B22) nP1P21 (.slice x24.a x24.n x24.c) (.slice x25.a x25.n x25.c);replace P2:=P2.other (B:=B22) nP2P21 (.slice x24.a x24.n x24.c) (.slice x25.a x25.n x25.c);replace P3:=P3.other (B:=B22) nP3P21 (.slice x24.a x24.n x24.c) (.slice x25.a x25.n x25.c);replace hB:=Below.pset hB gP21 (.slice x24.a x24.n x24.c) (.slice x25.a x25.n x25.c);replace P21:=P21.set (.slice x24.a x24.n x24.c) (.slice x25.a x25.n x25.c);generalize (w27.setCell ⟨B22,0,none⟩ (.slice x24.a x24.n x24.c)).setCell ⟨B22,1,none⟩ (.slice x25.a x25.n x25.c)=w28 at P1 P2 P3 P21 ra1 rb1 ra2 rb2 rx5 rx9 rx24 rx25 hB ⊢;refine hK _ _ ⟨P1,P2,P3⟩ ?_;clear hK K;refine Rd.tf (.int .i64 0) ?_;exact Rd.tr_end (⟨B22,x24,x25,_,_,_,_,_,_,_,_,_,_,_,_,_,_,_,rfl,rx24,rx25,P21,P3,hB⟩)
   ·skip
    go_simp;have P29:=ah.new w8 49 (.slice none 0 0) (.slice none 0 0);have nP1P29:=Nat.ne_of_lt P1.lt;have nP2P29:=Nat.ne_of_lt P2.lt;have nP3P29:=Nat.ne_of_lt P3.lt;have gP29:=hB.size;have hb:Below w8.heap.size w8 (w8.alloc (.cells #[.slice none 0 0,.slice none 0 0] 49)):=(Below.refl _ _).alloc lr _;replace P1:=P1.below hb;replace P2:=P2.below hb;replace P3:=P3.below hb;replace ra1:=ra1.below hb;replace rb1:=rb1.below hb;replace ra2:=ra2.below hb;replace rb2:=rb2.below hb;replace rx5:=rx5.below hb;replace hB:=hB.tr hb;clear hb;generalize w8.alloc (.cells #[.slice none 0 0,.slice none 0 0] 49)=w31 at P1 P2 P3 ra1 rb1 ra2 rb2 rx5 P29 hB ⊢;generalize w8.heap.size=B30 at nP1P29 nP2P29 nP3P29 P29 gP29 ⊢;refine hK _ _ ⟨P1,P2,P3⟩ ?_;clear hK K;refine Rd.tm fun K hK=>?_
    have H34:=Hd (eD (.slice b1.a b1.n b1.c) (.slice b2.a b2.n b2.c) (b) (d) w31 rb1 rb2 (Nat.le_trans lb.out A3) (Nat.le_trans ld.out A3));go_simp;refine H34.mono ?_;rintro e w35 ⟨v33,rfl,rx32,hb⟩;clear H34;replace P1:=P1.below hb;replace P2:=P2.below hb;replace P3:=P3.below hb;replace P29:=P29.below hb;replace ra1:=ra1.below hb;replace rb1:=rb1.below hb;replace ra2:=ra2.below hb;replace rb2:=rb2.below hb;replace rx5:=rx5.below hb;replace hB:=hB.tr hb;clear hb;obtain⟨x32,rfl,rx32⟩:=rx32.sl;have HLx32:Hid ((L (b*d)).length≤200):=Hd (aE lb.out ld.out);refine hK _ _ ⟨P1,P2,P3⟩ ?_;clear hK K;refine Rd.tm fun K hK=>?_
    have H38:=Hd (iP (.slice x5.a x5.n x5.c) (.slice x32.a x32.n x32.c) (a*c) (b*d) w35 rx5 rx32 (Nat.le_trans HLx5.out A3) (Nat.le_trans HLx32.out A3) HNE.out);go_simp;refine H38.mono ?_;rintro e w39 ⟨x36,x37,rfl,rx36,rx37,hb⟩;clear H38;replace P1:=P1.below hb;replace P2:=P2.below hb;replace P3:=P3.below hb;replace P29:=P29.below hb;replace ra1:=ra1.below hb;replace rb1:=rb1.below hb;replace ra2:=ra2.below hb;replace rb2:=rb2.below hb;replace rx5:=rx5.below hb;replace rx32:=rx32.below hb;replace hB:=hB.tr hb;clear hb;have HLx36:Hid ((L ((a*c) / Nat.gcd (a*c) (b*d))).length≤200):=Hd (aO HLx5.out);have HLx37:Hid ((L ((b*d) / Nat.gcd (a*c) (b*d))).length≤200):=Hd (aO HLx32.out);refine hK _ _ ⟨P1,P2,P3⟩ ?_;clear hK K;refine Rd.tf (.tuple #[.agg #[.slice x36.a x36.n x36.c,.slice x37.a x37.n x37.c],.int .i64 0]) ?_;refine Rd.tf (.agg #[.slice x36.a x36.n x36.c,.slice x37.a x37.n x37.c]) ?_;refine Rd.tf (.int .i64 0) ?_;refine Rd.tm fun K hK=>?_
    have c0P29:=P29.c0;have c1P29:=P29.c1;have z0P29:=P29.z0;have z1P29:=P29.z1;go_simp;clear c0P29 c1P29 z0P29 z1P29;replace ra1:=ra1.pset P29 (.slice x36.a x36.n x36.c) (.slice x37.a x37.n x37.c);replace rb1:=rb1.pset P29 (.slice x36.a x36.n x36.c) (.slice x37.a x37.n x37.c);replace ra2:=ra2.pset P29 (.slice x36.a x36.n x36.c) (.slice x37.a x37.n x37.c);replace rb2:=rb2.pset P29 (.slice x36.a x36.n x36.c) (.slice x37.a x37.n x37.c);replace rx5:=rx5.pset P29 (.slice x36.a x36.n x36.c) (.slice x37.a x37.n x37.c);replace rx32:=rx32.pset P29 (.slice x36.a x36.n x36.c) (.slice x37.a x37.n x37.c);replace rx36:=rx36.pset P29 (.slice x36.a x36.n x36.c) (.slice x37.a x37.n x37.c);replace rx37:=rx37.pset P29 (.slice x36.a x36.n x36.c) (.slice x37.a x37.n x37.c);replace P1:=P1.other (B:=B30) nP1P29 (.slice x36.a x36.n x36.c) (.slice x37.a x37.n x37.c);replace P2:=P2.other (B:=B30) nP2P29 (.slice x36.a x36.n x36.c) (.slice x37.a x37.n x37.c);replace P3:=P3.other (B:=B30) nP3P29 (.slice x36.a x36.n x36.c) (.slice x37.a x37.n x37.c);replace hB:=Below.pset hB gP29 (.slice x36.a x36.n x36.c) (.slice x37.a x37.n x37.c);replace P29:=P29.set (.slice x36.a x36.n x36.c) (.slice x37.a x37.n x37.c);generalize (w39.setCell ⟨B30,0,none⟩ (.slice x36.a x36.n x36.c)).setCell ⟨B30,1,none⟩ (.slice x37.a x37.n x37.c)=w40 at P1 P2 P3 P29 ra1 rb1 ra2 rb2 rx5 rx32 rx36 rx37 hB ⊢;refine hK _ _ ⟨P1,P2,P3⟩ ?_;clear hK K;refine Rd.tf (.int .i64 0) ?_;exact Rd.tr_end (⟨B30,x36,x37,_,_,_,_,_,_,_,_,_,_,_,_,_,_,_,rfl,rx36,rx37,P29,P3,hB⟩)
  ·skip
   go_simp;have P41:=ah.new w4 49 (.slice none 0 0) (.slice none 0 0);have nP1P41:=Nat.ne_of_lt P1.lt;have nP2P41:=Nat.ne_of_lt P2.lt;have nP3P41:=Nat.ne_of_lt P3.lt;have gP41:=hB.size;have hb:Below w4.heap.size w4 (w4.alloc (.cells #[.slice none 0 0,.slice none 0 0] 49)):=(Below.refl _ _).alloc lr _;replace P1:=P1.below hb;replace P2:=P2.below hb;replace P3:=P3.below hb;replace ra1:=ra1.below hb;replace rb1:=rb1.below hb;replace ra2:=ra2.below hb;replace rb2:=rb2.below hb;replace hB:=hB.tr hb;clear hb;generalize w4.alloc (.cells #[.slice none 0 0,.slice none 0 0] 49)=w43 at P1 P2 P3 ra1 rb1 ra2 rb2 P41 hB ⊢;generalize w4.heap.size=B42 at nP1P41 nP2P41 nP3P41 P41 gP41 ⊢;refine hK _ _ ⟨P1,P2,P3⟩ ?_;clear hK K;refine Rd.tm fun K hK=>?_
   have H46:=Hd (eD (.slice a1.a a1.n a1.c) (.slice a2.a a2.n a2.c) (a) (c) w43 ra1 ra2 (Nat.le_trans la.out A3) (Nat.le_trans lc.out A3));go_simp;refine H46.mono ?_;rintro e w47 ⟨v45,rfl,rx44,hb⟩;clear H46;replace P1:=P1.below hb;replace P2:=P2.below hb;replace P3:=P3.below hb;replace P41:=P41.below hb;replace ra1:=ra1.below hb;replace rb1:=rb1.below hb;replace ra2:=ra2.below hb;replace rb2:=rb2.below hb;replace hB:=hB.tr hb;clear hb;obtain⟨x44,rfl,rx44⟩:=rx44.sl;have HLx44:Hid ((L (a*c)).length≤200):=Hd (aE la.out lc.out);refine hK _ _ ⟨P1,P2,P3⟩ ?_;clear hK K;refine Rd.tm fun K hK=>?_
   have H50:=Hd (eD (.slice b1.a b1.n b1.c) (.slice b2.a b2.n b2.c) (b) (d) w47 rb1 rb2 (Nat.le_trans lb.out A3) (Nat.le_trans ld.out A3));go_simp;refine H50.mono ?_;rintro e w51 ⟨v49,rfl,rx48,hb⟩;clear H50;replace P1:=P1.below hb;replace P2:=P2.below hb;replace P3:=P3.below hb;replace P41:=P41.below hb;replace ra1:=ra1.below hb;replace rb1:=rb1.below hb;replace ra2:=ra2.below hb;replace rb2:=rb2.below hb;replace rx44:=rx44.below hb;replace hB:=hB.tr hb;clear hb;obtain⟨x48,rfl,rx48⟩:=rx48.sl;have HLx48:Hid ((L (b*d)).length≤200):=Hd (aE lb.out ld.out);refine hK _ _ ⟨P1,P2,P3⟩ ?_;clear hK K;refine Rd.tm fun K hK=>?_
   have H54:=Hd (iP (.slice x44.a x44.n x44.c) (.slice x48.a x48.n x48.c) (a*c) (b*d) w51 rx44 rx48 (Nat.le_trans HLx44.out A3) (Nat.le_trans HLx48.out A3) HNE.out);go_simp;refine H54.mono ?_;rintro e w55 ⟨x52,x53,rfl,rx52,rx53,hb⟩;clear H54;replace P1:=P1.below hb;replace P2:=P2.below hb;replace P3:=P3.below hb;replace P41:=P41.below hb;replace ra1:=ra1.below hb;replace rb1:=rb1.below hb;replace ra2:=ra2.below hb;replace rb2:=rb2.below hb;replace rx44:=rx44.below hb;replace rx48:=rx48.below hb;replace hB:=hB.tr hb;clear hb;have HLx52:Hid ((L ((a*c) / Nat.gcd (a*c) (b*d))).length≤200):=Hd (aO HLx44.out);have HLx53:Hid ((L ((b*d) / Nat.gcd (a*c) (b*d))).length≤200):=Hd (aO HLx48.out);refine hK _ _ ⟨P1,P2,P3⟩ ?_;clear hK K;refine Rd.tf (.tuple #[.agg #[.slice x52.a x52.n x52.c,.slice x53.a x53.n x53.c],.int .i64 0]) ?_;refine Rd.tf (.agg #[.slice x52.a x52.n x52.c,.slice x53.a x53.n x53.c]) ?_;refine Rd.tf (.int .i64 0) ?_;refine Rd.tm fun K hK=>?_
   have c0P41:=P41.c0;have c1P41:=P41.c1;have z0P41:=P41.z0;have z1P41:=P41.z1;go_simp;clear c0P41 c1P41 z0P41 z1P41;replace ra1:=ra1.pset P41 (.slice x52.a x52.n x52.c) (.slice x53.a x53.n x53.c);replace rb1:=rb1.pset P41 (.slice x52.a x52.n x52.c) (.slice x53.a x53.n x53.c);replace ra2:=ra2.pset P41 (.slice x52.a x52.n x52.c) (.slice x53.a x53.n x53.c);replace rb2:=rb2.pset P41 (.slice x52.a x52.n x52.c) (.slice x53.a x53.n x53.c);replace rx44:=rx44.pset P41 (.slice x52.a x52.n x52.c) (.slice x53.a x53.n x53.c);replace rx48:=rx48.pset P41 (.slice x52.a x52.n x52.c) (.slice x53.a x53.n x53.c);replace rx52:=rx52.pset P41 (.slice x52.a x52.n x52.c) (.slice x53.a x53.n x53.c);replace rx53:=rx53.pset P41 (.slice x52.a x52.n x52.c) (.slice x53.a x53.n x53.c);replace P1:=P1.other (B:=B42) nP1P41 (.slice x52.a x52.n x52.c) (.slice x53.a x53.n x53.c);replace P2:=P2.other (B:=B42) nP2P41 (.slice x52.a x52.n x52.c) (.slice x53.a x53.n x53.c);replace P3:=P3.other (B:=B42) nP3P41 (.slice x52.a x52.n x52.c) (.slice x53.a x53.n x53.c);replace hB:=Below.pset hB gP41 (.slice x52.a x52.n x52.c) (.slice x53.a x53.n x53.c);replace P41:=P41.set (.slice x52.a x52.n x52.c) (.slice x53.a x53.n x53.c);generalize (w55.setCell ⟨B42,0,none⟩ (.slice x52.a x52.n x52.c)).setCell ⟨B42,1,none⟩ (.slice x53.a x53.n x53.c)=w56 at P1 P2 P3 P41 ra1 rb1 ra2 rb2 rx44 rx48 rx52 rx53 hB ⊢;refine hK _ _ ⟨P1,P2,P3⟩ ?_;clear hK K;refine Rd.tf (.int .i64 0) ?_;exact Rd.tr_end (⟨B42,x52,x53,_,_,_,_,_,_,_,_,_,_,_,_,_,_,_,rfl,rx52,rx53,P41,P3,hB⟩)
 case next=>
  rintro a3 W ⟨BB,p,q,_,_,_,_,_,_,_,_,_,_,_,_,_,_,_,rfl,rp,rq,PB,PR,hB⟩;have c0:=PB.c0;have c1:=PB.c1;have e0:=PR.c0;have e1:=PR.c1;have z0:=PR.z0;have z1:=PR.z1
  go_wp2_with fail
  replace rp:=rp.pset PR (.slice p.a p.n p.c) (.slice q.a q.n q.c);replace rq:=rq.pset PR (.slice p.a p.n p.c) (.slice q.a q.n q.c);replace hB:=Below.pset hB (by omega:w.heap.size≤w.heap.size+1+1) (.slice p.a p.n p.c) (.slice q.a q.n q.c);have PRx:=PR.set (.slice p.a p.n p.c) (.slice q.a q.n q.c);generalize (W.setCell ⟨w.heap.size+1+1,0,none⟩ (.slice p.a p.n p.c)).setCell ⟨w.heap.size+1+1,1,none⟩ (.slice q.a q.n q.c)=WW at rp rq PRx hB ⊢;refine bodyPost_ret (v:=.agg #[.slice p.a p.n p.c,.slice q.a q.n q.c]) ?_ rfl (⟨p,q,rfl,rp,rq,hB⟩);simp[results,Tryz.f21,go_sem,PRx.c0,PRx.c1]
theorem vf (n:Nat) (hn:Hid (n<9223372036854775808)) (w:World):
  Calls Tryz.prog 18 #[.int .i64 (n:Int)] w fun e w'=>∃p q:Sl,e= .returned (.agg #[.slice p.a p.n p.c,.slice q.a q.n q.c])∧RU w' p n∧RU w' q 1∧Below w.heap.size w w':=by
 have hwr:IntKind.u64.wrap (n:Int)=(n:Int):=by have:=hn.out;exact wrap_u64 n A3
 go_enter Tryz.func18,Tryz.ntmps18;have hb:Below w.heap.size w (w.alloc (.cells #[.slice none 0 0,.slice none 0 0] 49)):=((Below.refl _ _).alloc lr _)
 have hB:=hb;have P1:ah (w.alloc (.cells #[.slice none 0 0,.slice none 0 0] 49)) (w.heap.size) 49 (.slice none 0 0) (.slice none 0 0):=by
  have h:=ah.new w 49 (.slice none 0 0) (.slice none 0 0);exact zQ
 clear hb;have c0P1:=P1.c0;have c1P1:=P1.c1;have H4:=Hd (jJ n (w.alloc (.cells #[.slice none 0 0,.slice none 0 0] 49)) (Nat.lt_trans hn.out A3))
 go_wp2_with fail
 clear c0P1 c1P1;refine H4.mono ?_;rintro e w5 ⟨v3,rfl,rx2,hb⟩;clear H4;replace P1:=P1.below hb;replace hB:=hB.tr hb;clear hb;obtain⟨x2,rfl,rx2⟩:=rx2.sl;have HLx2:Hid ((L (n)).length≤1):=Hd (fr n (Nat.lt_trans hn.out A3));have c0P1:=P1.c0;have c1P1:=P1.c1;have H8:=Hd (jJ (1) w5 A3)
 go_wp2_with fail
 clear c0P1 c1P1;refine H8.mono ?_;rintro e w9 ⟨v7,rfl,rx6,hb⟩;clear H8;replace P1:=P1.below hb;replace rx2:=rx2.below hb;replace hB:=hB.tr hb;clear hb;obtain⟨x6,rfl,rx6⟩:=rx6.sl;have HLx6:Hid ((L (1)).length≤1):=Hd (fr (1) A3);have c0P1:=P1.c0;have c1P1:=P1.c1;have z0P1:=P1.z0;have z1P1:=P1.z1
 go_wp2_with fail
 replace rx2:=rx2.pset P1 (.slice x2.a x2.n x2.c) (.slice x6.a x6.n x6.c);replace rx6:=rx6.pset P1 (.slice x2.a x2.n x2.c) (.slice x6.a x6.n x6.c);replace hB:=Below.pset hB (by omega:w.heap.size≤w.heap.size) (.slice x2.a x2.n x2.c) (.slice x6.a x6.n x6.c);have P1x:=P1.set (.slice x2.a x2.n x2.c) (.slice x6.a x6.n x6.c);generalize (w9.setCell ⟨w.heap.size,0,none⟩ (.slice x2.a x2.n x2.c)).setCell ⟨w.heap.size,1,none⟩ (.slice x6.a x6.n x6.c)=WW at rx2 rx6 P1x hB ⊢;refine bodyPost_ret (v:=.agg #[.slice x2.a x2.n x2.c,.slice x6.a x6.n x6.c]) ?_ rfl (⟨x2,x6,rfl,rx2,rx6,hB⟩);simp[results,Tryz.f18,go_sem,P1x.c0,P1x.c1]
section
variable (v1 v2:Value) (a b:Nat) (w:World)
theorem pi (h1:Row w v1 (D a)) (h2:Row w v2 (D b)) (l1:(L a).length≤1000) (l2:(L b).length≤1000) (hb:b≠0):
  Calls Tryz.prog 143 #[v1,v2] w fun e w'=>∃q r,e= .returned (.tuple #[q,r])∧Row w' q (D (a / b))∧Row w' r (D (a % b))∧Below w.heap.size w w':=rE v1 v2 a b w h1 h2 BA (by have:=f8 b;omega) hb
theorem uj (h1:Row w v1 (D a)) (h2:Row w v2 (D b)) (l1:(L a).length≤1000) (l2:(L b).length≤1000):
  Calls Tryz.prog 142 #[v1,v2] w fun e w'=>∃v,e= .returned v∧Row w' v (D (Nat.gcd a b))∧Below w.heap.size w w':=xE v1 v2 a b w h1 h2 BA (by have:=f8 b;omega)
theorem ww (h1:Row w v1 (D a)) (h2:Row w v2 (D b)) (l1:(L a).length≤1000) (hab:b≤a):
  Calls Tryz.prog 128 #[v1,v2] w fun e w'=>∃v,e= .returned v∧Row w' v (D (a - b))∧Below w.heap.size w w':=rU v1 v2 a b w h1 h2 BA hab
theorem ui (h1:Row w v1 (D a)) (h2:Row w v2 (D b)) (l1:(L a).length≤1000) (l2:(L b).length≤1000):
  Calls Tryz.prog 68 #[v1,v2] w fun e w'=>e= .returned (.int .i64 (bJ a b))∧Below w.heap.size w w':=nj v1 v2 a b w h1 h2 BA (by have:=f8 b;omega)
end
theorem jQ (a1 b1:Sl) (a b:Nat) (w:World) (ra1:RD w a1 a) (rb1:RD w b1 b) (la:Hid ((L a).length≤500)) (lb:Hid ((L b).length≤500)) (HNE:Hid (b≠0)):
  Calls Tryz.prog 127 #[.slice a1.a a1.n a1.c,.slice b1.a b1.n b1.c] w fun e w'=>∃p q:Sl,e= .returned (.agg #[.slice p.a p.n p.c,.slice q.a q.n q.c])∧RD w' p (a / Nat.gcd a b)∧RD w' q (b / Nat.gcd a b)∧Below w.heap.size w w':=by
 have HG:Hid (Nat.gcd a b≠0):=Hd (fun e=>HNE.out (Nat.eq_zero_of_gcd_eq_zero_right e));go_enter Tryz.func127,Tryz.ntmps127;have hb:Below w.heap.size w (w.alloc (.cells #[.slice none 0 0,.slice none 0 0] 53)):=((Below.refl _ _).alloc lr _)
 replace ra1:=ra1.below hb;replace rb1:=rb1.below hb;have hB:=hb;have P1:ah (w.alloc (.cells #[.slice none 0 0,.slice none 0 0] 53)) (w.heap.size) 53 (.slice none 0 0) (.slice none 0 0):=by
  have h:=ah.new w 53 (.slice none 0 0) (.slice none 0 0);exact zQ
 clear hb;have c0P1:=P1.c0;have c1P1:=P1.c1;have H4:=Hd (uj (.slice a1.a a1.n a1.c) (.slice b1.a b1.n b1.c) (a) (b) (w.alloc (.cells #[.slice none 0 0,.slice none 0 0] 53)) ra1 rb1 (Nat.le_trans la.out A3) (Nat.le_trans lb.out A3))
 go_wp2_with fail
 clear c0P1 c1P1;refine H4.mono ?_;rintro e w5 ⟨v3,rfl,rx2,hb⟩;clear H4;replace P1:=P1.below hb;replace ra1:=ra1.below hb;replace rb1:=rb1.below hb;replace hB:=hB.tr hb;clear hb;obtain⟨x2,rfl,rx2⟩:=rx2.sl;have HLx2:Hid ((L (Nat.gcd a b)).length≤500):=Hd (rG a HNE.out lb.out);have c0P1:=P1.c0;have c1P1:=P1.c1;have H9:=Hd (pi (.slice a1.a a1.n a1.c) (.slice x2.a x2.n x2.c) (a) (Nat.gcd a b) w5 ra1 rx2 (Nat.le_trans la.out A3) (Nat.le_trans HLx2.out A3) HG.out)
 go_wp2_with fail
 clear c0P1 c1P1;refine H9.mono ?_;rintro e w10 ⟨v7,v8,rfl,rx6,-,hb⟩;clear H9;replace P1:=P1.below hb;replace ra1:=ra1.below hb;replace rb1:=rb1.below hb;replace rx2:=rx2.below hb;replace hB:=hB.tr hb;clear hb;obtain⟨x6,rfl,rx6⟩:=rx6.sl;have HLx6:Hid ((L (a / (Nat.gcd a b))).length≤500):=Hd (aO la.out);have c0P1:=P1.c0;have c1P1:=P1.c1;have H14:=Hd (pi (.slice b1.a b1.n b1.c) (.slice x2.a x2.n x2.c) (b) (Nat.gcd a b) w10 rb1 rx2 (Nat.le_trans lb.out A3) (Nat.le_trans HLx2.out A3) HG.out)
 go_wp2_with fail
 clear c0P1 c1P1;refine H14.mono ?_;rintro e w15 ⟨v12,v13,rfl,rx11,-,hb⟩;clear H14;replace P1:=P1.below hb;replace ra1:=ra1.below hb;replace rb1:=rb1.below hb;replace rx2:=rx2.below hb;replace rx6:=rx6.below hb;replace hB:=hB.tr hb;clear hb;obtain⟨x11,rfl,rx11⟩:=rx11.sl;have HLx11:Hid ((L (b / (Nat.gcd a b))).length≤500):=Hd (aO lb.out);have c0P1:=P1.c0;have c1P1:=P1.c1;have z0P1:=P1.z0;have z1P1:=P1.z1
 go_wp2_with fail
 replace ra1:=ra1.pset P1 (.slice x6.a x6.n x6.c) (.slice x11.a x11.n x11.c);replace rb1:=rb1.pset P1 (.slice x6.a x6.n x6.c) (.slice x11.a x11.n x11.c);replace rx2:=rx2.pset P1 (.slice x6.a x6.n x6.c) (.slice x11.a x11.n x11.c);replace rx6:=rx6.pset P1 (.slice x6.a x6.n x6.c) (.slice x11.a x11.n x11.c);replace rx11:=rx11.pset P1 (.slice x6.a x6.n x6.c) (.slice x11.a x11.n x11.c);replace hB:=Below.pset hB (by omega:w.heap.size≤w.heap.size) (.slice x6.a x6.n x6.c) (.slice x11.a x11.n x11.c);have P1x:=P1.set (.slice x6.a x6.n x6.c) (.slice x11.a x11.n x11.c);generalize (w15.setCell ⟨w.heap.size,0,none⟩ (.slice x6.a x6.n x6.c)).setCell ⟨w.heap.size,1,none⟩ (.slice x11.a x11.n x11.c)=WW at ra1 rb1 rx2 rx6 rx11 P1x hB ⊢;refine bodyPost_ret (v:=.agg #[.slice x6.a x6.n x6.c,.slice x11.a x11.n x11.c]) ?_ rfl (⟨x6,x11,rfl,rx6,rx11,hB⟩);simp[results,Tryz.f127,go_sem,P1x.c0,P1x.c1]
theorem xm (a1 b1 a2 b2:Sl) (a b:Nat) (w:World) (ra1:RU w a1 a) (rb1:RU w b1 b) (ra2:RD w a2 a) (rb2:RD w b2 b) (la:Hid ((L a).length≤500)) (lb:Hid ((L b).length≤500)):
  Calls Tryz.prog 15 #[.agg #[.slice a1.a a1.n a1.c,.slice b1.a b1.n b1.c],.agg #[.slice a2.a a2.n a2.c,.slice b2.a b2.n b2.c]] w fun e w'=>e= .returned (.bool true)∧Below w.heap.size w w':=by
 go_enter Tryz.func15,Tryz.ntmps15;have hb:Below w.heap.size w ((w.alloc (.cells #[.slice a1.a a1.n a1.c,.slice b1.a b1.n b1.c] 49)).alloc (.cells #[.slice a2.a a2.n a2.c,.slice b2.a b2.n b2.c] 53)):=(((Below.refl _ _).alloc lr _).alloc B4 _)
 replace ra1:=ra1.below hb;replace rb1:=rb1.below hb;replace ra2:=ra2.below hb;replace rb2:=rb2.below hb;have hB:=hb;have P1:ah ((w.alloc (.cells #[.slice a1.a a1.n a1.c,.slice b1.a b1.n b1.c] 49)).alloc (.cells #[.slice a2.a a2.n a2.c,.slice b2.a b2.n b2.c] 53)) (w.heap.size) 49 (.slice a1.a a1.n a1.c) (.slice b1.a b1.n b1.c):=by
  have h:=(ah.new w 49 (.slice a1.a a1.n a1.c) (.slice b1.a b1.n b1.c)).alloc (.cells #[.slice a2.a a2.n a2.c,.slice b2.a b2.n b2.c] 53);exact zQ
 have P2:ah ((w.alloc (.cells #[.slice a1.a a1.n a1.c,.slice b1.a b1.n b1.c] 49)).alloc (.cells #[.slice a2.a a2.n a2.c,.slice b2.a b2.n b2.c] 53)) (w.heap.size+1) 53 (.slice a2.a a2.n a2.c) (.slice b2.a b2.n b2.c):=by
  have h:=ah.new (w.alloc (.cells #[.slice a1.a a1.n a1.c,.slice b1.a b1.n b1.c] 49)) 53 (.slice a2.a a2.n a2.c) (.slice b2.a b2.n b2.c);exact zQ
 clear hb;have c0P1:=P1.c0;have c1P1:=P1.c1;have c0P2:=P2.c0;have c1P2:=P2.c1;have H3:=Hd (rz (.slice a1.a a1.n a1.c) (.slice a2.a a2.n a2.c) (a) ((w.alloc (.cells #[.slice a1.a a1.n a1.c,.slice b1.a b1.n b1.c] 49)).alloc (.cells #[.slice a2.a a2.n a2.c,.slice b2.a b2.n b2.c] 53)) ra1 ra2 (Nat.le_trans la.out A3))
 go_wp2_with fail
 clear c0P1 c1P1 c0P2 c1P2;refine H3.mono ?_;rintro e w4 ⟨rfl,hb⟩;clear H3;replace P1:=P1.below hb;replace P2:=P2.below hb;replace ra1:=ra1.below hb;replace rb1:=rb1.below hb;replace ra2:=ra2.below hb;replace rb2:=rb2.below hb;replace hB:=hB.tr hb;clear hb;have c0P1:=P1.c0;have c1P1:=P1.c1;have c0P2:=P2.c0;have c1P2:=P2.c1;have H5:=Hd (rz (.slice b1.a b1.n b1.c) (.slice b2.a b2.n b2.c) (b) w4 rb1 rb2 (Nat.le_trans lb.out A3))
 go_wp2_with fail
 clear c0P1 c1P1 c0P2 c1P2;refine H5.mono ?_;rintro e w6 ⟨rfl,hb⟩;clear H5;replace P1:=P1.below hb;replace P2:=P2.below hb;replace ra1:=ra1.below hb;replace rb1:=rb1.below hb;replace ra2:=ra2.below hb;replace rb2:=rb2.below hb;replace hB:=hB.tr hb;clear hb
 go_wp2_with fail
 go_ret;exact⟨rfl,hB⟩
theorem sR (a1 b1 a2 b2:Sl) (a b c d:Nat) (w:World) (ra1:RD w a1 a) (rb1:RD w b1 b) (ra2:RD w a2 c) (rb2:RD w b2 d) (la:Hid ((L a).length≤100)) (lb:Hid ((L b).length≤100)) (lc:Hid ((L c).length≤100)) (ld:Hid ((L d).length≤100)):
  Calls Tryz.prog 102 #[.agg #[.slice a1.a a1.n a1.c,.slice b1.a b1.n b1.c],.agg #[.slice a2.a a2.n a2.c,.slice b2.a b2.n b2.c]] w fun e w'=>e= .returned (.int .i64 (bJ (a*d) (c*b)))∧Below w.heap.size w w':=by
 go_enter Tryz.func102,Tryz.ntmps102;have hb:Below w.heap.size w ((w.alloc (.cells #[.slice a1.a a1.n a1.c,.slice b1.a b1.n b1.c] 53)).alloc (.cells #[.slice a2.a a2.n a2.c,.slice b2.a b2.n b2.c] 53)):=(((Below.refl _ _).alloc lr _).alloc B4 _)
 replace ra1:=ra1.below hb;replace rb1:=rb1.below hb;replace ra2:=ra2.below hb;replace rb2:=rb2.below hb;have hB:=hb;have P1:ah ((w.alloc (.cells #[.slice a1.a a1.n a1.c,.slice b1.a b1.n b1.c] 53)).alloc (.cells #[.slice a2.a a2.n a2.c,.slice b2.a b2.n b2.c] 53)) (w.heap.size) 53 (.slice a1.a a1.n a1.c) (.slice b1.a b1.n b1.c):=by
  have h:=(ah.new w 53 (.slice a1.a a1.n a1.c) (.slice b1.a b1.n b1.c)).alloc (.cells #[.slice a2.a a2.n a2.c,.slice b2.a b2.n b2.c] 53);exact zQ
 have P2:ah ((w.alloc (.cells #[.slice a1.a a1.n a1.c,.slice b1.a b1.n b1.c] 53)).alloc (.cells #[.slice a2.a a2.n a2.c,.slice b2.a b2.n b2.c] 53)) (w.heap.size+1) 53 (.slice a2.a a2.n a2.c) (.slice b2.a b2.n b2.c):=by
  have h:=ah.new (w.alloc (.cells #[.slice a1.a a1.n a1.c,.slice b1.a b1.n b1.c] 53)) 53 (.slice a2.a a2.n a2.c) (.slice b2.a b2.n b2.c);exact zQ
 clear hb;have c0P1:=P1.c0;have c1P1:=P1.c1;have c0P2:=P2.c0;have c1P2:=P2.c1
 go_wp2_with fail
 clear c0P1 c1P1 c0P2 c1P2;have hb:Below ((w.alloc (.cells #[.slice a1.a a1.n a1.c,.slice b1.a b1.n b1.c] 53)).alloc (.cells #[.slice a2.a a2.n a2.c,.slice b2.a b2.n b2.c] 53)).heap.size ((w.alloc (.cells #[.slice a1.a a1.n a1.c,.slice b1.a b1.n b1.c] 53)).alloc (.cells #[.slice a2.a a2.n a2.c,.slice b2.a b2.n b2.c] 53)) ((w.alloc (.cells #[.slice a1.a a1.n a1.c,.slice b1.a b1.n b1.c] 53)).alloc (.cells #[.slice a2.a a2.n a2.c,.slice b2.a b2.n b2.c] 53)).drew:=(Below.refl _ _).drew;replace P1:=P1.below hb;replace P2:=P2.below hb;replace ra1:=ra1.below hb;replace rb1:=rb1.below hb;replace ra2:=ra2.below hb;replace rb2:=rb2.below hb;replace hB:=hB.tr hb;clear hb;refine Rd.regionT (fun X=>ah X (w.heap.size) 53 (.slice a1.a a1.n a1.c) (.slice b1.a b1.n b1.c)∧ah X (w.heap.size+1) 53 (.slice a2.a a2.n a2.c) (.slice b2.a b2.n b2.c)) [0,1,2,3,5,6,7,8,11] (.one 0 (.one 1 (.one 2 (.one 3 (.one 5 (.one 6 (.one 7 (.one 8 (.one 4 (.one 9 (.one 10 (.one 11 .done)))))))))))) (fun ac W=>∃(y2 y3 y5 y6 y7 y8 y9 y10 y11 y12 y13 y14 y15:Value),ac={ tmps:=List.toArray (.agg #[.slice a1.a a1.n a1.c,.slice b1.a b1.n b1.c]:: .agg #[.slice a2.a a2.n a2.c,.slice b2.a b2.n b2.c]::y2::y3:: .int .i64 (bJ (a*d) (c*b))::y5::y6::y7::y8::y9::y10::y11::y12::y13::y14::y15::[]),defers:=[] }∧Below w.heap.size w W) Cx Cx Cx ⟨P1,P2⟩ ?tree ?next
 case tree=>
  generalize ((w.alloc (.cells #[.slice a1.a a1.n a1.c,.slice b1.a b1.n b1.c] 53)).alloc (.cells #[.slice a2.a a2.n a2.c,.slice b2.a b2.n b2.c] 53)).drew=w3 at P1 P2 ra1 rb1 ra2 rb2 hB ⊢;refine Rd.tf (.pointer (some ⟨w.heap.size,0,none⟩)) ?_;refine Rd.tg (.slice a1.a a1.n a1.c) ?_ (y:=fun X hX=>A5);refine Rd.tf (.pointer (some ⟨w.heap.size+1,1,none⟩)) ?_;refine Rd.tg (.slice b2.a b2.n b2.c) ?_ (y:=fun X hX=>B5);refine Rd.tf (.pointer (some ⟨w.heap.size+1,0,none⟩)) ?_;refine Rd.tg (.slice a2.a a2.n a2.c) ?_ (y:=fun X hX=>B5);refine Rd.tf (.pointer (some ⟨w.heap.size,1,none⟩)) ?_;refine Rd.tg (.slice b1.a b1.n b1.c) ?_ (y:=fun X hX=>A5);refine Rd.tm fun K hK=>?_
  have H6:=Hd (cJ (.slice a1.a a1.n a1.c) (.slice b2.a b2.n b2.c) (a) (d) w3 ra1 rb2 (Nat.le_trans la.out A3) (Nat.le_trans ld.out A3));go_simp;refine H6.mono ?_;rintro e w7 ⟨v5,rfl,rx4,hb⟩;clear H6;replace P1:=P1.below hb;replace P2:=P2.below hb;replace ra1:=ra1.below hb;replace rb1:=rb1.below hb;replace ra2:=ra2.below hb;replace rb2:=rb2.below hb;replace hB:=hB.tr hb;clear hb;obtain⟨x4,rfl,rx4⟩:=rx4.sl;have HLx4:Hid ((L (a*d)).length≤200):=Hd (aE la.out ld.out);refine hK _ _ ⟨P1,P2⟩ ?_;clear hK K;refine Rd.tm fun K hK=>?_
  have H10:=Hd (cJ (.slice a2.a a2.n a2.c) (.slice b1.a b1.n b1.c) (c) (b) w7 ra2 rb1 (Nat.le_trans lc.out A3) (Nat.le_trans lb.out A3));go_simp;refine H10.mono ?_;rintro e w11 ⟨v9,rfl,rx8,hb⟩;clear H10;replace P1:=P1.below hb;replace P2:=P2.below hb;replace ra1:=ra1.below hb;replace rb1:=rb1.below hb;replace ra2:=ra2.below hb;replace rb2:=rb2.below hb;replace rx4:=rx4.below hb;replace hB:=hB.tr hb;clear hb;obtain⟨x8,rfl,rx8⟩:=rx8.sl;have HLx8:Hid ((L (c*b)).length≤200):=Hd (aE lc.out lb.out);refine hK _ _ ⟨P1,P2⟩ ?_;clear hK K;refine Rd.tm fun K hK=>?_
  have H12:=Hd (ui (.slice x4.a x4.n x4.c) (.slice x8.a x8.n x8.c) (a*d) (c*b) w11 rx4 rx8 (Nat.le_trans HLx4.out A3) (Nat.le_trans HLx8.out A3));go_simp;refine H12.mono ?_;rintro e w13 ⟨rfl,hb⟩;clear H12;replace P1:=P1.below hb;replace P2:=P2.below hb;replace ra1:=ra1.below hb;replace rb1:=rb1.below hb;replace ra2:=ra2.below hb;replace rb2:=rb2.below hb;replace rx4:=rx4.below hb;replace rx8:=rx8.below hb;replace hB:=hB.tr hb;clear hb;refine hK _ _ ⟨P1,P2⟩ ?_;clear hK K;refine Rd.tf (.int .i64 (bJ (a*d) (c*b))) ?_;exact Rd.tr_end (⟨_,_,_,_,_,_,_,_,_,_,_,_,_,rfl,hB⟩)
 case next=>
  rintro a3 W ⟨_,_,_,_,_,_,_,_,_,_,_,_,_,rfl,hB⟩
  go_wp2_with fail
  go_ret;exact⟨rfl,hB⟩
theorem zR {p:Prop} (h:p:=by have c0P3:=P3.c0;have c1P3:=P3.c1;have z0P3:=P3.z0;have z1P3:=P3.z1;go_simp;clear c0P3 c1P3 z0P3 z1P3;replace ra1:=ra1.pset P3 (.slice x21.a x21.n x21.c) (.slice x22.a x22.n x22.c);replace rb1:=rb1.pset P3 (.slice x21.a x21.n x21.c) (.slice x22.a x22.n x22.c);replace ra2:=ra2.pset P3 (.slice x21.a x21.n x21.c) (.slice x22.a x22.n x22.c);replace rb2:=rb2.pset P3 (.slice x21.a x21.n x21.c) (.slice x22.a x22.n x22.c);replace rx5:=rx5.pset P3 (.slice x21.a x21.n x21.c) (.slice x22.a x22.n x22.c);replace rx9:=rx9.pset P3 (.slice x21.a x21.n x21.c) (.slice x22.a x22.n x22.c);replace rx13:=rx13.pset P3 (.slice x21.a x21.n x21.c) (.slice x22.a x22.n x22.c);replace rx17:=rx17.pset P3 (.slice x21.a x21.n x21.c) (.slice x22.a x22.n x22.c);replace rx21:=rx21.pset P3 (.slice x21.a x21.n x21.c) (.slice x22.a x22.n x22.c);replace rx22:=rx22.pset P3 (.slice x21.a x21.n x21.c) (.slice x22.a x22.n x22.c);replace P1:=P1.other (B:=w.heap.size+1+1) (by omega) (.slice x21.a x21.n x21.c) (.slice x22.a x22.n x22.c);replace P2:=P2.other (B:=w.heap.size+1+1) (by omega) (.slice x21.a x21.n x21.c) (.slice x22.a x22.n x22.c);replace hB:=Below.pset (B:=w.heap.size+1+1) hB (by omega) (.slice x21.a x21.n x21.c) (.slice x22.a x22.n x22.c);replace P3:=P3.set (.slice x21.a x21.n x21.c) (.slice x22.a x22.n x22.c);generalize (w24.setCell ⟨w.heap.size+1+1,0,none⟩ (.slice x21.a x21.n x21.c)).setCell ⟨w.heap.size+1+1,1,none⟩ (.slice x22.a x22.n x22.c)=w25 at P1 P2 P3 ra1 rb1 ra2 rb2 rx5 rx9 rx13 rx17 rx21 rx22 hB ⊢;refine hK _ _ ⟨P1,P2⟩ ?_;clear hK K;exact Rd.tr_end (⟨x21,x22,_,_,_,_,_,_,_,_,_,_,_,_,_,_,_,_,_,rfl,rx21,rx22,P3,hB⟩)):p:=h
theorem sD (a1 b1 a2 b2:Sl) (a b c d:Nat) (w:World) (ra1:RD w a1 a) (rb1:RD w b1 b) (ra2:RD w a2 c) (rb2:RD w b2 d) (la:Hid ((L a).length≤100)) (lb:Hid ((L b).length≤100)) (lc:Hid ((L c).length≤100)) (ld:Hid ((L d).length≤100)) (HNE:Hid (b*d≠0)):
  Calls Tryz.prog 106 #[.agg #[.slice a1.a a1.n a1.c,.slice b1.a b1.n b1.c],.agg #[.slice a2.a a2.n a2.c,.slice b2.a b2.n b2.c]] w fun e w'=>∃p q:Sl,e= .returned (.agg #[.slice p.a p.n p.c,.slice q.a q.n q.c])∧RD w' p (((a*d)+(c*b)) / Nat.gcd ((a*d)+(c*b)) (b*d))∧RD w' q ((b*d) / Nat.gcd ((a*d)+(c*b)) (b*d))∧Below w.heap.size w w':=by
 go_enter Tryz.func106,Tryz.ntmps106;have hb:Below w.heap.size w (((w.alloc (.cells #[.slice a1.a a1.n a1.c,.slice b1.a b1.n b1.c] 53)).alloc (.cells #[.slice a2.a a2.n a2.c,.slice b2.a b2.n b2.c] 53)).alloc (.cells #[.slice none 0 0,.slice none 0 0] 53)):=((((Below.refl _ _).alloc lr _).alloc B4 _).alloc Cq _)
 replace ra1:=ra1.below hb;replace rb1:=rb1.below hb;replace ra2:=ra2.below hb;replace rb2:=rb2.below hb;have hB:=hb;have P1:ah (((w.alloc (.cells #[.slice a1.a a1.n a1.c,.slice b1.a b1.n b1.c] 53)).alloc (.cells #[.slice a2.a a2.n a2.c,.slice b2.a b2.n b2.c] 53)).alloc (.cells #[.slice none 0 0,.slice none 0 0] 53)) (w.heap.size) 53 (.slice a1.a a1.n a1.c) (.slice b1.a b1.n b1.c):=by
  have h:=((ah.new w 53 (.slice a1.a a1.n a1.c) (.slice b1.a b1.n b1.c)).alloc (.cells #[.slice a2.a a2.n a2.c,.slice b2.a b2.n b2.c] 53)).alloc (.cells #[.slice none 0 0,.slice none 0 0] 53);exact zQ
 have P2:ah (((w.alloc (.cells #[.slice a1.a a1.n a1.c,.slice b1.a b1.n b1.c] 53)).alloc (.cells #[.slice a2.a a2.n a2.c,.slice b2.a b2.n b2.c] 53)).alloc (.cells #[.slice none 0 0,.slice none 0 0] 53)) (w.heap.size+1) 53 (.slice a2.a a2.n a2.c) (.slice b2.a b2.n b2.c):=by
  have h:=(ah.new (w.alloc (.cells #[.slice a1.a a1.n a1.c,.slice b1.a b1.n b1.c] 53)) 53 (.slice a2.a a2.n a2.c) (.slice b2.a b2.n b2.c)).alloc (.cells #[.slice none 0 0,.slice none 0 0] 53);exact zQ
 have P3:ah (((w.alloc (.cells #[.slice a1.a a1.n a1.c,.slice b1.a b1.n b1.c] 53)).alloc (.cells #[.slice a2.a a2.n a2.c,.slice b2.a b2.n b2.c] 53)).alloc (.cells #[.slice none 0 0,.slice none 0 0] 53)) (w.heap.size+1+1) 53 (.slice none 0 0) (.slice none 0 0):=by
  have h:=ah.new ((w.alloc (.cells #[.slice a1.a a1.n a1.c,.slice b1.a b1.n b1.c] 53)).alloc (.cells #[.slice a2.a a2.n a2.c,.slice b2.a b2.n b2.c] 53)) 53 (.slice none 0 0) (.slice none 0 0);exact zQ
 clear hb;have c0P1:=P1.c0;have c1P1:=P1.c1;have c0P2:=P2.c0;have c1P2:=P2.c1;have c0P3:=P3.c0;have c1P3:=P3.c1
 go_wp2_with fail
 clear c0P1 c1P1 c0P2 c1P2 c0P3 c1P3;have hb:Below (((w.alloc (.cells #[.slice a1.a a1.n a1.c,.slice b1.a b1.n b1.c] 53)).alloc (.cells #[.slice a2.a a2.n a2.c,.slice b2.a b2.n b2.c] 53)).alloc (.cells #[.slice none 0 0,.slice none 0 0] 53)).heap.size (((w.alloc (.cells #[.slice a1.a a1.n a1.c,.slice b1.a b1.n b1.c] 53)).alloc (.cells #[.slice a2.a a2.n a2.c,.slice b2.a b2.n b2.c] 53)).alloc (.cells #[.slice none 0 0,.slice none 0 0] 53)) (((w.alloc (.cells #[.slice a1.a a1.n a1.c,.slice b1.a b1.n b1.c] 53)).alloc (.cells #[.slice a2.a a2.n a2.c,.slice b2.a b2.n b2.c] 53)).alloc (.cells #[.slice none 0 0,.slice none 0 0] 53)).drew:=(Below.refl _ _).drew;replace P1:=P1.below hb;replace P2:=P2.below hb;replace P3:=P3.below hb;replace ra1:=ra1.below hb;replace rb1:=rb1.below hb;replace ra2:=ra2.below hb;replace rb2:=rb2.below hb;replace hB:=hB.tr hb;clear hb;refine Rd.regionT (fun X=>ah X (w.heap.size) 53 (.slice a1.a a1.n a1.c) (.slice b1.a b1.n b1.c)∧ah X (w.heap.size+1) 53 (.slice a2.a a2.n a2.c) (.slice b2.a b2.n b2.c)) [0,1,2,3,5,6,7,8,11,12,13,14] (.one 0 (.one 1 (.one 2 (.one 3 (.one 5 (.one 6 (.one 7 (.one 8 (.one 11 (.one 12 (.one 13 (.one 14 (.one 4 (.one 9 (.one 10 (.one 15 (.one 16 (.one 17 .done)))))))))))))))))) (fun ac W=>∃(p:Sl) (q:Sl) (y5 y6 y7 y8 y9 y10 y11 y12 y13 y14 y15 y16 y17 y18 y19 y20 y21:Value),ac={ tmps:=List.toArray (.agg #[.slice a1.a a1.n a1.c,.slice b1.a b1.n b1.c]:: .agg #[.slice a2.a a2.n a2.c,.slice b2.a b2.n b2.c]:: .pointer (some ⟨w.heap.size,0,none⟩):: .pointer (some ⟨w.heap.size+1,0,none⟩):: .pointer (some ⟨w.heap.size+1+1,0,none⟩)::y5::y6::y7::y8::y9::y10::y11::y12::y13::y14::y15::y16::y17::y18::y19::y20::y21::[]),defers:=[] }∧RD W p (((a*d)+(c*b)) / Nat.gcd ((a*d)+(c*b)) (b*d))∧RD W q ((b*d) / Nat.gcd ((a*d)+(c*b)) (b*d))∧ah W (w.heap.size+1+1) 53 (.slice p.a p.n p.c) (.slice q.a q.n q.c)∧Below w.heap.size w W) Cx Cx Cx ⟨P1,P2⟩ ?tree ?next
 case tree=>
  generalize (((w.alloc (.cells #[.slice a1.a a1.n a1.c,.slice b1.a b1.n b1.c] 53)).alloc (.cells #[.slice a2.a a2.n a2.c,.slice b2.a b2.n b2.c] 53)).alloc (.cells #[.slice none 0 0,.slice none 0 0] 53)).drew=w4 at P1 P2 P3 ra1 rb1 ra2 rb2 hB ⊢;refine Rd.tf (.pointer (some ⟨w.heap.size,0,none⟩)) ?_;refine Rd.tg (.slice a1.a a1.n a1.c) ?_ (y:=fun X hX=>A5);refine Rd.tf (.pointer (some ⟨w.heap.size+1,1,none⟩)) ?_;refine Rd.tg (.slice b2.a b2.n b2.c) ?_ (y:=fun X hX=>B5);refine Rd.tf (.pointer (some ⟨w.heap.size+1,0,none⟩)) ?_;refine Rd.tg (.slice a2.a a2.n a2.c) ?_ (y:=fun X hX=>B5);refine Rd.tf (.pointer (some ⟨w.heap.size,1,none⟩)) ?_;refine Rd.tg (.slice b1.a b1.n b1.c) ?_ (y:=fun X hX=>A5);refine Rd.tf (.pointer (some ⟨w.heap.size,1,none⟩)) ?_;refine Rd.tg (.slice b1.a b1.n b1.c) ?_ (y:=fun X hX=>A5);refine Rd.tf (.pointer (some ⟨w.heap.size+1,1,none⟩)) ?_;refine Rd.tg (.slice b2.a b2.n b2.c) ?_ (y:=fun X hX=>B5);refine Rd.tm fun K hK=>?_
  have H7:=Hd (cJ (.slice a1.a a1.n a1.c) (.slice b2.a b2.n b2.c) (a) (d) w4 ra1 rb2 (Nat.le_trans la.out A3) (Nat.le_trans ld.out A3));go_simp;refine H7.mono ?_;rintro e w8 ⟨v6,rfl,rx5,hb⟩;clear H7;replace P1:=P1.below hb;replace P2:=P2.below hb;replace P3:=P3.below hb;replace ra1:=ra1.below hb;replace rb1:=rb1.below hb;replace ra2:=ra2.below hb;replace rb2:=rb2.below hb;replace hB:=hB.tr hb;clear hb;obtain⟨x5,rfl,rx5⟩:=rx5.sl;have HLx5:Hid ((L (a*d)).length≤200):=Hd (aE la.out ld.out);refine hK _ _ ⟨P1,P2⟩ ?_;clear hK K;refine Rd.tm fun K hK=>?_
  have H11:=Hd (cJ (.slice a2.a a2.n a2.c) (.slice b1.a b1.n b1.c) (c) (b) w8 ra2 rb1 (Nat.le_trans lc.out A3) (Nat.le_trans lb.out A3));go_simp;refine H11.mono ?_;rintro e w12 ⟨v10,rfl,rx9,hb⟩;clear H11;replace P1:=P1.below hb;replace P2:=P2.below hb;replace P3:=P3.below hb;replace ra1:=ra1.below hb;replace rb1:=rb1.below hb;replace ra2:=ra2.below hb;replace rb2:=rb2.below hb;replace rx5:=rx5.below hb;replace hB:=hB.tr hb;clear hb;obtain⟨x9,rfl,rx9⟩:=rx9.sl;have HLx9:Hid ((L (c*b)).length≤200):=Hd (aE lc.out lb.out);refine hK _ _ ⟨P1,P2⟩ ?_;clear hK K;refine Rd.tm fun K hK=>?_
  have H15:=Hd (wR (.slice x5.a x5.n x5.c) (.slice x9.a x9.n x9.c) (a*d) (c*b) w12 rx5 rx9 (Nat.le_trans HLx5.out A3) (Nat.le_trans HLx9.out A3));go_simp;refine H15.mono ?_;rintro e w16 ⟨v14,rfl,rx13,hb⟩;clear H15;replace P1:=P1.below hb;replace P2:=P2.below hb;replace P3:=P3.below hb;replace ra1:=ra1.below hb;replace rb1:=rb1.below hb;replace ra2:=ra2.below hb;replace rb2:=rb2.below hb;replace rx5:=rx5.below hb;replace rx9:=rx9.below hb;replace hB:=hB.tr hb;clear hb;obtain⟨x13,rfl,rx13⟩:=rx13.sl;have HLx13:Hid ((L ((a*d)+(c*b))).length≤401):=Hd (qE HLx5.out HLx9.out);refine hK _ _ ⟨P1,P2⟩ ?_;clear hK K;refine Rd.tm fun K hK=>?_
  have H19:=Hd (cJ (.slice b1.a b1.n b1.c) (.slice b2.a b2.n b2.c) (b) (d) w16 rb1 rb2 (Nat.le_trans lb.out A3) (Nat.le_trans ld.out A3));go_simp;refine H19.mono ?_;rintro e w20 ⟨v18,rfl,rx17,hb⟩;clear H19;replace P1:=P1.below hb;replace P2:=P2.below hb;replace P3:=P3.below hb;replace ra1:=ra1.below hb;replace rb1:=rb1.below hb;replace ra2:=ra2.below hb;replace rb2:=rb2.below hb;replace rx5:=rx5.below hb;replace rx9:=rx9.below hb;replace rx13:=rx13.below hb;replace hB:=hB.tr hb;clear hb;obtain⟨x17,rfl,rx17⟩:=rx17.sl;have HLx17:Hid ((L (b*d)).length≤200):=Hd (aE lb.out ld.out);refine hK _ _ ⟨P1,P2⟩ ?_;clear hK K;refine Rd.tm fun K hK=>?_
  have H23:=Hd (jQ x13 x17 ((a*d)+(c*b)) (b*d) w20 rx13 rx17 (Hd (Nat.le_trans HLx13.out A3)) (Hd (Nat.le_trans HLx17.out A3)) HNE.out);go_simp;refine H23.mono ?_;rintro e w24 ⟨x21,x22,rfl,rx21,rx22,hb⟩;clear H23;replace P1:=P1.below hb;replace P2:=P2.below hb;replace P3:=P3.below hb;replace ra1:=ra1.below hb;replace rb1:=rb1.below hb;replace ra2:=ra2.below hb;replace rb2:=rb2.below hb;replace rx5:=rx5.below hb;replace rx9:=rx9.below hb;replace rx13:=rx13.below hb;replace rx17:=rx17.below hb;replace hB:=hB.tr hb;clear hb;have HLx21:Hid ((L (((a*d)+(c*b)) / Nat.gcd ((a*d)+(c*b)) (b*d))).length≤401):=Hd (aO HLx13.out);have HLx22:Hid ((L ((b*d) / Nat.gcd ((a*d)+(c*b)) (b*d))).length≤200):=Hd (aO HLx17.out);refine hK _ _ ⟨P1,P2⟩ ?_;clear hK K;refine Rd.tm fun K hK=>?_
  exact zR
 case next=>
  rintro a3 W ⟨p,q,_,_,_,_,_,_,_,_,_,_,_,_,_,_,_,_,_,rfl,rp,rq,PR,hB⟩
  go_wp2_with fail
  refine bodyPost_ret (v:=(.agg #[.slice p.a p.n p.c,.slice q.a q.n q.c])) ?_ rfl ⟨p,q,rfl,rp,rq,hB⟩;simp[results,Tryz.f106,go_sem,PR.c0,PR.c1]
theorem tK (a1 b1 a2 b2:Sl) (a b c d:Nat) (w:World) (ra1:RD w a1 a) (rb1:RD w b1 b) (ra2:RD w a2 c) (rb2:RD w b2 d) (la:Hid ((L a).length≤100)) (lb:Hid ((L b).length≤100)) (lc:Hid ((L c).length≤100)) (ld:Hid ((L d).length≤100)) (HLE:Hid (c*b≤a*d)) (HNE:Hid (b*d≠0)):
  Calls Tryz.prog 105 #[.agg #[.slice a1.a a1.n a1.c,.slice b1.a b1.n b1.c],.agg #[.slice a2.a a2.n a2.c,.slice b2.a b2.n b2.c]] w fun e w'=>∃p q:Sl,e= .returned (.agg #[.slice p.a p.n p.c,.slice q.a q.n q.c])∧RD w' p (((a*d) - (c*b)) / Nat.gcd ((a*d) - (c*b)) (b*d))∧RD w' q ((b*d) / Nat.gcd ((a*d) - (c*b)) (b*d))∧Below w.heap.size w w':=by
 go_enter Tryz.func105,Tryz.ntmps105;have hb:Below w.heap.size w (((w.alloc (.cells #[.slice a1.a a1.n a1.c,.slice b1.a b1.n b1.c] 53)).alloc (.cells #[.slice a2.a a2.n a2.c,.slice b2.a b2.n b2.c] 53)).alloc (.cells #[.slice none 0 0,.slice none 0 0] 53)):=((((Below.refl _ _).alloc lr _).alloc B4 _).alloc Cq _)
 replace ra1:=ra1.below hb;replace rb1:=rb1.below hb;replace ra2:=ra2.below hb;replace rb2:=rb2.below hb;have hB:=hb;have P1:ah (((w.alloc (.cells #[.slice a1.a a1.n a1.c,.slice b1.a b1.n b1.c] 53)).alloc (.cells #[.slice a2.a a2.n a2.c,.slice b2.a b2.n b2.c] 53)).alloc (.cells #[.slice none 0 0,.slice none 0 0] 53)) (w.heap.size) 53 (.slice a1.a a1.n a1.c) (.slice b1.a b1.n b1.c):=by
  have h:=((ah.new w 53 (.slice a1.a a1.n a1.c) (.slice b1.a b1.n b1.c)).alloc (.cells #[.slice a2.a a2.n a2.c,.slice b2.a b2.n b2.c] 53)).alloc (.cells #[.slice none 0 0,.slice none 0 0] 53);exact zQ
 have P2:ah (((w.alloc (.cells #[.slice a1.a a1.n a1.c,.slice b1.a b1.n b1.c] 53)).alloc (.cells #[.slice a2.a a2.n a2.c,.slice b2.a b2.n b2.c] 53)).alloc (.cells #[.slice none 0 0,.slice none 0 0] 53)) (w.heap.size+1) 53 (.slice a2.a a2.n a2.c) (.slice b2.a b2.n b2.c):=by
  have h:=(ah.new (w.alloc (.cells #[.slice a1.a a1.n a1.c,.slice b1.a b1.n b1.c] 53)) 53 (.slice a2.a a2.n a2.c) (.slice b2.a b2.n b2.c)).alloc (.cells #[.slice none 0 0,.slice none 0 0] 53);exact zQ
 have P3:ah (((w.alloc (.cells #[.slice a1.a a1.n a1.c,.slice b1.a b1.n b1.c] 53)).alloc (.cells #[.slice a2.a a2.n a2.c,.slice b2.a b2.n b2.c] 53)).alloc (.cells #[.slice none 0 0,.slice none 0 0] 53)) (w.heap.size+1+1) 53 (.slice none 0 0) (.slice none 0 0):=by
  have h:=ah.new ((w.alloc (.cells #[.slice a1.a a1.n a1.c,.slice b1.a b1.n b1.c] 53)).alloc (.cells #[.slice a2.a a2.n a2.c,.slice b2.a b2.n b2.c] 53)) 53 (.slice none 0 0) (.slice none 0 0);exact zQ
 clear hb;have c0P1:=P1.c0;have c1P1:=P1.c1;have c0P2:=P2.c0;have c1P2:=P2.c1;have c0P3:=P3.c0;have c1P3:=P3.c1
 go_wp2_with fail
 clear c0P1 c1P1 c0P2 c1P2 c0P3 c1P3;have hb:Below (((w.alloc (.cells #[.slice a1.a a1.n a1.c,.slice b1.a b1.n b1.c] 53)).alloc (.cells #[.slice a2.a a2.n a2.c,.slice b2.a b2.n b2.c] 53)).alloc (.cells #[.slice none 0 0,.slice none 0 0] 53)).heap.size (((w.alloc (.cells #[.slice a1.a a1.n a1.c,.slice b1.a b1.n b1.c] 53)).alloc (.cells #[.slice a2.a a2.n a2.c,.slice b2.a b2.n b2.c] 53)).alloc (.cells #[.slice none 0 0,.slice none 0 0] 53)) (((w.alloc (.cells #[.slice a1.a a1.n a1.c,.slice b1.a b1.n b1.c] 53)).alloc (.cells #[.slice a2.a a2.n a2.c,.slice b2.a b2.n b2.c] 53)).alloc (.cells #[.slice none 0 0,.slice none 0 0] 53)).drew:=(Below.refl _ _).drew;replace P1:=P1.below hb;replace P2:=P2.below hb;replace P3:=P3.below hb;replace ra1:=ra1.below hb;replace rb1:=rb1.below hb;replace ra2:=ra2.below hb;replace rb2:=rb2.below hb;replace hB:=hB.tr hb;clear hb;refine Rd.regionT (fun X=>ah X (w.heap.size) 53 (.slice a1.a a1.n a1.c) (.slice b1.a b1.n b1.c)∧ah X (w.heap.size+1) 53 (.slice a2.a a2.n a2.c) (.slice b2.a b2.n b2.c)) [0,1,2,3,5,6,7,8,11,12,13,14] (.one 0 (.one 1 (.one 2 (.one 3 (.one 5 (.one 6 (.one 7 (.one 8 (.one 11 (.one 12 (.one 13 (.one 14 (.one 4 (.one 9 (.one 10 (.one 15 (.one 16 (.one 17 .done)))))))))))))))))) (fun ac W=>∃(p:Sl) (q:Sl) (y5 y6 y7 y8 y9 y10 y11 y12 y13 y14 y15 y16 y17 y18 y19 y20 y21:Value),ac={ tmps:=List.toArray (.agg #[.slice a1.a a1.n a1.c,.slice b1.a b1.n b1.c]:: .agg #[.slice a2.a a2.n a2.c,.slice b2.a b2.n b2.c]:: .pointer (some ⟨w.heap.size,0,none⟩):: .pointer (some ⟨w.heap.size+1,0,none⟩):: .pointer (some ⟨w.heap.size+1+1,0,none⟩)::y5::y6::y7::y8::y9::y10::y11::y12::y13::y14::y15::y16::y17::y18::y19::y20::y21::[]),defers:=[] }∧RD W p (((a*d) - (c*b)) / Nat.gcd ((a*d) - (c*b)) (b*d))∧RD W q ((b*d) / Nat.gcd ((a*d) - (c*b)) (b*d))∧ah W (w.heap.size+1+1) 53 (.slice p.a p.n p.c) (.slice q.a q.n q.c)∧Below w.heap.size w W) Cx Cx Cx ⟨P1,P2⟩ ?tree ?next
 case tree=>
  generalize (((w.alloc (.cells #[.slice a1.a a1.n a1.c,.slice b1.a b1.n b1.c] 53)).alloc (.cells #[.slice a2.a a2.n a2.c,.slice b2.a b2.n b2.c] 53)).alloc (.cells #[.slice none 0 0,.slice none 0 0] 53)).drew=w4 at P1 P2 P3 ra1 rb1 ra2 rb2 hB ⊢;refine Rd.tf (.pointer (some ⟨w.heap.size,0,none⟩)) ?_;refine Rd.tg (.slice a1.a a1.n a1.c) ?_ (y:=fun X hX=>A5);refine Rd.tf (.pointer (some ⟨w.heap.size+1,1,none⟩)) ?_;refine Rd.tg (.slice b2.a b2.n b2.c) ?_ (y:=fun X hX=>B5);refine Rd.tf (.pointer (some ⟨w.heap.size+1,0,none⟩)) ?_;refine Rd.tg (.slice a2.a a2.n a2.c) ?_ (y:=fun X hX=>B5);refine Rd.tf (.pointer (some ⟨w.heap.size,1,none⟩)) ?_;refine Rd.tg (.slice b1.a b1.n b1.c) ?_ (y:=fun X hX=>A5);refine Rd.tf (.pointer (some ⟨w.heap.size,1,none⟩)) ?_;refine Rd.tg (.slice b1.a b1.n b1.c) ?_ (y:=fun X hX=>A5);refine Rd.tf (.pointer (some ⟨w.heap.size+1,1,none⟩)) ?_;refine Rd.tg (.slice b2.a b2.n b2.c) ?_ (y:=fun X hX=>B5);refine Rd.tm fun K hK=>?_
  have H7:=Hd (cJ (.slice a1.a a1.n a1.c) (.slice b2.a b2.n b2.c) (a) (d) w4 ra1 rb2 (Nat.le_trans la.out A3) (Nat.le_trans ld.out A3));go_simp;refine H7.mono ?_;rintro e w8 ⟨v6,rfl,rx5,hb⟩;clear H7;replace P1:=P1.below hb;replace P2:=P2.below hb;replace P3:=P3.below hb;replace ra1:=ra1.below hb;replace rb1:=rb1.below hb;replace ra2:=ra2.below hb;replace rb2:=rb2.below hb;replace hB:=hB.tr hb;clear hb;obtain⟨x5,rfl,rx5⟩:=rx5.sl;have HLx5:Hid ((L (a*d)).length≤200):=Hd (aE la.out ld.out);refine hK _ _ ⟨P1,P2⟩ ?_;clear hK K;refine Rd.tm fun K hK=>?_
  have H11:=Hd (cJ (.slice a2.a a2.n a2.c) (.slice b1.a b1.n b1.c) (c) (b) w8 ra2 rb1 (Nat.le_trans lc.out A3) (Nat.le_trans lb.out A3));go_simp;refine H11.mono ?_;rintro e w12 ⟨v10,rfl,rx9,hb⟩;clear H11;replace P1:=P1.below hb;replace P2:=P2.below hb;replace P3:=P3.below hb;replace ra1:=ra1.below hb;replace rb1:=rb1.below hb;replace ra2:=ra2.below hb;replace rb2:=rb2.below hb;replace rx5:=rx5.below hb;replace hB:=hB.tr hb;clear hb;obtain⟨x9,rfl,rx9⟩:=rx9.sl;have HLx9:Hid ((L (c*b)).length≤200):=Hd (aE lc.out lb.out);refine hK _ _ ⟨P1,P2⟩ ?_;clear hK K;refine Rd.tm fun K hK=>?_
  have H15:=Hd (ww (.slice x5.a x5.n x5.c) (.slice x9.a x9.n x9.c) (a*d) (c*b) w12 rx5 rx9 (Nat.le_trans HLx5.out A3) HLE.out);go_simp;refine H15.mono ?_;rintro e w16 ⟨v14,rfl,rx13,hb⟩;clear H15;replace P1:=P1.below hb;replace P2:=P2.below hb;replace P3:=P3.below hb;replace ra1:=ra1.below hb;replace rb1:=rb1.below hb;replace ra2:=ra2.below hb;replace rb2:=rb2.below hb;replace rx5:=rx5.below hb;replace rx9:=rx9.below hb;replace hB:=hB.tr hb;clear hb;obtain⟨x13,rfl,rx13⟩:=rx13.sl;have HLx13:Hid ((L ((a*d) - (c*b))).length≤200):=Hd (jU HLx5.out);refine hK _ _ ⟨P1,P2⟩ ?_;clear hK K;refine Rd.tm fun K hK=>?_
  have H19:=Hd (cJ (.slice b1.a b1.n b1.c) (.slice b2.a b2.n b2.c) (b) (d) w16 rb1 rb2 (Nat.le_trans lb.out A3) (Nat.le_trans ld.out A3));go_simp;refine H19.mono ?_;rintro e w20 ⟨v18,rfl,rx17,hb⟩;clear H19;replace P1:=P1.below hb;replace P2:=P2.below hb;replace P3:=P3.below hb;replace ra1:=ra1.below hb;replace rb1:=rb1.below hb;replace ra2:=ra2.below hb;replace rb2:=rb2.below hb;replace rx5:=rx5.below hb;replace rx9:=rx9.below hb;replace rx13:=rx13.below hb;replace hB:=hB.tr hb;clear hb;obtain⟨x17,rfl,rx17⟩:=rx17.sl;have HLx17:Hid ((L (b*d)).length≤200):=Hd (aE lb.out ld.out);refine hK _ _ ⟨P1,P2⟩ ?_;clear hK K;refine Rd.tm fun K hK=>?_
  have H23:=Hd (jQ x13 x17 ((a*d) - (c*b)) (b*d) w20 rx13 rx17 (Hd (Nat.le_trans HLx13.out A3)) (Hd (Nat.le_trans HLx17.out A3)) HNE.out);go_simp;refine H23.mono ?_;rintro e w24 ⟨x21,x22,rfl,rx21,rx22,hb⟩;clear H23;replace P1:=P1.below hb;replace P2:=P2.below hb;replace P3:=P3.below hb;replace ra1:=ra1.below hb;replace rb1:=rb1.below hb;replace ra2:=ra2.below hb;replace rb2:=rb2.below hb;replace rx5:=rx5.below hb;replace rx9:=rx9.below hb;replace rx13:=rx13.below hb;replace rx17:=rx17.below hb;replace hB:=hB.tr hb;clear hb;have HLx21:Hid ((L (((a*d) - (c*b)) / Nat.gcd ((a*d) - (c*b)) (b*d))).length≤200):=Hd (aO HLx13.out);have HLx22:Hid ((L ((b*d) / Nat.gcd ((a*d) - (c*b)) (b*d))).length≤200):=Hd (aO HLx17.out);refine hK _ _ ⟨P1,P2⟩ ?_;clear hK K;refine Rd.tm fun K hK=>?_
  exact zR
 case next=>
  rintro a3 W ⟨p,q,_,_,_,_,_,_,_,_,_,_,_,_,_,_,_,_,_,rfl,rp,rq,PR,hB⟩
  go_wp2_with fail
  refine bodyPost_ret (v:=(.agg #[.slice p.a p.n p.c,.slice q.a q.n q.c])) ?_ rfl ⟨p,q,rfl,rp,rq,hB⟩;simp[results,Tryz.f105,go_sem,PR.c0,PR.c1]
theorem zT {p:Prop} (h:p:=by have c0P3:=P3.c0;have c1P3:=P3.c1;have z0P3:=P3.z0;have z1P3:=P3.z1;go_simp;clear c0P3 c1P3 z0P3 z1P3;replace ra1:=ra1.pset P3 (.slice x13.a x13.n x13.c) (.slice x14.a x14.n x14.c);replace rb1:=rb1.pset P3 (.slice x13.a x13.n x13.c) (.slice x14.a x14.n x14.c);replace ra2:=ra2.pset P3 (.slice x13.a x13.n x13.c) (.slice x14.a x14.n x14.c);replace rb2:=rb2.pset P3 (.slice x13.a x13.n x13.c) (.slice x14.a x14.n x14.c);replace rx5:=rx5.pset P3 (.slice x13.a x13.n x13.c) (.slice x14.a x14.n x14.c);replace rx9:=rx9.pset P3 (.slice x13.a x13.n x13.c) (.slice x14.a x14.n x14.c);replace rx13:=rx13.pset P3 (.slice x13.a x13.n x13.c) (.slice x14.a x14.n x14.c);replace rx14:=rx14.pset P3 (.slice x13.a x13.n x13.c) (.slice x14.a x14.n x14.c);replace P1:=P1.other (B:=w.heap.size+1+1) (by omega) (.slice x13.a x13.n x13.c) (.slice x14.a x14.n x14.c);replace P2:=P2.other (B:=w.heap.size+1+1) (by omega) (.slice x13.a x13.n x13.c) (.slice x14.a x14.n x14.c);replace hB:=Below.pset (B:=w.heap.size+1+1) hB (by omega) (.slice x13.a x13.n x13.c) (.slice x14.a x14.n x14.c);replace P3:=P3.set (.slice x13.a x13.n x13.c) (.slice x14.a x14.n x14.c);generalize (w16.setCell ⟨w.heap.size+1+1,0,none⟩ (.slice x13.a x13.n x13.c)).setCell ⟨w.heap.size+1+1,1,none⟩ (.slice x14.a x14.n x14.c)=w17 at P1 P2 P3 ra1 rb1 ra2 rb2 rx5 rx9 rx13 rx14 hB ⊢;refine hK _ _ ⟨P1,P2⟩ ?_;clear hK K;exact Rd.tr_end (⟨x13,x14,_,_,_,_,_,_,_,_,_,_,_,rfl,rx13,rx14,P3,hB⟩)):p:=h
theorem tN (a1 b1 a2 b2:Sl) (a b c d:Nat) (w:World) (ra1:RD w a1 a) (rb1:RD w b1 b) (ra2:RD w a2 c) (rb2:RD w b2 d) (la:Hid ((L a).length≤100)) (lb:Hid ((L b).length≤100)) (lc:Hid ((L c).length≤100)) (ld:Hid ((L d).length≤100)) (HNE:Hid (b*d≠0)):
  Calls Tryz.prog 108 #[.agg #[.slice a1.a a1.n a1.c,.slice b1.a b1.n b1.c],.agg #[.slice a2.a a2.n a2.c,.slice b2.a b2.n b2.c]] w fun e w'=>∃p q:Sl,e= .returned (.agg #[.slice p.a p.n p.c,.slice q.a q.n q.c])∧RD w' p ((a*c) / Nat.gcd (a*c) (b*d))∧RD w' q ((b*d) / Nat.gcd (a*c) (b*d))∧Below w.heap.size w w':=by
 go_enter Tryz.func108,Tryz.ntmps108;have hb:Below w.heap.size w (((w.alloc (.cells #[.slice a1.a a1.n a1.c,.slice b1.a b1.n b1.c] 53)).alloc (.cells #[.slice a2.a a2.n a2.c,.slice b2.a b2.n b2.c] 53)).alloc (.cells #[.slice none 0 0,.slice none 0 0] 53)):=((((Below.refl _ _).alloc lr _).alloc B4 _).alloc Cq _)
 replace ra1:=ra1.below hb;replace rb1:=rb1.below hb;replace ra2:=ra2.below hb;replace rb2:=rb2.below hb;have hB:=hb;have P1:ah (((w.alloc (.cells #[.slice a1.a a1.n a1.c,.slice b1.a b1.n b1.c] 53)).alloc (.cells #[.slice a2.a a2.n a2.c,.slice b2.a b2.n b2.c] 53)).alloc (.cells #[.slice none 0 0,.slice none 0 0] 53)) (w.heap.size) 53 (.slice a1.a a1.n a1.c) (.slice b1.a b1.n b1.c):=by
  have h:=((ah.new w 53 (.slice a1.a a1.n a1.c) (.slice b1.a b1.n b1.c)).alloc (.cells #[.slice a2.a a2.n a2.c,.slice b2.a b2.n b2.c] 53)).alloc (.cells #[.slice none 0 0,.slice none 0 0] 53);exact zQ
 have P2:ah (((w.alloc (.cells #[.slice a1.a a1.n a1.c,.slice b1.a b1.n b1.c] 53)).alloc (.cells #[.slice a2.a a2.n a2.c,.slice b2.a b2.n b2.c] 53)).alloc (.cells #[.slice none 0 0,.slice none 0 0] 53)) (w.heap.size+1) 53 (.slice a2.a a2.n a2.c) (.slice b2.a b2.n b2.c):=by
  have h:=(ah.new (w.alloc (.cells #[.slice a1.a a1.n a1.c,.slice b1.a b1.n b1.c] 53)) 53 (.slice a2.a a2.n a2.c) (.slice b2.a b2.n b2.c)).alloc (.cells #[.slice none 0 0,.slice none 0 0] 53);exact zQ
 have P3:ah (((w.alloc (.cells #[.slice a1.a a1.n a1.c,.slice b1.a b1.n b1.c] 53)).alloc (.cells #[.slice a2.a a2.n a2.c,.slice b2.a b2.n b2.c] 53)).alloc (.cells #[.slice none 0 0,.slice none 0 0] 53)) (w.heap.size+1+1) 53 (.slice none 0 0) (.slice none 0 0):=by
  have h:=ah.new ((w.alloc (.cells #[.slice a1.a a1.n a1.c,.slice b1.a b1.n b1.c] 53)).alloc (.cells #[.slice a2.a a2.n a2.c,.slice b2.a b2.n b2.c] 53)) 53 (.slice none 0 0) (.slice none 0 0);exact zQ
 clear hb;have c0P1:=P1.c0;have c1P1:=P1.c1;have c0P2:=P2.c0;have c1P2:=P2.c1;have c0P3:=P3.c0;have c1P3:=P3.c1
 go_wp2_with fail
 clear c0P1 c1P1 c0P2 c1P2 c0P3 c1P3;have hb:Below (((w.alloc (.cells #[.slice a1.a a1.n a1.c,.slice b1.a b1.n b1.c] 53)).alloc (.cells #[.slice a2.a a2.n a2.c,.slice b2.a b2.n b2.c] 53)).alloc (.cells #[.slice none 0 0,.slice none 0 0] 53)).heap.size (((w.alloc (.cells #[.slice a1.a a1.n a1.c,.slice b1.a b1.n b1.c] 53)).alloc (.cells #[.slice a2.a a2.n a2.c,.slice b2.a b2.n b2.c] 53)).alloc (.cells #[.slice none 0 0,.slice none 0 0] 53)) (((w.alloc (.cells #[.slice a1.a a1.n a1.c,.slice b1.a b1.n b1.c] 53)).alloc (.cells #[.slice a2.a a2.n a2.c,.slice b2.a b2.n b2.c] 53)).alloc (.cells #[.slice none 0 0,.slice none 0 0] 53)).drew:=(Below.refl _ _).drew;replace P1:=P1.below hb;replace P2:=P2.below hb;replace P3:=P3.below hb;replace ra1:=ra1.below hb;replace rb1:=rb1.below hb;replace ra2:=ra2.below hb;replace rb2:=rb2.below hb;replace hB:=hB.tr hb;clear hb;refine Rd.regionT (fun X=>ah X (w.heap.size) 53 (.slice a1.a a1.n a1.c) (.slice b1.a b1.n b1.c)∧ah X (w.heap.size+1) 53 (.slice a2.a a2.n a2.c) (.slice b2.a b2.n b2.c)) [0,1,2,3,5,6,7,8] (.one 0 (.one 1 (.one 2 (.one 3 (.one 5 (.one 6 (.one 7 (.one 8 (.one 4 (.one 9 (.one 10 (.one 11 .done)))))))))))) (fun ac W=>∃(p:Sl) (q:Sl) (y5 y6 y7 y8 y9 y10 y11 y12 y13 y14 y15:Value),ac={ tmps:=List.toArray (.agg #[.slice a1.a a1.n a1.c,.slice b1.a b1.n b1.c]:: .agg #[.slice a2.a a2.n a2.c,.slice b2.a b2.n b2.c]:: .pointer (some ⟨w.heap.size,0,none⟩):: .pointer (some ⟨w.heap.size+1,0,none⟩):: .pointer (some ⟨w.heap.size+1+1,0,none⟩)::y5::y6::y7::y8::y9::y10::y11::y12::y13::y14::y15::[]),defers:=[] }∧RD W p ((a*c) / Nat.gcd (a*c) (b*d))∧RD W q ((b*d) / Nat.gcd (a*c) (b*d))∧ah W (w.heap.size+1+1) 53 (.slice p.a p.n p.c) (.slice q.a q.n q.c)∧Below w.heap.size w W) Cx Cx Cx ⟨P1,P2⟩ ?tree ?next
 case tree=>
  generalize (((w.alloc (.cells #[.slice a1.a a1.n a1.c,.slice b1.a b1.n b1.c] 53)).alloc (.cells #[.slice a2.a a2.n a2.c,.slice b2.a b2.n b2.c] 53)).alloc (.cells #[.slice none 0 0,.slice none 0 0] 53)).drew=w4 at P1 P2 P3 ra1 rb1 ra2 rb2 hB ⊢;refine Rd.tf (.pointer (some ⟨w.heap.size,0,none⟩)) ?_;refine Rd.tg (.slice a1.a a1.n a1.c) ?_ (y:=fun X hX=>A5);refine Rd.tf (.pointer (some ⟨w.heap.size+1,0,none⟩)) ?_;refine Rd.tg (.slice a2.a a2.n a2.c) ?_ (y:=fun X hX=>B5);refine Rd.tf (.pointer (some ⟨w.heap.size,1,none⟩)) ?_;refine Rd.tg (.slice b1.a b1.n b1.c) ?_ (y:=fun X hX=>A5);refine Rd.tf (.pointer (some ⟨w.heap.size+1,1,none⟩)) ?_;refine Rd.tg (.slice b2.a b2.n b2.c) ?_ (y:=fun X hX=>B5);refine Rd.tm fun K hK=>?_
  have H7:=Hd (cJ (.slice a1.a a1.n a1.c) (.slice a2.a a2.n a2.c) (a) (c) w4 ra1 ra2 (Nat.le_trans la.out A3) (Nat.le_trans lc.out A3));go_simp;refine H7.mono ?_;rintro e w8 ⟨v6,rfl,rx5,hb⟩;clear H7;replace P1:=P1.below hb;replace P2:=P2.below hb;replace P3:=P3.below hb;replace ra1:=ra1.below hb;replace rb1:=rb1.below hb;replace ra2:=ra2.below hb;replace rb2:=rb2.below hb;replace hB:=hB.tr hb;clear hb;obtain⟨x5,rfl,rx5⟩:=rx5.sl;have HLx5:Hid ((L (a*c)).length≤200):=Hd (aE la.out lc.out);refine hK _ _ ⟨P1,P2⟩ ?_;clear hK K;refine Rd.tm fun K hK=>?_
  have H11:=Hd (cJ (.slice b1.a b1.n b1.c) (.slice b2.a b2.n b2.c) (b) (d) w8 rb1 rb2 (Nat.le_trans lb.out A3) (Nat.le_trans ld.out A3));go_simp;refine H11.mono ?_;rintro e w12 ⟨v10,rfl,rx9,hb⟩;clear H11;replace P1:=P1.below hb;replace P2:=P2.below hb;replace P3:=P3.below hb;replace ra1:=ra1.below hb;replace rb1:=rb1.below hb;replace ra2:=ra2.below hb;replace rb2:=rb2.below hb;replace rx5:=rx5.below hb;replace hB:=hB.tr hb;clear hb;obtain⟨x9,rfl,rx9⟩:=rx9.sl;have HLx9:Hid ((L (b*d)).length≤200):=Hd (aE lb.out ld.out);refine hK _ _ ⟨P1,P2⟩ ?_;clear hK K;refine Rd.tm fun K hK=>?_
  have H15:=Hd (jQ x5 x9 (a*c) (b*d) w12 rx5 rx9 (Hd (Nat.le_trans HLx5.out A3)) (Hd (Nat.le_trans HLx9.out A3)) HNE.out);go_simp;refine H15.mono ?_;rintro e w16 ⟨x13,x14,rfl,rx13,rx14,hb⟩;clear H15;replace P1:=P1.below hb;replace P2:=P2.below hb;replace P3:=P3.below hb;replace ra1:=ra1.below hb;replace rb1:=rb1.below hb;replace ra2:=ra2.below hb;replace rb2:=rb2.below hb;replace rx5:=rx5.below hb;replace rx9:=rx9.below hb;replace hB:=hB.tr hb;clear hb;have HLx13:Hid ((L ((a*c) / Nat.gcd (a*c) (b*d))).length≤200):=Hd (aO HLx5.out);have HLx14:Hid ((L ((b*d) / Nat.gcd (a*c) (b*d))).length≤200):=Hd (aO HLx9.out);refine hK _ _ ⟨P1,P2⟩ ?_;clear hK K;refine Rd.tm fun K hK=>?_
  exact zT
 case next=>
  rintro a3 W ⟨p,q,_,_,_,_,_,_,_,_,_,_,_,rfl,rp,rq,PR,hB⟩
  go_wp2_with fail
  refine bodyPost_ret (v:=(.agg #[.slice p.a p.n p.c,.slice q.a q.n q.c])) ?_ rfl ⟨p,q,rfl,rp,rq,hB⟩;simp[results,Tryz.f108,go_sem,PR.c0,PR.c1]
theorem sS (a1 b1 a2 b2:Sl) (a b c d:Nat) (w:World) (ra1:RD w a1 a) (rb1:RD w b1 b) (ra2:RD w a2 c) (rb2:RD w b2 d) (la:Hid ((L a).length≤100)) (lb:Hid ((L b).length≤100)) (lc:Hid ((L c).length≤100)) (ld:Hid ((L d).length≤100)) (HNE:Hid (b*c≠0)):
  Calls Tryz.prog 107 #[.agg #[.slice a1.a a1.n a1.c,.slice b1.a b1.n b1.c],.agg #[.slice a2.a a2.n a2.c,.slice b2.a b2.n b2.c]] w fun e w'=>∃p q:Sl,e= .returned (.agg #[.slice p.a p.n p.c,.slice q.a q.n q.c])∧RD w' p ((a*d) / Nat.gcd (a*d) (b*c))∧RD w' q ((b*c) / Nat.gcd (a*d) (b*c))∧Below w.heap.size w w':=by
 go_enter Tryz.func107,Tryz.ntmps107;have hb:Below w.heap.size w (((w.alloc (.cells #[.slice a1.a a1.n a1.c,.slice b1.a b1.n b1.c] 53)).alloc (.cells #[.slice a2.a a2.n a2.c,.slice b2.a b2.n b2.c] 53)).alloc (.cells #[.slice none 0 0,.slice none 0 0] 53)):=((((Below.refl _ _).alloc lr _).alloc B4 _).alloc Cq _)
 replace ra1:=ra1.below hb;replace rb1:=rb1.below hb;replace ra2:=ra2.below hb;replace rb2:=rb2.below hb;have hB:=hb;have P1:ah (((w.alloc (.cells #[.slice a1.a a1.n a1.c,.slice b1.a b1.n b1.c] 53)).alloc (.cells #[.slice a2.a a2.n a2.c,.slice b2.a b2.n b2.c] 53)).alloc (.cells #[.slice none 0 0,.slice none 0 0] 53)) (w.heap.size) 53 (.slice a1.a a1.n a1.c) (.slice b1.a b1.n b1.c):=by
  have h:=((ah.new w 53 (.slice a1.a a1.n a1.c) (.slice b1.a b1.n b1.c)).alloc (.cells #[.slice a2.a a2.n a2.c,.slice b2.a b2.n b2.c] 53)).alloc (.cells #[.slice none 0 0,.slice none 0 0] 53);exact zQ
 have P2:ah (((w.alloc (.cells #[.slice a1.a a1.n a1.c,.slice b1.a b1.n b1.c] 53)).alloc (.cells #[.slice a2.a a2.n a2.c,.slice b2.a b2.n b2.c] 53)).alloc (.cells #[.slice none 0 0,.slice none 0 0] 53)) (w.heap.size+1) 53 (.slice a2.a a2.n a2.c) (.slice b2.a b2.n b2.c):=by
  have h:=(ah.new (w.alloc (.cells #[.slice a1.a a1.n a1.c,.slice b1.a b1.n b1.c] 53)) 53 (.slice a2.a a2.n a2.c) (.slice b2.a b2.n b2.c)).alloc (.cells #[.slice none 0 0,.slice none 0 0] 53);exact zQ
 have P3:ah (((w.alloc (.cells #[.slice a1.a a1.n a1.c,.slice b1.a b1.n b1.c] 53)).alloc (.cells #[.slice a2.a a2.n a2.c,.slice b2.a b2.n b2.c] 53)).alloc (.cells #[.slice none 0 0,.slice none 0 0] 53)) (w.heap.size+1+1) 53 (.slice none 0 0) (.slice none 0 0):=by
  have h:=ah.new ((w.alloc (.cells #[.slice a1.a a1.n a1.c,.slice b1.a b1.n b1.c] 53)).alloc (.cells #[.slice a2.a a2.n a2.c,.slice b2.a b2.n b2.c] 53)) 53 (.slice none 0 0) (.slice none 0 0);exact zQ
 clear hb;have c0P1:=P1.c0;have c1P1:=P1.c1;have c0P2:=P2.c0;have c1P2:=P2.c1;have c0P3:=P3.c0;have c1P3:=P3.c1
 go_wp2_with fail
 clear c0P1 c1P1 c0P2 c1P2 c0P3 c1P3;have hb:Below (((w.alloc (.cells #[.slice a1.a a1.n a1.c,.slice b1.a b1.n b1.c] 53)).alloc (.cells #[.slice a2.a a2.n a2.c,.slice b2.a b2.n b2.c] 53)).alloc (.cells #[.slice none 0 0,.slice none 0 0] 53)).heap.size (((w.alloc (.cells #[.slice a1.a a1.n a1.c,.slice b1.a b1.n b1.c] 53)).alloc (.cells #[.slice a2.a a2.n a2.c,.slice b2.a b2.n b2.c] 53)).alloc (.cells #[.slice none 0 0,.slice none 0 0] 53)) (((w.alloc (.cells #[.slice a1.a a1.n a1.c,.slice b1.a b1.n b1.c] 53)).alloc (.cells #[.slice a2.a a2.n a2.c,.slice b2.a b2.n b2.c] 53)).alloc (.cells #[.slice none 0 0,.slice none 0 0] 53)).drew:=(Below.refl _ _).drew;replace P1:=P1.below hb;replace P2:=P2.below hb;replace P3:=P3.below hb;replace ra1:=ra1.below hb;replace rb1:=rb1.below hb;replace ra2:=ra2.below hb;replace rb2:=rb2.below hb;replace hB:=hB.tr hb;clear hb;refine Rd.regionT (fun X=>ah X (w.heap.size) 53 (.slice a1.a a1.n a1.c) (.slice b1.a b1.n b1.c)∧ah X (w.heap.size+1) 53 (.slice a2.a a2.n a2.c) (.slice b2.a b2.n b2.c)) [0,1,2,3,5,6,7,8] (.one 0 (.one 1 (.one 2 (.one 3 (.one 5 (.one 6 (.one 7 (.one 8 (.one 4 (.one 9 (.one 10 (.one 11 .done)))))))))))) (fun ac W=>∃(p:Sl) (q:Sl) (y5 y6 y7 y8 y9 y10 y11 y12 y13 y14 y15:Value),ac={ tmps:=List.toArray (.agg #[.slice a1.a a1.n a1.c,.slice b1.a b1.n b1.c]:: .agg #[.slice a2.a a2.n a2.c,.slice b2.a b2.n b2.c]:: .pointer (some ⟨w.heap.size,0,none⟩):: .pointer (some ⟨w.heap.size+1,0,none⟩):: .pointer (some ⟨w.heap.size+1+1,0,none⟩)::y5::y6::y7::y8::y9::y10::y11::y12::y13::y14::y15::[]),defers:=[] }∧RD W p ((a*d) / Nat.gcd (a*d) (b*c))∧RD W q ((b*c) / Nat.gcd (a*d) (b*c))∧ah W (w.heap.size+1+1) 53 (.slice p.a p.n p.c) (.slice q.a q.n q.c)∧Below w.heap.size w W) Cx Cx Cx ⟨P1,P2⟩ ?tree ?next
 case tree=>
  generalize (((w.alloc (.cells #[.slice a1.a a1.n a1.c,.slice b1.a b1.n b1.c] 53)).alloc (.cells #[.slice a2.a a2.n a2.c,.slice b2.a b2.n b2.c] 53)).alloc (.cells #[.slice none 0 0,.slice none 0 0] 53)).drew=w4 at P1 P2 P3 ra1 rb1 ra2 rb2 hB ⊢;refine Rd.tf (.pointer (some ⟨w.heap.size,0,none⟩)) ?_;refine Rd.tg (.slice a1.a a1.n a1.c) ?_ (y:=fun X hX=>A5);refine Rd.tf (.pointer (some ⟨w.heap.size+1,1,none⟩)) ?_;refine Rd.tg (.slice b2.a b2.n b2.c) ?_ (y:=fun X hX=>B5);refine Rd.tf (.pointer (some ⟨w.heap.size,1,none⟩)) ?_;refine Rd.tg (.slice b1.a b1.n b1.c) ?_ (y:=fun X hX=>A5);refine Rd.tf (.pointer (some ⟨w.heap.size+1,0,none⟩)) ?_;refine Rd.tg (.slice a2.a a2.n a2.c) ?_ (y:=fun X hX=>B5);refine Rd.tm fun K hK=>?_
  have H7:=Hd (cJ (.slice a1.a a1.n a1.c) (.slice b2.a b2.n b2.c) (a) (d) w4 ra1 rb2 (Nat.le_trans la.out A3) (Nat.le_trans ld.out A3));go_simp;refine H7.mono ?_;rintro e w8 ⟨v6,rfl,rx5,hb⟩;clear H7;replace P1:=P1.below hb;replace P2:=P2.below hb;replace P3:=P3.below hb;replace ra1:=ra1.below hb;replace rb1:=rb1.below hb;replace ra2:=ra2.below hb;replace rb2:=rb2.below hb;replace hB:=hB.tr hb;clear hb;obtain⟨x5,rfl,rx5⟩:=rx5.sl;have HLx5:Hid ((L (a*d)).length≤200):=Hd (aE la.out ld.out);refine hK _ _ ⟨P1,P2⟩ ?_;clear hK K;refine Rd.tm fun K hK=>?_
  have H11:=Hd (cJ (.slice b1.a b1.n b1.c) (.slice a2.a a2.n a2.c) (b) (c) w8 rb1 ra2 (Nat.le_trans lb.out A3) (Nat.le_trans lc.out A3));go_simp;refine H11.mono ?_;rintro e w12 ⟨v10,rfl,rx9,hb⟩;clear H11;replace P1:=P1.below hb;replace P2:=P2.below hb;replace P3:=P3.below hb;replace ra1:=ra1.below hb;replace rb1:=rb1.below hb;replace ra2:=ra2.below hb;replace rb2:=rb2.below hb;replace rx5:=rx5.below hb;replace hB:=hB.tr hb;clear hb;obtain⟨x9,rfl,rx9⟩:=rx9.sl;have HLx9:Hid ((L (b*c)).length≤200):=Hd (aE lb.out lc.out);refine hK _ _ ⟨P1,P2⟩ ?_;clear hK K;refine Rd.tm fun K hK=>?_
  have H15:=Hd (jQ x5 x9 (a*d) (b*c) w12 rx5 rx9 (Hd (Nat.le_trans HLx5.out A3)) (Hd (Nat.le_trans HLx9.out A3)) HNE.out);go_simp;refine H15.mono ?_;rintro e w16 ⟨x13,x14,rfl,rx13,rx14,hb⟩;clear H15;replace P1:=P1.below hb;replace P2:=P2.below hb;replace P3:=P3.below hb;replace ra1:=ra1.below hb;replace rb1:=rb1.below hb;replace ra2:=ra2.below hb;replace rb2:=rb2.below hb;replace rx5:=rx5.below hb;replace rx9:=rx9.below hb;replace hB:=hB.tr hb;clear hb;have HLx13:Hid ((L ((a*d) / Nat.gcd (a*d) (b*c))).length≤200):=Hd (aO HLx5.out);have HLx14:Hid ((L ((b*c) / Nat.gcd (a*d) (b*c))).length≤200):=Hd (aO HLx9.out);refine hK _ _ ⟨P1,P2⟩ ?_;clear hK K;refine Rd.tm fun K hK=>?_
  exact zT
 case next=>
  rintro a3 W ⟨p,q,_,_,_,_,_,_,_,_,_,_,_,rfl,rp,rq,PR,hB⟩
  go_wp2_with fail
  refine bodyPost_ret (v:=(.agg #[.slice p.a p.n p.c,.slice q.a q.n q.c])) ?_ rfl ⟨p,q,rfl,rp,rq,hB⟩;simp[results,Tryz.f107,go_sem,PR.c0,PR.c1]
theorem vT (n:Nat) (hn:Hid (n<9223372036854775808)) (w:World):
  Calls Tryz.prog 29 #[.int .i64 (n:Int)] w fun e w'=>∃p q:Sl,e= .returned (.agg #[.slice p.a p.n p.c,.slice q.a q.n q.c])∧RD w' p n∧RD w' q 1∧Below w.heap.size w w':=by
 go_enter Tryz.func29,Tryz.ntmps29;have hb:Below w.heap.size w (w.alloc (.cells #[.slice none 0 0,.slice none 0 0] 53)):=((Below.refl _ _).alloc lr _)
 have hB:=hb;have P1:ah (w.alloc (.cells #[.slice none 0 0,.slice none 0 0] 53)) (w.heap.size) 53 (.slice none 0 0) (.slice none 0 0):=by
  have h:=ah.new w 53 (.slice none 0 0) (.slice none 0 0);exact zQ
 clear hb;have c0P1:=P1.c0;have c1P1:=P1.c1;have H4:=Hd (fT n (w.alloc (.cells #[.slice none 0 0,.slice none 0 0] 53)) hn.out)
 go_wp2_with fail
 clear c0P1 c1P1;refine H4.mono ?_;rintro e w5 ⟨v3,rfl,rx2,hb⟩;clear H4;replace P1:=P1.below hb;replace hB:=hB.tr hb;clear hb;obtain⟨x2,rfl,rx2⟩:=rx2.sl;have HLx2:Hid ((L (n)).length≤1):=Hd (fr n (by have h:n<9223372036854775808:=hn.out;omega));have c0P1:=P1.c0;have c1P1:=P1.c1;have H8:=Hd (fT (1) w5 A3)
 go_wp2_with fail
 clear c0P1 c1P1;refine H8.mono ?_;rintro e w9 ⟨v7,rfl,rx6,hb⟩;clear H8;replace P1:=P1.below hb;replace rx2:=rx2.below hb;replace hB:=hB.tr hb;clear hb;obtain⟨x6,rfl,rx6⟩:=rx6.sl;have HLx6:Hid ((L (1)).length≤1):=Hd (fr (1) (by have h:1<9223372036854775808:=A3;omega));have c0P1:=P1.c0;have c1P1:=P1.c1;have z0P1:=P1.z0;have z1P1:=P1.z1
 go_wp2_with fail
 replace rx2:=rx2.pset P1 (.slice x2.a x2.n x2.c) (.slice x6.a x6.n x6.c);replace rx6:=rx6.pset P1 (.slice x2.a x2.n x2.c) (.slice x6.a x6.n x6.c);replace hB:=Below.pset hB (by omega:w.heap.size≤w.heap.size) (.slice x2.a x2.n x2.c) (.slice x6.a x6.n x6.c);have P1x:=P1.set (.slice x2.a x2.n x2.c) (.slice x6.a x6.n x6.c);generalize (w9.setCell ⟨w.heap.size,0,none⟩ (.slice x2.a x2.n x2.c)).setCell ⟨w.heap.size,1,none⟩ (.slice x6.a x6.n x6.c)=WW at rx2 rx6 P1x hB ⊢;refine bodyPost_ret (v:=.agg #[.slice x2.a x2.n x2.c,.slice x6.a x6.n x6.c]) ?_ rfl (⟨x2,x6,rfl,rx2,rx6,hB⟩);simp[results,Tryz.f29,go_sem,P1x.c0,P1x.c1]
theorem kR {n k:Nat} (h:(L n).length≤k):(text n).length≤20*k+1:=by
 unfold text;split
 ·simp
 ·have h2:(Dig.bytes (dig 10 n)).length=(dig 10 n).length:=by simp[Dig.bytes]
  have h3:n<18446744073709551616 ^ k:=(cC A3 n k).1 h;have h4:(18446744073709551616:Nat) ^ k≤10 ^ (20*k):=by
   rw[Nat.pow_mul];exact Nat.pow_le_pow_left BD k
  have h5:(dig 10 n).length≤20*k:=(cC A3 n (20*k)).2 (Nat.lt_of_lt_of_le h3 h4);omega
theorem kr (v:Value) (x:Nat) (w:World) (h:aH w v (L x)) (hl:(L x).length≤1000):
  Calls Tryz.prog 58 #[v] w fun e w'=>e= .returned (.string ⟨(text x).toArray⟩)∧Below w.heap.size w w':=by
 have h1:=sx v (L x) w h (bH x) hl;rw[V_L] at h1;exact h1
theorem rF (a b:List UInt8):(⟨a.toArray⟩:ByteArray)++(⟨b.toArray⟩:ByteArray)=⟨(a++b).toArray⟩:=by
 apply ByteArray.ext;rw[ByteArray.data_append];simp
def fF (x y:Nat):List UInt8:=if y=1 then text x else text x++47::text y
theorem uf {x y:Nat} (h:y=1):(⟨(text x).toArray⟩:ByteArray)=⟨(fF x y).toArray⟩:=by unfold fF;rw[if_pos h]
theorem pU {x y:Nat} (h:y≠1):(⟨(text x).toArray⟩:ByteArray)++(⟨#[47]⟩:ByteArray)++(⟨(text y).toArray⟩:ByteArray)=⟨(fF x y).toArray⟩:=by
 unfold fF;rw[if_neg h,show (⟨#[47]⟩:ByteArray)=⟨[(47:UInt8)].toArray⟩ from rfl,rF,rF];simp
theorem pA (a1 b1:Sl) (a b:Nat) (w:World) (ra1:RU w a1 a) (rb1:RU w b1 b) (la:Hid ((L a).length≤500)) (lb:Hid ((L b).length≤500)) (HO:Hid (b=1)):
  Calls Tryz.prog 26 #[.agg #[.slice a1.a a1.n a1.c,.slice b1.a b1.n b1.c]] w fun e w'=>e= .returned (.string ⟨(fF a b).toArray⟩)∧Below w.heap.size w w':=by
 go_enter Tryz.func26,Tryz.ntmps26;have hb:Below w.heap.size w (w.alloc (.cells #[.slice a1.a a1.n a1.c,.slice b1.a b1.n b1.c] 49)):=((Below.refl _ _).alloc lr _)
 replace ra1:=ra1.below hb;replace rb1:=rb1.below hb;have hB:=hb;have P1:ah (w.alloc (.cells #[.slice a1.a a1.n a1.c,.slice b1.a b1.n b1.c] 49)) (w.heap.size) 49 (.slice a1.a a1.n a1.c) (.slice b1.a b1.n b1.c):=by
  have h:=ah.new w 49 (.slice a1.a a1.n a1.c) (.slice b1.a b1.n b1.c);exact zQ
 clear hb;have c0P1:=P1.c0;have c1P1:=P1.c1;have H2:=Hd (jc (.slice b1.a b1.n b1.c) (b) (w.alloc (.cells #[.slice a1.a a1.n a1.c,.slice b1.a b1.n b1.c] 49)) rb1 (Nat.le_trans lb.out A3) true (by simp[HO.out]))
 go_wp2_with fail
 clear c0P1 c1P1;refine H2.mono ?_;rintro e w3 ⟨rfl,hb⟩;clear H2;replace P1:=P1.below hb;replace ra1:=ra1.below hb;replace rb1:=rb1.below hb;replace hB:=hB.tr hb;clear hb;have c0P1:=P1.c0;have c1P1:=P1.c1;have H4:=Hd (kr (.slice a1.a a1.n a1.c) (a) w3 ra1 (Nat.le_trans la.out A3))
 go_wp2_with fail
 clear c0P1 c1P1;refine H4.mono ?_;rintro e w5 ⟨rfl,hb⟩;clear H4;replace P1:=P1.below hb;replace ra1:=ra1.below hb;replace rb1:=rb1.below hb;replace hB:=hB.tr hb;clear hb
 go_wp2_with fail
 go_ret;exact⟨by rw[←uf HO.out];rfl,hB⟩
theorem BO {p:Prop} (h:p:=by have h0:=hX.c0;have h1:=hX.c1;go_simp):p:=h
theorem pZ (a1 b1:Sl) (a b:Nat) (w:World) (ra1:RU w a1 a) (rb1:RU w b1 b) (la:Hid ((L a).length≤500)) (lb:Hid ((L b).length≤500)) (HO:Hid (b≠1)):
  Calls Tryz.prog 26 #[.agg #[.slice a1.a a1.n a1.c,.slice b1.a b1.n b1.c]] w fun e w'=>e= .returned (.string ⟨(fF a b).toArray⟩)∧Below w.heap.size w w':=by
 go_enter Tryz.func26,Tryz.ntmps26;have hb:Below w.heap.size w (w.alloc (.cells #[.slice a1.a a1.n a1.c,.slice b1.a b1.n b1.c] 49)):=((Below.refl _ _).alloc lr _)
 replace ra1:=ra1.below hb;replace rb1:=rb1.below hb;have hB:=hb;have P1:ah (w.alloc (.cells #[.slice a1.a a1.n a1.c,.slice b1.a b1.n b1.c] 49)) (w.heap.size) 49 (.slice a1.a a1.n a1.c) (.slice b1.a b1.n b1.c):=by
  have h:=ah.new w 49 (.slice a1.a a1.n a1.c) (.slice b1.a b1.n b1.c);exact zQ
 clear hb;have c0P1:=P1.c0;have c1P1:=P1.c1;have H2:=Hd (jc (.slice b1.a b1.n b1.c) (b) (w.alloc (.cells #[.slice a1.a a1.n a1.c,.slice b1.a b1.n b1.c] 49)) rb1 (Nat.le_trans lb.out A3) false (by simp[HO.out]))
 go_wp2_with fail
 clear c0P1 c1P1;refine H2.mono ?_;rintro e w3 ⟨rfl,hb⟩;clear H2;replace P1:=P1.below hb;replace ra1:=ra1.below hb;replace rb1:=rb1.below hb;replace hB:=hB.tr hb;clear hb;have hta:=kR la.out;have htb:=kR lb.out;have c0P1:=P1.c0;have c1P1:=P1.c1
 go_wp2_with fail
 clear c0P1 c1P1;have hb:Below w3.heap.size w3 w3.drew:=(Below.refl _ _).drew;replace P1:=P1.below hb;replace ra1:=ra1.below hb;replace rb1:=rb1.below hb;replace hB:=hB.tr hb;clear hb;refine Rd.regionT (fun X=>ah X (w.heap.size) 49 (.slice a1.a a1.n a1.c) (.slice b1.a b1.n b1.c)) [0,1,3,4,5,7,8] (.one 0 (.one 1 (.one 4 (.one 5 (.one 2 (.one 3 (.one 6 (.one 7 (.one 8 .done))))))))) (fun ac W=>∃(y9 y10 y11 y12 y13 y14 y15 y16:Value),ac={ tmps:=List.toArray (.agg #[.slice a1.a a1.n a1.c,.slice b1.a b1.n b1.c]:: .pointer (some ⟨w.heap.size,0,none⟩):: .string ⟨(fF a b).toArray⟩:: .pointer (some ⟨w.heap.size,1,none⟩):: .slice b1.a b1.n b1.c:: .bool false::undef::undef::undef::y9::y10::y11::y12::y13::y14::y15::y16::[]),defers:=[] }∧Below w.heap.size w W) Cx Cx Cx P1 ?tree ?next
 case tree=>
  generalize w3.drew=w4 at P1 ra1 rb1 hB ⊢;refine Rd.tf (.pointer (some ⟨w.heap.size,0,none⟩)) ?_;refine Rd.tg (.slice a1.a a1.n a1.c) ?_ (y:=fun X hX=>BO);refine Rd.tf (.pointer (some ⟨w.heap.size,1,none⟩)) ?_;refine Rd.tg (.slice b1.a b1.n b1.c) ?_ (y:=fun X hX=>BO);refine Rd.tm fun K hK=>?_
  have H5:=Hd (kr (.slice a1.a a1.n a1.c) (a) w4 ra1 (Nat.le_trans la.out A3));go_simp;refine H5.mono ?_;rintro e w6 ⟨rfl,hb⟩;clear H5;replace P1:=P1.below hb;replace ra1:=ra1.below hb;replace rb1:=rb1.below hb;replace hB:=hB.tr hb;clear hb;refine hK _ _ P1 ?_;clear hK K;refine Rd.tg (.string ((⟨(text a).toArray⟩:ByteArray)++(⟨#[47]⟩:ByteArray))) ?_ (y:=fun X _=>by go_simp;omega);refine Rd.tm fun K hK=>?_
  have H7:=Hd (kr (.slice b1.a b1.n b1.c) (b) w6 rb1 (Nat.le_trans lb.out A3));go_simp;refine H7.mono ?_;rintro e w8 ⟨rfl,hb⟩;clear H7;replace P1:=P1.below hb;replace ra1:=ra1.below hb;replace rb1:=rb1.below hb;replace hB:=hB.tr hb;clear hb;refine hK _ _ P1 ?_;clear hK K;refine Rd.tg (.string (((⟨(text a).toArray⟩:ByteArray)++(⟨#[47]⟩:ByteArray))++(⟨(text b).toArray⟩:ByteArray))) ?_ (y:=fun X _=>by go_simp;omega);refine Rd.tf (.string (((⟨(text a).toArray⟩:ByteArray)++(⟨#[47]⟩:ByteArray))++(⟨(text b).toArray⟩:ByteArray))) ?_;exact Rd.tr_end (by rw[←pU HO.out];exact⟨_,_,_,_,_,_,_,_,rfl,hB⟩)
 case next=>
  rintro a3 W ⟨_,_,_,_,_,_,_,_,rfl,hB⟩
  go_wp2_with fail
  go_ret;exact⟨rfl,hB⟩
theorem sn (a1 b1:Sl) (a b:Nat) (w:World) (ra1:RU w a1 a) (rb1:RU w b1 b) (la:Hid ((L a).length≤500)) (lb:Hid ((L b).length≤500)):
  Calls Tryz.prog 26 #[.agg #[.slice a1.a a1.n a1.c,.slice b1.a b1.n b1.c]] w fun e w'=>e= .returned (.string ⟨(fF a b).toArray⟩)∧Below w.heap.size w w':=by
 by_cases h:b=1
 ·exact pA a1 b1 a b w ra1 rb1 la lb (Hd h)
 ·exact pZ a1 b1 a b w ra1 rb1 la lb (Hd h)
end Go.Proofs.YtohifgjeebhijaaGreatDoor
namespace Go.Proofs.YtohifgjeebhijaaGreatDoor
open Go.RowKit Go.Dig Go.Shelf Go.Proofs Go.Rq
structure Sz (r:Rat):Prop where
 pos:0≤r
 num:(L (N r)).length≤100
 den:(L r.den).length≤100
def RQ (w:World) (p q:Sl) (r:Rat):Prop:=Sz r∧RU w p (N r)∧RU w q r.den
def RK (w:World) (p q:Sl) (r:Rat):Prop:=Sz r∧RD w p (N r)∧RD w q r.den
theorem RQ.below {w w':World} {p q:Sl} {r:Rat} (h:RQ w p q r) (hb:Below w.heap.size w w'):RQ w' p q r:=⟨h.1,h.2.1.below hb,h.2.2.below hb⟩
theorem RK.below {w w':World} {p q:Sl} {r:Rat} (h:RK w p q r) (hb:Below w.heap.size w w'):RK w' p q r:=⟨h.1,h.2.1.below hb,h.2.2.below hb⟩
section
variable {w:World} {B:Nat} {t:TypeId} {p q p1 p2:Sl} {r:Rat}
theorem RQ.pset {a b:Option Addr} {n c m d:Nat} (h:RQ w p q r) (hp:ah w B t (.slice a n c) (.slice b m d)) (x' y':Value):RQ ((w.setCell ⟨B,0,none⟩ x').setCell ⟨B,1,none⟩ y') p q r:=
 ⟨h.1,h.2.1.pset hp x' y',h.2.2.pset hp x' y'⟩
theorem RK.pset {a b:Option Addr} {n c m d:Nat} (h:RK w p q r) (hp:ah w B t (.slice a n c) (.slice b m d)) (x' y':Value):RK ((w.setCell ⟨B,0,none⟩ x').setCell ⟨B,1,none⟩ y') p q r:=
 ⟨h.1,h.2.1.pset hp x' y',h.2.2.pset hp x' y'⟩
end
def big (k:Nat):Nat:=2 ^ k
theorem mS (a b:Nat):big a*big b=big (a+b):=(Nat.pow_add 2 a b).symm
theorem uK {a b:Nat} (h:a<b):big a<big b:=Nat.pow_lt_pow_right A3 h
theorem kh {a b:Nat} (h:a≤b):big a≤big b:=Nat.pow_le_pow_right A3 h
theorem B2 {p:Prop} (h:p:=by decide+kernel):p:=h
theorem xz:(18446744073709551616:Nat) ^ 100=big 6400:=B2
theorem jP (n:Nat) (h:n<big 6400):(L n).length≤100:=(cC A3 n 100).2 (by rw[xz];exact h)
theorem Sz.rat {n D:Nat} (hD:D≠0) (hn:n<big 6400) (hd:D<big 6400):Sz (Rq.rat n D):=by
 refine⟨fw n D,?_,?_⟩
 ·rw[kz n hD];exact jP _ (Nat.lt_of_le_of_lt (Nat.div_le_self _ _) hn)
 ·rw[eJ n hD];exact jP _ (Nat.lt_of_le_of_lt (Nat.div_le_self _ _) hd)
theorem qI {a b:Nat} (ha:a≤big 3000) (hb:b≤big 3000):a*b<big 6400:=
 Nat.lt_of_le_of_lt (Nat.mul_le_mul ha hb) (by rw[mS];exact uK BD)
theorem Sz.whole {D B:Nat} {r:Rat} (hD:D≠0) (hw:bX D r) (_h0:0≤r) (hB:r≤B) (hd:D≤big 3000) (hb:B≤big 3000):Sz r:=by
 obtain⟨n,e,hn⟩:=pJ hD hw;rw[e];have h1:(n:Rat)≤((B*D:Nat):Rat):=by rw[←hn,Rat.natCast_mul];exact eK hB
 have h2:n≤B*D:=Rat.natCast_le_natCast.1 h1;exact Sz.rat hD (Nat.lt_of_le_of_lt h2 (qI hb hd)) (Nat.lt_of_le_of_lt hd (uK BD))
theorem wZ (n:Nat):N (n:Rat)=n:=by
 rw[←ru,kz n A3];simp
theorem nz (n:Nat):((n:Rat)).den=1:=by
 rw[←ru,eJ n A3];simp
theorem Sz.nat (n:Nat) (h:n<18446744073709551616):Sz (n:Rat):=by
 have:=fr n h;have:=fr 1 A3;exact⟨Rat.natCast_nonneg,by rw[wZ];omega,by rw[nz];omega⟩
def ev (r s:Rat):Int:=if r<s then -1 else if s<r then 1 else 0
theorem rN {r s:Rat} (h1:0≤r) (h2:0≤s):bJ (N r*s.den) (N s*r.den)=ev r s:=by
 have e1:=cq h1;have e2:=cq h2;have g1:=mE (N r) (N s) r.den_nz s.den_nz;have g2:=mE (N s) (N r) s.den_nz r.den_nz;rw[e1,e2] at g1 g2;unfold bJ ev;simp only[g1,g2]
theorem eE {r s:Rat}:(0<ev r s)↔s<r:=by
 unfold ev;by_cases h1:r<s
 ·rw[if_pos h1];exact⟨fun h=>absurd h BD,fun h=>absurd h (by grind)⟩
 ·rw[if_neg h1];by_cases h2:s<r
  ·rw[if_pos h2];exact⟨fun _=>h2,fun _=>BD⟩
  ·rw[if_neg h2];exact⟨fun h=>absurd h BD,fun h=>absurd h h2⟩
theorem rK {r s:Rat}:(ev r s<0)↔r<s:=by
 unfold ev;by_cases h1:r<s
 ·rw[if_pos h1];exact⟨fun _=>h1,fun _=>BD⟩
 ·rw[if_neg h1];by_cases h2:s<r
  ·rw[if_pos h2];exact⟨fun h=>absurd h BD,fun h=>absurd h h1⟩
  ·rw[if_neg h2];exact⟨fun h=>absurd h BD,fun h=>absurd h h1⟩
theorem tY {r s:Rat} (h1:0≤r) (h2:0≤s):N (r+s)=(N r*s.den+N s*r.den) / Nat.gcd (N r*s.den+N s*r.den) (r.den*s.den)∧(r+s).den=r.den*s.den / Nat.gcd (N r*s.den+N s*r.den) (r.den*s.den):=by
 have e:r+s=Rq.rat (N r*s.den+N s*r.den) (r.den*s.den):=by rw[←xq _ _ r.den_nz s.den_nz,cq h1,cq h2]
 have hz:=Nat.mul_ne_zero r.den_nz s.den_nz;exact⟨by
  conv=>lhs;rw[e]
  rw[kz _ hz],by
   conv=>lhs;rw[e]
   rw[eJ _ hz]⟩
theorem sub_le {r s:Rat} (h1:0≤r) (h2:0≤s) (h:s≤r):N s*r.den≤N r*s.den:=by
 refine Nat.not_lt.1 fun h3=>?_
 have:=(mE (N r) (N s) r.den_nz s.den_nz).2 h3;rw[cq h1,cq h2] at this;grind
theorem lM {r s:Rat} (h1:0≤r) (h2:0≤s) (h:s≤r):N (r - s)=(N r*s.den - N s*r.den) / Nat.gcd (N r*s.den - N s*r.den) (r.den*s.den)∧(r - s).den=r.den*s.den / Nat.gcd (N r*s.den - N s*r.den) (r.den*s.den):=by
 have e:r - s=Rq.rat (N r*s.den - N s*r.den) (r.den*s.den):=by rw[←xn _ _ r.den_nz s.den_nz (sub_le h1 h2 h),cq h1,cq h2]
 have hz:=Nat.mul_ne_zero r.den_nz s.den_nz;exact⟨by
  conv=>lhs;rw[e]
  rw[kz _ hz],by
   conv=>lhs;rw[e]
   rw[eJ _ hz]⟩
theorem mg {r s:Rat} (h1:0≤r) (h2:0≤s):N (r*s)=(N r*N s) / Nat.gcd (N r*N s) (r.den*s.den)∧(r*s).den=r.den*s.den / Nat.gcd (N r*N s) (r.den*s.den):=by
 have e:r*s=Rq.rat (N r*N s) (r.den*s.den):=by rw[←xo _ _ r.den_nz s.den_nz,cq h1,cq h2]
 have hz:=Nat.mul_ne_zero r.den_nz s.den_nz;exact⟨by
  conv=>lhs;rw[e]
  rw[kz _ hz],by
   conv=>lhs;rw[e]
   rw[eJ _ hz]⟩
theorem wS {s:Rat} (h1:0≤s) (h2:s≠0):N s≠0:=by
 intro e;have:=cq h1;rw[e] at this;apply h2;rw[←this,cA];have:=aR s.den_nz;grind
theorem lK {r s:Rat} (h1:0≤r) (h2:0≤s) (h:s≠0):N (r / s)=(N r*s.den) / Nat.gcd (N r*s.den) (N s*r.den)∧(r / s).den=N s*r.den / Nat.gcd (N r*s.den) (N s*r.den):=by
 have e:r / s=Rq.rat (N r*s.den) (N s*r.den):=by rw[←ye _ r.den_nz s.den_nz (wS h2 h),cq h1,cq h2]
 have hz:=Nat.mul_ne_zero (wS h2 h) r.den_nz;exact⟨by
  conv=>lhs;rw[e]
  rw[kz _ hz],by
   conv=>lhs;rw[e]
   rw[eJ _ hz]⟩
section
variable (p q p2 q2:Sl) (r s:Rat) (w:World)
theorem zE (h1:RQ w p q r) (h2:RQ w p2 q2 s) (hz:Sz (r*s)):
  Calls Tryz.prog 21 #[.agg #[.slice p.a p.n p.c,.slice q.a q.n q.c],.agg #[.slice p2.a p2.n p2.c,.slice q2.a q2.n q2.c]] w fun e w'=>∃x y:Sl,e= .returned (.agg #[.slice x.a x.n x.c,.slice y.a y.n y.c])∧RQ w' x y (r*s)∧Below w.heap.size w w':=by
 refine(uR p q p2 q2 (N r) r.den (N s) s.den w h1.2.1 h1.2.2 h2.2.1 h2.2.2 (Hd h1.1.num) (Hd h1.1.den) (Hd h2.1.num) (Hd h2.1.den) (Hd (Nat.mul_ne_zero r.den_nz s.den_nz))).mono ?_;rintro e w' ⟨x,y,rfl,hx,hy,hb⟩;have e:=mg h1.1.pos h2.1.pos;refine⟨x,y,rfl,⟨hz,?_,?_⟩,hb⟩
 ·rw[e.1];exact hx
 ·rw[e.2];exact hy
theorem zA (h1:RQ w p q r) (h2:RQ w p2 q2 s) (hz:Sz (r - s)) (hle:s≤r):
  Calls Tryz.prog 179 #[.agg #[.slice p.a p.n p.c,.slice q.a q.n q.c],.agg #[.slice p2.a p2.n p2.c,.slice q2.a q2.n q2.c]] w fun e w'=>∃x y:Sl,e= .returned (.tuple #[.agg #[.slice x.a x.n x.c,.slice y.a y.n y.c],.int .i64 0])∧RQ w' x y (r - s)∧Below w.heap.size w w':=by
 refine(vR p q p2 q2 (N r) r.den (N s) s.den w h1.2.1 h1.2.2 h2.2.1 h2.2.2 (Hd h1.1.num) (Hd h1.1.den) (Hd h2.1.num) (Hd h2.1.den) (Hd (sub_le h1.1.pos h2.1.pos hle)) (Hd (Nat.mul_ne_zero r.den_nz s.den_nz))).mono ?_;rintro e w' ⟨x,y,rfl,hx,hy,hb⟩;have e:=lM h1.1.pos h2.1.pos hle;refine⟨x,y,rfl,⟨hz,?_,?_⟩,hb⟩
 ·rw[e.1];exact hx
 ·rw[e.2];exact hy
theorem ze (h1:RQ w p q r) (h2:RQ w p2 q2 s) (hz:Sz (r / s)) (hs:s≠0):
  Calls Tryz.prog 178 #[.agg #[.slice p.a p.n p.c,.slice q.a q.n q.c],.agg #[.slice p2.a p2.n p2.c,.slice q2.a q2.n q2.c]] w fun e w'=>∃x y:Sl,e= .returned (.tuple #[.agg #[.slice x.a x.n x.c,.slice y.a y.n y.c],.int .i64 0])∧RQ w' x y (r / s)∧Below w.heap.size w w':=by
 refine(ve p q p2 q2 (N r) r.den (N s) s.den w h1.2.1 h1.2.2 h2.2.1 h2.2.2 (Hd h1.1.num) (Hd h1.1.den) (Hd h2.1.num) (Hd h2.1.den) (Hd (Nat.mul_ne_zero (wS h2.1.pos hs) r.den_nz))).mono ?_;rintro e w' ⟨x,y,rfl,hx,hy,hb⟩;have e:=lK h1.1.pos h2.1.pos hs;refine⟨x,y,rfl,⟨hz,?_,?_⟩,hb⟩
 ·rw[e.1];exact hx
 ·rw[e.2];exact hy
theorem yS (h1:RK w p q r) (h2:RK w p2 q2 s) (hz:Sz (r+s)):
  Calls Tryz.prog 106 #[.agg #[.slice p.a p.n p.c,.slice q.a q.n q.c],.agg #[.slice p2.a p2.n p2.c,.slice q2.a q2.n q2.c]] w fun e w'=>∃x y:Sl,e= .returned (.agg #[.slice x.a x.n x.c,.slice y.a y.n y.c])∧RK w' x y (r+s)∧Below w.heap.size w w':=by
 refine(sD p q p2 q2 (N r) r.den (N s) s.den w h1.2.1 h1.2.2 h2.2.1 h2.2.2 (Hd h1.1.num) (Hd h1.1.den) (Hd h2.1.num) (Hd h2.1.den) (Hd (Nat.mul_ne_zero r.den_nz s.den_nz))).mono ?_;rintro e w' ⟨x,y,rfl,hx,hy,hb⟩;have e:=tY h1.1.pos h2.1.pos;refine⟨x,y,rfl,⟨hz,?_,?_⟩,hb⟩
 ·rw[e.1];exact hx
 ·rw[e.2];exact hy
theorem tn (h1:RK w p q r) (h2:RK w p2 q2 s) (hz:Sz (r*s)):
  Calls Tryz.prog 108 #[.agg #[.slice p.a p.n p.c,.slice q.a q.n q.c],.agg #[.slice p2.a p2.n p2.c,.slice q2.a q2.n q2.c]] w fun e w'=>∃x y:Sl,e= .returned (.agg #[.slice x.a x.n x.c,.slice y.a y.n y.c])∧RK w' x y (r*s)∧Below w.heap.size w w':=by
 refine(tN p q p2 q2 (N r) r.den (N s) s.den w h1.2.1 h1.2.2 h2.2.1 h2.2.2 (Hd h1.1.num) (Hd h1.1.den) (Hd h2.1.num) (Hd h2.1.den) (Hd (Nat.mul_ne_zero r.den_nz s.den_nz))).mono ?_;rintro e w' ⟨x,y,rfl,hx,hy,hb⟩;have e:=mg h1.1.pos h2.1.pos;refine⟨x,y,rfl,⟨hz,?_,?_⟩,hb⟩
 ·rw[e.1];exact hx
 ·rw[e.2];exact hy
theorem yD (h1:RK w p q r) (h2:RK w p2 q2 s) (hz:Sz (r - s)) (hle:s≤r):
  Calls Tryz.prog 105 #[.agg #[.slice p.a p.n p.c,.slice q.a q.n q.c],.agg #[.slice p2.a p2.n p2.c,.slice q2.a q2.n q2.c]] w fun e w'=>∃x y:Sl,e= .returned (.agg #[.slice x.a x.n x.c,.slice y.a y.n y.c])∧RK w' x y (r - s)∧Below w.heap.size w w':=by
 refine(tK p q p2 q2 (N r) r.den (N s) s.den w h1.2.1 h1.2.2 h2.2.1 h2.2.2 (Hd h1.1.num) (Hd h1.1.den) (Hd h2.1.num) (Hd h2.1.den) (Hd (sub_le h1.1.pos h2.1.pos hle)) (Hd (Nat.mul_ne_zero r.den_nz s.den_nz))).mono ?_;rintro e w' ⟨x,y,rfl,hx,hy,hb⟩;have e:=lM h1.1.pos h2.1.pos hle;refine⟨x,y,rfl,⟨hz,?_,?_⟩,hb⟩
 ·rw[e.1];exact hx
 ·rw[e.2];exact hy
theorem zC (h1:RK w p q r) (h2:RK w p2 q2 s) (hz:Sz (r / s)) (hs:s≠0):
  Calls Tryz.prog 107 #[.agg #[.slice p.a p.n p.c,.slice q.a q.n q.c],.agg #[.slice p2.a p2.n p2.c,.slice q2.a q2.n q2.c]] w fun e w'=>∃x y:Sl,e= .returned (.agg #[.slice x.a x.n x.c,.slice y.a y.n y.c])∧RK w' x y (r / s)∧Below w.heap.size w w':=by
 refine(sS p q p2 q2 (N r) r.den (N s) s.den w h1.2.1 h1.2.2 h2.2.1 h2.2.2 (Hd h1.1.num) (Hd h1.1.den) (Hd h2.1.num) (Hd h2.1.den) (Hd (Nat.mul_ne_zero r.den_nz (wS h2.1.pos hs)))).mono ?_;rintro e w' ⟨x,y,rfl,hx,hy,hb⟩;have e:=lK h1.1.pos h2.1.pos hs;rw[Nat.mul_comm r.den (N s)] at hx hy;refine⟨x,y,rfl,⟨hz,?_,?_⟩,hb⟩
 ·rw[e.1];exact hx
 ·rw[e.2];exact hy
theorem yG (h1:RQ w p q r) (h2:RQ w p2 q2 s):
  Calls Tryz.prog 19 #[.agg #[.slice p.a p.n p.c,.slice q.a q.n q.c],.agg #[.slice p2.a p2.n p2.c,.slice q2.a q2.n q2.c]] w fun e w'=>e= .returned (.int .i64 (ev r s))∧Below w.heap.size w w':=by
 rw[←rN h1.1.pos h2.1.pos];exact wc p q p2 q2 (N r) r.den (N s) s.den w h1.2.1 h1.2.2 h2.2.1 h2.2.2 (Hd h1.1.num) (Hd h1.1.den) (Hd h2.1.num) (Hd h2.1.den)
theorem pX (h1:RK w p q r) (h2:RK w p2 q2 s):
  Calls Tryz.prog 102 #[.agg #[.slice p.a p.n p.c,.slice q.a q.n q.c],.agg #[.slice p2.a p2.n p2.c,.slice q2.a q2.n q2.c]] w fun e w'=>e= .returned (.int .i64 (ev r s))∧Below w.heap.size w w':=by
 rw[←rN h1.1.pos h2.1.pos];exact sR p q p2 q2 (N r) r.den (N s) s.den w h1.2.1 h1.2.2 h2.2.1 h2.2.2 (Hd h1.1.num) (Hd h1.1.den) (Hd h2.1.num) (Hd h2.1.den)
theorem Qis (h1:RQ w p q r) (h2:RK w p2 q2 r):
  Calls Tryz.prog 15 #[.agg #[.slice p.a p.n p.c,.slice q.a q.n q.c],.agg #[.slice p2.a p2.n p2.c,.slice q2.a q2.n q2.c]] w fun e w'=>e= .returned (.bool true)∧Below w.heap.size w w':=
 xm p q p2 q2 (N r) r.den w h1.2.1 h1.2.2 h2.2.1 h2.2.2 (Hd (Nat.le_trans h1.1.num A3)) (Hd (Nat.le_trans h1.1.den A3))
theorem nU (h1:RQ w p q r):
  Calls Tryz.prog 171 #[.agg #[.slice p.a p.n p.c,.slice q.a q.n q.c]] w fun e w'=>e= .returned (.bool true)∧Below w.heap.size w w':=
 tB p q (N r) r.den w h1.2.1 h1.2.2 (Hd (Nat.le_trans h1.1.num A3)) (Hd (Nat.le_trans h1.1.den A3)) (Hd r.den_nz) true (Hd (by simp[zw h1.1.pos]))
theorem yt (h1:RQ w p q r):
  Calls Tryz.prog 26 #[.agg #[.slice p.a p.n p.c,.slice q.a q.n q.c]] w fun e w'=>e= .returned (.string ⟨(fF (N r) r.den).toArray⟩)∧Below w.heap.size w w':=
 sn p q (N r) r.den w h1.2.1 h1.2.2 (Hd (Nat.le_trans h1.1.num A3)) (Hd (Nat.le_trans h1.1.den A3))
end
theorem AW {p:Prop} (h:p:=by rintro e w' ⟨x,y,rfl,hx,hy,hb⟩;exact⟨x,y,rfl,⟨Sz.nat n (by omega),by rw[wZ];exact hx,by rw[nz];exact hy⟩,hb⟩):p:=h
theorem i6 (n:Nat) (hn:n<9223372036854775808) (w:World):
  Calls Tryz.prog 18 #[.int .i64 (n:Int)] w fun e w'=>∃x y:Sl,e= .returned (.agg #[.slice x.a x.n x.c,.slice y.a y.n y.c])∧RQ w' x y (n:Rat)∧Below w.heap.size w w':=by
 refine(vf n (Hd hn) w).mono ?_;exact AW
theorem jf (n:Nat) (hn:n<9223372036854775808) (w:World):
  Calls Tryz.prog 29 #[.int .i64 (n:Int)] w fun e w'=>∃x y:Sl,e= .returned (.agg #[.slice x.a x.n x.c,.slice y.a y.n y.c])∧RK w' x y (n:Rat)∧Below w.heap.size w w':=by
 refine(vT n (Hd hn) w).mono ?_;exact AW
theorem Kof (v0 v1:Value) (a b:Nat) (w:World) (h0:Row w v0 (D a)) (h1:Row w v1 (D b)) (ha:a<big 6400) (hb:b<big 6400) (hz:b≠0):
  Calls Tryz.prog 127 #[v0,v1] w fun e w'=>∃x y:Sl,e= .returned (.agg #[.slice x.a x.n x.c,.slice y.a y.n y.c])∧RK w' x y (rat a b)∧Below w.heap.size w w':=by
 obtain⟨p,rfl,h0⟩:=h0.sl;obtain⟨q,rfl,h1⟩:=h1.sl;refine(jQ p q a b w h0 h1 (Hd (Nat.le_trans (jP a ha) A3)) (Hd (Nat.le_trans (jP b hb) A3)) (Hd hz)).mono ?_;rintro e w' ⟨x,y,rfl,hx,hy,hb⟩;exact⟨x,y,rfl,⟨Sz.rat hz ha ‹_›,by rw[kz a hz];exact hx,by rw[eJ a hz];exact hy⟩,hb⟩
set_option maxHeartbeats 1000000
def iI (w:World) (v:Value) (l:List Int):Prop:=
 ∃ad cap,v= .slice ad l.length cap∧l.length≤cap∧(l≠[]→∃b off,ad=some ⟨b,off,none⟩∧b<w.heap.size∧∀j,j<l.length→w.cell? ⟨b,off+j,none⟩=some (.int .i64 (l.getD j 0)))
abbrev RI (w:World) (p:Sl) (l:List Int):Prop:=iI w (.slice p.a p.n p.c) l
theorem iI.below {w w':World} {v:Value} {l:List Int} (h:iI w v l) (hb:Below w.heap.size w w'):iI w' v l:=by
 exact Ar
theorem iI.sl {w:World} {v:Value} {l:List Int} (h:iI w v l): ∃p:Sl,v= .slice p.a p.n p.c∧RI w p l:=by
 obtain⟨ad,cap,rfl,h2⟩:=h;exact⟨⟨ad,l.length,cap⟩,rfl,ad,cap,rfl,h2⟩
theorem RI.len {w:World} {p:Sl} {l:List Int} (h:RI w p l):p.n=l.length:=by
 obtain⟨ad,cap,e,_⟩:=h;injection e with e1 e2 e3
theorem RI.open {w:World} {p:Sl} {l:List Int} (h:RI w p l) (hne:l≠[]): ∃b off,p.a=some ⟨b,off,none⟩∧b<w.heap.size∧∀j,j<l.length→w.cell? ⟨b,off+j,none⟩=some (.int .i64 (l.getD j 0)):=by
 obtain⟨ad,cap,e,_,h2⟩:=h;injection e with e1 e2 e3;rw[e1];exact h2 hne
section
variable {w:World} {B:Nat} {t:TypeId}
theorem iI.pset {v:Value} {l:List Int} {p r:Option Addr} {n c m d:Nat} (h:iI w v l) (hp:ah w B t (.slice p n c) (.slice r m d)) (x' y':Value):iI ((w.setCell ⟨B,0,none⟩ x').setCell ⟨B,1,none⟩ y') v l:=by
 obtain⟨ad,cap,e,h1,h2⟩:=h;refine⟨ad,cap,e,h1,fun hne=>?_⟩;obtain⟨b,off,rfl,hb,hc⟩:=h2 hne;have hbB:b≠B:=by
  rintro rfl;have h3:=hc 0 (List.length_pos_iff.2 hne);simp only[World.cell?,show w.heap[b]? =_ from hp] at h3
  match off,h3 with
  | 0,h3=>simp at h3
  | 1,h3=>simp at h3
  | k+2,h3=>simp at h3
 exact AB
end
theorem nH {l:List Int} {k:Nat} (h:k<l.length):l.drop k=l.getD k 0::l.drop (k+1):=by
 rw[List.drop_eq_getElem_cons h];simp[h]
theorem lU {l:List Int} {k:Nat} (h:k<l.length):l.getD k 0∈l:=by
 simp[List.getD_eq_getElem?_getD,h]
theorem jC (p:Sl) (l:List Int) (w:World) (h:RI w p l) (hl:l.length≤100) (hx: ∀x∈l,0≤x∧x≤10000):
  Calls Tryz.prog 175 #[.slice p.a p.n p.c] w fun e w'=>e= .returned (.int .i64 l.sum)∧w=w':=by
 rw[h.len];have HX:=Hd hx;clear hx;by_cases hne:l=[]
 ·subst hne;clear h;go_enter Tryz.func175,Tryz.ntmps175
  go_wp2_with fail
  refine wp_loop_rounds 1 ?_;rw[rounds_succ]
  go_wp2_with fail
  go_ret;exact⟨rfl,rfl⟩
 ·obtain⟨b,off,ea,_,hc⟩:=h.open hne;rw[ea];have HC:=Hd hc;clear hc h;generalize hs:l.sum=S;have HS:=Hd hs;clear hs;go_enter Tryz.func175,Tryz.ntmps175
  go_wp2_with fail
  go_loop [3,8] (fun s i=>∃(k:Nat) (z:Int),k≤l.length∧i= .int .i64 k∧s= .int .i64 z∧0≤z∧z≤10000*k∧Hid (S=z+(l.drop k).sum)) (fun _ i=>l.length - (intOf i).toNat)
  case atStart=>exact⟨0,0,Nat.zero_le _,rfl,rfl,A3,A3,Hd (by rw[List.drop_zero,HS.out];omega)⟩
  case round=>
   obtain⟨k,z,hk,rfl,rfl,hz0,hz1,H⟩:=hrel;by_cases hlt:k<l.length
   ·have hc:=HC.out k hlt;have hx:=HX.out _ (lU hlt);have h1:=H.out;rw[nH hlt,List.sum_cons] at h1;generalize l.getD k 0=c at hc hx h1;obtain⟨hx0,hx1⟩:=hx;have H2:Hid (S=(z+c)+(l.drop (k+1)).sum):=Hd A3;clear h1 H
    go_wp2_with fail
    go_round
    case rel=>exact⟨k+1,z+c,A3,Cw,rfl,A3,A3,H2⟩
    case measure=>simp[intOf];omega
   ·have h1:=H.out;rw[List.drop_of_length_le A3,List.sum_nil] at h1;have HF:Hid (S=z):=Hd A3;clear h1 H
    go_wp2_with fail
    go_ret;refine⟨?_,rfl⟩;rw[HF.out];rfl
def noW (x:Int):Bool:=decide (x<1)||decide (10000<x)
def noC (x:Int):Bool:=decide (x<0)||decide (64<x)
theorem dS (x:Int) (w:World):Calls Tryz.prog 173 #[.int .i64 x] w fun e w'=>e= .returned (.bool (noW x))∧w=w':=by
 unfold noW;go_enter Tryz.func173,Tryz.ntmps173;by_cases h:x<1
 ·go_wp2_with fail
  go_ret;exact⟨by simp[h],rfl⟩
 ·go_wp2_with fail
  go_ret;exact⟨by
   have h': ¬x<1:=A3
   simp[h'],rfl⟩
theorem i8 (x:Int) (w:World):Calls Tryz.prog 174 #[.int .i64 x] w fun e w'=>e= .returned (.bool (noC x))∧w=w':=by
 unfold noC;go_enter Tryz.func174,Tryz.ntmps174;by_cases h:x<0
 ·go_wp2_with fail
  go_ret;exact⟨by simp[h],rfl⟩
 ·go_wp2_with fail
  go_ret;exact⟨by
   have h': ¬x<0:=A3
   simp[h'],rfl⟩
theorem sV (p:Sl) (l:List Int) (w:World) (h:RI w p l) (hl:l.length≤200) (g:Nat) (φ:Int→Bool) (eg: ∀args w,(callFunc g args).run Tryz.prog w= .ok (.enter g args) w)
  (hf: ∀x w,Calls Tryz.prog g #[.int .i64 x] w fun e w'=>e= .returned (.bool (φ x))∧w=w'):
  Calls Tryz.prog 187 #[.slice p.a p.n p.c,.func (.func g) #[] #[]] w fun e w'=>∃z:Int,e= .returned (.int .i64 z)∧decide (0≤z)=l.any φ∧w=w':=by
 rw[h.len];have HFn:=Hd hf;clear hf;by_cases hne:l=[]
 ·subst hne;clear h;go_enter Tryz.func187,Tryz.ntmps187
  go_wp2_with fail
  refine wp_loop_rounds 1 ?_;rw[rounds_succ]
  go_wp2_with fail
  go_ret;exact⟨-1,rfl,B4,rfl⟩
 ·obtain⟨b,off,ea,_,hc⟩:=h.open hne;rw[ea];have HC:=Hd hc;clear hc h;generalize hs:l.any φ=S;have HS:=Hd hs;clear hs;go_enter Tryz.func187,Tryz.ntmps187
  go_wp2_with fail
  go_loop [8] (fun i=>∃(k:Nat),k≤l.length∧i= .int .i64 k∧Hid (S=(l.drop k).any φ)) (fun i=>l.length - (intOf i).toNat)
  case atStart=>exact⟨0,Nat.zero_le _,rfl,Hd (by rw[List.drop_zero,HS.out])⟩
  case round=>
   obtain⟨k,hk,rfl,H⟩:=hrel;by_cases hlt:k<l.length
   ·have hc:=HC.out k hlt;have h1:=H.out;rw[nH hlt,List.any_cons] at h1;generalize l.getD k 0=c at hc h1;cases hp:φ c
    ·rw[hp] at h1;have H2:=Hd h1;have HG:=Hd (HFn.out c w);rw[hp] at HG;clear h1 H
     go_wp2_with fail
     refine HG.mono ?_;rintro e w' ⟨rfl,rfl⟩
     go_wp2_with fail
     go_round
     case rel=>exact⟨k+1,A3,Cw,Hd (by rw[H2.out,Bool.false_or])⟩
     case measure=>simp[intOf];omega
    ·rw[hp] at h1;have H2:=Hd h1;have HG:=Hd (HFn.out c w);rw[hp] at HG;clear h1 H
     go_wp2_with fail
     refine HG.mono ?_;rintro e w' ⟨rfl,rfl⟩
     go_wp2_with fail
     go_ret;exact⟨k,rfl,by rw[H2.out];simp,rfl⟩
   ·have h1:=H.out;rw[List.drop_of_length_le A3] at h1;have HF:=Hd h1;clear h1 H
    go_wp2_with fail
    go_ret;exact⟨-1,rfl,by rw[HF.out];simp,rfl⟩
theorem cH (p:Sl) (l:List Int) (w:World) (h:RI w p l) (hl:l.length≤200) (g:Nat) (φ:Int→Bool) (eg: ∀args w,(callFunc g args).run Tryz.prog w= .ok (.enter g args) w)
  (hf: ∀x w,Calls Tryz.prog g #[.int .i64 x] w fun e w'=>e= .returned (.bool (φ x))∧w=w'):
  Calls Tryz.prog 172 #[.slice p.a p.n p.c,.func (.func g) #[] #[]] w fun e w'=>e= .returned (.bool (l.any φ))∧w=w':=by
 have H:=Hd (sV p l w h hl g φ eg hf);clear hf;go_enter Tryz.func172,Tryz.ntmps172
 go_wp2_with fail
 refine H.mono ?_;rintro e w' ⟨z,rfl,hz,rfl⟩;have HZ:=Hd hz;clear hz
 go_wp2_with fail
 go_ret;exact⟨by rw[←HZ.out];rfl,rfl⟩
set_option maxRecDepth 100000
set_option maxHeartbeats 4000000
theorem iA (wt cp:Nat) (p q:Sl) (l:Rat) (w:World) (hl:RQ w p q l) (hw:wt≤10000) (HZ:Hid (Sz (l*wt))):
  Calls Tryz.prog 155 #[.agg #[.int .i64 (wt:Int),.int .i64 (cp:Int)],.agg #[.slice p.a p.n p.c,.slice q.a q.n q.c]] w fun e w'=>∃x y:Sl,e= .returned (.agg #[.slice x.a x.n x.c,.slice y.a y.n y.c])∧RQ w' x y (l*(wt:Rat))∧Below w.heap.size w w':=by
 go_enter Tryz.func155,Tryz.ntmps155;have hb:Below w.heap.size w (((w.alloc (.cells #[.int .i64 (wt:Int),.int .i64 (cp:Int)] 201)).alloc (.cells #[.slice p.a p.n p.c,.slice q.a q.n q.c] 49)).alloc (.cells #[.slice none 0 0,.slice none 0 0] 49)):=((((Below.refl _ _).alloc lr _).alloc B4 _).alloc Cq _)
 replace hl:=hl.below hb;have hB:=hb;have P1:ah (((w.alloc (.cells #[.int .i64 (wt:Int),.int .i64 (cp:Int)] 201)).alloc (.cells #[.slice p.a p.n p.c,.slice q.a q.n q.c] 49)).alloc (.cells #[.slice none 0 0,.slice none 0 0] 49)) (w.heap.size) 201 (.int .i64 (wt:Int)) (.int .i64 (cp:Int)):=by
  have h:=((ah.new w 201 (.int .i64 (wt:Int)) (.int .i64 (cp:Int))).alloc (.cells #[.slice p.a p.n p.c,.slice q.a q.n q.c] 49)).alloc (.cells #[.slice none 0 0,.slice none 0 0] 49);exact zQ
 have P2:ah (((w.alloc (.cells #[.int .i64 (wt:Int),.int .i64 (cp:Int)] 201)).alloc (.cells #[.slice p.a p.n p.c,.slice q.a q.n q.c] 49)).alloc (.cells #[.slice none 0 0,.slice none 0 0] 49)) (w.heap.size+1) 49 (.slice p.a p.n p.c) (.slice q.a q.n q.c):=by
  have h:=(ah.new (w.alloc (.cells #[.int .i64 (wt:Int),.int .i64 (cp:Int)] 201)) 49 (.slice p.a p.n p.c) (.slice q.a q.n q.c)).alloc (.cells #[.slice none 0 0,.slice none 0 0] 49);exact zQ
 have P3:ah (((w.alloc (.cells #[.int .i64 (wt:Int),.int .i64 (cp:Int)] 201)).alloc (.cells #[.slice p.a p.n p.c,.slice q.a q.n q.c] 49)).alloc (.cells #[.slice none 0 0,.slice none 0 0] 49)) (w.heap.size+1+1) 49 (.slice none 0 0) (.slice none 0 0):=by
  have h:=ah.new ((w.alloc (.cells #[.int .i64 (wt:Int),.int .i64 (cp:Int)] 201)).alloc (.cells #[.slice p.a p.n p.c,.slice q.a q.n q.c] 49)) 49 (.slice none 0 0) (.slice none 0 0);exact zQ
 clear hb;have c0P1:=P1.c0;have c1P1:=P1.c1;have c0P2:=P2.c0;have c1P2:=P2.c1;have c0P3:=P3.c0;have c1P3:=P3.c1
 go_wp2_with fail
 clear c0P1 c1P1 c0P2 c1P2 c0P3 c1P3;have hb:Below (((w.alloc (.cells #[.int .i64 (wt:Int),.int .i64 (cp:Int)] 201)).alloc (.cells #[.slice p.a p.n p.c,.slice q.a q.n q.c] 49)).alloc (.cells #[.slice none 0 0,.slice none 0 0] 49)).heap.size (((w.alloc (.cells #[.int .i64 (wt:Int),.int .i64 (cp:Int)] 201)).alloc (.cells #[.slice p.a p.n p.c,.slice q.a q.n q.c] 49)).alloc (.cells #[.slice none 0 0,.slice none 0 0] 49)) (((w.alloc (.cells #[.int .i64 (wt:Int),.int .i64 (cp:Int)] 201)).alloc (.cells #[.slice p.a p.n p.c,.slice q.a q.n q.c] 49)).alloc (.cells #[.slice none 0 0,.slice none 0 0] 49)).drew:=(Below.refl _ _).drew;replace P1:=P1.below hb;replace P2:=P2.below hb;replace P3:=P3.below hb;replace hl:=hl.below hb;replace hB:=hB.tr hb;clear hb;refine Rd.regionT (fun X=>ah X (w.heap.size) 201 (.int .i64 (wt:Int)) (.int .i64 (cp:Int))∧ah X (w.heap.size+1) 49 (.slice p.a p.n p.c) (.slice q.a q.n q.c)) [0,1,3] (.one 0 (.one 1 (.one 3 (.one 2 (.one 4 (.one 5 .done)))))) (fun ac W=>∃(x:Sl) (y:Sl) (y5 y6 y7 y8 y9:Value),ac={ tmps:=List.toArray (.agg #[.int .i64 (wt:Int),.int .i64 (cp:Int)]:: .agg #[.slice p.a p.n p.c,.slice q.a q.n q.c]:: .pointer (some ⟨w.heap.size,0,none⟩):: .pointer (some ⟨w.heap.size+1,0,none⟩):: .pointer (some ⟨w.heap.size+1+1,0,none⟩)::y5::y6::y7::y8::y9::[]),defers:=[] }∧RQ W x y (l*(wt:Rat))∧ah W (w.heap.size+1+1) 49 (.slice x.a x.n x.c) (.slice y.a y.n y.c)∧Below w.heap.size w W) Cx Cx Cx ⟨P1,P2⟩ ?tree ?next
 case tree=>
  generalize (((w.alloc (.cells #[.int .i64 (wt:Int),.int .i64 (cp:Int)] 201)).alloc (.cells #[.slice p.a p.n p.c,.slice q.a q.n q.c] 49)).alloc (.cells #[.slice none 0 0,.slice none 0 0] 49)).drew=w4 at P1 P2 P3 hl hB ⊢;refine Rd.tf (.pointer (some ⟨w.heap.size,0,none⟩)) ?_;refine Rd.tg (.int .i64 (wt:Int)) ?_ (y:=fun X hX=>A5);refine Rd.tg (.agg #[.slice p.a p.n p.c,.slice q.a q.n q.c]) ?_ (y:=fun X hX=>B5);refine Rd.tm fun K hK=>?_
  have H7:=Hd (i6 (wt) A3 w4);go_simp;refine H7.mono ?_;rintro e w8 ⟨x5,y6,rfl,rx5,hb⟩;clear H7;replace P1:=P1.below hb;replace P2:=P2.below hb;replace P3:=P3.below hb;replace hl:=hl.below hb;replace hB:=hB.tr hb;clear hb;refine hK _ _ ⟨P1,P2⟩ ?_;clear hK K;refine Rd.tm fun K hK=>?_
  have H11:=Hd (zE x5 y6 p q (((wt:Nat):Rat)) (l) w8 rx5 hl (by rw[Rat.mul_comm];exact HZ.out));go_simp;refine H11.mono ?_;rintro e w12 ⟨x9,y10,rfl,rx9,hb⟩;clear H11;replace P1:=P1.below hb;replace P2:=P2.below hb;replace P3:=P3.below hb;replace hl:=hl.below hb;replace rx5:=rx5.below hb;replace hB:=hB.tr hb;clear hb;rw[Rat.mul_comm] at rx9;refine hK _ _ ⟨P1,P2⟩ ?_;clear hK K;refine Rd.tm fun K hK=>?_
  have c0P3:=P3.c0;have c1P3:=P3.c1;have z0P3:=P3.z0;have z1P3:=P3.z1;go_simp;clear c0P3 c1P3 z0P3 z1P3;replace hl:=hl.pset P3 (.slice x9.a x9.n x9.c) (.slice y10.a y10.n y10.c);replace rx5:=rx5.pset P3 (.slice x9.a x9.n x9.c) (.slice y10.a y10.n y10.c);replace rx9:=rx9.pset P3 (.slice x9.a x9.n x9.c) (.slice y10.a y10.n y10.c);replace P1:=P1.other (B:=w.heap.size+1+1) A3 (.slice x9.a x9.n x9.c) (.slice y10.a y10.n y10.c);replace P2:=P2.other (B:=w.heap.size+1+1) A3 (.slice x9.a x9.n x9.c) (.slice y10.a y10.n y10.c);replace hB:=Below.pset (B:=w.heap.size+1+1) hB A3 (.slice x9.a x9.n x9.c) (.slice y10.a y10.n y10.c);replace P3:=P3.set (.slice x9.a x9.n x9.c) (.slice y10.a y10.n y10.c);generalize (w12.setCell ⟨w.heap.size+1+1,0,none⟩ (.slice x9.a x9.n x9.c)).setCell ⟨w.heap.size+1+1,1,none⟩ (.slice y10.a y10.n y10.c)=w13 at P1 P2 P3 hl rx5 rx9 hB ⊢;refine hK _ _ ⟨P1,P2⟩ ?_;clear hK K;exact Rd.tr_end (⟨x9,y10,_,_,_,_,_,rfl,rx9,P3,hB⟩)
 case next=>
  rintro a15 W14 ⟨x,y,y5,y6,y7,y8,y9,rfl,rx,PR,hB⟩
  go_wp2_with fail
  refine bodyPost_ret (v:=.agg #[.slice x.a x.n x.c,.slice y.a y.n y.c]) ?_ rfl ⟨x,y,rfl,rx,hB⟩;simp[results,Tryz.f155,go_sem,PR.c0,PR.c1]
theorem fk (wt cp:Nat) (p q:Sl) (l:Rat) (w:World) (hl:RQ w p q l) (hw:wt≤10000) (hc:cp≤64) (HZ:Hid (Sz (l*wt))):
  Calls Tryz.prog 154 #[.agg #[.int .i64 (wt:Int),.int .i64 (cp:Int)],.agg #[.slice p.a p.n p.c,.slice q.a q.n q.c]] w fun e w'=>e= .returned (.bool (decide ((cp:Rat)<l*(wt:Rat))))∧Below w.heap.size w w':=by
 go_enter Tryz.func154,Tryz.ntmps154;have hb:Below w.heap.size w ((w.alloc (.cells #[.int .i64 (wt:Int),.int .i64 (cp:Int)] 201)).alloc (.cells #[.slice p.a p.n p.c,.slice q.a q.n q.c] 49)):=(((Below.refl _ _).alloc lr _).alloc B4 _)
 replace hl:=hl.below hb;have hB:=hb;have P1:ah ((w.alloc (.cells #[.int .i64 (wt:Int),.int .i64 (cp:Int)] 201)).alloc (.cells #[.slice p.a p.n p.c,.slice q.a q.n q.c] 49)) (w.heap.size) 201 (.int .i64 (wt:Int)) (.int .i64 (cp:Int)):=by
  have h:=(ah.new w 201 (.int .i64 (wt:Int)) (.int .i64 (cp:Int))).alloc (.cells #[.slice p.a p.n p.c,.slice q.a q.n q.c] 49);exact zQ
 have P2:ah ((w.alloc (.cells #[.int .i64 (wt:Int),.int .i64 (cp:Int)] 201)).alloc (.cells #[.slice p.a p.n p.c,.slice q.a q.n q.c] 49)) (w.heap.size+1) 49 (.slice p.a p.n p.c) (.slice q.a q.n q.c):=by
  have h:=ah.new (w.alloc (.cells #[.int .i64 (wt:Int),.int .i64 (cp:Int)] 201)) 49 (.slice p.a p.n p.c) (.slice q.a q.n q.c);exact zQ
 clear hb;have c0P1:=P1.c0;have c1P1:=P1.c1;have c0P2:=P2.c0;have c1P2:=P2.c1
 go_wp2_with fail
 clear c0P1 c1P1 c0P2 c1P2;have hb:Below ((w.alloc (.cells #[.int .i64 (wt:Int),.int .i64 (cp:Int)] 201)).alloc (.cells #[.slice p.a p.n p.c,.slice q.a q.n q.c] 49)).heap.size ((w.alloc (.cells #[.int .i64 (wt:Int),.int .i64 (cp:Int)] 201)).alloc (.cells #[.slice p.a p.n p.c,.slice q.a q.n q.c] 49)) ((w.alloc (.cells #[.int .i64 (wt:Int),.int .i64 (cp:Int)] 201)).alloc (.cells #[.slice p.a p.n p.c,.slice q.a q.n q.c] 49)).drew:=(Below.refl _ _).drew;replace P1:=P1.below hb;replace P2:=P2.below hb;replace hl:=hl.below hb;replace hB:=hB.tr hb;clear hb;refine Rd.regionT (fun X=>ah X (w.heap.size) 201 (.int .i64 (wt:Int)) (.int .i64 (cp:Int))∧ah X (w.heap.size+1) 49 (.slice p.a p.n p.c) (.slice q.a q.n q.c)) [0,1,3,4,7,8] (.one 0 (.one 1 (.one 3 (.one 4 (.one 2 (.one 5 (.one 6 (.one 7 (.one 8 .done))))))))) (fun ac W=>∃(T:Bool) (y5 y6 y7 y8 y9 y10 y11 y12:Value),ac={ tmps:=List.toArray (.agg #[.int .i64 (wt:Int),.int .i64 (cp:Int)]:: .agg #[.slice p.a p.n p.c,.slice q.a q.n q.c]:: .pointer (some ⟨w.heap.size,0,none⟩):: .pointer (some ⟨w.heap.size+1,0,none⟩):: .bool T::y5::y6::y7::y8::y9::y10::y11::y12::[]),defers:=[] }∧T=decide ((cp:Rat)<l*(wt:Rat))∧Below w.heap.size w W) Cx Cx Cx ⟨P1,P2⟩ ?tree ?next
 case tree=>
  generalize ((w.alloc (.cells #[.int .i64 (wt:Int),.int .i64 (cp:Int)] 201)).alloc (.cells #[.slice p.a p.n p.c,.slice q.a q.n q.c] 49)).drew=w3 at P1 P2 hl hB ⊢;refine Rd.tg (.agg #[.int .i64 (wt:Int),.int .i64 (cp:Int)]) ?_ (y:=fun X hX=>A5);refine Rd.tg (.agg #[.slice p.a p.n p.c,.slice q.a q.n q.c]) ?_ (y:=fun X hX=>B5);refine Rd.tf (.pointer (some ⟨w.heap.size,1,none⟩)) ?_;refine Rd.tg (.int .i64 (cp:Int)) ?_ (y:=fun X hX=>A5);refine Rd.tm fun K hK=>?_
  have H6:=Hd (iA wt cp p q (l) w3 hl hw HZ);go_simp;refine H6.mono ?_;rintro e w7 ⟨x4,y5,rfl,rx4,hb⟩;clear H6;replace P1:=P1.below hb;replace P2:=P2.below hb;replace hl:=hl.below hb;replace hB:=hB.tr hb;clear hb;refine hK _ _ ⟨P1,P2⟩ ?_;clear hK K;refine Rd.tm fun K hK=>?_
  have H10:=Hd (i6 (cp) A3 w7);go_simp;refine H10.mono ?_;rintro e w11 ⟨x8,y9,rfl,rx8,hb⟩;clear H10;replace P1:=P1.below hb;replace P2:=P2.below hb;replace hl:=hl.below hb;replace rx4:=rx4.below hb;replace hB:=hB.tr hb;clear hb;refine hK _ _ ⟨P1,P2⟩ ?_;clear hK K;refine Rd.tm fun K hK=>?_
  have H12:=Hd (yG x4 y5 x8 y9 (l*(wt:Rat)) (((cp:Nat):Rat)) w11 rx4 rx8);go_simp;refine H12.mono ?_;rintro e w13 ⟨rfl,hb⟩;clear H12;replace P1:=P1.below hb;replace P2:=P2.below hb;replace hl:=hl.below hb;replace rx4:=rx4.below hb;replace rx8:=rx8.below hb;replace hB:=hB.tr hb;clear hb;refine hK _ _ ⟨P1,P2⟩ ?_;clear hK K;refine Rd.tf (.bool (decide (0<(ev (l*(wt:Rat)) (((cp:Nat):Rat)))))) ?_;refine Rd.tf (.bool (decide (0<(ev (l*(wt:Rat)) (((cp:Nat):Rat)))))) ?_;exact Rd.tr_end (⟨_,_,_,_,_,_,_,_,_,rfl,(by simp only[eE]),hB⟩)
 case next=>
  rintro a15 W14 ⟨T,y5,y6,y7,y8,y9,y10,y11,y12,rfl,hT,hB⟩
  go_wp2_with fail
  go_ret;exact⟨by rw[hT];rfl,hB⟩
theorem sU (wt cp:Nat) (p q:Sl) (l:Rat) (w:World) (hl:RQ w p q l) (hw:wt≤10000) (hc:cp≤64) (HZ:Hid (Sz (l*wt))) (HO:Hid ((cp:Rat)<l*(wt:Rat))):
  Calls Tryz.prog 141 #[.agg #[.int .i64 (wt:Int),.int .i64 (cp:Int)],.agg #[.slice p.a p.n p.c,.slice q.a q.n q.c]] w fun e w'=>∃x y:Sl,e= .returned (.agg #[.slice x.a x.n x.c,.slice y.a y.n y.c])∧RQ w' x y (given l (wt,cp))∧Below w.heap.size w w':=by
 go_enter Tryz.func141,Tryz.ntmps141;have hb:Below w.heap.size w (((w.alloc (.cells #[.int .i64 (wt:Int),.int .i64 (cp:Int)] 201)).alloc (.cells #[.slice p.a p.n p.c,.slice q.a q.n q.c] 49)).alloc (.cells #[.slice none 0 0,.slice none 0 0] 49)):=((((Below.refl _ _).alloc lr _).alloc B4 _).alloc Cq _)
 replace hl:=hl.below hb;have hB:=hb;have P1:ah (((w.alloc (.cells #[.int .i64 (wt:Int),.int .i64 (cp:Int)] 201)).alloc (.cells #[.slice p.a p.n p.c,.slice q.a q.n q.c] 49)).alloc (.cells #[.slice none 0 0,.slice none 0 0] 49)) (w.heap.size) 201 (.int .i64 (wt:Int)) (.int .i64 (cp:Int)):=by
  have h:=((ah.new w 201 (.int .i64 (wt:Int)) (.int .i64 (cp:Int))).alloc (.cells #[.slice p.a p.n p.c,.slice q.a q.n q.c] 49)).alloc (.cells #[.slice none 0 0,.slice none 0 0] 49);exact zQ
 have P2:ah (((w.alloc (.cells #[.int .i64 (wt:Int),.int .i64 (cp:Int)] 201)).alloc (.cells #[.slice p.a p.n p.c,.slice q.a q.n q.c] 49)).alloc (.cells #[.slice none 0 0,.slice none 0 0] 49)) (w.heap.size+1) 49 (.slice p.a p.n p.c) (.slice q.a q.n q.c):=by
  have h:=(ah.new (w.alloc (.cells #[.int .i64 (wt:Int),.int .i64 (cp:Int)] 201)) 49 (.slice p.a p.n p.c) (.slice q.a q.n q.c)).alloc (.cells #[.slice none 0 0,.slice none 0 0] 49);exact zQ
 have P3:ah (((w.alloc (.cells #[.int .i64 (wt:Int),.int .i64 (cp:Int)] 201)).alloc (.cells #[.slice p.a p.n p.c,.slice q.a q.n q.c] 49)).alloc (.cells #[.slice none 0 0,.slice none 0 0] 49)) (w.heap.size+1+1) 49 (.slice none 0 0) (.slice none 0 0):=by
  have h:=ah.new ((w.alloc (.cells #[.int .i64 (wt:Int),.int .i64 (cp:Int)] 201)).alloc (.cells #[.slice p.a p.n p.c,.slice q.a q.n q.c] 49)) 49 (.slice none 0 0) (.slice none 0 0);exact zQ
 clear hb;have c0P1:=P1.c0;have c1P1:=P1.c1;have c0P2:=P2.c0;have c1P2:=P2.c1;have c0P3:=P3.c0;have c1P3:=P3.c1;have H4:=Hd (fk wt cp p q (l) (((w.alloc (.cells #[.int .i64 (wt:Int),.int .i64 (cp:Int)] 201)).alloc (.cells #[.slice p.a p.n p.c,.slice q.a q.n q.c] 49)).alloc (.cells #[.slice none 0 0,.slice none 0 0] 49)) hl hw hc HZ);rw[decide_eq_true (HO.out)] at H4
 go_wp2_with fail
 clear c0P1 c1P1 c0P2 c1P2 c0P3 c1P3;refine H4.mono ?_;rintro e w5 ⟨rfl,hb⟩;clear H4;replace P1:=P1.below hb;replace P2:=P2.below hb;replace P3:=P3.below hb;replace hl:=hl.below hb;replace hB:=hB.tr hb;clear hb;have c0P1:=P1.c0;have c1P1:=P1.c1;have c0P2:=P2.c0;have c1P2:=P2.c1;have c0P3:=P3.c0;have c1P3:=P3.c1;have H8:=Hd (i6 (cp) A3 w5)
 go_wp2_with fail
 clear c0P1 c1P1 c0P2 c1P2 c0P3 c1P3;refine H8.mono ?_;rintro e w9 ⟨x6,y7,rfl,rx6,hb⟩;clear H8;replace P1:=P1.below hb;replace P2:=P2.below hb;replace P3:=P3.below hb;replace hl:=hl.below hb;replace hB:=hB.tr hb;clear hb;have c0:=P3.c0;have c1:=P3.c1;have z0:=P3.z0;have z1:=P3.z1
 go_wp2_with fail
 replace rx6:=rx6.pset P3 (.slice x6.a x6.n x6.c) (.slice y7.a y7.n y7.c);replace hB:=Below.pset (B:=w.heap.size+1+1) hB A3 (.slice x6.a x6.n x6.c) (.slice y7.a y7.n y7.c);have PR:=P3.set (.slice x6.a x6.n x6.c) (.slice y7.a y7.n y7.c);generalize (w9.setCell ⟨w.heap.size+1+1,0,none⟩ (.slice x6.a x6.n x6.c)).setCell ⟨w.heap.size+1+1,1,none⟩ (.slice y7.a y7.n y7.c)=WW at rx6 PR hB ⊢;refine bodyPost_ret (v:=.agg #[.slice x6.a x6.n x6.c,.slice y7.a y7.n y7.c]) ?_ rfl ⟨x6,y7,rfl,by unfold given;rw[if_pos HO.out];exact rx6,hB⟩;simp[results,Tryz.f141,go_sem,PR.c0,PR.c1]
theorem u1 (wt cp:Nat) (p q:Sl) (l:Rat) (w:World) (hl:RQ w p q l) (hw:wt≤10000) (hc:cp≤64) (HZ:Hid (Sz (l*wt))) (HO:Hid (¬(cp:Rat)<l*(wt:Rat))):
  Calls Tryz.prog 141 #[.agg #[.int .i64 (wt:Int),.int .i64 (cp:Int)],.agg #[.slice p.a p.n p.c,.slice q.a q.n q.c]] w fun e w'=>∃x y:Sl,e= .returned (.agg #[.slice x.a x.n x.c,.slice y.a y.n y.c])∧RQ w' x y (given l (wt,cp))∧Below w.heap.size w w':=by
 go_enter Tryz.func141,Tryz.ntmps141;have hb:Below w.heap.size w (((w.alloc (.cells #[.int .i64 (wt:Int),.int .i64 (cp:Int)] 201)).alloc (.cells #[.slice p.a p.n p.c,.slice q.a q.n q.c] 49)).alloc (.cells #[.slice none 0 0,.slice none 0 0] 49)):=((((Below.refl _ _).alloc lr _).alloc B4 _).alloc Cq _)
 replace hl:=hl.below hb;have hB:=hb;have P1:ah (((w.alloc (.cells #[.int .i64 (wt:Int),.int .i64 (cp:Int)] 201)).alloc (.cells #[.slice p.a p.n p.c,.slice q.a q.n q.c] 49)).alloc (.cells #[.slice none 0 0,.slice none 0 0] 49)) (w.heap.size) 201 (.int .i64 (wt:Int)) (.int .i64 (cp:Int)):=by
  have h:=((ah.new w 201 (.int .i64 (wt:Int)) (.int .i64 (cp:Int))).alloc (.cells #[.slice p.a p.n p.c,.slice q.a q.n q.c] 49)).alloc (.cells #[.slice none 0 0,.slice none 0 0] 49);exact zQ
 have P2:ah (((w.alloc (.cells #[.int .i64 (wt:Int),.int .i64 (cp:Int)] 201)).alloc (.cells #[.slice p.a p.n p.c,.slice q.a q.n q.c] 49)).alloc (.cells #[.slice none 0 0,.slice none 0 0] 49)) (w.heap.size+1) 49 (.slice p.a p.n p.c) (.slice q.a q.n q.c):=by
  have h:=(ah.new (w.alloc (.cells #[.int .i64 (wt:Int),.int .i64 (cp:Int)] 201)) 49 (.slice p.a p.n p.c) (.slice q.a q.n q.c)).alloc (.cells #[.slice none 0 0,.slice none 0 0] 49);exact zQ
 have P3:ah (((w.alloc (.cells #[.int .i64 (wt:Int),.int .i64 (cp:Int)] 201)).alloc (.cells #[.slice p.a p.n p.c,.slice q.a q.n q.c] 49)).alloc (.cells #[.slice none 0 0,.slice none 0 0] 49)) (w.heap.size+1+1) 49 (.slice none 0 0) (.slice none 0 0):=by
  have h:=ah.new ((w.alloc (.cells #[.int .i64 (wt:Int),.int .i64 (cp:Int)] 201)).alloc (.cells #[.slice p.a p.n p.c,.slice q.a q.n q.c] 49)) 49 (.slice none 0 0) (.slice none 0 0);exact zQ
 clear hb;have c0P1:=P1.c0;have c1P1:=P1.c1;have c0P2:=P2.c0;have c1P2:=P2.c1;have c0P3:=P3.c0;have c1P3:=P3.c1;have H4:=Hd (fk wt cp p q (l) (((w.alloc (.cells #[.int .i64 (wt:Int),.int .i64 (cp:Int)] 201)).alloc (.cells #[.slice p.a p.n p.c,.slice q.a q.n q.c] 49)).alloc (.cells #[.slice none 0 0,.slice none 0 0] 49)) hl hw hc HZ);rw[decide_eq_false (HO.out)] at H4
 go_wp2_with fail
 clear c0P1 c1P1 c0P2 c1P2 c0P3 c1P3;refine H4.mono ?_;rintro e w5 ⟨rfl,hb⟩;clear H4;replace P1:=P1.below hb;replace P2:=P2.below hb;replace P3:=P3.below hb;replace hl:=hl.below hb;replace hB:=hB.tr hb;clear hb;have c0P1:=P1.c0;have c1P1:=P1.c1;have c0P2:=P2.c0;have c1P2:=P2.c1;have c0P3:=P3.c0;have c1P3:=P3.c1;have H8:=Hd (iA wt cp p q (l) w5 hl hw HZ)
 go_wp2_with fail
 clear c0P1 c1P1 c0P2 c1P2 c0P3 c1P3;refine H8.mono ?_;rintro e w9 ⟨x6,y7,rfl,rx6,hb⟩;clear H8;replace P1:=P1.below hb;replace P2:=P2.below hb;replace P3:=P3.below hb;replace hl:=hl.below hb;replace hB:=hB.tr hb;clear hb;have c0:=P3.c0;have c1:=P3.c1;have z0:=P3.z0;have z1:=P3.z1
 go_wp2_with fail
 replace rx6:=rx6.pset P3 (.slice x6.a x6.n x6.c) (.slice y7.a y7.n y7.c);replace hB:=Below.pset (B:=w.heap.size+1+1) hB A3 (.slice x6.a x6.n x6.c) (.slice y7.a y7.n y7.c);have PR:=P3.set (.slice x6.a x6.n x6.c) (.slice y7.a y7.n y7.c);generalize (w9.setCell ⟨w.heap.size+1+1,0,none⟩ (.slice x6.a x6.n x6.c)).setCell ⟨w.heap.size+1+1,1,none⟩ (.slice y7.a y7.n y7.c)=WW at rx6 PR hB ⊢;refine bodyPost_ret (v:=.agg #[.slice x6.a x6.n x6.c,.slice y7.a y7.n y7.c]) ?_ rfl ⟨x6,y7,rfl,by unfold given;rw[if_neg HO.out];exact rx6,hB⟩;simp[results,Tryz.f141,go_sem,PR.c0,PR.c1]
theorem uT (wt cp:Nat) (p q:Sl) (l:Rat) (w:World) (hl:RQ w p q l) (hw:wt≤10000) (hc:cp≤64) (HZ:Hid (Sz (l*wt))):
  Calls Tryz.prog 141 #[.agg #[.int .i64 (wt:Int),.int .i64 (cp:Int)],.agg #[.slice p.a p.n p.c,.slice q.a q.n q.c]] w fun e w'=>∃x y:Sl,e= .returned (.agg #[.slice x.a x.n x.c,.slice y.a y.n y.c])∧RQ w' x y (given l (wt,cp))∧Below w.heap.size w w':=by
 by_cases h:(cp:Rat)<l*(wt:Rat)
 ·exact sU wt cp p q l w hl hw hc HZ (Hd h)
 ·exact u1 wt cp p q l w hl hw hc HZ (Hd h)
def Blc (w:World) (B:Nat) (cs:List Value) (t:TypeId):Prop:=w.heap[B]? =some (.cells cs.toArray t)
section
variable {w w':World} {B:Nat} {cs:List Value} {t:TypeId}
theorem Blc.lt (h:Blc w B cs t):B<w.heap.size:=(Array.getElem?_eq_some_iff.1 h).1
theorem Blc.cell (h:Blc w B cs t) {j:Nat} {v:Value} (hj:cs[j]? =some v):w.cell? ⟨B,j,none⟩=some v:=by
 simp[World.cell?,show w.heap[B]? =_ from h,hj]
theorem Blc.frozen (h:Blc w B cs t) (j:Nat):w.frozen? ⟨B,j,none⟩=false:=by
 simp[World.frozen?,show w.heap[B]? =_ from h]
theorem Blc.set (h:Blc w B cs t) (j:Nat) (x:Value):Blc (w.setCell ⟨B,j,none⟩ x) B (cs.set j x) t:=by
 have h2:=jW w B j x _ _ _ _ h rfl;unfold Blc;rw[h2,sA]
theorem Blc.below (h:Blc w B cs t) (hb:Below w.heap.size w w'):Blc w' B cs t:=(hb.block B h.lt).trans h
theorem Blc.other (h:Blc w B cs t) {C:Nat} (hne:B≠C) (j:Nat) (x:Value):Blc (w.setCell ⟨C,j,none⟩ x) B cs t:=(Below.heap_setCell _ _ _ _ hne).trans h
theorem Blc.of_owns {base n:Nat} {size:Nat} {xs:List Value} (h:w.ownsRow base t size (.slice (some ⟨B,0,none⟩) n n) n xs):Blc w B xs t:=by
 obtain⟨h1,h2⟩:=h;rcases h2 with ⟨e,_⟩ | ⟨g,cap,cur,e,_,hg,_,_,hs,ht⟩
 ·cases e
 ·cases e;have e2:cur.toList=xs:=by rw[←ht,List.take_of_length_le (by rw[Array.length_toList,hs];exact Nat.le_refl _)]
  unfold Blc;rw[hg,←e2]
end
def KB (w:World) (B:Nat) (ks:List Kid):Prop:=
 B<w.heap.size∧∀j,j<ks.length→(w.cell? ⟨B,j*2,none⟩=some (.int .i64 ((ks.getD j (0,0)).1:Int))∧w.frozen? ⟨B,j*2,none⟩=false)∧(w.cell? ⟨B,j*2+1,none⟩=some (.int .i64 ((ks.getD j (0,0)).2:Int))∧w.frozen? ⟨B,j*2+1,none⟩=false)
theorem KB.below {w w':World} {B:Nat} {ks:List Kid} (h:KB w B ks) (hb:Below w.heap.size w w'):KB w' B ks:=
 ⟨Nat.lt_of_lt_of_le h.1 hb.size,fun j hj=>by
  have h1:=h.2 j hj;have e:=hb.block B h.1;rw[World.cell?_of_block (w:=w) (a:=⟨B,j*2,none⟩) e,World.cell?_of_block (w:=w) (a:=⟨B,j*2+1,none⟩) e,World.frozen?_of_block (w:=w) (a:=⟨B,j*2,none⟩) e,World.frozen?_of_block (w:=w) (a:=⟨B,j*2+1,none⟩) e];exact h1⟩
theorem KB.lt {w:World} {B:Nat} {ks:List Kid} (h:KB w B ks):B<w.heap.size:=h.1
theorem KB.of_blk {w:World} {B:Nat} {ks:List Kid} {cs:List Value} {t:TypeId} (h:Blc w B cs t) (hc: ∀j,j<ks.length→cs[j*2]? =some (.int .i64 ((ks.getD j (0,0)).1:Int))∧cs[j*2+1]? =some (.int .i64 ((ks.getD j (0,0)).2:Int))):KB w B ks:=
 ⟨h.lt,fun j hj=>⟨⟨h.cell (hc j hj).1,h.frozen _⟩,⟨h.cell (hc j hj).2,h.frozen _⟩⟩⟩
theorem km {ks:List Kid} (f:Kid→Int) {j:Nat} (h:j<ks.length):(ks.map f).getD j 0=f (ks.getD j (0,0)):=by
 simp[List.getD_eq_getElem?_getD,h]
theorem Tryz.info201:(Tryz.prog.info? 201).map (fun i=>(i.zero,i.size,i.bytes))=some (some (.agg #[.int .i64 0,.int .i64 0]),2,16):=Cx
theorem wN {n i:Nat} (h:i<n):(madeCells (Value.agg #[.int .i64 0,.int .i64 0]).cells n).toList[i]? =some (.int .i64 0):=by
 have e:(Value.agg #[.int .i64 0,.int .i64 0]).cells= #[.int .i64 0,.int .i64 0]:=Cp
 rw[e];simp only[madeCells,Array.toList_map,Array.toList_range,List.getElem?_map,List.getElem?_range h,Option.map_some];have h2:i % 2<2:=Nat.mod_lt _ A3;show some (#[Value.int .i64 0,Value.int .i64 0][i % 2]!)=_;generalize i % 2=r at h2
 match r,h2 with
 | 0,_=>rfl
 | 1,_=>rfl
theorem xO {cs:List Value} {n k:Nat} (hlen:cs.length=n*2) (hk:k<n) (ks:List Kid) (x y:Int) (hx:x=((ks.getD k (0,0)).1:Int)) (hy:y=((ks.getD k (0,0)).2:Int))
  (h: ∀j,j<k→cs[j*2]? =some (.int .i64 ((ks.getD j (0,0)).1:Int))∧cs[j*2+1]? =some (.int .i64 ((ks.getD j (0,0)).2:Int))):
  ∀j,j<k+1→((cs.set (k*2) (.int .i64 x)).set (k*2+1) (.int .i64 y))[j*2]? =some (.int .i64 ((ks.getD j (0,0)).1:Int))∧((cs.set (k*2) (.int .i64 x)).set (k*2+1) (.int .i64 y))[j*2+1]? =some (.int .i64 ((ks.getD j (0,0)).2:Int)):=by
 intro j hj;by_cases e:j=k
 ·subst e;refine⟨?_,?_⟩
  ·rw[List.getElem?_set_ne A3,List.getElem?_set_self A3,hx]
  ·rw[List.getElem?_set_self (by rw[List.length_set];omega),hy]
 ·have h1:=h j A3;refine⟨?_,?_⟩
  ·rw[List.getElem?_set_ne A3,List.getElem?_set_ne A3];exact h1.1
  ·rw[List.getElem?_set_ne A3,List.getElem?_set_ne A3];exact h1.2
theorem pB {cs:List Value} {m i:Nat} {x:Int} (hlen:cs.length=m) (h: ∀j,j<m→∃z:Int,cs[j]? =some (.int .i64 z)): ∀j,j<m→∃z:Int,(cs.set i (.int .i64 x))[j]? =some (.int .i64 z):=by
 intro j hj;by_cases e:i=j
 ·subst e;exact⟨x,List.getElem?_set_self A3⟩
 ·rw[List.getElem?_set_ne e];exact h j hj
theorem ln (p q:Sl) (w:World) (ep:p.n=0) (eq:q.n=0):
  Calls Tryz.prog 140 #[.slice p.a p.n p.c,.slice q.a q.n q.c] w fun e w'=>∃B,e= .returned (.slice (some ⟨B,0,none⟩) 0 0)∧w.heap.size≤B∧KB w' B []∧Below w.heap.size w w':=by
 obtain⟨i0,hi,hz0,hz1,hz2⟩:=info_parts Tryz.info201;rw[ep,eq];clear ep eq;go_enter Tryz.func140,Tryz.ntmps140
 go_wp2_with (at_make;refine wpList_make_full _ rfl _ _ 198 rfl w.heap.size 201 i0 _ 2 Tryz.underlying198 hi hz0 hz1 .i64 .i64 _ _ 0 rfl rfl rfl rfl (by rw[hz2];omega) Cu lr ?_;intro w1 hown hgrow)
 refine wp_loop_rounds 1 ?_;rw[rounds_succ]
 go_wp2_with fail
 go_ret;have hk:=Blc.of_owns hown;refine⟨w.heap.size,rfl,Nat.le_refl _,KB.of_blk hk (fun j hj=>by simp at hj),?_⟩;exact(Below.refl _ _).grown hgrow lr (fun j ej=>by cases ej)
theorem lk (p q:Sl) (ks:List Kid) (w:World) (hp:RI w p (ks.map fun k=>(k.1:Int))) (hq:RI w q (ks.map fun k=>(k.2:Int))) (hl:ks.length≤100) (hne:ks≠[]):
  Calls Tryz.prog 140 #[.slice p.a p.n p.c,.slice q.a q.n q.c] w fun e w'=>∃B,e= .returned (.slice (some ⟨B,0,none⟩) ks.length ks.length)∧w.heap.size≤B∧KB w' B ks∧Below w.heap.size w w':=by
 obtain⟨i0,hi,hz0,hz1,hz2⟩:=info_parts Tryz.info201;have ep:=hp.len;have eq:=hq.len;rw[List.length_map] at ep eq;obtain⟨b1,o1,ea1,hb1,hc1⟩:=hp.open (by simpa using hne);obtain⟨b2,o2,ea2,hb2,hc2⟩:=hq.open (by simpa using hne);rw[ep,eq,ea1,ea2];have HC1:Hid (∀j,j<ks.length→w.cell? ⟨b1,o1+j,none⟩=some (.int .i64 ((ks.getD j (0,0)).1:Int))):=Hd (fun j hj=>by rw[hc1 j (by simpa using hj),km _ hj]);have HC2:Hid (∀j,j<ks.length→w.cell? ⟨b2,o2+j,none⟩=some (.int .i64 ((ks.getD j (0,0)).2:Int))):=Hd (fun j hj=>by rw[hc2 j (by simpa using hj),km _ hj]);clear hp hq ep eq ea1 ea2 hc1 hc2 hne;go_enter Tryz.func140,Tryz.ntmps140
 go_wp2_with (at_make;refine wpList_make_full _ rfl _ _ 198 rfl w.heap.size 201 i0 _ 2 Tryz.underlying198 hi hz0 hz1 .i64 .i64 _ _ ks.length rfl rfl rfl rfl (by rw[hz2];omega) Cu lr ?_;intro w1 hown hgrow)
 have hk:=Blc.of_owns hown;have hB:Below w.heap.size w w1:=(Below.refl _ _).grown hgrow lr (fun j ej=>by cases ej);have hm: ∀j,j<ks.length*2→∃z:Int,(madeCells (Value.agg #[.int .i64 0,.int .i64 0]).cells (ks.length*2)).toList[j]? =some (.int .i64 z):=fun j hj=>⟨0,wN hj⟩
 have hlen:(madeCells (Value.agg #[.int .i64 0,.int .i64 0]).cells (ks.length*2)).toList.length=ks.length*2:=by simp[size_madeCells]
 clear hown hgrow hi hz0 hz1 hz2;generalize (madeCells (Value.agg #[.int .i64 0,.int .i64 0]).cells (ks.length*2)).toList=cs0 at hk hm hlen;have HK:=Hd hk;have HM:=Hd hm;have HLn:=Hd hlen;clear hk hm hlen;obtain⟨B,hBe⟩: ∃B,B=w.heap.size:=⟨_,rfl⟩
 have hBd:=Nat.le_of_eq hBe.symm;rw[←hBe] at HK ⊢;have HBe:=Hd hBe;clear hBe;have HBw:=Hd hB;clear hB
 go_loopw [13] (fun i wr=>∃(k:Nat) (cs:List Value),k≤ks.length∧i= .int .i64 (k:Int)∧Hid (Blc wr B cs 201)∧Hid (cs.length=ks.length*2)∧Hid (∀j,j<ks.length*2→∃z:Int,cs[j]? =some (.int .i64 z))∧Hid (∀j,j<k→cs[j*2]? =some (.int .i64 ((ks.getD j (0,0)).1:Int))∧cs[j*2+1]? =some (.int .i64 ((ks.getD j (0,0)).2:Int)))∧Hid (Below w.heap.size w wr)) (fun i _=>ks.length - (intOf i).toNat)
 case atStart=>exact⟨0,cs0,Nat.zero_le _,rfl,HK,HLn,HM,Hd (fun j hj=>absurd hj A3),HBw⟩
 case round=>
  obtain⟨k,cs,hk,rfl,HK1,HL1,HM1,HD,HB1⟩:=hrel;by_cases hlt:k<ks.length
  ·have c1:=(HB1.cell (p:=⟨b1,o1+k,none⟩) hb1).trans (HC1.out k hlt);have c2:=(HB1.cell (p:=⟨b2,o2+k,none⟩) hb2).trans (HC2.out k hlt);obtain⟨z1,hz1⟩:=HM1.out (k*2) A3;obtain⟨z2,hz2⟩:=HM1.out (k*2+1) A3;have c3:=HK1.cell hz1;have c4:=HK1.cell hz2;have f3:=HK1.frozen (k*2);have f4:=HK1.frozen (k*2+1);obtain⟨x,hx⟩: ∃x:Int,x=((ks.getD k (0,0)).1:Int):=⟨_,rfl⟩
   obtain⟨y,hy⟩: ∃y:Int,y=((ks.getD k (0,0)).2:Int):=⟨_,rfl⟩
   rw[←hx] at c1;rw[←hy] at c2;have HX:=Hd hx;have HY:=Hd hy;clear hx hy hz1 hz2
   go_wp2_with fail
   go_round
   case rel=>
    refine⟨k+1,(cs.set (k*2) (.int .i64 x)).set (k*2+1) (.int .i64 y),A3,Cw,?_,?_,?_,?_,?_⟩
    ·exact Hd ((HK1.set _ _).set _ _)
    ·exact Hd (by rw[List.length_set,List.length_set];exact HL1.out)
    ·exact Hd (pB (by rw[List.length_set];exact HL1.out) (pB HL1.out HM1.out))
    ·exact Hd (xO HL1.out hlt ks x y HX.out HY.out HD.out)
    ·exact Hd ((HB1.setCell (p:=⟨B,k*2,none⟩) hBd _).setCell (p:=⟨B,k*2+1,none⟩) hBd _)
   case measure=>simp[intOf];omega
  ·go_wp2_with fail
   go_ret;exact⟨B,rfl,hBd,KB.of_blk HK1.out (fun j hj=>HD.out j A3),HB1.out⟩
theorem iD (p q:Sl) (ks:List Kid) (w:World) (hp:RI w p (ks.map fun k=>(k.1:Int))) (hq:RI w q (ks.map fun k=>(k.2:Int))) (hl:ks.length≤100):
  Calls Tryz.prog 140 #[.slice p.a p.n p.c,.slice q.a q.n q.c] w fun e w'=>∃B,e= .returned (.slice (some ⟨B,0,none⟩) ks.length ks.length)∧w.heap.size≤B∧KB w' B ks∧Below w.heap.size w w':=by
 by_cases hne:ks=[]
 ·subst hne;exact ln p q w (by rw[hp.len];rfl) (by rw[hq.len];rfl)
 ·exact lk p q ks w hp hq hl hne
end Go.Proofs.YtohifgjeebhijaaGreatDoor
