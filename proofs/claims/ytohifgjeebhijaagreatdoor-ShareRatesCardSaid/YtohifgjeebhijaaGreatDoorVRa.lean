import Derived.WalkKit
import Derived.WalkSpells
import Derived.WalkLawsBesides
import Derived.Lib.Hide
import Derived.Test.YtohifgjeebhijaaGreatDoorProg
import Derived.Test.YtohifgjeebhijaaGreatDoorVDig
import Derived.Test.YtohifgjeebhijaaGreatDoorVRd
namespace Go.Proofs.YtohifgjeebhijaaGreatDoor
set_option maxRecDepth 100000
set_option maxHeartbeats 2000000
open Go.RowKit Go.Dig Go.Proofs
def Lim (q:IntKind) (w:World) (v:Value) (l:List Nat):Prop:=
 ∃ad cap,v= .slice ad l.length cap∧l.length≤cap∧(l≠[]→∃b off,ad=some ⟨b,off,none⟩∧b<w.heap.size∧∀j,j<l.length→w.cell? ⟨b,off+j,none⟩=some (.int q (l.getD j 0:Nat)))
abbrev Row (w:World) (v:Value) (l:List Nat):Prop:=Lim .i64 w v l
abbrev aH (w:World) (v:Value) (l:List Nat):Prop:=Lim .u64 w v l
theorem Ar {p:Prop} (h:p:=by obtain⟨ad,cap,rfl,hcap,h2⟩:=h;refine⟨ad,cap,rfl,hcap,fun hl=>?_⟩;obtain⟨b,off,rfl,hlt,hc⟩:=h2 hl;exact⟨b,off,rfl,Nat.lt_of_lt_of_le hlt hb.size,fun j hj=>(hb.cell (p:=⟨b,off+j,none⟩) hlt).trans (hc j hj)⟩):p:=h
theorem Lim.below {q:IntKind} {w w':World} {v:Value} {l:List Nat} (h:Lim q w v l) (hb:Below w.heap.size w w'):Lim q w' v l:=by
 exact Ar
theorem g6 (v:Value) (l:List Nat) (i:Nat) (w:World) (h:Row w v l) (hl:l.length≤1000000) (_hi:i≤1000000):
  Calls Tryz.prog 129 #[v,.int .i64 (i:Int)] w fun e w'=>e= .returned (.int .i64 (l.getD i 0:Nat))∧w=w':=by
 obtain⟨ad,cap,rfl,hcap,h2⟩:=h;by_cases hlt:i<l.length
 ·obtain⟨b,off,rfl,hb,hc⟩:=h2 (by rintro rfl;simp at hlt);have hci:=hc i hlt;generalize l.getD i 0=x at hci ⊢;clear hc h2;go_enter Tryz.func129,Tryz.ntmps129
  go_wp2_with fail
  go_ret;exact⟨rfl,rfl⟩
 ·have e:l.getD i 0=0:=by simp[List.getD,Nat.le_of_not_lt hlt]
  rw[e];clear h2;go_enter Tryz.func129,Tryz.ntmps129
  go_wp2_with fail
  go_ret;exact⟨rfl,rfl⟩
theorem Lim.cell {q:IntKind} {w:World} {ad:Option Addr} {n cap:Nat} {l:List Nat} (h:Lim q w (.slice ad n cap) l) {j:Nat} (hj:j<l.length):
  ∃b off,ad=some ⟨b,off,none⟩∧b<w.heap.size∧w.cell? ⟨b,off+j,none⟩=some (.int q (l.getD j 0:Nat)):=by
 obtain⟨ad',cap',e,hcap,h2⟩:=h;cases e;obtain⟨b,off,rfl,hb,hc⟩:=h2 (by rintro rfl;simp at hj);exact⟨b,off,rfl,hb,hc j hj⟩
theorem BU {p:Prop} (h:p:=by rw[List.length_take];omega):p:=h
theorem Lim.take {q:IntKind} {w:World} {ad:Option Addr} {n cap:Nat} {l:List Nat} (h:Lim q w (.slice ad n cap) l) {k:Nat} (hk:k≤l.length):Lim q w (.slice ad k cap) (l.take k):=by
 obtain⟨ad',cap',e,hcap,h2⟩:=h;cases e;have hlen:(l.take k).length=k:=BU
 refine⟨ad,cap,by rw[hlen],by rw[hlen];omega,fun hne=>?_⟩;have hl:l≠[]:=by rintro rfl;simp at hne
 obtain⟨b,off,rfl,hb,hc⟩:=h2 hl;refine⟨b,off,rfl,hb,fun j hj=>?_⟩;rw[hlen] at hj;rw[hc j A3];have e2:(l.take k).getD j 0=l.getD j 0:=by simp[List.getD,List.getElem?_take_of_lt hj]
 rw[e2]
theorem Cw {p:Prop} (h:p:=by go_num):p:=h
theorem kW (v:Value) (l:List Nat) (w:World) (h:Row w v l) (hl:l.length≤1000000):
  Calls Tryz.prog 130 #[v] w fun e w'=>∃v',e= .returned v'∧Row w v' (bq l)∧w=w':=by
 have hR:=Hd h;obtain⟨ad,cap,rfl,hcap,-⟩:=h;go_enter Tryz.func130,Tryz.ntmps130
 go_wp2_with fail
 go_loop [3] (fun i=>∃k:Nat,k≤l.length∧i= .int .i64 k∧Hid (bq (l.take k)=bq l)) (fun i=>(intOf i).toNat)
 case atStart=>exact⟨l.length,Nat.le_refl _,rfl,Hd (by rw[List.take_length])⟩
 case round=>
  obtain⟨k,hk,rfl,HK⟩:=hrel;by_cases h0:k=0
  ·subst h0;have H0:Hid (bq l=[]):=Hd HK.symm
   go_wp2_with fail
   go_ret;refine⟨_,rfl,?_,rfl⟩;rw[H0.out];exact⟨ad,cap,rfl,Nat.zero_le _,fun h=>absurd rfl h⟩
  ·have hpos:0<k:=A3
   obtain⟨b,off,rfl,hb,hc⟩:=hR.cell (j:=k - 1) A3;have hsnoc:l.take k=l.take (k - 1)++[l.getD (k - 1) 0]:=by
    have e1:l.take k=l.take (k - 1+1):=by congr 1;omega
    rw[e1,List.take_add_one];simp[List.getD,show k - 1<l.length by omega]
   by_cases hz:l.getD (k - 1) 0=0
   ·have HK2:Hid (bq (l.take (k - 1))=bq l):=Hd (by rw[←HK.out,hsnoc,hz,dv]);rw[hz] at hc;clear hsnoc hz HK
    go_wp2_with fail
    go_round
    case rel=>exact⟨k - 1,A3,Cw,HK2⟩
    case measure=>simp[intOf];omega
   ·have HK2:Hid (bq l=l.take k):=Hd (by rw[←HK.out,hsnoc,gg _ hz]);generalize l.getD (k - 1) 0=x at hc hz;clear hsnoc HK
    go_wp2_with fail
    go_ret;refine⟨_,rfl,?_,rfl⟩;rw[HK2.out];exact hR.take hk
abbrev D (n:Nat):List Nat:=dig 10000 n
def bJ (a b:Nat):Int:=if a<b then -1 else if b<a then 1 else 0
theorem nj (v1 v2:Value) (a b:Nat) (w:World) (h1:Row w v1 (D a)) (h2:Row w v2 (D b)) (hl1:(D a).length≤1000000) (_hl2:(D b).length≤1000000):
  Calls Tryz.prog 68 #[v1,v2] w fun e w'=>e= .returned (.int .i64 (bJ a b))∧Below w.heap.size w w':=by
 have R1:=Hd h1;have R2:=Hd h2;obtain⟨ad1,cap1,rfl,-,-⟩:=h1;obtain⟨ad2,cap2,rfl,-,-⟩:=h2;have sa:=b8 (B:=10000) A3 a;have sb:=b8 (B:=10000) A3 b;have va:=bU (B:=10000) A3 a;have vb:=bU (B:=10000) A3 b;have HL:=Hd (fun h=>gu (B:=10000) (m:=a) (n:=b) A3 h);have HG:=Hd (fun h=>gu (B:=10000) (m:=b) (n:=a) A3 h);generalize hz:bJ a b=z;have HZ:=Hd hz;clear hz;unfold D at *;generalize dig 10000 a=la at *;generalize dig 10000 b=lb at *;by_cases hlen:la.length=lb.length
 ·have HV:=Hd (And.intro (And.intro sa sb) (And.intro va vb));clear HL HG sa sb va vb;rw[hlen];go_enter Tryz.func68,Tryz.ntmps68
  go_wp2_with fail
  go_loopw [5] (fun i wr=>∃(k:Nat) (z:Int),k≤lb.length∧i= .int .i64 z∧z=(k:Int) - 1∧Hid (val 10000 (la.drop k)=val 10000 (lb.drop k))∧Below w.heap.size w wr) (fun i _=>(intOf i+1).toNat)
  case atStart=>exact⟨lb.length,_,Nat.le_refl _,rfl,rfl,Hd (by rw[List.drop_of_length_le A3,List.drop_of_length_le lr]),Below.refl _ _⟩
  case round=>
   obtain⟨k,z0,hk,rfl,hz,HK,hb⟩:=hrel;cases k with
   | zero=>
    have ez:z0= -1:=A3
    clear hz;subst ez;have hab:a=b:=by
     obtain⟨⟨sa,sb⟩,va,vb⟩:=HV.out;rw[←va,←vb];exact HK.out
    have HZ2:Hid (z=0):=Hd (by rw[←HZ.out,hab];unfold bJ;simp)
    go_wp2_with fail
    go_ret;exact⟨by rw[HZ2.out];rfl,hb⟩
   | succ j=>
    have ez:z0=(j:Int):=A3
    clear hz;subst ez;obtain⟨b1,o1,rfl,hb1,c1⟩:=R1.cell (j:=j) A3;obtain⟨b2,o2,rfl,hb2,c2⟩:=R2.cell (j:=j) A3;have HVd:Hid ((la.getD j 0<lb.getD j 0→a<b)∧(lb.getD j 0<la.getD j 0→b<a)∧(la.getD j 0=lb.getD j 0→val 10000 (la.drop j)=val 10000 (lb.drop j))):=Hd (by
     obtain⟨⟨sa,sb⟩,va,vb⟩:=HV.out;rw[←va,←vb];exact⟨fun h=>eA A3 sa A3 A3 HK.out h,fun h=>eA A3 sb A3 A3 HK.symm h,fun h=>by rw[bY la j A3,bY lb j A3,h,HK.out]⟩)
    replace c1:=(hb.cell (p:=⟨b1,o1+j,none⟩) hb1).trans c1;replace c2:=(hb.cell (p:=⟨b2,o2+j,none⟩) hb2).trans c2;generalize la.getD j 0=x at c1 HVd;generalize lb.getD j 0=y at c2 HVd
    go_wp2_with fail
    refine Rd.rg (fun X=>X.cell? ⟨b1,o1+j,none⟩=some (.int .i64 (x:Int))∧X.cell? ⟨b2,o2+j,none⟩=some (.int .i64 (y:Int))∧Below w.heap.size w X) 9 [0,1,2,3,4,5,6,7] [0,1,2,3,4,5,6,7,8] ⟨c1,c2,hb.drew⟩ ?_;refine Rd.sf (.slice (some ⟨b1,o1,none⟩) lb.length cap1) ?_;refine Rd.sf (.int .i64 (j:Int)) ?_;refine Rd.sg (.pointer (some ⟨b1,o1+j,none⟩)) ?_ (y:=fun X _=>by go_simp;intro h;omega);refine Rd.sg (.int .i64 (x:Int)) ?_ (y:=fun X hX=>by have hX1:=hX.1;go_simp);refine Rd.sf (.slice (some ⟨b2,o2,none⟩) lb.length cap2) ?_;refine Rd.sf (.int .i64 (j:Int)) ?_;refine Rd.sg (.pointer (some ⟨b2,o2+j,none⟩)) ?_ (y:=fun X _=>by go_simp;intro h;omega);refine Rd.sg (.int .i64 (y:Int)) ?_ (y:=fun X hX=>by have hX2:=hX.2.1;go_simp);refine Rd.sm fun K hK=>?_
    go_simp;refine hK _ _ (fun _=>⟨c1,c2,hb.drew⟩) ?_;refine Rd.seq_end ?_;by_cases hxy:x<y
    ·have HZ2:Hid (z= -1):=Hd (by rw[←HZ.out];unfold bJ;rw[if_pos (HVd.1 hxy)])
     go_wp2_with fail
     go_ret;exact⟨by rw[HZ2.out];rfl,hb.drew⟩
    ·go_wp2_with fail
     have hbd:Below w.heap.size w wr.drew:=hb.drew;replace c1:wr.drew.cell? ⟨b1,o1+j,none⟩=some (.int .i64 (x:Int)):=c1;replace c2:wr.drew.cell? ⟨b2,o2+j,none⟩=some (.int .i64 (y:Int)):=c2;clear hb;generalize wr.drew=W1 at c1 c2 hbd ⊢;refine Rd.rg (fun X=>X.cell? ⟨b1,o1+j,none⟩=some (.int .i64 (x:Int))∧X.cell? ⟨b2,o2+j,none⟩=some (.int .i64 (y:Int))∧Below w.heap.size w X) 9 [0,1,2,3,4,5,6,7] [0,1,2,3,4,5,6,7,8] ⟨c1,c2,hbd.drew⟩ ?_;refine Rd.sf (.slice (some ⟨b1,o1,none⟩) lb.length cap1) ?_;refine Rd.sf (.int .i64 (j:Int)) ?_;refine Rd.sg (.pointer (some ⟨b1,o1+j,none⟩)) ?_ (y:=fun X _=>by go_simp;intro h;omega);refine Rd.sg (.int .i64 (x:Int)) ?_ (y:=fun X hX=>by have hX1:=hX.1;go_simp);refine Rd.sf (.slice (some ⟨b2,o2,none⟩) lb.length cap2) ?_;refine Rd.sf (.int .i64 (j:Int)) ?_;refine Rd.sg (.pointer (some ⟨b2,o2+j,none⟩)) ?_ (y:=fun X _=>by go_simp;intro h;omega);refine Rd.sg (.int .i64 (y:Int)) ?_ (y:=fun X hX=>by have hX2:=hX.2.1;go_simp);refine Rd.sm fun K hK=>?_
     go_simp;refine hK _ _ (fun _=>⟨c1,c2,hbd.drew⟩) ?_;refine Rd.seq_end ?_;by_cases hyx:y<x
     ·have HZ2:Hid (z=1):=Hd (by rw[←HZ.out];unfold bJ;have:=HVd.2.1 hyx;rw[if_neg A3,if_pos this])
      go_wp2_with fail
      go_ret;exact⟨by rw[HZ2.out];rfl,hbd.drew⟩
     ·have HK2:Hid (val 10000 (la.drop j)=val 10000 (lb.drop j)):=Hd (HVd.2.2 A3)
      go_wp2_with fail
      go_round
      case rel=>exact⟨j,_,A3,rfl,rfl,HK2,hbd.drew⟩
      case measure=>simp[intOf]
 ·by_cases hlt:la.length<lb.length
  ·have hab:=HL.out hlt;have HZ2:Hid (z= -1):=Hd (by rw[←HZ.out];unfold bJ;rw[if_pos hab]);clear HL HG HZ sa sb va vb hab;go_enter Tryz.func68,Tryz.ntmps68
   go_wp2_with fail
   go_ret;exact⟨by rw[HZ2.out];rfl,Below.refl _ _⟩
  ·have hab:=HG.out A3;have HZ2:Hid (z=1):=Hd (by rw[←HZ.out];unfold bJ;rw[if_neg A3,if_pos hab]);clear HL HG HZ sa sb va vb hab;go_enter Tryz.func68,Tryz.ntmps68
   go_wp2_with fail
   go_ret;exact⟨by rw[HZ2.out];rfl,Below.refl _ _⟩
theorem Cx {p:Prop} (h:p:=by kernel_rfl):p:=h
theorem Tryz.info3:(Tryz.prog.info? 3).map (fun i=>(i.zero,i.size,i.bytes))=some (some (.int .i64 0),1,8):=Cx
def dz (c:Nat):Value:=.int .i64 (c:Int)
theorem AA {p:Prop} (h:p:=by exact⟨_,_,rfl,Nat.le_refl _,fun h=>absurd rfl h⟩):p:=h
theorem Row.of_owns {w:World} {B:Nat} {v:Value} {l:List Nat} (h:w.ownsRow B 3 1 v l.length (l.map dz)):Row w v l:=by
 rcases h.2 with ⟨rfl,h1⟩ | ⟨g,cap,cur,rfl,h2,h3⟩
 ·have:l=[]:=List.eq_nil_of_length_eq_zero h1;subst this;exact AA
 ·refine⟨_,cap,rfl,h3.2.1,fun _=>⟨g,0,rfl,(Array.getElem?_eq_some_iff.1 h3.1).1,fun j hj=>?_⟩⟩;rw[Nat.zero_add,h.cellAt j A3];simp[List.getD,hj,dz]
theorem Cu {p:Prop} (h:p:=by unfold maxLen;omega):p:=h
theorem Ck {p:Prop} (h:p:=by simp[Value.oneCell']):p:=h
theorem BS {p:Prop} (h:p:=by rw[List.length_append,hlen];rfl):p:=h
theorem rH (v1 v2:Value) (a b:Nat) (w:World) (h1:Row w v1 (D a)) (h2:Row w v2 (D b)) (hl1:(D a).length≤100000) (hl2:(D b).length≤100000):
  Calls Tryz.prog 109 #[v1,v2] w fun e w'=>∃v,e= .returned v∧Row w' v (D (a+b))∧Below w.heap.size w w':=by
 obtain⟨i0,hi,hz0,hz1,hz2⟩:=info_parts Tryz.info3;have R1:=Hd h1;have R2:=Hd h2;obtain⟨ad1,cap1,rfl,-,-⟩:=h1;obtain⟨ad2,cap2,rfl,-,-⟩:=h2;have HS:=Hd (And.intro (b8 (B:=10000) A3 a) (b8 (B:=10000) A3 b));have HV:=Hd (And.intro (bU (B:=10000) A3 a) (bU (B:=10000) A3 b));have HD:=Hd (fun out i (h:ii 10000 (D a) (D b) out 0 i) h1 h2 h3=>ii.done (B:=10000) A3 h h1 h2 h3);unfold D at *;generalize dig 10000 a=la at *;generalize dig 10000 b=lb at *;go_enter Tryz.func109,Tryz.ntmps109
 go_wp2_with fail
 go_loopw [5,6,7] (fun v c i wr=>∃(k cy:Nat) (out:List Nat),k≤200000∧c= .int .i64 (cy:Int)∧cy≤1∧i= .int .i64 (k:Int)∧wr.ownsRow w.heap.size 3 1 v out.length (out.map dz)∧out.length=k∧Hid (ii 10000 la lb out cy k)∧(k≤la.length∨k≤lb.length∨(cy=0∧Hid (10000 ^ (k - 1)≤a+b)))∧Below w.heap.size w wr) (fun _ c i _=>2*(la.length+lb.length+1) - 2*(intOf i).toNat+(intOf c).toNat)
 case atStart=>exact⟨0,0,[],A3,rfl,A3,rfl,World.ownsRow_nil _ _ _ _,rfl,Hd (ii.zero _ _),.inl (Nat.zero_le _),Below.refl _ _⟩
 case round=>
  obtain⟨k,cy,out,hk,rfl,hcy,rfl,hrow,hlen,HI,hend,hb⟩:=hrel;by_cases hgo:k<la.length∨k<lb.length∨0<cy
  ·by_cases hA:k<la.length
   ·have hbs:=hb.size;have HI2:=Hd (HI.step A3 HS.1 HS.2);have hx9:=HS.1.getD A3 k;have hy9:=HS.2.getD A3 k;have H43a:=Hd (g6 _ la k wr (R1.below hb) A3 A3);have H43b:=Hd (g6 _ lb k wr (R2.below hb) A3 A3);have HE:Hid (k+1≤la.length∨k+1≤lb.length∨((la.getD k 0+lb.getD k 0+cy) / 10000=0∧Hid (10000 ^ (k+1 - 1)≤a+b))):=Hd (.inl A3);generalize la.getD k 0=x at HI2 hx9 H43a HE;generalize lb.getD k 0=y at HI2 hy9 H43b HE;clear HI;have HC:Hid (((x:Int)+y+cy) % 10000=(((x+y+cy) % 10000:Nat):Int)):=Hd A3;have hcy2:=HI2.low
    go_wp2_with fail
    refine H43a.mono ?_;rintro e w' ⟨rfl,rfl⟩
    go_wp2_with fail
    refine H43b.mono ?_;rintro e w' ⟨rfl,rfl⟩
    go_wp2_with (at_builtin;refine wpList_append_own _ rfl _ _ 51 rfl w.heap.size 3 i0 (.int .i64 0) 1 8 Tryz.underlying51 hi hz0 hz1 hz2 rfl BD u5 _ _ rfl (hrow.alloc _) ⟨wr.heap.size,0,none⟩ 1 1 [.int .i64 (((x:Int)+y+cy) % 10000)] rfl rfl (cell_one_new _ _ _) Ck Cu A3 Cq ?_;intro v2 w2 hown2 hgrow _)
    refine⟨⟨k+1,(x+y+cy) / 10000,out++[(x+y+cy) % 10000],A3,by congr 1,hcy2,Cw,?_,BS,HI2,HE.out,(hb.alloc hb.size _).grown hgrow (Nat.le_trans hb.size B4) (fun j ej=>(hrow.lt j ej).1)⟩,?_⟩
    ·rw[List.length_append,List.map_append];have e1:[(x+y+cy) % 10000].map dz=[.int .i64 (((x:Int)+y+cy) % 10000)]:=by rw[HC.out];rfl
     rw[e1];exact hown2
    ·simp only[intOf];omega
   ·by_cases hBb:k<lb.length
    ·have hbs:=hb.size;have HI2:=Hd (HI.step A3 HS.1 HS.2);have hx9:=HS.1.getD A3 k;have hy9:=HS.2.getD A3 k;have H43a:=Hd (g6 _ la k wr (R1.below hb) A3 A3);have H43b:=Hd (g6 _ lb k wr (R2.below hb) A3 A3);have HE:Hid (k+1≤la.length∨k+1≤lb.length∨((la.getD k 0+lb.getD k 0+cy) / 10000=0∧Hid (10000 ^ (k+1 - 1)≤a+b))):=Hd (.inr (.inl A3));generalize la.getD k 0=x at HI2 hx9 H43a HE;generalize lb.getD k 0=y at HI2 hy9 H43b HE;clear HI;have HC:Hid (((x:Int)+y+cy) % 10000=(((x+y+cy) % 10000:Nat):Int)):=Hd A3;have hcy2:=HI2.low
     go_wp2_with fail
     refine H43a.mono ?_;rintro e w' ⟨rfl,rfl⟩
     go_wp2_with fail
     refine H43b.mono ?_;rintro e w' ⟨rfl,rfl⟩
     go_wp2_with (at_builtin;refine wpList_append_own _ rfl _ _ 51 rfl w.heap.size 3 i0 (.int .i64 0) 1 8 Tryz.underlying51 hi hz0 hz1 hz2 rfl BD u5 _ _ rfl (hrow.alloc _) ⟨wr.heap.size,0,none⟩ 1 1 [.int .i64 (((x:Int)+y+cy) % 10000)] rfl rfl (cell_one_new _ _ _) Ck Cu A3 Cq ?_;intro v2 w2 hown2 hgrow _)
     refine⟨⟨k+1,(x+y+cy) / 10000,out++[(x+y+cy) % 10000],A3,by congr 1,hcy2,Cw,?_,BS,HI2,HE.out,(hb.alloc hb.size _).grown hgrow (Nat.le_trans hb.size B4) (fun j ej=>(hrow.lt j ej).1)⟩,?_⟩
     ·rw[List.length_append,List.map_append];have e1:[(x+y+cy) % 10000].map dz=[.int .i64 (((x:Int)+y+cy) % 10000)]:=by rw[HC.out];rfl
      rw[e1];exact hown2
     ·simp only[intOf];omega
    ·have hpc:0<cy:=A3
     have hz1':la.getD k 0=0:=by simp[List.getD,Nat.le_of_not_lt hA]
     have hz2':lb.getD k 0=0:=by simp[List.getD,Nat.le_of_not_lt hBb]
     have hcar:=ii.carried (B:=10000) (out:=out) (i:=k) (by have:=HI.out;rwa [show cy=1 by omega] at this) (Nat.le_of_not_lt hA) (Nat.le_of_not_lt hBb);rw[HV.1,HV.2] at hcar;have HCR:=Hd hcar;clear hcar;have hbs:=hb.size;have HI2:=Hd (HI.step A3 HS.1 HS.2);have hx9:=HS.1.getD A3 k;have hy9:=HS.2.getD A3 k;have H43a:=Hd (g6 _ la k wr (R1.below hb) A3 A3);have H43b:=Hd (g6 _ lb k wr (R2.below hb) A3 A3);have HE:Hid (k+1≤la.length∨k+1≤lb.length∨((la.getD k 0+lb.getD k 0+cy) / 10000=0∧Hid (10000 ^ (k+1 - 1)≤a+b))):=Hd (by rw[hz1',hz2'];exact .inr (.inr ⟨A3,Hd HCR.out⟩));generalize la.getD k 0=x at HI2 hx9 H43a HE;generalize lb.getD k 0=y at HI2 hy9 H43b HE;clear HI hz1' hz2';have HC:Hid (((x:Int)+y+cy) % 10000=(((x+y+cy) % 10000:Nat):Int)):=Hd A3;have hcy2:=HI2.low
     go_wp2_with fail
     refine H43a.mono ?_;rintro e w' ⟨rfl,rfl⟩
     go_wp2_with fail
     refine H43b.mono ?_;rintro e w' ⟨rfl,rfl⟩
     go_wp2_with (at_builtin;refine wpList_append_own _ rfl _ _ 51 rfl w.heap.size 3 i0 (.int .i64 0) 1 8 Tryz.underlying51 hi hz0 hz1 hz2 rfl BD u5 _ _ rfl (hrow.alloc _) ⟨wr.heap.size,0,none⟩ 1 1 [.int .i64 (((x:Int)+y+cy) % 10000)] rfl rfl (cell_one_new _ _ _) Ck Cu A3 Cq ?_;intro v2 w2 hown2 hgrow _)
     refine⟨⟨k+1,(x+y+cy) / 10000,out++[(x+y+cy) % 10000],A3,by congr 1,hcy2,Cw,?_,BS,HI2,HE.out,(hb.alloc hb.size _).grown hgrow (Nat.le_trans hb.size B4) (fun j ej=>(hrow.lt j ej).1)⟩,?_⟩
     ·rw[List.length_append,List.map_append];have e1:[(x+y+cy) % 10000].map dz=[.int .i64 (((x:Int)+y+cy) % 10000)]:=by rw[HC.out];rfl
      rw[e1];exact hown2
     ·simp only[intOf];omega
  ·obtain⟨h1,h2,h3⟩:la.length≤k∧lb.length≤k∧cy=0:=A3
   subst h3;have HX:Hid (out=dig 10000 (a+b)):=Hd (HD.out out k HI.out h1 h2 (by
    rcases hend with h | h | h
    ·exact .inr (.inl A3)
    ·exact .inr (.inr (.inl A3))
    ·exact .inr (.inr (.inr h.2.out))))
   clear HD HI hend
   go_wp2_with fail
   go_ret;refine⟨_,rfl,?_,hb⟩;rw[←HX.out];exact Row.of_owns hrow
theorem fT (n:Nat) (w:World) (hn:n<9223372036854775808):
  Calls Tryz.prog 62 #[.int .i64 (n:Int)] w fun e w'=>∃v,e= .returned v∧Row w' v (D n)∧Below w.heap.size w w':=by
 obtain⟨i0,hi,hz0,hz1,hz2⟩:=info_parts Tryz.info3;have hlen:(D n).length≤5:=(cC A3 n 5).2 A3;generalize hd:D n=d at hlen ⊢;have HD:=Hd hd;clear hd;go_enter Tryz.func62,Tryz.ntmps62
 go_wp2_with fail
 go_loopw [0,3] (fun i v wr=>∃(m:Nat) (out:List Nat),m<9223372036854775808∧i= .int .i64 (m:Int)∧wr.ownsRow w.heap.size 3 1 v out.length (out.map dz)∧out.length≤5∧Hid (d=out++D m)∧Below w.heap.size w wr) (fun i _ _=>(intOf i).toNat)
 case atStart=>exact⟨n,[],hn,rfl,World.ownsRow_nil _ _ _ _,B4,Hd HD.symm,Below.refl _ _⟩
 case round=>
  obtain⟨m,out,hm,rfl,hrow,hol,HO,hb⟩:=hrel;have hbs:=hb.size;by_cases h0:m=0
  ·subst h0;have HX:Hid (d=out):=Hd (by rw[HO.out];show out++[]=out;simp);clear HO
   go_wp2_with fail
   go_ret;refine⟨_,rfl,?_,hb⟩;rw[HX.out];exact Row.of_owns hrow
  ·have hpos:0<m:=A3
   have HO2:Hid (d=(out++[m % 10000])++D (m / 10000)):=Hd (by rw[HO.out];show out++dig 10000 m=_;rw[fa A3 h0];simp);have hol2:out.length+1≤5:=by
    have:=congrArg List.length HO2.out;simp at this;omega
   have hdl:m / 10000<m:=A3
   clear HO
   go_wp2_with (at_builtin;refine wpList_append_own _ rfl _ _ 51 rfl w.heap.size 3 i0 (.int .i64 0) 1 8 Tryz.underlying51 hi hz0 hz1 hz2 rfl BD u3 _ _ rfl (hrow.alloc _) ⟨wr.heap.size,0,none⟩ 1 1 [.int .i64 ((m:Int) % 10000)] rfl rfl (cell_one_new _ _ _) Ck Cu A3 Cq ?_;intro v2 w2 hown2 hgrow _)
   refine⟨⟨m / 10000,out++[m % 10000],A3,by congr 1,?_,Cq,HO2,(hb.alloc hb.size _).grown hgrow (Nat.le_trans hb.size B4) (fun j ej=>(hrow.lt j ej).1)⟩,?_⟩
   ·rw[List.length_append,List.map_append];exact hown2
   ·simp only[intOf];omega
theorem Cv {p:Prop} (h:p:=by go_simp;exact IntWalk.i64_in _ A3):p:=h
theorem rU (v1 v2:Value) (a b:Nat) (w:World) (h1:Row w v1 (D a)) (h2:Row w v2 (D b)) (hl1:(D a).length≤100000) (hba:b≤a):
  Calls Tryz.prog 128 #[v1,v2] w fun e w'=>∃v,e= .returned v∧Row w' v (D (a - b))∧Below w.heap.size w w':=by
 obtain⟨i0,hi,hz0,hz1,hz2⟩:=info_parts Tryz.info3;have hl2:(D b).length≤(D a).length:=dN A3 hba;have R1:=Hd h1;have R2:=Hd h2;obtain⟨ad1,cap1,rfl,-,-⟩:=h1;obtain⟨ad2,cap2,rfl,-,-⟩:=h2;have HS:=Hd (And.intro (b8 (B:=10000) A3 a) (b8 (B:=10000) A3 b));have HV:=Hd (And.intro (bU (B:=10000) A3 a) (bU (B:=10000) A3 b));unfold D at *;generalize dig 10000 a=la at *;generalize dig 10000 b=lb at *;go_enter Tryz.func128,Tryz.ntmps128
 go_wp2_with fail
 go_loopw [5,6,11] (fun v c i wr=>∃(k bo:Nat) (out:List Nat),k≤la.length∧c= .int .i64 (bo:Int)∧i= .int .i64 (k:Int)∧wr.ownsRow w.heap.size 3 1 v out.length (out.map dz)∧out.length=k∧Hid (gU 10000 la lb out bo k)∧Below w.heap.size w wr) (fun _ _ i _=>la.length - (intOf i).toNat)
 case atStart=>exact⟨0,0,[],A3,rfl,rfl,World.ownsRow_nil _ _ _ _,rfl,Hd (gU.zero _ _),Below.refl _ _⟩
 case round=>
  obtain⟨k,bo,out,hk,rfl,rfl,hrow,hlen,HI,hb⟩:=hrel;have hbo:=HI.low;by_cases hlt:k<la.length
  ·obtain⟨b1,o1,rfl,hb1,c1⟩:=R1.cell (j:=k) A3;replace c1:wr.drew.cell? ⟨b1,o1+k,none⟩=some (.int .i64 (la.getD k 0:Nat)):=(hb.cell (p:=⟨b1,o1+k,none⟩) hb1).trans c1;have hx9:=HS.1.getD A3 k;have hy9:=HS.2.getD A3 k;have HP:=Hd (fun h=>HI.plain HS.1 A3 h);have HB:=Hd (fun h=>HI.borrowed HS.2 A3 h);have H43:=Hd (fun W h=>g6 (.slice ad2 lb.length cap2) lb k W h A3 A3);have hrow1:wr.drew.ownsRow w.heap.size 3 1 u5 out.length (out.map dz):=hrow;have B1:=hb.drew;have R2W:=R2.below B1;generalize la.getD k 0=x at c1 hx9 HP HB;generalize lb.getD k 0=y at hy9 HP HB H43;clear hrow HI
   go_wp2_with fail
   refine Rd.rg (fun X=>X.cell? ⟨b1,o1+k,none⟩=some (.int .i64 (x:Int))∧Below w.heap.size w X) 11 [0,1,2,3,4,5,8,7,9] [0,1,2,3,4,5,8,6,7,9,10] ⟨c1,B1⟩ ?_;generalize wr.drew=W1 at c1 hrow1 B1 R2W ⊢;have hbs:=B1.size;refine Rd.sf (.slice (some ⟨b1,o1,none⟩) la.length cap1) ?_;refine Rd.sf (.int .i64 (k:Int)) ?_;refine Rd.sf (.pointer (some ⟨b1,o1+k,none⟩)) ?_;refine Rd.sg (.int .i64 (x:Int)) ?_ (y:=fun X hX=>by have hX1:=hX.1;go_simp);refine Rd.sf (.slice ad2 lb.length cap2) ?_;refine Rd.sf (.int .i64 (k:Int)) ?_;refine Rd.sf (.int .i64 (bo:Int)) ?_;refine Rd.sm fun K hK=>?_
   go_simp;refine(H43.out W1 R2W).mono ?_;rintro e w' ⟨rfl,rfl⟩;refine hK _ _ (fun _=>⟨c1,B1⟩) ?_;clear hK K;refine Rd.sg (.int .i64 ((x:Int) - y)) ?_ (y:=fun X _=>Cv);refine Rd.sg (.int .i64 ((x:Int) - y - bo)) ?_ (y:=fun X _=>Cv);refine Rd.sm fun K hK=>?_
   go_simp;refine hK _ _ (fun _=>⟨c1,B1⟩) ?_;refine Rd.seq_end ?_;by_cases hbr:x<y+bo
   ·have HX:=Hd (HB.out hbr);have hneg:(x:Int) - y - bo<0:=A3
    clear HB HP;have HC:Hid ((x:Int) - y - bo+10000=((x+10000 - y - bo:Nat):Int)):=Hd A3
    go_wp2_with (at_builtin;refine wpList_append_own _ rfl _ _ 51 rfl w.heap.size 3 i0 (.int .i64 0) 1 8 Tryz.underlying51 hi hz0 hz1 hz2 rfl BD u5 _ _ rfl (hrow1.alloc _) ⟨W1.heap.size,0,none⟩ 1 1 [.int .i64 ((x:Int) - y - bo+10000)] rfl rfl (cell_one_new _ _ _) Ck Cu A3 Cq ?_;intro v2 w2 hown2 hgrow _)
    refine⟨⟨k+1,1,out++[x+10000 - y - bo],A3,rfl,Cw,?_,BS,HX,(B1.alloc B1.size _).grown hgrow (Nat.le_trans B1.size B4) (fun j ej=>(hrow1.lt j ej).1)⟩,?_⟩
    ·rw[List.length_append,List.map_append];have e1:[x+10000 - y - bo].map dz=[.int .i64 ((x:Int) - y - bo+10000)]:=by rw[HC.out];rfl
     rw[e1];exact hown2
    ·simp only[intOf];omega
   ·have HX:=Hd (HP.out A3);have hpos:0≤(x:Int) - y - bo:=A3
    clear HB HP;have HC:Hid ((x:Int) - y - bo=((x - y - bo:Nat):Int)):=Hd A3
    go_wp2_with (at_builtin;refine wpList_append_own _ rfl _ _ 51 rfl w.heap.size 3 i0 (.int .i64 0) 1 8 Tryz.underlying51 hi hz0 hz1 hz2 rfl BD u5 _ _ rfl (hrow1.alloc _) ⟨W1.heap.size,0,none⟩ 1 1 [.int .i64 ((x:Int) - y - bo)] rfl rfl (cell_one_new _ _ _) Ck Cu A3 Cq ?_;intro v2 w2 hown2 hgrow _)
    refine⟨⟨k+1,0,out++[x - y - bo],A3,rfl,Cw,?_,BS,HX,(B1.alloc B1.size _).grown hgrow (Nat.le_trans B1.size B4) (fun j ej=>(hrow1.lt j ej).1)⟩,?_⟩
    ·rw[List.length_append,List.map_append];have e1:[x - y - bo].map dz=[.int .i64 ((x:Int) - y - bo)]:=by rw[HC.out];rfl
     rw[e1];exact hown2
    ·simp only[intOf];omega
  ·have hkl:k=la.length:=A3
   have HF:Hid (bq out=dig 10000 (a - b)):=Hd (by
    have h1:=HI.out;rw[hkl] at h1;have h2:=h1.done A3 hl2 (by rw[HV.1,HV.2];exact hba);rw[dJ A3 _ h1.small,h2.2,HV.1,HV.2])
   have hout:out.length≤1000000:=A3
   have H44:=Hd (kW _ out wr (Row.of_owns hrow) hout);clear HI
   go_wp2_with fail
   refine H44.mono ?_;rintro e w' ⟨v',rfl,hv',rfl⟩
   go_wp2_with fail
   go_ret;refine⟨_,rfl,?_,hb⟩;rw[←HF.out];exact hv'
theorem kE (n:Nat):(madeCells (Value.int .i64 0).cells (n*1)).toList=(List.replicate n 0).map dz:=by
 show (madeCells #[Value.int .i64 0] (n*1)).toList=_;rw[toList_madeCells_one,Nat.mul_one,List.map_replicate];rfl
theorem BQ {p:Prop} (h:p:=by have:=HNN.out;omega):p:=h
theorem BN {p:Prop} (h:p:=by simp[List.getD,List.getElem?_replicate];split<;>rfl):p:=h
theorem jA (v1 v2:Value) (a b:Nat) (w:World) (h1:Row w v1 (D a)) (h2:Row w v2 (D b)) (hl1:(D a).length≤100000) (hl2:(D b).length≤100000):
  Calls Tryz.prog 110 #[v1,v2] w fun e w'=>∃v,e= .returned v∧Row w' v (D (a*b))∧Below w.heap.size w w':=by
 obtain⟨i0,hi,hz0,hz1,hz2⟩:=info_parts Tryz.info3;have R1:=Hd h1;have R2:=Hd h2;obtain⟨ad1,cap1,rfl,-,-⟩:=h1;obtain⟨ad2,cap2,rfl,-,-⟩:=h2;have HS:=Hd (And.intro (b8 (B:=10000) A3 a) (b8 (B:=10000) A3 b));have HV:=Hd (And.intro (bU (B:=10000) A3 a) (bU (B:=10000) A3 b));unfold D at *;generalize dig 10000 a=la at *;generalize dig 10000 b=lb at *;obtain⟨nn,hnn⟩: ∃nn,nn=la.length+lb.length:=⟨_,rfl⟩
 have HNN:=Hd hnn;have hnl:nn≤200000:=A3
 clear hnn;go_enter Tryz.func110,Tryz.ntmps110
 go_wp2_with (refine wpList_make_full w rfl _ _ 51 rfl w.heap.size 3 i0 (.int .i64 0) 1 Tryz.underlying51 hi hz0 hz1 .i64 .i64 _ _ nn rfl rfl BQ BQ (by rw[hz2];omega) Cu lr ?_;intro w1 hown hgrow)
 rw[kE] at hown;have hb1:Below w.heap.size w w1:=(Below.refl _ w).grown hgrow lr (fun j ej=>by cases ej);have HO1:=Hd hown
 go_wp2_with fail
 go_loopw [18] (fun i wr=>∃(k:Nat) (o:List Nat),k≤la.length∧i= .int .i64 (k:Int)∧wr.ownsRow w.heap.size 3 1 (.slice (some ⟨w.heap.size,0,none⟩) nn nn) nn (o.map dz)∧o.length=nn∧Hid (Small 10000 o∧val 10000 o=val 10000 (la.take k)*val 10000 lb∧∀j,k+lb.length≤j→o.getD j 0=0)∧Below w.heap.size w wr) (fun i _=>la.length - (intOf i).toNat)
 case atStart=>exact⟨0,List.replicate nn 0,Nat.zero_le _,rfl,hown,B4,Hd ⟨Small.zeros A3 _,by rw[iS];simp[val],fun j _=>BN⟩,hb1⟩
 case round=>
  clear HO1 hown hgrow;obtain⟨i,o,hik,rfl,hown,holen,HI,hb⟩:=hrel;by_cases hlt:i<la.length
  ·obtain⟨b1,o1,rfl,hb1x,c1⟩:=R1.cell (j:=i) hlt;have hx9:=HS.1.getD A3 i;have hvt:=Hd (bS (B:=10000) la i);generalize la.getD i 0=x at c1 hx9 hvt
   go_wp2_with fail
   go_loopw [7,23] (fun c j wr2=>∃(k cy:Nat) (out:List Nat),k≤lb.length∧c= .int .i64 (cy:Int)∧j= .int .i64 (k:Int)∧wr2.ownsRow w.heap.size 3 1 (.slice (some ⟨w.heap.size,0,none⟩) nn nn) nn (out.map dz)∧Hid (iK 10000 lb o out x cy i k)∧Below w.heap.size w wr2) (fun _ j _=>lb.length - (intOf j).toNat)
   case atStart=>exact⟨0,0,o,Nat.zero_le _,rfl,rfl,hown,Hd (iK.zero A3 HI.1),hb⟩
   case round=>
    obtain⟨k,cy,out,hkl,rfl,rfl,hown2,HM,hb2⟩:=hrel;have hcy:=HM.low;have hol2:out.length=nn:=by rw[HM.len,holen]
    have hN:=HNN.out;by_cases hkb:k<lb.length
    ·obtain⟨b2,o2,rfl,hb2x,c2⟩:=R2.cell (j:=k) hkb;have hy9:=HS.2.getD A3 k;have hz9:=HM.small.getD A3 (i+k);have HM2:=Hd (HM.step A3 HS.2 hx9 A3);have c3:wr.cell? ⟨w.heap.size,i+k,none⟩=some (.int .i64 (out.getD (i+k) 0:Nat)):=by
      rw[hown2.cellAt (i+k) A3];have:i+k<out.length:=A3
      simp[List.getD,this,dz]
     replace c1:=(hb2.cell (p:=⟨b1,o1+i,none⟩) hb1x).trans c1;replace c2:=(hb2.cell (p:=⟨b2,o2+k,none⟩) hb2x).trans c2;have hxy:x*lb.getD k 0≤9999*9999:=Nat.mul_le_mul A3 A3;generalize lb.getD k 0=y at c2 hy9 HM2 hxy;generalize out.getD (i+k) 0=z at c3 hz9 HM2;have hikn:i+k<nn:=A3
     have hxyz:0≤(x:Int)*y∧(x:Int)*y≤99980001:=⟨Int.mul_nonneg A3 A3,by have h:((x*y:Nat):Int)≤((9999*9999:Nat):Int):=Int.ofNat_le.2 hxy;rw[Int.natCast_mul] at h;omega⟩
     clear hN
     go_wp2_with fail
     refine Rd.rg (fun X=>X.cell? ⟨w.heap.size,i+k,none⟩=some (.int .i64 (z:Int))∧X.cell? ⟨b1,o1+i,none⟩=some (.int .i64 (x:Int))∧X.cell? ⟨b2,o2+k,none⟩=some (.int .i64 (y:Int))∧Below w.heap.size w X) 19 [0,1,2,3,4,5,6,7,8,9,10,11,12,13,14,15,16,17] [0,1,2,3,4,5,6,7,8,9,10,11,12,13,14,15,16,17,18] ⟨c3,c1,c2,hb2.drew⟩ ?_;refine Rd.sf (.slice (some ⟨w.heap.size,0,none⟩) nn nn) ?_;refine Rd.sf (.int .i64 (i:Int)) ?_;refine Rd.sf (.int .i64 (k:Int)) ?_;refine Rd.sg (.int .i64 ((i:Int)+k)) ?_ (y:=fun X _=>Cv);refine Rd.sg (.pointer (some ⟨w.heap.size,i+k,none⟩)) ?_ (y:=fun X _=>by go_simp;rw[if_pos A3,show ((i:Int)+k).toNat=i+k by omega]);refine Rd.sg (.int .i64 (z:Int)) ?_ (y:=fun X hX=>by have hX1:=hX.1;go_simp);refine Rd.sf (.slice (some ⟨b1,o1,none⟩) la.length cap1) ?_;refine Rd.sf (.int .i64 (i:Int)) ?_;refine Rd.sf (.pointer (some ⟨b1,o1+i,none⟩)) ?_;refine Rd.sg (.int .i64 (x:Int)) ?_ (y:=fun X hX=>by have hX1:=hX.2.1;go_simp);refine Rd.sf (.slice (some ⟨b2,o2,none⟩) lb.length cap2) ?_;refine Rd.sf (.int .i64 (k:Int)) ?_;refine Rd.sf (.pointer (some ⟨b2,o2+k,none⟩)) ?_;refine Rd.sg (.int .i64 (y:Int)) ?_ (y:=fun X hX=>by have hX1:=hX.2.2.1;go_simp);refine Rd.sg (.int .i64 ((x:Int)*y)) ?_ (y:=fun X _=>Cv);refine Rd.sg (.int .i64 ((z:Int)+x*y)) ?_ (y:=fun X _=>Cv);refine Rd.sf (.int .i64 (cy:Int)) ?_;refine Rd.sg (.int .i64 ((z:Int)+x*y+cy)) ?_ (y:=fun X _=>Cv);refine Rd.sm fun K hK=>?_
     go_simp;refine hK _ _ (fun _=>⟨c3,c1,c2,hb2.drew⟩) ?_;refine Rd.seq_end ?_;have B1:Below w.heap.size w wr.drew:=hb2.drew;have hown3:wr.drew.ownsRow w.heap.size 3 1 (.slice (some ⟨w.heap.size,0,none⟩) nn nn) nn (out.map dz):=hown2;have c4:wr.drew.cell? ⟨w.heap.size,i+k,none⟩=some (.int .i64 (z:Int)):=c3;clear hown2 hb2 c1 c2 c3;generalize wr.drew=W1 at B1 hown3 c4 ⊢;have hfz:=hown3.frozenAt (i+k)
     go_wp2_with fail
     obtain⟨hs1,hs2⟩:=hown3.stored (i+k) (.int .i64 (((z:Int)+x*y+cy) % 10000));refine⟨⟨k+1,(z+x*y+cy) / 10000,out.set (i+k) ((z+x*y+cy) % 10000),A3,B4,Cw,?_,HM2,B1.grown hs2 B1.size (fun j ej=>by cases ej;exact Nat.le_refl _)⟩,by simp[intOf];omega⟩;have e1:(out.set (i+k) ((z+x*y+cy) % 10000)).map dz=(out.map dz).set (i+k) (.int .i64 (((z:Int)+x*y+cy) % 10000)):=by
      rw[List.map_set];simp[dz]
     rw[e1];exact hs1
    ·have hkl2:k=lb.length:=A3
     subst hkl2;have hh:=HI.out;have hz0':o.getD (i+lb.length) 0=0:=hh.2.2 _ lr;have HD:=Hd (HM.done (by rw[holen];omega) hz0');have hikn:i+lb.length<nn:=A3
     have hzz:out.getD (i+lb.length) 0=0:=by rw[HM.rest _ lr,hz0']
     have c3:wr.cell? ⟨w.heap.size,i+lb.length,none⟩=some (.int .i64 0):=by
      rw[hown2.cellAt (i+lb.length) A3];have h1:i+lb.length<out.length:=A3
      have h2:out[i+lb.length]=0:=by rw[←hzz];simp[List.getD,h1]
      simp[h1,dz,h2]
     have hfz:=hown2.frozenAt (i+lb.length);have HE:Hid (Small 10000 (out.set (i+lb.length) cy)∧val 10000 (out.set (i+lb.length) cy)=val 10000 (la.take (i+1))*val 10000 lb∧∀j,i+1+lb.length≤j→(out.set (i+lb.length) cy).getD j 0=0):=Hd (by
      have hd:=HD.out;rw[hzz,Nat.zero_add] at hd;refine⟨hd.1,?_,fun j hj=>by rw[hd.2.2 j hj];exact hh.2.2 j A3⟩;rw[hd.2.1,hh.2.1,hvt.out,Nat.add_mul,Nat.mul_assoc])
     clear HD HM hh HI hvt hzz hz0' hN
     go_wp2_with fail
     obtain⟨hs1,hs2⟩:=hown2.stored (i+lb.length) (.int .i64 (cy:Int));refine⟨⟨i+1,out.set (i+lb.length) cy,A3,Cw,?_,by rw[List.length_set];exact hol2,HE,hb2.grown hs2 hb2.size (fun j ej=>by cases ej;exact Nat.le_refl _)⟩,by simp[intOf];omega⟩;rw[List.map_set];exact hs1
  ·have hki:i=la.length:=A3
   have HF:Hid (bq o=dig 10000 (a*b)):=Hd (by
    obtain⟨h1,h2,h3⟩:=HI.out;rw[dJ A3 _ h1,h2,hki,List.take_length,HV.1,HV.2])
   have hol:o.length≤1000000:=A3
   have hown2:wr.ownsRow w.heap.size 3 1 (.slice (some ⟨w.heap.size,0,none⟩) nn nn) o.length (o.map dz):=by rw[holen];exact hown
   have H44:=Hd (kW _ o wr (Row.of_owns hown2) hol);clear HI
   go_wp2_with fail
   refine H44.mono ?_;rintro e w' ⟨v',rfl,hv',rfl⟩
   go_wp2_with fail
   go_ret;refine⟨_,rfl,?_,hb⟩;rw[←HF.out];exact hv'
end Go.Proofs.YtohifgjeebhijaaGreatDoor
