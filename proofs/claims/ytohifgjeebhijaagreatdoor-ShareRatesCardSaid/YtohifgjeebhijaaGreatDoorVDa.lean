import Derived.Test.YtohifgjeebhijaaGreatDoorVBk
import Derived.Test.YtohifgjeebhijaaGreatDoorVShelf
namespace Go.Proofs.YtohifgjeebhijaaGreatDoor
set_option maxRecDepth 100000
set_option maxHeartbeats 4000000
open Go.RowKit Go.Dig Go.Shelf Go.Proofs Go.Dv
theorem vO (y s:Nat) (w:World) (hy2:y<18446744073709551616) (hs:s+Lib.bitLen y=64):
  Calls Tryz.prog 131 #[.int .u64 (y:Int)] w fun e w'=>e= .returned (.int .i64 (s:Int))∧w=w':=by
 refine(Tryz.bits_LeadingZeros64 (y:Int) w A3 A3).mono ?_;rintro e w' ⟨rfl,rfl⟩;refine⟨?_,rfl⟩;rw[Int.toNat_natCast,show (64:Int) - (Lib.bitLen y:Int)=(s:Int) by omega]
theorem kP {a s:Nat}:IntKind.u64.wrap ((a:Int)*2 ^ s)=((a*2 ^ s % 18446744073709551616:Nat):Int):=by
 rw[IntKind.wrap_u64];have:((a*2 ^ s:Nat):Int)=(a:Int)*2 ^ s:=B4
 rw[←this];omega
theorem yJ (a b:Nat) (ha:a<18446744073709551616) (hb:b<18446744073709551616):bits .or .u64 (a:Int) (b:Int)=((a ||| b:Nat):Int):=bits_or_u64_nat a b ha hb
def zM (y:Int) (s:Nat):Prop:=∀w:World,Calls Tryz.prog 131 #[.int .u64 y] w fun e w'=>e= .returned (.int .i64 (s:Int))∧w=w'
theorem Bo {p:Prop} (h:p:=by rw[hp,Ty0.out,Int.natCast_mul,Int.toNat_of_nonneg hq0]):p:=h
theorem Ay {p:Prop} (h:p:=by have h1:q.toNat*y0n≤4294967295*4294967295:=Nat.mul_le_mul (by omega) (by have:=HAv.hy0;omega);omega):p:=h
theorem Ax {p:Prop} (h:p:=by exfalso;have h9:=HP.out;rw[hz,Int.toNat_zero,Nat.zero_mul] at h9;omega):p:=h
theorem Aw {p:Prop} (h:p:=by have h9:=HH.done HAv.out (by have:=HP.out;have:=Td0.out;omega);rw[←HQ0.out] at h9;have:=TQ0.out;omega):p:=h
theorem Ai {p:Prop} (h:p:=by have h9:=HB.brk HAv.out (by have:=Ty1.out;omega);rw[←HQ0.out] at h9;have:=TQ0.out;omega):p:=h
theorem zU {p:Prop} (h:p:=by exact⟨q - 1,r+y1,rfl,rfl,by omega,by omega,by omega,by omega,Hd (by have h9:=HH2.out;rw[show (q - 1).toNat=q.toNat - 1 by omega,show (r+y1).toNat=r.toNat+y1n by have:=Ty1.out;omega];exact h9)⟩):p:=h
theorem qY (s un d1n y1n y0n Q1n vn d0n Q0n:Nat) (hi lo y Y y1 y0 u z d1 d0 qs ms rs Q1 t1 t2 t3 v qs2 ms2 rs2 Q0 t4 t5 t6 rr:Int) (w:World) (h0:0<hi) (hy:hi<y) (hs:zM y s) (hs63:s≤63)
  (E1:IntKind.u64.wrap (y*2 ^ s)=Y) (E2:Y / 4294967296=y1) (E3:bits .and .u64 Y 4294967295=y0)
  (E4:bits .or .u64 (IntKind.u64.wrap (hi*2 ^ s)) (lo / 2 ^ (64 - s))=u)
  (E5:IntKind.u64.wrap (lo*2 ^ s)=z) (E6:z / 4294967296=d1) (E7:bits .and .u64 z 4294967295=d0)
  (E8:IntKind.u64.wrap (u.tdiv y1)=qs) (E9:IntKind.u64.wrap (qs*y1)=ms) (E10:IntKind.u64.wrap (u - ms)=rs)
  (G1:IntKind.u64.wrap (u*4294967296)=t1) (G2:IntKind.u64.wrap (t1+d1)=t2) (G3:IntKind.u64.wrap (Q1*Y)=t3) (G4:IntKind.u64.wrap (t2 - t3)=v)
  (E82:IntKind.u64.wrap (v.tdiv y1)=qs2) (E92:IntKind.u64.wrap (qs2*y1)=ms2) (E102:IntKind.u64.wrap (v - ms2)=rs2)
  (G12:IntKind.u64.wrap (v*4294967296)=t4) (G22:IntKind.u64.wrap (t4+d0)=t5) (G32:IntKind.u64.wrap (Q0*Y)=t6) (G42:IntKind.u64.wrap (t5 - t6)=rr)
  (HAu:Hid (dC un d1n y1n y0n)) (HAv:Hid (dC vn d0n y1n y0n)) (Ty1:Hid (y1=(y1n:Int))) (Ty0:Hid (y0=(y0n:Int))) (Td1:Hid (d1=(d1n:Int))) (Td0:Hid (d0=(d0n:Int))) (TQ1:Hid (Q1=(Q1n:Int))) (TQ0:Hid (Q0=(Q0n:Int)))
  (hA1:2147483648≤y1) (hA2:y1<4294967296) (HQ1:Hid (Q1n=(un*4294967296+d1n) / (y1n*4294967296+y0n))) (HQ0:Hid (Q0n=(vn*4294967296+d0n) / (y1n*4294967296+y0n)))
  (h1r0:0≤rs) (h1r:rs<4294967296) (h1q0:0≤qs) (h1q:qs≤4294967298) (HS1:Hid (Hid (ff un d1n y1n y0n qs.toNat rs.toNat)))
  (h2r0:0≤rs2) (h2r:rs2<4294967296) (h2q0:0≤qs2) (h2q:qs2≤4294967298) (HS2:Hid (Hid (ff vn d0n y1n y0n qs2.toNat rs2.toNat)))
  (hQ10:0≤Q1) (hQ1:Q1<4294967296) (hQ00:0≤Q0) (hQ0:Q0<4294967296):
  Calls Tryz.prog 121 #[.int .u64 hi,.int .u64 lo,.int .u64 y] w fun e w'=>
   e= .returned (.tuple #[.int .u64 (Q1*4294967296+Q0),.int .u64 (rr / 2 ^ s)])∧w=w':=by
 have hh0:(hi==0)=false:=BL
 have hy0:(y==0)=false:=BL
 have hy10:(y1==0)=false:=BL
 go_enter Tryz.func121,Tryz.ntmps121
 go_wp2_with fail
 refine(hs w).mono ?_;rintro e w' ⟨rfl,rfl⟩
 go_wp2_with fail
 go_loop [15,16] (fun a b=>∃q r:Int,a= .int .u64 q∧b= .int .u64 r∧0≤r∧r<4294967296∧0≤q∧q≤4294967298∧Hid (ff un d1n y1n y0n q.toNat r.toNat)) (fun a _=>(intOf a).toNat)
 case atStart=>exact⟨_,_,rfl,rfl,h1r0,h1r,h1q0,h1q,HS1.out⟩
 case round=>
  obtain⟨q,r,rfl,rfl,hr0,hr,hq0,hq,HH⟩:=hrel;by_cases hbig:4294967296≤q
  ·have HB:=Hd (HH.big HAu.out A3);clear HH;by_cases hbr:4294967296≤r+y1
   ·have hq1:q - 1=Q1:=by
     have h9:=HB.brk HAu.out (by have:=Ty1.out;omega);rw[←HQ1.out] at h9;have:=TQ1.out;omega
    clear HB
    go_wp2_with fail
    go_loop [18,16] (fun a b=>∃q r:Int,a= .int .u64 q∧b= .int .u64 r∧0≤r∧r<4294967296∧0≤q∧q≤4294967298∧Hid (ff vn d0n y1n y0n q.toNat r.toNat)) (fun a _=>(intOf a).toNat)
    case atStart=>exact⟨_,_,rfl,rfl,h2r0,h2r,h2q0,h2q,HS2.out⟩
    case round=>
     obtain⟨q,r,rfl,rfl,hr0,hr,hq0,hq,HH⟩:=hrel;by_cases hbig:4294967296≤q
     ·have HB:=Hd (HH.big HAv.out A3);clear HH;by_cases hbr:4294967296≤r+y1
      ·have hq1:q - 1=Q0:=by
        exact Ai
       clear HB
       go_wp2_with fail
       go_ret2
       exact⟨rfl,rfl⟩
      ·have HH2:=Hd (Hd HB.out);clear HB
       go_wp2_with fail
       go_round
       case rel=>exact zU
       case measure=>simp[intOf];omega
     ·obtain⟨p,hp⟩: ∃p:Int,p=q*y0:=⟨_,rfl⟩
      have hpn:p=((q.toNat*y0n:Nat):Int):=Bo
      have hpl:q.toNat*y0n<18446744073709551616:=by
       exact Ay
      have F1:IntKind.u64.wrap (q*y0)=p:=by rw[←hp,hpn,Mul64.wrapN _ hpl]
      have hp0:0≤p:=by rw[hpn];omega
      have hp9:p<18446744073709551616:=by rw[hpn];omega
      have HP:=Hd hpn;clear hp hpn hpl;have hd8:0≤d0:=by have:=Td0.out;omega
      have hd9:d0<4294967296:=by have:=HAv.hd;have:=Td0.out;omega
      by_cases hmore:4294967296*r+d0<p
      ·have HB:=Hd (HH.more HAv.out (by have:=HP.out;have:=Td0.out;omega));have hqp:0<q:=by
        by_cases hz:q=0
        ·exact Ax
        ·omega
       clear HH HP;by_cases hbr:4294967296≤r+y1
       ·have hq1:q - 1=Q0:=by
         exact Ai
        clear HB
        go_wp2_with fail
        go_ret2
        exact⟨rfl,rfl⟩
       ·have HH2:=Hd (Hd HB.out);clear HB
        go_wp2_with fail
        go_round
        case rel=>exact zU
        case measure=>simp[intOf];omega
      ·have hq1:q=Q0:=by
        exact Aw
       clear HH HP;subst hq1
       go_wp2_with fail
       go_ret2
       exact⟨rfl,rfl⟩
   ·have HH2:=Hd (Hd HB.out);clear HB
    go_wp2_with fail
    go_round
    case rel=>exact zU
    case measure=>simp[intOf];omega
  ·obtain⟨p,hp⟩: ∃p:Int,p=q*y0:=⟨_,rfl⟩
   have hpn:p=((q.toNat*y0n:Nat):Int):=Bo
   have hpl:q.toNat*y0n<18446744073709551616:=by
    have h1:q.toNat*y0n≤4294967295*4294967295:=Nat.mul_le_mul A3 (by have:=HAu.hy0;omega);omega
   have F1:IntKind.u64.wrap (q*y0)=p:=by rw[←hp,hpn,Mul64.wrapN _ hpl]
   have hp0:0≤p:=by rw[hpn];omega
   have hp9:p<18446744073709551616:=by rw[hpn];omega
   have HP:=Hd hpn;clear hp hpn hpl;have hd8:0≤d1:=by have:=Td1.out;omega
   have hd9:d1<4294967296:=by have:=HAu.hd;have:=Td1.out;omega
   by_cases hmore:4294967296*r+d1<p
   ·have HB:=Hd (HH.more HAu.out (by have:=HP.out;have:=Td1.out;omega));have hqp:0<q:=by
     by_cases hz:q=0
     ·exact Ax
     ·omega
    clear HH HP;by_cases hbr:4294967296≤r+y1
    ·have hq1:q - 1=Q1:=by
      have h9:=HB.brk HAu.out (by have:=Ty1.out;omega);rw[←HQ1.out] at h9;have:=TQ1.out;omega
     clear HB
     go_wp2_with fail
     go_loop [18,16] (fun a b=>∃q r:Int,a= .int .u64 q∧b= .int .u64 r∧0≤r∧r<4294967296∧0≤q∧q≤4294967298∧Hid (ff vn d0n y1n y0n q.toNat r.toNat)) (fun a _=>(intOf a).toNat)
     case atStart=>exact⟨_,_,rfl,rfl,h2r0,h2r,h2q0,h2q,HS2.out⟩
     case round=>
      obtain⟨q,r,rfl,rfl,hr0,hr,hq0,hq,HH⟩:=hrel;by_cases hbig:4294967296≤q
      ·have HB:=Hd (HH.big HAv.out A3);clear HH;by_cases hbr:4294967296≤r+y1
       ·have hq1:q - 1=Q0:=by
         exact Ai
        clear HB
        go_wp2_with fail
        go_ret2
        exact⟨rfl,rfl⟩
       ·have HH2:=Hd (Hd HB.out);clear HB
        go_wp2_with fail
        go_round
        case rel=>exact zU
        case measure=>simp[intOf];omega
      ·obtain⟨p,hp⟩: ∃p:Int,p=q*y0:=⟨_,rfl⟩
       have hpn:p=((q.toNat*y0n:Nat):Int):=Bo
       have hpl:q.toNat*y0n<18446744073709551616:=by
        exact Ay
       have F1:IntKind.u64.wrap (q*y0)=p:=by rw[←hp,hpn,Mul64.wrapN _ hpl]
       have hp0:0≤p:=by rw[hpn];omega
       have hp9:p<18446744073709551616:=by rw[hpn];omega
       have HP:=Hd hpn;clear hp hpn hpl;have hd8:0≤d0:=by have:=Td0.out;omega
       have hd9:d0<4294967296:=by have:=HAv.hd;have:=Td0.out;omega
       by_cases hmore:4294967296*r+d0<p
       ·have HB:=Hd (HH.more HAv.out (by have:=HP.out;have:=Td0.out;omega));have hqp:0<q:=by
         by_cases hz:q=0
         ·exact Ax
         ·omega
        clear HH HP;by_cases hbr:4294967296≤r+y1
        ·have hq1:q - 1=Q0:=by
          exact Ai
         clear HB
         go_wp2_with fail
         go_ret2
         exact⟨rfl,rfl⟩
        ·have HH2:=Hd (Hd HB.out);clear HB
         go_wp2_with fail
         go_round
         case rel=>exact zU
         case measure=>simp[intOf];omega
       ·have hq1:q=Q0:=by
         exact Aw
        clear HH HP;subst hq1
        go_wp2_with fail
        go_ret2
        exact⟨rfl,rfl⟩
    ·have HH2:=Hd (Hd HB.out);clear HB
     go_wp2_with fail
     go_round
     case rel=>exact zU
     case measure=>simp[intOf];omega
   ·have hq1:q=Q1:=by
     have h9:=HH.done HAu.out (by have:=HP.out;have:=Td1.out;omega);rw[←HQ1.out] at h9;have:=TQ1.out;omega
    clear HH HP;subst hq1
    go_wp2_with fail
    go_loop [18,16] (fun a b=>∃q r:Int,a= .int .u64 q∧b= .int .u64 r∧0≤r∧r<4294967296∧0≤q∧q≤4294967298∧Hid (ff vn d0n y1n y0n q.toNat r.toNat)) (fun a _=>(intOf a).toNat)
    case atStart=>exact⟨_,_,rfl,rfl,h2r0,h2r,h2q0,h2q,HS2.out⟩
    case round=>
     obtain⟨q,r,rfl,rfl,hr0,hr,hq0,hq,HH⟩:=hrel;by_cases hbig:4294967296≤q
     ·have HB:=Hd (HH.big HAv.out A3);clear HH;by_cases hbr:4294967296≤r+y1
      ·have hq1:q - 1=Q0:=by
        exact Ai
       clear HB
       go_wp2_with fail
       go_ret2
       exact⟨rfl,rfl⟩
      ·have HH2:=Hd (Hd HB.out);clear HB
       go_wp2_with fail
       go_round
       case rel=>exact zU
       case measure=>simp[intOf];omega
     ·obtain⟨p,hp⟩: ∃p:Int,p=q*y0:=⟨_,rfl⟩
      have hpn:p=((q.toNat*y0n:Nat):Int):=Bo
      have hpl:q.toNat*y0n<18446744073709551616:=by
       exact Ay
      have F1:IntKind.u64.wrap (q*y0)=p:=by rw[←hp,hpn,Mul64.wrapN _ hpl]
      have hp0:0≤p:=by rw[hpn];omega
      have hp9:p<18446744073709551616:=by rw[hpn];omega
      have HP:=Hd hpn;clear hp hpn hpl;have hd8:0≤d0:=by have:=Td0.out;omega
      have hd9:d0<4294967296:=by have:=HAv.hd;have:=Td0.out;omega
      by_cases hmore:4294967296*r+d0<p
      ·have HB:=Hd (HH.more HAv.out (by have:=HP.out;have:=Td0.out;omega));have hqp:0<q:=by
        by_cases hz:q=0
        ·exact Ax
        ·omega
       clear HH HP;by_cases hbr:4294967296≤r+y1
       ·have hq1:q - 1=Q0:=by
         exact Ai
        clear HB
        go_wp2_with fail
        go_ret2
        exact⟨rfl,rfl⟩
       ·have HH2:=Hd (Hd HB.out);clear HB
        go_wp2_with fail
        go_round
        case rel=>exact zU
        case measure=>simp[intOf];omega
      ·have hq1:q=Q0:=by
        exact Aw
       clear HH HP;subst hq1
       go_wp2_with fail
       go_ret2
       exact⟨rfl,rfl⟩
theorem qo (lo y:Nat) (w:World) (h0:0<y) (hlo:lo<18446744073709551616):
  Calls Tryz.prog 121 #[.int .u64 0,.int .u64 (lo:Int),.int .u64 (y:Int)] w fun e w'=>
   e= .returned (.tuple #[.int .u64 ((lo / y:Nat):Int),.int .u64 ((lo % y:Nat):Int)])∧Below w.heap.size w w':=by
 have hy0:((y:Int)==0)=false:=BL
 have hq:IntKind.u64.wrap ((lo:Int) / (y:Int))=(lo:Int) / (y:Int):=by
  rw[←Int.natCast_ediv];exact Mul64.wrapN _ (Nat.lt_of_le_of_lt (Nat.div_le_self _ _) hlo)
 have hr:(lo:Int).tmod (y:Int)=(lo:Int) % (y:Int):=Int.tmod_eq_emod_of_nonneg A3;go_enter Tryz.func121,Tryz.ntmps121
 go_wp2_with fail
 refine Rd.rg (fun X=>True) 7 [0,1,2,3,4,5,6] [0,1,2,3,4,5,6,7] trivial ?_;refine Rd.sf (.int .u64 (lo:Int)) ?_;refine Rd.sf (.int .u64 (y:Int)) ?_;refine Rd.sf (.int .u64 ((lo / y:Nat):Int)) ?_;refine Rd.sf (.int .u64 (lo:Int)) ?_;refine Rd.sf (.int .u64 (y:Int)) ?_;refine Rd.sf (.int .u64 ((lo % y:Nat):Int)) ?_;refine Rd.sf (.int .u64 ((lo / y:Nat):Int)) ?_;refine Rd.sm fun K hK=>?_
 go_simp;refine hK _ _ (fun h=>absurd h A3) ?_;refine Rd.seq_end ?_
 go_wp2_with fail
 go_ret2
 exact⟨rfl,(Below.refl _ _).drew⟩
theorem vr (u z:Nat):(u*4294967296+z / 4294967296)*4294967296+z % 4294967296=u*18446744073709551616+z:=A3
theorem lH (hi lo y:Nat) (w:World) (hy:hi<y) (hy2:y<18446744073709551616) (hlo:lo<18446744073709551616):
  Calls Tryz.prog 121 #[.int .u64 (hi:Int),.int .u64 (lo:Int),.int .u64 (y:Int)] w fun e w'=>
   e= .returned (.tuple #[.int .u64 (((lo+18446744073709551616*hi) / y:Nat):Int),.int .u64 (((lo+18446744073709551616*hi) % y:Nat):Int)])∧Below w.heap.size w w':=by
 by_cases h0:hi=0
 ·subst h0;have h:=qo lo y w A3 hlo;simpa using h
 obtain⟨s,hs⟩: ∃s,s+Lib.bitLen y=64:=⟨64 - Lib.bitLen y,by have:=lQ hy2;omega⟩
 obtain⟨hY1,hY2,hs63⟩:=ko A3 hy2 hs;have hpos:0<2 ^ s:=Nat.pow_pos A3;have hN:=tc (hi:=hi) (lo:=lo) (s:=s) A3;have hor:=uJ (hi:=hi) (lo:=lo) (s:=s) A3 hlo;have hNlt:(hi*18446744073709551616+lo)*2 ^ s<y*2 ^ s*18446744073709551616:=by
  rw[Nat.mul_right_comm];exact Nat.mul_lt_mul_of_pos_right A3 hpos
 obtain⟨hd1,hd2⟩:=iW (N:=hi*18446744073709551616+lo) (y:=y) hpos;have hw1:IntKind.u64.wrap ((y:Int)*2 ^ s)=((y*2 ^ s:Nat):Int):=by rw[kP,Nat.mod_eq_of_lt hY2]
 have hhi:hi*2 ^ s<18446744073709551616:=Nat.lt_trans (Nat.mul_lt_mul_of_pos_right hy hpos) hY2;have hw2:bits .or .u64 (IntKind.u64.wrap ((hi:Int)*2 ^ s)) ((lo:Int) / 2 ^ (64 - s))=((hi*2 ^ s+lo / 2 ^ (64 - s):Nat):Int):=by
  have e:(lo:Int) / 2 ^ (64 - s)=((lo / 2 ^ (64 - s):Nat):Int):=B4
  rw[kP,Nat.mod_eq_of_lt hhi,e,yJ _ _ hhi (Nat.lt_of_le_of_lt (Nat.div_le_self _ _) hlo),hor]
 have hw3:=kP (a:=lo) (s:=s);have hpow:((2 ^ s:Nat):Int)=2 ^ s:=B4
 rw[hN] at hNlt hd1 hd2;rw[show lo+18446744073709551616*hi=hi*18446744073709551616+lo by omega,←hd1,←hd2];generalize y*2 ^ s=Y at *;generalize hi*2 ^ s+lo / 2 ^ (64 - s)=u at *;have hz:lo*2 ^ s % 18446744073709551616<18446744073709551616:=Nat.mod_lt _ A3;generalize lo*2 ^ s % 18446744073709551616=z at *;clear hN hor hd1 hd2 hhi;have hYe:Y / 4294967296*4294967296+Y % 4294967296=Y:=A3
 have hu:u<Y:=A3
 have Au:dC u (z / 4294967296) (Y / 4294967296) (Y % 4294967296):=⟨A3,A3,A3,A3,A3⟩
 have Ru:=Au.rest;have Su:=Au.start;have Lu:=Au.small;rw[hYe] at Ru Lu;have Av:dC ((u*4294967296+z / 4294967296) % Y) (z % 4294967296) (Y / 4294967296) (Y % 4294967296):=⟨A3,A3,A3,A3,by rw[hYe];exact Ru.2.2⟩
 have Rv:=Av.rest;have Sv:=Av.start;have Lv:=Av.small;rw[hYe] at Rv Lv;have T:=xW (X:=u*4294967296+z / 4294967296) (d:=z % 4294967296) (Y:=Y) A3;rw[vr u z] at T;rw[T.1,T.2];obtain⟨v,hv⟩: ∃v,v=(u*4294967296+z / 4294967296) % Y:=⟨_,rfl⟩
 obtain⟨Q1,hQ1⟩: ∃Q1,Q1=(u*4294967296+z / 4294967296) / Y:=⟨_,rfl⟩
 obtain⟨Q0,hQ0⟩: ∃Q0,Q0=(v*4294967296+z % 4294967296) / Y:=⟨_,rfl⟩
 obtain⟨rr,hrr⟩: ∃rr,rr=(v*4294967296+z % 4294967296) % Y:=⟨_,rfl⟩
 rw[←hv] at Ru Av Rv Sv Lv ⊢;rw[←hQ1] at Ru Lu ⊢;rw[←hQ0] at Rv Lv ⊢;rw[←hrr] at Rv ⊢;obtain⟨P1,hP1⟩: ∃P1,P1=Q1*Y:=⟨_,rfl⟩
 obtain⟨P0,hP0⟩: ∃P0,P0=Q0*Y:=⟨_,rfl⟩
 rw[←hP1] at Ru;rw[←hP0] at Rv;refine(qY s u (z / 4294967296) (Y / 4294967296) (Y % 4294967296) Q1 v (z % 4294967296) Q0 hi lo y Y ((Y / 4294967296:Nat):Int) ((Y % 4294967296:Nat):Int) u z ((z / 4294967296:Nat):Int) ((z % 4294967296:Nat):Int)
  ((u / (Y / 4294967296):Nat):Int) ((u / (Y / 4294967296)*(Y / 4294967296):Nat):Int) ((u - u / (Y / 4294967296)*(Y / 4294967296):Nat):Int) Q1 _ _ _ v
  ((v / (Y / 4294967296):Nat):Int) ((v / (Y / 4294967296)*(Y / 4294967296):Nat):Int) ((v - v / (Y / 4294967296)*(Y / 4294967296):Nat):Int) Q0 _ _ _ rr w A3 A3 (fun w=>vO y s w hy2 hs) hs63
  hw1 A3 (Mul64.maskN Y hY2) hw2 hw3 A3 (Mul64.maskN z hz)
  ?e8 ?e9 ?e10 rfl rfl rfl ?g4 ?e82 ?e92 ?e102 rfl rfl rfl ?g42
  (Hd Au) (Hd Av) (Hd rfl) (Hd rfl) (Hd rfl) (Hd rfl) (Hd rfl) (Hd rfl) A3 A3 (Hd (by rw[hYe];exact hQ1)) (Hd (by rw[hYe];exact hQ0))
  (Int.natCast_nonneg _) A3 (Int.natCast_nonneg _) A3 (Hd (Hd (by rw[Int.toNat_natCast,Int.toNat_natCast];exact Su.1)))
  (Int.natCast_nonneg _) A3 (Int.natCast_nonneg _) A3 (Hd (Hd (by rw[Int.toNat_natCast,Int.toNat_natCast];exact Sv.1))) A3 A3 A3 A3).mono ?_
 case e8=>rw[←Int.ofNat_tdiv];exact Mul64.wrapN _ A3
 case e9=>rw[Mul64.mulN];exact Mul64.wrapN _ A3
 case e10=>rw[IntKind.wrap_u64];omega
 case e82=>rw[←Int.ofNat_tdiv];exact Mul64.wrapN _ A3
 case e92=>rw[Mul64.mulN];exact Mul64.wrapN _ A3
 case e102=>rw[IntKind.wrap_u64];omega
 case g4=>rw[Mul64.mulN,←hP1];simp only[IntKind.wrap_u64];omega
 case g42=>rw[Mul64.mulN,←hP0];simp only[IntKind.wrap_u64];omega
 rintro e w' ⟨rfl,rfl⟩;refine⟨?_,Below.refl _ _⟩;have e1:((Q1*4294967296+Q0:Nat):Int)=(Q1:Int)*4294967296+(Q0:Int):=A3
 have e2:((rr / 2 ^ s:Nat):Int)=(rr:Int) / 2 ^ s:=by rw[Int.natCast_ediv,hpow]
 rw[e1,e2]
end Go.Proofs.YtohifgjeebhijaaGreatDoor
namespace Go.Proofs.YtohifgjeebhijaaGreatDoor
set_option maxRecDepth 100000
set_option maxHeartbeats 4000000
open Go.RowKit Go.Dig Go.Shelf Go.Proofs
attribute [local go_sem] Oper.semAt_some
def rL (w:World) (base g n cap:Nat) (l:List Nat) (d:Nat) (m:Nat) (W:World):Prop:=
 ∃(c:List Nat) (r:Nat),Hid (lq 18446744073709551616 l c d r m∧∀k,k<m→c.getD k 0=l.getD k 0)∧ay W base g n cap c∧Boxed W w.heap.size 47 (.slice (some ⟨g,0,none⟩) n cap)∧Boxed W (w.heap.size+1) 94 (.int .u64 (d:Int))∧
  Boxed W (w.heap.size+1+1) 94 (.int .u64 (r:Int))∧Boxed W (w.heap.size+1+1+1) 47 (.slice (some ⟨g,0,none⟩) n cap)∧Fr (· =g) w W
theorem rL.own {w:World} {base g n cap:Nat} {l:List Nat} {d B:Nat} (hB:w.heap.size≤B):OwnFrom B (rL w base g n cap l d):=by
 rintro m X Y row ⟨c,r,H,hO,bA,bD,bR,bC,hF⟩ hg hr;have hr2:=fun r e=>(hr r e).2
 exact⟨c,r,H,fY hO hg hr2,cE bA hg hr2,cE bD hg hr2,cE bR hg hr2,cE bC hg hr2,qQ (β:=Unit) hB () X Y row hF hg hr⟩
theorem ju {l:List Nat} {i d:Nat} (h:i<l.length):(l.set i d).getD i 0=d:=by simp[List.getD,h]
theorem fM (base g n cap:Nat) (l:List Nat) (d:Nat) (w:World) (h:ay w base g n cap l) (hs:a7 l) (hn:n≤1000000) (hd:0<d) (hd2:d<18446744073709551616):
  Calls Tryz.prog 94 #[.slice (some ⟨g,0,none⟩) n cap,.int .u64 (d:Int)] w fun e w'=>
   e= .returned (.int .u64 ((V l % d:Nat):Int))∧(∃q,ay w' base g n cap q∧a7 q∧V q=V l / d)∧Fr (· =g) w w':=by
 have hO:=Hd h;have hll:=h.len;have hgl:=h.lt.2;have hcap:=h.cap;have HS:=Hd hs;clear h hs;refine(callsIn_wide (n:=3)).1 ?_;refine callsIn_of_wp_marks Tryz.func94 rfl trivial ?_ rfl;simp only[Tryz.ntmps94,List.size_toArray,List.length_cons,List.length_nil,Nat.reduceAdd,Nat.reduceSub,Array.replicate_succ,Array.replicate_zero,List.push_toArray,List.append_toArray,List.nil_append,List.cons_append]
 gi_wp2_with fail
 refine⟨trivial,?_⟩;refine(callsIn_wide.2 (dY _ _ _ _)).mono ?_;rintro e w' ⟨rfl,rfl⟩
 gi_wp2_with fail
 have bA:=Boxed.new w 47 (.slice (some ⟨g,0,none⟩) n cap);have bD:=Boxed.new (w.alloc (.cells #[.slice (some ⟨g,0,none⟩) n cap] 47)) 94 (.int .u64 (d:Int));have bR:=Boxed.new ((w.alloc (.cells #[.slice (some ⟨g,0,none⟩) n cap] 47)).alloc (.cells #[.int .u64 (d:Int)] 94)) 94 (.int .u64 0);have bC:=Boxed.new (((w.alloc (.cells #[.slice (some ⟨g,0,none⟩) n cap] 47)).alloc (.cells #[.int .u64 (d:Int)] 94)).alloc (.cells #[.int .u64 0] 94)) 47 (.slice (some ⟨g,0,none⟩) n cap);simp only[World.size_alloc] at bD bR bC;replace bA:=((bA.alloc (.cells #[.int .u64 (d:Int)] 94)).alloc (.cells #[.int .u64 0] 94)).alloc (.cells #[.slice (some ⟨g,0,none⟩) n cap] 47);replace bD:=(bD.alloc (.cells #[.int .u64 0] 94)).alloc (.cells #[.slice (some ⟨g,0,none⟩) n cap] 47);replace bR:=bR.alloc (.cells #[.slice (some ⟨g,0,none⟩) n cap] 47);have hO0:=(((hO.alloc (.cells #[.slice (some ⟨g,0,none⟩) n cap] 47)).alloc (.cells #[.int .u64 (d:Int)] 94)).alloc (.cells #[.int .u64 0] 94)).alloc (.cells #[.slice (some ⟨g,0,none⟩) n cap] 47);have hF0:=((((Fr.refl (· =g) w).alloc (.cells #[.slice (some ⟨g,0,none⟩) n cap] 47)).alloc (.cells #[.int .u64 (d:Int)] 94)).alloc (.cells #[.int .u64 0] 94)).alloc (.cells #[.slice (some ⟨g,0,none⟩) n cap] 47);have hsz:((((w.alloc (.cells #[.slice (some ⟨g,0,none⟩) n cap] 47)).alloc (.cells #[.int .u64 (d:Int)] 94)).alloc (.cells #[.int .u64 0] 94)).alloc (.cells #[.slice (some ⟨g,0,none⟩) n cap] 47)).heap.size=w.heap.size+4:=B4
 generalize (((w.alloc (.cells #[.slice (some ⟨g,0,none⟩) n cap] 47)).alloc (.cells #[.int .u64 (d:Int)] 94)).alloc (.cells #[.int .u64 0] 94)).alloc (.cells #[.slice (some ⟨g,0,none⟩) n cap] 47)=W0 at bA bD bR bC hO0 hF0 hsz ⊢;obtain⟨B0,hB0⟩: ∃B0,B0=W0.heap.size:=⟨_,rfl⟩
 refine fA (w.heap.size+1+1+1) (some ⟨g,0,none⟩) n cap hn (fun k=>l.getD k 0) rfl rfl bC.cell
  (rL w base g n cap l d) (fun _ _=>False) (rL.own A3) (fun _ _ _ _ hs _ _=>hs)
  (fun k W hk hi=>by
   obtain⟨c,r,H,hO,bA,bD,bR,bC,hF⟩:=hi;refine⟨bC.cell,g,0,rfl,?_⟩;rw[Nat.zero_add,hO.cell hk,H.2 k A3])
  ⟨l,0,Hd ⟨?start,fun _ _=>rfl⟩,hO0,bA,bD,bR,bC,hF0⟩
  (fun k=>{ tmps:= #[.slice (some ⟨g,0,none⟩) n cap,.int .u64 (d:Int),.pointer (some ⟨w.heap.size,0,none⟩),.pointer (some ⟨w.heap.size+1,0,none⟩),.int .u64 0,.pointer (some ⟨w.heap.size+1+1,0,none⟩),.int .i64 (k:Int),.int .u64 (l.getD k 0:Nat),.slice (some ⟨g,0,none⟩) n cap,.func (.func 112) #[] #[.pointer (some ⟨w.heap.size+1+1+1,0,none⟩)],.int .i64 (k:Int),.int .u64 (l.getD k 0:Nat),undef,undef,undef,undef,undef,undef,undef,undef,undef,undef,undef],defers:=[] }) ?assign ?body ?done ?stop
 case start=>
  rw[←hll];exact⟨HS.out,rfl,hd,by simp[val]⟩
 case assign=>
  intro ll k W K hK
  gi_wp2
  exact hK
 case body=>
  rintro ll k W hk _ _ ⟨c,r,H,hO,bA,bD,bR,bC,hF⟩;have hx:=HS.getD A3 k;have hrd:r<d:=H.1.low;have HN:=Hd (H.1.step A3 HS.out A3);have HP:=H.2;have HPh:=Hd HP;clear HP;have hqq:=iu (B:=18446744073709551616) hx hrd;have hm:l.getD k 0+18446744073709551616*r - d*((l.getD k 0+18446744073709551616*r) / d)=(l.getD k 0+18446744073709551616*r) % d:=by
   have:=Nat.mod_add_div (l.getD k 0+18446744073709551616*r) d;omega
  rw[hm] at HN;have H62:=Hd (lH r (l.getD k 0) d W.drew hrd hd2 hx);have hrr:(l.getD k 0+18446744073709551616*r) % d<d:=Nat.mod_lt _ hd;generalize (l.getD k 0+18446744073709551616*r) / d=qq at HN H62 hqq;generalize (l.getD k 0+18446744073709551616*r) % d=rr at HN H62 hrr;clear hm H;generalize l.getD k 0=x at H62 hx ⊢;have hkc:(k:Int)<(cap:Int):=A3
  gi_wp2_with fail
  refine Rd.regionIn (fun X=>X.cell? ⟨w.heap.size,0,none⟩=some (.slice (some ⟨g,0,none⟩) n cap)∧X.cell? ⟨w.heap.size+1+1,0,none⟩=some (.int .u64 (r:Int))∧X.cell? ⟨w.heap.size+1,0,none⟩=some (.int .u64 (d:Int))) 11 [0,1,2,3,4,6,7,8,9] [0,1,2,3,4,5,6,7,8,9,10,11] Cx Cx Cx Cx Cx rfl ⟨bA.cell,bR.cell,bD.cell⟩ ?_;have bA1:Boxed W.drew w.heap.size 47 (.slice (some ⟨g,0,none⟩) n cap):=bA;have bD1:Boxed W.drew (w.heap.size+1) 94 (.int .u64 (d:Int)):=bD;have bR1:Boxed W.drew (w.heap.size+1+1) 94 (.int .u64 (r:Int)):=bR;have bC1:Boxed W.drew (w.heap.size+1+1+1) 47 (.slice (some ⟨g,0,none⟩) n cap):=bC;have hO1:ay W.drew base g n cap c:=hO;have hF1:Fr (· =g) w W.drew:=hF.drew;have hK1:KeepsFrom B0 W W.drew:=(KeepsOthers.drew _).from _;clear bA bD bR bC hO hF;generalize W.drew=W1 at bA1 bD1 bR1 bC1 hO1 hF1 hK1 H62 ⊢;refine Rd.sg (.slice (some ⟨g,0,none⟩) n cap) ?_ (y:=fun X hX=>by have h1:=hX.1;go_simp);refine Rd.sf (.int .i64 (k:Int)) ?_;refine Rd.sg (.int .u64 (r:Int)) ?_ (y:=fun X hX=>by have h1:=hX.2.1;go_simp);refine Rd.sf (.int .u64 (x:Int)) ?_;refine Rd.sg (.int .u64 (d:Int)) ?_ (y:=fun X hX=>by have h1:=hX.2.2;go_simp);refine Rd.sm fun K hK=>?_
  go_simp;refine H62.mono ?_;rintro e W2 ⟨rfl,hb2⟩;have bA2:Boxed W2 w.heap.size 47 (.slice (some ⟨g,0,none⟩) n cap):=(hb2.block _ bA1.lt).trans bA1;have bD2:Boxed W2 (w.heap.size+1) 94 (.int .u64 (d:Int)):=(hb2.block _ bD1.lt).trans bD1;have bR2:Boxed W2 (w.heap.size+1+1) 94 (.int .u64 (r:Int)):=(hb2.block _ bR1.lt).trans bR1;have bC2:Boxed W2 (w.heap.size+1+1+1) 47 (.slice (some ⟨g,0,none⟩) n cap):=(hb2.block _ bC1.lt).trans bC1;have hO2:ay W2 base g n cap c:=(Fr.of_below (G:=fun _=>False) hb2).owns hO1 (fun h=>h);have hF2:Fr (· =g) w W2:=hF1.trans (G':=fun _=>False) (Fr.of_below hb2) (fun _ _ h=>h.elim);have hK2:KeepsFrom B0 W W2:=hK1.trans ⟨hb2.size,fun i o _ hi _=>(hb2.block i (Array.getElem?_eq_some_iff.1 hi).1).trans hi⟩;refine hK _ _ (fun _=>⟨bA2.cell,bR2.cell,bD2.cell⟩) ?_;clear hK K;refine Rd.sf (.tuple #[.int .u64 (qq:Int),.int .u64 (rr:Int)]) ?_;refine Rd.sf (.int .u64 (qq:Int)) ?_;refine Rd.sf (.int .u64 (rr:Int)) ?_;refine Rd.sf (.pointer (some ⟨g,k,none⟩)) ?_;refine Rd.sm fun K hK=>?_
  go_simp;have hfz:=hO2.frozen k;have hcz:=hO2.cell hk;go_simp;have bA3:=bA2.kept (hO2.stored k (.int .u64 (qq:Int))).2 (fun e=>by cases e;have:=hO2.lt;omega);have bD3:=bD2.kept (hO2.stored k (.int .u64 (qq:Int))).2 (fun e=>by cases e;have:=hO2.lt;omega);have bR3:=bR2.kept (hO2.stored k (.int .u64 (qq:Int))).2 (fun e=>by cases e;have:=hO2.lt;omega);have bC3:=bC2.kept (hO2.stored k (.int .u64 (qq:Int))).2 (fun e=>by cases e;have:=hO2.lt;omega);have hO3:=hO2.set k qq;have hF3:Fr (· =g) w (W2.setCell ⟨g,k,none⟩ (.int .u64 (qq:Int))):=hF2.setCell (.inr rfl) _;have hK3:KeepsFrom B0 W (W2.setCell ⟨g,k,none⟩ (.int .u64 (qq:Int))):=hK2.trans ((KeepsOthers.setCell _ _ _).from _);refine hK _ _ (fun _=>⟨bA3.cell,bR3.cell,bD3.cell⟩) ?_;generalize W2.setCell ⟨g,k,none⟩ (.int .u64 (qq:Int))=W3 at bA3 bD3 bR3 bC3 hO3 hF3 hK3 ⊢;clear hK K;refine Rd.sm fun K hK=>?_
  go_simp;have hc3:=bR3.cell;have hf3:=bR3.frozen;go_simp;refine hK _ _ (fun h=>absurd h A3) ?_;refine Rd.seq_end ?_;refine⟨by rw[←hB0];exact hK3.trans ((KeepsOthers.setCell _ _ _).from _),c.set k qq,rr,Hd ⟨HN.out,fun j hj=>?_⟩,?_,bA3.other A3 _,bD3.other A3 _,bR3.set _,bC3.other A3 _,hF3.setCell (.inl (by show w.heap.size≤w.heap.size+1+1;omega)) _⟩
  ·rw[Go.Dig.getD_set_ne A3];exact HPh.out j A3
  ·exact hO3.kept (grownBy_setCell' W3 (w.heap.size+1+1) (.int .u64 (rr:Int))) (.inr (fun e=>by have e2:g=w.heap.size+1+1:=(by simpa[Value.ownBlock] using e);omega))
 case done=>
  rintro D W hD ⟨c,r,H,hO,bA,bD,bR,bC,hF⟩ hK;have hcr:=bR.cell;have HE:=Hd (H.1.done);have HC:=Hd H.1.small;clear H
  gi_wp2_with fail
  refine⟨B4,.inl ⟨_,_,rfl,run_takeDeferred hK,?_⟩⟩;have hg2:=grownBy_putObj' W D (.deferred none);have hr2: ∀r,some D=some r→∃o:Obj,W.heap[r]? =some o∧o.isCells=false:=fun r e=>by cases e;exact⟨_,hK,rfl⟩
  refine⟨_,results_tmp rfl _ _ _,by rw[show V l % d=r from HE.2.symm];rfl,⟨c,fY hO hg2 hr2,HC.out,HE.1⟩,?_⟩;exact hF.trans (G':=fun k=>k=D) (Fr.of_grown hg2 (fun k _ e=>by cases e;rfl)) (fun i hi e=>A3)
 case stop=>
  rintro D c W hD h hK;exact h.elim
theorem i7 {w:World} {base:Nat} {e:TypeId} {size:Nat} {v:Value} {n:Nat} {xs:List Value} (h:w.ownsRow base e size v n xs) (hn:0<n): ∃g cap,v= .slice (some ⟨g,0,none⟩) n cap:=by
 rcases h.2 with ⟨rfl,h1⟩ | ⟨g,cap,cur,rfl,_⟩
 ·omega
 ·exact⟨g,cap,rfl⟩
theorem yx (w:World) (a:Option Addr) (n c:Nat):(binOp .eql 47 (.slice a n c) (.slice none 0 0)).run Tryz.prog w= .ok (.bool a.isNone) w:=Lib.run_eql_slice_nil w 47 94 a n c 0 0 Tryz.underlying47
theorem l4 (w:World):Calls Tryz.prog 92 #[.slice none 0 0] w fun e w'=>e= .returned (.slice none 0 0)∧w=w':=by
 have q26:=yx;go_enter Tryz.func92,Tryz.ntmps92
 go_wp2_with fail
 go_ret;exact⟨rfl,rfl⟩
theorem iN (v:Value) (l:List Nat) (w:World) (h:aH w v l) (h0:l≠[]) (hl:l.length≤1000000):
  Calls Tryz.prog 92 #[v] w fun e w'=>∃g cap,e= .returned (.slice (some ⟨g,0,none⟩) l.length cap)∧ay w' w.heap.size g l.length cap l∧Below w.heap.size w w':=by
 obtain⟨i0,hi,hz0,hz1,hz2⟩:=info_parts Tryz.info94;obtain⟨ad,cap,rfl,hcap,h2⟩:=h;obtain⟨b,off,rfl,hb,hc⟩:=h2 h0;have H0:=Hd h0;clear h2 h0;have hpos:0<l.length:=List.length_pos_iff.2 H0.out;have hnews: ∀(j:Nat) (u:Value),(l.map lj)[j]? =some u→(w.alloc (.cells #[] 94)).cell? (Addr.add ⟨b,off,none⟩ j)=some u:=by
  intro j u hu;have hj:j<l.length:=by have:=(List.getElem?_eq_some_iff.1 hu).1;simpa using this
  have hbb:Below w.heap.size w (w.alloc (.cells #[] 94)):=(Below.refl _ w).alloc lr _;rw[Addr.add_lit,hbb.cell (p:=⟨b,off+j,none⟩) hb,hc j hj];simp[hj,lj] at hu;rw[←hu];simp[List.getD,hj]
 have hown:(w.alloc (.cells #[] 94)).ownsRow w.heap.size 94 1 (.slice (some ⟨w.heap.size,0,none⟩) 0 0) 0 []:=World.ownsRow_lit w #[] 0 lr A3 rfl;have HN:=Hd hnews;clear hnews hc;have q26:=yx;go_enter Tryz.func92,Tryz.ntmps92
 go_wp2_with (at_builtin;refine wpList_append_own _ rfl _ _ 47 rfl w.heap.size 94 i0 (.int .u64 0) 1 8 Tryz.underlying47 hi hz0 hz1 hz2 rfl BD _ _ _ rfl hown ⟨b,off,none⟩ l.length cap (l.map lj) rfl B4 HN.out (fun u hu=>by simp[lj] at hu;obtain⟨x,_,rfl⟩:=hu;rfl) Cu A3 B4 ?_;intro v2 w2 hown2 hgrow _)
 obtain⟨g,cp,rfl⟩:=i7 hown2 A3;go_ret;rw[Nat.zero_add,List.nil_append] at hown2;refine⟨g,cp,by rw[Nat.zero_add];rfl,hown2,?_⟩;exact((Below.refl _ w).alloc lr _).grown hgrow B4 (fun k e=>by cases e;exact Nat.le_refl _)
end Go.Proofs.YtohifgjeebhijaaGreatDoor
