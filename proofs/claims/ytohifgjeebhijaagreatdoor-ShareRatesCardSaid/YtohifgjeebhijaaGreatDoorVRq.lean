import Derived.Test.YtohifgjeebhijaaGreatDoorVAm
namespace Go.Rq
def rat (a b:Nat):Rat:=mkRat a b
theorem rS (a:Nat) {b:Nat} (h:b≠0):(rat a b).num=((a / Nat.gcd a b:Nat):Int):=by
 unfold rat;rw[Rat.num_mkRat,if_neg h,Int.natAbs_natCast,Nat.gcd_comm];simp
theorem eJ (a:Nat) {b:Nat} (h:b≠0):(rat a b).den=b / Nat.gcd a b:=by
 unfold rat;rw[Rat.den_mkRat,if_neg h,Int.natAbs_natCast,Nat.gcd_comm]
theorem cA (a b:Nat):rat a b=(a:Rat) / (b:Rat):=by
 unfold rat;rw[Rat.mkRat_eq_div];rfl
def N (r:Rat):Nat:=r.num.toNat
theorem cq {r:Rat} (h:0≤r):rat (N r) r.den=r:=by
 unfold rat N;rw[Int.toNat_of_nonneg (Rat.num_nonneg.2 h),Rat.mkRat_self]
theorem kz (a:Nat) {b:Nat} (h:b≠0):N (rat a b)=a / Nat.gcd a b:=by
 unfold N;rw[rS a h];exact Int.toNat_natCast _
theorem fw (a b:Nat):0≤rat a b:=by
 by_cases h:b=0
 ·unfold rat;subst h;simp
 ·rw[←Rat.num_nonneg,rS a h];exact Int.natCast_nonneg _
theorem zw {r:Rat} (h:0≤r):Nat.gcd (N r) r.den=1:=by
 have h1:=r.reduced;unfold N;have e:r.num.natAbs=r.num.toNat:=by have:=Rat.num_nonneg.2 h;omega
 rw[←e];exact h1
theorem aR {b:Nat} (h:b≠0):(0:Rat)<(b:Rat):=Rat.natCast_pos.2 (Nat.pos_of_ne_zero h)
theorem Bp {p:Prop} (h:p:=by intro e;rcases Rat.mul_eq_zero.1 e with e | e<;>grind):p:=h
theorem xq (a c:Nat) {b d:Nat} (hb:b≠0) (hd:d≠0):rat a b+rat c d=rat (a*d+c*b) (b*d):=by
 rw[cA,cA,cA,Rat.natCast_add,Rat.natCast_mul,Rat.natCast_mul,Rat.natCast_mul];have h1:=aR hb;have h2:=aR hd;have h3:(b:Rat)*d≠0:=Bp
 grind
theorem xo (a c:Nat) {b d:Nat} (hb:b≠0) (hd:d≠0):rat a b*rat c d=rat (a*c) (b*d):=by
 rw[cA,cA,cA,Rat.natCast_mul,Rat.natCast_mul];have h1:=aR hb;have h2:=aR hd;have h3:(b:Rat)*d≠0:=Bp
 grind
theorem xn (a c:Nat) {b d:Nat} (hb:b≠0) (hd:d≠0) (h:c*b≤a*d):rat a b - rat c d=rat (a*d - c*b) (b*d):=by
 have e:rat (a*d - c*b) (b*d)+rat c d=rat a b:=by
  rw[cA,cA,cA,Rat.natCast_mul];have h4:((a*d - c*b:Nat):Rat)=(a:Rat)*d - (c:Rat)*b:=by
   have h5:((a*d - c*b:Nat):Rat)+((c*b:Nat):Rat)=((a*d:Nat):Rat):=by rw[←Rat.natCast_add,Nat.sub_add_cancel h]
   rw[Rat.natCast_mul,Rat.natCast_mul] at h5;grind
  rw[h4];have h1:=aR hb;have h2:=aR hd;have h3:(b:Rat)*d≠0:=Bp
  grind
 grind
theorem ye (a:Nat) {b c d:Nat} (hb:b≠0) (hd:d≠0) (hc:c≠0):rat a b / rat c d=rat (a*d) (c*b):=by
 rw[cA,cA,cA,Rat.natCast_mul,Rat.natCast_mul];have h1:=aR hb;have h2:=aR hd;have h4:=aR hc;have h3:(c:Rat)*b≠0:=Bp
 grind
theorem mE (a c:Nat) {b d:Nat} (hb:b≠0) (hd:d≠0):rat a b<rat c d↔a*d<c*b:=by
 have h1:=aR hb;have h2:=aR hd;have e1:rat a b*(b*d)=((a*d:Nat):Rat):=by rw[cA,Rat.natCast_mul];grind
 have e2:rat c d*(b*d)=((c*b:Nat):Rat):=by rw[cA,Rat.natCast_mul];grind
 have h3:(0:Rat)<(b:Rat)*d:=Rat.mul_pos h1 h2;rw[←Rat.natCast_lt_natCast,←e1,←e2];exact⟨fun h=>Rat.mul_lt_mul_of_pos_right h h3,fun h=>by
  rcases Rat.not_le.1 (fun h4=>absurd (Rat.mul_le_mul_of_nonneg_right h4 (Rat.le_of_lt h3)) (Rat.not_le.2 h)) with h5;exact h5⟩
theorem ru (n:Nat):rat n 1=(n:Rat):=by rw[cA];grind
abbrev Kid:=Nat×Nat
def given (l:Rat) (k:Kid):Rat:=if (k.2:Rat)<l*k.1 then (k.2:Rat) else l*k.1
def sum (l:Rat):List Kid→Rat
 | []=>0
 | k::ks=>given l k+sum l ks
def bT:List Kid→Nat
 | []=>0
 | k::ks=>k.2+bT ks
def top (k:Kid):Rat:=rat k.2 k.1
def Good (ks:List Kid):Prop:=∀k∈ks,k.1≠0
theorem Good.tail {k:Kid} {ks:List Kid} (h:Good (k::ks)):Good ks:=fun x hx=>h x (List.mem_cons_of_mem _ hx)
theorem Good.head {k:Kid} {ks:List Kid} (h:Good (k::ks)):k.1≠0:=h k List.mem_cons_self
theorem gx {k:Kid} (h:k.1≠0):top k*k.1=k.2:=by
 unfold top;rw[cA];have:=aR h;grind
theorem eK {a b:Rat} {n:Nat} (h:a≤b):a*n≤b*n:=Rat.mul_le_mul_of_nonneg_right h Rat.natCast_nonneg
theorem jb {a b:Rat} {n:Nat} (h:a<b) (hn:n≠0):a*n<b*n:=Rat.mul_lt_mul_of_pos_right h (aR hn)
theorem BX {p:Prop} (h:p:=by grind):p:=h
theorem eW {l:Rat} {k:Kid} (h0:k.1≠0) (h:l≤top k):given l k=l*k.1:=by
 have h1:=eK (n:=k.1) h;rw[gx h0] at h1;unfold given;rw[if_neg BX]
theorem gY {l:Rat} {k:Kid} (h0:k.1≠0) (h:top k≤l):given l k=k.2:=by
 have h1:=eK (n:=k.1) h;rw[gx h0] at h1;unfold given;split
 ·rfl
 ·grind
theorem qw {l m:Rat} (h:l≤m) (k:Kid):given l k≤given m k:=by
 have h1:=eK (n:=k.1) h;unfold given;split<;>split<;>grind
theorem pd (l:Rat) (k:Kid):given l k≤k.2:=by
 unfold given;split<;>grind
theorem mW {l:Rat} (h:0≤l) (k:Kid):0≤given l k:=by
 have h1:=eK (n:=k.1) h;have h2:(0:Rat)≤(k.2:Rat):=Rat.natCast_nonneg;unfold given;split<;>grind
theorem qT (k:Kid):given 0 k=0:=by
 have h2:(0:Rat)≤(k.2:Rat):=Rat.natCast_nonneg;unfold given;split<;>grind
theorem dw: ∀ks:List Kid,sum 0 ks=0
 | []=>rfl
 | k::ks=>by rw[sum,qT,dw ks];grind
theorem eh {l m:Rat} (h:l≤m): ∀ks:List Kid,sum l ks≤sum m ks
 | []=>by unfold sum;grind
 | k::ks=>by
  have h1:=qw h k;have h2:=eh h ks;unfold sum;grind
theorem ki {l:Rat}: ∀ {ks:List Kid},Good ks→(∀k∈ks,top k≤l)→sum l ks=(bT ks:Nat)
 | [],_,_=>rfl
 | k::ks,hg,h=>by
  rw[sum,bT,gY hg.head (h k List.mem_cons_self),ki hg.tail (fun x hx=>h x (List.mem_cons_of_mem _ hx)),Rat.natCast_add]
def bi (l:Rat):List Kid→Nat
 | []=>0
 | k::ks=>(if l<top k then k.1 else 0)+bi l ks
theorem gf {l m:Rat} (hlm:l≤m): ∀ {ks:List Kid},Good ks→(∀k∈ks,l<top k→m≤top k)→sum m ks=sum l ks+(m - l)*(bi l ks:Nat)
 | [],_,_=>by unfold sum bi;grind
 | k::ks,hg,h=>by
  have ih:=gf hlm hg.tail (fun x hx=>h x (List.mem_cons_of_mem _ hx));unfold sum bi;rw[ih,Rat.natCast_add];by_cases h1:l<top k
  ·rw[if_pos h1,eW hg.head (h k List.mem_cons_self h1),eW hg.head (Rat.le_of_lt h1)];grind
  ·rw[if_neg h1,gY hg.head (Rat.not_lt.1 h1),gY hg.head (Rat.le_trans (Rat.not_lt.1 h1) hlm)];grind
theorem nN {l:Rat}: ∀ {ks:List Kid},Good ks→(∃k∈ks,l<top k)→bi l ks≠0
 | [],_,⟨k,hk,_⟩=>by simp at hk
 | k::ks,hg,⟨x,hx,h⟩=>by
  unfold bi;rcases List.mem_cons.1 hx with rfl | hx
  ·rw[if_pos h];have:=hg.head;omega
  ·have:=nN hg.tail ⟨x,hx,h⟩;omega
structure dm (x l:Rat) (ks:List Kid):Prop where
 nonneg:0≤l
 eq:sum l ks=x
 least: ∀m,0≤m→sum m ks=x→l≤m
theorem dm.one {x l m:Rat} {ks:List Kid} (h:dm x l ks) (g:dm x m ks):l=m:=
 Rat.le_antisymm (h.least m g.nonneg g.eq) (g.least l h.nonneg h.eq)
theorem vM {x l:Rat} {ks:List Kid} (hg:Good ks) (h0:0≤l) (hl:sum l ks<x) (hu: ∀k∈ks,l<top k→x≤sum (top k) ks) (hx:x≤(bT ks:Nat)):
  bi l ks≠0∧dm x (l+(x - sum l ks) / (bi l ks:Nat)) ks:=by
 have hop:bi l ks≠0:=by
  refine nN hg ?_;refine Classical.byContradiction fun h=>?_
  have h1: ∀k∈ks,top k≤l:=fun k hk=>Rat.not_lt.1 fun h2=>h ⟨k,hk,h2⟩
  rw[ki hg h1] at hl;grind
 have hW:=aR hop;have hr:0<x - sum l ks:=BX
 have hd:0<(x - sum l ks) / (bi l ks:Nat):=by
  rw[Rat.div_def];exact Rat.mul_pos hr (Rat.inv_pos.2 hW)
 have hm:(x - sum l ks) / (bi l ks:Nat)*(bi l ks:Nat)=x - sum l ks:=BX
 generalize (x - sum l ks) / (bi l ks:Nat)=d at hd hm;have htop: ∀k∈ks,l<top k→l+d≤top k:=by
  intro k hk hlt;refine Rat.not_lt.1 fun hlt2=>?_
  have hmin: ∃q∈ks,l<top q∧top q≤top k∧∀z∈ks,l<top z→top q≤top z:=by
   have aux: ∀js:List Kid,(∀z∈js,z∈ks)→∃q∈ks,l<top q∧top q≤top k∧∀z∈js,l<top z→top q≤top z:=by
    intro js
    induction js with
    | nil=>exact fun _=>⟨k,hk,hlt,Rat.le_refl,fun z hz=>by simp at hz⟩
    | cons j js ih=>
     intro hj;obtain⟨q,hq,h1,h2,h3⟩:=ih (fun z hz=>hj z (List.mem_cons_of_mem _ hz));by_cases h4:l<top j∧top j<top q
     ·refine⟨j,hj j List.mem_cons_self,h4.1,BX,fun z hz hz2=>?_⟩;rcases List.mem_cons.1 hz with rfl | hz
      ·exact Rat.le_refl
      ·have:=h3 z hz hz2;grind
     ·refine⟨q,hq,h1,h2,fun z hz hz2=>?_⟩;rcases List.mem_cons.1 hz with rfl | hz
      ·exact Rat.not_lt.1 fun h5=>h4 ⟨hz2,h5⟩
      ·exact h3 z hz hz2
   exact aux ks (fun z hz=>hz)
  obtain⟨q,hq,h1,h2,h3⟩:=hmin;have h4:=gf (Rat.le_of_lt h1) hg h3;have h5:=hu q hq h1;have h6:top q<l+d:=BX
  have h7:(top q - l)*(bi l ks:Nat)<d*(bi l ks:Nat):=jb BX hop;grind
 have heq:sum (l+d) ks=x:=by
  rw[gf BX hg htop];grind
 refine⟨hop,BX,heq,fun m hm0 hmx=>Rat.not_lt.1 fun hlt=>?_⟩;by_cases hml:m≤l
 ·have:=eh hml ks;grind
 ·have hlm:l≤m:=Rat.le_of_lt (Rat.not_le.1 hml);have h1:=gf hlm hg (fun k hk hk2=>Rat.le_trans (Rat.le_of_lt hlt) (htop k hk hk2));have h2:(m - l)*(bi l ks:Nat)<d*(bi l ks:Nat):=jb BX hop;grind
theorem ke (ks:List Kid):dm 0 0 ks:=⟨Rat.le_refl,dw ks,fun _ h _=>h⟩
def bI (x:Rat) (all:List Kid):List Kid→Rat→Rat
 | [],low=>low
 | k::ks,low=>bI x all ks (if sum (top k) all<x∧low<top k then top k else low)
theorem kT (x:Rat) (all:List Kid): ∀(ks:List Kid) (low:Rat),low≤bI x all ks low
 | [],low=>Rat.le_refl
 | k::ks,low=>by
  have h:=kT x all ks (if sum (top k) all<x∧low<top k then top k else low);unfold bI;split at h
  ·rename_i h1;rw[if_pos h1];grind
  ·rename_i h1;rw[if_neg h1];exact h
theorem jh (x:Rat) (all:List Kid): ∀(ks:List Kid) (low:Rat),sum low all<x→sum (bI x all ks low) all<x
 | [],_,h=>h
 | k::ks,low,h=>by
  unfold bI;refine jh x all ks _ ?_;split
  ·rename_i h1;exact h1.1
  ·exact h
theorem lO (x:Rat) (all:List Kid): ∀(ks:List Kid) (low:Rat),∀k∈ks,bI x all ks low<top k→x≤sum (top k) all
 | [],_,k,hk,_=>by simp at hk
 | j::ks,low,k,hk,h=>by
  unfold bI at h;rcases List.mem_cons.1 hk with rfl | hk
  ·have h1:=kT x all ks (if sum (top k) all<x∧low<top k then top k else low);refine Rat.not_lt.1 fun h2=>?_
   split at h1
   ·rename_i h3;rw[if_pos h3] at h;grind
   ·rename_i h3;rw[if_neg h3] at h;exact h3 ⟨h2,BX⟩
  ·exact lO x all ks _ k hk h
theorem gZ (all:List Kid) (h: ∀k∈all,k.1≠0): ∀ks:List Kid,bI 0 all ks 0=0
 | []=>rfl
 | k::ks=>by
  unfold bI;have h1: ¬(sum (top k) all<0∧0<top k):=by
   rintro⟨h2,h3⟩;have h4:=eh (Rat.le_of_lt h3) all;rw[dw] at h4;grind
  rw[if_neg h1];exact gZ all h ks
def aN (x:Rat) (ks:List Kid):Rat:=
 if bi (bI x ks ks 0) ks=0∨x - sum (bI x ks ks 0) ks=0 then bI x ks ks 0
 else bI x ks ks 0+(x - sum (bI x ks ks 0) ks) / (bi (bI x ks ks 0) ks:Nat)
theorem jd {x:Rat} {ks:List Kid} (hg:Good ks) (h0:0≤x) (hx:x≤(bT ks:Nat)):dm x (aN x ks) ks:=by
 unfold aN;by_cases hz:x=0
 ·subst hz;rw[gZ ks hg ks,if_pos (.inr (by rw[dw];grind))];exact ke ks
 ·have h1:sum (bI x ks ks 0) ks<x:=jh x ks ks 0 (by rw[dw];grind);have h2:=vM hg (kT x ks ks 0) h1 (lO x ks ks 0) hx;rw[if_neg (by
   rintro (h3 | h3)
   ·exact h2.1 h3
   ·grind)]
  exact h2.2
theorem sum_append (l:Rat): ∀(a b:List Kid),sum l (a++b)=sum l a+sum l b
 | [],b=>by rw[List.nil_append];unfold sum;grind
 | k::a,b=>by
  rw[List.cons_append,sum,sum_append l a b,sum];grind
def bX (D:Nat) (r:Rat):Prop:=∃n:Nat,r*D=n
theorem dD (D n:Nat):bX D n:=⟨n*D,by rw[Rat.natCast_mul]⟩
theorem iL {D:Nat} {r s:Rat} (h:bX D r) (g:bX D s):bX D (r+s):=by
 obtain⟨a,ha⟩:=h;obtain⟨b,hb⟩:=g;exact⟨a+b,by rw[Rat.natCast_add];grind⟩
theorem gn {D:Nat} {r s:Rat} (h:bX D r) (g:bX D s) (hle:s≤r):bX D (r - s):=by
 obtain⟨a,ha⟩:=h;obtain⟨b,hb⟩:=g;have h1:(b:Rat)≤a:=by rw[←ha,←hb];exact eK hle
 have h2:b≤a:=Rat.natCast_le_natCast.1 h1;have h3:((a - b:Nat):Rat)+((b:Nat):Rat)=(a:Nat):=by rw[←Rat.natCast_add,Nat.sub_add_cancel h2]
 exact⟨a - b,BX⟩
theorem gD {D:Nat} {r:Rat} (n:Nat) (h:bX D r):bX D (r*n):=by
 obtain⟨a,ha⟩:=h;exact⟨a*n,by rw[Rat.natCast_mul];grind⟩
theorem bP {D:Nat} {r:Rat} (E:Nat) (h:bX D r):bX (D*E) r:=by
 obtain⟨a,ha⟩:=h;exact⟨a*E,by rw[Rat.natCast_mul,Rat.natCast_mul];grind⟩
theorem gj {D:Nat} {r:Rat} {n:Nat} (hn:n≠0) (h:bX D r):bX (D*n) (r / n):=by
 obtain⟨a,ha⟩:=h;have:=aR hn;exact⟨a,by rw[Rat.natCast_mul];grind⟩
theorem lR {n D:Nat} (h:D≠0):bX D (rat n D):=by
 have:=aR h;exact⟨n,by rw[cA];grind⟩
theorem pJ {D:Nat} {r:Rat} (hD:D≠0) (h:bX D r): ∃n:Nat,r=rat n D∧r*D=n:=by
 obtain⟨a,ha⟩:=h;have:=aR hD;exact⟨a,by rw[cA];grind,ha⟩
theorem qk {r:Rat} (h:0≤r):bX r.den r:=by
 have e:=cq h;rw[cA] at e;have:=aR r.den_nz;exact⟨N r,BX⟩
def aI:List Kid→Nat
 | []=>0
 | k::ks=>k.1+aI ks
theorem fS: ∀a b:List Kid,bT (a++b)=bT a+bT b
 | [],b=>by simp[bT]
 | k::a,b=>by rw[List.cons_append,bT,fS a b,bT];omega
theorem j0 (l:Rat) {a b:List Kid} (h:a.Perm b):sum l a=sum l b:=by
 induction h with
 | nil=>rfl
 | cons x _ ih=>unfold sum;rw[ih]
 | swap x y t=>unfold sum;unfold sum;grind
 | trans _ _ h1 h2=>exact h1.trans h2
theorem tq {a b:List Kid} (h:a.Perm b):bT a=bT b:=by
 induction h with
 | nil=>rfl
 | cons x _ ih=>unfold bT;rw[ih]
 | swap x y t=>unfold bT;unfold bT;omega
 | trans _ _ h1 h2=>exact h1.trans h2
theorem mL {a b:List Kid} (h:a.Perm b):aI a=aI b:=by
 induction h with
 | nil=>rfl
 | cons x _ ih=>unfold aI;rw[ih]
 | swap x y t=>unfold aI;unfold aI;omega
 | trans _ _ h1 h2=>exact h1.trans h2
theorem dm.perm {x l:Rat} {a b:List Kid} (h:dm x l a) (p:a.Perm b):dm x l b:=
 ⟨h.nonneg,by rw[←j0 l p];exact h.eq,fun m hm e=>h.least m hm (by rw[j0 m p];exact e)⟩
theorem Good.perm {a b:List Kid} (h:Good a) (p:a.Perm b):Good b:=fun k hk=>h k (p.mem_iff.2 hk)
def Le (a b:Kid):Prop:=a.2*b.1≤b.2*a.1
theorem Le.top {a b:Kid} (h:Le a b) (ha:a.1≠0) (hb:b.1≠0):top a≤top b:=by
 refine Rat.not_lt.1 fun hlt=>?_
 unfold Rq.top at hlt;have h1:=(mE b.2 a.2 hb ha).1 hlt;unfold Le at h;omega
def lev:Rat→Nat→List Kid→Rat
 | _,_,[]=>0
 | left,W,k::ks=>if (k.2:Rat)<(left / W)*k.1 then lev (left - k.2) (W - k.1) ks else left / W
theorem rJ {l:Rat}: ∀ {ks:List Kid},Good ks→(∀k∈ks,l≤top k)→sum l ks=l*(aI ks:Nat)
 | [],_,_=>by unfold sum aI;grind
 | k::ks,hg,h=>by
  rw[sum,aI,eW hg.head (h k List.mem_cons_self),rJ hg.tail (fun x hx=>h x (List.mem_cons_of_mem _ hx)),Rat.natCast_add];grind
theorem pw {k:Kid} {ks:List Kid} (h:Good (k::ks)):aI (k::ks)≠0:=by
 have:=h.head;unfold aI;omega
theorem vB {x:Rat} (h0:0≤x): ∀(rest dn:List Kid) (left:Rat) (W:Nat),rest≠[]→Good (dn++rest)→left=x - (bT dn:Nat)→W=aI rest→(∀a∈dn,∀b∈rest,Le a b)→rest.Pairwise Le→
  (∀a∈dn,top a*(W:Rat)≤left)→0≤left→x≤(bT (dn++rest):Nat)→dm x (lev left W rest) (dn++rest)
 | [],_,_,_,h,_,_,_,_,_,_,_,_=>absurd rfl h
 | k::ks,dn,left,W,_,hg,hl,hW,hdr,hp,hdn,hl0,hx=>by
  have hgr:Good (k::ks):=fun z hz=>hg z (List.mem_append_right _ hz)
  have hgd:Good dn:=fun z hz=>hg z (List.mem_append_left _ hz)
  have hW0:W≠0:=by rw[hW];exact pw hgr
  have hWp:=aR hW0;have hk0:=hgr.head;have hkp:=aR hk0;have hev:left / W*W=left:=BX
  have hev0:0≤left / (W:Rat):=by
   rw[Rat.div_def];exact Rat.mul_nonneg hl0 (Rat.le_of_lt (Rat.inv_pos.2 hWp))
  unfold lev;by_cases ho:(k.2:Rat)<(left / W)*k.1
  ·rw[if_pos ho];have hWk:k.1≤W:=by rw[hW];unfold aI;omega
   have hWs:((W - k.1:Nat):Rat)=(W:Rat) - (k.1:Rat):=by
    have h5:((W - k.1:Nat):Rat)+((k.1:Nat):Rat)=(W:Nat):=by rw[←Rat.natCast_add,Nat.sub_add_cancel hWk]
    grind
   have htk:top k<left / W:=by
    refine Rat.not_le.1 fun h9=>?_
    have:=eK (n:=k.1) h9;rw[gx hk0] at this;grind
   have hkW:(k.1:Rat)≤(W:Rat):=Rat.natCast_le_natCast.2 hWk;have hle:(k.2:Rat)≤left:=by
    have h6:left / W*k.1≤left / W*W:=Rat.mul_le_mul_of_nonneg_left hkW hev0;grind
   have htop:top k*((W - k.1:Nat):Rat)≤left - k.2:=by
    have h7:=jb htk hW0;have h8:=gx hk0;rw[hWs];grind
   by_cases hks:ks=[]
   ·exfalso;subst hks;have hW1:W=k.1:=by rw[hW];simp[aI]
    rw[fS] at hx;simp only[bT,Nat.add_zero] at hx;rw[Rat.natCast_add] at hx;rw[←hW1] at ho;grind
   ·have e:dn++k::ks=(dn++[k])++ks:=B4
    rw[e] at hg hx ⊢;have hp':=List.pairwise_cons.1 hp;refine vB h0 ks (dn++[k]) (left - k.2) (W - k.1) hks hg ?_ ?_ ?_ hp'.2 ?_ BX hx
    ·rw[fS];simp only[bT,Nat.add_zero];rw[Rat.natCast_add,hl];grind
    ·rw[hW,show aI (k::ks)=k.1+aI ks from rfl];omega
    ·intro a ha b hb;rcases List.mem_append.1 ha with ha | ha
     ·exact hdr a ha b (List.mem_cons_of_mem _ hb)
     ·rw[List.mem_singleton] at ha;subst ha;exact hp'.1 b hb
    ·intro a ha;rcases List.mem_append.1 ha with ha | ha
     ·have h9:=(hdr a ha k List.mem_cons_self).top (hgd a ha) hk0;exact Rat.le_trans (eK h9) htop
     ·rw[List.mem_singleton] at ha;subst ha;exact htop
  ·rw[if_neg ho];have hp':=List.pairwise_cons.1 hp;have hlk:left / W≤top k:=by
    refine Rat.not_lt.1 fun h9=>?_
    have:=jb h9 hk0;rw[gx hk0] at this;grind
   have hlow: ∀z∈k::ks,left / W≤top z:=by
    intro z hz;rcases List.mem_cons.1 hz with rfl | hz
    ·exact hlk
    ·exact Rat.le_trans hlk ((hp'.1 z hz).top hk0 (hgr z (List.mem_cons_of_mem _ hz)))
   have hhigh: ∀z∈dn,top z≤left / W:=by
    intro z hz;refine Rat.not_lt.1 fun h9=>?_
    have h10:=jb h9 hW0;have h11:=hdn z hz;grind
   have heq:sum (left / W) (dn++k::ks)=x:=by
    rw[sum_append,ki hgd hhigh,rJ hgr hlow,←hW,hev,hl];grind
   refine⟨hev0,heq,fun m hm e=>Rat.not_lt.1 fun hlt=>?_⟩;have h1:given m k<given (left / W) k:=by
    rw[eW hk0 hlk,eW hk0 (Rat.le_of_lt (Std.lt_of_lt_of_le hlt hlk))];exact jb hlt hk0
   have h2:=eh (Rat.le_of_lt hlt) dn;have h3:=eh (Rat.le_of_lt hlt) ks;rw[sum_append,sum] at heq e;grind
theorem jt {E:Nat} {l:Rat} (h:bX E l) (k:Kid):bX E (given l k):=by
 unfold given;split
 ·exact dD E k.2
 ·exact gD k.1 h
theorem eT {E:Nat} {l:Rat} (h:bX E l): ∀ks:List Kid,bX E (sum l ks)
 | []=>dD E 0
 | k::ks=>iL (jt h k) (eT h ks)
theorem jk (l:Rat): ∀ks:List Kid,sum l ks≤((bT ks:Nat):Rat)
 | []=>Rat.le_refl
 | k::ks=>by
  have h1:=jk l ks;have h2:=pd l k;unfold sum bT;rw[Rat.natCast_add];grind
theorem o9 (x:Rat) (all:List Kid): ∀(ks:List Kid) (low:Rat),bI x all ks low=low∨∃k∈ks,bI x all ks low=top k
 | [],_=>.inl rfl
 | k::ks,low=>by
  unfold bI;rcases o9 x all ks (if sum (top k) all<x∧low<top k then top k else low) with h | ⟨j,hj,h⟩
  ·rw[h];split
   ·exact .inr ⟨k,List.mem_cons_self,rfl⟩
   ·exact .inl rfl
  ·exact .inr ⟨j,List.mem_cons_of_mem _ hj,h⟩
theorem oL (l:Rat): ∀ks:List Kid,bi l ks≤aI ks
 | []=>Nat.le_refl _
 | k::ks=>by
  have:=oL l ks;unfold bi aI;split<;>omega
theorem uC {k:Kid} (h:k.1≠0):top k≤(k.2:Rat):=by
 have h1:=gx h;have h2:(1:Rat)≤(k.1:Rat):=by
  have:((1:Nat):Rat)≤((k.1:Nat):Rat):=Rat.natCast_le_natCast.2 (Nat.pos_of_ne_zero h);grind
 have h3:0≤top k:=fw _ _;have h4:top k*1≤top k*k.1:=Rat.mul_le_mul_of_nonneg_left h2 h3;grind
theorem tF {x:Rat} {ks:List Kid} (hg:Good ks) (hw: ∀k∈ks,k.1≤10000) (hc: ∀k∈ks,k.2≤64): ∃E:Nat,E≠0∧E≤10000∧bX E (bI x ks ks 0)∧0≤bI x ks ks 0∧bI x ks ks 0≤((64:Nat):Rat):=by
 rcases o9 x ks ks 0 with h | ⟨k,hk,h⟩
 ·rw[h];exact⟨1,A3,A3,dD 1 0,Rat.le_refl,Rat.natCast_nonneg⟩
 ·rw[h];exact⟨k.1,hg k hk,hw k hk,lR (hg k hk),fw _ _,Rat.le_trans (uC (hg k hk)) (Rat.natCast_le_natCast.2 (hc k hk))⟩
theorem ro {x:Rat} {ks:List Kid} (hg:Good ks) (h0:0≤x):sum (bI x ks ks 0) ks≤x:=by
 by_cases e:x=0
 ·subst e;rw[gZ ks hg,dw];exact Rat.le_refl
 ·refine Rat.le_of_lt (jh x ks ks 0 ?_);rw[dw];grind
theorem fQ {D:Nat} {x:Rat} {ks:List Kid} (hD:bX D x) (h0:0≤x) (hg:Good ks) (hw: ∀k∈ks,k.1≤10000) (hc: ∀k∈ks,k.2≤64) (hx:x≤((bT ks:Nat):Rat)):
  ∃E:Nat,E≠0∧E≤10000*(aI ks+1)∧bX (D*E) (aN x ks)∧0≤aN x ks∧aN x ks≤((64:Nat):Rat)+x:=by
 have hd:=jd hg h0 hx;obtain⟨E,hE,hE2,hw1,hl0,hl1⟩:=tF (x:=x) hg hw hc;have hop:=oL (bI x ks ks 0) ks;have hls:=ro hg h0;unfold aN at hd ⊢;generalize hlow:bI x ks ks 0=low at hd hw1 hl0 hl1 hop hls ⊢;by_cases hcase:bi low ks=0∨x - sum low ks=0
 ·rw[if_pos hcase] at hd ⊢;exact⟨E,hE,Nat.le_trans hE2 (Nat.le_mul_of_pos_right _ A3),by rw[Nat.mul_comm];exact bP D hw1,hl0,BX⟩
 ·rw[if_neg hcase] at hd ⊢;have hne:bi low ks≠0:=fun h=>hcase (.inl h)
  have hop2:=aR hne;have hr:0≤x - sum low ks:=BX
  have hws:bX (D*E) (x - sum low ks):=gn (bP E hD) (by rw[Nat.mul_comm];exact bP D (eT hw1 ks)) BX;have hs0:0≤sum low ks:=by
   have:=eh hl0 ks;rw[dw] at this;exact this
  have hdv:(x - sum low ks) / (bi low ks:Nat)≤x:=by
   have h1:(1:Rat)≤(bi low ks:Nat):=by
    have:((1:Nat):Rat)≤((bi low ks:Nat):Rat):=Rat.natCast_le_natCast.2 (Nat.pos_of_ne_zero hne);grind
   have h2:0≤(x - sum low ks) / (bi low ks:Nat):=by rw[Rat.div_def];exact Rat.mul_nonneg hr (Rat.le_of_lt (Rat.inv_pos.2 hop2))
   have h3:=Rat.mul_le_mul_of_nonneg_left h1 h2;have h4:(x - sum low ks) / (bi low ks:Nat)*(bi low ks:Nat)=x - sum low ks:=BX
   grind
  refine⟨E*bi low ks,Nat.mul_ne_zero hE hne,Nat.mul_le_mul hE2 A3,?_,hd.nonneg,BX⟩;rw[←Nat.mul_assoc];exact iL (by rw[Nat.mul_assoc,Nat.mul_comm];exact bP D (bP _ hw1)) (gj hne hws)
end Go.Rq
