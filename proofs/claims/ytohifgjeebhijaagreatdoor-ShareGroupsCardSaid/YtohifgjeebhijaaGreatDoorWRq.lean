/-
  What this claim needs; no condition of its own. Told short by a script from longer texts.
-/
namespace Go.Rq
def rat (a b:Nat):Rat:=mkRat a b
theorem rat_num (a:Nat) {b:Nat} (h:b≠0):(rat a b).num=((a / Nat.gcd a b:Nat):Int):=by
 unfold rat
 rw[Rat.num_mkRat,if_neg h,Int.natAbs_natCast,Nat.gcd_comm]
 simp
theorem rat_den (a:Nat) {b:Nat} (h:b≠0):(rat a b).den=b / Nat.gcd a b:=by
 unfold rat
 rw[Rat.den_mkRat,if_neg h,Int.natAbs_natCast,Nat.gcd_comm]
theorem rat_eq (a b:Nat):rat a b=(a:Rat) / (b:Rat):=by
 unfold rat
 rw[Rat.mkRat_eq_div]
 rfl
def N (r:Rat):Nat:=r.num.toNat
theorem rat_back {r:Rat} (h:0≤r):rat (N r) r.den=r:=by
 unfold rat N
 rw[Int.toNat_of_nonneg (Rat.num_nonneg.2 h),Rat.mkRat_self]
theorem rat_N (a:Nat) {b:Nat} (h:b≠0):N (rat a b)=a / Nat.gcd a b:=by
 unfold N
 rw[rat_num a h]
 exact Int.toNat_natCast _
theorem rat_nonneg (a b:Nat):0≤rat a b:=by
 by_cases h:b=0
 ·unfold rat;subst h;simp
 ·rw[←Rat.num_nonneg,rat_num a h]
  exact Int.natCast_nonneg _
theorem N_gcd {r:Rat} (h:0≤r):Nat.gcd (N r) r.den=1:=by
 have h1:=r.reduced
 unfold N
 have e:r.num.natAbs=r.num.toNat:=by have:=Rat.num_nonneg.2 h;omega
 rw[←e]
 exact h1
theorem pos_cast {b:Nat} (h:b≠0):(0:Rat)<(b:Rat):=Rat.natCast_pos.2 (Nat.pos_of_ne_zero h)
theorem rat_add (a c:Nat) {b d:Nat} (hb:b≠0) (hd:d≠0):rat a b+rat c d=rat (a*d+c*b) (b*d):=by
 rw[rat_eq,rat_eq,rat_eq,Rat.natCast_add,Rat.natCast_mul,Rat.natCast_mul,Rat.natCast_mul]
 have h1:=pos_cast hb
 have h2:=pos_cast hd
 have h3:(b:Rat)*d≠0:=by intro e;rcases Rat.mul_eq_zero.1 e with e | e<;>grind
 grind
theorem rat_mul (a c:Nat) {b d:Nat} (hb:b≠0) (hd:d≠0):rat a b*rat c d=rat (a*c) (b*d):=by
 rw[rat_eq,rat_eq,rat_eq,Rat.natCast_mul,Rat.natCast_mul]
 have h1:=pos_cast hb
 have h2:=pos_cast hd
 have h3:(b:Rat)*d≠0:=by intro e;rcases Rat.mul_eq_zero.1 e with e | e<;>grind
 grind
theorem rat_sub (a c:Nat) {b d:Nat} (hb:b≠0) (hd:d≠0) (h:c*b≤a*d):rat a b - rat c d=rat (a*d - c*b) (b*d):=by
 have e:rat (a*d - c*b) (b*d)+rat c d=rat a b:=by
  rw[rat_eq,rat_eq,rat_eq,Rat.natCast_mul]
  have h4:((a*d - c*b:Nat):Rat)=(a:Rat)*d - (c:Rat)*b:=by
   have h5:((a*d - c*b:Nat):Rat)+((c*b:Nat):Rat)=((a*d:Nat):Rat):=by rw[←Rat.natCast_add,Nat.sub_add_cancel h]
   rw[Rat.natCast_mul,Rat.natCast_mul] at h5
   grind
  rw[h4]
  have h1:=pos_cast hb
  have h2:=pos_cast hd
  have h3:(b:Rat)*d≠0:=by intro e;rcases Rat.mul_eq_zero.1 e with e | e<;>grind
  grind
 grind
theorem rat_div (a:Nat) {b c d:Nat} (hb:b≠0) (hd:d≠0) (hc:c≠0):rat a b / rat c d=rat (a*d) (c*b):=by
 rw[rat_eq,rat_eq,rat_eq,Rat.natCast_mul,Rat.natCast_mul]
 have h1:=pos_cast hb
 have h2:=pos_cast hd
 have h4:=pos_cast hc
 have h3:(c:Rat)*b≠0:=by intro e;rcases Rat.mul_eq_zero.1 e with e | e<;>grind
 grind
theorem rat_lt (a c:Nat) {b d:Nat} (hb:b≠0) (hd:d≠0):rat a b<rat c d↔a*d<c*b:=by
 have h1:=pos_cast hb
 have h2:=pos_cast hd
 have e1:rat a b*(b*d)=((a*d:Nat):Rat):=by rw[rat_eq,Rat.natCast_mul];grind
 have e2:rat c d*(b*d)=((c*b:Nat):Rat):=by rw[rat_eq,Rat.natCast_mul];grind
 have h3:(0:Rat)<(b:Rat)*d:=Rat.mul_pos h1 h2
 rw[←Rat.natCast_lt_natCast,←e1,←e2]
 exact⟨fun h=>Rat.mul_lt_mul_of_pos_right h h3,fun h=>by
  rcases Rat.not_le.1 (fun h4=>absurd (Rat.mul_le_mul_of_nonneg_right h4 (Rat.le_of_lt h3)) (Rat.not_le.2 h)) with h5
  exact h5⟩
theorem rat_int (n:Nat):rat n 1=(n:Rat):=by rw[rat_eq];grind
abbrev Kid:=Nat×Nat
def given (l:Rat) (k:Kid):Rat:=if (k.2:Rat)<l*k.1 then (k.2:Rat) else l*k.1
def sum (l:Rat):List Kid→Rat
 | []=>0
 | k::ks=>given l k+sum l ks
def caps:List Kid→Nat
 | []=>0
 | k::ks=>k.2+caps ks
def top (k:Kid):Rat:=rat k.2 k.1
def Good (ks:List Kid):Prop:=∀k∈ks,k.1≠0
theorem Good.tail {k:Kid} {ks:List Kid} (h:Good (k::ks)):Good ks:=fun x hx=>h x (List.mem_cons_of_mem _ hx)
theorem Good.head {k:Kid} {ks:List Kid} (h:Good (k::ks)):k.1≠0:=h k List.mem_cons_self
theorem top_mul {k:Kid} (h:k.1≠0):top k*k.1=k.2:=by
 unfold top
 rw[rat_eq]
 have:=pos_cast h
 grind
theorem le_mul {a b:Rat} {n:Nat} (h:a≤b):a*n≤b*n:=Rat.mul_le_mul_of_nonneg_right h Rat.natCast_nonneg
theorem lt_mul {a b:Rat} {n:Nat} (h:a<b) (hn:n≠0):a*n<b*n:=Rat.mul_lt_mul_of_pos_right h (pos_cast hn)
theorem given_low {l:Rat} {k:Kid} (h0:k.1≠0) (h:l≤top k):given l k=l*k.1:=by
 have h1:=le_mul (n:=k.1) h
 rw[top_mul h0] at h1
 unfold given
 rw[if_neg (by grind)]
theorem given_high {l:Rat} {k:Kid} (h0:k.1≠0) (h:top k≤l):given l k=k.2:=by
 have h1:=le_mul (n:=k.1) h
 rw[top_mul h0] at h1
 unfold given
 split
 ·rfl
 ·grind
theorem given_mono {l m:Rat} (h:l≤m) (k:Kid):given l k≤given m k:=by
 have h1:=le_mul (n:=k.1) h
 unfold given
 split<;>split<;>grind
theorem given_le (l:Rat) (k:Kid):given l k≤k.2:=by
 unfold given
 split<;>grind
theorem given_nonneg {l:Rat} (h:0≤l) (k:Kid):0≤given l k:=by
 have h1:=le_mul (n:=k.1) h
 have h2:(0:Rat)≤(k.2:Rat):=Rat.natCast_nonneg
 unfold given
 split<;>grind
theorem given_zero (k:Kid):given 0 k=0:=by
 have h2:(0:Rat)≤(k.2:Rat):=Rat.natCast_nonneg
 unfold given
 split<;>grind
theorem sum_zero: ∀ks:List Kid,sum 0 ks=0
 | []=>rfl
 | k::ks=>by rw[sum,given_zero,sum_zero ks];grind
theorem sum_mono {l m:Rat} (h:l≤m): ∀ks:List Kid,sum l ks≤sum m ks
 | []=>by unfold sum;grind
 | k::ks=>by
  have h1:=given_mono h k
  have h2:=sum_mono h ks
  unfold sum
  grind
theorem sum_caps {l:Rat}: ∀ {ks:List Kid},Good ks→(∀k∈ks,top k≤l)→sum l ks=(caps ks:Nat)
 | [],_,_=>rfl
 | k::ks,hg,h=>by
  rw[sum,caps,given_high hg.head (h k List.mem_cons_self),sum_caps hg.tail (fun x hx=>h x (List.mem_cons_of_mem _ hx)),Rat.natCast_add]
def openW (l:Rat):List Kid→Nat
 | []=>0
 | k::ks=>(if l<top k then k.1 else 0)+openW l ks
theorem sum_slope {l m:Rat} (hlm:l≤m): ∀ {ks:List Kid},Good ks→(∀k∈ks,l<top k→m≤top k)→sum m ks=sum l ks+(m - l)*(openW l ks:Nat)
 | [],_,_=>by unfold sum openW;grind
 | k::ks,hg,h=>by
  have ih:=sum_slope hlm hg.tail (fun x hx=>h x (List.mem_cons_of_mem _ hx))
  unfold sum openW
  rw[ih,Rat.natCast_add]
  by_cases h1:l<top k
  ·rw[if_pos h1,given_low hg.head (h k List.mem_cons_self h1),given_low hg.head (Rat.le_of_lt h1)]
   grind
  ·rw[if_neg h1,given_high hg.head (Rat.not_lt.1 h1),given_high hg.head (Rat.le_trans (Rat.not_lt.1 h1) hlm)]
   grind
theorem open_pos {l:Rat}: ∀ {ks:List Kid},Good ks→(∃k∈ks,l<top k)→openW l ks≠0
 | [],_,⟨k,hk,_⟩=>by simp at hk
 | k::ks,hg,⟨x,hx,h⟩=>by
  unfold openW
  rcases List.mem_cons.1 hx with rfl | hx
  ·rw[if_pos h]
   have:=hg.head
   omega
  ·have:=open_pos hg.tail ⟨x,hx,h⟩
   omega
structure IsLevel (x l:Rat) (ks:List Kid):Prop where
 nonneg:0≤l
 eq:sum l ks=x
 least: ∀m,0≤m→sum m ks=x→l≤m
theorem IsLevel.one {x l m:Rat} {ks:List Kid} (h:IsLevel x l ks) (g:IsLevel x m ks):l=m:=
 Rat.le_antisymm (h.least m g.nonneg g.eq) (g.least l h.nonneg h.eq)
theorem level_of {x l:Rat} {ks:List Kid} (hg:Good ks) (h0:0≤l) (hl:sum l ks<x) (hu: ∀k∈ks,l<top k→x≤sum (top k) ks) (hx:x≤(caps ks:Nat)):
  openW l ks≠0∧IsLevel x (l+(x - sum l ks) / (openW l ks:Nat)) ks:=by
 have hop:openW l ks≠0:=by
  refine open_pos hg ?_
  refine Classical.byContradiction fun h=>?_
  have h1: ∀k∈ks,top k≤l:=fun k hk=>Rat.not_lt.1 fun h2=>h ⟨k,hk,h2⟩
  rw[sum_caps hg h1] at hl
  grind
 have hW:=pos_cast hop
 have hr:0<x - sum l ks:=by grind
 have hd:0<(x - sum l ks) / (openW l ks:Nat):=by
  rw[Rat.div_def]
  exact Rat.mul_pos hr (Rat.inv_pos.2 hW)
 have hm:(x - sum l ks) / (openW l ks:Nat)*(openW l ks:Nat)=x - sum l ks:=by grind
 generalize (x - sum l ks) / (openW l ks:Nat)=d at hd hm
 have htop: ∀k∈ks,l<top k→l+d≤top k:=by
  intro k hk hlt
  refine Rat.not_lt.1 fun hlt2=>?_
  have hmin: ∃q∈ks,l<top q∧top q≤top k∧∀z∈ks,l<top z→top q≤top z:=by
   have aux: ∀js:List Kid,(∀z∈js,z∈ks)→∃q∈ks,l<top q∧top q≤top k∧∀z∈js,l<top z→top q≤top z:=by
    intro js
    induction js with
    | nil=>exact fun _=>⟨k,hk,hlt,Rat.le_refl,fun z hz=>by simp at hz⟩
    | cons j js ih=>
     intro hj
     obtain⟨q,hq,h1,h2,h3⟩:=ih (fun z hz=>hj z (List.mem_cons_of_mem _ hz))
     by_cases h4:l<top j∧top j<top q
     ·refine⟨j,hj j List.mem_cons_self,h4.1,by grind,fun z hz hz2=>?_⟩
      rcases List.mem_cons.1 hz with rfl | hz
      ·exact Rat.le_refl
      ·have:=h3 z hz hz2
       grind
     ·refine⟨q,hq,h1,h2,fun z hz hz2=>?_⟩
      rcases List.mem_cons.1 hz with rfl | hz
      ·exact Rat.not_lt.1 fun h5=>h4 ⟨hz2,h5⟩
      ·exact h3 z hz hz2
   exact aux ks (fun z hz=>hz)
  obtain⟨q,hq,h1,h2,h3⟩:=hmin
  have h4:=sum_slope (Rat.le_of_lt h1) hg h3
  have h5:=hu q hq h1
  have h6:top q<l+d:=by grind
  have h7:(top q - l)*(openW l ks:Nat)<d*(openW l ks:Nat):=lt_mul (by grind) hop
  grind
 have heq:sum (l+d) ks=x:=by
  rw[sum_slope (by grind) hg htop]
  grind
 refine⟨hop,by grind,heq,fun m hm0 hmx=>Rat.not_lt.1 fun hlt=>?_⟩
 by_cases hml:m≤l
 ·have:=sum_mono hml ks
  grind
 ·have hlm:l≤m:=Rat.le_of_lt (Rat.not_le.1 hml)
  have h1:=sum_slope hlm hg (fun k hk hk2=>Rat.le_trans (Rat.le_of_lt hlt) (htop k hk hk2))
  have h2:(m - l)*(openW l ks:Nat)<d*(openW l ks:Nat):=lt_mul (by grind) hop
  grind
theorem level_zero (ks:List Kid):IsLevel 0 0 ks:=⟨Rat.le_refl,sum_zero ks,fun _ h _=>h⟩
def lowOf (x:Rat) (all:List Kid):List Kid→Rat→Rat
 | [],low=>low
 | k::ks,low=>lowOf x all ks (if sum (top k) all<x∧low<top k then top k else low)
theorem lowOf_ge (x:Rat) (all:List Kid): ∀(ks:List Kid) (low:Rat),low≤lowOf x all ks low
 | [],low=>Rat.le_refl
 | k::ks,low=>by
  have h:=lowOf_ge x all ks (if sum (top k) all<x∧low<top k then top k else low)
  unfold lowOf
  split at h
  ·rename_i h1
   rw[if_pos h1]
   grind
  ·rename_i h1
   rw[if_neg h1]
   exact h
theorem lowOf_sum (x:Rat) (all:List Kid): ∀(ks:List Kid) (low:Rat),sum low all<x→sum (lowOf x all ks low) all<x
 | [],_,h=>h
 | k::ks,low,h=>by
  unfold lowOf
  refine lowOf_sum x all ks _ ?_
  split
  ·rename_i h1;exact h1.1
  ·exact h
theorem lowOf_top (x:Rat) (all:List Kid): ∀(ks:List Kid) (low:Rat),∀k∈ks,lowOf x all ks low<top k→x≤sum (top k) all
 | [],_,k,hk,_=>by simp at hk
 | j::ks,low,k,hk,h=>by
  unfold lowOf at h
  rcases List.mem_cons.1 hk with rfl | hk
  ·have h1:=lowOf_ge x all ks (if sum (top k) all<x∧low<top k then top k else low)
   refine Rat.not_lt.1 fun h2=>?_
   split at h1
   ·rename_i h3
    rw[if_pos h3] at h
    grind
   ·rename_i h3
    rw[if_neg h3] at h
    exact h3 ⟨h2,by grind⟩
  ·exact lowOf_top x all ks _ k hk h
theorem lowOf_zero (all:List Kid) (h: ∀k∈all,k.1≠0): ∀ks:List Kid,lowOf 0 all ks 0=0
 | []=>rfl
 | k::ks=>by
  unfold lowOf
  have h1: ¬(sum (top k) all<0∧0<top k):=by
   rintro⟨h2,h3⟩
   have h4:=sum_mono (Rat.le_of_lt h3) all
   rw[sum_zero] at h4
   grind
  rw[if_neg h1]
  exact lowOf_zero all h ks
def docLevel (x:Rat) (ks:List Kid):Rat:=
 if openW (lowOf x ks ks 0) ks=0∨x - sum (lowOf x ks ks 0) ks=0 then lowOf x ks ks 0
 else lowOf x ks ks 0+(x - sum (lowOf x ks ks 0) ks) / (openW (lowOf x ks ks 0) ks:Nat)
theorem doc_level {x:Rat} {ks:List Kid} (hg:Good ks) (h0:0≤x) (hx:x≤(caps ks:Nat)):IsLevel x (docLevel x ks) ks:=by
 unfold docLevel
 by_cases hz:x=0
 ·subst hz
  rw[lowOf_zero ks hg ks,if_pos (.inr (by rw[sum_zero];grind))]
  exact level_zero ks
 ·have h1:sum (lowOf x ks ks 0) ks<x:=lowOf_sum x ks ks 0 (by rw[sum_zero];grind)
  have h2:=level_of hg (lowOf_ge x ks ks 0) h1 (lowOf_top x ks ks 0) hx
  rw[if_neg (by
   rintro (h3 | h3)
   ·exact h2.1 h3
   ·grind)]
  exact h2.2
theorem sum_append (l:Rat): ∀(a b:List Kid),sum l (a++b)=sum l a+sum l b
 | [],b=>by rw[List.nil_append];unfold sum;grind
 | k::a,b=>by
  rw[List.cons_append,sum,sum_append l a b,sum]
  grind
end Go.Rq
namespace Go.Rq
def Whole (D:Nat) (r:Rat):Prop:=∃n:Nat,r*D=n
theorem whole_nat (D n:Nat):Whole D n:=⟨n*D,by rw[Rat.natCast_mul]⟩
theorem whole_add {D:Nat} {r s:Rat} (h:Whole D r) (g:Whole D s):Whole D (r+s):=by
 obtain⟨a,ha⟩:=h
 obtain⟨b,hb⟩:=g
 exact⟨a+b,by rw[Rat.natCast_add];grind⟩
theorem whole_sub {D:Nat} {r s:Rat} (h:Whole D r) (g:Whole D s) (hle:s≤r):Whole D (r - s):=by
 obtain⟨a,ha⟩:=h
 obtain⟨b,hb⟩:=g
 have h1:(b:Rat)≤a:=by rw[←ha,←hb];exact le_mul hle
 have h2:b≤a:=Rat.natCast_le_natCast.1 h1
 have h3:((a - b:Nat):Rat)+((b:Nat):Rat)=(a:Nat):=by rw[←Rat.natCast_add,Nat.sub_add_cancel h2]
 exact⟨a - b,by grind⟩
theorem whole_mul {D:Nat} {r:Rat} (n:Nat) (h:Whole D r):Whole D (r*n):=by
 obtain⟨a,ha⟩:=h
 exact⟨a*n,by rw[Rat.natCast_mul];grind⟩
theorem whole_more {D:Nat} {r:Rat} (E:Nat) (h:Whole D r):Whole (D*E) r:=by
 obtain⟨a,ha⟩:=h
 exact⟨a*E,by rw[Rat.natCast_mul,Rat.natCast_mul];grind⟩
theorem whole_div {D:Nat} {r:Rat} {n:Nat} (hn:n≠0) (h:Whole D r):Whole (D*n) (r / n):=by
 obtain⟨a,ha⟩:=h
 have:=pos_cast hn
 exact⟨a,by rw[Rat.natCast_mul];grind⟩
theorem whole_rat {n D:Nat} (h:D≠0):Whole D (rat n D):=by
 have:=pos_cast h
 exact⟨n,by rw[rat_eq];grind⟩
theorem whole_eq {D:Nat} {r:Rat} (hD:D≠0) (h:Whole D r): ∃n:Nat,r=rat n D∧r*D=n:=by
 obtain⟨a,ha⟩:=h
 have:=pos_cast hD
 exact⟨a,by rw[rat_eq];grind,ha⟩
theorem whole_self {r:Rat} (h:0≤r):Whole r.den r:=by
 have e:=rat_back h
 rw[rat_eq] at e
 have:=pos_cast r.den_nz
 exact⟨N r,by grind⟩
def weights:List Kid→Nat
 | []=>0
 | k::ks=>k.1+weights ks
theorem caps_append: ∀a b:List Kid,caps (a++b)=caps a+caps b
 | [],b=>by simp[caps]
 | k::a,b=>by rw[List.cons_append,caps,caps_append a b,caps];omega
theorem sum_perm (l:Rat) {a b:List Kid} (h:a.Perm b):sum l a=sum l b:=by
 induction h with
 | nil=>rfl
 | cons x _ ih=>unfold sum;rw[ih]
 | swap x y t=>unfold sum;unfold sum;grind
 | trans _ _ h1 h2=>exact h1.trans h2
theorem caps_perm {a b:List Kid} (h:a.Perm b):caps a=caps b:=by
 induction h with
 | nil=>rfl
 | cons x _ ih=>unfold caps;rw[ih]
 | swap x y t=>unfold caps;unfold caps;omega
 | trans _ _ h1 h2=>exact h1.trans h2
theorem weights_perm {a b:List Kid} (h:a.Perm b):weights a=weights b:=by
 induction h with
 | nil=>rfl
 | cons x _ ih=>unfold weights;rw[ih]
 | swap x y t=>unfold weights;unfold weights;omega
 | trans _ _ h1 h2=>exact h1.trans h2
theorem IsLevel.perm {x l:Rat} {a b:List Kid} (h:IsLevel x l a) (p:a.Perm b):IsLevel x l b:=
 ⟨h.nonneg,by rw[←sum_perm l p];exact h.eq,fun m hm e=>h.least m hm (by rw[sum_perm m p];exact e)⟩
theorem Good.perm {a b:List Kid} (h:Good a) (p:a.Perm b):Good b:=fun k hk=>h k (p.mem_iff.2 hk)
def Le (a b:Kid):Prop:=a.2*b.1≤b.2*a.1
theorem Le.top {a b:Kid} (h:Le a b) (ha:a.1≠0) (hb:b.1≠0):top a≤top b:=by
 refine Rat.not_lt.1 fun hlt=>?_
 unfold Rq.top at hlt
 have h1:=(rat_lt b.2 a.2 hb ha).1 hlt
 unfold Le at h
 omega
def lev:Rat→Nat→List Kid→Rat
 | _,_,[]=>0
 | left,W,k::ks=>if (k.2:Rat)<(left / W)*k.1 then lev (left - k.2) (W - k.1) ks else left / W
theorem sum_low {l:Rat}: ∀ {ks:List Kid},Good ks→(∀k∈ks,l≤top k)→sum l ks=l*(weights ks:Nat)
 | [],_,_=>by unfold sum weights;grind
 | k::ks,hg,h=>by
  rw[sum,weights,given_low hg.head (h k List.mem_cons_self),sum_low hg.tail (fun x hx=>h x (List.mem_cons_of_mem _ hx)),Rat.natCast_add]
  grind
theorem weights_pos {k:Kid} {ks:List Kid} (h:Good (k::ks)):weights (k::ks)≠0:=by
 have:=h.head
 unfold weights
 omega
theorem lev_is {x:Rat} (h0:0≤x): ∀(rest dn:List Kid) (left:Rat) (W:Nat),rest≠[]→Good (dn++rest)→left=x - (caps dn:Nat)→W=weights rest→(∀a∈dn,∀b∈rest,Le a b)→rest.Pairwise Le→
  (∀a∈dn,top a*(W:Rat)≤left)→0≤left→x≤(caps (dn++rest):Nat)→IsLevel x (lev left W rest) (dn++rest)
 | [],_,_,_,h,_,_,_,_,_,_,_,_=>absurd rfl h
 | k::ks,dn,left,W,_,hg,hl,hW,hdr,hp,hdn,hl0,hx=>by
  have hgr:Good (k::ks):=fun z hz=>hg z (List.mem_append_right _ hz)
  have hgd:Good dn:=fun z hz=>hg z (List.mem_append_left _ hz)
  have hW0:W≠0:=by rw[hW];exact weights_pos hgr
  have hWp:=pos_cast hW0
  have hk0:=hgr.head
  have hkp:=pos_cast hk0
  have hev:left / W*W=left:=by grind
  have hev0:0≤left / (W:Rat):=by
   rw[Rat.div_def]
   exact Rat.mul_nonneg hl0 (Rat.le_of_lt (Rat.inv_pos.2 hWp))
  unfold lev
  by_cases ho:(k.2:Rat)<(left / W)*k.1
  ·rw[if_pos ho]
   have hWk:k.1≤W:=by rw[hW];unfold weights;omega
   have hWs:((W - k.1:Nat):Rat)=(W:Rat) - (k.1:Rat):=by
    have h5:((W - k.1:Nat):Rat)+((k.1:Nat):Rat)=(W:Nat):=by rw[←Rat.natCast_add,Nat.sub_add_cancel hWk]
    grind
   have htk:top k<left / W:=by
    refine Rat.not_le.1 fun h9=>?_
    have:=le_mul (n:=k.1) h9
    rw[top_mul hk0] at this
    grind
   have hkW:(k.1:Rat)≤(W:Rat):=Rat.natCast_le_natCast.2 hWk
   have hle:(k.2:Rat)≤left:=by
    have h6:left / W*k.1≤left / W*W:=Rat.mul_le_mul_of_nonneg_left hkW hev0
    grind
   have htop:top k*((W - k.1:Nat):Rat)≤left - k.2:=by
    have h7:=lt_mul htk hW0
    have h8:=top_mul hk0
    rw[hWs]
    grind
   by_cases hks:ks=[]
   ·exfalso
    subst hks
    have hW1:W=k.1:=by rw[hW];simp[weights]
    rw[caps_append] at hx
    simp only[caps,Nat.add_zero] at hx
    rw[Rat.natCast_add] at hx
    rw[←hW1] at ho
    grind
   ·have e:dn++k::ks=(dn++[k])++ks:=by simp
    rw[e] at hg hx ⊢
    have hp':=List.pairwise_cons.1 hp
    refine lev_is h0 ks (dn++[k]) (left - k.2) (W - k.1) hks hg ?_ ?_ ?_ hp'.2 ?_ (by grind) hx
    ·rw[caps_append]
     simp only[caps,Nat.add_zero]
     rw[Rat.natCast_add,hl]
     grind
    ·rw[hW,show weights (k::ks)=k.1+weights ks from rfl];omega
    ·intro a ha b hb
     rcases List.mem_append.1 ha with ha | ha
     ·exact hdr a ha b (List.mem_cons_of_mem _ hb)
     ·rw[List.mem_singleton] at ha
      subst ha
      exact hp'.1 b hb
    ·intro a ha
     rcases List.mem_append.1 ha with ha | ha
     ·have h9:=(hdr a ha k List.mem_cons_self).top (hgd a ha) hk0
      exact Rat.le_trans (le_mul h9) htop
     ·rw[List.mem_singleton] at ha
      subst ha
      exact htop
  ·rw[if_neg ho]
   have hp':=List.pairwise_cons.1 hp
   have hlk:left / W≤top k:=by
    refine Rat.not_lt.1 fun h9=>?_
    have:=lt_mul h9 hk0
    rw[top_mul hk0] at this
    grind
   have hlow: ∀z∈k::ks,left / W≤top z:=by
    intro z hz
    rcases List.mem_cons.1 hz with rfl | hz
    ·exact hlk
    ·exact Rat.le_trans hlk ((hp'.1 z hz).top hk0 (hgr z (List.mem_cons_of_mem _ hz)))
   have hhigh: ∀z∈dn,top z≤left / W:=by
    intro z hz
    refine Rat.not_lt.1 fun h9=>?_
    have h10:=lt_mul h9 hW0
    have h11:=hdn z hz
    grind
   have heq:sum (left / W) (dn++k::ks)=x:=by
    rw[sum_append,sum_caps hgd hhigh,sum_low hgr hlow,←hW,hev,hl]
    grind
   refine⟨hev0,heq,fun m hm e=>Rat.not_lt.1 fun hlt=>?_⟩
   have h1:given m k<given (left / W) k:=by
    rw[given_low hk0 hlk,given_low hk0 (Rat.le_of_lt (Std.lt_of_lt_of_le hlt hlk))]
    exact lt_mul hlt hk0
   have h2:=sum_mono (Rat.le_of_lt hlt) dn
   have h3:=sum_mono (Rat.le_of_lt hlt) ks
   rw[sum_append,sum] at heq e
   grind
end Go.Rq
namespace Go.Rq
theorem whole_given {E:Nat} {l:Rat} (h:Whole E l) (k:Kid):Whole E (given l k):=by
 unfold given
 split
 ·exact whole_nat E k.2
 ·exact whole_mul k.1 h
theorem whole_sum {E:Nat} {l:Rat} (h:Whole E l): ∀ks:List Kid,Whole E (sum l ks)
 | []=>whole_nat E 0
 | k::ks=>whole_add (whole_given h k) (whole_sum h ks)
theorem lowOf_is (x:Rat) (all:List Kid): ∀(ks:List Kid) (low:Rat),lowOf x all ks low=low∨∃k∈ks,lowOf x all ks low=top k
 | [],_=>.inl rfl
 | k::ks,low=>by
  unfold lowOf
  rcases lowOf_is x all ks (if sum (top k) all<x∧low<top k then top k else low) with h | ⟨j,hj,h⟩
  ·rw[h]
   split
   ·exact .inr ⟨k,List.mem_cons_self,rfl⟩
   ·exact .inl rfl
  ·exact .inr ⟨j,List.mem_cons_of_mem _ hj,h⟩
theorem openW_le (l:Rat): ∀ks:List Kid,openW l ks≤weights ks
 | []=>Nat.le_refl _
 | k::ks=>by
  have:=openW_le l ks
  unfold openW weights
  split<;>omega
theorem top_le {k:Kid} (h:k.1≠0):top k≤(k.2:Rat):=by
 have h1:=top_mul h
 have h2:(1:Rat)≤(k.1:Rat):=by
  have:((1:Nat):Rat)≤((k.1:Nat):Rat):=Rat.natCast_le_natCast.2 (Nat.pos_of_ne_zero h)
  grind
 have h3:0≤top k:=rat_nonneg _ _
 have h4:top k*1≤top k*k.1:=Rat.mul_le_mul_of_nonneg_left h2 h3
 grind
theorem low_whole {x:Rat} {ks:List Kid} (hg:Good ks) (hw: ∀k∈ks,k.1≤10000) (hc: ∀k∈ks,k.2≤64): ∃E:Nat,E≠0∧E≤10000∧Whole E (lowOf x ks ks 0)∧0≤lowOf x ks ks 0∧lowOf x ks ks 0≤((64:Nat):Rat):=by
 rcases lowOf_is x ks ks 0 with h | ⟨k,hk,h⟩
 ·rw[h];exact⟨1,by omega,by omega,whole_nat 1 0,Rat.le_refl,Rat.natCast_nonneg⟩
 ·rw[h];exact⟨k.1,hg k hk,hw k hk,whole_rat (hg k hk),rat_nonneg _ _,Rat.le_trans (top_le (hg k hk)) (Rat.natCast_le_natCast.2 (hc k hk))⟩
theorem low_sum {x:Rat} {ks:List Kid} (hg:Good ks) (h0:0≤x):sum (lowOf x ks ks 0) ks≤x:=by
 by_cases e:x=0
 ·subst e
  rw[lowOf_zero ks hg,sum_zero]
  exact Rat.le_refl
 ·refine Rat.le_of_lt (lowOf_sum x ks ks 0 ?_)
  rw[sum_zero]
  grind
theorem docLevel_whole {D:Nat} {x:Rat} {ks:List Kid} (hD:Whole D x) (h0:0≤x) (hg:Good ks) (hw: ∀k∈ks,k.1≤10000) (hc: ∀k∈ks,k.2≤64) (hx:x≤((caps ks:Nat):Rat)):
  ∃E:Nat,E≠0∧E≤10000*(weights ks+1)∧Whole (D*E) (docLevel x ks)∧0≤docLevel x ks∧docLevel x ks≤((64:Nat):Rat)+x:=by
 have hd:=doc_level hg h0 hx
 obtain⟨E,hE,hE2,hw1,hl0,hl1⟩:=low_whole (x:=x) hg hw hc
 have hop:=openW_le (lowOf x ks ks 0) ks
 have hls:=low_sum hg h0
 unfold docLevel at hd ⊢
 generalize hlow:lowOf x ks ks 0=low at hd hw1 hl0 hl1 hop hls ⊢
 by_cases hcase:openW low ks=0∨x - sum low ks=0
 ·rw[if_pos hcase] at hd ⊢
  exact⟨E,hE,Nat.le_trans hE2 (Nat.le_mul_of_pos_right _ (by omega)),by rw[Nat.mul_comm];exact whole_more D hw1,hl0,by grind⟩
 ·rw[if_neg hcase] at hd ⊢
  have hne:openW low ks≠0:=fun h=>hcase (.inl h)
  have hop2:=pos_cast hne
  have hr:0≤x - sum low ks:=by grind
  have hws:Whole (D*E) (x - sum low ks):=whole_sub (whole_more E hD) (by rw[Nat.mul_comm];exact whole_more D (whole_sum hw1 ks)) (by grind)
  have hs0:0≤sum low ks:=by
   have:=sum_mono hl0 ks
   rw[sum_zero] at this
   exact this
  have hdv:(x - sum low ks) / (openW low ks:Nat)≤x:=by
   have h1:(1:Rat)≤(openW low ks:Nat):=by
    have:((1:Nat):Rat)≤((openW low ks:Nat):Rat):=Rat.natCast_le_natCast.2 (Nat.pos_of_ne_zero hne)
    grind
   have h2:0≤(x - sum low ks) / (openW low ks:Nat):=by rw[Rat.div_def];exact Rat.mul_nonneg hr (Rat.le_of_lt (Rat.inv_pos.2 hop2))
   have h3:=Rat.mul_le_mul_of_nonneg_left h1 h2
   have h4:(x - sum low ks) / (openW low ks:Nat)*(openW low ks:Nat)=x - sum low ks:=by grind
   grind
  refine⟨E*openW low ks,Nat.mul_ne_zero hE hne,Nat.mul_le_mul hE2 (by omega),?_,hd.nonneg,by grind⟩
  rw[←Nat.mul_assoc]
  exact whole_add (by rw[Nat.mul_assoc,Nat.mul_comm];exact whole_more D (whole_more _ hw1)) (whole_div hne hws)
end Go.Rq
