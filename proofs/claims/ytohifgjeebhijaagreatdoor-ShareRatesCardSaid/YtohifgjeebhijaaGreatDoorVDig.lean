import Derived.Lib.IndexMore
import Derived.Lib.BitFns
import Derived.Test.YtohifgjeebhijaaGreatDoorVAl
import Derived.Test.YtohifgjeebhijaaGreatDoorVAm
namespace Go.Dig
def val (B:Nat):List Nat→Nat
 | []=>0
 | d::l=>d+B*val B l
def dg (B:Nat):Nat→Nat→List Nat
 | 0,_=>[]
 | f+1,n=>if n=0 then [] else n % B::dg B f (n / B)
def dig (B n:Nat):List Nat:=dg B n n
def Small (B:Nat) (l:List Nat):Prop:=∀d∈l,d<B
variable {B:Nat}
theorem Small.nil:Small B []:=fun _ h=>by cases h
theorem Small.cons {d:Nat} {l:List Nat} (h:d<B) (hl:Small B l):Small B (d::l):=fun x hx=>by
 rcases List.mem_cons.1 hx with rfl | hx
 ·exact h
 ·exact hl x hx
theorem Small.head {d:Nat} {l:List Nat} (h:Small B (d::l)):d<B:=h d B4
theorem Small.tail {d:Nat} {l:List Nat} (h:Small B (d::l)):Small B l:=fun x hx=>h x (by simp[hx])
theorem Small.snoc {d:Nat} {l:List Nat} (hl:Small B l) (h:d<B):Small B (l++[d]):=fun x hx=>by
 rcases List.mem_append.1 hx with hx | hx
 ·exact hl x hx
 ·simp at hx;omega
theorem Small.take {l:List Nat} (h:Small B l) (i:Nat):Small B (l.take i):=fun x hx=>h x (List.mem_of_mem_take hx)
theorem Small.drop {l:List Nat} (h:Small B l) (i:Nat):Small B (l.drop i):=fun x hx=>h x (List.mem_of_mem_drop hx)
theorem Small.getD {l:List Nat} (h:Small B l) (hB:0<B) (i:Nat):l.getD i 0<B:=by
 rcases Nat.lt_or_ge i l.length with hi | hi
 ·have:l.getD i 0=l[i]:=by simp[List.getD,hi]
  rw[this];exact h _ (List.getElem_mem hi)
 ·have:l.getD i 0=0:=by simp[List.getD,hi]
  omega
theorem Small.set {l:List Nat} (h:Small B l) (i:Nat) {d:Nat} (hd:d<B):Small B (l.set i d):=fun x hx=>by
 rcases List.mem_or_eq_of_mem_set hx with hx | rfl
 ·exact h x hx
 ·exact hd
theorem Small.zeros (hB:0<B) (n:Nat):Small B (List.replicate n 0):=fun x hx=>by
 rw[List.eq_of_mem_replicate hx];exact hB
theorem dF (a b:List Nat):val B (a++b)=val B a+B ^ a.length*val B b:=by
 induction a with
 | nil=>simp[val]
 | cons d a ih=>
  rw[List.cons_append,val,ih,val,List.length_cons,Nat.pow_succ,Nat.mul_add,Nat.mul_comm (B ^ a.length) B,Nat.mul_assoc,Nat.add_assoc]
theorem fK (a:List Nat) (d:Nat):val B (a++[d])=val B a+B ^ a.length*d:=by rw[dF];simp[val]
theorem iS (n:Nat):val B (List.replicate n 0)=0:=by
 induction n with
 | zero=>rfl
 | succ n ih=>rw[List.replicate_succ,val,ih];simp
theorem d9 (hB:0<B): ∀(l:List Nat),Small B l→val B l<B ^ l.length
 | [],_=>by simp[val]
 | d::l,h=>by
  have ih:=d9 hB l h.tail;have hd:=h.head;rw[val,List.length_cons,Nat.pow_succ,Nat.mul_comm (B ^ l.length) B];have:B*(val B l+1)≤B*B ^ l.length:=Nat.mul_le_mul_left B ih;rw[Nat.mul_add] at this;omega
theorem br (l:List Nat) (i:Nat) (h:i≤l.length):val B l=val B (l.take i)+B ^ i*val B (l.drop i):=by
 have e:=dF (B:=B) (l.take i) (l.drop i);rw[List.take_append_drop,List.length_take,Nat.min_eq_left h] at e;exact e
theorem bS (l:List Nat) (i:Nat):val B (l.take (i+1))=val B (l.take i)+B ^ i*l.getD i 0:=by
 rcases Nat.lt_or_ge i l.length with hi | hi
 ·have e:l.take (i+1)=l.take i++[l.getD i 0]:=by
   rw[List.take_add_one];simp[List.getD,hi]
  rw[e,fK,List.length_take,Nat.min_eq_left (Nat.le_of_lt hi)]
 ·have e1:l.take (i+1)=l:=List.take_of_length_le A3;have e2:l.take i=l:=List.take_of_length_le hi;have e3:l.getD i 0=0:=by simp[List.getD,hi]
  rw[e1,e2,e3];simp
theorem a8 (l:List Nat) {i:Nat} (h:l.length≤i):val B (l.take i)=val B l:=by rw[List.take_of_length_le h]
theorem bY (l:List Nat) (i:Nat) (h:i<l.length):val B (l.drop i)=l.getD i 0+B*val B (l.drop (i+1)):=by
 have e:l.drop i=l.getD i 0::l.drop (i+1):=by
  rw[List.drop_eq_getElem_cons h];simp[List.getD,h]
 rw[e,val]
theorem mA: ∀(l:List Nat) (i d:Nat),i<l.length→val B (l.set i d)+B ^ i*l.getD i 0=val B l+B ^ i*d
 | [],_,_,h=>by simp at h
 | x::l,0,d,_=>by simp[val];omega
 | x::l,i+1,d,h=>by
  have ih:=mA l i d (by simpa using h);have e1:(x::l).getD (i+1) 0=l.getD i 0:=by simp[List.getD]
  have e2:=congrArg (B* ·) ih;simp only[Nat.mul_add] at e2;rw[sB,val,val,e1,Nat.pow_succ,Nat.mul_comm (B ^ i) B,Nat.mul_assoc,Nat.mul_assoc];omega
theorem jD (f:Nat):dg B f 0=[]:=by cases f<;>simp[dg]
theorem eU:dig B 0=[]:=rfl
theorem wY (hB:2≤B): ∀(f n:Nat),n≤f→val B (dg B f n)=n
 | 0,n,h=>by
  have:n=0:=A3
  subst this;rfl
 | f+1,n,h=>by
  unfold dg;by_cases h0:n=0
  ·subst h0;rfl
  ·rw[if_neg h0,val,wY hB f (n / B) (by have:=Nat.div_lt_self (Nat.pos_of_ne_zero h0) hB;omega)];exact Nat.mod_add_div n B
theorem bU (hB:2≤B) (n:Nat):val B (dig B n)=n:=wY hB n n (Nat.le_refl n)
theorem pf (hB:0<B): ∀(f n:Nat),Small B (dg B f n)
 | 0,_=>Small.nil
 | f+1,n=>by
  unfold dg;split
  ·exact Small.nil
  ·exact Small.cons (Nat.mod_lt n hB) (pf hB f _)
theorem b8 (hB:0<B) (n:Nat):Small B (dig B n):=pf hB n n
theorem rA (hB:2≤B): ∀(f g n:Nat),n≤f→n≤g→dg B f n=dg B g n
 | 0,g,n,h,_=>by
  have:n=0:=A3
  subst this;rw[jD,jD]
 | f+1,0,n,_,h=>by
  have:n=0:=A3
  subst this;rw[jD,jD]
 | f+1,g+1,n,hf,hg=>by
  unfold dg;by_cases h0:n=0
  ·simp[h0]
  ·have:=Nat.div_lt_self (Nat.pos_of_ne_zero h0) hB;rw[if_neg h0,if_neg h0,rA hB f g (n / B) A3 A3]
theorem fa (hB:2≤B) {n:Nat} (h:n≠0):dig B n=n % B::dig B (n / B):=by
 have hd:=Nat.div_lt_self (Nat.pos_of_ne_zero h) hB;unfold dig;cases n with
 | zero=>exact absurd rfl h
 | succ n=>rw[dg,if_neg h,rA hB n ((n+1) / B) ((n+1) / B) A3 lr]
theorem pI (hB:2≤B) {d n:Nat} (hd:d<B) (h:d+B*n≠0):dig B (d+B*n)=d::dig B n:=by
 rw[fa hB h];have e1:(d+B*n) % B=d:=by rw[Nat.add_mul_mod_self_left,Nat.mod_eq_of_lt hd]
 have e2:(d+B*n) / B=n:=by rw[Nat.add_mul_div_left _ _ A3,Nat.div_eq_of_lt hd,Nat.zero_add]
 rw[e1,e2]
theorem kY (hB:2≤B): ∀(l:List Nat),Small B l→(l=[]∨B ^ (l.length - 1)≤val B l)→l=dig B (val B l)
 | [],_,_=>rfl
 | d::l,hs,h=>by
  have h1:B ^ l.length≤d+B*val B l:=by
   rcases h with h | h
   ·cases h
   ·simpa[val] using h
  have hpos:0<B ^ l.length:=Nat.pow_pos A3;rw[val,pI hB hs.head A3];congr 1;apply kY hB l hs.tail;by_cases hl:l=[]
  ·exact .inl hl
  ·right;have hlen:=List.length_pos_iff.2 hl;apply Nat.le_of_not_lt;intro hlt;have e:B ^ l.length=B ^ (l.length - 1)*B:=by rw[←Nat.pow_succ];congr 1;omega
   have h2:B*(val B l+1)≤B*B ^ (l.length - 1):=Nat.mul_le_mul_left B hlt;rw[Nat.mul_add,Nat.mul_comm B (B ^ (l.length - 1)),←e] at h2;have:=hs.head;omega
theorem gh (hB:2≤B) {n:Nat} (h:n≠0):B ^ ((dig B n).length - 1)≤n:=by
 have key: ∀f n,n≤f→n≠0→B ^ ((dig B n).length - 1)≤n:=by
  intro f
  induction f with
  | zero=>intro n h1 h2;omega
  | succ f ih=>
   intro n h1 h2;have hd:=Nat.div_lt_self (Nat.pos_of_ne_zero h2) hB;rw[fa hB h2,List.length_cons,Nat.add_sub_cancel];by_cases h0:n / B=0
   ·rw[h0,eU];simp;omega
   ·have h3:=ih (n / B) A3 h0;have hlen:1≤(dig B (n / B)).length:=by rw[fa hB h0];simp
    have e:B ^ (dig B (n / B)).length=B*B ^ ((dig B (n / B)).length - 1):=by
     rw[Nat.mul_comm,←Nat.pow_succ];congr 1;omega
    rw[e];exact Nat.le_trans (Nat.mul_le_mul_left B h3) (Nat.mul_div_le n B)
 exact key n n (Nat.le_refl n) h
theorem eM (hB:2≤B) (n:Nat):n<B ^ (dig B n).length:=by
 have h:=d9 A3 (dig B n) (b8 A3 n)
 rwa [bU hB] at h
theorem cC (hB:2≤B) (n k:Nat):(dig B n).length≤k↔n<B ^ k:=by
 constructor
 ·intro h;exact Nat.lt_of_lt_of_le (eM hB n) (Nat.pow_le_pow_right A3 h)
 ·intro h;by_cases h0:n=0
  ·subst h0;rw[eU];exact Nat.zero_le _
  ·apply Nat.le_of_not_lt;intro hlt;have h1:=gh hB h0;have h2:B ^ k≤B ^ ((dig B n).length - 1):=Nat.pow_le_pow_right A3 A3;omega
theorem dW (hB:2≤B) (n:Nat):dig B n=[]↔n=0:=by
 constructor
 ·intro h;have:=bU hB n;rw[h] at this;exact this.symm
 ·rintro rfl;rfl
theorem dN (hB:2≤B) {m n:Nat} (h:m≤n):(dig B m).length≤(dig B n).length:=by
 rw[cC hB];exact Nat.lt_of_le_of_lt h (eM hB n)
def bq:List Nat→List Nat
 | []=>[]
 | d::l=>if bq l=[]∧d=0 then [] else d::bq l
theorem dJ (hB:2≤B): ∀(l:List Nat),Small B l→bq l=dig B (val B l)
 | [],_=>rfl
 | d::l,h=>by
  have ih:=dJ hB l h.tail;unfold bq;rw[val];by_cases hz:d+B*val B l=0
  ·have hd:d=0:=A3
   have hv:val B l=0:=by
    apply Nat.eq_zero_of_not_pos;intro hp;have:0<B*val B l:=Nat.mul_pos A3 hp;omega
   rw[ih,hv,eU,if_pos ⟨rfl,hd⟩,hd];rfl
  ·rw[pI hB h.head hz,ih];rw[if_neg];rintro⟨h1,h2⟩;rw[dW hB] at h1;rw[h1,h2] at hz;exact hz rfl
theorem dv (l:List Nat):bq (l++[0])=bq l:=by
 induction l with
 | nil=>rfl
 | cons d l ih=>rw[List.cons_append,bq,bq,ih]
theorem gg (l:List Nat) {d:Nat} (h:d≠0):bq (l++[d])=l++[d]:=by
 induction l with
 | nil=>simp[bq,h]
 | cons x l ih=>rw[List.cons_append,bq,ih,if_neg B4]
variable {B:Nat}
theorem gu (hB:2≤B) {m n:Nat} (h:(dig B m).length<(dig B n).length):m<n:=by
 have h1:=eM hB m;have hn:n≠0:=by rintro rfl;rw[eU] at h;simp at h
 have h2:=gh hB hn;have h3:B ^ (dig B m).length≤B ^ ((dig B n).length - 1):=Nat.pow_le_pow_right A3 A3;omega
theorem eA (hB:0<B) {a b:List Nat} (ha:Small B a) {i:Nat} (hia:i<a.length) (hib:i<b.length)
  (htop:val B (a.drop (i+1))=val B (b.drop (i+1))) (h:a.getD i 0<b.getD i 0):val B a<val B b:=by
 rw[br a i A3,br b i A3,bY a i hia,bY b i hib,htop];have h1:=d9 hB (a.take i) (ha.take i);rw[List.length_take,Nat.min_eq_left A3] at h1;have h2:B ^ i*(a.getD i 0+B*val B (b.drop (i+1))+1)≤B ^ i*(b.getD i 0+B*val B (b.drop (i+1))):=Nat.mul_le_mul_left _ A3;rw[Nat.mul_add] at h2;omega
structure ii (B:Nat) (a b out:List Nat) (carry i:Nat):Prop where
 small:Small B out
 len:out.length=i
 low:carry≤1
 eq:val B out+B ^ i*carry=val B (a.take i)+val B (b.take i)
theorem ii.zero (a b:List Nat):ii B a b [] 0 0:=⟨Small.nil,rfl,Nat.zero_le _,by simp[val]⟩
theorem ii.step (hB:2≤B) {a b out:List Nat} {carry i:Nat} (ha:Small B a) (hb:Small B b) (h:ii B a b out carry i):
  ii B a b (out++[(a.getD i 0+b.getD i 0+carry) % B]) ((a.getD i 0+b.getD i 0+carry) / B) (i+1):=by
 have h1:=ha.getD A3 i;have h2:=hb.getD A3 i;have h3:=h.low;refine⟨h.small.snoc (Nat.mod_lt _ A3),by rw[List.length_append,h.len];rfl,?_,?_⟩
 ·have:(a.getD i 0+b.getD i 0+carry) / B<2:=by rw[Nat.div_lt_iff_lt_mul A3];omega
  omega
 ·rw[fK,h.len,bS,bS,Nat.pow_succ,Nat.mul_assoc,Nat.add_assoc,←Nat.mul_add,Nat.mod_add_div];have:=h.eq;rw[Nat.mul_add,Nat.mul_add];omega
theorem ii.done (hB:2≤B) {m n:Nat} {out:List Nat} {i:Nat} (h:ii B (dig B m) (dig B n) out 0 i)
  (hm:(dig B m).length≤i) (hn:(dig B n).length≤i) (hend:i=0∨(dig B m).length=i∨(dig B n).length=i∨B ^ (i - 1)≤m+n):out=dig B (m+n):=by
 have e:=h.eq;rw[a8 _ hm,a8 _ hn,bU hB,bU hB,Nat.mul_zero,Nat.add_zero] at e;rw[←e];apply kY hB out h.small;rw[h.len,e];by_cases h0:i=0
 ·left;have:=h.len;exact List.eq_nil_of_length_eq_zero A3
 ·right;rcases hend with h1 | h1 | h1 | h1
  ·exact absurd h1 h0
  ·have hmz:m≠0:=by rintro rfl;rw[eU] at h1;simp at h1;omega
   have:=gh hB hmz;rw[h1] at this;omega
  ·have hnz:n≠0:=by rintro rfl;rw[eU] at h1;simp at h1;omega
   have:=gh hB hnz;rw[h1] at this;omega
  ·exact h1
theorem ii.carried {a b out:List Nat} {i:Nat} (h:ii B a b out 1 i) (ha:a.length≤i) (hb:b.length≤i):B ^ i≤val B a+val B b:=by
 have e:=h.eq;rw[a8 _ ha,a8 _ hb] at e;omega
structure gU (B:Nat) (a b out:List Nat) (borrow i:Nat):Prop where
 small:Small B out
 len:out.length=i
 low:borrow≤1
 eq:val B (a.take i)+B ^ i*borrow=val B out+val B (b.take i)
theorem gU.zero (a b:List Nat):gU B a b [] 0 0:=⟨Small.nil,rfl,Nat.zero_le _,by simp[val]⟩
theorem gU.plain {a b out:List Nat} {borrow i:Nat} (ha:Small B a) (hB:0<B) (h:gU B a b out borrow i) (hle:b.getD i 0+borrow≤a.getD i 0):
  gU B a b (out++[a.getD i 0 - b.getD i 0 - borrow]) 0 (i+1):=by
 have h1:=ha.getD hB i;refine⟨h.small.snoc A3,by rw[List.length_append,h.len];rfl,Nat.zero_le _,?_⟩;rw[fK,h.len,bS,bS,Nat.mul_zero,Nat.add_zero];have e:=h.eq;have e2:B ^ i*a.getD i 0=B ^ i*(a.getD i 0 - b.getD i 0 - borrow)+B ^ i*b.getD i 0+B ^ i*borrow:=by
  rw[←Nat.mul_add,←Nat.mul_add];congr 1;omega
 omega
theorem gU.borrowed {a b out:List Nat} {borrow i:Nat} (hb:Small B b) (hB:0<B) (h:gU B a b out borrow i) (hlt:a.getD i 0<b.getD i 0+borrow):
  gU B a b (out++[a.getD i 0+B - b.getD i 0 - borrow]) 1 (i+1):=by
 have h1:=hb.getD hB i;have h2:=h.low;refine⟨h.small.snoc A3,by rw[List.length_append,h.len];rfl,Nat.le_refl _,?_⟩;rw[fK,h.len,bS,bS,Nat.mul_one,Nat.pow_succ];have e:=h.eq;have e2:B ^ i*a.getD i 0+B ^ i*B=B ^ i*(a.getD i 0+B - b.getD i 0 - borrow)+B ^ i*b.getD i 0+B ^ i*borrow:=by
  rw[←Nat.mul_add,←Nat.mul_add,←Nat.mul_add];congr 1;omega
 omega
theorem gU.done (hB:2≤B) {a b out:List Nat} {borrow:Nat} (h:gU B a b out borrow a.length) (hlb:b.length≤a.length) (hle:val B b≤val B a):borrow=0∧val B out=val B a - val B b:=by
 have e:=h.eq;rw[a8 _ lr,a8 _ hlb] at e;have h1:=d9 A3 out h.small;rw[h.len] at h1;have h2:=h.low;have hb0:borrow=0:=by
  rcases Nat.lt_or_ge 0 borrow with h3 | h3
  ·have:borrow=1:=A3
   subst this;omega
  ·omega
 subst hb0;exact⟨rfl,A3⟩
structure iK (B:Nat) (b o out:List Nat) (x carry i k:Nat):Prop where
 small:Small B out
 len:out.length=o.length
 low:carry<B
 eq:val B out+B ^ (i+k)*carry=val B o+B ^ i*(x*val B (b.take k))
 rest: ∀j,i+k≤j→out.getD j 0=o.getD j 0
theorem iK.zero (hB:0<B) {b o:List Nat} {x i:Nat} (ho:Small B o):iK B b o o x 0 i 0:=
 ⟨ho,rfl,hB,by simp[val],fun _ _=>rfl⟩
theorem getD_set_ne {l:List Nat} {i j d:Nat} (h:i≠j):(l.set i d).getD j 0=l.getD j 0:=by simp[List.getD,List.getElem?_set_ne h]
theorem BR {p:Prop} (h:p:=by rw[List.length_set,h.len]):p:=h
theorem iK.step (hB:2≤B) {b o out:List Nat} {x carry i k:Nat} (hb:Small B b) (hx:x<B) (h:iK B b o out x carry i k) (hlen:i+k<o.length):
  iK B b o (out.set (i+k) ((out.getD (i+k) 0+x*b.getD k 0+carry) % B)) x ((out.getD (i+k) 0+x*b.getD k 0+carry) / B) i (k+1):=by
 have h1:=h.small.getD A3 (i+k);have h2:=hb.getD A3 k;have h3:=h.low;refine⟨h.small.set _ (Nat.mod_lt _ A3),BR,?_,?_,fun j hj=>?_⟩
 ·rw[Nat.div_lt_iff_lt_mul A3];have e:x*b.getD k 0≤(B - 1)*(B - 1):=Nat.mul_le_mul A3 A3;have e2:B*B=(B - 1)*(B - 1)+2*(B - 1)+1:=by
   obtain⟨c,rfl⟩: ∃c,B=c+1:=⟨B - 1,A3⟩
   simp only[Nat.add_sub_cancel,Nat.mul_add,Nat.add_mul];omega
  omega
 ·have hs:=mA (B:=B) out (i+k) ((out.getD (i+k) 0+x*b.getD k 0+carry) % B) (by rw[h.len];exact hlen);have e:=h.eq;have hd:B ^ (i+k)*((out.getD (i+k) 0+x*b.getD k 0+carry) % B)+B ^ (i+k)*(B*((out.getD (i+k) 0+x*b.getD k 0+carry) / B))=B ^ (i+k)*out.getD (i+k) 0+B ^ (i+k)*(x*b.getD k 0)+B ^ (i+k)*carry:=by
   rw[←Nat.mul_add,Nat.mod_add_div,Nat.mul_add,Nat.mul_add]
  have e3:B ^ (i+(k+1))*((out.getD (i+k) 0+x*b.getD k 0+carry) / B)=B ^ (i+k)*(B*((out.getD (i+k) 0+x*b.getD k 0+carry) / B)):=by
   rw[←Nat.add_assoc,Nat.pow_succ,Nat.mul_assoc]
  have e4:B ^ i*(x*val B (b.take (k+1)))=B ^ i*(x*val B (b.take k))+B ^ (i+k)*(x*b.getD k 0):=by
   rw[bS,Nat.mul_add,Nat.mul_add,Nat.pow_add];congr 1;rw[Nat.mul_assoc,Nat.mul_left_comm x]
  rw[e3,e4];omega
 ·rw[getD_set_ne A3];exact h.rest j A3
theorem iK.done {b o out:List Nat} {x carry i:Nat} (h:iK B b o out x carry i b.length) (hlen:i+b.length<o.length) (h0:o.getD (i+b.length) 0=0):
  Small B (out.set (i+b.length) (out.getD (i+b.length) 0+carry))∧val B (out.set (i+b.length) (out.getD (i+b.length) 0+carry))=val B o+B ^ i*(x*val B b)∧
   ∀j,i+1+b.length≤j→(out.set (i+b.length) (out.getD (i+b.length) 0+carry)).getD j 0=o.getD j 0:=by
 have hr:=h.rest (i+b.length) lr;rw[h0] at hr;refine⟨?_,?_,fun j hj=>?_⟩
 ·rw[hr,Nat.zero_add];exact h.small.set _ h.low
 ·have hs:=mA (B:=B) out (i+b.length) (out.getD (i+b.length) 0+carry) (by rw[h.len];exact hlen);have e:=h.eq;rw[a8 b lr] at e;rw[Nat.mul_add] at hs;omega
 ·rw[getD_set_ne A3];exact h.rest j A3
variable {B:Nat}
theorem wQ {b left low high mid:Nat} (hb:0<b) (hmid:mid=(low+high+1) / 2) (hlt:low<high) (h:left / b≤high) (hle:b*mid≤left):
  mid≤left / b∧low<mid∧mid≤high∧left / b≤high:=by
 refine⟨(Nat.le_div_iff_mul_le hb).2 (by rw[Nat.mul_comm];exact hle),A3,A3,h⟩
theorem sy {b left low high mid:Nat} (hb:0<b) (hmid:mid=(low+high+1) / 2) (hlt:low<high) (hgt:left<b*mid):
  left / b≤mid - 1∧low≤mid - 1∧mid - 1<high:=by
 have h1:left / b<mid:=(Nat.div_lt_iff_lt_mul hb).2 (by rw[Nat.mul_comm];exact hgt);omega
theorem iu {b left d:Nat} (hd:d<B) (hleft:left<b):(d+B*left) / b<B:=by
 rw[Nat.div_lt_iff_lt_mul A3];have h:B*(left+1)≤B*b:=Nat.mul_le_mul_left B hleft;rw[Nat.mul_add] at h;omega
structure lq (B:Nat) (a out:List Nat) (b left i:Nat):Prop where
 small:Small B out
 len:out.length=a.length
 low:left<b
 eq:val B (a.drop i)=b*val B (out.drop i)+left
theorem lq.zero (hB:0<B) {a:List Nat} {b:Nat} (hb:0<b):lq B a (List.replicate a.length 0) b 0 a.length:=
 ⟨Small.zeros hB _,B4,hb,by simp[val]⟩
theorem oh (l:List Nat) (i d:Nat):(l.set i d).drop (i+1)=l.drop (i+1):=by
 rw[List.drop_set_of_lt A3]
theorem lq.step (hB:0<B) {a out:List Nat} {b left i:Nat} (ha:Small B a) (hi:i<a.length) (h:lq B a out b left (i+1)):
  lq B a (out.set i ((a.getD i 0+B*left) / b)) b (a.getD i 0+B*left - b*((a.getD i 0+B*left) / b)) i:=by
 have hd:=ha.getD hB i;have hq:=iu hd h.low;have hb:0<b:=by have:=h.low;omega
 have hm:a.getD i 0+B*left - b*((a.getD i 0+B*left) / b)=(a.getD i 0+B*left) % b:=by
  have:=Nat.mod_add_div (a.getD i 0+B*left) b;omega
 refine⟨h.small.set i hq,BR,by rw[hm];exact Nat.mod_lt _ hb,?_⟩;have hlen:i<(out.set i ((a.getD i 0+B*left) / b)).length:=by rw[List.length_set,h.len];exact hi
 have hg:(out.set i ((a.getD i 0+B*left) / b)).getD i 0=(a.getD i 0+B*left) / b:=by
  have:i<out.length:=by rw[h.len];exact hi
  simp[List.getD,this]
 rw[bY a i hi,bY _ i hlen,hg,oh,h.eq,hm];have e:=Nat.mod_add_div (a.getD i 0+B*left) b;have e1:B*(b*val B (out.drop (i+1))+left)=b*(B*val B (out.drop (i+1)))+B*left:=by
  rw[Nat.mul_add,Nat.mul_left_comm]
 rw[e1,Nat.mul_add];omega
theorem lq.done {a out:List Nat} {b left:Nat} (h:lq B a out b left 0):val B out=val B a / b∧left=val B a % b:=by
 have e:=h.eq;rw[List.drop_zero,List.drop_zero] at e;have hb:0<b:=by have:=h.low;omega
 rw[e];constructor
 ·rw[Nat.mul_add_div hb,Nat.div_eq_of_lt h.low,Nat.add_zero]
 ·rw[Nat.mul_add_mod,Nat.mod_eq_of_lt h.low]
theorem oQ (a b:Nat):Nat.gcd a b=Nat.gcd b (a % b):=by rw[Nat.gcd_comm a b,Nat.gcd_rec b a,Nat.gcd_comm]
def bytes (l:List Nat):List UInt8:=l.reverse.map fun d=>UInt8.ofNat (48+d)
theorem j9 (l:List Nat) (d:Nat):bytes (l++[d])=UInt8.ofNat (48+d)::bytes l:=by simp[bytes]
def text (n:Nat):List UInt8:=if n=0 then [48] else bytes (dig 10 n)
theorem uG (n:Nat):0<(text n).length:=by
 unfold text;split
 ·simp
 ·rename_i h;rw[fa A3 h];simp[bytes]
def lC:List UInt8→List UInt8
 | []=>[]
 | c::s=>if c=48 then lC s else c::s
theorem kK: ∀(k:Nat) (l:List Nat),l.length=k→Small 10 l→lC (bytes l)=bytes (bq l)
 | 0,l,h,_=>by rw[List.eq_nil_of_length_eq_zero h];rfl
 | k+1,l,h,hs=>by
  rcases List.eq_nil_or_concat l with e | ⟨l',d,e⟩
  ·subst e;rfl
  ·rw[List.concat_eq_append] at e;subst e;have hd:d<10:=hs d B4;have hs':Small 10 l':=fun x hx=>hs x (by simp[hx])
   rw[j9,lC];by_cases h0:d=0
   ·subst h0;rw[if_pos Cp,dv];exact kK k l' (by simpa using h) hs'
   ·have hne: ¬UInt8.ofNat (48+d)=48:=by
     intro hc;have h2:=congrArg UInt8.toNat hc;simp at h2;omega
    rw[if_neg hne,gg l' h0,j9]
variable {B:Nat}
theorem jB (pre s post:List Nat) {j:Nat} (x:Nat) (h:j<s.length):(pre++s++post).set (pre.length+j) x=pre++s.set j x++post:=by
 rw[List.append_assoc,List.set_append_right _ _ A3,Nat.add_sub_cancel_left,List.set_append_left _ _ h,List.append_assoc]
theorem wX (pre s post:List Nat) {j:Nat} (h:j<s.length):(pre++s++post).getD (pre.length+j) 0=s.getD j 0:=by
 simp only[List.getD];rw[List.append_assoc,List.getElem?_append_right A3,Nat.add_sub_cancel_left,List.getElem?_append_left h]
theorem gJ {l:List Nat} {i d:Nat} (h:i<l.length):(l.set i d).getD i 0=d:=by simp[List.getD,h]
theorem pD (l:List Nat) {i j:Nat} (d:Nat) (h:j≤i):(l.set i d).take j=l.take j:=by
 rw[List.take_set_of_le h]
theorem dI (l:List Nat) {j:Nat} (x:Nat) (h:j<l.length):val B ((l.set j x).take (j+1))=val B (l.take j)+B ^ j*x:=by
 rw[bS,pD l x lr,gJ h]
structure ib (B t:Nat) (d s s':List Nat) (carry borrow j:Nat):Prop where
 small:Small B s'
 len:s'.length=s.length
 low:borrow≤1
 car:carry<B
 eq:val B (s'.take j)+t*val B (d.take j)=val B (s.take j)+B ^ j*(borrow+carry)
 rest: ∀k,j≤k→s'.getD k 0=s.getD k 0
theorem ib.zero (hB:0<B) {t:Nat} {d s:List Nat} (hs:Small B s):ib B t d s s 0 0 0:=⟨hs,rfl,A3,hB,by simp[val],fun _ _=>rfl⟩
theorem rk {x y b r b':Nat} (hx:x<B) (hy:y<B) (hb:b≤1) (hr:r=(x+B - y - b) % B) (hb':b'=if x<y+b then 1 else 0):r+y+b=x+B*b'∧r<B∧b'≤1:=by
 by_cases h:x<y+b
 ·rw[if_pos h] at hb';subst hb';rw[Nat.mod_eq_of_lt A3] at hr;omega
 ·rw[if_neg h] at hb';subst hb';rw[show x+B - y - b=(x - y - b)+B by omega,Nat.add_mod_right,Nat.mod_eq_of_lt A3] at hr;omega
theorem ib.step (hB:2≤B) {t:Nat} {d s s':List Nat} {carry borrow j lo hi r b':Nat} (h:ib B t d s s' carry borrow j) (hs:Small B s) (hd:Small B d) (ht:t<B) (hj:j<s.length)
  (hlo:lo=(carry+d.getD j 0*t+0) % B) (hhi:hi=(carry+d.getD j 0*t+0) / B) (hr:r=(s.getD j 0+B - lo - borrow) % B) (hb':b'=if s.getD j 0<lo+borrow then 1 else 0):
  ib B t d s (s'.set j r) hi b' (j+1):=by
 have hx:=hs.getD A3 j;have hy:=hd.getD A3 j;have hlB:lo<B:=by rw[hlo];exact Nat.mod_lt _ A3
 obtain⟨e1,e2,e3⟩:=rk hx hlB h.low hr hb';have e4:lo+B*hi=carry+d.getD j 0*t:=by rw[hlo,hhi,Nat.mod_add_div];omega
 refine⟨h.small.set j e2,BR,e3,?_,?_,fun k hk=>by rw[getD_set_ne A3];exact h.rest k A3⟩
 ·rw[hhi,Nat.div_lt_iff_lt_mul A3];have h1:d.getD j 0*t≤(B - 1)*(B - 1):=Nat.mul_le_mul A3 A3;have h2:B*B=(B - 1)*(B - 1)+2*(B - 1)+1:=by
   obtain⟨c,rfl⟩: ∃c,B=c+1:=⟨B - 1,A3⟩
   simp only[Nat.add_sub_cancel,Nat.mul_add,Nat.add_mul];omega
  have:=h.car;omega
 ·have e:=h.eq;rw[dI s' r (by rw[h.len];exact hj),bS d,bS s,Nat.pow_succ,Nat.mul_add t,Nat.mul_assoc];have e5:B ^ j*(r+t*d.getD j 0+borrow+carry)=B ^ j*(s.getD j 0+B*(b'+hi)):=by
   congr 1;rw[Nat.mul_comm t,Nat.mul_add];omega
  have e6:t*(B ^ j*d.getD j 0)=B ^ j*(t*d.getD j 0):=by rw[Nat.mul_left_comm]
  simp only[Nat.mul_add] at e5 e ⊢;rw[e6];omega
theorem ib.done (hB:2≤B) {t:Nat} {d s s':List Nat} {carry borrow r b':Nat} (h:ib B t d s s' carry borrow d.length) (hs:Small B s) (hl:s.length=d.length+1)
  (hr:r=(s.getD d.length 0+B - carry - borrow) % B) (hb':b'=if s.getD d.length 0<carry+borrow then 1 else 0):
  Small B (s'.set d.length r)∧(s'.set d.length r).length=s.length∧b'≤1∧val B (s'.set d.length r)+t*val B d=val B s+B ^ s.length*b':=by
 have hx:=hs.getD A3 d.length;obtain⟨e1,e2,e3⟩:=rk hx h.car h.low hr hb';refine⟨h.small.set _ e2,BR,e3,?_⟩;have e:=h.eq;have e4:=dI (B:=B) (j:=d.length) s' r (by rw[h.len,hl];omega);rw[a8 _ (by rw[List.length_set,h.len,hl];omega)] at e4;have e5:=bS (B:=B) s d.length;rw[a8 _ A3] at e5;rw[a8 d lr] at e;rw[e4,e5,hl,Nat.pow_succ,Nat.mul_assoc];have e6:B ^ d.length*(r+borrow+carry)=B ^ d.length*(s.getD d.length 0+B*b'):=by congr 1;omega
 simp only[Nat.mul_add] at e6 e ⊢;omega
structure ij (B:Nat) (d s s':List Nat) (carry j:Nat):Prop where
 small:Small B s'
 len:s'.length=s.length
 low:carry≤1
 eq:val B (s'.take j)+B ^ j*carry=val B (s.take j)+val B (d.take j)
 rest: ∀k,j≤k→s'.getD k 0=s.getD k 0
theorem ij.zero {d s:List Nat} (hs:Small B s):ij B d s s 0 0:=⟨hs,rfl,A3,by simp[val],fun _ _=>rfl⟩
theorem ij.step (hB:2≤B) {d s s':List Nat} {carry j r c':Nat} (h:ij B d s s' carry j) (hs:Small B s) (hd:Small B d) (hj:j<s.length)
  (hr:r=(s.getD j 0+d.getD j 0+carry) % B) (hc':c'=(s.getD j 0+d.getD j 0+carry) / B):ij B d s (s'.set j r) c' (j+1):=by
 have hx:=hs.getD A3 j;have hy:=hd.getD A3 j;have hl:=h.low;have e4:r+B*c'=s.getD j 0+d.getD j 0+carry:=by rw[hr,hc',Nat.mod_add_div]
 refine⟨h.small.set j (by rw[hr];exact Nat.mod_lt _ A3),BR,?_,?_,fun k hk=>by rw[getD_set_ne A3];exact h.rest k A3⟩
 ·have:c'<2:=by rw[hc',Nat.div_lt_iff_lt_mul A3];omega
  omega
 ·have e:=h.eq;rw[dI s' r (by rw[h.len];exact hj),bS d,bS s,Nat.pow_succ,Nat.mul_assoc,Nat.add_assoc,←Nat.mul_add,e4];simp only[Nat.mul_add];omega
theorem ij.done (hB:2≤B) {d s s':List Nat} {carry r c':Nat} (h:ij B d s s' carry d.length) (hs:Small B s) (hl:s.length=d.length+1)
  (hr:r=(s.getD d.length 0+0+carry) % B) (hc':c'=(s.getD d.length 0+0+carry) / B):
  Small B (s'.set d.length r)∧(s'.set d.length r).length=s.length∧c'≤1∧val B (s'.set d.length r)+B ^ s.length*c'=val B s+val B d:=by
 have hx:=hs.getD A3 d.length;have hlo:=h.low;have e4:r+B*c'=s.getD d.length 0+carry:=by rw[hr,hc',Nat.mod_add_div];omega
 refine⟨h.small.set _ (by rw[hr];exact Nat.mod_lt _ A3),BR,?_,?_⟩
 ·have:c'<2:=by rw[hc',Nat.div_lt_iff_lt_mul A3];omega
  omega
 ·have e:=h.eq;have e5:=dI (B:=B) (j:=d.length) s' r (by rw[h.len,hl];omega);rw[a8 _ (by rw[List.length_set,h.len,hl];omega)] at e5;have e6:=bS (B:=B) s d.length;rw[a8 _ A3] at e6;rw[a8 d lr] at e;rw[e5,e6,hl,Nat.pow_succ,Nat.mul_assoc,Nat.add_assoc,←Nat.mul_add,e4];simp only[Nat.mul_add];omega
theorem s9 (hB:2≤B) {s d:List Nat} (hs:Small B s) (hl:s.length=d.length+1) (hn:1≤d.length) (hd:0<d.getD (d.length - 1) 0):
  val B s / val B d≤(s.getD (d.length - 1) 0+B*s.getD d.length 0) / d.getD (d.length - 1) 0:=by
 rw[Nat.le_div_iff_mul_le hd];have e1:=br (B:=B) d (d.length - 1) A3;rw[bY d (d.length - 1) A3,show d.length - 1+1=d.length by omega,List.drop_length] at e1;have e2:=br (B:=B) s (d.length - 1) A3;rw[bY s (d.length - 1) A3,show d.length - 1+1=d.length by omega,bY s d.length A3] at e2;have e3:s.drop (d.length+1)=[]:=by rw[←hl];exact List.drop_length
 rw[e3] at e2;simp only[val,Nat.mul_zero,Nat.add_zero] at e1 e2;have h1:=d9 (B:=B) A3 (s.take (d.length - 1)) (hs.take _);rw[List.length_take,Nat.min_eq_left A3] at h1;have h2:val B s / val B d*val B d≤val B s:=Nat.div_mul_le_self _ _;obtain⟨p,hp⟩: ∃p,p=B ^ (d.length - 1):=⟨_,rfl⟩
 obtain⟨q,hq⟩: ∃q,q=val B s / val B d:=⟨_,rfl⟩
 rw[←hq] at h2 ⊢;rw[←hp] at h1 e1 e2;have hpp:0<p:=by rw[hp];exact Nat.pow_pos A3
 have h3:q*(p*d.getD (d.length - 1) 0)≤q*val B d:=Nat.mul_le_mul_left _ A3;rw[Nat.mul_left_comm] at h3;have h4:p*(q*d.getD (d.length - 1) 0)<p*(s.getD (d.length - 1) 0+B*s.getD d.length 0+1):=by
  rw[Nat.mul_add p _ 1];omega
 have:=Nat.lt_of_mul_lt_mul_left h4;omega
structure k8 (M vs vd t vp b:Nat):Prop where
 low:b≤1
 ge:vs / vd≤t
 eq:vp+t*vd=vs+M*b
 lt:vp<M
theorem k8.less {M vs vd t vp b vp' c:Nat} (h:k8 M vs vd t vp b) (hb:b=1) (hd:0<vd) (hc:c≤1) (e:vp'+M*c=vp+vd) (hlt:vp'<M):0<t∧c≤b∧k8 M vs vd (t - 1) vp' (b - c):=by
 subst hb;have h1:=h.eq;have h2:=h.lt;have h3:vs<t*vd:=A3
 have h4:vs / vd<t:=by rw[Nat.div_lt_iff_lt_mul hd];exact h3
 have ht:0<t:=Nat.lt_of_le_of_lt (Nat.zero_le _) h4;have h5:(t - 1)*vd+vd=t*vd:=by
  have:(t - 1+1)*vd=t*vd:=by rw[Nat.sub_add_cancel ht]
  rwa [Nat.add_mul,Nat.one_mul] at this
 refine⟨ht,hc,⟨A3,Nat.le_sub_one_of_lt h4,?_,hlt⟩⟩;rcases Nat.lt_or_ge 0 c with h6 | h6
 ·have:c=1:=A3
  subst this;omega
 ·have:c=0:=A3
  subst this;omega
theorem k8.done {M vs vd t vp:Nat} (h:k8 M vs vd t vp 0) (hd:0<vd):t=vs / vd∧vp=vs % vd:=by
 have h1:=h.eq;have h2:t≤vs / vd:=by rw[Nat.le_div_iff_mul_le hd];omega
 have h3:=h.ge;have h4:t=vs / vd:=A3
 refine⟨h4,?_⟩;have e:=Nat.div_add_mod vs vd;rw[Nat.mul_comm,←h4] at e;omega
structure eC (B d a:Nat) (Q R:List Nat) (m:Nat):Prop where
 small:Small B R
 smallQ:Small B Q
 eq:B ^ m*(d*val B (Q.drop m))+val B R=a
 high:val B (R.drop m)<d
theorem eC.part (hB:2≤B) {d a n k:Nat} {Q R:List Nat} (h:eC B d a Q R (k+1)) (hd:d≤B ^ n) (hk:k<R.length):
  val B ((R.drop k).take (n+1))=val B (R.drop k)∧val B (R.drop k)<B*d∧val B (R.drop (k+(n+1)))=0:=by
 have h1:=h.high;have h2:=bY (B:=B) R k hk;have h3:=h.small.getD A3 k;have h4:B*(val B (R.drop (k+1))+1)≤B*d:=Nat.mul_le_mul_left _ h1;rw[Nat.mul_add] at h4;have h6:val B (R.drop (k+(n+1)))=0:=by
  by_cases hle:n≤(R.drop (k+1)).length
  ·have e:=br (B:=B) (R.drop (k+1)) n hle;rw[List.drop_drop,show k+1+n=k+(n+1) by omega] at e;apply Nat.eq_zero_of_not_pos;intro hp;have:B ^ n*1≤B ^ n*val B (R.drop (k+(n+1))):=Nat.mul_le_mul_left _ hp;omega
  ·rw[List.length_drop] at hle;rw[List.drop_eq_nil_of_le A3];rfl
 refine⟨?_,A3,h6⟩;by_cases hle:n+1≤(R.drop k).length
 ·have e:=br (B:=B) (R.drop k) (n+1) hle;rw[List.drop_drop,h6,Nat.mul_zero,Nat.add_zero] at e;exact e.symm
 ·rw[List.take_of_length_le A3]
theorem eC.step (hB:2≤B) {d a n k q:Nat} {Q R s':List Nat} (h:eC B d a Q R (k+1)) (hd:d≤B ^ n) (hd0:0<d) (hk:k+(n+1)≤R.length) (hkQ:k<Q.length) (hs:Small B s') (hl:s'.length=n+1)
  (hq:q=val B ((R.drop k).take (n+1)) / d) (hs':val B s'=val B ((R.drop k).take (n+1)) % d):eC B d a (Q.set k q) (R.take k++s'++R.drop (k+(n+1))) k:=by
 obtain⟨e1,e2,e3⟩:=h.part hB hd A3;rw[e1] at hq hs';have hqB:q<B:=by rw[hq,Nat.div_lt_iff_lt_mul hd0];exact e2
 have hlen:(R.take k).length=k:=by rw[List.length_take];omega
 have e4:val B (R.take k++s'++R.drop (k+(n+1)))=val B (R.take k)+B ^ k*val B s':=by
  rw[dF,e3,Nat.mul_zero,Nat.add_zero,dF,hlen]
 have e5:(R.take k++s'++R.drop (k+(n+1))).drop k=s'++R.drop (k+(n+1)):=by
  rw[List.append_assoc,List.drop_append_of_le_length A3,List.drop_eq_nil_of_le A3,List.nil_append]
 refine⟨fun x hx=>?_,h.smallQ.set k hqB,?_,?_⟩
 ·rcases List.mem_append.1 hx with hx | hx
  ·rcases List.mem_append.1 hx with hx | hx
   ·exact h.small x (List.mem_of_mem_take hx)
   ·exact hs x hx
  ·exact h.small x (List.mem_of_mem_drop hx)
 ·have e6:=br (B:=B) R k A3;have e7:val B ((Q.set k q).drop k)=q+B*val B (Q.drop (k+1)):=by
   rw[bY _ k (by rw[List.length_set];exact hkQ),gJ hkQ,oh]
  have e8:=h.eq;rw[e4,e7,hs'];have e9:=Nat.div_add_mod (val B (R.drop k)) d;rw[←hq] at e9;rw[e6] at e8;rw[Nat.pow_succ] at e8;have e10:B ^ k*(d*(q+B*val B (Q.drop (k+1))))=B ^ k*(d*q)+B ^ k*B*(d*val B (Q.drop (k+1))):=by
   rw[Nat.mul_add d,Nat.mul_add,Nat.mul_left_comm d B,Nat.mul_assoc (B ^ k) B]
  have e11:B ^ k*val B (R.drop k)=B ^ k*(d*q)+B ^ k*(val B (R.drop k) % d):=by rw[←Nat.mul_add,e9]
  rw[e10];omega
 ·rw[e5,dF,e3,Nat.mul_zero,Nat.add_zero,hs'];exact Nat.mod_lt _ hd0
theorem eC.done {d a:Nat} {Q R:List Nat} (h:eC B d a Q R 0):val B Q=a / d∧val B R=a % d:=by
 have e:=h.eq;have hl:=h.high;rw[List.drop_zero] at e hl;rw[Nat.pow_zero,Nat.one_mul] at e;rw[←e];constructor
 ·rw[Nat.mul_add_div A3,Nat.div_eq_of_lt hl,Nat.add_zero]
 ·rw[Nat.mul_add_mod,Nat.mod_eq_of_lt hl]
theorem eC.start (hB:2≤B) {d a m:Nat} {R:List Nat} (hs:Small B R) (ha:val B R=a) (hm:m≤R.length) (hlt:a<B ^ m*d):eC B d a (List.replicate m 0) R m:=by
 refine⟨hs,Small.zeros A3 _,by rw[List.drop_eq_nil_of_le B4];simp[val,ha],?_⟩;have e:=br (B:=B) R m hm;rw[ha] at e;have:B ^ m*val B (R.drop m)<B ^ m*d:=A3
 exact Nat.lt_of_mul_lt_mul_left this
end Go.Dig
namespace Go.Dv
structure dC (u d y1 y0:Nat):Prop where
 hy1:2147483648≤y1
 hy1':y1<4294967296
 hy0:y0<4294967296
 hd:d<4294967296
 hu:u<y1*4294967296+y0
structure ff (u d y1 y0 q r:Nat):Prop where
 eq:q*y1+r=u
 lo:(u*4294967296+d) / (y1*4294967296+y0)≤q
variable {u d y1 y0 q r:Nat}
theorem dC.pos (h:dC u d y1 y0):0<y1*4294967296+y0:=by have:=h.hy1;omega
theorem dC.lim (h:dC u d y1 y0):y1*4294967296+y0<18446744073709551616:=by have:=h.hy1';have:=h.hy0;omega
theorem dC.small (h:dC u d y1 y0):(u*4294967296+d) / (y1*4294967296+y0)<4294967296:=by
 rw[Nat.div_lt_iff_lt_mul h.pos];have:=h.hu;have:=h.hd;omega
theorem dC.start (h:dC u d y1 y0):ff u d y1 y0 (u / y1) (u - u / y1*y1)∧u - u / y1*y1<y1∧u / y1≤4294967298∧u / y1*y1≤u:=by
 have h1:=h.hy1;have h2:=h.hd;have e:=Nat.div_add_mod u y1;rw[Nat.mul_comm] at e;have em:=Nat.mod_lt u (show 0<y1 by omega);refine⟨⟨A3,?_⟩,A3,?_,A3⟩
 ·have h3:(u*4294967296+d) / (y1*4294967296+y0)<u / y1+1:=by
   rw[Nat.div_lt_iff_lt_mul h.pos,Nat.mul_add (u / y1+1),←Nat.mul_assoc,Nat.add_mul (u / y1) 1 y1,Nat.one_mul];have h4:(u+1)*4294967296≤(u / y1*y1+y1)*4294967296:=Nat.mul_le_mul_right _ A3;omega
  omega
 ·have h3:=h.hu;have h4:=h.hy0;have h5:u / y1<4294967299:=by
   rw[Nat.div_lt_iff_lt_mul A3];omega
  omega
theorem ff.big (h:ff u d y1 y0 q r) (a:dC u d y1 y0) (hq:4294967296≤q):ff u d y1 y0 (q - 1) (r+y1):=by
 have h1:=a.small;refine⟨?_,A3⟩;have e:=h.eq;have:(q - 1)*y1+y1=q*y1:=by
  have:(q - 1+1)*y1=q*y1:=by congr 1;omega
  rw[Nat.add_mul,Nat.one_mul] at this;exact this
 omega
theorem ff.prod (h:ff u d y1 y0 q r):q*(y1*4294967296+y0)+r*4294967296=u*4294967296+q*y0:=by
 have e:=h.eq;rw[Nat.mul_add,←Nat.mul_assoc,←e,Nat.add_mul];omega
theorem ff.more (h:ff u d y1 y0 q r) (a:dC u d y1 y0) (hq:4294967296*r+d<q*y0):ff u d y1 y0 (q - 1) (r+y1):=by
 have h0:q≠0:=by rintro rfl;omega
 have hp:=h.prod;have h1:(u*4294967296+d) / (y1*4294967296+y0)<q:=by
  rw[Nat.div_lt_iff_lt_mul a.pos];omega
 refine⟨?_,A3⟩;have e:=h.eq;have:(q - 1)*y1+y1=q*y1:=by
  have:(q - 1+1)*y1=q*y1:=by congr 1;omega
  rw[Nat.add_mul,Nat.one_mul] at this;exact this
 omega
theorem ff.done (h:ff u d y1 y0 q r) (a:dC u d y1 y0) (hq:q*y0≤4294967296*r+d):q=(u*4294967296+d) / (y1*4294967296+y0):=by
 have hp:=h.prod;have h1:q≤(u*4294967296+d) / (y1*4294967296+y0):=by
  rw[Nat.le_div_iff_mul_le a.pos];omega
 have:=h.lo;omega
theorem ff.brk (h:ff u d y1 y0 q r) (a:dC u d y1 y0) (hr:4294967296≤r):q=(u*4294967296+d) / (y1*4294967296+y0):=by
 refine h.done a ?_;have e:=h.eq;have h1:=a.hu;have h2:=a.hy0;have h3:=a.hy1;have hq:q<4294967296:=by
  apply Nat.lt_of_not_le;intro hc;have:4294967296*y1≤q*y1:=Nat.mul_le_mul_right _ hc;omega
 have h4:q*y0≤4294967295*4294967295:=Nat.mul_le_mul A3 A3;omega
theorem dC.rest (a:dC u d y1 y0):u*4294967296+d - (u*4294967296+d) / (y1*4294967296+y0)*(y1*4294967296+y0)=(u*4294967296+d) % (y1*4294967296+y0)∧
  (u*4294967296+d) / (y1*4294967296+y0)*(y1*4294967296+y0)≤u*4294967296+d∧(u*4294967296+d) % (y1*4294967296+y0)<y1*4294967296+y0:=by
 have e:=Nat.div_add_mod (u*4294967296+d) (y1*4294967296+y0);have hm:=Nat.mod_lt (u*4294967296+d) a.pos;rw[Nat.mul_comm] at e;omega
theorem xW {X d Y:Nat} (hY:0<Y):(X*4294967296+d) / Y=X / Y*4294967296+(X % Y*4294967296+d) / Y∧(X*4294967296+d) % Y=(X % Y*4294967296+d) % Y:=by
 have e:=Nat.div_add_mod X Y;have h:X*4294967296+d=Y*(X / Y*4294967296)+(X % Y*4294967296+d):=by
  rw[←Nat.mul_assoc,←Nat.add_assoc,←Nat.add_mul,e]
 rw[h];constructor
 ·rw[Nat.mul_add_div hY]
 ·rw[Nat.mul_add_mod]
theorem iW {N y t:Nat} (ht:0<t):N*t / (y*t)=N / y∧N*t % (y*t) / t=N % y:=by
 refine⟨Nat.mul_div_mul_right _ _ ht,?_⟩;rw[Nat.mul_mod_mul_right,Nat.mul_div_cancel _ ht]
theorem eP: ∀(f x:Nat),x≠0→x<2 ^ f→2 ^ (Lib.bitLenAux f x - 1)≤x∧x<2 ^ Lib.bitLenAux f x∧1≤Lib.bitLenAux f x∧Lib.bitLenAux f x≤f
 | 0,x,h0,h=>by simp at h;omega
 | f+1,x,h0,h=>by
  unfold Lib.bitLenAux;rw[if_neg h0];by_cases h1:x / 2=0
  ·have hx:x=1:=A3
   subst hx;have e:Lib.bitLenAux f 0=0:=by cases f<;>simp[Lib.bitLenAux]
   rw[show 1 / 2=0 from rfl,e];simp
  ·have hlt:x / 2<2 ^ f:=by rw[Nat.pow_succ] at h;omega
   obtain⟨a,b,c,d⟩:=eP f (x / 2) h1 hlt;generalize Lib.bitLenAux f (x / 2)=k at *;refine⟨?_,?_,A3,A3⟩
   ·rw[show 1+k - 1=(k - 1)+1 by omega,Nat.pow_succ];omega
   ·rw[Nat.add_comm 1 k,Nat.pow_succ];omega
theorem ko {y s:Nat} (h0:y≠0) (hy:y<18446744073709551616) (hs:s+Lib.bitLen y=64):9223372036854775808≤y*2 ^ s∧y*2 ^ s<18446744073709551616∧s≤63:=by
 obtain⟨a,b,c,d⟩:=eP 64 y h0 hy;unfold Lib.bitLen at hs;generalize Lib.bitLenAux 64 y=k at *;refine⟨?_,?_,A3⟩
 ·have h1:2 ^ (k - 1)*2 ^ s≤y*2 ^ s:=Nat.mul_le_mul_right _ a;rw[←Nat.pow_add,show k - 1+s=63 by omega] at h1;exact h1
 ·have h1:y*2 ^ s<2 ^ k*2 ^ s:=Nat.mul_lt_mul_of_pos_right b (Nat.pow_pos A3);rw[←Nat.pow_add,show k+s=64 by omega] at h1;exact h1
theorem lQ {y:Nat} (hy:y<18446744073709551616):Lib.bitLen y≤64:=by
 by_cases h0:y=0
 ·subst h0;decide
 ·exact(eP 64 y h0 hy).2.2.2
theorem tc {hi lo s:Nat} (hs:s≤64):
  (hi*18446744073709551616+lo)*2 ^ s=(hi*2 ^ s+lo / 2 ^ (64 - s))*18446744073709551616+lo*2 ^ s % 18446744073709551616:=by
 have e1:lo*2 ^ s / 18446744073709551616=lo / 2 ^ (64 - s):=by
  rw[show 18446744073709551616=2 ^ (64 - s)*2 ^ s by rw[←Nat.pow_add,show 64 - s+s=64 by omega],Nat.mul_div_mul_right _ _ (Nat.pow_pos A3)]
 have e2:=Nat.div_add_mod (lo*2 ^ s) 18446744073709551616;rw[e1] at e2;rw[Nat.add_mul,Nat.add_mul,Nat.mul_right_comm hi,Nat.add_assoc,Nat.mul_comm (lo / 2 ^ (64 - s)),e2]
theorem uJ {hi lo s:Nat} (hs:s≤64) (hlo:lo<18446744073709551616):hi*2 ^ s ||| lo / 2 ^ (64 - s)=hi*2 ^ s+lo / 2 ^ (64 - s):=by
 have h:lo / 2 ^ (64 - s)<2 ^ s:=by
  rw[Nat.div_lt_iff_lt_mul (Nat.pow_pos A3),←Nat.pow_add,show s+(64 - s)=64 by omega];exact hlo
 rw[Nat.mul_comm hi,Nat.two_pow_add_eq_or_of_lt h]
end Go.Dv
