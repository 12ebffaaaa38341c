import Derived.Test.YtohifgjeebhijaaGreatDoorVAm
import Derived.WalkKit
namespace Go.Proofs.YtohifgjeebhijaaGreatDoor
def find:List Int→Int→Nat
 | [],_=>0
 | y::r,x=>if y=x then 0 else find r x+1
theorem nf: ∀(l:List Int) (x:Int),find l x≤l.length
 | [],_=>Nat.le_refl _
 | y::r,x=>by
  unfold find;split
  ·simp
  ·have:=nf r x;simp;omega
theorem BM {p:Prop} (h:p:=by simpa using h):p:=h
theorem eY: ∀ {l:List Int} {x:Int},find l x<l.length→l.getD (find l x) 0=x
 | [],_,h=>absurd h (by simp[find])
 | y::r,x,h=>by
  unfold find at h ⊢;split
  ·rename_i e;simpa using e
  ·rename_i e;rw[if_neg e] at h;have:=eY (l:=r) (x:=x) BM;simpa using this
theorem fR: ∀ {l:List Int} {x:Int} {j:Nat},j<find l x→l.getD j 0≠x
 | [],_,_,h=>absurd h (by simp[find])
 | y::r,x,j,h=>by
  unfold find at h;split at h
  ·omega
  ·rename_i e;cases j with
   | zero=>simpa using e
   | succ j=>simpa using fR (l:=r) (x:=x) (j:=j) A3
theorem uZ {l:List Int} {x:Int} {k:Nat} (hk:k<l.length) (he:l.getD k 0=x) (hb: ∀j,j<k→l.getD j 0≠x):find l x=k:=by
 rcases Nat.lt_trichotomy (find l x) k with h | h | h
 ·exact absurd (eY A3) (hb _ h)
 ·exact h
 ·exact absurd he (fR h)
theorem tO {l:List Int} {x:Int} (hb: ∀j,j<l.length→l.getD j 0≠x):find l x=l.length:=by
 have:=nf l x;by_cases h:find l x<l.length
 ·exact absurd (eY h) (hb _ h)
 ·omega
theorem cZ {l:List Int} {k:Nat} (h:k<l.length):l.getD k 0∈l:=by
 simp[List.getD_eq_getElem?_getD,h]
theorem eR {l:List Int} {x:Int} (h:x∈l): ∃k,k<l.length∧l.getD k 0=x:=by
 obtain⟨k,hk,e⟩:=List.getElem_of_mem h;exact⟨k,hk,by simp[List.getD_eq_getElem?_getD,hk,e]⟩
theorem jL {l:List Int} {x:Int}:find l x<l.length↔x∈l:=by
 constructor
 ·intro h;have:=cZ h
  rwa [eY h] at this
 ·intro h;obtain⟨k,hk,e⟩:=eR h;have:=nf l x;by_cases h2:find l x<l.length
  ·exact h2
  ·exact absurd e (fR A3)
def cQ (l:List Int) (x:Int):Int:=if find l x<l.length then (find l x:Int) else -1
theorem sL {l:List Int} {x:Int} {k:Nat} (hk:k<l.length) (he:l.getD k 0=x) (hb: ∀j,j<k→l.getD j 0≠x):cQ l x=k:=by
 have:=uZ hk he hb;unfold cQ;rw[if_pos A3,this]
theorem qC {l:List Int} {x:Int} (hb: ∀j,j<l.length→l.getD j 0≠x):cQ l x= -1:=by
 have:=tO hb;unfold cQ;rw[if_neg A3]
def cS (l:List Int):List Int:=l.filter fun x=> !(x==0)
def hU (l:List Int):List Int:=(cS l).mergeSort fun x y=>decide (x≤y)
theorem ub (l:List Int):(cS l).length≤l.length:=List.length_filter_le _ _
theorem ig (l:List Int):(hU l).Perm (cS l):=List.mergeSort_perm _ _
theorem xj (l:List Int):(hU l).length=(cS l).length:=(ig l).length_eq
theorem l5 {l:List Int} {x:Int}:x∈cS l↔x∈l∧x≠0:=by
 unfold cS;rw[List.mem_filter];simp
theorem gz {l:List Int} {x:Int}:x∈hU l↔x∈l∧x≠0:=by
 rw[(ig l).mem_iff,l5]
theorem kZ (l:List Int):(hU l).Pairwise (· ≤ ·):=by
 have h:=List.pairwise_mergeSort (le:=fun x y:Int=>decide (x≤y)) (fun a b c h1 h2=>by simp at *;omega) (fun a b=>Cq) (cS l);exact h.imp (fun h=>BM)
theorem dH: ∀ {a b:List Int},a.Perm b→a.Pairwise (· ≤ ·)→b.Pairwise (· ≤ ·)→a=b
 | [],b,hp,_,_=>(List.nil_perm.1 hp).symm
 | x::r,[],hp,_,_=>absurd hp.length_eq B4
 | x::r,y::s,hp,h1,h2=>by
  have e:x=y:=by
   have hx:x∈y::s:=hp.mem_iff.1 (List.mem_cons_self ..);have hy:y∈x::r:=hp.mem_iff.2 (List.mem_cons_self ..);have a1:x≤y:=by
    rcases List.mem_cons.1 hy with h | h
    ·omega
    ·exact(List.pairwise_cons.1 h1).1 y h
   have a2:y≤x:=by
    rcases List.mem_cons.1 hx with h | h
    ·omega
    ·exact(List.pairwise_cons.1 h2).1 x h
   omega
  subst e;rw[dH ((List.perm_cons x).1 hp) (List.pairwise_cons.1 h1).2 (List.pairwise_cons.1 h2).2]
def rY:List Int→Int→Nat
 | [],_=>0
 | y::r,x=>if y<x then rY r x+1 else 0
def ins (l:List Int) (x:Int):List Int:=l.take (rY l x)++x::l.drop (rY l x)
def iF (l:List Int) (x:Int):List Int:=if 0<x then ins l x else l
def zr (l:List Int):List Int:=l.foldl iF []
theorem ox (y:Int) (r:List Int) (x:Int):ins (y::r) x=if y<x then y::ins r x else x::y::r:=by
 unfold ins;rw[rY];split<;>simp
theorem kV: ∀(l:List Int) (x:Int),(ins l x).Perm (x::l)
 | [],x=>by simp[ins]
 | y::r,x=>by
  rw[ox];split
  ·exact((List.perm_cons y).2 (kV r x)).trans (List.Perm.swap x y r)
  ·exact List.Perm.refl _
theorem j4: ∀(l:List Int) (x:Int),l.Pairwise (· ≤ ·)→(ins l x).Pairwise (· ≤ ·)
 | [],x,_=>by simp[ins]
 | y::r,x,h=>by
  rw[List.pairwise_cons] at h;rw[ox];split
  ·rename_i hlt;rw[List.pairwise_cons];refine⟨fun z hz=>?_,j4 r x h.2⟩;rcases List.mem_cons.1 ((kV r x).mem_iff.1 hz) with e | e
   ·omega
   ·exact h.1 z e
  ·rename_i hle;rw[List.pairwise_cons,List.pairwise_cons];refine⟨fun z hz=>?_,h⟩;rcases List.mem_cons.1 hz with e | e
   ·omega
   ·have:=h.1 z e;omega
theorem jq: ∀(l acc:List Int),acc.Pairwise (· ≤ ·)→(l.foldl iF acc).Pairwise (· ≤ ·)
 | [],_,h=>h
 | x::r,acc,h=>by
  rw[List.foldl_cons];refine jq r _ ?_;unfold iF;split
  ·exact j4 _ _ h
  ·exact h
theorem mt: ∀(l acc:List Int),(∀x∈l,0≤x)→(l.foldl iF acc).Perm (cS l++acc)
 | [],acc,_=>by simp[cS]
 | x::r,acc,h=>by
  rw[List.foldl_cons];have ih:=mt r (iF acc x) (fun z hz=>h z (List.mem_cons_of_mem _ hz));have hx:=h x (List.mem_cons_self ..);by_cases h0:x=0
  ·subst h0;have e1:iF acc 0=acc:=by simp[iF]
   rw[e1] at ih ⊢;simpa[cS] using ih
  ·have e1:iF acc x=ins acc x:=by unfold iF;rw[if_pos A3]
   rw[e1] at ih ⊢;have e2:cS (x::r)=x::cS r:=by simp[cS,h0]
   rw[e2];refine ih.trans ?_;refine(List.Perm.append_left _ (kV acc x)).trans ?_;exact List.perm_middle
theorem yf {l:List Int} (h: ∀x∈l,0≤x):zr l=hU l:=by
 refine dH ?_ (jq l [] List.Pairwise.nil) (kZ l);have:=mt l [] h;rw[List.append_nil] at this;exact this.trans (ig l).symm
structure cK (l:List Int) (m:Int):Prop where
 n1:1≤l.length
 n64:l.length≤64
 lo: ∀x∈l,0≤x
 hi: ∀x∈l,x≤m
 uniq: ∀i j,i<l.length→j<l.length→l.getD i 0=l.getD j 0→l.getD i 0≠0→i=j
 m0:0≤m
 mM:m≤2147483648
def ft (l:List Int) (m:Int):Bool:=decide (find l 0<l.length∧m<2147483648)
def gV (l:List Int) (m:Int):List Int:=if ft l m then l.set (find l 0) (m+1) else l
def j7 (l:List Int) (m:Int):Int:=if ft l m then m+1 else m
def mD (l:List Int) (m:Int):Int:=if ft l m then m+1 else 0
def zk (l:List Int) (m:Int):Int:=if ft l m then (find l 0:Int) else 0
def mI (l:List Int) (m:Int):Int:=if ft l m then 0 else 6
def iE (l:List Int) (x:Int):Bool:=decide (find l x<l.length∧x≠0)
def fU (l:List Int) (x:Int):List Int:=if iE l x then l.set (find l x) 0 else l
def jy (l:List Int) (x:Int):Int:=if iE l x then 0 else 3
def mv (l:List Int) (x:Int):Int:=if iE l x then (find l x:Int) else 0
def yz (m n:Int):Bool:=decide (0≤n∧n≤2147483648 - m)
def yy (m n:Int):Int:=if yz m n then m+n else m
theorem cn (l:List Int) (i j:Nat) (x:Int):(l.set i x).getD j 0=if i=j∧j<l.length then x else l.getD j 0:=by
 simp only[List.getD_eq_getElem?_getD,List.getElem?_set];by_cases h:i=j
 ·subst h;by_cases h2:i<l.length
  ·simp[h2]
  ·simp[h2]
 ·simp[h]
theorem jH {l:List Int} {p:Int→Prop} (h: ∀j,j<l.length→p (l.getD j 0)): ∀x∈l,p x:=by
 intro x hx;obtain⟨k,hk,e⟩:=eR hx;exact e ▸ h k hk
section
variable {l:List Int} {m:Int}
theorem cK.lo' (h:cK l m) {j:Nat} (hj:j<l.length):0≤l.getD j 0:=h.lo _ (cZ hj)
theorem cK.hi' (h:cK l m) {j:Nat} (hj:j<l.length):l.getD j 0≤m:=h.hi _ (cZ hj)
theorem cK.new {n:Nat} (h1:1≤n) (h2:n≤64):cK (List.replicate n 0) 0 where
 n1:=by simpa using h1
 n64:=by simpa using h2
 lo:=fun x hx=>by rw[(List.mem_replicate.1 hx).2];omega
 hi:=fun x hx=>by rw[(List.mem_replicate.1 hx).2];omega
 uniq:=fun i j hi _ _ hne=>absurd (by simp at hi;simp[List.getD_eq_getElem?_getD,hi]) hne
 m0:=A3
 mM:=A3
theorem cK.add (h:cK l m):cK (gV l m) (j7 l m):=by
 unfold gV j7;split
 ·rename_i hb;have hb':find l 0<l.length∧m<2147483648:=by simpa[ft] using hb
  have hm:=h.m0;refine⟨by rw[List.length_set];exact h.n1,by rw[List.length_set];exact h.n64,jH ?_,jH ?_,?_,A3,A3⟩
  ·intro j hj;rw[List.length_set] at hj;rw[cn];split
   ·omega
   ·exact h.lo' hj
  ·intro j hj;rw[List.length_set] at hj;rw[cn];split
   ·omega
   ·have:=h.hi' hj;omega
  ·intro i j hi hj he hne;rw[List.length_set] at hi hj;rw[cn,cn] at he;rw[cn] at hne;by_cases h1:find l 0=i<;>by_cases h2:find l 0=j
   ·omega
   ·rw[if_pos ⟨h1,hi⟩,if_neg (fun hh=>h2 hh.1)] at he;have:=h.hi' hj;omega
   ·rw[if_neg (fun hh=>h1 hh.1),if_pos ⟨h2,hj⟩] at he;have:=h.hi' hi;omega
   ·rw[if_neg (fun hh=>h1 hh.1),if_neg (fun hh=>h2 hh.1)] at he;rw[if_neg (fun hh=>h1 hh.1)] at hne;exact h.uniq i j hi hj he hne
 ·exact h
theorem cK.drop (h:cK l m) (x:Int):cK (fU l x) m:=by
 unfold fU;split
 ·have hm:=h.m0;refine⟨by rw[List.length_set];exact h.n1,by rw[List.length_set];exact h.n64,jH ?_,jH ?_,?_,h.m0,h.mM⟩
  ·intro j hj;rw[List.length_set] at hj;rw[cn];split
   ·omega
   ·exact h.lo' hj
  ·intro j hj;rw[List.length_set] at hj;rw[cn];split
   ·omega
   ·exact h.hi' hj
  ·intro i j hi hj he hne;rw[List.length_set] at hi hj;rw[cn,cn] at he;rw[cn] at hne;by_cases h1:find l x=i
   ·rw[if_pos ⟨h1,hi⟩] at hne;omega
   ·rw[if_neg (fun hh=>h1 hh.1)] at he hne;by_cases h2:find l x=j
    ·rw[if_pos ⟨h2,hj⟩] at he;omega
    ·rw[if_neg (fun hh=>h2 hh.1)] at he;exact h.uniq i j hi hj he hne
 ·exact h
theorem cK.skip (h:cK l m) (n:Int):cK l (yy m n):=by
 unfold yy;split
 ·rename_i hb;have hb':0≤n∧n≤2147483648 - m:=by simpa[yz] using hb
  have hm:=h.m0;exact⟨h.n1,h.n64,h.lo,fun x hx=>by have:=h.hi x hx;omega,h.uniq,A3,A3⟩
 ·exact h
theorem cK.ids (h:cK l m):zr l=hU l:=yf h.lo
theorem ur (l:List Int) (x:Int) (h:iE l x=true):cQ l x=(find l x:Int):=by
 have:find l x<l.length∧x≠0:=by simpa[iE] using h
 unfold cQ;rw[if_pos this.1]
end
end Go.Proofs.YtohifgjeebhijaaGreatDoor
