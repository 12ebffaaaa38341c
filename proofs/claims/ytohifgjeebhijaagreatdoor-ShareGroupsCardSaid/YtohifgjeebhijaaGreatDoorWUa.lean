/-
  What this claim needs; no condition of its own. Told short by a script from longer texts.
-/
import Derived.WalkKit
namespace Go.Proofs.YtohifgjeebhijaaGreatDoor
def find:List Int→Int→Nat
 | [],_=>0
 | y::r,x=>if y=x then 0 else find r x+1
theorem find_le: ∀(l:List Int) (x:Int),find l x≤l.length
 | [],_=>Nat.le_refl _
 | y::r,x=>by
  unfold find
  split
  ·simp
  ·have:=find_le r x;simp;omega
theorem find_get: ∀ {l:List Int} {x:Int},find l x<l.length→l.getD (find l x) 0=x
 | [],_,h=>absurd h (by simp[find])
 | y::r,x,h=>by
  unfold find at h ⊢
  split
  ·rename_i e;simpa using e
  ·rename_i e
   rw[if_neg e] at h
   have:=find_get (l:=r) (x:=x) (by simpa using h)
   simpa using this
theorem find_before: ∀ {l:List Int} {x:Int} {j:Nat},j<find l x→l.getD j 0≠x
 | [],_,_,h=>absurd h (by simp[find])
 | y::r,x,j,h=>by
  unfold find at h
  split at h
  ·omega
  ·rename_i e
   cases j with
   | zero=>simpa using e
   | succ j=>simpa using find_before (l:=r) (x:=x) (j:=j) (by omega)
theorem find_hit {l:List Int} {x:Int} {k:Nat} (hk:k<l.length) (he:l.getD k 0=x) (hb: ∀j,j<k→l.getD j 0≠x):find l x=k:=by
 rcases Nat.lt_trichotomy (find l x) k with h | h | h
 ·exact absurd (find_get (by omega)) (hb _ h)
 ·exact h
 ·exact absurd he (find_before h)
theorem find_none {l:List Int} {x:Int} (hb: ∀j,j<l.length→l.getD j 0≠x):find l x=l.length:=by
 have:=find_le l x
 by_cases h:find l x<l.length
 ·exact absurd (find_get h) (hb _ h)
 ·omega
theorem getD_mem {l:List Int} {k:Nat} (h:k<l.length):l.getD k 0∈l:=by
 simp[List.getD_eq_getElem?_getD,h]
theorem mem_getD {l:List Int} {x:Int} (h:x∈l): ∃k,k<l.length∧l.getD k 0=x:=by
 obtain⟨k,hk,e⟩:=List.getElem_of_mem h
 exact⟨k,hk,by simp[List.getD_eq_getElem?_getD,hk,e]⟩
theorem find_lt {l:List Int} {x:Int}:find l x<l.length↔x∈l:=by
 constructor
 ·intro h
  have:=getD_mem h
  rwa [find_get h] at this
 ·intro h
  obtain⟨k,hk,e⟩:=mem_getD h
  have:=find_le l x
  by_cases h2:find l x<l.length
  ·exact h2
  ·exact absurd e (find_before (by omega))
def slotI (l:List Int) (x:Int):Int:=if find l x<l.length then (find l x:Int) else -1
theorem slotI_hit {l:List Int} {x:Int} {k:Nat} (hk:k<l.length) (he:l.getD k 0=x) (hb: ∀j,j<k→l.getD j 0≠x):slotI l x=k:=by
 have:=find_hit hk he hb
 unfold slotI
 rw[if_pos (by omega),this]
theorem slotI_none {l:List Int} {x:Int} (hb: ∀j,j<l.length→l.getD j 0≠x):slotI l x= -1:=by
 have:=find_none hb
 unfold slotI
 rw[if_neg (by omega)]
def taken (l:List Int):List Int:=l.filter fun x=> !(x==0)
def idsN (l:List Int):List Int:=(taken l).mergeSort fun x y=>decide (x≤y)
theorem taken_len (l:List Int):(taken l).length≤l.length:=List.length_filter_le _ _
theorem ids_perm (l:List Int):(idsN l).Perm (taken l):=List.mergeSort_perm _ _
theorem ids_len (l:List Int):(idsN l).length=(taken l).length:=(ids_perm l).length_eq
theorem mem_taken {l:List Int} {x:Int}:x∈taken l↔x∈l∧x≠0:=by
 unfold taken
 rw[List.mem_filter]
 simp
theorem mem_ids {l:List Int} {x:Int}:x∈idsN l↔x∈l∧x≠0:=by
 rw[(ids_perm l).mem_iff,mem_taken]
theorem ids_sorted (l:List Int):(idsN l).Pairwise (· ≤ ·):=by
 have h:=List.pairwise_mergeSort (le:=fun x y:Int=>decide (x≤y)) (fun a b c h1 h2=>by simp at *;omega) (fun a b=>by simp;omega) (taken l)
 exact h.imp (fun h=>by simpa using h)
theorem rising_unique: ∀ {a b:List Int},a.Perm b→a.Pairwise (· ≤ ·)→b.Pairwise (· ≤ ·)→a=b
 | [],b,hp,_,_=>(List.nil_perm.1 hp).symm
 | x::r,[],hp,_,_=>absurd hp.length_eq (by simp)
 | x::r,y::s,hp,h1,h2=>by
  have e:x=y:=by
   have hx:x∈y::s:=hp.mem_iff.1 (List.mem_cons_self ..)
   have hy:y∈x::r:=hp.mem_iff.2 (List.mem_cons_self ..)
   have a1:x≤y:=by
    rcases List.mem_cons.1 hy with h | h
    ·omega
    ·exact(List.pairwise_cons.1 h1).1 y h
   have a2:y≤x:=by
    rcases List.mem_cons.1 hx with h | h
    ·omega
    ·exact(List.pairwise_cons.1 h2).1 x h
   omega
  subst e
  rw[rising_unique ((List.perm_cons x).1 hp) (List.pairwise_cons.1 h1).2 (List.pairwise_cons.1 h2).2]
def place:List Int→Int→Nat
 | [],_=>0
 | y::r,x=>if y<x then place r x+1 else 0
def ins (l:List Int) (x:Int):List Int:=l.take (place l x)++x::l.drop (place l x)
def putIn (l:List Int) (x:Int):List Int:=if 0<x then ins l x else l
def rIds (l:List Int):List Int:=l.foldl putIn []
theorem ins_cons (y:Int) (r:List Int) (x:Int):ins (y::r) x=if y<x then y::ins r x else x::y::r:=by
 unfold ins
 rw[place]
 split<;>simp
theorem ins_perm: ∀(l:List Int) (x:Int),(ins l x).Perm (x::l)
 | [],x=>by simp[ins]
 | y::r,x=>by
  rw[ins_cons]
  split
  ·exact((List.perm_cons y).2 (ins_perm r x)).trans (List.Perm.swap x y r)
  ·exact List.Perm.refl _
theorem ins_sorted: ∀(l:List Int) (x:Int),l.Pairwise (· ≤ ·)→(ins l x).Pairwise (· ≤ ·)
 | [],x,_=>by simp[ins]
 | y::r,x,h=>by
  rw[List.pairwise_cons] at h
  rw[ins_cons]
  split
  ·rename_i hlt
   rw[List.pairwise_cons]
   refine⟨fun z hz=>?_,ins_sorted r x h.2⟩
   rcases List.mem_cons.1 ((ins_perm r x).mem_iff.1 hz) with e | e
   ·omega
   ·exact h.1 z e
  ·rename_i hle
   rw[List.pairwise_cons,List.pairwise_cons]
   refine⟨fun z hz=>?_,h⟩
   rcases List.mem_cons.1 hz with e | e
   ·omega
   ·have:=h.1 z e;omega
theorem fold_sorted: ∀(l acc:List Int),acc.Pairwise (· ≤ ·)→(l.foldl putIn acc).Pairwise (· ≤ ·)
 | [],_,h=>h
 | x::r,acc,h=>by
  rw[List.foldl_cons]
  refine fold_sorted r _ ?_
  unfold putIn
  split
  ·exact ins_sorted _ _ h
  ·exact h
theorem fold_perm: ∀(l acc:List Int),(∀x∈l,0≤x)→(l.foldl putIn acc).Perm (taken l++acc)
 | [],acc,_=>by simp[taken]
 | x::r,acc,h=>by
  rw[List.foldl_cons]
  have ih:=fold_perm r (putIn acc x) (fun z hz=>h z (List.mem_cons_of_mem _ hz))
  have hx:=h x (List.mem_cons_self ..)
  by_cases h0:x=0
  ·subst h0
   have e1:putIn acc 0=acc:=by simp[putIn]
   rw[e1] at ih ⊢
   simpa[taken] using ih
  ·have e1:putIn acc x=ins acc x:=by unfold putIn;rw[if_pos (by omega)]
   rw[e1] at ih ⊢
   have e2:taken (x::r)=x::taken r:=by simp[taken,h0]
   rw[e2]
   refine ih.trans ?_
   refine(List.Perm.append_left _ (ins_perm acc x)).trans ?_
   exact List.perm_middle
theorem rIds_eq {l:List Int} (h: ∀x∈l,0≤x):rIds l=idsN l:=by
 refine rising_unique ?_ (fold_sorted l [] List.Pairwise.nil) (ids_sorted l)
 have:=fold_perm l [] h
 rw[List.append_nil] at this
 exact this.trans (ids_perm l).symm
structure TabOk (l:List Int) (m:Int):Prop where
 n1:1≤l.length
 n64:l.length≤64
 lo: ∀x∈l,0≤x
 hi: ∀x∈l,x≤m
 uniq: ∀i j,i<l.length→j<l.length→l.getD i 0=l.getD j 0→l.getD i 0≠0→i=j
 m0:0≤m
 mM:m≤2147483648
def addB (l:List Int) (m:Int):Bool:=decide (find l 0<l.length∧m<2147483648)
def addL (l:List Int) (m:Int):List Int:=if addB l m then l.set (find l 0) (m+1) else l
def addM (l:List Int) (m:Int):Int:=if addB l m then m+1 else m
def addI (l:List Int) (m:Int):Int:=if addB l m then m+1 else 0
def addS (l:List Int) (m:Int):Int:=if addB l m then (find l 0:Int) else 0
def addE (l:List Int) (m:Int):Int:=if addB l m then 0 else 6
def hasB (l:List Int) (x:Int):Bool:=decide (find l x<l.length∧x≠0)
def dropL (l:List Int) (x:Int):List Int:=if hasB l x then l.set (find l x) 0 else l
def hasE (l:List Int) (x:Int):Int:=if hasB l x then 0 else 3
def hasS (l:List Int) (x:Int):Int:=if hasB l x then (find l x:Int) else 0
def skipB (m n:Int):Bool:=decide (0≤n∧n≤2147483648 - m)
def skipM (m n:Int):Int:=if skipB m n then m+n else m
theorem getD_set (l:List Int) (i j:Nat) (x:Int):(l.set i x).getD j 0=if i=j∧j<l.length then x else l.getD j 0:=by
 simp only[List.getD_eq_getElem?_getD,List.getElem?_set]
 by_cases h:i=j
 ·subst h
  by_cases h2:i<l.length
  ·simp[h2]
  ·simp[h2]
 ·simp[h]
theorem of_getD {l:List Int} {p:Int→Prop} (h: ∀j,j<l.length→p (l.getD j 0)): ∀x∈l,p x:=by
 intro x hx
 obtain⟨k,hk,e⟩:=mem_getD hx
 exact e ▸ h k hk
section
variable {l:List Int} {m:Int}
theorem TabOk.lo' (h:TabOk l m) {j:Nat} (hj:j<l.length):0≤l.getD j 0:=h.lo _ (getD_mem hj)
theorem TabOk.hi' (h:TabOk l m) {j:Nat} (hj:j<l.length):l.getD j 0≤m:=h.hi _ (getD_mem hj)
theorem TabOk.new {n:Nat} (h1:1≤n) (h2:n≤64):TabOk (List.replicate n 0) 0 where
 n1:=by simpa using h1
 n64:=by simpa using h2
 lo:=fun x hx=>by rw[(List.mem_replicate.1 hx).2];omega
 hi:=fun x hx=>by rw[(List.mem_replicate.1 hx).2];omega
 uniq:=fun i j hi _ _ hne=>absurd (by simp at hi;simp[List.getD_eq_getElem?_getD,hi]) hne
 m0:=by omega
 mM:=by omega
theorem TabOk.add (h:TabOk l m):TabOk (addL l m) (addM l m):=by
 unfold addL addM
 split
 ·rename_i hb
  have hb':find l 0<l.length∧m<2147483648:=by simpa[addB] using hb
  have hm:=h.m0
  refine⟨by rw[List.length_set];exact h.n1,by rw[List.length_set];exact h.n64,of_getD ?_,of_getD ?_,?_,by omega,by omega⟩
  ·intro j hj
   rw[List.length_set] at hj
   rw[getD_set]
   split
   ·omega
   ·exact h.lo' hj
  ·intro j hj
   rw[List.length_set] at hj
   rw[getD_set]
   split
   ·omega
   ·have:=h.hi' hj;omega
  ·intro i j hi hj he hne
   rw[List.length_set] at hi hj
   rw[getD_set,getD_set] at he
   rw[getD_set] at hne
   by_cases h1:find l 0=i<;>by_cases h2:find l 0=j
   ·omega
   ·rw[if_pos ⟨h1,hi⟩,if_neg (fun hh=>h2 hh.1)] at he
    have:=h.hi' hj;omega
   ·rw[if_neg (fun hh=>h1 hh.1),if_pos ⟨h2,hj⟩] at he
    have:=h.hi' hi;omega
   ·rw[if_neg (fun hh=>h1 hh.1),if_neg (fun hh=>h2 hh.1)] at he
    rw[if_neg (fun hh=>h1 hh.1)] at hne
    exact h.uniq i j hi hj he hne
 ·exact h
theorem TabOk.drop (h:TabOk l m) (x:Int):TabOk (dropL l x) m:=by
 unfold dropL
 split
 ·have hm:=h.m0
  refine⟨by rw[List.length_set];exact h.n1,by rw[List.length_set];exact h.n64,of_getD ?_,of_getD ?_,?_,h.m0,h.mM⟩
  ·intro j hj
   rw[List.length_set] at hj
   rw[getD_set]
   split
   ·omega
   ·exact h.lo' hj
  ·intro j hj
   rw[List.length_set] at hj
   rw[getD_set]
   split
   ·omega
   ·exact h.hi' hj
  ·intro i j hi hj he hne
   rw[List.length_set] at hi hj
   rw[getD_set,getD_set] at he
   rw[getD_set] at hne
   by_cases h1:find l x=i
   ·rw[if_pos ⟨h1,hi⟩] at hne;omega
   ·rw[if_neg (fun hh=>h1 hh.1)] at he hne
    by_cases h2:find l x=j
    ·rw[if_pos ⟨h2,hj⟩] at he;omega
    ·rw[if_neg (fun hh=>h2 hh.1)] at he
     exact h.uniq i j hi hj he hne
 ·exact h
theorem TabOk.skip (h:TabOk l m) (n:Int):TabOk l (skipM m n):=by
 unfold skipM
 split
 ·rename_i hb
  have hb':0≤n∧n≤2147483648 - m:=by simpa[skipB] using hb
  have hm:=h.m0
  exact⟨h.n1,h.n64,h.lo,fun x hx=>by have:=h.hi x hx;omega,h.uniq,by omega,by omega⟩
 ·exact h
theorem TabOk.ids (h:TabOk l m):rIds l=idsN l:=rIds_eq h.lo
theorem atI_slot (l:List Int) (x:Int) (h:hasB l x=true):slotI l x=(find l x:Int):=by
 have:find l x<l.length∧x≠0:=by simpa[hasB] using h
 unfold slotI
 rw[if_pos this.1]
end
end Go.Proofs.YtohifgjeebhijaaGreatDoor
