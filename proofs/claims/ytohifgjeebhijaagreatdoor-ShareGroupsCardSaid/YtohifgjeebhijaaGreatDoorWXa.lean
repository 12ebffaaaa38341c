/-
  What this claim needs; no condition of its own. Told short by a script from longer texts.
-/
import Derived.Lib.Hide
import Derived.Test.YtohifgjeebhijaaGreatDoorWRq
namespace Go.Proofs.YtohifgjeebhijaaGreatDoor
structure Gr where
 id:Int
 pa:Int
 wt:Int
 me:Int
 aw:Int
def g0:Gr:=⟨0,0,0,0,0⟩
def pos:List Gr→Int→Nat
 | [],_=>0
 | g::r,x=>if g.id=x then 0 else pos r x+1
def has (L:List Gr) (x:Int):Bool:=decide (pos L x<L.length)
def gr (L:List Gr) (x:Int):Gr:=L.getD (pos L x) g0
def idsG (L:List Gr):List Int:=L.map Gr.id
def path (L:List Gr):Nat→Int→List Int
 | 0,_=>[]
 | n+1,x=>if has L x then x::path L n (gr L x).pa else []
def pth (L:List Gr) (x:Int):List Int:=path L 9 x
def dep (L:List Gr) (x:Int):Int:=(pth L x).length
def topI (L:List Gr) (x:Int):Int:=(pth L x).getD ((pth L x).length - 1) 0
def belowB (L:List Gr) (x t:Int):Bool:=decide (t∈pth L x)
def kids (L:List Gr) (x:Int):List Int:=(L.filter fun g=>g.pa==x).map Gr.id
def fanI (L:List Gr) (x:Int):Int:=((kids L x).length:Int)+(gr L x).me
def deepB (L:List Gr) (x p:Int):Bool:=L.any fun g=>belowB L g.id x&&decide (8<dep L g.id - dep L x+dep L p+1)
theorem pos_le: ∀(L:List Gr) (x:Int),pos L x≤L.length
 | [],_=>Nat.le_refl _
 | g::r,x=>by
  unfold pos
  have:=pos_le r x
  split
  ·omega
  ·simp only[List.length_cons];omega
theorem pos_id: ∀ {L:List Gr} {x:Int},pos L x<L.length→(L.getD (pos L x) g0).id=x
 | [],_,h=>by simp[pos] at h
 | g::r,x,h=>by
  unfold pos at h ⊢
  split
  ·rename_i e;simpa using e
  ·rename_i e
   rw[if_neg e] at h
   simp only[List.length_cons] at h
   have:=pos_id (L:=r) (x:=x) (by omega)
   simpa using this
theorem pos_before: ∀ {L:List Gr} {x:Int} {j:Nat},j<pos L x→(L.getD j g0).id≠x
 | [],_,_,h=>by simp[pos] at h
 | g::r,x,j,h=>by
  unfold pos at h
  split at h
  ·omega
  ·rename_i e
   cases j with
   | zero=>simpa using e
   | succ j=>simpa using pos_before (L:=r) (x:=x) (j:=j) (by omega)
theorem getD_memG {L:List Gr} {k:Nat} (h:k<L.length):L.getD k g0∈L:=by
 simp[List.getD,h]
theorem mem_getDG {L:List Gr} {g:Gr} (h:g∈L): ∃k,k<L.length∧L.getD k g0=g:=by
 obtain⟨k,hk,e⟩:=List.getElem_of_mem h
 exact⟨k,hk,by simp[List.getD,hk,e]⟩
theorem pos_hit {L:List Gr} {x:Int} {k:Nat} (hk:k<L.length) (he:(L.getD k g0).id=x) (hb: ∀j,j<k→(L.getD j g0).id≠x):pos L x=k:=by
 rcases Nat.lt_trichotomy (pos L x) k with h | h | h
 ·exact absurd (pos_id (by omega)) (hb _ h)
 ·exact h
 ·exact absurd he (pos_before h)
theorem pos_none {L:List Gr} {x:Int} (hb: ∀j,j<L.length→(L.getD j g0).id≠x):pos L x=L.length:=by
 have:=pos_le L x
 by_cases h:pos L x<L.length
 ·exact absurd (pos_id h) (hb _ h)
 ·omega
theorem has_iff {L:List Gr} {x:Int}:has L x=true↔∃g∈L,g.id=x:=by
 unfold has
 rw[decide_eq_true_iff]
 constructor
 ·intro h;exact⟨_,getD_memG h,pos_id h⟩
 ·rintro⟨g,hg,e⟩
  obtain⟨k,hk,rfl⟩:=mem_getDG hg
  apply Classical.byContradiction
  intro hn
  have:=pos_le L x
  have:k<pos L x:=by omega
  exact pos_before this e
theorem has_ids {L:List Gr} {x:Int}:has L x=true↔x∈idsG L:=by
 rw[has_iff]
 simp[idsG]
theorem has_pos {L:List Gr} {x:Int} (h:has L x=true):pos L x<L.length:=by simpa[has] using h
theorem gr_mem {L:List Gr} {x:Int} (h:has L x=true):gr L x∈L:=getD_memG (has_pos h)
theorem gr_id {L:List Gr} {x:Int} (h:has L x=true):(gr L x).id=x:=pos_id (has_pos h)
theorem has_mem {L:List Gr} {g:Gr} (h:g∈L):has L g.id=true:=has_iff.2 ⟨g,h,rfl⟩
structure Ok (L:List Gr) (m k:Int):Prop where
 rise:(idsG L).Pairwise (· < ·)
 lo: ∀g∈L,1≤g.id
 hi: ∀g∈L,g.id≤m
 m0:0≤m
 mle:m≤k
 k1:k≤1000
 par: ∀g∈L,g.pa= -1∨has L g.pa=true
 num: ∀g∈L,0≤g.aw∧g.aw≤g.me∧g.me≤k∧1≤g.wt∧g.wt≤10000
 deep: ∀x,(pth L x).length≤8
 n64:L.length≤64
theorem nodup_rise {l:List Int} (h:l.Pairwise (· < ·)):l.Nodup:=h.imp fun h=>by omega
theorem gr_of {L:List Gr} (hr:(idsG L).Pairwise (· < ·)) {g:Gr} (h:g∈L):gr L g.id=g:=by
 obtain⟨k,hk,e⟩:=mem_getDG h
 have:pos L g.id=k:=pos_hit hk (by rw[e]) fun j hj e2=>by
  have h1:=List.pairwise_iff_getElem.1 hr j k (by simp[idsG];omega) (by simp[idsG];omega) hj
  simp only[idsG,List.getElem_map] at h1
  have a1:L.getD j g0=L[j]'(by omega):=by simp[List.getD,show j<L.length by omega]
  have a2:L.getD k g0=L[k]:=by simp[List.getD,hk]
  rw[a1] at e2
  rw[a2] at e
  rw[e] at h1
  omega
 unfold gr
 rw[this,e]
theorem path_more {L:List Gr}: ∀ {n:Nat} {x:Int},(path L n x).length<n→path L (n+1) x=path L n x
 | 0,_,h=>absurd h (Nat.not_lt_zero _)
 | n+1,x,h=>by
  unfold path at h ⊢
  split
  ·rename_i hx
   rw[if_pos hx] at h
   simp only[List.length_cons] at h
   rw[path_more (by omega)]
  ·rfl
section
variable {L:List Gr} {m k:Int}
theorem pth_yes (ok: ∀x,(pth L x).length≤8) {x:Int} (h:has L x=true):pth L x=x::pth L (gr L x).pa:=by
 have:=path_more (L:=L) (n:=9) (x:=x) (by have:=ok x;unfold pth at this;omega)
 unfold pth
 rw[←this]
 conv=>lhs;unfold path
 rw[if_pos h]
theorem pth_no {x:Int} (h:has L x=false):pth L x=[]:=by
 unfold pth path
 simp[h]
theorem Ok.low (ok:Ok L m k) {x:Int} (h:x<1):has L x=false:=by
 cases hx:has L x with
 | false=>rfl
 | true=>
  have:=ok.lo _ (gr_mem hx)
  rw[gr_id hx] at this
  omega
theorem Ok.high (ok:Ok L m k) {x:Int} (h:m<x):has L x=false:=by
 cases hx:has L x with
 | false=>rfl
 | true=>
  have:=ok.hi _ (gr_mem hx)
  rw[gr_id hx] at this
  omega
theorem Ok.id (ok:Ok L m k) {x:Int} (h:has L x=true):1≤x∧x≤m:=by
 have h1:=ok.lo _ (gr_mem h)
 have h2:=ok.hi _ (gr_mem h)
 rw[gr_id h] at h1 h2
 exact⟨h1,h2⟩
theorem Ok.pa (ok:Ok L m k) {x:Int} (h:has L x=true):(gr L x).pa= -1∨has L (gr L x).pa=true:=ok.par _ (gr_mem h)
theorem Ok.pa_lt (ok:Ok L m k) {x:Int} (h:has L x=true): -1≤(gr L x).pa∧(gr L x).pa≤m:=by
 rcases ok.pa h with e | e
 ·have:=ok.m0;omega
 ·have:=ok.id e;omega
theorem Ok.yes (ok:Ok L m k) {x:Int} (h:has L x=true):pth L x=x::pth L (gr L x).pa:=pth_yes ok.deep h
theorem pth_trans (hd: ∀x,(pth L x).length≤8): ∀ {n:Nat} {x t s:Int},(pth L x).length≤n→t∈pth L x→s∈pth L t→s∈pth L x
 | 0,x,t,s,hn,h,_=>by
  have:pth L x=[]:=List.length_eq_zero_iff.1 (by omega)
  rw[this] at h;simp at h
 | n+1,x,t,s,hn,h,h'=>by
  cases hx:has L x with
  | false=>rw[pth_no hx] at h;simp at h
  | true=>
   have e:=pth_yes hd hx
   rw[e] at h hn ⊢
   simp only[List.length_cons] at hn
   rcases List.mem_cons.1 h with rfl | h
   ·rwa [←e]
   ·exact List.mem_cons_of_mem _ (pth_trans hd (n:=n) (by omega) h h')
theorem Ok.trans (ok:Ok L m k) {x t s:Int} (h:t∈pth L x) (h':s∈pth L t):s∈pth L x:=pth_trans ok.deep (Nat.le_refl _) h h'
theorem pth_len (hd: ∀x,(pth L x).length≤8): ∀ {n:Nat} {x t:Int},(pth L x).length≤n→t∈pth L x→(pth L t).length≤(pth L x).length
 | 0,x,t,hn,h=>by
  have:pth L x=[]:=List.length_eq_zero_iff.1 (by omega)
  rw[this] at h;simp at h
 | n+1,x,t,hn,h=>by
  cases hx:has L x with
  | false=>rw[pth_no hx] at h;simp at h
  | true=>
   have e:=pth_yes hd hx
   rw[e] at h hn
   simp only[List.length_cons] at hn
   rcases List.mem_cons.1 h with rfl | h
   ·exact Nat.le_refl _
   ·have:=pth_len hd (n:=n) (by omega) h
    rw[e,List.length_cons];omega
theorem Ok.plen (ok:Ok L m k) {x t:Int} (h:t∈pth L x):(pth L t).length≤(pth L x).length:=pth_len ok.deep (Nat.le_refl _) h
theorem Ok.self (ok:Ok L m k) {x:Int} (h:has L x=true):x∈pth L x:=by rw[ok.yes h];simp
theorem Ok.dep (ok:Ok L m k) {x:Int} (h:has L x=true):dep L x=dep L (gr L x).pa+1:=by
 unfold Proofs.YtohifgjeebhijaaGreatDoor.dep
 rw[ok.yes h,List.length_cons];omega
theorem Ok.dep8 (ok:Ok L m k) (x:Int):0≤Proofs.YtohifgjeebhijaaGreatDoor.dep L x∧Proofs.YtohifgjeebhijaaGreatDoor.dep L x≤8:=by
 have:=ok.deep x
 unfold Proofs.YtohifgjeebhijaaGreatDoor.dep
 omega
theorem Ok.notUp (ok:Ok L m k) {x:Int} (h:has L x=true):x∉pth L (gr L x).pa:=by
 intro hx
 have h1:=ok.plen hx
 rw[ok.yes h,List.length_cons] at h1
 omega
theorem Ok.top_end (ok:Ok L m k) {x:Int} (h:has L x=true) (hp:(gr L x).pa= -1):topI L x=x:=by
 unfold topI
 rw[ok.yes h,hp,pth_no (ok.low (by omega))]
 rfl
theorem Ok.top_step (ok:Ok L m k) {x:Int} (h:has L x=true) (hp:has L (gr L x).pa=true):topI L x=topI L (gr L x).pa:=by
 unfold topI
 rw[ok.yes h,ok.yes hp]
 simp only[List.length_cons,Nat.add_sub_cancel,List.getD_cons_succ]
theorem Ok.top_mem (ok:Ok L m k) {x:Int} (h:has L x=true):topI L x∈pth L x:=by
 unfold topI
 rw[ok.yes h]
 have:(x::pth L (gr L x).pa).length - 1<(x::pth L (gr L x).pa).length:=by simp
 simp only[List.getD,List.getElem?_eq_getElem this,Option.getD_some]
 exact List.getElem_mem _
theorem Ok.below_step (ok:Ok L m k) {x:Int} (h:has L x=true) (t:Int):belowB L x t=(decide (x=t)||belowB L (gr L x).pa t):=by
 unfold belowB
 rw[ok.yes h]
 by_cases e:x=t
 ·subst e;simp
 ·have: ¬t=x:=fun h=>e h.symm
  simp[e,this]
theorem below_no {x:Int} (h:has L x=false) (t:Int):belowB L x t=false:=by
 unfold belowB
 rw[pth_no h];simp
end
theorem path_same {L L':List Gr} (h1: ∀x,has L' x=has L x) (h2: ∀x,has L x=true→(gr L' x).pa=(gr L x).pa): ∀(n:Nat) (x:Int),path L' n x=path L n x
 | 0,_=>rfl
 | n+1,x=>by
  unfold path
  rw[h1]
  cases hx:has L x with
  | false=>rfl
  | true=>
   simp only[if_true]
   rw[h2 x hx,path_same h1 h2 n]
def setG (L:List Gr) (x:Int) (g:Gr):List Gr:=L.set (pos L x) g
def addG (L:List Gr) (m pa wt:Int):List Gr:=L++[⟨m+1,pa,wt,0,0⟩]
def delG (L:List Gr) (x:Int):List Gr:=L.take (pos L x)++L.drop (pos L x+1)
theorem pos_ids: ∀ {L L':List Gr},idsG L'=idsG L→∀x,pos L' x=pos L x
 | [],[],_,_=>rfl
 | [],_::_,h,_=>by simp[idsG] at h
 | _::_,[],h,_=>by simp[idsG] at h
 | a::L,b::L',h,x=>by
  simp only[idsG,List.map_cons,List.cons.injEq] at h
  unfold pos
  rw[h.1,pos_ids (L:=L) (L':=L') h.2]
theorem setG_ids {L:List Gr} {x:Int} {g:Gr} (hg:g.id=x):idsG (setG L x g)=idsG L:=by
 unfold idsG setG
 rw[List.map_set]
 by_cases h:pos L x<L.length
 ·apply List.ext_getElem
  ·simp
  ·intro i h1 h2
   rw[List.getElem_set]
   split
   ·rename_i e
    subst e
    have h5:(L[pos L x]).id=x:=by simpa[List.getD,h] using pos_id h
    simp only[List.getElem_map]
    rw[hg]
    exact h5.symm
   ·rfl
 ·rw[List.set_eq_of_length_le (by simp;omega)]
theorem setG_has {L:List Gr} {x:Int} {g:Gr} (hg:g.id=x) (y:Int):has (setG L x g) y=has L y:=by
 unfold has
 rw[pos_ids (setG_ids hg)]
 simp[setG]
theorem setG_gr {L:List Gr} {x:Int} {g:Gr} (hg:g.id=x) (hx:has L x=true) (y:Int):gr (setG L x g) y=if y=x then g else gr L y:=by
 unfold gr
 rw[pos_ids (setG_ids hg)]
 split
 ·rename_i e
  subst e
  simp[setG,List.getD,has_pos hx]
 ·rename_i e
  unfold setG
  simp only[List.getD_eq_getElem?_getD,List.getElem?_set]
  split
  ·rename_i e2
   cases hy:has L y with
   | true=>
    have h1:=gr_id hy
    have h2:=gr_id hx
    unfold gr at h1 h2
    rw[←e2] at h1
    exact absurd (h1.symm.trans h2) e
   | false=>
    have: ¬pos L y<L.length:=by simpa[has] using hy
    exact absurd (has_pos hx) (by omega)
  ·rfl
theorem setG_mem {L:List Gr} {x:Int} {g y:Gr} (h:y∈setG L x g):y=g∨y∈L:=by
 unfold setG at h
 rcases List.mem_or_eq_of_mem_set h with h | h
 ·exact .inr h
 ·exact .inl h
theorem kids_eq {L:List Gr} {m k:Int} (ok:Ok L m k) (x:Int):kids L x=(idsG L).filter fun y=>(gr L y).pa==x:=by
 unfold kids idsG
 rw[List.filter_map]
 congr 1
 apply List.filter_congr
 intro g hg
 simp only[Function.comp]
 rw[gr_of ok.rise hg]
theorem kids_rise {L:List Gr} {m k:Int} (ok:Ok L m k) (x:Int):(kids L x).Pairwise (· < ·):=by
 rw[kids_eq ok]
 exact ok.rise.filter _
theorem kids_len (L:List Gr) (x:Int):(kids L x).length≤L.length:=by
 unfold kids
 rw[List.length_map]
 exact List.length_filter_le _ _
end Go.Proofs.YtohifgjeebhijaaGreatDoor
namespace Go.Proofs.YtohifgjeebhijaaGreatDoor
open Go.Rq
abbrev Lf:=Int×Int
abbrev lf (ls:List Lf) (i:Nat):Lf:=ls.getD i (0,0)
def bl (L:List Gr) (ls:List Lf) (g:Int):List Nat:=(List.range ls.length).filter fun i=>belowB L (lf ls i).1 g
def kl (ls:List Lf) (g:Int):List Nat:=(List.range ls.length).filter fun i=>(lf ls i).1==g
def many (L:List Gr) (ls:List Lf) (g:Int):Nat:=(ls.filter fun x=>belowB L x.1 g).length
def kg (L:List Gr) (ls:List Lf) (g:Int):List Int:=(kids L g).filter fun y=>decide (0<many L ls y)
def kidG (L:List Gr) (ls:List Lf) (y:Int):Kid:=((gr L y).wt.toNat,many L ls y)
def kidL (ls:List Lf) (i:Nat):Kid:=((lf ls i).2.toNat,1)
def kd (L:List Gr) (ls:List Lf) (g:Int):List Kid:=(kg L ls g).map (kidG L ls)++(kl ls g).map (kidL ls)
def rateN (L:List Gr) (ls:List Lf) (root:Int) (x:Rat):Nat→Int→Rat
 | 0,_=>0
 | n+1,g=>if g=root then x else given (docLevel (rateN L ls root x n (gr L g).pa) (kd L ls (gr L g).pa)) (kidG L ls g)
def rate (L:List Gr) (ls:List Lf) (root:Int) (x:Rat) (g:Int):Rat:=rateN L ls root x 9 g
def lvl (L:List Gr) (ls:List Lf) (root:Int) (x:Rat) (g:Int):Rat:=docLevel (rate L ls root x g) (kd L ls g)
def leafR (L:List Gr) (ls:List Lf) (root:Int) (x:Rat) (i:Nat):Rat:=given (lvl L ls root x (lf ls i).1) (kidL ls i)
structure Fits (L:List Gr) (m k:Int) (ls:List Lf) (root:Int):Prop where
 ok:Ok L m k
 hr:has L root=true
 top:(gr L root).pa= -1
 below: ∀x∈ls,belowB L x.1 root=true
 wt: ∀x∈ls,1≤x.2∧x.2≤10000
 n64:ls.length≤64
def sumI {α:Type} (f:α→Rat):List α→Rat
 | []=>0
 | i::l=>f i+sumI f l
theorem sumI_append {α:Type} (f:α→Rat): ∀a b:List α,sumI f (a++b)=sumI f a+sumI f b
 | [],b=>by rw[List.nil_append];simp only[sumI];grind
 | i::a,b=>by rw[List.cons_append,sumI,sumI_append f a b,sumI];grind
theorem sumI_congr {α:Type} {f g:α→Rat}: ∀ {l:List α},(∀i∈l,f i=g i)→sumI f l=sumI g l
 | [],_=>rfl
 | i::l,h=>by rw[sumI,sumI,h i List.mem_cons_self,sumI_congr fun j hj=>h j (List.mem_cons_of_mem _ hj)]
theorem sumI_add {α:Type} (f g:α→Rat): ∀l:List α,sumI (fun i=>f i+g i) l=sumI f l+sumI g l
 | []=>by simp only[sumI];grind
 | i::l=>by rw[sumI,sumI,sumI,sumI_add f g l];grind
theorem sumI_zero {α:Type}: ∀l:List α,sumI (fun _=>(0:Rat)) l=0
 | []=>rfl
 | i::l=>by rw[sumI,sumI_zero l];grind
theorem sumI_one {α:Type}: ∀l:List α,sumI (fun _=>(1:Rat)) l=((l.length:Nat):Rat)
 | []=>by simp[sumI]
 | i::l=>by rw[sumI,sumI_one l,List.length_cons,Rat.natCast_add];grind
theorem sumI_map {α β:Type} (f:β→Rat) (g:α→β): ∀l:List α,sumI f (l.map g)=sumI (fun i=>f (g i)) l
 | []=>rfl
 | i::l=>by rw[List.map_cons,sumI,sumI,sumI_map f g l]
theorem sumI_filter {α:Type} (f:α→Rat) (p:α→Bool): ∀l:List α,sumI f (l.filter p)=sumI (fun i=>if p i=true then f i else 0) l
 | []=>rfl
 | i::l=>by
  rw[List.filter_cons,sumI]
  split
  ·rw[sumI,sumI_filter f p l]
  ·rw[sumI_filter f p l];grind
theorem sumI_skip {α:Type} (f:α→Rat) (p:α→Bool): ∀ {l:List α},(∀i∈l,p i=false→f i=0)→sumI f (l.filter p)=sumI f l
 | [],_=>rfl
 | i::l,h=>by
  have ih:=sumI_skip f p (l:=l) fun j hj=>h j (List.mem_cons_of_mem _ hj)
  rw[List.filter_cons,sumI]
  split
  ·rw[sumI,ih]
  ·rename_i hp
   rw[ih,h i List.mem_cons_self (by simpa using hp)];grind
theorem sumI_swap {α β:Type} (f:α→β→Rat): ∀(a:List α) (b:List β),sumI (fun i=>sumI (fun j=>f i j) b) a=sumI (fun j=>sumI (fun i=>f i j) a) b
 | [],b=>by simp only[sumI];rw[sumI_zero]
 | i::a,b=>by
  rw[sumI,sumI_swap f a b,←sumI_add]
  rfl
theorem sumI_nonneg {α:Type} {f:α→Rat}: ∀ {l:List α},(∀i∈l,0≤f i)→0≤sumI f l
 | [],_=>Rat.le_refl
 | i::l,h=>by
  have h1:=h i List.mem_cons_self
  have h2:=sumI_nonneg (l:=l) fun j hj=>h j (List.mem_cons_of_mem _ hj)
  rw[sumI];grind
theorem sumI_single {α:Type} [DecidableEq α] (x:α) (c:Rat): ∀ {l:List α},l.Nodup→sumI (fun y=>if y=x then c else 0) l=if x∈l then c else 0
 | [],_=>by simp[sumI]
 | i::l,h=>by
  rw[List.nodup_cons] at h
  rw[sumI,sumI_single x c h.2]
  by_cases e:i=x
  ·subst e;rw[if_pos rfl,if_neg h.1,if_pos List.mem_cons_self];grind
  ·rw[if_neg e]
   have:(x∈i::l)↔(x∈l):=by simp[List.mem_cons,Ne.symm e]
   simp only[this];grind
theorem sum_sumI (l:Rat): ∀ks:List Kid,sum l ks=sumI (given l) ks
 | []=>rfl
 | k::ks=>by rw[sum,sumI,sum_sumI l ks]
theorem caps_sumI: ∀ks:List Kid,((caps ks:Nat):Rat)=sumI (fun k=>((k.2:Nat):Rat)) ks
 | []=>by simp[caps,sumI]
 | k::ks=>by rw[caps,sumI,Rat.natCast_add,caps_sumI ks]
theorem range_map {α:Type} (d:α): ∀l:List α,(List.range l.length).map (fun i=>l.getD i d)=l:=by
 intro l
 apply List.ext_getElem
 ·simp
 ·intro i h1 h2
  simp only[List.getElem_map,List.getElem_range]
  rw[List.getD_eq_getElem?_getD,List.getElem?_eq_getElem h2];rfl
theorem bl_len (L:List Gr) (ls:List Lf) (g:Int):(bl L ls g).length=many L ls g:=by
 unfold many bl
 conv=>rhs;rw[←range_map ((0,0):Lf) ls,List.filter_map,List.length_map]
 rfl
theorem many_sumI (L:List Gr) (ls:List Lf) (g:Int):((many L ls g:Nat):Rat)=sumI (fun _=>(1:Rat)) (bl L ls g):=by rw[sumI_one,bl_len]
theorem many_le (L:List Gr) (ls:List Lf) (g:Int):many L ls g≤ls.length:=List.length_filter_le _ _
theorem lf_mem {ls:List Lf} {i:Nat} (h:i<ls.length):lf ls i∈ls:=by
 unfold lf
 rw[List.getD_eq_getElem?_getD,List.getElem?_eq_getElem h]
 exact List.getElem_mem h
section
variable {L:List Gr} {m k:Int}
theorem kids_mem (ok:Ok L m k) {x g:Int}:x∈kids L g↔has L x=true∧(gr L x).pa=g:=by
 rw[kids_eq ok,List.mem_filter,←has_ids]
 simp
theorem kids_nodup (ok:Ok L m k) (g:Int):(kids L g).Nodup:=nodup_rise (kids_rise ok g)
theorem below_kids (ok:Ok L m k) {g:Int} (hg:has L g=true) (c:Rat): ∀(n:Nat) (x:Int),(pth L x).length≤n→sumI (fun y=>if belowB L x y=true then c else 0) (kids L g)=if belowB L x g=true∧x≠g then c else 0
 | n,x,hn=>by
  cases hx:has L x with
  | false=>
   rw[sumI_congr (g:=fun _=>0) (fun y _=>by rw[below_no hx];rfl),sumI_zero,below_no hx];simp
  | true=>
   have hp:=ok.yes hx
   have hup:=ok.notUp hx
   cases n with
   | zero=>rw[hp] at hn;simp at hn
   | succ n=>
    have ih:=below_kids ok hg c n (gr L x).pa (by rw[hp] at hn;simpa using hn)
    have h1: ∀y∈kids L g,(if belowB L x y=true then c else 0)=(if y=x then c else 0)+(if belowB L (gr L x).pa y=true then c else 0):=by
     intro y _
     by_cases e:y=x
     ·subst e
      have e1:belowB L y y=true:=by unfold belowB;exact decide_eq_true (ok.self hx)
      have e2:belowB L (gr L y).pa y=false:=by unfold belowB;exact decide_eq_false hup
      rw[e1,e2];simp;grind
     ·have e1:belowB L x y=belowB L (gr L x).pa y:=by
       rw[ok.below_step hx,decide_eq_false (fun h=>e h.symm),Bool.false_or]
      rw[e1,if_neg e];grind
    rw[sumI_congr h1,sumI_add,ih,sumI_single x c (kids_nodup ok g)]
    have hk:(x∈kids L g)↔((gr L x).pa=g):=by rw[kids_mem ok];simp[hx]
    simp only[hk]
    by_cases e:x=g
    ·subst e
     have e2:belowB L (gr L x).pa x=false:=by unfold belowB;exact decide_eq_false hup
     have e3: ¬(gr L x).pa=x:=by
      intro h
      apply hup
      rw[h];exact ok.self hx
     rw[e2,if_neg e3];simp;grind
    ·have e1:belowB L x g=belowB L (gr L x).pa g:=by
      rw[ok.below_step hx,decide_eq_false e,Bool.false_or]
     by_cases e4:(gr L x).pa=g
     ·have e5:belowB L (gr L x).pa g=true:=by rw[e4];unfold belowB;exact decide_eq_true (ok.self hg)
      rw[if_pos e4,e1,e5];simp[e4,e];grind
     ·rw[if_neg e4,e1];simp[e4,e];grind
theorem sum_split (ok:Ok L m k) {g:Int} (hg:has L g=true) (ls:List Lf) (f:Nat→Rat):sumI f (bl L ls g)=sumI f (kl ls g)+sumI (fun y=>sumI f (bl L ls y)) (kids L g):=by
 unfold bl kl
 rw[sumI_congr (l:=kids L g) (fun y _=>sumI_filter f (fun i=>belowB L (lf ls i).1 y) (List.range ls.length)),←sumI_swap (fun i y=>if belowB L (lf ls i).1 y=true then f i else 0),
  sumI_filter,sumI_filter,←sumI_add]
 apply sumI_congr
 intro i _
 rw[below_kids ok hg (f i) _ _ (Nat.le_refl _)]
 by_cases e:(lf ls i).1=g
 ·have:belowB L g g=true:=by unfold belowB;exact decide_eq_true (ok.self hg)
  rw[if_pos (by rw[e];exact this),if_pos (beq_iff_eq.2 e),if_neg (fun h=>h.2 e)];grind
 ·by_cases e2:belowB L (lf ls i).1 g=true
  ·rw[if_pos e2,if_neg (fun h=>e (beq_iff_eq.1 h)),if_pos ⟨e2,e⟩];grind
  ·rw[if_neg e2,if_neg (fun h=>e (beq_iff_eq.1 h)),if_neg (fun h=>e2 h.1)];grind
end
end Go.Proofs.YtohifgjeebhijaaGreatDoor
namespace Go.Proofs.YtohifgjeebhijaaGreatDoor
open Go.Rq
section
variable {L:List Gr} {ls:List Lf} {root:Int}
theorem below_has {g:Int} (h:belowB L g root=true):has L g=true:=by
 cases hg:has L g with
 | true=>rfl
 | false=>rw[below_no hg] at h;cases h
theorem rate_root (x:Rat):rate L ls root x root=x:=by
 unfold rate
 rw[rateN,if_pos rfl]
theorem kg_sum {g:Int} (f:Int→Rat) (h: ∀y∈kids L g,many L ls y=0→f y=0):sumI f (kg L ls g)=sumI f (kids L g):=by
 unfold kg
 exact sumI_skip f _ fun y hy hp=>h y hy (by simpa using hp)
theorem lvl_pos {x l:Rat} {ks:List Kid} (h:IsLevel x l ks) (hx:0<x):0<l:=by
 have h1:=h.nonneg
 by_cases e:l=0
 ·subst e
  have h2:=h.eq
  rw[sum_zero] at h2
  grind
 ·grind
theorem given_pos {l:Rat} (h:0<l) {c:Kid} (h1:c.1≠0) (h2:0<c.2):0<given l c:=by
 unfold given
 have h3:(0:Rat)<(c.2:Rat):=pos_cast (by omega)
 split
 ·exact h3
 ·exact Rat.mul_pos h (pos_cast h1)
theorem kl_mem {i:Nat} {g:Int}:i∈kl ls g↔i<ls.length∧(lf ls i).1=g:=by
 unfold kl
 rw[List.mem_filter,List.mem_range,beq_iff_eq]
end
section
variable {L:List Gr} {m k:Int} {ls:List Lf} {root:Int} (F:Fits L m k ls root)
include F
theorem Fits.up {g:Int} (h:belowB L g root=true) (hne: ¬g=root):belowB L (gr L g).pa root=true:=by
 rw[F.ok.below_step (below_has h),decide_eq_false hne,Bool.false_or] at h
 exact h
theorem Fits.self:belowB L root root=true:=by
 unfold belowB
 exact decide_eq_true (F.ok.self F.hr)
theorem Fits.kid {y g:Int} (hg:belowB L g root=true) (hy:y∈kids L g):belowB L y root=true∧¬y=root∧(gr L y).pa=g∧has L y=true:=by
 have h:=(kids_mem F.ok).1 hy
 have hgh:=below_has hg
 have hne: ¬y=root:=by
  rintro rfl
  have h1:=F.ok.id hgh
  have h2:=F.top
  rw[h.2] at h2
  omega
 refine⟨?_,hne,h.2,h.1⟩
 rw[F.ok.below_step h.1,decide_eq_false hne,Bool.false_or,h.2]
 exact hg
theorem Fits.grp {i:Nat} (hi:i<ls.length):belowB L (lf ls i).1 root=true:=F.below _ (lf_mem hi)
theorem rateN_more (x:Rat): ∀(n:Nat) (g:Int),belowB L g root=true→(pth L g).length≤n→rateN L ls root x n g=rateN L ls root x (n+1) g
 | n,g,hb,hn=>by
  have hg:=below_has hb
  have hp:=F.ok.yes hg
  cases n with
  | zero=>rw[hp] at hn;simp at hn
  | succ n=>
   rw[rateN,rateN]
   by_cases e:g=root
   ·rw[if_pos e,if_pos e]
   ·rw[if_neg e,if_neg e,rateN_more x n (gr L g).pa (F.up hb e) (by rw[hp] at hn;simpa using hn)]
theorem rate_step (x:Rat) {g:Int} (hb:belowB L g root=true) (hne: ¬g=root):rate L ls root x g=given (lvl L ls root x (gr L g).pa) (kidG L ls g):=by
 have hup:=F.up hb hne
 have hd:=F.ok.deep g
 rw[F.ok.yes (below_has hb)] at hd
 unfold lvl
 have e:rate L ls root x (gr L g).pa=rateN L ls root x 8 (gr L g).pa:=(rateN_more F x 8 _ hup (by simp at hd;omega)).symm
 rw[e]
 unfold rate
 rw[rateN,if_neg hne]
theorem many_root:many L ls root=ls.length:=by
 unfold many
 rw[List.filter_eq_self.2 fun x hx=>F.below x hx]
theorem kd_ok (g:Int): ∀c∈kd L ls g,c.1≠0∧c.1≤10000∧c.2≤64∧0<c.2:=by
 intro c hc
 unfold kd at hc
 rcases List.mem_append.1 hc with h | h
 ·obtain⟨y,hy,rfl⟩:=List.mem_map.1 h
  unfold kg at hy
  have h1:=List.mem_filter.1 hy
  have h2:=(kids_mem F.ok).1 h1.1
  have h3:=F.ok.num _ (gr_mem h2.1)
  have h4:=many_le L ls y
  have h5:=F.n64
  have h6:=of_decide_eq_true h1.2
  unfold kidG
  refine⟨by show (gr L y).wt.toNat≠0;omega,by show (gr L y).wt.toNat≤10000;omega,by show many L ls y≤64;omega,h6⟩
 ·obtain⟨i,hi,rfl⟩:=List.mem_map.1 h
  unfold kl at hi
  have h1:=List.mem_range.1 (List.mem_filter.1 hi).1
  have h2:=F.wt _ (lf_mem h1)
  unfold kidL
  refine⟨by show (lf ls i).2.toNat≠0;omega,by show (lf ls i).2.toNat≤10000;omega,by show 1≤64;omega,by show 0<1;omega⟩
theorem kd_good (g:Int):Good (kd L ls g):=fun c hc=>(kd_ok F g c hc).1
theorem kd_caps {g:Int} (hg:has L g=true):caps (kd L ls g)=many L ls g:=by
 have h:((caps (kd L ls g):Nat):Rat)=((many L ls g:Nat):Rat):=by
  rw[caps_sumI,many_sumI,sum_split F.ok hg,kd,sumI_append,sumI_map,sumI_map]
  have h1:sumI (fun i=>(((kidG L ls i).2:Nat):Rat)) (kg L ls g)=sumI (fun y=>sumI (fun _=>(1:Rat)) (bl L ls y)) (kids L g):=by
   rw[sumI_congr (g:=fun y=>sumI (fun _=>(1:Rat)) (bl L ls y)) (fun y _=>by unfold kidG;exact many_sumI L ls y)]
   exact kg_sum _ fun y _ h0=>by rw[←many_sumI,h0];rfl
  have h2:sumI (fun i=>(((kidL ls i).2:Nat):Rat)) (kl ls g)=sumI (fun _=>(1:Rat)) (kl ls g):=sumI_congr fun i _=>rfl
  rw[h1,h2];grind
 exact Rat.natCast_inj.1 h
theorem rate_range {x:Rat} (h0:0≤x) (hx:x≤((ls.length:Nat):Rat)): ∀(n:Nat) (g:Int),belowB L g root=true→(pth L g).length≤n→0≤rate L ls root x g∧rate L ls root x g≤((many L ls g:Nat):Rat)
 | n,g,hb,hn=>by
  have hg:=below_has hb
  have hp:=F.ok.yes hg
  cases n with
  | zero=>rw[hp] at hn;simp at hn
  | succ n=>
   by_cases e:g=root
   ·subst e
    rw[rate_root,many_root F];exact⟨h0,hx⟩
   ·have ih:=rate_range h0 hx n (gr L g).pa (F.up hb e) (by rw[hp] at hn;simpa using hn)
    have hl:=doc_level (kd_good F (gr L g).pa) ih.1 (by rw[kd_caps F (below_has (F.up hb e))];exact ih.2)
    rw[rate_step F x hb e]
    exact⟨given_nonneg hl.nonneg _,given_le _ _⟩
theorem lvl_is {x:Rat} (h0:0≤x) (hx:x≤((ls.length:Nat):Rat)) {g:Int} (hb:belowB L g root=true):IsLevel (rate L ls root x g) (lvl L ls root x g) (kd L ls g):=by
 have h:=rate_range F h0 hx _ g hb (Nat.le_refl _)
 exact doc_level (kd_good F g) h.1 (by rw[kd_caps F (below_has hb)];exact h.2)
theorem many_up {g:Int} (hb:belowB L g root=true) (hne: ¬g=root) (h:0<many L ls g):0<many L ls (gr L g).pa∧g∈kg L ls (gr L g).pa:=by
 have hg:=below_has hb
 have hup:=below_has (F.up hb hne)
 have hm:g∈kg L ls (gr L g).pa:=by
  unfold kg
  exact List.mem_filter.2 ⟨(kids_mem F.ok).2 ⟨hg,rfl⟩,decide_eq_true h⟩
 refine⟨?_,hm⟩
 unfold many at h ⊢
 obtain⟨z,hz⟩:=List.exists_mem_of_length_pos h
 have h1:=List.mem_filter.1 hz
 refine List.length_pos_of_mem (a:=z) (List.mem_filter.2 ⟨h1.1,?_⟩)
 have h2:=of_decide_eq_true h1.2
 unfold belowB
 refine decide_eq_true (F.ok.trans h2 ?_)
 rw[F.ok.yes hg]
 exact List.mem_cons_of_mem _ (F.ok.self hup)
theorem rate_pos {x:Rat} (h0:0<x) (hx:x≤((ls.length:Nat):Rat)): ∀(n:Nat) (g:Int),belowB L g root=true→(pth L g).length≤n→0<many L ls g→0<rate L ls root x g
 | n,g,hb,hn,hm=>by
  have hg:=below_has hb
  have hp:=F.ok.yes hg
  cases n with
  | zero=>rw[hp] at hn;simp at hn
  | succ n=>
   by_cases e:g=root
   ·subst e
    rw[rate_root];exact h0
   ·have hu:=many_up F hb e hm
    have ih:=rate_pos h0 hx n (gr L g).pa (F.up hb e) (by rw[hp] at hn;simpa using hn) hu.1
    have hl:=lvl_is F (Rat.le_of_lt h0) hx (F.up hb e)
    rw[rate_step F x hb e]
    have hc:=kd_ok F (gr L g).pa (kidG L ls g) (List.mem_append_left _ (List.mem_map_of_mem hu.2))
    exact given_pos (lvl_pos hl ih) hc.1 hc.2.2.2
theorem many_own {i:Nat} (hi:i<ls.length):0<many L ls (lf ls i).1:=by
 unfold many
 refine List.length_pos_of_mem (a:=lf ls i) (List.mem_filter.2 ⟨lf_mem hi,?_⟩)
 unfold belowB
 exact decide_eq_true (F.ok.self (below_has (F.grp hi)))
theorem leaf_range {x:Rat} (h0:0<x) (hx:x≤((ls.length:Nat):Rat)) {i:Nat} (hi:i<ls.length):0<leafR L ls root x i∧leafR L ls root x i≤1:=by
 have hb:=F.grp hi
 have hl:=lvl_is F (Rat.le_of_lt h0) hx hb
 have hr:=rate_pos F h0 hx _ _ hb (Nat.le_refl _) (many_own F hi)
 have hc:=kd_ok F (lf ls i).1 (kidL ls i) (List.mem_append_right _ (List.mem_map_of_mem ((kl_mem).2 ⟨hi,rfl⟩)))
 refine⟨given_pos (lvl_pos hl hr) hc.1 hc.2.2.2,?_⟩
 exact given_le _ (kidL ls i)
theorem sum_rate {x:Rat} (h0:0≤x) (hx:x≤((ls.length:Nat):Rat)): ∀(n:Nat) (g:Int),belowB L g root=true→9≤(pth L g).length+n→sumI (leafR L ls root x) (bl L ls g)=rate L ls root x g
 | n,g,hb,hn=>by
  have hg:=below_has hb
  have hd:=F.ok.deep g
  cases n with
  | zero=>omega
  | succ n=>
   have hl:=lvl_is F h0 hx hb
   rw[sum_split F.ok hg,←hl.eq,kd,sum_append,sum_sumI,sum_sumI,sumI_map,sumI_map]
   have h1:sumI (fun y=>sumI (leafR L ls root x) (bl L ls y)) (kids L g)=sumI (fun y=>given (lvl L ls root x g) (kidG L ls y)) (kg L ls g):=by
    rw[kg_sum _ fun y hy h0'=>?_]
    ·apply sumI_congr
     intro y hy
     have hk:=F.kid hb hy
     rw[sum_rate h0 hx n y hk.1 (by rw[F.ok.yes hk.2.2.2,hk.2.2.1];simp;omega),rate_step F x hk.1 hk.2.1,hk.2.2.1]
    ·have h2:=given_le (lvl L ls root x g) (kidG L ls y)
     have h3:=given_nonneg hl.nonneg (kidG L ls y)
     have h4:(((kidG L ls y).2:Nat):Rat)=0:=by unfold kidG;rw[h0'];rfl
     grind
   have h2:sumI (leafR L ls root x) (kl ls g)=sumI (fun i=>given (lvl L ls root x g) (kidL ls i)) (kl ls g):=by
    apply sumI_congr
    intro i hi
    unfold leafR
    rw[((kl_mem).1 hi).2]
   rw[h1,h2];grind
end
end Go.Proofs.YtohifgjeebhijaaGreatDoor
