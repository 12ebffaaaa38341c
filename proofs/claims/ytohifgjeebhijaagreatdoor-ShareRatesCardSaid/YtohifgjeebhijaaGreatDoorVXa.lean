import Derived.Lib.Hide
import Derived.Test.YtohifgjeebhijaaGreatDoorVRq
import Derived.Test.YtohifgjeebhijaaGreatDoorVAm
namespace Go.Proofs.YtohifgjeebhijaaGreatDoor
structure Gr where
 id:Int
 pa:Int
 wt:Int
 me:Int
 aw:Int
def g0:Gr:=⟨0,0,0,0,0⟩
def pos:List Gr→Int→Nat
 | [],_=>0
 | g::r,x=>if g.id=x then 0 else pos r x+1
def has (L:List Gr) (x:Int):Bool:=decide (pos L x<L.length)
def gr (L:List Gr) (x:Int):Gr:=L.getD (pos L x) g0
def bK (L:List Gr):List Int:=L.map Gr.id
def dj (L:List Gr):Nat→Int→List Int
 | 0,_=>[]
 | n+1,x=>if has L x then x::dj L n (gr L x).pa else []
def pth (L:List Gr) (x:Int):List Int:=dj L 9 x
def dep (L:List Gr) (x:Int):Int:=(pth L x).length
def aZ (L:List Gr) (x:Int):Int:=(pth L x).getD ((pth L x).length - 1) 0
def ag (L:List Gr) (x t:Int):Bool:=decide (t∈pth L x)
def aW (L:List Gr) (x:Int):List Int:=(L.filter fun g=>g.pa==x).map Gr.id
def ce (L:List Gr) (x:Int):Int:=((aW L x).length:Int)+(gr L x).me
def dB (L:List Gr) (x p:Int):Bool:=L.any fun g=>ag L g.id x&&decide (8<dep L g.id - dep L x+dep L p+1)
theorem qJ: ∀(L:List Gr) (x:Int),pos L x≤L.length
 | [],_=>Nat.le_refl _
 | g::r,x=>by
  unfold pos;have:=qJ r x;split
  ·omega
  ·simp only[List.length_cons];omega
theorem fN: ∀ {L:List Gr} {x:Int},pos L x<L.length→(L.getD (pos L x) g0).id=x
 | [],_,h=>by simp[pos] at h
 | g::r,x,h=>by
  unfold pos at h ⊢;split
  ·rename_i e;simpa using e
  ·rename_i e;rw[if_neg e] at h;simp only[List.length_cons] at h;have:=fN (L:=r) (x:=x) A3;simpa using this
theorem gX: ∀ {L:List Gr} {x:Int} {j:Nat},j<pos L x→(L.getD j g0).id≠x
 | [],_,_,h=>by simp[pos] at h
 | g::r,x,j,h=>by
  unfold pos at h;split at h
  ·omega
  ·rename_i e;cases j with
   | zero=>simpa using e
   | succ j=>simpa using gX (L:=r) (x:=x) (j:=j) A3
theorem eX {L:List Gr} {k:Nat} (h:k<L.length):L.getD k g0∈L:=by
 simp[List.getD,h]
theorem iT {L:List Gr} {g:Gr} (h:g∈L): ∃k,k<L.length∧L.getD k g0=g:=by
 obtain⟨k,hk,e⟩:=List.getElem_of_mem h;exact⟨k,hk,by simp[List.getD,hk,e]⟩
theorem m5 {L:List Gr} {x:Int} {k:Nat} (hk:k<L.length) (he:(L.getD k g0).id=x) (hb: ∀j,j<k→(L.getD j g0).id≠x):pos L x=k:=by
 rcases Nat.lt_trichotomy (pos L x) k with h | h | h
 ·exact absurd (fN A3) (hb _ h)
 ·exact h
 ·exact absurd he (gX h)
theorem vx {L:List Gr} {x:Int} (hb: ∀j,j<L.length→(L.getD j g0).id≠x):pos L x=L.length:=by
 have:=qJ L x;by_cases h:pos L x<L.length
 ·exact absurd (fN h) (hb _ h)
 ·omega
theorem jE {L:List Gr} {x:Int}:has L x=true↔∃g∈L,g.id=x:=by
 unfold has;rw[decide_eq_true_iff];constructor
 ·intro h;exact⟨_,eX h,fN h⟩
 ·rintro⟨g,hg,e⟩;obtain⟨k,hk,rfl⟩:=iT hg;apply Classical.byContradiction;intro hn;have:=qJ L x;have:k<pos L x:=A3
  exact gX this e
theorem cN {L:List Gr} {x:Int}:has L x=true↔x∈bK L:=by
 rw[jE];simp[bK]
theorem aC {L:List Gr} {x:Int} (h:has L x=true):pos L x<L.length:=by simpa[has] using h
theorem bd {L:List Gr} {x:Int} (h:has L x=true):gr L x∈L:=eX (aC h)
theorem cV {L:List Gr} {x:Int} (h:has L x=true):(gr L x).id=x:=fN (aC h)
theorem jK {L:List Gr} {g:Gr} (h:g∈L):has L g.id=true:=jE.2 ⟨g,h,rfl⟩
structure Ok (L:List Gr) (m k:Int):Prop where
 rise:(bK L).Pairwise (· < ·)
 lo: ∀g∈L,1≤g.id
 hi: ∀g∈L,g.id≤m
 m0:0≤m
 mle:m≤k
 k1:k≤1000
 par: ∀g∈L,g.pa= -1∨has L g.pa=true
 num: ∀g∈L,0≤g.aw∧g.aw≤g.me∧g.me≤k∧1≤g.wt∧g.wt≤10000
 deep: ∀x,(pth L x).length≤8
 n64:L.length≤64
theorem dE {l:List Int} (h:l.Pairwise (· < ·)):l.Nodup:=h.imp fun h=>A3
theorem oN {L:List Gr} (hr:(bK L).Pairwise (· < ·)) {g:Gr} (h:g∈L):gr L g.id=g:=by
 obtain⟨k,hk,e⟩:=iT h;have:pos L g.id=k:=m5 hk (by rw[e]) fun j hj e2=>by
  have h1:=List.pairwise_iff_getElem.1 hr j k (by simp[bK];omega) (by simp[bK];omega) hj;simp only[bK,List.getElem_map] at h1;have a1:L.getD j g0=L[j]' A3:=by simp[List.getD,show j<L.length by omega]
  have a2:L.getD k g0=L[k]:=by simp[List.getD,hk]
  rw[a1] at e2;rw[a2] at e;rw[e] at h1;omega
 unfold gr;rw[this,e]
theorem l8 {L:List Gr}: ∀ {n:Nat} {x:Int},(dj L n x).length<n→dj L (n+1) x=dj L n x
 | 0,_,h=>absurd h (Nat.not_lt_zero _)
 | n+1,x,h=>by
  unfold dj at h ⊢;split
  ·rename_i hx;rw[if_pos hx] at h;simp only[List.length_cons] at h;rw[l8 A3]
  ·rfl
section
variable {L:List Gr} {m k:Int}
theorem jG (ok: ∀x,(pth L x).length≤8) {x:Int} (h:has L x=true):pth L x=x::pth L (gr L x).pa:=by
 have:=l8 (L:=L) (n:=9) (x:=x) (by have:=ok x;unfold pth at this;omega);unfold pth;rw[←this]
 conv=>lhs;unfold dj
 rw[if_pos h]
theorem er {x:Int} (h:has L x=false):pth L x=[]:=by
 unfold pth dj;simp[h]
theorem Ok.low (ok:Ok L m k) {x:Int} (h:x<1):has L x=false:=by
 cases hx:has L x with
 | false=>rfl
 | true=>
  have:=ok.lo _ (bd hx);rw[cV hx] at this;omega
theorem Ok.high (ok:Ok L m k) {x:Int} (h:m<x):has L x=false:=by
 cases hx:has L x with
 | false=>rfl
 | true=>
  have:=ok.hi _ (bd hx);rw[cV hx] at this;omega
theorem Ok.id (ok:Ok L m k) {x:Int} (h:has L x=true):1≤x∧x≤m:=by
 have h1:=ok.lo _ (bd h);have h2:=ok.hi _ (bd h);rw[cV h] at h1 h2;exact⟨h1,h2⟩
theorem Ok.pa (ok:Ok L m k) {x:Int} (h:has L x=true):(gr L x).pa= -1∨has L (gr L x).pa=true:=ok.par _ (bd h)
theorem Ok.pa_lt (ok:Ok L m k) {x:Int} (h:has L x=true): -1≤(gr L x).pa∧(gr L x).pa≤m:=by
 rcases ok.pa h with e | e
 ·have:=ok.m0;omega
 ·have:=ok.id e;omega
theorem Ok.yes (ok:Ok L m k) {x:Int} (h:has L x=true):pth L x=x::pth L (gr L x).pa:=jG ok.deep h
theorem l6 (hd: ∀x,(pth L x).length≤8): ∀ {n:Nat} {x t s:Int},(pth L x).length≤n→t∈pth L x→s∈pth L t→s∈pth L x
 | 0,x,t,s,hn,h,_=>by
  have:pth L x=[]:=List.length_eq_zero_iff.1 A3;rw[this] at h;simp at h
 | n+1,x,t,s,hn,h,h'=>by
  cases hx:has L x with
  | false=>rw[er hx] at h;simp at h
  | true=>
   have e:=jG hd hx;rw[e] at h hn ⊢;simp only[List.length_cons] at hn;rcases List.mem_cons.1 h with rfl | h
   ·rwa [←e]
   ·exact List.mem_cons_of_mem _ (l6 hd (n:=n) A3 h h')
theorem Ok.trans (ok:Ok L m k) {x t s:Int} (h:t∈pth L x) (h':s∈pth L t):s∈pth L x:=l6 ok.deep lr h h'
theorem rD (hd: ∀x,(pth L x).length≤8): ∀ {n:Nat} {x t:Int},(pth L x).length≤n→t∈pth L x→(pth L t).length≤(pth L x).length
 | 0,x,t,hn,h=>by
  have:pth L x=[]:=List.length_eq_zero_iff.1 A3;rw[this] at h;simp at h
 | n+1,x,t,hn,h=>by
  cases hx:has L x with
  | false=>rw[er hx] at h;simp at h
  | true=>
   have e:=jG hd hx;rw[e] at h hn;simp only[List.length_cons] at hn;rcases List.mem_cons.1 h with rfl | h
   ·exact Nat.le_refl _
   ·have:=rD hd (n:=n) A3 h;rw[e,List.length_cons];omega
theorem Ok.plen (ok:Ok L m k) {x t:Int} (h:t∈pth L x):(pth L t).length≤(pth L x).length:=rD ok.deep lr h
theorem Ok.self (ok:Ok L m k) {x:Int} (h:has L x=true):x∈pth L x:=by rw[ok.yes h];simp
theorem Ok.dep (ok:Ok L m k) {x:Int} (h:has L x=true):dep L x=dep L (gr L x).pa+1:=by
 unfold Proofs.YtohifgjeebhijaaGreatDoor.dep;rw[ok.yes h,List.length_cons];omega
theorem Ok.dep8 (ok:Ok L m k) (x:Int):0≤Proofs.YtohifgjeebhijaaGreatDoor.dep L x∧Proofs.YtohifgjeebhijaaGreatDoor.dep L x≤8:=by
 have:=ok.deep x;unfold Proofs.YtohifgjeebhijaaGreatDoor.dep;omega
theorem Ok.notUp (ok:Ok L m k) {x:Int} (h:has L x=true):x∉pth L (gr L x).pa:=by
 intro hx;have h1:=ok.plen hx;rw[ok.yes h,List.length_cons] at h1;omega
theorem Ok.top_end (ok:Ok L m k) {x:Int} (h:has L x=true) (hp:(gr L x).pa= -1):aZ L x=x:=by
 unfold aZ;rw[ok.yes h,hp,er (ok.low A3)];rfl
theorem Ok.top_step (ok:Ok L m k) {x:Int} (h:has L x=true) (hp:has L (gr L x).pa=true):aZ L x=aZ L (gr L x).pa:=by
 unfold aZ;rw[ok.yes h,ok.yes hp];simp only[List.length_cons,Nat.add_sub_cancel,List.getD_cons_succ]
theorem Ok.top_mem (ok:Ok L m k) {x:Int} (h:has L x=true):aZ L x∈pth L x:=by
 unfold aZ;rw[ok.yes h];have:(x::pth L (gr L x).pa).length - 1<(x::pth L (gr L x).pa).length:=B4
 simp only[List.getD,List.getElem?_eq_getElem this,Option.getD_some];exact List.getElem_mem _
theorem Ok.below_step (ok:Ok L m k) {x:Int} (h:has L x=true) (t:Int):ag L x t=(decide (x=t)||ag L (gr L x).pa t):=by
 unfold ag;rw[ok.yes h];by_cases e:x=t
 ·subst e;simp
 ·have: ¬t=x:=fun h=>e h.symm
  simp[e,this]
theorem fJ {x:Int} (h:has L x=false) (t:Int):ag L x t=false:=by
 unfold ag;rw[er h];simp
end
theorem mj {L L':List Gr} (h1: ∀x,has L' x=has L x) (h2: ∀x,has L x=true→(gr L' x).pa=(gr L x).pa): ∀(n:Nat) (x:Int),dj L' n x=dj L n x
 | 0,_=>rfl
 | n+1,x=>by
  unfold dj;rw[h1];cases hx:has L x with
  | false=>rfl
  | true=>
   simp only[if_true];rw[h2 x hx,mj h1 h2 n]
def dT (L:List Gr) (x:Int) (g:Gr):List Gr:=L.set (pos L x) g
def addG (L:List Gr) (m pa wt:Int):List Gr:=L++[⟨m+1,pa,wt,0,0⟩]
def gW (L:List Gr) (x:Int):List Gr:=L.take (pos L x)++L.drop (pos L x+1)
theorem nq: ∀ {L L':List Gr},bK L'=bK L→∀x,pos L' x=pos L x
 | [],[],_,_=>rfl
 | [],_::_,h,_=>by simp[bK] at h
 | _::_,[],h,_=>by simp[bK] at h
 | a::L,b::L',h,x=>by
  simp only[bK,List.map_cons,List.cons.injEq] at h;unfold pos;rw[h.1,nq (L:=L) (L':=L') h.2]
theorem fI {L:List Gr} {x:Int} {g:Gr} (hg:g.id=x):bK (dT L x g)=bK L:=by
 unfold bK dT;rw[List.map_set];by_cases h:pos L x<L.length
 ·apply List.ext_getElem
  ·simp
  ·intro i h1 h2;rw[List.getElem_set];split
   ·rename_i e;subst e;have h5:(L[pos L x]).id=x:=by simpa[List.getD,h] using fN h
    simp only[List.getElem_map];rw[hg];exact h5.symm
   ·rfl
 ·rw[List.set_eq_of_length_le Cq]
theorem eS {L:List Gr} {x:Int} {g:Gr} (hg:g.id=x) (y:Int):has (dT L x g) y=has L y:=by
 unfold has;rw[nq (fI hg)];simp[dT]
theorem mU {L:List Gr} {x:Int} {g:Gr} (hg:g.id=x) (hx:has L x=true) (y:Int):gr (dT L x g) y=if y=x then g else gr L y:=by
 unfold gr;rw[nq (fI hg)];split
 ·rename_i e;subst e;simp[dT,List.getD,aC hx]
 ·rename_i e;unfold dT;simp only[List.getD_eq_getElem?_getD,List.getElem?_set];split
  ·rename_i e2;cases hy:has L y with
   | true=>
    have h1:=cV hy;have h2:=cV hx;unfold gr at h1 h2;rw[←e2] at h1;exact absurd (h1.symm.trans h2) e
   | false=>
    have: ¬pos L y<L.length:=by simpa[has] using hy
    exact absurd (aC hx) A3
  ·rfl
theorem dM {L:List Gr} {x:Int} {g y:Gr} (h:y∈dT L x g):y=g∨y∈L:=by
 unfold dT at h;rcases List.mem_or_eq_of_mem_set h with h | h
 ·exact .inr h
 ·exact .inl h
theorem np {L:List Gr} {m k:Int} (ok:Ok L m k) (x:Int):aW L x=(bK L).filter fun y=>(gr L y).pa==x:=by
 unfold aW bK;rw[List.filter_map];congr 1;apply List.filter_congr;intro g hg;simp only[Function.comp];rw[oN ok.rise hg]
theorem lP {L:List Gr} {m k:Int} (ok:Ok L m k) (x:Int):(aW L x).Pairwise (· < ·):=by
 rw[np ok];exact ok.rise.filter _
theorem ee (L:List Gr) (x:Int):(aW L x).length≤L.length:=by
 unfold aW;rw[List.length_map];exact List.length_filter_le _ _
end Go.Proofs.YtohifgjeebhijaaGreatDoor
namespace Go.Proofs.YtohifgjeebhijaaGreatDoor
open Go.Rq
abbrev Lf:=Int×Int
abbrev lf (ls:List Lf) (i:Nat):Lf:=ls.getD i (0,0)
def bl (L:List Gr) (ls:List Lf) (g:Int):List Nat:=(List.range ls.length).filter fun i=>ag L (lf ls i).1 g
def kl (ls:List Lf) (g:Int):List Nat:=(List.range ls.length).filter fun i=>(lf ls i).1==g
def many (L:List Gr) (ls:List Lf) (g:Int):Nat:=(ls.filter fun x=>ag L x.1 g).length
def kg (L:List Gr) (ls:List Lf) (g:Int):List Int:=(aW L g).filter fun y=>decide (0<many L ls y)
def mT (L:List Gr) (ls:List Lf) (y:Int):Kid:=((gr L y).wt.toNat,many L ls y)
def uY (ls:List Lf) (i:Nat):Kid:=((lf ls i).2.toNat,1)
def kd (L:List Gr) (ls:List Lf) (g:Int):List Kid:=(kg L ls g).map (mT L ls)++(kl ls g).map (uY ls)
def ix (L:List Gr) (ls:List Lf) (root:Int) (x:Rat):Nat→Int→Rat
 | 0,_=>0
 | n+1,g=>if g=root then x else given (aN (ix L ls root x n (gr L g).pa) (kd L ls (gr L g).pa)) (mT L ls g)
def ct (L:List Gr) (ls:List Lf) (root:Int) (x:Rat) (g:Int):Rat:=ix L ls root x 9 g
def lvl (L:List Gr) (ls:List Lf) (root:Int) (x:Rat) (g:Int):Rat:=aN (ct L ls root x g) (kd L ls g)
def cW (L:List Gr) (ls:List Lf) (root:Int) (x:Rat) (i:Nat):Rat:=given (lvl L ls root x (lf ls i).1) (uY ls i)
structure eN (L:List Gr) (m k:Int) (ls:List Lf) (root:Int):Prop where
 ok:Ok L m k
 hr:has L root=true
 top:(gr L root).pa= -1
 below: ∀x∈ls,ag L x.1 root=true
 wt: ∀x∈ls,1≤x.2∧x.2≤10000
 n64:ls.length≤64
def bp {α:Type} (f:α→Rat):List α→Rat
 | []=>0
 | i::l=>f i+bp f l
theorem jo {α:Type} (f:α→Rat): ∀a b:List α,bp f (a++b)=bp f a+bp f b
 | [],b=>by rw[List.nil_append];simp only[bp];grind
 | i::a,b=>by rw[List.cons_append,bp,jo f a b,bp];grind
theorem dd {α:Type} {f g:α→Rat}: ∀ {l:List α},(∀i∈l,f i=g i)→bp f l=bp g l
 | [],_=>rfl
 | i::l,h=>by rw[bp,bp,h i List.mem_cons_self,dd fun j hj=>h j (List.mem_cons_of_mem _ hj)]
theorem io {α:Type} (f g:α→Rat): ∀l:List α,bp (fun i=>f i+g i) l=bp f l+bp g l
 | []=>by simp only[bp];grind
 | i::l=>by rw[bp,bp,bp,io f g l];grind
theorem iM {α:Type}: ∀l:List α,bp (fun _=>(0:Rat)) l=0
 | []=>rfl
 | i::l=>by rw[bp,iM l];grind
theorem ph {α:Type}: ∀l:List α,bp (fun _=>(1:Rat)) l=((l.length:Nat):Rat)
 | []=>by simp[bp]
 | i::l=>by rw[bp,ph l,List.length_cons,Rat.natCast_add];grind
theorem j3 {α β:Type} (f:β→Rat) (g:α→β): ∀l:List α,bp f (l.map g)=bp (fun i=>f (g i)) l
 | []=>rfl
 | i::l=>by rw[List.map_cons,bp,bp,j3 f g l]
theorem dO {α:Type} (f:α→Rat) (p:α→Bool): ∀l:List α,bp f (l.filter p)=bp (fun i=>if p i=true then f i else 0) l
 | []=>rfl
 | i::l=>by
  rw[List.filter_cons,bp];split
  ·rw[bp,dO f p l]
  ·rw[dO f p l];grind
theorem Bs {p:Prop} (h:p:=by simpa using hp):p:=h
theorem lD {α:Type} (f:α→Rat) (p:α→Bool): ∀ {l:List α},(∀i∈l,p i=false→f i=0)→bp f (l.filter p)=bp f l
 | [],_=>rfl
 | i::l,h=>by
  have ih:=lD f p (l:=l) fun j hj=>h j (List.mem_cons_of_mem _ hj)
  rw[List.filter_cons,bp];split
  ·rw[bp,ih]
  ·rename_i hp;rw[ih,h i List.mem_cons_self Bs];grind
theorem mn {α β:Type} (f:α→β→Rat): ∀(a:List α) (b:List β),bp (fun i=>bp (fun j=>f i j) b) a=bp (fun j=>bp (fun i=>f i j) a) b
 | [],b=>by simp only[bp];rw[iM]
 | i::a,b=>by
  rw[bp,mn f a b,←io];rfl
theorem jr {α:Type} [DecidableEq α] (x:α) (c:Rat): ∀ {l:List α},l.Nodup→bp (fun y=>if y=x then c else 0) l=if x∈l then c else 0
 | [],_=>by simp[bp]
 | i::l,h=>by
  rw[List.nodup_cons] at h;rw[bp,jr x c h.2];by_cases e:i=x
  ·subst e;rw[if_pos rfl,if_neg h.1,if_pos List.mem_cons_self];grind
  ·rw[if_neg e];have:(x∈i::l)↔(x∈l):=by simp[List.mem_cons,Ne.symm e]
   simp only[this];grind
theorem lF: ∀ks:List Kid,((bT ks:Nat):Rat)=bp (fun k=>((k.2:Nat):Rat)) ks
 | []=>by simp[bT,bp]
 | k::ks=>by rw[bT,bp,Rat.natCast_add,lF ks]
theorem tx {α:Type} (d:α): ∀l:List α,(List.range l.length).map (fun i=>l.getD i d)=l:=by
 intro l;apply List.ext_getElem
 ·simp
 ·intro i h1 h2;simp only[List.getElem_map,List.getElem_range];rw[List.getD_eq_getElem?_getD,List.getElem?_eq_getElem h2];rfl
theorem vy (L:List Gr) (ls:List Lf) (g:Int):(bl L ls g).length=many L ls g:=by
 unfold many bl
 conv=>rhs;rw[←tx ((0,0):Lf) ls,List.filter_map,List.length_map]
 rfl
theorem i9 (L:List Gr) (ls:List Lf) (g:Int):((many L ls g:Nat):Rat)=bp (fun _=>(1:Rat)) (bl L ls g):=by rw[ph,vy]
theorem mV (L:List Gr) (ls:List Lf) (g:Int):many L ls g≤ls.length:=List.length_filter_le _ _
theorem kv {ls:List Lf} {i:Nat} (h:i<ls.length):lf ls i∈ls:=by
 unfold lf;rw[List.getD_eq_getElem?_getD,List.getElem?_eq_getElem h];exact List.getElem_mem h
section
variable {L:List Gr} {m k:Int}
theorem cP (ok:Ok L m k) {x g:Int}:x∈aW L g↔has L x=true∧(gr L x).pa=g:=by
 rw[np ok,List.mem_filter,←cN];simp
theorem p5 (ok:Ok L m k) (g:Int):(aW L g).Nodup:=dE (lP ok g)
theorem kI (ok:Ok L m k) {g:Int} (hg:has L g=true) (c:Rat): ∀(n:Nat) (x:Int),(pth L x).length≤n→bp (fun y=>if ag L x y=true then c else 0) (aW L g)=if ag L x g=true∧x≠g then c else 0
 | n,x,hn=>by
  cases hx:has L x with
  | false=>
   rw[dd (g:=fun _=>0) (fun y _=>by rw[fJ hx];rfl),iM,fJ hx];simp
  | true=>
   have hp:=ok.yes hx;have hup:=ok.notUp hx;cases n with
   | zero=>rw[hp] at hn;simp at hn
   | succ n=>
    have ih:=kI ok hg c n (gr L x).pa (by rw[hp] at hn;simpa using hn);have h1: ∀y∈aW L g,(if ag L x y=true then c else 0)=(if y=x then c else 0)+(if ag L (gr L x).pa y=true then c else 0):=by
     intro y _;by_cases e:y=x
     ·subst e;have e1:ag L y y=true:=by unfold ag;exact decide_eq_true (ok.self hx)
      have e2:ag L (gr L y).pa y=false:=by unfold ag;exact decide_eq_false hup
      rw[e1,e2];simp;grind
     ·have e1:ag L x y=ag L (gr L x).pa y:=by
       rw[ok.below_step hx,decide_eq_false (fun h=>e h.symm),Bool.false_or]
      rw[e1,if_neg e];grind
    rw[dd h1,io,ih,jr x c (p5 ok g)];have hk:(x∈aW L g)↔((gr L x).pa=g):=by rw[cP ok];simp[hx]
    simp only[hk];by_cases e:x=g
    ·subst e;have e2:ag L (gr L x).pa x=false:=by unfold ag;exact decide_eq_false hup
     have e3: ¬(gr L x).pa=x:=by
      intro h;apply hup;rw[h];exact ok.self hx
     rw[e2,if_neg e3];simp;grind
    ·have e1:ag L x g=ag L (gr L x).pa g:=by
      rw[ok.below_step hx,decide_eq_false e,Bool.false_or]
     by_cases e4:(gr L x).pa=g
     ·have e5:ag L (gr L x).pa g=true:=by rw[e4];unfold ag;exact decide_eq_true (ok.self hg)
      rw[if_pos e4,e1,e5];simp[e4,e];grind
     ·rw[if_neg e4,e1];simp[e4,e];grind
theorem tk (ok:Ok L m k) {g:Int} (hg:has L g=true) (ls:List Lf) (f:Nat→Rat):bp f (bl L ls g)=bp f (kl ls g)+bp (fun y=>bp f (bl L ls y)) (aW L g):=by
 unfold bl kl;rw[dd (l:=aW L g) (fun y _=>dO f (fun i=>ag L (lf ls i).1 y) (List.range ls.length)),←mn (fun i y=>if ag L (lf ls i).1 y=true then f i else 0),
  dO,dO,←io]
 apply dd;intro i _;rw[kI ok hg (f i) _ _ lr];by_cases e:(lf ls i).1=g
 ·have:ag L g g=true:=by unfold ag;exact decide_eq_true (ok.self hg)
  rw[if_pos (by rw[e];exact this),if_pos (beq_iff_eq.2 e),if_neg (fun h=>h.2 e)];grind
 ·by_cases e2:ag L (lf ls i).1 g=true
  ·rw[if_pos e2,if_neg (fun h=>e (beq_iff_eq.1 h)),if_pos ⟨e2,e⟩];grind
  ·rw[if_neg e2,if_neg (fun h=>e (beq_iff_eq.1 h)),if_neg (fun h=>e2 h.1)];grind
end
section
variable {L:List Gr} {ls:List Lf} {root:Int}
theorem az {g:Int} (h:ag L g root=true):has L g=true:=by
 cases hg:has L g with
 | true=>rfl
 | false=>rw[fJ hg] at h;cases h
theorem eZ (x:Rat):ct L ls root x root=x:=by
 unfold ct;rw[ix,if_pos rfl]
theorem yB {g:Int} (f:Int→Rat) (h: ∀y∈aW L g,many L ls y=0→f y=0):bp f (kg L ls g)=bp f (aW L g):=by
 unfold kg;exact lD f _ fun y hy hp=>h y hy Bs
theorem gN {i:Nat} {g:Int}:i∈kl ls g↔i<ls.length∧(lf ls i).1=g:=by
 unfold kl;rw[List.mem_filter,List.mem_range,beq_iff_eq]
end
section
variable {L:List Gr} {m k:Int} {ls:List Lf} {root:Int} (F:eN L m k ls root)
include F
theorem eN.up {g:Int} (h:ag L g root=true) (hne: ¬g=root):ag L (gr L g).pa root=true:=by
 rw[F.ok.below_step (az h),decide_eq_false hne,Bool.false_or] at h;exact h
theorem eN.self:ag L root root=true:=by
 unfold ag;exact decide_eq_true (F.ok.self F.hr)
theorem eN.kid {y g:Int} (hg:ag L g root=true) (hy:y∈aW L g):ag L y root=true∧¬y=root∧(gr L y).pa=g∧has L y=true:=by
 have h:=(cP F.ok).1 hy;have hgh:=az hg;have hne: ¬y=root:=by
  rintro rfl;have h1:=F.ok.id hgh;have h2:=F.top;rw[h.2] at h2;omega
 refine⟨?_,hne,h.2,h.1⟩;rw[F.ok.below_step h.1,decide_eq_false hne,Bool.false_or,h.2];exact hg
theorem eN.grp {i:Nat} (hi:i<ls.length):ag L (lf ls i).1 root=true:=F.below _ (kv hi)
theorem kA (x:Rat): ∀(n:Nat) (g:Int),ag L g root=true→(pth L g).length≤n→ix L ls root x n g=ix L ls root x (n+1) g
 | n,g,hb,hn=>by
  have hg:=az hb;have hp:=F.ok.yes hg;cases n with
  | zero=>rw[hp] at hn;simp at hn
  | succ n=>
   rw[ix,ix];by_cases e:g=root
   ·rw[if_pos e,if_pos e]
   ·rw[if_neg e,if_neg e,kA x n (gr L g).pa (F.up hb e) (by rw[hp] at hn;simpa using hn)]
theorem gc (x:Rat) {g:Int} (hb:ag L g root=true) (hne: ¬g=root):ct L ls root x g=given (lvl L ls root x (gr L g).pa) (mT L ls g):=by
 have hup:=F.up hb hne;have hd:=F.ok.deep g;rw[F.ok.yes (az hb)] at hd;unfold lvl;have e:ct L ls root x (gr L g).pa=ix L ls root x 8 (gr L g).pa:=(kA F x 8 _ hup (by simp at hd;omega)).symm;rw[e];unfold ct;rw[ix,if_neg hne]
theorem lX:many L ls root=ls.length:=by
 unfold many;rw[List.filter_eq_self.2 fun x hx=>F.below x hx]
theorem lZ (g:Int): ∀c∈kd L ls g,c.1≠0∧c.1≤10000∧c.2≤64∧0<c.2:=by
 intro c hc;unfold kd at hc;rcases List.mem_append.1 hc with h | h
 ·obtain⟨y,hy,rfl⟩:=List.mem_map.1 h;unfold kg at hy;have h1:=List.mem_filter.1 hy;have h2:=(cP F.ok).1 h1.1;have h3:=F.ok.num _ (bd h2.1);have h4:=mV L ls y;have h5:=F.n64;have h6:=of_decide_eq_true h1.2;unfold mT;refine⟨by show (gr L y).wt.toNat≠0;omega,by show (gr L y).wt.toNat≤10000;omega,by show many L ls y≤64;omega,h6⟩
 ·obtain⟨i,hi,rfl⟩:=List.mem_map.1 h;unfold kl at hi;have h1:=List.mem_range.1 (List.mem_filter.1 hi).1;have h2:=F.wt _ (kv h1);unfold uY;refine⟨by show (lf ls i).2.toNat≠0;omega,by show (lf ls i).2.toNat≤10000;omega,by show 1≤64;omega,by show 0<1;omega⟩
theorem rm (g:Int):Good (kd L ls g):=fun c hc=>(lZ F g c hc).1
theorem iG {g:Int} (hg:has L g=true):bT (kd L ls g)=many L ls g:=by
 have h:((bT (kd L ls g):Nat):Rat)=((many L ls g:Nat):Rat):=by
  rw[lF,i9,tk F.ok hg,kd,jo,j3,j3];have h1:bp (fun i=>(((mT L ls i).2:Nat):Rat)) (kg L ls g)=bp (fun y=>bp (fun _=>(1:Rat)) (bl L ls y)) (aW L g):=by
   rw[dd (g:=fun y=>bp (fun _=>(1:Rat)) (bl L ls y)) (fun y _=>by unfold mT;exact i9 L ls y)];exact yB _ fun y _ h0=>by rw[←i9,h0];rfl
  have h2:bp (fun i=>(((uY ls i).2:Nat):Rat)) (kl ls g)=bp (fun _=>(1:Rat)) (kl ls g):=dd fun i _=>rfl
  rw[h1,h2];grind
 exact Rat.natCast_inj.1 h
theorem d8 {x:Rat} (h0:0≤x) (hx:x≤((ls.length:Nat):Rat)): ∀(n:Nat) (g:Int),ag L g root=true→(pth L g).length≤n→0≤ct L ls root x g∧ct L ls root x g≤((many L ls g:Nat):Rat)
 | n,g,hb,hn=>by
  have hg:=az hb;have hp:=F.ok.yes hg;cases n with
  | zero=>rw[hp] at hn;simp at hn
  | succ n=>
   by_cases e:g=root
   ·subst e;rw[eZ,lX F];exact⟨h0,hx⟩
   ·have ih:=d8 h0 hx n (gr L g).pa (F.up hb e) (by rw[hp] at hn;simpa using hn);have hl:=jd (rm F (gr L g).pa) ih.1 (by rw[iG F (az (F.up hb e))];exact ih.2);rw[gc F x hb e];exact⟨mW hl.nonneg _,pd _ _⟩
theorem vP {i:Nat} (hi:i<ls.length):0<many L ls (lf ls i).1:=by
 unfold many;refine List.length_pos_of_mem (a:=lf ls i) (List.mem_filter.2 ⟨kv hi,?_⟩);unfold ag;exact decide_eq_true (F.ok.self (az (F.grp hi)))
end
end Go.Proofs.YtohifgjeebhijaaGreatDoor
