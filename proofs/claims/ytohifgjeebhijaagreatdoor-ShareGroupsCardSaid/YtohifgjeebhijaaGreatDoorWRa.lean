/-
  What this claim needs; no condition of its own. Told short by a script from longer texts.
-/
import Derived.WalkKit
import Derived.WalkSpells
import Derived.WalkLawsBesides
import Derived.Lib.Hide
import Derived.Maps.AppendAt
import Derived.Test.YtohifgjeebhijaaGreatDoorProg
import Derived.Test.YtohifgjeebhijaaGreatDoorWDig
import Derived.Test.YtohifgjeebhijaaGreatDoorWRd
namespace Go.Proofs.YtohifgjeebhijaaGreatDoor
open Go.RowKit Go.Dig Go.Proofs
def Lim (q:IntKind) (w:World) (v:Value) (l:List Nat):Prop:=
 ∃ad cap,v= .slice ad l.length cap∧l.length≤cap∧(l≠[]→∃b off,ad=some ⟨b,off,none⟩∧b<w.heap.size∧∀j,j<l.length→w.cell? ⟨b,off+j,none⟩=some (.int q (l.getD j 0:Nat)))
abbrev Row (w:World) (v:Value) (l:List Nat):Prop:=Lim .i64 w v l
abbrev RowU (w:World) (v:Value) (l:List Nat):Prop:=Lim .u64 w v l
theorem Lim.below {q:IntKind} {w w':World} {v:Value} {l:List Nat} (h:Lim q w v l) (hb:Below w.heap.size w w'):Lim q w' v l:=by
 obtain⟨ad,cap,rfl,hcap,h2⟩:=h
 refine⟨ad,cap,rfl,hcap,fun hl=>?_⟩
 obtain⟨b,off,rfl,hlt,hc⟩:=h2 hl
 exact⟨b,off,rfl,Nat.lt_of_lt_of_le hlt hb.size,fun j hj=>(hb.cell (p:=⟨b,off+j,none⟩) hlt).trans (hc j hj)⟩
theorem Lim.cell {q:IntKind} {w:World} {ad:Option Addr} {n cap:Nat} {l:List Nat} (h:Lim q w (.slice ad n cap) l) {j:Nat} (hj:j<l.length):
  ∃b off,ad=some ⟨b,off,none⟩∧b<w.heap.size∧w.cell? ⟨b,off+j,none⟩=some (.int q (l.getD j 0:Nat)):=by
 obtain⟨ad',cap',e,hcap,h2⟩:=h
 cases e
 obtain⟨b,off,rfl,hb,hc⟩:=h2 (by rintro rfl;simp at hj)
 exact⟨b,off,rfl,hb,hc j hj⟩
theorem Lim.take {q:IntKind} {w:World} {ad:Option Addr} {n cap:Nat} {l:List Nat} (h:Lim q w (.slice ad n cap) l) {k:Nat} (hk:k≤l.length):Lim q w (.slice ad k cap) (l.take k):=by
 obtain⟨ad',cap',e,hcap,h2⟩:=h
 cases e
 have hlen:(l.take k).length=k:=by rw[List.length_take];omega
 refine⟨ad,cap,by rw[hlen],by rw[hlen];omega,fun hne=>?_⟩
 have hl:l≠[]:=by rintro rfl;simp at hne
 obtain⟨b,off,rfl,hb,hc⟩:=h2 hl
 refine⟨b,off,rfl,hb,fun j hj=>?_⟩
 rw[hlen] at hj
 rw[hc j (by omega)]
 have e2:(l.take k).getD j 0=l.getD j 0:=by simp[List.getD,List.getElem?_take_of_lt hj]
 rw[e2]
abbrev D (n:Nat):List Nat:=dig 10000 n
def cmpZ (a b:Nat):Int:=if a<b then -1 else if b<a then 1 else 0
theorem Tryz.info3:(Tryz.prog.info? 3).map (fun i=>(i.zero,i.size,i.bytes))=some (some (.int .i64 0),1,8):=by kernel_rfl
def encN (c:Nat):Value:=.int .i64 (c:Int)
theorem Row.of_owns {w:World} {B:Nat} {v:Value} {l:List Nat} (h:w.ownsRow B 3 1 v l.length (l.map encN)):Row w v l:=by
 rcases h.2 with ⟨rfl,h1⟩ | ⟨g,cap,cur,rfl,h2,h3⟩
 ·have:l=[]:=List.eq_nil_of_length_eq_zero h1
  subst this
  exact⟨_,_,rfl,Nat.le_refl _,fun h=>absurd rfl h⟩
 ·refine⟨_,cap,rfl,h3.2.1,fun _=>⟨g,0,rfl,(Array.getElem?_eq_some_iff.1 h3.1).1,fun j hj=>?_⟩⟩
  rw[Nat.zero_add,h.cellAt j (by omega)]
  simp[List.getD,hj,encN]
end Go.Proofs.YtohifgjeebhijaaGreatDoor
