/-
  What this claim needs; no condition of its own. Told short by a script from longer texts.
-/
import Derived.Laws.Rows
import Derived.Laws.Tables
import Derived.Laws.ResultCell
import Derived.Maps.AppendAt
import Derived.RangeFuncBox
import Derived.WalkSpells
import Derived.WalkLawsBesides
import Derived.Lib.Hide
import Derived.Test.YtohifgjeebhijaaGreatDoorWUa
import Derived.Test.YtohifgjeebhijaaGreatDoorWRd
import Derived.Test.YtohifgjeebhijaaGreatDoorProg
import Derived.Laws.OwnMore
import Derived.Test.YtohifgjeebhijaaGreatDoorWAl
namespace Go.Proofs.YtohifgjeebhijaaGreatDoor
open Go.RowKit
def encI (l:List Int):List Value:=l.map (Value.int .i64)
theorem encI_len (l:List Int):(encI l).length=l.length:=by simp[encI]
theorem encI_get {l:List Int} {j:Nat} (h:j<l.length):(encI l)[j]? =some (.int .i64 (l.getD j 0)):=by
 simp[encI,List.getD,h]
theorem encI_one (l:List Int): ∀u∈encI l,u.oneCell'=true:=by
 intro u hu
 simp[encI] at hu
 obtain⟨x,_,rfl⟩:=hu
 rfl
structure Turn (b:Nat) (w w':World):Prop where
 os:w'.os=w.os
 tape:w'.tape=w.tape
 output:w'.output=w.output
 size:w'.heap.size=w.heap.size
 block: ∀k,k≠b→w'.heap[k]? =w.heap[k]?
theorem Turn.below {b B:Nat} {w w':World} (h:Turn b w w') (hb:B≤b):Below B w w':=⟨h.os,h.tape,h.output,by rw[h.size];exact Nat.le_refl _,fun k hk=>h.block k (by omega)⟩
theorem Turn.setCell (w:World) (b i:Nat) (v:Value):Turn b w (w.setCell ⟨b,i,none⟩ v):=⟨rfl,rfl,rfl,by simp[World.setCell],fun k hk=>heap_setCell_other w ⟨b,i,none⟩ k v hk⟩
theorem Turn.setRow (w:World) (b:Nat) (c:Array Value):Turn b w (w.setRow b c):=⟨rfl,rfl,rfl,by simp,fun k hk=>setRow_other w b k c hk⟩
structure Only (p g:Nat) (w w':World):Prop where
 os:w'.os=w.os
 tape:w'.tape=w.tape
 output:w'.output=w.output
 size:w.heap.size≤w'.heap.size
 block: ∀k,k<w.heap.size→k≠p→k≠g→w'.heap[k]? =w.heap[k]?
section
variable {p g:Nat} {w w' w'':World}
theorem Only.of_below (h:Below w.heap.size w w'):Only p g w w':=⟨h.os,h.tape,h.output,h.size,fun k hk _ _=>h.block k hk⟩
theorem Only.refl (p g:Nat) (w:World):Only p g w w:=Only.of_below (Below.refl _ w)
theorem Only.of_turn_p (h:Turn p w w'):Only p g w w':=⟨h.os,h.tape,h.output,by rw[h.size];exact Nat.le_refl _,fun k _ hk _=>h.block k hk⟩
theorem Only.of_turn_g (h:Turn g w w'):Only p g w w':=⟨h.os,h.tape,h.output,by rw[h.size];exact Nat.le_refl _,fun k _ _ hk=>h.block k hk⟩
theorem Only.trans (h:Only p g w w') (h':Only p g w' w''):Only p g w w'':=⟨h'.os.trans h.os,h'.tape.trans h.tape,h'.output.trans h.output,Nat.le_trans h.size h'.size,fun k hk hp hg=>(h'.block k (Nat.lt_of_lt_of_le hk h.size) hp hg).trans (h.block k hk hp hg)⟩
theorem Only.below {B:Nat} (h:Only p g w w') (hB:B≤w.heap.size) (hp:B≤p) (hg:B≤g):Below B w w':=⟨h.os,h.tape,h.output,h.size,fun k hk=>h.block k (by omega) (by omega) (by omega)⟩
end
structure IsTab (w:World) (p g:Nat) (l:List Int) (m:Int):Prop where
 ptr:w.heap[p]? =some (.cells #[.slice (some ⟨g,0,none⟩) l.length l.length,.int .i64 m] 144 (0,0))
 row:w.heap[g]? =some (.cells (encI l).toArray 3 (0,0))
 ne:p≠g
section
variable {w w':World} {p g:Nat} {l:List Int} {m:Int}
theorem IsTab.ltp (h:IsTab w p g l m):p<w.heap.size:=(Array.getElem?_eq_some_iff.1 h.ptr).1
theorem IsTab.ltg (h:IsTab w p g l m):g<w.heap.size:=(Array.getElem?_eq_some_iff.1 h.row).1
theorem IsTab.same (h:IsTab w p g l m) (h1:w'.heap[p]? =w.heap[p]?) (h2:w'.heap[g]? =w.heap[g]?):IsTab w' p g l m:=
 ⟨by rw[h1];exact h.ptr,by rw[h2];exact h.row,h.ne⟩
theorem IsTab.below {B:Nat} (h:IsTab w p g l m) (hb:Below B w w') (hp:p<B) (hg:g<B):IsTab w' p g l m:=h.same (hb.block p hp) (hb.block g hg)
theorem IsTab.belowS (h:IsTab w p g l m) (hb:Below w.heap.size w w'):IsTab w' p g l m:=h.below hb h.ltp h.ltg
theorem IsTab.alloc (h:IsTab w p g l m) (o:Obj):IsTab (w.alloc o) p g l m:=h.same (heap_alloc_old w o h.ltp) (heap_alloc_old w o h.ltg)
theorem IsTab.turn {c:Nat} (h:IsTab w p g l m) (ht:Turn c w w') (hp:p≠c) (hg:g≠c):IsTab w' p g l m:=h.same (ht.block p hp) (ht.block g hg)
theorem IsTab.c0 (h:IsTab w p g l m):w.cell? ⟨p,0,none⟩=some (.slice (some ⟨g,0,none⟩) l.length l.length):=by
 rw[cell_of_row w p 0 _ 144 (0,0) h.ptr];rfl
theorem IsTab.c1 (h:IsTab w p g l m):w.cell? ⟨p,1,none⟩=some (.int .i64 m):=by
 rw[cell_of_row w p 1 _ 144 (0,0) h.ptr];rfl
theorem IsTab.f1 (h:IsTab w p g l m):w.frozen? ⟨p,1,none⟩=false:=frozen_of_row w p 1 _ 144 h.ptr
theorem IsTab.fg (h:IsTab w p g l m) (i:Nat):w.frozen? ⟨g,i,none⟩=false:=frozen_of_row w g i _ 3 h.row
theorem IsTab.at (h:IsTab w p g l m) {j:Nat} (hj:j<l.length):w.cell? ⟨g,j,none⟩=some (.int .i64 (l.getD j 0)):=by
 rw[cell_of_row w g j _ 3 (0,0) h.row]
 simpa using encI_get hj
theorem encI_set (l:List Int) (i:Nat) (x:Int):(encI l).set i (.int .i64 x)=encI (l.set i x):=by
 simp[encI,List.map_set]
theorem IsTab.setM (h:IsTab w p g l m) (m':Int):IsTab (w.setCell ⟨p,1,none⟩ (.int .i64 m')) p g l m':=by
 refine⟨?_,?_,h.ne⟩
 ·rw[heap_setCell_same w p 1 _ 144 _ h.ptr];rfl
 ·rw[heap_setCell_other w ⟨p,1,none⟩ g _ (fun e=>h.ne e.symm)];exact h.row
theorem IsTab.setI (h:IsTab w p g l m) (i:Nat) (x:Int):IsTab (w.setCell ⟨g,i,none⟩ (.int .i64 x)) p g (l.set i x) m:=by
 refine⟨?_,?_,h.ne⟩
 ·rw[heap_setCell_other w ⟨g,i,none⟩ p _ h.ne,List.length_set];exact h.ptr
 ·rw[heap_setCell_same w g i _ 3 _ h.row]
  simp[encI_set]
end
def RowO (w:World) (B:Nat) (v:Value) (l:List Int):Prop:=w.ownsRow B 3 1 v l.length (encI l)
section
variable {w w':World} {B:Nat} {v:Value} {l:List Int}
theorem RowO.sl (h:RowO w B v l): ∃a c,v= .slice a l.length c:=by
 rcases h.2 with ⟨rfl,h1⟩ | ⟨g,cap,cur,rfl,_⟩
 ·exact⟨none,0,by rw[h1]⟩
 ·exact⟨_,cap,rfl⟩
theorem RowO.cap (h:RowO w B v l): ∃a c,v= .slice a l.length c∧l.length≤c∧c≤maxLen:=by
 rcases h.2 with ⟨rfl,h1⟩ | ⟨g,cap,cur,rfl,_,_,h3,h4,_⟩
 ·exact⟨none,0,by rw[h1],by omega,by unfold maxLen;omega⟩
 ·exact⟨_,cap,rfl,h3,h4⟩
theorem RowO.same (h:RowO w B v l) (hs: ∀b cur,w.heap[b]? =some (.cells cur 3 (0,0))→B≤b→w'.heap[b]? =w.heap[b]?):RowO w' B v l:=by
 refine⟨h.1,?_⟩
 rcases h.2 with ⟨rfl,h1⟩ | ⟨g,cap,cur,rfl,hbg,hg,h3⟩
 ·exact .inl ⟨rfl,h1⟩
 ·exact .inr ⟨g,cap,cur,rfl,hbg,by rw[hs g cur hg hbg];exact hg,h3⟩
theorem RowO.below (h:RowO w B v l) (hb:Below w.heap.size w w'):RowO w' B v l:=h.same fun b _ hg _=>hb.block b (Array.getElem?_eq_some_iff.1 hg).1
theorem RowO.alloc (h:RowO w B v l) (o:Obj):RowO (w.alloc o) B v l:=h.below ((Below.refl _ w).alloc (Nat.le_refl _) o)
theorem RowO.only {p g:Nat} (h:RowO w B v l) (ho:Only p g w w') (hp:p<B) (hg:g<B):RowO w' B v l:=h.same fun b _ hb hB=>ho.block b (Array.getElem?_eq_some_iff.1 hb).1 (by omega) (by omega)
theorem RowO.turn {c t:Nat} {cs:Array Value} (h:RowO w B v l) (ht:Turn c w w') (hc:w.heap[c]? =some (.cells cs t (0,0))) (hne:t≠3):RowO w' B v l:=h.same fun b cur hb _=>ht.block b (by
 rintro rfl
 rw[hb] at hc
 injection hc with h1
 injection h1 with _ h2 _
 exact hne h2.symm)
theorem RowO.mono {C:Nat} (h:RowO w B v l) (hC:C≤B):RowO w C v l:=by
 refine⟨h.1,?_⟩
 rcases h.2 with ⟨rfl,h1⟩ | ⟨g,cap,cur,rfl,hbg,h3⟩
 ·exact .inl ⟨rfl,h1⟩
 ·exact .inr ⟨g,cap,cur,rfl,by omega,h3⟩
theorem RowO.at {a:Option Addr} {n c:Nat} (h:RowO w B (.slice a n c) l) {j:Nat} (hj:j<l.length): ∃b,a=some ⟨b,0,none⟩∧B≤b∧b<w.heap.size∧w.cell? ⟨b,j,none⟩=some (.int .i64 (l.getD j 0))∧w.frozen? ⟨b,j,none⟩=false:=by
 rcases h.2 with ⟨_,h1⟩ | ⟨g,cap,cur,e,hbg,hg,_,_,_,htake⟩
 ·omega
 ·cases e
  refine⟨g,rfl,hbg,(Array.getElem?_eq_some_iff.1 hg).1,?_,frozen_of_row w g j _ 3 hg⟩
  rw[cell_of_row w g j _ 3 (0,0) hg,←encI_get hj,←htake,List.getElem?_take_of_lt (by omega)]
  simp
theorem RowO.nil (w:World) (B:Nat):RowO w B (.slice none 0 0) []:=World.ownsRow_nil _ _ _ _
theorem RowO.put {b n c:Nat} (h:RowO w B (.slice (some ⟨b,0,none⟩) n c) l) (i:Nat) (x:Int):RowO (w.setCell ⟨b,i,none⟩ (.int .i64 x)) B (.slice (some ⟨b,0,none⟩) n c) (l.set i x):=by
 have hl:=h.1
 rcases h.2 with ⟨h0,_⟩ | ⟨g,cap,cur,e,hbg,hg,h3,h4,h5,htake⟩
 ·cases h0
 ·cases e
  refine⟨by rw[List.length_set,encI_len,List.length_set];omega,.inr ⟨b,c,_,by rw[List.length_set],hbg,heap_setCell_same w b i _ 3 _ hg,by rw[List.length_set];exact h3,h4,by rw[Array.size_setIfInBounds];exact h5,?_⟩⟩
  rw[List.length_set,Array.toList_setIfInBounds,List.take_set,htake,encI_set]
end
theorem Tryz.infoI:(Tryz.prog.info? 3).map (fun i=>(i.zero,i.size,i.bytes))=some (some (.int .i64 0),1,8):=by kernel_rfl
section
variable {ops:Array Oper} {rest:List Oper} {o:Oper} {a:Act} {w:World} {Q:Exit→Act→World→Prop}
end
theorem beq_ff {a b:Int} (h: ¬a=b):(a==b)=false:=by simpa using h
theorem beq_tt {a b:Int} (h:a=b):(a==b)=true:=by simpa using h
end Go.Proofs.YtohifgjeebhijaaGreatDoor
namespace Go.Proofs.YtohifgjeebhijaaGreatDoor
set_option maxRecDepth 100000
set_option maxHeartbeats 4000000
open Go.RowKit
theorem Index_any (g n c:Nat) (l:List Int) (x:Int) (w:World) (hn:n=l.length) (hl:l.length≤64) (hc: ∀j,j<l.length→w.cell? ⟨g,j,none⟩=some (.int .i64 (l.getD j 0))):
  Calls Tryz.prog 120 #[.slice (some ⟨g,0,none⟩) n c,.int .i64 x] w fun e w'=>e= .returned (.int .i64 (slotI l x))∧w=w':=by
 subst hn
 have HC:=Lib.hid hc
 clear hc
 go_enter Tryz.func120,Tryz.ntmps120
 go_wp2_with fail
 go_loop [5,8] (fun _ i=>∃k:Nat,k≤l.length∧i= .int .i64 k∧Hid (∀j,j<k→l.getD j 0≠x)) (fun _ i=>l.length - (intOf i).toNat)
 case atStart=>exact⟨0,by omega,rfl,Lib.hid (fun j hj=>absurd hj (Nat.not_lt_zero _))⟩
 case round=>
  obtain⟨k,hk,rfl,HN⟩:=hrel
  by_cases hlt:k<l.length
  ·have hx:=HC.out k hlt
   generalize hy:l.getD k 0=y at *
   have HY:=Lib.hid hy
   clear hy
   by_cases he:x=y
   ·subst he
    go_wp2_with fail
    go_ret
    exact⟨by rw[slotI_hit hlt HY.out HN.out];rfl,rfl⟩
   ·have h5:=beq_ff he
    go_wp2_with fail
    refine⟨⟨k+1,by omega,by go_num,Lib.hid (fun j hj=>?_)⟩,by simp[intOf];omega⟩
    by_cases e:j=k
    ·subst e;rw[HY.out];exact fun h=>he h.symm
    ·exact HN.out j (by omega)
  ·obtain rfl:k=l.length:=by omega
   go_wp2_with fail
   go_ret
   exact⟨by rw[slotI_none HN.out];rfl,rfl⟩
theorem Index_tab (p g:Nat) (l:List Int) (m x:Int) (w:World) (h:IsTab w p g l m) (hl:l.length≤64):
  Calls Tryz.prog 120 #[.slice (some ⟨g,0,none⟩) l.length l.length,.int .i64 x] w fun e w'=>e= .returned (.int .i64 (slotI l x))∧w=w':=
 Index_any g _ _ l x w rfl hl fun _ hj=>h.at hj
theorem Slot_any (p g:Nat) (l:List Int) (m x:Int) (w:World) (h:IsTab w p g l m) (hl:l.length≤64):
  Calls Tryz.prog 118 #[.pointer (some ⟨p,0,none⟩),.int .i64 x] w fun e w'=>e= .returned (.tuple #[.int .i64 (hasS l x),.int .i64 (hasE l x)])∧w=w':=by
 have h0:=h.c0
 have HI:=Lib.hid (Index_tab p g l m x w h hl)
 by_cases hb:hasB l x=true
 ·have hb':find l x<l.length∧x≠0:=by simpa[hasB] using hb
  have h5:=beq_ff hb'.2
  have HS:Hid (slotI l x=(find l x:Int)):=Lib.hid (atI_slot l x hb)
  have HR:Hid (hasS l x=(find l x:Int)∧hasE l x=0):=Lib.hid (by simp[hasS,hasE,hb])
  clear hb
  generalize find l x=k at *
  obtain⟨h6,h7⟩:=hb'
  go_enter Tryz.func118,Tryz.ntmps118
  go_wp2_with (go_at_call 120;refine HI.out.mono ?_;rw[HS.out];rintro e w1 ⟨rfl,rfl⟩)
  go_ret2
  exact⟨by rw[HR.out.1,HR.out.2];rfl,rfl⟩
 ·have hb': ¬(find l x<l.length∧x≠0):=by simpa[hasB] using hb
  have HR:Hid (hasS l x=0∧hasE l x=3):=Lib.hid (by simp[hasS,hasE,hb])
  clear hb
  by_cases h1:find l x<l.length
  ·obtain rfl:x=0:=by omega
   have HS:Hid (slotI l 0=(find l 0:Int)):=Lib.hid (by unfold slotI;rw[if_pos h1])
   clear hb'
   generalize find l 0=k at *
   go_enter Tryz.func118,Tryz.ntmps118
   go_wp2_with (go_at_call 120;refine HI.out.mono ?_;rw[HS.out];rintro e w1 ⟨rfl,rfl⟩)
   go_ret2
   exact⟨by rw[HR.out.1,HR.out.2];rfl,rfl⟩
  ·have HS:Hid (slotI l x= -1):=Lib.hid (by unfold slotI;rw[if_neg h1])
   clear hb' h1
   go_enter Tryz.func118,Tryz.ntmps118
   go_wp2_with (go_at_call 120;refine HI.out.mono ?_;rw[HS.out];rintro e w1 ⟨rfl,rfl⟩)
   go_ret2
   exact⟨by rw[HR.out.1,HR.out.2];rfl,rfl⟩
theorem Drop_any (p g:Nat) (l:List Int) (m x:Int) (w:World) (h:IsTab w p g l m) (hl:l.length≤64):
  Calls Tryz.prog 85 #[.pointer (some ⟨p,0,none⟩),.int .i64 x] w fun e w'=>e= .returned (.int .i64 (hasE l x))∧IsTab w' p g (dropL l x) m∧Only p g w w':=by
 have h0:=h.c0
 have HI:=Lib.hid (Slot_any p g l m x w h hl)
 by_cases hb:hasB l x=true
 ·have hk:find l x<l.length:=by
   have:find l x<l.length∧x≠0:=by simpa[hasB] using hb
   exact this.1
  have HR:Hid (hasS l x=(find l x:Int)∧hasE l x=0∧dropL l x=l.set (find l x) 0):=Lib.hid (by simp[hasS,hasE,dropL,hb])
  clear hb
  generalize find l x=k at *
  have hx:=h.at hk
  have h9:=h.fg k
  generalize l.getD k 0=y at *
  go_enter Tryz.func85,Tryz.ntmps85
  go_wp2_with (go_at_call 118;refine HI.out.mono ?_;rw[HR.out.1,HR.out.2.1];rintro e w1 ⟨rfl,rfl⟩)
  go_ret
  exact⟨by rw[HR.out.2.1];rfl,by rw[HR.out.2.2];exact h.setI k 0,Only.of_turn_g (Turn.setCell _ _ _ _)⟩
 ·have HR:Hid (hasS l x=0∧hasE l x=3∧dropL l x=l):=Lib.hid (by simp[hasS,hasE,dropL,hb])
  clear hb
  go_enter Tryz.func85,Tryz.ntmps85
  go_wp2_with (go_at_call 118;refine HI.out.mono ?_;rw[HR.out.1,HR.out.2.1];rintro e w1 ⟨rfl,rfl⟩)
  go_ret
  exact⟨by rw[HR.out.2.1];rfl,by rw[HR.out.2.2];exact h,Only.refl _ _ _⟩
end Go.Proofs.YtohifgjeebhijaaGreatDoor
namespace Go.Proofs.YtohifgjeebhijaaGreatDoor
set_option maxRecDepth 100000
set_option maxHeartbeats 4000000
open Go.RowKit
theorem Add_no (p g:Nat) (l:List Int) (m:Int) (w:World) (h:IsTab w p g l m) (ok:TabOk l m) (hb:addB l m=false):
  Calls Tryz.prog 91 #[.pointer (some ⟨p,0,none⟩)] w fun e w'=>e= .returned (.tuple #[.int .i64 0,.int .i64 0,.int .i64 6])∧w=w':=by
 have h0:=h.c0
 have h1:=h.c1
 have HI:=Lib.hid (Index_tab p g l m 0 w h ok.n64)
 have hm:=ok.mM
 have hb': ¬(find l 0<l.length∧m<2147483648):=by simpa[addB] using hb
 clear hb
 by_cases hf:find l 0<l.length
 ·obtain rfl:m=2147483648:=by omega
  have HS:Hid (slotI l 0=(find l 0:Int)):=Lib.hid (by unfold slotI;rw[if_pos hf])
  clear hb' hf
  generalize find l 0=k at *
  go_enter Tryz.func91,Tryz.ntmps91
  go_wp2_with (go_at_call 120;refine HI.out.mono ?_;rw[HS.out];rintro e w1 ⟨rfl,rfl⟩)
  go_ret3
  exact⟨rfl,rfl⟩
 ·have HS:Hid (slotI l 0= -1):=Lib.hid (by unfold slotI;rw[if_neg hf])
  clear hb' hf
  go_enter Tryz.func91,Tryz.ntmps91
  go_wp2_with (go_at_call 120;refine HI.out.mono ?_;rw[HS.out];rintro e w1 ⟨rfl,rfl⟩)
  go_ret3
  exact⟨rfl,rfl⟩
theorem cell_set_other {w:World} {p g i j:Nat} {v:Value} (hne:p≠g):(w.setCell ⟨g,i,none⟩ v).cell? ⟨p,j,none⟩=w.cell? ⟨p,j,none⟩:=by
 simp only[World.cell?,heap_setCell_other w ⟨g,i,none⟩ p v hne]
theorem Add_yes (p g:Nat) (l:List Int) (m:Int) (w:World) (h:IsTab w p g l m) (ok:TabOk l m) (hb:addB l m=true):
  Calls Tryz.prog 91 #[.pointer (some ⟨p,0,none⟩)] w fun e w'=>e= .returned (.tuple #[.int .i64 (m+1),.int .i64 (find l 0:Nat),.int .i64 0])∧IsTab w' p g (l.set (find l 0) (m+1)) (m+1)∧Only p g w w':=by
 have h0:=h.c0
 have h1:=h.c1
 have h9:=h.f1
 have HI:=Lib.hid (Index_tab p g l m 0 w h ok.n64)
 have hb':find l 0<l.length∧m<2147483648:=by simpa[addB] using hb
 have HS:Hid (slotI l 0=(find l 0:Int)):=Lib.hid (by unfold slotI;rw[if_pos hb'.1])
 clear hb
 obtain⟨hk,hmm⟩:=hb'
 have hm0:=ok.m0
 have h5:(m==2147483648)=false:=beq_ff (by omega)
 generalize find l 0=k at *
 have hpg:=h.ne
 have h2:=h.setM (m+1)
 have t2:=Turn.setCell w p 1 (.int .i64 (m+1))
 go_enter Tryz.func91,Tryz.ntmps91
 go_wp2_with (go_at_call 120;refine HI.out.mono ?_;rw[HS.out];rintro e w1 ⟨rfl,rfl⟩)
 have h2d:IsTab ((w.setCell ⟨p,1,none⟩ (.int .i64 (m+1))).drew) p g l (m+1):=h2.same rfl rfl
 have t2d:Only p g w ((w.setCell ⟨p,1,none⟩ (.int .i64 (m+1))).drew):=⟨t2.os,t2.tape,t2.output,(Only.of_turn_p (g:=g) t2).size,(Only.of_turn_p (g:=g) t2).block⟩
 refine Rd.region (fun X=>X.cell? ⟨p,0,none⟩=some (.slice (some ⟨g,0,none⟩) l.length l.length)∧X.cell? ⟨p,1,none⟩=some (.int .i64 (m+1))) 11 [0,1,2,3,4,5,6,7,8,9] [0,1,2,3,4,5,6,7,8,9,10] (by kernel_rfl) (by kernel_rfl) (by kernel_rfl) (by kernel_rfl) rfl ⟨h2.c0,h2.c1⟩ ?_
 clear h0 h1 h9 t2 h2 HI HS h
 generalize (w.setCell ⟨p,1,none⟩ (.int .i64 (m+1))).drew=w2 at *
 have h20:=h2d.c0
 have h21:=h2d.c1
 have h2g:=h2d.fg k
 have hk2:=h2d.at hk
 have h3:=h2d.setI k (m+1)
 have t3:=Turn.setCell w2 g k (.int .i64 (m+1))
 have h30:=h3.c0
 have h31:=h3.c1
 generalize l.getD k 0=y at *
 refine Rd.seq_float (.pointer (some ⟨p,0,none⟩)) (by simp only[gA,gC];rfl) rfl (by rfl) (fun X _=>by go_simp) ?_
 simp only[Act.put,sA,sB,sC]
 refine Rd.seq_float (.pointer (some ⟨p,0,none⟩)) (by simp only[gA,gB,gC];rfl) rfl (by rfl) (fun X _=>by go_simp) ?_
 simp only[Act.put,sA,sB,sC]
 refine Rd.seq_float (.pointer (some ⟨p,0,none⟩)) (by simp only[gA,gB,gC];rfl) rfl (by rfl) (fun X _=>by go_simp) ?_
 simp only[Act.put,sA,sB,sC]
 refine Rd.seq_float (.slice (some ⟨g,0,none⟩) l.length l.length) (by simp only[gA,gB,gC];rfl) rfl (by rfl) (fun X hX=>by obtain⟨c0,c1⟩:=hX;go_simp) ?_
 simp only[Act.put,sA,sB,sC]
 refine Rd.seq_float (.int .i64 (k:Int)) (by simp only[gA,gB,gC];rfl) rfl (by rfl) (fun X _=>by go_simp) ?_
 simp only[Act.put,sA,sB,sC]
 refine Rd.seq_float (.pointer (some ⟨p,0,none⟩)) (by simp only[gA,gB,gC];rfl) rfl (by rfl) (fun X _=>by go_simp) ?_
 simp only[Act.put,sA,sB,sC]
 refine Rd.seq_float (.pointer (some ⟨p,0,none⟩)) (by simp only[gA,gB,gC];rfl) rfl (by rfl) (fun X _=>by go_simp) ?_
 simp only[Act.put,sA,sB,sC]
 refine Rd.seq_float (.pointer (some ⟨p,1,none⟩)) (by simp only[gA,gB,gC];rfl) rfl (by rfl) (fun X _=>by go_simp) ?_
 simp only[Act.put,sA,sB,sC]
 refine Rd.seq_float (.int .i64 (m+1)) (by simp only[gA,gB,gC];rfl) rfl (by rfl) (fun X hX=>by obtain⟨c0,c1⟩:=hX;go_simp) ?_
 simp only[Act.put,sA,sB,sC]
 refine Rd.seq_float (.pointer (some ⟨g,k,none⟩)) (by simp only[gA,gB,gC];rfl) rfl (by rfl) (fun X _=>by go_simp) ?_
 simp only[Act.put,sA,sB,sC]
 refine Rd.seq_move (by simp only[gA,gB,gC];rfl) rfl (by rfl) (fun K hK=>?_)
 go_simp
 refine hK _ _ (fun _=>⟨(cell_set_other hpg).trans h20,(cell_set_other hpg).trans h21⟩) ?_
 refine Rd.seq_end ?_
 clear h20 h21 h2g hk2
 generalize w2.setCell ⟨g,k,none⟩ (.int .i64 (m+1))=w3 at *
 go_wp2_with fail
 go_ret3
 exact⟨rfl,h3,t2d.trans (Only.of_turn_g t3)⟩
theorem TAdd_any (p g:Nat) (l:List Int) (m:Int) (w:World) (h:IsTab w p g l m) (ok:TabOk l m):
  Calls Tryz.prog 91 #[.pointer (some ⟨p,0,none⟩)] w fun e w'=>e= .returned (.tuple #[.int .i64 (addI l m),.int .i64 (addS l m),.int .i64 (addE l m)])∧IsTab w' p g (addL l m) (addM l m)∧Only p g w w':=by
 cases hb:addB l m with
 | true=>
  simp only[addI,addS,addE,addL,addM,hb,if_true]
  exact Add_yes p g l m w h ok hb
 | false=>
  simp only[addI,addS,addE,addL,addM,hb]
  refine(Add_no p g l m w h ok hb).mono ?_
  rintro e w1 ⟨rfl,rfl⟩
  exact⟨rfl,h,Only.refl _ _ _⟩
theorem zeros (n:Nat):(madeCells (Value.int .i64 0).cells (n*1)).toList=encI (List.replicate n 0):=by
 simp[madeCells,encI,Value.cells,Nat.mod_one,List.map_const']
theorem IsTab.of_made {w:World} {B n:Nat} {g:Nat} (h:w.ownsRow B 3 1 (.slice (some ⟨g,0,none⟩) n n) n (encI (List.replicate n 0))):
  w.heap[g]? =some (.cells (encI (List.replicate n 0)).toArray 3 (0,0)):=by
 rcases h.2 with ⟨h0,_⟩ | ⟨g',cap,cur,e,hbg,hg,_,_,h5,htake⟩
 ·cases h0
 ·cases e
  rw[hg]
  have:cur=(encI (List.replicate n 0)).toArray:=by
   apply Array.toList_inj.1
   rw[←htake,List.take_of_length_le (by rw[Array.length_toList,h5];exact Nat.le_refl _)]
  rw[this]
theorem New_yes (n:Nat) (w:World) (h1:1≤n) (h2:n≤64):
  Calls Tryz.prog 41 #[.int .i64 (n:Int)] w fun e w'=>(∃p g,e= .returned (.tuple #[.pointer (some ⟨p,0,none⟩),.int .i64 0])∧IsTab w' p g (List.replicate n 0) 0∧w.heap.size≤p∧w.heap.size≤g)∧Below w.heap.size w w':=by
 obtain⟨i0,hi,hz0,hz1,hz2⟩:=info_parts Tryz.infoI
 have h3: ¬(n:Int)<1:=by omega
 have h4: ¬ 64<(n:Int):=by omega
 go_enter Tryz.func41,Tryz.ntmps41
 go_wp2_with (first | (refine wpList_make_full _ rfl _ _ 50 rfl w.heap.size 3 i0 (.int .i64 0) 1 Tryz.underlying50 hi hz0 hz1 .i64 .i64 (n:Int) (n:Int) n rfl rfl rfl rfl (by rw[hz2];omega) (by unfold maxLen;omega) (Nat.le_refl _) ?_;intro w1 hown hgrow))
 go_ret2
 rw[zeros] at hown
 have hs:=hgrow.size
 have hrow:=IsTab.of_made hown
 have hlt:=(Array.getElem?_eq_some_iff.1 hrow).1
 have hB:Below w.heap.size w w1:=(Below.refl _ w).grown hgrow (Nat.le_refl _) (fun _ e=>by cases e)
 refine⟨⟨w1.heap.size,rfl,w.heap.size,⟨?_,(heap_alloc_old w1 _ hlt).trans hrow,by omega⟩,by omega,Nat.le_refl _⟩,hB.alloc (by omega) _⟩
 rw[heap_alloc_new w1,List.length_replicate]
end Go.Proofs.YtohifgjeebhijaaGreatDoor
namespace Go.Proofs.YtohifgjeebhijaaGreatDoor
open Go.RowKit
def SrcI (w:World) (u:Value) (l:List Int):Prop:=
 ∃ad c,u= .slice ad l.length c∧(l≠[]→∃b off,ad=some ⟨b,off,none⟩∧b<w.heap.size∧∀j,j<l.length→w.cell? ⟨b,off+j,none⟩=some (.int .i64 (l.getD j 0)))
theorem SrcI.below {w w':World} {u:Value} {l:List Int} (h:SrcI w u l) (hb:Below w.heap.size w w'):SrcI w' u l:=by
 obtain⟨ad,c,rfl,h2⟩:=h
 refine⟨ad,c,rfl,fun hl=>?_⟩
 obtain⟨b,off,rfl,h3,h4⟩:=h2 hl
 exact⟨b,off,rfl,Nat.lt_of_lt_of_le h3 hb.size,fun j hj=>(hb.cell (p:=⟨b,off+j,none⟩) h3).trans (h4 j hj)⟩
theorem RowO.src {w:World} {B:Nat} {v:Value} {l:List Int} (h:RowO w B v l):SrcI w v l:=by
 obtain⟨a,c,rfl⟩:=h.sl
 refine⟨a,c,rfl,fun hl=>?_⟩
 obtain⟨b,rfl,hB,hb,_⟩:=h.at (j:=0) (List.length_pos_iff.2 hl)
 refine⟨b,0,rfl,hb,fun j hj=>?_⟩
 obtain⟨b',e,_,_,hc,_⟩:=h.at hj
 cases e
 rw[Nat.zero_add];exact hc
theorem append_any (w:World) (B:Nat) (v u:Value) (xs ys:List Int) (ty:TypeId) (hB:B≤w.heap.size) (h:RowO w B v xs) (hs:SrcI w u ys) (hl:xs.length+ys.length≤1000):
  ∃v' w',(Builtin.append_ #[50,50] ty #[v,u]).run Tryz.prog w= .ok v' w'∧RowO w' B v' (xs++ys)∧w.grownBy w' v.ownBlock:=by
 obtain⟨i0,hi,hz0,hz1,hz2⟩:=info_parts Tryz.infoI
 obtain⟨ad,c,rfl,h2⟩:=hs
 cases had:ad with
 | none=>
  have:ys=[]:=by
   by_cases hne:ys=[]
   ·exact hne
   ·obtain⟨b,off,e,_⟩:=h2 hne
    rw[had] at e;cases e
  subst this
  by_cases hc:c=0
  ·subst hc
   exact⟨v,w,run_append_owned_none w B 50 ty 3 i0 1 Tryz.underlying50 hi v xs.length _ h,by rw[List.append_nil];exact h,World.grownBy.refl _ _⟩
  ·refine⟨v,w,?_,by rw[List.append_nil];exact h,World.grownBy.refl _ _⟩
   rcases h.2 with ⟨rfl,h1⟩ | ⟨g,cap,cur,rfl,_,_,hnc,_⟩
   ·simp[Builtin.append_,run_underlying Tryz.underlying50,sizeOf,typeInfo,hi,Builtin.lenOf,Builtin.firstCells]
   ·simp[Builtin.append_,run_underlying Tryz.underlying50,sizeOf,typeInfo,hi,Builtin.lenOf,Builtin.firstCells,hnc,storeCells]
 | some a=>
  have hnews: ∀j x,(encI ys)[j]? =some x→w.cell? (a.add j)=some x:=by
   intro j x hx
   have hj:j<ys.length:=by have:=(List.getElem?_eq_some_iff.1 hx).1;simpa[encI] using this
   obtain⟨b,off,e,_,hc⟩:=h2 (by rintro rfl;simp at hj)
   rw[had] at e
   cases e
   rw[Addr.add_lit,hc j hj,←encI_get hj,hx]
  obtain⟨v',w',hr,ho,hg,_⟩:=run_append_own (P:=Tryz.prog) w B 50 ty 3 i0 (.int .i64 0) 1 8 Tryz.underlying50 hi hz0 hz1 hz2 rfl (by decide) v xs.length _ h a ys.length c (encI ys) (by simp[encI]) hnews (encI_one ys) (by unfold maxLen;omega) (by omega) hB
  refine⟨v',w',hr,?_,hg⟩
  unfold RowO
  rw[List.length_append,show encI (xs++ys)=encI xs++encI ys by simp[encI]]
  exact ho
section
variable {ops:Array Oper} {rest:List Oper} {o:Oper} {a:Act} {w:World} {Q:Exit→Act→World→Prop} {K:Act→World→Prop}
theorem wp_appendI (s x:Operand) (ho:o.op= .call { callee:=.builtin .append,args:= #[s,x],argTypes:= #[50,50] }) (B:Nat) (v u:Value) (xs ys:List Int) (hs:a.eval s=v) (hx:a.eval x=u)
  (hB:B≤w.heap.size) (h1:RowO w B v xs) (h2:SrcI w u ys) (hl:xs.length+ys.length≤1000) (h: ∀v' w',RowO w' B v' (xs++ys)→w.grownBy w' v.ownBlock→K (a.put o.dst v') w'):o.wp Tryz.prog a w K Q:=by
 obtain⟨v',w',hr,ho',hg⟩:=append_any w B v u xs ys o.type hB h1 h2 hl
 unfold Oper.wp execOp
 simp only[ho,resolve,invoke,builtin,Sem.run_bind,Sem.run_pure,Result.andThen_ok,List.map_toArray,List.map_cons,List.map_nil,hs,hx,hr]
 exact h v' w' ho' hg
theorem wpList_append (hg:o.guard=none) (s x:Operand) (ho:o.op= .call { callee:=.builtin .append,args:= #[s,x],argTypes:= #[50,50] }) (B:Nat) (v u:Value) (xs ys:List Int) (hs:a.eval s=v) (hx:a.eval x=u)
  (hB:B≤w.heap.size) (h1:RowO w B v xs) (h2:SrcI w u ys) (hl:xs.length+ys.length≤1000) (h: ∀v' w',RowO w' B v' (xs++ys)→w.grownBy w' v.ownBlock→wpList Tryz.prog ops Q rest (a.put o.dst v') w'):wpList Tryz.prog ops Q (o::rest) a w:=
 wpList_plain hg fun _ hK=>wp_appendI s x ho B v u xs ys hs hx hB h1 h2 hl fun v' w' h3 h4=>hK _ _ (h v' w' h3 h4)
theorem RowO.empty (w:World) (B:Nat) (hB:B≤w.heap.size):RowO (w.alloc (.cells #[] 3)) B (.slice (some ⟨w.heap.size,0,none⟩) 0 0) []:=World.ownsRow_made w #[] 0 hB (by omega) rfl
end
end Go.Proofs.YtohifgjeebhijaaGreatDoor
namespace Go.Proofs.YtohifgjeebhijaaGreatDoor
set_option maxRecDepth 100000
set_option maxHeartbeats 4000000
open Go.RowKit
def RT (w:World) (B:Nat) (v:Value) (l:List Int) (m:Int):Prop:=∃a c,v= .agg #[.slice a l.length c,.int .i64 m]∧RowO w B (.slice a l.length c) l
theorem RT.below {w w':World} {B:Nat} {v:Value} {l:List Int} {m:Int} (h:RT w B v l m) (hb:Below w.heap.size w w'):RT w' B v l m:=by
 obtain⟨a,c,e,h⟩:=h
 exact⟨a,c,e,h.below hb⟩
theorem RT.only {w w':World} {B p g:Nat} {v:Value} {l:List Int} {m:Int} (h:RT w B v l m) (ho:Only p g w w') (hp:p<B) (hg:g<B):RT w' B v l m:=by
 obtain⟨a,c,e,h⟩:=h
 exact⟨a,c,e,h.only ho hp hg⟩
end Go.Proofs.YtohifgjeebhijaaGreatDoor
namespace Go.Proofs.YtohifgjeebhijaaGreatDoor
set_option maxRecDepth 100000
set_option maxHeartbeats 4000000
open Go.RowKit
theorem SrcI.at {w:World} {ad:Option Addr} {n c:Nat} {l:List Int} (h:SrcI w (.slice ad n c) l) {j:Nat} (hj:j<l.length): ∃b off,ad=some ⟨b,off,none⟩∧b<w.heap.size∧w.cell? ⟨b,off+j,none⟩=some (.int .i64 (l.getD j 0)):=by
 obtain⟨ad',c',e,h2⟩:=h
 cases e
 obtain⟨b,off,rfl,h3,h4⟩:=h2 (by rintro rfl;simp at hj)
 exact⟨b,off,rfl,h3,h4 j hj⟩
theorem SrcI.sl {w:World} {u:Value} {l:List Int} (h:SrcI w u l): ∃a c,u= .slice a l.length c:=by
 obtain⟨a,c,e,_⟩:=h
 exact⟨a,c,e⟩
def OneAt (w:World) (e:Nat) (x:Int):Prop:=w.heap[e]? =some (.cells #[.int .i64 x] 3 (0,0))
section
variable {w w':World} {e:Nat} {x:Int}
theorem OneAt.new (w:World) (x:Int):OneAt (w.alloc (.cells #[.int .i64 x] 3)) w.heap.size x:=heap_alloc_new w _
theorem OneAt.lt (h:OneAt w e x):e<w.heap.size:=(Array.getElem?_eq_some_iff.1 h).1
theorem OneAt.below (h:OneAt w e x) (hb:Below w.heap.size w w'):OneAt w' e x:=(hb.block e h.lt).trans h
theorem OneAt.grown {r:Option Nat} (h:OneAt w e x) (hg:w.grownBy w' r) (hne:some e≠r):OneAt w' e x:=(hg.block e h.lt hne).trans h
theorem OneAt.src (h:OneAt w e x):SrcI w (.slice (some ⟨e,0,none⟩) 1 1) [x]:=by
 refine⟨_,1,rfl,fun _=>⟨e,0,rfl,h.lt,fun j hj=>?_⟩⟩
 simp only[List.length_cons,List.length_nil] at hj
 obtain rfl:j=0:=by omega
 rw[cell_of_row _ e _ _ 3 (0,0) h];rfl
end
theorem grown_below {w w':World} {B:Nat} {v:Value} {l:List Int} (h:RowO w B v l) (hB:B≤w.heap.size) (hg:w.grownBy w' v.ownBlock):Below B w w':=
 (Below.refl B w).grown hg hB (fun j e=>(h.lt j e).1)
theorem RowO.form {w:World} {B:Nat} {ao:Option Addr} {co j:Nat} {L:List Int} (h:RowO w B (.slice ao L.length co) L) (hj:j≤L.length):(ao=none∧co=0∧L=[]∧j=0)∨((∃g,ao=some ⟨g,0,none⟩)∧j≤co∧L.length≤co∧j≤L.length):=by
 rcases h.2 with ⟨h0,h1⟩ | ⟨g,cap,cur,e,_,_,h3,_⟩
 ·injection h0 with e1 e2 e3
  exact .inl ⟨e1,e3,List.length_eq_zero_iff.1 h1,by omega⟩
 ·cases e
  exact .inr ⟨⟨g,rfl⟩,by omega,h3,hj⟩
end Go.Proofs.YtohifgjeebhijaaGreatDoor
