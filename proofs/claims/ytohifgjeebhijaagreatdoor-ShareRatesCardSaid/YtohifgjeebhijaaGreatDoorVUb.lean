import Derived.Laws.Rows
import Derived.Laws.ResultCell
import Derived.Maps.AppendAt
import Derived.RangeFuncBox
import Derived.WalkSpells
import Derived.WalkLawsBesides
import Derived.Lib.Hide
import Derived.Test.YtohifgjeebhijaaGreatDoorVUa
import Derived.Test.YtohifgjeebhijaaGreatDoorVRd
import Derived.Test.YtohifgjeebhijaaGreatDoorProg
import Derived.Test.YtohifgjeebhijaaGreatDoorVAm
namespace Go.Proofs.YtohifgjeebhijaaGreatDoor
open Go.RowKit
def dc (l:List Int):List Value:=l.map (Value.int .i64)
theorem uu (l:List Int):(dc l).length=l.length:=by simp[dc]
theorem k5 {l:List Int} {j:Nat} (h:j<l.length):(dc l)[j]? =some (.int .i64 (l.getD j 0)):=by
 simp[dc,List.getD,h]
theorem pG (l:List Int): ∀u∈dc l,u.oneCell'=true:=by
 intro u hu;simp[dc] at hu;obtain⟨x,_,rfl⟩:=hu;rfl
structure aX (b:Nat) (w w':World):Prop where
 os:w'.os=w.os
 tape:w'.tape=w.tape
 output:w'.output=w.output
 size:w'.heap.size=w.heap.size
 block: ∀k,k≠b→w'.heap[k]? =w.heap[k]?
theorem aX.below {b B:Nat} {w w':World} (h:aX b w w') (hb:B≤b):Below B w w':=⟨h.os,h.tape,h.output,by rw[h.size];exact Nat.le_refl _,fun k hk=>h.block k A3⟩
theorem aX.setCell (w:World) (b i:Nat) (v:Value):aX b w (w.setCell ⟨b,i,none⟩ v):=⟨rfl,rfl,rfl,by simp[World.setCell],fun k hk=>heap_setCell_other w ⟨b,i,none⟩ k v hk⟩
theorem aX.setRow (w:World) (b:Nat) (c:Array Value):aX b w (w.setRow b c):=⟨rfl,rfl,rfl,B4,fun k hk=>setRow_other w b k c hk⟩
structure aQ (p g:Nat) (w w':World):Prop where
 os:w'.os=w.os
 tape:w'.tape=w.tape
 output:w'.output=w.output
 size:w.heap.size≤w'.heap.size
 block: ∀k,k<w.heap.size→k≠p→k≠g→w'.heap[k]? =w.heap[k]?
section
variable {p g:Nat} {w w' w'':World}
theorem aQ.of_below (h:Below w.heap.size w w'):aQ p g w w':=⟨h.os,h.tape,h.output,h.size,fun k hk _ _=>h.block k hk⟩
theorem aQ.refl (p g:Nat) (w:World):aQ p g w w:=aQ.of_below (Below.refl _ w)
theorem aQ.of_turn_p (h:aX p w w'):aQ p g w w':=⟨h.os,h.tape,h.output,by rw[h.size];exact Nat.le_refl _,fun k _ hk _=>h.block k hk⟩
theorem aQ.of_turn_g (h:aX g w w'):aQ p g w w':=⟨h.os,h.tape,h.output,by rw[h.size];exact Nat.le_refl _,fun k _ _ hk=>h.block k hk⟩
theorem aQ.trans (h:aQ p g w w') (h':aQ p g w' w''):aQ p g w w'':=⟨h'.os.trans h.os,h'.tape.trans h.tape,h'.output.trans h.output,Nat.le_trans h.size h'.size,fun k hk hp hg=>(h'.block k (Nat.lt_of_lt_of_le hk h.size) hp hg).trans (h.block k hk hp hg)⟩
theorem aQ.below {B:Nat} (h:aQ p g w w') (hB:B≤w.heap.size) (hp:B≤p) (hg:B≤g):Below B w w':=⟨h.os,h.tape,h.output,h.size,fun k hk=>h.block k A3 A3 A3⟩
end
structure aU (w:World) (p g:Nat) (l:List Int) (m:Int):Prop where
 ptr:w.heap[p]? =some (.cells #[.slice (some ⟨g,0,none⟩) l.length l.length,.int .i64 m] 144 (0,0))
 row:w.heap[g]? =some (.cells (dc l).toArray 3 (0,0))
 ne:p≠g
section
variable {w w':World} {p g:Nat} {l:List Int} {m:Int}
theorem aU.ltp (h:aU w p g l m):p<w.heap.size:=(Array.getElem?_eq_some_iff.1 h.ptr).1
theorem aU.ltg (h:aU w p g l m):g<w.heap.size:=(Array.getElem?_eq_some_iff.1 h.row).1
theorem aU.same (h:aU w p g l m) (h1:w'.heap[p]? =w.heap[p]?) (h2:w'.heap[g]? =w.heap[g]?):aU w' p g l m:=
 ⟨by rw[h1];exact h.ptr,by rw[h2];exact h.row,h.ne⟩
theorem aU.below {B:Nat} (h:aU w p g l m) (hb:Below B w w') (hp:p<B) (hg:g<B):aU w' p g l m:=h.same (hb.block p hp) (hb.block g hg)
theorem aU.belowS (h:aU w p g l m) (hb:Below w.heap.size w w'):aU w' p g l m:=h.below hb h.ltp h.ltg
theorem aU.alloc (h:aU w p g l m) (o:Obj):aU (w.alloc o) p g l m:=h.same (heap_alloc_old w o h.ltp) (heap_alloc_old w o h.ltg)
theorem aU.turn {c:Nat} (h:aU w p g l m) (ht:aX c w w') (hp:p≠c) (hg:g≠c):aU w' p g l m:=h.same (ht.block p hp) (ht.block g hg)
theorem aU.c0 (h:aU w p g l m):w.cell? ⟨p,0,none⟩=some (.slice (some ⟨g,0,none⟩) l.length l.length):=by
 rw[cell_of_row w p 0 _ 144 (0,0) h.ptr];rfl
theorem aU.c1 (h:aU w p g l m):w.cell? ⟨p,1,none⟩=some (.int .i64 m):=by
 rw[cell_of_row w p 1 _ 144 (0,0) h.ptr];rfl
theorem aU.f1 (h:aU w p g l m):w.frozen? ⟨p,1,none⟩=false:=frozen_of_row w p 1 _ 144 h.ptr
theorem aU.fg (h:aU w p g l m) (i:Nat):w.frozen? ⟨g,i,none⟩=false:=frozen_of_row w g i _ 3 h.row
theorem aU.at (h:aU w p g l m) {j:Nat} (hj:j<l.length):w.cell? ⟨g,j,none⟩=some (.int .i64 (l.getD j 0)):=by
 rw[cell_of_row w g j _ 3 (0,0) h.row];simpa using k5 hj
theorem oY (l:List Int) (i:Nat) (x:Int):(dc l).set i (.int .i64 x)=dc (l.set i x):=by
 simp[dc,List.map_set]
theorem aU.setM (h:aU w p g l m) (m':Int):aU (w.setCell ⟨p,1,none⟩ (.int .i64 m')) p g l m':=by
 refine⟨?_,?_,h.ne⟩
 ·rw[heap_setCell_same w p 1 _ 144 _ h.ptr];rfl
 ·rw[heap_setCell_other w ⟨p,1,none⟩ g _ (fun e=>h.ne e.symm)];exact h.row
theorem aU.setI (h:aU w p g l m) (i:Nat) (x:Int):aU (w.setCell ⟨g,i,none⟩ (.int .i64 x)) p g (l.set i x) m:=by
 refine⟨?_,?_,h.ne⟩
 ·rw[heap_setCell_other w ⟨g,i,none⟩ p _ h.ne,List.length_set];exact h.ptr
 ·rw[heap_setCell_same w g i _ 3 _ h.row];simp[oY]
end
def aK (w:World) (B:Nat) (v:Value) (l:List Int):Prop:=w.ownsRow B 3 1 v l.length (dc l)
section
variable {w w':World} {B:Nat} {v:Value} {l:List Int}
theorem aK.sl (h:aK w B v l): ∃a c,v= .slice a l.length c:=by
 rcases h.2 with ⟨rfl,h1⟩ | ⟨g,cap,cur,rfl,_⟩
 ·exact⟨none,0,by rw[h1]⟩
 ·exact⟨_,cap,rfl⟩
theorem Cf {p:Prop} (h:p:=by unfold maxLen;omega):p:=h
theorem aK.cap (h:aK w B v l): ∃a c,v= .slice a l.length c∧l.length≤c∧c≤maxLen:=by
 rcases h.2 with ⟨rfl,h1⟩ | ⟨g,cap,cur,rfl,_,_,h3,h4,_⟩
 ·exact⟨none,0,by rw[h1],A3,Cf⟩
 ·exact⟨_,cap,rfl,h3,h4⟩
theorem aK.same (h:aK w B v l) (hs: ∀b cur,w.heap[b]? =some (.cells cur 3 (0,0))→B≤b→w'.heap[b]? =w.heap[b]?):aK w' B v l:=by
 refine⟨h.1,?_⟩;rcases h.2 with ⟨rfl,h1⟩ | ⟨g,cap,cur,rfl,hbg,hg,h3⟩
 ·exact .inl ⟨rfl,h1⟩
 ·exact .inr ⟨g,cap,cur,rfl,hbg,by rw[hs g cur hg hbg];exact hg,h3⟩
theorem aK.below (h:aK w B v l) (hb:Below w.heap.size w w'):aK w' B v l:=h.same fun b _ hg _=>hb.block b (Array.getElem?_eq_some_iff.1 hg).1
theorem aK.alloc (h:aK w B v l) (o:Obj):aK (w.alloc o) B v l:=h.below ((Below.refl _ w).alloc lr o)
theorem aK.only {p g:Nat} (h:aK w B v l) (ho:aQ p g w w') (hp:p<B) (hg:g<B):aK w' B v l:=h.same fun b _ hb hB=>ho.block b (Array.getElem?_eq_some_iff.1 hb).1 A3 A3
theorem aK.turn {c t:Nat} {cs:Array Value} (h:aK w B v l) (ht:aX c w w') (hc:w.heap[c]? =some (.cells cs t (0,0))) (hne:t≠3):aK w' B v l:=h.same fun b cur hb _=>ht.block b (by
 rintro rfl;rw[hb] at hc;injection hc with h1;injection h1 with _ h2 _;exact hne h2.symm)
theorem aK.mono {C:Nat} (h:aK w B v l) (hC:C≤B):aK w C v l:=by
 refine⟨h.1,?_⟩;rcases h.2 with ⟨rfl,h1⟩ | ⟨g,cap,cur,rfl,hbg,h3⟩
 ·exact .inl ⟨rfl,h1⟩
 ·exact .inr ⟨g,cap,cur,rfl,A3,h3⟩
theorem aK.at {a:Option Addr} {n c:Nat} (h:aK w B (.slice a n c) l) {j:Nat} (hj:j<l.length): ∃b,a=some ⟨b,0,none⟩∧B≤b∧b<w.heap.size∧w.cell? ⟨b,j,none⟩=some (.int .i64 (l.getD j 0))∧w.frozen? ⟨b,j,none⟩=false:=by
 rcases h.2 with ⟨_,h1⟩ | ⟨g,cap,cur,e,hbg,hg,_,_,_,htake⟩
 ·omega
 ·cases e;refine⟨g,rfl,hbg,(Array.getElem?_eq_some_iff.1 hg).1,?_,frozen_of_row w g j _ 3 hg⟩;rw[cell_of_row w g j _ 3 (0,0) hg,←k5 hj,←htake,List.getElem?_take_of_lt A3];simp
theorem aK.nil (w:World) (B:Nat):aK w B (.slice none 0 0) []:=World.ownsRow_nil _ _ _ _
theorem aK.put {b n c:Nat} (h:aK w B (.slice (some ⟨b,0,none⟩) n c) l) (i:Nat) (x:Int):aK (w.setCell ⟨b,i,none⟩ (.int .i64 x)) B (.slice (some ⟨b,0,none⟩) n c) (l.set i x):=by
 have hl:=h.1;rcases h.2 with ⟨h0,_⟩ | ⟨g,cap,cur,e,hbg,hg,h3,h4,h5,htake⟩
 ·cases h0
 ·cases e;refine⟨by rw[List.length_set,uu,List.length_set];omega,.inr ⟨b,c,_,by rw[List.length_set],hbg,heap_setCell_same w b i _ 3 _ hg,by rw[List.length_set];exact h3,h4,by rw[Array.size_setIfInBounds];exact h5,?_⟩⟩;rw[List.length_set,Array.toList_setIfInBounds,List.take_set,htake,oY]
end
theorem Ct {p:Prop} (h:p:=by kernel_rfl):p:=h
theorem Tryz.infoI:(Tryz.prog.info? 3).map (fun i=>(i.zero,i.size,i.bytes))=some (some (.int .i64 0),1,8):=Ct
section
variable {ops:Array Oper} {rest:List Oper} {o:Oper} {a:Act} {w:World} {Q:Exit→Act→World→Prop}
end
theorem aB {a b:Int} (h: ¬a=b):(a==b)=false:=BM
theorem dP {a b:Int} (h:a=b):(a==b)=true:=BM
set_option maxRecDepth 100000
set_option maxHeartbeats 4000000
theorem Cd {p:Prop} (h:p:=by simp[intOf];omega):p:=h
theorem BH {p:Prop} (h:p:=by go_num):p:=h
theorem mb (g n c:Nat) (l:List Int) (x:Int) (w:World) (hn:n=l.length) (hl:l.length≤64) (hc: ∀j,j<l.length→w.cell? ⟨g,j,none⟩=some (.int .i64 (l.getD j 0))):
  Calls Tryz.prog 120 #[.slice (some ⟨g,0,none⟩) n c,.int .i64 x] w fun e w'=>e= .returned (.int .i64 (cQ l x))∧w=w':=by
 subst hn;have HC:=Hd hc;clear hc;go_enter Tryz.func120,Tryz.ntmps120
 go_wp2_with fail
 go_loop [5,8] (fun _ i=>∃k:Nat,k≤l.length∧i= .int .i64 k∧Hid (∀j,j<k→l.getD j 0≠x)) (fun _ i=>l.length - (intOf i).toNat)
 case atStart=>exact⟨0,A3,rfl,Hd (fun j hj=>absurd hj (Nat.not_lt_zero _))⟩
 case round=>
  obtain⟨k,hk,rfl,HN⟩:=hrel;by_cases hlt:k<l.length
  ·have hx:=HC.out k hlt;generalize hy:l.getD k 0=y at *;have HY:=Hd hy;clear hy;by_cases he:x=y
   ·subst he
    go_wp2_with fail
    go_ret;exact⟨by rw[sL hlt HY.out HN.out];rfl,rfl⟩
   ·have h5:=aB he
    go_wp2_with fail
    refine⟨⟨k+1,A3,BH,Hd (fun j hj=>?_)⟩,Cd⟩;by_cases e:j=k
    ·subst e;rw[HY.out];exact fun h=>he h.symm
    ·exact HN.out j A3
  ·obtain rfl:k=l.length:=A3
   go_wp2_with fail
   go_ret;exact⟨by rw[qC HN.out];rfl,rfl⟩
theorem ji (p g:Nat) (l:List Int) (m x:Int) (w:World) (h:aU w p g l m) (hl:l.length≤64):
  Calls Tryz.prog 120 #[.slice (some ⟨g,0,none⟩) l.length l.length,.int .i64 x] w fun e w'=>e= .returned (.int .i64 (cQ l x))∧w=w':=
 mb g _ _ l x w rfl hl fun _ hj=>h.at hj
theorem vS (p g:Nat) (l:List Int) (m x:Int) (w:World) (h:aU w p g l m) (hl:l.length≤64):
  Calls Tryz.prog 118 #[.pointer (some ⟨p,0,none⟩),.int .i64 x] w fun e w'=>e= .returned (.tuple #[.int .i64 (mv l x),.int .i64 (jy l x)])∧w=w':=by
 have h0:=h.c0;have HI:=Hd (ji p g l m x w h hl);by_cases hb:iE l x=true
 ·have hb':find l x<l.length∧x≠0:=by simpa[iE] using hb
  have h5:=aB hb'.2;have HS:Hid (cQ l x=(find l x:Int)):=Hd (ur l x hb);have HR:Hid (mv l x=(find l x:Int)∧jy l x=0):=Hd (by simp[mv,jy,hb]);clear hb;generalize find l x=k at *;obtain⟨h6,h7⟩:=hb';go_enter Tryz.func118,Tryz.ntmps118
  go_wp2_with (go_at_call 120;refine HI.mono ?_;rw[HS.out];rintro e w1 ⟨rfl,rfl⟩)
  go_ret2
  exact⟨by rw[HR.1,HR.2];rfl,rfl⟩
 ·have hb': ¬(find l x<l.length∧x≠0):=by simpa[iE] using hb
  have HR:Hid (mv l x=0∧jy l x=3):=Hd (by simp[mv,jy,hb]);clear hb;by_cases h1:find l x<l.length
  ·obtain rfl:x=0:=A3
   have HS:Hid (cQ l 0=(find l 0:Int)):=Hd (by unfold cQ;rw[if_pos h1]);clear hb';generalize find l 0=k at *;go_enter Tryz.func118,Tryz.ntmps118
   go_wp2_with (go_at_call 120;refine HI.mono ?_;rw[HS.out];rintro e w1 ⟨rfl,rfl⟩)
   go_ret2
   exact⟨by rw[HR.1,HR.2];rfl,rfl⟩
  ·have HS:Hid (cQ l x= -1):=Hd (by unfold cQ;rw[if_neg h1]);clear hb' h1;go_enter Tryz.func118,Tryz.ntmps118
   go_wp2_with (go_at_call 120;refine HI.mono ?_;rw[HS.out];rintro e w1 ⟨rfl,rfl⟩)
   go_ret2
   exact⟨by rw[HR.1,HR.2];rfl,rfl⟩
theorem uW (p g:Nat) (l:List Int) (m x:Int) (w:World) (h:aU w p g l m) (hl:l.length≤64):
  Calls Tryz.prog 85 #[.pointer (some ⟨p,0,none⟩),.int .i64 x] w fun e w'=>e= .returned (.int .i64 (jy l x))∧aU w' p g (fU l x) m∧aQ p g w w':=by
 have h0:=h.c0;have HI:=Hd (vS p g l m x w h hl);by_cases hb:iE l x=true
 ·have hk:find l x<l.length:=by
   have:find l x<l.length∧x≠0:=by simpa[iE] using hb
   exact this.1
  have HR:Hid (mv l x=(find l x:Int)∧jy l x=0∧fU l x=l.set (find l x) 0):=Hd (by simp[mv,jy,fU,hb]);clear hb;generalize find l x=k at *;have hx:=h.at hk;have h9:=h.fg k;generalize l.getD k 0=y at *;go_enter Tryz.func85,Tryz.ntmps85
  go_wp2_with (go_at_call 118;refine HI.mono ?_;rw[HR.1,HR.2.1];rintro e w1 ⟨rfl,rfl⟩)
  go_ret;exact⟨by rw[HR.2.1];rfl,by rw[HR.2.2];exact h.setI k 0,aQ.of_turn_g (aX.setCell _ _ _ _)⟩
 ·have HR:Hid (mv l x=0∧jy l x=3∧fU l x=l):=Hd (by simp[mv,jy,fU,hb]);clear hb;go_enter Tryz.func85,Tryz.ntmps85
  go_wp2_with (go_at_call 118;refine HI.mono ?_;rw[HR.1,HR.2.1];rintro e w1 ⟨rfl,rfl⟩)
  go_ret;exact⟨by rw[HR.2.1];rfl,by rw[HR.2.2];exact h,aQ.refl _ _ _⟩
theorem yE (p g:Nat) (l:List Int) (m:Int) (w:World) (h:aU w p g l m) (ok:cK l m) (hb:ft l m=false):
  Calls Tryz.prog 91 #[.pointer (some ⟨p,0,none⟩)] w fun e w'=>e= .returned (.tuple #[.int .i64 0,.int .i64 0,.int .i64 6])∧w=w':=by
 have h0:=h.c0;have h1:=h.c1;have HI:=Hd (ji p g l m 0 w h ok.n64);have hm:=ok.mM;have hb': ¬(find l 0<l.length∧m<2147483648):=by simpa[ft] using hb
 clear hb;by_cases hf:find l 0<l.length
 ·obtain rfl:m=2147483648:=A3
  have HS:Hid (cQ l 0=(find l 0:Int)):=Hd (by unfold cQ;rw[if_pos hf]);clear hb' hf;generalize find l 0=k at *;go_enter Tryz.func91,Tryz.ntmps91
  go_wp2_with (go_at_call 120;refine HI.mono ?_;rw[HS.out];rintro e w1 ⟨rfl,rfl⟩)
  go_ret3
  exact⟨rfl,rfl⟩
 ·have HS:Hid (cQ l 0= -1):=Hd (by unfold cQ;rw[if_neg hf]);clear hb' hf;go_enter Tryz.func91,Tryz.ntmps91
  go_wp2_with (go_at_call 120;refine HI.mono ?_;rw[HS.out];rintro e w1 ⟨rfl,rfl⟩)
  go_ret3
  exact⟨rfl,rfl⟩
theorem gb {w:World} {p g i j:Nat} {v:Value} (hne:p≠g):(w.setCell ⟨g,i,none⟩ v).cell? ⟨p,j,none⟩=w.cell? ⟨p,j,none⟩:=by
 simp only[World.cell?,heap_setCell_other w ⟨g,i,none⟩ p v hne]
theorem xK (p g:Nat) (l:List Int) (m:Int) (w:World) (h:aU w p g l m) (ok:cK l m) (hb:ft l m=true):
  Calls Tryz.prog 91 #[.pointer (some ⟨p,0,none⟩)] w fun e w'=>e= .returned (.tuple #[.int .i64 (m+1),.int .i64 (find l 0:Nat),.int .i64 0])∧aU w' p g (l.set (find l 0) (m+1)) (m+1)∧aQ p g w w':=by
 have h0:=h.c0;have h1:=h.c1;have h9:=h.f1;have HI:=Hd (ji p g l m 0 w h ok.n64);have hb':find l 0<l.length∧m<2147483648:=by simpa[ft] using hb
 have HS:Hid (cQ l 0=(find l 0:Int)):=Hd (by unfold cQ;rw[if_pos hb'.1]);clear hb;obtain⟨hk,hmm⟩:=hb';have hm0:=ok.m0;have h5:(m==2147483648)=false:=aB A3;generalize find l 0=k at *;have hpg:=h.ne;have h2:=h.setM (m+1);have t2:=aX.setCell w p 1 (.int .i64 (m+1));go_enter Tryz.func91,Tryz.ntmps91
 go_wp2_with (go_at_call 120;refine HI.mono ?_;rw[HS.out];rintro e w1 ⟨rfl,rfl⟩)
 have h2d:aU ((w.setCell ⟨p,1,none⟩ (.int .i64 (m+1))).drew) p g l (m+1):=h2.same rfl rfl;have t2d:aQ p g w ((w.setCell ⟨p,1,none⟩ (.int .i64 (m+1))).drew):=⟨t2.os,t2.tape,t2.output,(aQ.of_turn_p (g:=g) t2).size,(aQ.of_turn_p (g:=g) t2).block⟩
 refine Rd.rg (fun X=>X.cell? ⟨p,0,none⟩=some (.slice (some ⟨g,0,none⟩) l.length l.length)∧X.cell? ⟨p,1,none⟩=some (.int .i64 (m+1))) 11 [0,1,2,3,4,5,6,7,8,9] [0,1,2,3,4,5,6,7,8,9,10] ⟨h2.c0,h2.c1⟩ ?_;clear h0 h1 h9 t2 h2 HI HS h;generalize (w.setCell ⟨p,1,none⟩ (.int .i64 (m+1))).drew=w2 at *;have h20:=h2d.c0;have h21:=h2d.c1;have h2g:=h2d.fg k;have hk2:=h2d.at hk;have h3:=h2d.setI k (m+1);have t3:=aX.setCell w2 g k (.int .i64 (m+1));have h30:=h3.c0;have h31:=h3.c1;generalize l.getD k 0=y at *;refine Rd.sf (.pointer (some ⟨p,0,none⟩)) ?_;refine Rd.sf (.pointer (some ⟨p,0,none⟩)) ?_;refine Rd.sf (.pointer (some ⟨p,0,none⟩)) ?_;refine Rd.sg (.slice (some ⟨g,0,none⟩) l.length l.length) ?_ (y:=fun X hX=>by obtain⟨c0,c1⟩:=hX;go_simp);refine Rd.sf (.int .i64 (k:Int)) ?_;refine Rd.sf (.pointer (some ⟨p,0,none⟩)) ?_;refine Rd.sf (.pointer (some ⟨p,0,none⟩)) ?_;refine Rd.sf (.pointer (some ⟨p,1,none⟩)) ?_;refine Rd.sg (.int .i64 (m+1)) ?_ (y:=fun X hX=>by obtain⟨c0,c1⟩:=hX;go_simp);refine Rd.sf (.pointer (some ⟨g,k,none⟩)) ?_;refine Rd.sm fun K hK=>?_
 go_simp;refine hK _ _ (fun _=>⟨(gb hpg).trans h20,(gb hpg).trans h21⟩) ?_;refine Rd.seq_end ?_;clear h20 h21 h2g hk2;generalize w2.setCell ⟨g,k,none⟩ (.int .i64 (m+1))=w3 at *
 go_wp2_with fail
 go_ret3
 exact⟨rfl,h3,t2d.trans (aQ.of_turn_g t3)⟩
theorem nF (p g:Nat) (l:List Int) (m:Int) (w:World) (h:aU w p g l m) (ok:cK l m):
  Calls Tryz.prog 91 #[.pointer (some ⟨p,0,none⟩)] w fun e w'=>e= .returned (.tuple #[.int .i64 (mD l m),.int .i64 (zk l m),.int .i64 (mI l m)])∧aU w' p g (gV l m) (j7 l m)∧aQ p g w w':=by
 cases hb:ft l m with
 | true=>
  simp only[mD,zk,mI,gV,j7,hb,if_true];exact xK p g l m w h ok hb
 | false=>
  simp only[mD,zk,mI,gV,j7,hb];refine(yE p g l m w h ok hb).mono ?_;rintro e w1 ⟨rfl,rfl⟩;exact⟨rfl,h,aQ.refl _ _ _⟩
theorem zeros (n:Nat):(madeCells (Value.int .i64 0).cells (n*1)).toList=dc (List.replicate n 0):=by
 simp[madeCells,dc,Value.cells,Nat.mod_one,List.map_const']
theorem aU.of_made {w:World} {B n:Nat} {g:Nat} (h:w.ownsRow B 3 1 (.slice (some ⟨g,0,none⟩) n n) n (dc (List.replicate n 0))):
  w.heap[g]? =some (.cells (dc (List.replicate n 0)).toArray 3 (0,0)):=by
 rcases h.2 with ⟨h0,_⟩ | ⟨g',cap,cur,e,hbg,hg,_,_,h5,htake⟩
 ·cases h0
 ·cases e;rw[hg];have:cur=(dc (List.replicate n 0)).toArray:=by
   apply Array.toList_inj.1;rw[←htake,List.take_of_length_le (by rw[Array.length_toList,h5];exact Nat.le_refl _)]
  rw[this]
theorem xP (n:Nat) (w:World) (h1:1≤n) (h2:n≤64):
  Calls Tryz.prog 41 #[.int .i64 (n:Int)] w fun e w'=>(∃p g,e= .returned (.tuple #[.pointer (some ⟨p,0,none⟩),.int .i64 0])∧aU w' p g (List.replicate n 0) 0∧w.heap.size≤p∧w.heap.size≤g)∧Below w.heap.size w w':=by
 obtain⟨i0,hi,hz0,hz1,hz2⟩:=info_parts Tryz.infoI;have h3: ¬(n:Int)<1:=A3
 have h4: ¬ 64<(n:Int):=A3
 go_enter Tryz.func41,Tryz.ntmps41
 go_wp2_with (first | (refine wpList_make_full _ rfl _ _ 50 rfl w.heap.size 3 i0 (.int .i64 0) 1 Tryz.underlying50 hi hz0 hz1 .i64 .i64 (n:Int) (n:Int) n rfl rfl rfl rfl (by rw[hz2];omega) Cf lr ?_;intro w1 hown hgrow))
 go_ret2
 rw[zeros] at hown;have hs:=hgrow.size;have hrow:=aU.of_made hown;have hlt:=(Array.getElem?_eq_some_iff.1 hrow).1;have hB:Below w.heap.size w w1:=(Below.refl _ w).grown hgrow lr (fun _ e=>by cases e);refine⟨⟨w1.heap.size,rfl,w.heap.size,⟨?_,(heap_alloc_old w1 _ hlt).trans hrow,A3⟩,A3,Nat.le_refl _⟩,hB.alloc A3 _⟩;rw[heap_alloc_new w1,List.length_replicate]
def jw (w:World) (u:Value) (l:List Int):Prop:=
 ∃ad c,u= .slice ad l.length c∧(l≠[]→∃b off,ad=some ⟨b,off,none⟩∧b<w.heap.size∧∀j,j<l.length→w.cell? ⟨b,off+j,none⟩=some (.int .i64 (l.getD j 0)))
theorem jw.below {w w':World} {u:Value} {l:List Int} (h:jw w u l) (hb:Below w.heap.size w w'):jw w' u l:=by
 obtain⟨ad,c,rfl,h2⟩:=h;refine⟨ad,c,rfl,fun hl=>?_⟩;obtain⟨b,off,rfl,h3,h4⟩:=h2 hl;exact⟨b,off,rfl,Nat.lt_of_lt_of_le h3 hb.size,fun j hj=>(hb.cell (p:=⟨b,off+j,none⟩) h3).trans (h4 j hj)⟩
theorem aK.src {w:World} {B:Nat} {v:Value} {l:List Int} (h:aK w B v l):jw w v l:=by
 obtain⟨a,c,rfl⟩:=h.sl;refine⟨a,c,rfl,fun hl=>?_⟩;obtain⟨b,rfl,hB,hb,_⟩:=h.at (j:=0) (List.length_pos_iff.2 hl);refine⟨b,0,rfl,hb,fun j hj=>?_⟩;obtain⟨b',e,_,_,hc,_⟩:=h.at hj;cases e;rw[Nat.zero_add];exact hc
theorem Bz {p:Prop} (h:p:=by rintro rfl;simp at hj):p:=h
theorem pT (w:World) (B:Nat) (v u:Value) (xs ys:List Int) (ty:TypeId) (hB:B≤w.heap.size) (h:aK w B v xs) (hs:jw w u ys) (hl:xs.length+ys.length≤1000):
  ∃v' w',(Builtin.append_ #[50,50] ty #[v,u]).run Tryz.prog w= .ok v' w'∧aK w' B v' (xs++ys)∧w.grownBy w' v.ownBlock:=by
 obtain⟨i0,hi,hz0,hz1,hz2⟩:=info_parts Tryz.infoI;obtain⟨ad,c,rfl,h2⟩:=hs;cases had:ad with
 | none=>
  have:ys=[]:=by
   by_cases hne:ys=[]
   ·exact hne
   ·obtain⟨b,off,e,_⟩:=h2 hne;rw[had] at e;cases e
  subst this;by_cases hc:c=0
  ·subst hc;exact⟨v,w,run_append_owned_none w B 50 ty 3 i0 1 Tryz.underlying50 hi v xs.length _ h,by rw[List.append_nil];exact h,World.grownBy.refl _ _⟩
  ·refine⟨v,w,?_,by rw[List.append_nil];exact h,World.grownBy.refl _ _⟩;rcases h.2 with ⟨rfl,h1⟩ | ⟨g,cap,cur,rfl,_,_,hnc,_⟩
   ·simp[Builtin.append_,run_underlying Tryz.underlying50,sizeOf,typeInfo,hi,Builtin.lenOf,Builtin.firstCells]
   ·simp[Builtin.append_,run_underlying Tryz.underlying50,sizeOf,typeInfo,hi,Builtin.lenOf,Builtin.firstCells,hnc,storeCells]
 | some a=>
  have hnews: ∀j x,(dc ys)[j]? =some x→w.cell? (a.add j)=some x:=by
   intro j x hx;have hj:j<ys.length:=by have:=(List.getElem?_eq_some_iff.1 hx).1;simpa[dc] using this
   obtain⟨b,off,e,_,hc⟩:=h2 Bz;rw[had] at e;cases e;rw[Addr.add_lit,hc j hj,←k5 hj,hx]
  obtain⟨v',w',hr,ho,hg,_⟩:=run_append_own (P:=Tryz.prog) w B 50 ty 3 i0 (.int .i64 0) 1 8 Tryz.underlying50 hi hz0 hz1 hz2 rfl BD v xs.length _ h a ys.length c (dc ys) (by simp[dc]) hnews (pG ys) Cf A3 hB;refine⟨v',w',hr,?_,hg⟩;unfold aK;rw[List.length_append,show dc (xs++ys)=dc xs++dc ys by simp[dc]];exact ho
section
variable {ops:Array Oper} {rest:List Oper} {o:Oper} {a:Act} {w:World} {Q:Exit→Act→World→Prop} {K:Act→World→Prop}
theorem AE {p:Prop} (h:p:=by unfold Oper.wp execOp;simp only[ho,resolve,invoke,builtin,Sem.run_bind,Sem.run_pure,Result.andThen_ok,List.map_toArray,List.map_cons,List.map_nil,hs,hx,hr];exact h v' w' ho' hg):p:=h
theorem re (s x:Operand) (ho:o.op= .call { callee:=.builtin .append,args:= #[s,x],argTypes:= #[50,50] }) (B:Nat) (v u:Value) (xs ys:List Int) (hs:a.eval s=v) (hx:a.eval x=u)
  (hB:B≤w.heap.size) (h1:aK w B v xs) (h2:jw w u ys) (hl:xs.length+ys.length≤1000) (h: ∀v' w',aK w' B v' (xs++ys)→w.grownBy w' v.ownBlock→K (a.put o.dst v') w'):o.wp Tryz.prog a w K Q:=by
 obtain⟨v',w',hr,ho',hg⟩:=pT w B v u xs ys o.type hB h1 h2 hl;exact AE
theorem cY (hg:o.guard=none) (s x:Operand) (ho:o.op= .call { callee:=.builtin .append,args:= #[s,x],argTypes:= #[50,50] }) (B:Nat) (v u:Value) (xs ys:List Int) (hs:a.eval s=v) (hx:a.eval x=u)
  (hB:B≤w.heap.size) (h1:aK w B v xs) (h2:jw w u ys) (hl:xs.length+ys.length≤1000) (h: ∀v' w',aK w' B v' (xs++ys)→w.grownBy w' v.ownBlock→wpList Tryz.prog ops Q rest (a.put o.dst v') w'):wpList Tryz.prog ops Q (o::rest) a w:=
 wpList_plain hg fun _ hK=>re s x ho B v u xs ys hs hx hB h1 h2 hl fun v' w' h3 h4=>hK _ _ (h v' w' h3 h4)
theorem aK.empty (w:World) (B:Nat) (hB:B≤w.heap.size):aK (w.alloc (.cells #[] 3)) B (.slice (some ⟨w.heap.size,0,none⟩) 0 0) []:=World.ownsRow_made w #[] 0 hB A3 rfl
end
def RT (w:World) (B:Nat) (v:Value) (l:List Int) (m:Int):Prop:=∃a c,v= .agg #[.slice a l.length c,.int .i64 m]∧aK w B (.slice a l.length c) l
theorem RT.below {w w':World} {B:Nat} {v:Value} {l:List Int} {m:Int} (h:RT w B v l m) (hb:Below w.heap.size w w'):RT w' B v l m:=by
 obtain⟨a,c,e,h⟩:=h;exact⟨a,c,e,h.below hb⟩
theorem RT.only {w w':World} {B p g:Nat} {v:Value} {l:List Int} {m:Int} (h:RT w B v l m) (ho:aQ p g w w') (hp:p<B) (hg:g<B):RT w' B v l m:=by
 obtain⟨a,c,e,h⟩:=h;exact⟨a,c,e,h.only ho hp hg⟩
theorem jw.at {w:World} {ad:Option Addr} {n c:Nat} {l:List Int} (h:jw w (.slice ad n c) l) {j:Nat} (hj:j<l.length): ∃b off,ad=some ⟨b,off,none⟩∧b<w.heap.size∧w.cell? ⟨b,off+j,none⟩=some (.int .i64 (l.getD j 0)):=by
 obtain⟨ad',c',e,h2⟩:=h;cases e;obtain⟨b,off,rfl,h3,h4⟩:=h2 Bz;exact⟨b,off,rfl,h3,h4 j hj⟩
theorem jw.sl {w:World} {u:Value} {l:List Int} (h:jw w u l): ∃a c,u= .slice a l.length c:=by
 obtain⟨a,c,e,_⟩:=h;exact⟨a,c,e⟩
def bZ (w:World) (e:Nat) (x:Int):Prop:=w.heap[e]? =some (.cells #[.int .i64 x] 3 (0,0))
section
variable {w w':World} {e:Nat} {x:Int}
theorem bZ.new (w:World) (x:Int):bZ (w.alloc (.cells #[.int .i64 x] 3)) w.heap.size x:=heap_alloc_new w _
theorem bZ.lt (h:bZ w e x):e<w.heap.size:=(Array.getElem?_eq_some_iff.1 h).1
theorem bZ.below (h:bZ w e x) (hb:Below w.heap.size w w'):bZ w' e x:=(hb.block e h.lt).trans h
theorem bZ.grown {r:Option Nat} (h:bZ w e x) (hg:w.grownBy w' r) (hne:some e≠r):bZ w' e x:=(hg.block e h.lt hne).trans h
theorem bZ.src (h:bZ w e x):jw w (.slice (some ⟨e,0,none⟩) 1 1) [x]:=by
 refine⟨_,1,rfl,fun _=>⟨e,0,rfl,h.lt,fun j hj=>?_⟩⟩;simp only[List.length_cons,List.length_nil] at hj;obtain rfl:j=0:=A3
 rw[cell_of_row _ e _ _ 3 (0,0) h];rfl
end
theorem aY {w w':World} {B:Nat} {v:Value} {l:List Int} (h:aK w B v l) (hB:B≤w.heap.size) (hg:w.grownBy w' v.ownBlock):Below B w w':=
 (Below.refl B w).grown hg hB (fun j e=>(h.lt j e).1)
theorem aK.form {w:World} {B:Nat} {ao:Option Addr} {co j:Nat} {L:List Int} (h:aK w B (.slice ao L.length co) L) (hj:j≤L.length):(ao=none∧co=0∧L=[]∧j=0)∨((∃g,ao=some ⟨g,0,none⟩)∧j≤co∧L.length≤co∧j≤L.length):=by
 rcases h.2 with ⟨h0,h1⟩ | ⟨g,cap,cur,e,_,_,h3,_⟩
 ·injection h0 with e1 e2 e3;exact .inl ⟨e1,e3,List.length_eq_zero_iff.1 h1,A3⟩
 ·cases e;exact .inr ⟨⟨g,rfl⟩,A3,h3,hj⟩
end Go.Proofs.YtohifgjeebhijaaGreatDoor
