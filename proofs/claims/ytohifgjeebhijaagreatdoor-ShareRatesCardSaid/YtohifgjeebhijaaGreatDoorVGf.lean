import Derived.Test.YtohifgjeebhijaaGreatDoorVXw
import Derived.Test.YtohifgjeebhijaaGreatDoorVLc
namespace Go.Proofs.YtohifgjeebhijaaGreatDoor
open Go.RowKit Go.Maps
theorem vE (w:World) (B:Nat) (v:Value) (xs:List Int) (e:Nat) (y:Int) (ty:TypeId) (hA:bZ w e y) (hB:B≤w.heap.size) (h:aK w B v xs) (hl:xs.length+1≤1000):
  ∃v' w',(Builtin.append_ #[50,50] ty #[v,.slice (some ⟨e,0,none⟩) 1 1]).run Tryz.prog w= .ok v' w'∧aK w' B v' (xs++[y])∧w.grownBy w' v.ownBlock∧(v'.ownBlock=v.ownBlock∨v'.ownBlock=some w.heap.size):=by
 obtain⟨i0,hi,hz0,hz1,hz2⟩:=info_parts Tryz.infoI;have hnews: ∀j u,(dc [y])[j]? =some u→w.cell? ((⟨e,0,none⟩:Addr).add j)=some u:=by
  intro j u hu;have hj:j<1:=(List.getElem?_eq_some_iff.1 hu).1;obtain rfl:j=0:=A3
  rw[Addr.add_lit,cell_of_row _ e _ _ 3 (0,0) hA,←hu];rfl
 obtain⟨v',w',hr,ho,hg,_,h5⟩:=run_append_own_at (P:=Tryz.prog) w B 50 ty 3 i0 (.int .i64 0) 1 8 Tryz.underlying50 hi hz0 hz1 hz2 rfl BD v xs.length _ h ⟨e,0,none⟩ 1 1 (dc [y]) rfl hnews (pG [y]) Cf A3 hB;refine⟨v',w',hr,?_,hg,h5⟩;unfold aK;rw[List.length_append,show dc (xs++[y])=dc xs++dc [y] by simp[dc]];exact ho
theorem aK.own {w:World} {B:Nat} {v:Value} {l:List Int} (h:aK w B v l) {j:Nat} (e:v.ownBlock=some j):B≤j∧j<w.heap.size:=by
 rcases h.2 with ⟨rfl,_⟩ | ⟨g,cap,cur,rfl,hb,hg,_⟩
 ·cases e
 ·cases e;exact⟨hb,(Array.getElem?_eq_some_iff.1 hg).1⟩
theorem aK.beside {w w':World} {B:Nat} {v:Value} {l:List Int} {r:Option Nat} (h:aK w B v l) (hg:w.grownBy w' r) (hne: ∀j,v.ownBlock=some j→some j≠r):aK w' B v l:=by
 refine⟨h.1,?_⟩;rcases h.2 with ⟨rfl,h1⟩ | ⟨g,cap,cur,rfl,hbg,hgc,h3⟩
 ·exact .inl ⟨rfl,h1⟩
 ·exact .inr ⟨g,cap,cur,rfl,hbg,by rw[hg.block g (Array.getElem?_eq_some_iff.1 hgc).1 (hne g rfl)];exact hgc,h3⟩
structure Two (w:World) (B:Nat) (v u:Value) (xs ys:List Int):Prop where
 l:aK w B v xs
 r:aK w B u ys
 ne: ∀j,v.ownBlock=some j→u.ownBlock=some j→False
section
variable {w w':World} {B:Nat} {v u:Value} {xs ys:List Int}
theorem Two.nil (w:World) (B:Nat):Two w B (.slice none 0 0) (.slice none 0 0) [] []:=⟨aK.nil _ _,aK.nil _ _,fun j e=>by cases e⟩
theorem Two.below (h:Two w B v u xs ys) (hb:Below w.heap.size w w'):Two w' B v u xs ys:=⟨h.l.below hb,h.r.below hb,h.ne⟩
theorem Two.pushL {v':Value} {y:Int} (h:Two w B v u xs ys) (hr:aK w' B v' (xs++[y])) (hg:w.grownBy w' v.ownBlock) (ho:v'.ownBlock=v.ownBlock∨v'.ownBlock=some w.heap.size):Two w' B v' u (xs++[y]) ys:=by
 refine⟨hr,h.r.beside hg fun j e e2=>h.ne j e2.symm e,fun j e1 e2=>?_⟩;rcases ho with ho | ho
 ·exact h.ne j (ho ▸ e1) e2
 ·rw[ho] at e1;cases e1;have:=(h.r.own e2).2;omega
theorem Two.pushR {u':Value} {y:Int} (h:Two w B v u xs ys) (hr:aK w' B u' (ys++[y])) (hg:w.grownBy w' u.ownBlock) (ho:u'.ownBlock=u.ownBlock∨u'.ownBlock=some w.heap.size):Two w' B v u' xs (ys++[y]):=by
 refine⟨h.l.beside hg fun j e e2=>h.ne j e e2.symm,hr,fun j e1 e2=>?_⟩;rcases ho with ho | ho
 ·exact h.ne j e1 (ho ▸ e2)
 ·rw[ho] at e2;cases e2;have:=(h.l.own e1).2;omega
end
section
variable {ops:Array Oper} {rest:List Oper} {o:Oper} {a:Act} {w:World} {Q:Exit→Act→World→Prop} {K:Act→World→Prop}
theorem dZ (s x:Operand) (ho:o.op= .call { callee:=.builtin .append,args:= #[s,x],argTypes:= #[50,50] }) (B:Nat) (v:Value) (xs:List Int) (e:Nat) (y:Int) (hs:a.eval s=v) (hx:a.eval x= .slice (some ⟨e,0,none⟩) 1 1)
  (hA:bZ w e y) (hB:B≤w.heap.size) (h1:aK w B v xs) (hl:xs.length+1≤1000) (h: ∀v' w',aK w' B v' (xs++[y])→w.grownBy w' v.ownBlock→(v'.ownBlock=v.ownBlock∨v'.ownBlock=some w.heap.size)→K (a.put o.dst v') w'):o.wp Tryz.prog a w K Q:=by
 obtain⟨v',w',hr,ho',hg,h5⟩:=vE w B v xs e y o.type hA hB h1 hl;unfold Oper.wp execOp;simp only[ho,resolve,invoke,builtin,Sem.run_bind,Sem.run_pure,Result.andThen_ok,List.map_toArray,List.map_cons,List.map_nil,hs,hx,hr];exact h v' w' ho' hg h5
theorem eH (hg:o.guard=none) (s x:Operand) (ho:o.op= .call { callee:=.builtin .append,args:= #[s,x],argTypes:= #[50,50] }) (B:Nat) (v:Value) (xs:List Int) (e:Nat) (y:Int) (hs:a.eval s=v) (hx:a.eval x= .slice (some ⟨e,0,none⟩) 1 1)
  (hA:bZ w e y) (hB:B≤w.heap.size) (h1:aK w B v xs) (hl:xs.length+1≤1000) (h: ∀v' w',aK w' B v' (xs++[y])→w.grownBy w' v.ownBlock→(v'.ownBlock=v.ownBlock∨v'.ownBlock=some w.heap.size)→wpList Tryz.prog ops Q rest (a.put o.dst v') w'):wpList Tryz.prog ops Q (o::rest) a w:=
 wpList_plain hg fun _ hK=>dZ s x ho B v xs e y hs hx hA hB h1 hl fun v' w' h3 h4 h5=>hK _ _ (h v' w' h3 h4 h5)
end
theorem aK.rowI {w:World} {B:Nat} {v:Value} {l:List Int} (h:aK w B v l):iI w v l:=by
 obtain⟨a,c,rfl,hc,_⟩:=h.cap;obtain⟨a',c',e,h2⟩:=h.src;cases e;exact⟨a,c,rfl,hc,h2⟩
theorem A0 {p:Prop} (h:p:=by simp[List.getD_eq_getElem?_getD,List.getElem?_eq_getElem h]):p:=h
theorem map_take {α β:Type} (f:α→β) {l:List α} {k:Nat} (d:α) (h:k<l.length):(l.take (k+1)).map f=(l.take k).map f++[f (l.getD k d)]:=by
 rw[List.take_add_one,List.map_append,List.getElem?_eq_getElem h];exact A0
end Go.Proofs.YtohifgjeebhijaaGreatDoor
