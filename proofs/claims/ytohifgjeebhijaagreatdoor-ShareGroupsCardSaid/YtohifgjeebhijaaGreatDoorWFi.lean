/-
  What this claim needs; no condition of its own. Told short by a script from longer texts.
-/
import Derived.Deep.DeepAppendRoom
import Derived.Deep.DeepAppendWide
import Derived.Test.YtohifgjeebhijaaGreatDoorWFe
import Derived.Test.YtohifgjeebhijaaGreatDoorWRq
namespace Go.Proofs.YtohifgjeebhijaaGreatDoor
open Go.RowKit Go.Dig Go.Shelf Go.Proofs Go.Rq
def isSl (u:Value):Prop:=∃a n c,u= .slice a n c
def OwnS (w:World) (base:Nat) (e:TypeId) (v:Value) (n:Nat) (xs:List Value):Prop:=
 xs.length=n*2∧((v= .slice none 0 0∧n=0)∨∃g cap cur,v= .slice (some ⟨g,0,none⟩) n cap∧base≤g∧w.heap[g]? =some (.cells cur e (0,0))∧n≤cap∧cap≤maxLen∧cur.size=cap*2∧cur.toList.take (n*2)=xs∧∀u∈cur.toList,isSl u)
theorem OwnS.nil (w:World) (base:Nat) (e:TypeId):OwnS w base e (.slice none 0 0) 0 []:=⟨by simp,.inl ⟨rfl,rfl⟩⟩
section
variable {P:Program} {w w':World} {base:Nat} {e:TypeId} {v:Value} {n:Nat} {xs:List Value}
theorem OwnS.lt (h:OwnS w base e v n xs): ∀k,v.ownBlock=some k→base≤k∧k<w.heap.size:=by
 intro k hk
 rcases h.2 with ⟨rfl,_⟩ | ⟨g,cap,cur,rfl,hb,hg,_⟩
 ·cases hk
 ·cases hk
  exact⟨hb,(Array.getElem?_eq_some_iff.1 hg).1⟩
theorem OwnS.below (h:OwnS w base e v n xs) (hb:Below w.heap.size w w'):OwnS w' base e v n xs:=by
 refine⟨h.1,?_⟩
 rcases h.2 with h2 | ⟨g,cap,cur,e1,hbg,hg,h3⟩
 ·exact .inl h2
 ·exact .inr ⟨g,cap,cur,e1,hbg,(hb.block g (Array.getElem?_eq_some_iff.1 hg).1).trans hg,h3⟩
theorem zeros_sl {m:Nat}: ∀u∈(Builtin.zeroCells (Value.agg #[.slice none 0 0,.slice none 0 0]).cells m).toList,isSl u:=by
 intro u hu
 have e1:(Value.agg #[.slice none 0 0,.slice none 0 0]).cells= #[.slice none 0 0,.slice none 0 0]:=by rfl
 rw[e1] at hu
 simp[Builtin.zeroCells] at hu
 obtain⟨a,_,rfl⟩:=hu
 have h2:a % 2<2:=Nat.mod_lt _ (by omega)
 generalize a % 2=r at h2
 match r,h2 with
 | 0,_=>exact⟨none,0,0,rfl⟩
 | 1,_=>exact⟨none,0,0,rfl⟩
theorem made_sl {m:Nat}: ∀u∈(madeCells (Value.agg #[.slice none 0 0,.slice none 0 0]).cells m).toList,isSl u:=by
 intro u hu
 have e1:(Value.agg #[.slice none 0 0,.slice none 0 0]).cells= #[.slice none 0 0,.slice none 0 0]:=by rfl
 rw[e1] at hu
 simp[madeCells] at hu
 obtain⟨a,_,rfl⟩:=hu
 have h2:a % 2<2:=Nat.mod_lt _ (by omega)
 generalize a % 2=r at h2
 match r,h2 with
 | 0,_=>exact⟨none,0,0,rfl⟩
 | 1,_=>exact⟨none,0,0,rfl⟩
theorem run_append_S (t ty:TypeId) (i:TypeInfo) (ht:P.underlying t=some (.slice e)) (hi:P.info? e=some i) (hz:i.zero=some (.agg #[.slice none 0 0,.slice none 0 0]))
  (hsize:i.size=2) (hby:i.bytes=48) (hown:OwnS w base e v n xs) (a:Addr) (c:Nat) (x y:Value) (hx:isSl x) (hy:isSl y) (hnews: ∀j u,[x,y][j]? =some u→w.cell? (a.add j)=some u)
  (hn:n≤1000) (hbase:base≤w.heap.size):
  ∃v' w',(Builtin.append_ #[t,t] ty #[v,.slice (some a) 1 c]).run P w= .ok v' w'∧OwnS w' base e v' (n+1) (xs++[x,y])∧w.grownBy w' v.ownBlock:=by
 have h1: ∀u∈[x,y],u.oneCell'=true:=by
  intro u hu
  obtain⟨_,_,_,rfl⟩:=hx
  obtain⟨_,_,_,rfl⟩:=hy
  simp at hu
  rcases hu with rfl | rfl<;>rfl
 have hsl: ∀u∈[x,y],isSl u:=by
  intro u hu
  simp at hu
  rcases hu with rfl | rfl
  ·exact hx
  ·exact hy
 have hl:[x,y].length=1*i.size:=by rw[hsize];rfl
 have hlen:(xs++[x,y]).length=(n+1)*2:=by rw[List.length_append,hown.1];simp;omega
 have h63:n+1≤maxLen:=by unfold maxLen;omega
 have hz2:(Value.agg #[.slice none 0 0,.slice none 0 0]).cells.size=2:=by rfl
 have hzx: ∀u∈xs,isSl u:=by
  rcases hown.2 with ⟨_,h0⟩ | ⟨g,cap,cur,_,_,_,_,_,_,h6,h7⟩
  ·have:xs=[]:=List.eq_nil_of_length_eq_zero (by rw[hown.1,h0])
   rw[this];intro u hu;simp at hu
  ·intro u hu
   rw[←h6] at hu
   exact h7 u (List.mem_of_mem_take hu)
 have grown: ∀(old:Nat) (row:Option Nat),
   OwnS (w.drew.alloc (.cells (xs.toArray++[x,y].toArray++Builtin.zeroCells (Value.agg #[.slice none 0 0,.slice none 0 0]).cells (grownCap w (n+1) old e - (n+1))) e)) base e
    (.slice (some ⟨w.heap.size,0,none⟩) (n+1) (grownCap w (n+1) old e)) (n+1) (xs++[x,y])∧
   w.grownBy (w.drew.alloc (.cells (xs.toArray++[x,y].toArray++Builtin.zeroCells (Value.agg #[.slice none 0 0,.slice none 0 0]).cells (grownCap w (n+1) old e - (n+1))) e)) row:=by
  intro old row
  have hge:=grownCap_ge w (n+1) old e
  have hcm:grownCap w (n+1) old e≤maxLen:=grownCap_le_maxLen w (n+1) old e h63
  refine⟨⟨hlen,.inr ⟨w.heap.size,_,_,rfl,hbase,heap_alloc_new w.drew _,hge,hcm,?_,?_,?_⟩⟩,⟨rfl,rfl,rfl,by simp,fun k hk _=>heap_alloc_old w.drew _ hk⟩⟩
  ·simp only[Array.size_append,List.size_toArray,size_zeroCells,hz2,hown.1]
   simp
   omega
  ·simp only[Array.toList_append,List.append_assoc]
   rw[←List.append_assoc,←hlen]
   exact List.take_left
  ·intro u hu
   simp only[Array.toList_append,List.mem_append] at hu
   rcases hu with (hu | hu) | hu
   ·exact hzx u hu
   ·exact hsl u hu
   ·exact zeros_sl u hu
 rcases hown.2 with ⟨rfl,rfl⟩ | ⟨g,cap,cur,rfl,hbg,hg,hnc,hcm,hcs,htake,hall⟩
 ·have hx0:xs=[]:=List.eq_nil_of_length_eq_zero (by simpa using hown.1)
  subst hx0
  have hr:=run_append_nil (P:=P) w t ty e i _ ht hi hz a 1 c [x,y] hl hnews (by omega) (by omega) (by rw[hby];omega)
  have hgr:=grown 0 (Value.ownBlock (.slice none 0 0))
  simp only[Nat.zero_add,List.nil_append,Array.empty_append] at hgr ⊢
  exact⟨_,_,hr,hgr.1,hgr.2⟩
 ·by_cases hroom:n+1≤cap
  ·have hfit:n*i.size+[x,y].length≤cur.size:=by rw[hsize,hcs];simp;omega
   have hr:=run_append_room (P:=P) w t ty e i ht hi g n cap cur hg a 1 c [x,y] hl hnews h1 hroom hfit
   rw[hsize] at hr
   refine⟨_,_,hr,⟨hlen,.inr ⟨g,cap,_,rfl,hbg,setRow_heap w g cur _ e _ hg,hroom,hcm,?_,?_,?_⟩⟩,⟨rfl,rfl,rfl,by simp,fun k _ hk=>setRow_other w g k _ (fun e=>hk (by simp[Value.ownBlock,e]))⟩⟩
   ·simp only[List.size_toArray,List.length_append,List.length_take,List.length_drop,Array.length_toList]
    rw[hcs]
    simp
    omega
   ·rw[htake,←hlen]
    exact List.take_left
   ·intro u hu
    simp only[List.mem_append] at hu
    rcases hu with (hu | hu) | hu
    ·exact hall u (List.mem_of_mem_take hu)
    ·exact hsl u hu
    ·exact hall u (List.mem_of_mem_drop hu)
  ·have holds: ∀j u,xs[j]? =some u→w.cell? ((⟨g,0,none⟩:Addr).add j)=some u:=by
    intro j u hj
    rw[←htake,List.getElem?_take] at hj
    split at hj
    ·simp only[Addr.add_lit,Nat.zero_add,World.cell?,hg]
     simpa using hj
    ·cases hj
   have hr:=run_append_grow (P:=P) w t ty e i _ ht hi hz ⟨g,0,none⟩ n cap xs (by rw[hsize];exact hown.1) holds a 1 c [x,y] hl hnews (by omega) (by omega) (growslice_fits_wide (by omega) (by rw[hby];omega))
   have hgr:=grown cap (Value.ownBlock (.slice (some ⟨g,0,none⟩) n cap))
   exact⟨_,_,hr,hgr.1,hgr.2⟩
theorem wpList_append_S {ops:Array Oper} {rest:List Oper} {o:Oper} {a:Act} {Q:Exit→Act→World→Prop} (hgd:o.guard=none) (s x:Operand) (t:TypeId)
  (ho:o.op= .call { callee:=.builtin .append,args:= #[s,x],argTypes:= #[t,t] })
  (i:TypeInfo) (ht:P.underlying t=some (.slice e)) (hi:P.info? e=some i) (hz:i.zero=some (.agg #[.slice none 0 0,.slice none 0 0])) (hsize:i.size=2) (hby:i.bytes=48)
  (hs:a.eval s=v) (hown:OwnS w base e v n xs) (ad:Addr) (c:Nat) (y z:Value) (hx:a.eval x= .slice (some ad) 1 c) (hy:isSl y) (hz':isSl z) (hnews: ∀j u,[y,z][j]? =some u→w.cell? (ad.add j)=some u)
  (hn:n≤1000) (hbase:base≤w.heap.size)
  (h: ∀v' w',OwnS w' base e v' (n+1) (xs++[y,z])→w.grownBy w' v.ownBlock→wpList P ops Q rest (a.put o.dst v') w'):wpList P ops Q (o::rest) a w:=by
 refine wpList_plain hgd fun K hK=>?_
 obtain⟨v',w',hr,h2,h3⟩:=run_append_S (P:=P) t o.type i ht hi hz hsize hby hown ad c y z hy hz' hnews hn hbase
 unfold Oper.wp execOp
 simp only[ho,resolve,invoke,builtin,Sem.run_bind,Sem.run_pure,Result.andThen_ok,List.map_toArray,List.map_cons,List.map_nil,hs,hx,hr]
 exact hK _ _ (h v' w' h2 h3)
theorem Lim.grownS {q:IntKind} {u:Value} {l:List Nat} (h:Lim q w u l) (ho:OwnS w base e v n xs) (hg:w.grownBy w' v.ownBlock):Lim q w' u l:=by
 obtain⟨ad,cap,e1,h1,h2⟩:=h
 refine⟨ad,cap,e1,h1,fun hne=>?_⟩
 obtain⟨b,off,rfl,hb,hc⟩:=h2 hne
 have hne2:some b≠v.ownBlock:=by
  intro eb
  have h3:=hc 0 (List.length_pos_iff.2 hne)
  rcases ho.2 with ⟨rfl,_⟩ | ⟨g,cap2,cur,rfl,_,hgr,_,_,_,_,hall⟩
  ·cases eb
  ·cases eb
   simp only[World.cell?,hgr,Nat.add_zero] at h3
   obtain⟨h4,h5⟩:=Array.getElem?_eq_some_iff.1 h3
   obtain⟨_,_,_,h6⟩:=hall _ (Array.getElem_mem_toList h4)
   rw[h5] at h6
   cases h6
 exact⟨b,off,rfl,Nat.lt_of_lt_of_le hb hg.size,fun j hj=>(World.cell?_of_block (w:=w) (a:=⟨b,off+j,none⟩) (hg.block b hb hne2)).trans (hc j hj)⟩
theorem RQ.grownS {p q:Sl} {r:Rat} (h:RQ w p q r) (ho:OwnS w base e v n xs) (hg:w.grownBy w' v.ownBlock):RQ w' p q r:=⟨h.1,h.2.1.grownS ho hg,h.2.2.grownS ho hg⟩
theorem RK.grownS {p q:Sl} {r:Rat} (h:RK w p q r) (ho:OwnS w base e v n xs) (hg:w.grownBy w' v.ownBlock):RK w' p q r:=⟨h.1,h.2.1.grownS ho hg,h.2.2.grownS ho hg⟩
theorem wpList_make_S {ops:Array Oper} {rest:List Oper} {o:Oper} {a:Act} {Q:Exit→Act→World→Prop} (hgd:o.guard=none) (l c:Operand) (t:TypeId) (hop:o.op=Op.makeSlice t l c)
  (i:TypeInfo) (ht:P.underlying t=some (.slice e)) (hi:P.info? e=some i) (hz:i.zero=some (.agg #[.slice none 0 0,.slice none 0 0])) (hsize:i.size=2) (hby:i.bytes=48)
  (m:Nat) (hl:a.eval l= .int .i64 0) (hc:a.eval c= .int .i64 (m:Int)) (hm:m≤1000) (hbase:base≤w.heap.size)
  (h: ∀w',OwnS w' base e (.slice (some ⟨w.heap.size,0,none⟩) 0 m) 0 []→w.grownBy w' none→wpList P ops Q rest (a.put o.dst (.slice (some ⟨w.heap.size,0,none⟩) 0 m)) w'):wpList P ops Q (o::rest) a w:=by
 refine wpList_plain hgd fun K hK'=>?_
 have hr:=run_make (P:=P) w t e i _ ht hi hz .i64 .i64 0 (m:Int) (Int.le_refl _) (by omega) (by rw[hby];omega) (by omega)
 simp only[Int.toNat_zero,Int.toNat_natCast] at hr
 unfold Oper.wp
 simp[execOp,hop,hl,hc,hr,Result.andThen]
 refine hK' _ _ (h _ ⟨rfl,.inr ⟨w.heap.size,m,_,rfl,hbase,heap_alloc_new w _,Nat.zero_le _,by unfold maxLen;omega,by rw[size_madeCells,hsize],by simp,made_sl⟩⟩ (World.grownBy_alloc w _ none))
theorem Pair.grownS {B:Nat} {t:TypeId} {x y:Value} (h:Pair w B t x y) (ho:OwnS w base e v n xs) (hB:B<base) (hg:w.grownBy w' v.ownBlock):Pair w' B t x y:=
 (hg.block B h.lt (fun eb=>by have:=ho.lt B eb.symm;omega)).trans h
theorem KB.grownS {C:Nat} {ks:List Kid} (h:KB w C ks) (ho:OwnS w base e v n xs) (hg:w.grownBy w' v.ownBlock):KB w' C ks:=by
 refine⟨Nat.lt_of_lt_of_le h.1 hg.size,fun j hj=>?_⟩
 have hne:some C≠v.ownBlock:=by
  intro eb
  have h3:=(h.2 0 (Nat.lt_of_le_of_lt (Nat.zero_le _) hj)).1.1
  rcases ho.2 with ⟨rfl,_⟩ | ⟨g,cap2,cur,rfl,_,hgr,_,_,_,_,hall⟩
  ·cases eb
  ·cases eb
   simp only[World.cell?,hgr,Nat.zero_mul] at h3
   obtain⟨h4,h5⟩:=Array.getElem?_eq_some_iff.1 h3
   obtain⟨_,_,_,h6⟩:=hall _ (Array.getElem_mem_toList h4)
   rw[h5] at h6
   cases h6
 have e1:=hg.block C h.1 hne
 rw[World.cell?_of_block (w:=w) (a:=⟨C,j*2,none⟩) e1,World.cell?_of_block (w:=w) (a:=⟨C,j*2+1,none⟩) e1,World.frozen?_of_block (w:=w) (a:=⟨C,j*2,none⟩) e1,World.frozen?_of_block (w:=w) (a:=⟨C,j*2+1,none⟩) e1]
 exact h.2 j hj
end
def Gets (K:World→Sl→Sl→Rat→Prop) (w:World) (xs:List Value) (rs:List Rat):Prop:=
 xs.length=rs.length*2∧∀j,j<rs.length→∃p q:Sl,xs[j*2]? =some (.slice p.a p.n p.c)∧xs[j*2+1]? =some (.slice q.a q.n q.c)∧K w p q (rs.getD j 0)
theorem Gets.nil (K:World→Sl→Sl→Rat→Prop) (w:World):Gets K w [] []:=⟨rfl,fun j hj=>by simp at hj⟩
theorem Gets.move {K:World→Sl→Sl→Rat→Prop} {w w':World} {xs:List Value} {rs:List Rat} (h:Gets K w xs rs) (hm: ∀p q r,K w p q r→K w' p q r):Gets K w' xs rs:=
 ⟨h.1,fun j hj=>by obtain⟨p,q,h1,h2,h3⟩:=h.2 j hj;exact⟨p,q,h1,h2,hm _ _ _ h3⟩⟩
theorem Gets.snoc {K:World→Sl→Sl→Rat→Prop} {w:World} {xs:List Value} {rs:List Rat} {p q:Sl} {r:Rat} (h:Gets K w xs rs) (hr:K w p q r):Gets K w (xs++[.slice p.a p.n p.c,.slice q.a q.n q.c]) (rs++[r]):=by
 refine⟨by rw[List.length_append,h.1,List.length_append];simp;omega,fun j hj=>?_⟩
 have h1:=h.1
 rw[List.length_append] at hj
 simp only[List.length_cons,List.length_nil] at hj
 by_cases e:j<rs.length
 ·obtain⟨p',q',a1,a2,a3⟩:=h.2 j e
  refine⟨p',q',?_,?_,?_⟩
  ·rw[List.getElem?_append_left (by omega)];exact a1
  ·rw[List.getElem?_append_left (by omega)];exact a2
  ·rw[show (rs++[r]).getD j 0=rs.getD j 0 from by simp[List.getD_eq_getElem?_getD,List.getElem?_append_left e]];exact a3
 ·have ej:j=rs.length:=by omega
  subst ej
  refine⟨p,q,?_,?_,?_⟩
  ·rw[List.getElem?_append_right (by omega),h1];simp
  ·rw[List.getElem?_append_right (by omega),h1];simp
  ·rw[show (rs++[r]).getD rs.length 0=r from by simp[List.getD_eq_getElem?_getD]];exact hr
def RowX (K:World→Sl→Sl→Rat→Prop) (w:World) (v:Value) (rs:List Rat):Prop:=
 ∃ad cap,v= .slice ad rs.length cap∧(rs≠[]→∃B,ad=some ⟨B,0,none⟩∧B<w.heap.size∧∀j,j<rs.length→∃p q:Sl,w.cell? ⟨B,j*2,none⟩=some (.slice p.a p.n p.c)∧w.cell? ⟨B,j*2+1,none⟩=some (.slice q.a q.n q.c)∧K w p q (rs.getD j 0))
theorem RowX.of_own {K:World→Sl→Sl→Rat→Prop} {w:World} {base:Nat} {e:TypeId} {v:Value} {xs:List Value} {rs:List Rat} (h:OwnS w base e v rs.length xs) (hg:Gets K w xs rs):RowX K w v rs:=by
 rcases h.2 with ⟨rfl,h0⟩ | ⟨g,cap,cur,rfl,_,hgr,_,_,_,ht,_⟩
 ·exact⟨none,0,by rw[h0],fun hne=>absurd (List.eq_nil_of_length_eq_zero h0) hne⟩
 ·refine⟨_,_,rfl,fun _=>⟨g,rfl,(Array.getElem?_eq_some_iff.1 hgr).1,fun j hj=>?_⟩⟩
  obtain⟨p,q,h1,h2,h3⟩:=hg.2 j hj
  have hc: ∀i u,xs[i]? =some u→w.cell? ⟨g,i,none⟩=some u:=by
   intro i u hi
   rw[←ht,List.getElem?_take] at hi
   split at hi
   ·simp only[World.cell?,hgr]
    simpa using hi
   ·cases hi
  exact⟨p,q,hc _ _ h1,hc _ _ h2,h3⟩
theorem RowX.below {K:World→Sl→Sl→Rat→Prop} {w w':World} {v:Value} {rs:List Rat} (h:RowX K w v rs) (hm: ∀p q r,K w p q r→K w' p q r) (hb:Below w.heap.size w w'):RowX K w' v rs:=by
 obtain⟨ad,cap,e,h2⟩:=h
 refine⟨ad,cap,e,fun hne=>?_⟩
 obtain⟨B,rfl,hB,hc⟩:=h2 hne
 refine⟨B,rfl,Nat.lt_of_lt_of_le hB hb.size,fun j hj=>?_⟩
 obtain⟨p,q,h1,h2,h3⟩:=hc j hj
 exact⟨p,q,(hb.cell (p:=⟨B,j*2,none⟩) hB).trans h1,(hb.cell (p:=⟨B,j*2+1,none⟩) hB).trans h2,hm _ _ _ h3⟩
theorem RowX.len {K:World→Sl→Sl→Rat→Prop} {w:World} {p:Sl} {rs:List Rat} (h:RowX K w (.slice p.a p.n p.c) rs):p.n=rs.length:=by
 obtain⟨ad,cap,e,_⟩:=h
 injection e
theorem RowX.sl {K:World→Sl→Sl→Rat→Prop} {w:World} {v:Value} {rs:List Rat} (h:RowX K w v rs): ∃p:Sl,v= .slice p.a p.n p.c∧RowX K w (.slice p.a p.n p.c) rs:=by
 obtain⟨ad,cap,rfl,h2⟩:=h
 exact⟨⟨ad,rs.length,cap⟩,rfl,ad,cap,rfl,h2⟩
abbrev RowQ:=RowX RQ
def errOf (x:Rat) (ws cs:List Int):Int:=
 if ws.length≠cs.length then 17 else if 32<ws.length then 6 else if ws.any noW=true then 13 else if cs.any noC=true then 14 else if ((cs.sum.toNat:Nat):Rat)<x then 14 else 0
theorem noC_ok {cs:List Int} (h:cs.any noC=false): ∀z∈cs,0≤z∧z≤64:=by
 intro z hz
 have h1:=List.any_eq_false.1 h z hz
 simp[noC] at h1
 omega
theorem sum_bound: ∀cs:List Int,(∀z∈cs,0≤z∧z≤64)→0≤cs.sum∧cs.sum≤64*cs.length
 | [],_=>by simp
 | c::cs,h=>by
  have h1:=sum_bound cs (fun z hz=>h z (List.mem_cons_of_mem _ hz))
  have h2:=h c List.mem_cons_self
  rw[List.sum_cons,List.length_cons]
  omega
theorem check_any (p q a b:Sl) (x:Rat) (ws cs:List Int) (w:World) (hx:RQ w p q x) (ha:RI w a ws) (hc:RI w b cs) (hlw:ws.length≤200):
  Calls Tryz.prog 152 #[.agg #[.slice p.a p.n p.c,.slice q.a q.n q.c],.slice a.a a.n a.c,.slice b.a b.n b.c] w fun e w'=>e= .returned (.int .i64 (errOf x ws cs))∧Below w.heap.size w w':=by
 unfold errOf
 by_cases h1:ws.length≠cs.length
 ·rw[if_pos h1];exact check_len p q a b x ws cs w hx ha hc hlw h1
 ·have he:cs.length=ws.length:=by omega
  rw[if_neg h1]
  by_cases h2:32<ws.length
  ·rw[if_pos h2];exact check_full p q a b x ws cs w hx ha hc hlw he h2
  ·rw[if_neg h2]
   by_cases h3:ws.any noW=true
   ·rw[if_pos h3];exact check_weight p q a b x ws cs w hx ha hc hlw he (by omega) h3
   ·rw[if_neg h3]
    have h3':ws.any noW=false:=by simpa using h3
    by_cases h4:cs.any noC=true
    ·rw[if_pos h4];exact check_cap p q a b x ws cs w hx ha hc hlw he (by omega) h3' h4
    ·rw[if_neg h4]
     have h4':cs.any noC=false:=by simpa using h4
     have hb:=sum_bound cs (noC_ok h4')
     have hs:cs.sum=((cs.sum.toNat:Nat):Int):=by omega
     have hC: ∀z∈cs,0≤z∧z≤10000:=fun z hz=>by have:=noC_ok h4' z hz;omega
     by_cases h5:((cs.sum.toNat:Nat):Rat)<x
     ·rw[if_pos h5];exact check_high p q a b x ws cs w hx ha hc hlw he (by omega) h3' h4' cs.sum.toNat (by omega) (Lib.hid hs) (Lib.hid hC) (Lib.hid h5)
     ·rw[if_neg h5];exact check_ok p q a b x ws cs w hx ha hc hlw he (by omega) h3' h4' cs.sum.toNat (by omega) (Lib.hid hs) (Lib.hid hC) (Lib.hid h5)
end Go.Proofs.YtohifgjeebhijaaGreatDoor
namespace Go.Proofs.YtohifgjeebhijaaGreatDoor
set_option maxRecDepth 100000
set_option maxHeartbeats 4000000
open Go.RowKit Go.Dig Go.Shelf Go.Proofs Go.Rq
theorem Level_bad (p q a b:Sl) (x:Rat) (ws cs:List Int) (w:World) (hx:RQ w p q x) (ha:RI w a ws) (hc:RI w b cs) (hlw:ws.length≤200) (cd:Int) (_hcd:cd≠0) (hcb:(cd==0)=false) (HC:Hid (errOf x ws cs=cd)):
  Calls Tryz.prog 139 #[.agg #[.slice p.a p.n p.c,.slice q.a q.n q.c],.slice a.a a.n a.c,.slice b.a b.n b.c] w fun e w'=>e= .returned (.tuple #[.agg #[.slice none 0 0,.slice none 0 0],.int .i64 cd])∧Below w.heap.size w w':=by
 go_enter Tryz.func139,Tryz.ntmps139
 have hb:Below w.heap.size w ((w.alloc (.cells #[.slice p.a p.n p.c,.slice q.a q.n q.c] 49)).alloc (.cells #[.slice none 0 0,.slice none 0 0] 49)):=(((Below.refl _ _).alloc (Nat.le_refl _) _).alloc (by simp) _)
 replace hx:=hx.below hb
 replace ha:=ha.below hb
 replace hc:=hc.below hb
 have hB:=hb
 have P1:Pair ((w.alloc (.cells #[.slice p.a p.n p.c,.slice q.a q.n q.c] 49)).alloc (.cells #[.slice none 0 0,.slice none 0 0] 49)) (w.heap.size) 49 (.slice p.a p.n p.c) (.slice q.a q.n q.c):=by
  have h:=(Pair.new w 49 (.slice p.a p.n p.c) (.slice q.a q.n q.c)).alloc (.cells #[.slice none 0 0,.slice none 0 0] 49)
  simpa only[World.size_alloc] using h
 have P2:Pair ((w.alloc (.cells #[.slice p.a p.n p.c,.slice q.a q.n q.c] 49)).alloc (.cells #[.slice none 0 0,.slice none 0 0] 49)) (w.heap.size+1) 49 (.slice none 0 0) (.slice none 0 0):=by
  have h:=Pair.new (w.alloc (.cells #[.slice p.a p.n p.c,.slice q.a q.n q.c] 49)) 49 (.slice none 0 0) (.slice none 0 0)
  simpa only[World.size_alloc] using h
 clear hb
 have c0P1:=P1.c0
 have c1P1:=P1.c1
 have c0P2:=P2.c0
 have c1P2:=P2.c1
 have H3:=Lib.hid (check_any p q a b x ws cs ((w.alloc (.cells #[.slice p.a p.n p.c,.slice q.a q.n q.c] 49)).alloc (.cells #[.slice none 0 0,.slice none 0 0] 49)) hx ha hc hlw)
 rw[HC.out] at H3
 go_wp2_with fail
 clear c0P1 c1P1 c0P2 c1P2
 refine H3.out.mono ?_
 rintro e w4 ⟨rfl,hb⟩
 clear H3
 replace P1:=P1.below hb
 replace P2:=P2.below hb
 replace hx:=hx.below hb
 replace ha:=ha.below hb
 replace hc:=hc.below hb
 replace hB:=hB.trans (hb.mono hB.size)
 clear hb
 have c0P1:=P1.c0
 have c1P1:=P1.c1
 have c0P2:=P2.c0
 have c1P2:=P2.c1
 have z0:=P2.z0
 have z1:=P2.z1
 have hsz:=hB.size
 go_wp2_with fail
 replace hB:=Below.pset (B:=w.heap.size+1) hB (by omega) (.slice none 0 0) (.slice none 0 0)
 have PX:=P2.set (.slice none 0 0) (.slice none 0 0)
 generalize (w4.setCell ⟨w.heap.size+1,0,none⟩ (.slice none 0 0)).setCell ⟨w.heap.size+1,1,none⟩ (.slice none 0 0)=WW at PX hB ⊢
 refine bodyPost_ret (v:=.tuple #[.agg #[.slice none 0 0,.slice none 0 0],.int .i64 cd]) ?_ rfl ⟨rfl,hB⟩
 simp[results,Tryz.f139,go_sem,PX.c0,PX.c1]
theorem Level_good (p q a b:Sl) (x:Rat) (ks:List Kid) (D:Nat) (w:World) (hx:RQ w p q x) (ha:RI w a (ks.map fun k=>(k.1:Int))) (hc:RI w b (ks.map fun k=>(k.2:Int))) (hl:ks.length≤32) (HKK:Hid (∀k∈ks,okKid k)) (HF:Hid (Fine D x)) (HX:Hid (x≤((caps ks:Nat):Rat))) (HE:Hid (errOf x (ks.map fun k=>(k.1:Int)) (ks.map fun k=>(k.2:Int))=0)):
  Calls Tryz.prog 139 #[.agg #[.slice p.a p.n p.c,.slice q.a q.n q.c],.slice a.a a.n a.c,.slice b.a b.n b.c] w fun e w'=>∃u v:Sl,e= .returned (.tuple #[.agg #[.slice u.a u.n u.c,.slice v.a v.n v.c],.int .i64 0])∧RQ w' u v (docLevel x ks)∧Below w.heap.size w w':=by
 go_enter Tryz.func139,Tryz.ntmps139
 have hb:Below w.heap.size w ((w.alloc (.cells #[.slice p.a p.n p.c,.slice q.a q.n q.c] 49)).alloc (.cells #[.slice none 0 0,.slice none 0 0] 49)):=(((Below.refl _ _).alloc (Nat.le_refl _) _).alloc (by simp) _)
 replace hx:=hx.below hb
 replace ha:=ha.below hb
 replace hc:=hc.below hb
 have hB:=hb
 have P1:Pair ((w.alloc (.cells #[.slice p.a p.n p.c,.slice q.a q.n q.c] 49)).alloc (.cells #[.slice none 0 0,.slice none 0 0] 49)) (w.heap.size) 49 (.slice p.a p.n p.c) (.slice q.a q.n q.c):=by
  have h:=(Pair.new w 49 (.slice p.a p.n p.c) (.slice q.a q.n q.c)).alloc (.cells #[.slice none 0 0,.slice none 0 0] 49)
  simpa only[World.size_alloc] using h
 have P2:Pair ((w.alloc (.cells #[.slice p.a p.n p.c,.slice q.a q.n q.c] 49)).alloc (.cells #[.slice none 0 0,.slice none 0 0] 49)) (w.heap.size+1) 49 (.slice none 0 0) (.slice none 0 0):=by
  have h:=Pair.new (w.alloc (.cells #[.slice p.a p.n p.c,.slice q.a q.n q.c] 49)) 49 (.slice none 0 0) (.slice none 0 0)
  simpa only[World.size_alloc] using h
 clear hb
 have c0P1:=P1.c0
 have c1P1:=P1.c1
 have c0P2:=P2.c0
 have c1P2:=P2.c1
 have H3:=Lib.hid (check_any p q a b x (ks.map fun k=>(k.1:Int)) (ks.map fun k=>(k.2:Int)) ((w.alloc (.cells #[.slice p.a p.n p.c,.slice q.a q.n q.c] 49)).alloc (.cells #[.slice none 0 0,.slice none 0 0] 49)) hx ha hc (by rw[List.length_map];omega))
 rw[HE.out] at H3
 go_wp2_with fail
 clear c0P1 c1P1 c0P2 c1P2
 refine H3.out.mono ?_
 rintro e w4 ⟨rfl,hb⟩
 clear H3
 replace P1:=P1.below hb
 replace P2:=P2.below hb
 replace hx:=hx.below hb
 replace ha:=ha.below hb
 replace hc:=hc.below hb
 replace hB:=hB.trans (hb.mono hB.size)
 clear hb
 have c0P1:=P1.c0
 have c1P1:=P1.c1
 have c0P2:=P2.c0
 have c1P2:=P2.c1
 have H7:=Lib.hid (level_any p q a b x ks D w4 hx ha hc hl HKK HF HX)
 go_wp2_with fail
 clear c0P1 c1P1 c0P2 c1P2
 refine H7.out.mono ?_
 rintro e w8 ⟨x5,y6,rfl,rx5,hb⟩
 clear H7
 replace P1:=P1.below hb
 replace P2:=P2.below hb
 replace hx:=hx.below hb
 replace ha:=ha.below hb
 replace hc:=hc.below hb
 replace hB:=hB.trans (hb.mono hB.size)
 clear hb
 have c0P1:=P1.c0
 have c1P1:=P1.c1
 have c0P2:=P2.c0
 have c1P2:=P2.c1
 have z0:=P2.z0
 have z1:=P2.z1
 have hsz:=hB.size
 go_wp2_with fail
 replace rx5:=rx5.pset P2 (.slice x5.a x5.n x5.c) (.slice y6.a y6.n y6.c)
 replace hB:=Below.pset (B:=w.heap.size+1) hB (by omega) (.slice x5.a x5.n x5.c) (.slice y6.a y6.n y6.c)
 have PX:=P2.set (.slice x5.a x5.n x5.c) (.slice y6.a y6.n y6.c)
 generalize (w8.setCell ⟨w.heap.size+1,0,none⟩ (.slice x5.a x5.n x5.c)).setCell ⟨w.heap.size+1,1,none⟩ (.slice y6.a y6.n y6.c)=WW at rx5 PX hB ⊢
 refine bodyPost_ret (v:=.tuple #[.agg #[.slice x5.a x5.n x5.c,.slice y6.a y6.n y6.c],.int .i64 0]) ?_ rfl ⟨x5,y6,rfl,rx5,hB⟩
 simp[results,Tryz.f139,go_sem,PX.c0,PX.c1]
theorem Fill_bad (p q a b:Sl) (x:Rat) (ws cs:List Int) (w:World) (hx:RQ w p q x) (ha:RI w a ws) (hc:RI w b cs) (hlw:ws.length≤200) (cd:Int) (_hcd:cd≠0) (hcb:(cd==0)=false) (HC:Hid (errOf x ws cs=cd)):
  Calls Tryz.prog 126 #[.agg #[.slice p.a p.n p.c,.slice q.a q.n q.c],.slice a.a a.n a.c,.slice b.a b.n b.c] w fun e w'=>e= .returned (.tuple #[.slice none 0 0,.int .i64 cd])∧Below w.heap.size w w':=by
 go_enter Tryz.func126,Tryz.ntmps126
 have hb:Below w.heap.size w (w.alloc (.cells #[.slice p.a p.n p.c,.slice q.a q.n q.c] 49)):=((Below.refl _ _).alloc (Nat.le_refl _) _)
 replace hx:=hx.below hb
 replace ha:=ha.below hb
 replace hc:=hc.below hb
 have hB:=hb
 have P1:Pair (w.alloc (.cells #[.slice p.a p.n p.c,.slice q.a q.n q.c] 49)) (w.heap.size) 49 (.slice p.a p.n p.c) (.slice q.a q.n q.c):=by
  have h:=Pair.new w 49 (.slice p.a p.n p.c) (.slice q.a q.n q.c)
  simpa only[World.size_alloc] using h
 clear hb
 have c0P1:=P1.c0
 have c1P1:=P1.c1
 have H2:=Lib.hid (Level_bad p q a b x ws cs (w.alloc (.cells #[.slice p.a p.n p.c,.slice q.a q.n q.c] 49)) hx ha hc hlw cd _hcd hcb HC)
 go_wp2_with fail
 clear c0P1 c1P1
 refine H2.out.mono ?_
 rintro e w3 ⟨rfl,hb⟩
 clear H2
 replace P1:=P1.below hb
 replace hx:=hx.below hb
 replace ha:=ha.below hb
 replace hc:=hc.below hb
 replace hB:=hB.trans (hb.mono hB.size)
 clear hb
 have hb:Below w3.heap.size w3 (w3.alloc (.cells #[.slice none 0 0,.slice none 0 0] 49)):=((Below.refl _ _).alloc (Nat.le_refl _) _)
 replace P1:=P1.below hb
 replace hx:=hx.below hb
 replace ha:=ha.below hb
 replace hc:=hc.below hb
 replace hB:=hB.trans (hb.mono hB.size)
 have P4:Pair (w3.alloc (.cells #[.slice none 0 0,.slice none 0 0] 49)) (w3.heap.size) 49 (.slice none 0 0) (.slice none 0 0):=by
  have h:=Pair.new w3 49 (.slice none 0 0) (.slice none 0 0)
  simpa only[World.size_alloc] using h
 clear hb
 have c0P1:=P1.c0
 have c1P1:=P1.c1
 have c0P4:=P4.c0
 have c1P4:=P4.c1
 go_wp2_with fail
 go_ret2
 exact⟨rfl,hB⟩
end Go.Proofs.YtohifgjeebhijaaGreatDoor
namespace Go.Proofs.YtohifgjeebhijaaGreatDoor
set_option maxRecDepth 100000
set_option maxHeartbeats 4000000
open Go.RowKit Go.Dig Go.Shelf Go.Proofs Go.Rq
theorem Tryz.info49:(Tryz.prog.info? 49).map (fun i=>(i.zero,i.size,i.bytes))=some (some (.agg #[.slice none 0 0,.slice none 0 0]),2,48):=by kernel_rfl
theorem doc_sz {D:Nat} {x:Rat} {ks:List Kid} (hF:Fine D x) (h0:0≤x) (hl:ks.length≤32) (hk: ∀k∈ks,okKid k) (hx:x≤((caps ks:Nat):Rat)) (n:Nat) (hn:n≤10000):Sz (docLevel x ks*n):=by
 obtain⟨E,hE,hE2,hw,hd0,hd1⟩:=docLevel_whole (D:=D) hF.2.2 h0 (fun k hk'=>(hk k hk').1) (fun k hk'=>(hk k hk').2.1) (fun k hk'=>(hk k hk').2.2) hx
 have hwl:=weights_le ks hk
 have hcl:=caps_le ks hk
 have hE3:E≤2 ^ 64:=by
  refine Nat.le_trans hE2 ?_
  have:weights ks+1≤320001:=by omega
  exact Nat.le_trans (Nat.mul_le_mul_left _ this) (by decide)
 have hx2:x≤((2048:Nat):Rat):=Rat.le_trans hx (Rat.natCast_le_natCast.2 (by omega))
 refine Sz.whole (D:=D*E) (B:=2112*10000) (Nat.mul_ne_zero hF.1 hE) (whole_mul n hw) (Rat.mul_nonneg hd0 Rat.natCast_nonneg) ?_ (mul_big hF.2.1 hE3) (big_small 3000 (by decide) (by omega))
 have h1:docLevel x ks≤((2112:Nat):Rat):=by
  have:((2112:Nat):Rat)=((64:Nat):Rat)+((2048:Nat):Rat):=by rw[←Rat.natCast_add]
  rw[this]
  grind
 have h2:((n:Nat):Rat)≤((10000:Nat):Rat):=Rat.natCast_le_natCast.2 hn
 rw[Rat.natCast_mul]
 exact Rat.le_trans (le_mul h1) (Rat.mul_le_mul_of_nonneg_left h2 Rat.natCast_nonneg)
theorem take_snoc (f:Kid→Rat) {ks:List Kid} {k:Nat} (h:k<ks.length):(ks.take (k+1)).map f=(ks.take k).map f++[f (ks.getD k (0,0))]:=by
 rw[List.take_add_one,List.map_append]
 simp[List.getD_eq_getElem?_getD,List.getElem?_eq_getElem h]
theorem Fill_good (p q a b:Sl) (x:Rat) (ks:List Kid) (D:Nat) (w:World) (hx:RQ w p q x) (ha:RI w a (ks.map fun k=>(k.1:Int))) (hc:RI w b (ks.map fun k=>(k.2:Int))) (hl:ks.length≤32) (HKK:Hid (∀k∈ks,okKid k)) (HF:Hid (Fine D x)) (HX:Hid (x≤((caps ks:Nat):Rat))) (HE:Hid (errOf x (ks.map fun k=>(k.1:Int)) (ks.map fun k=>(k.2:Int))=0)):
  Calls Tryz.prog 126 #[.agg #[.slice p.a p.n p.c,.slice q.a q.n q.c],.slice a.a a.n a.c,.slice b.a b.n b.c] w fun e w'=>∃v,e= .returned (.tuple #[v,.int .i64 0])∧RowQ w' v (ks.map (given (docLevel x ks)))∧(∀j,v.ownBlock=some j→w.heap.size≤j)∧Below w.heap.size w w':=by
 have ea:=ha.len
 rw[List.length_map] at ea
 have HEA:=Lib.hid ea
 clear ea
 obtain⟨i0,hi,hz0,hz1,hz2⟩:=info_parts Tryz.info49
 have HX0:Hid (0≤x):=Lib.hid hx.1.pos
 go_enter Tryz.func126,Tryz.ntmps126
 have hb:Below w.heap.size w (w.alloc (.cells #[.slice p.a p.n p.c,.slice q.a q.n q.c] 49)):=((Below.refl _ _).alloc (Nat.le_refl _) _)
 replace hx:=hx.below hb
 replace ha:=ha.below hb
 replace hc:=hc.below hb
 have hB:=hb
 have P1:Pair (w.alloc (.cells #[.slice p.a p.n p.c,.slice q.a q.n q.c] 49)) (w.heap.size) 49 (.slice p.a p.n p.c) (.slice q.a q.n q.c):=by
  have h:=Pair.new w 49 (.slice p.a p.n p.c) (.slice q.a q.n q.c)
  simpa only[World.size_alloc] using h
 clear hb
 have c0P1:=P1.c0
 have c1P1:=P1.c1
 have H1:=Lib.hid (Level_good p q a b x ks D (w.alloc (.cells #[.slice p.a p.n p.c,.slice q.a q.n q.c] 49)) hx ha hc hl HKK HF HX HE)
 go_wp2_with fail
 clear c0P1 c1P1
 refine H1.out.mono ?_
 rintro e w1 ⟨pv,qv,rfl,hv,hb⟩
 clear H1
 replace ha:=ha.below hb
 replace hc:=hc.below hb
 replace hB:=hB.trans (hb.mono hB.size)
 clear hb P1 hx
 have P9:=Pair.new w1 49 (.slice pv.a pv.n pv.c) (.slice qv.a qv.n qv.c)
 have hb:Below w1.heap.size w1 (w1.alloc (.cells #[.slice pv.a pv.n pv.c,.slice qv.a qv.n qv.c] 49)):=(Below.refl _ _).alloc (Nat.le_refl _) _
 have hsz:=hB.size
 replace ha:=ha.below hb
 replace hc:=hc.below hb
 replace hv:=hv.below hb
 replace hB:=hB.trans (hb.mono hB.size)
 clear hb
 go_wp2_with (at_make;refine wpList_make_S (base:=w1.heap.size+1) (e:=49) rfl _ _ 33 rfl i0 Tryz.underlying33 hi hz0 hz1 hz2 a.n rfl rfl (by have:=HEA.out;omega) (by simp) ?_;intro w2 hown hgrow)
 have hb:Below (w1.alloc (.cells #[.slice pv.a pv.n pv.c,.slice qv.a qv.n qv.c] 49)).heap.size (w1.alloc (.cells #[.slice pv.a pv.n pv.c,.slice qv.a qv.n qv.c] 49)) w2:=(Below.refl _ _).grown hgrow (Nat.le_refl _) (fun j ej=>by cases ej)
 replace ha:=ha.below hb
 replace hc:=hc.below hb
 replace hv:=hv.below hb
 replace P9:=P9.below hb
 replace hB:=hB.trans (hb.mono hB.size)
 clear hb hgrow
 obtain⟨B9,hB9⟩: ∃B,B=w1.heap.size:=⟨_,rfl⟩
 rw[←hB9] at hown hsz P9
 simp only[World.size_alloc] at hown ⊢
 rw[←hB9] at hown ⊢
 clear hB9 w1
 have H3:=Lib.hid (children_any a b ks w2 ha hc (by omega))
 clear ha hc
 go_wp2_with fail
 refine H3.out.mono ?_
 rintro e w3 ⟨Bk,rfl,_,hkb,hb⟩
 clear H3
 replace hv:=hv.below hb
 replace P9:=P9.below hb
 replace hown:=hown.below hb
 replace hB:=hB.trans (hb.mono hB.size)
 clear hb
 have HLV:Hid (∀n:Nat,n≤10000→Sz (docLevel x ks*n)):=Lib.hid (doc_sz HF.out HX0.out hl HKK.out HX.out)
 have HR:Hid ((ks.take 0).map (given (docLevel x ks))=[]):=Lib.hid (by simp)
 obtain⟨lvl,hlvl⟩: ∃l,l=docLevel x ks:=⟨_,rfl⟩
 rw[←hlvl] at hv HLV HR
 have HLL:=Lib.hid hlvl
 clear hlvl
 go_wp2_with fail
 go_loopw [10,30] (fun v i wr=>∃(k:Nat) (xs:List Value),k≤ks.length∧i= .int .i64 (k:Int)∧Hid (OwnS wr (B9+1) 49 v k xs)∧Hid (Gets RQ wr xs ((ks.take k).map (given lvl)))∧Hid (Pair wr B9 49 (.slice pv.a pv.n pv.c) (.slice qv.a qv.n qv.c))∧Hid (RQ wr pv qv lvl)∧Hid (KB wr Bk ks)∧Hid (Below w.heap.size w wr)) (fun _ i _=>ks.length - (intOf i).toNat)
 case atStart=>exact⟨0,[],Nat.zero_le _,rfl,Lib.hid hown,Lib.hid (by rw[HR.out];exact Gets.nil _ _),Lib.hid P9,Lib.hid hv,Lib.hid hkb,Lib.hid hB⟩
 case round=>
  clear P9 hkb hv hB hown
  obtain⟨k,xs,hk,rfl,HO,HG,HP9,HV,HK,HBB⟩:=hrel
  have P9:=HP9.out
  have hkb:=HK.out
  have hv:=HV.out
  have hB:=HBB.out
  have hg:=HG.out
  have hown:=HO.out
  clear HP9 HK HV HBB HG HO
  by_cases hlt:k<ks.length
  ·skip
   have h2:=hkb.2 k hlt
   have hkk:=HKK.out _ (kget_mem hlt)
   have HTS:=Lib.hid (take_snoc (given lvl) hlt)
   generalize ks.getD k (0,0)=kid at h2 hkk HTS
   obtain⟨wt,cp⟩:=kid
   dsimp only at h2
   obtain⟨⟨c1,_⟩,⟨c2,_⟩⟩:=h2
   have hwt:=hkk.2.1
   have hcp:=hkk.2.2
   dsimp only at hwt hcp
   clear hkk
   have hb:Below wr.heap.size wr (wr.alloc (.cells #[.int .i64 (wt:Int),.int .i64 (cp:Int)] 201)):=((Below.refl _ _).alloc (Nat.le_refl _) _)
   replace P9:=P9.below hb
   replace hkb:=hkb.below hb
   replace hv:=hv.below hb
   replace hown:=hown.below hb
   replace hg:=hg.move (fun _ _ _ h=>h.below hb)
   replace hB:=hB.trans (hb.mono hB.size)
   have P18:Pair (wr.alloc (.cells #[.int .i64 (wt:Int),.int .i64 (cp:Int)] 201)) (wr.heap.size) 201 (.int .i64 (wt:Int)) (.int .i64 (cp:Int)):=by
    have h:=Pair.new wr 201 (.int .i64 (wt:Int)) (.int .i64 (cp:Int))
    simpa only[World.size_alloc] using h
   clear hb
   have c0P9:=P9.c0
   have c1P9:=P9.c1
   have c0P18:=P18.c0
   have c1P18:=P18.c1
   have H4:=Lib.hid (gets_any wt cp pv qv lvl (wr.alloc (.cells #[.int .i64 (wt:Int),.int .i64 (cp:Int)] 201)) hv hwt hcp (Lib.hid (HLV.out wt hwt)))
   go_wp2_with fail
   clear c0P9 c1P9 c0P18 c1P18 c1 c2
   refine H4.out.mono ?_
   rintro e w4 ⟨x1,y1,rfl,rg,hb⟩
   clear H4 P18
   replace P9:=P9.below hb
   replace hkb:=hkb.below hb
   replace hv:=hv.below hb
   replace hown:=hown.below hb
   replace hg:=hg.move (fun _ _ _ h=>h.below hb)
   replace hB:=hB.trans (hb.mono hB.size)
   clear hb
   have hb:Below w4.heap.size w4 (w4.alloc (.cells #[.slice x1.a x1.n x1.c,.slice y1.a y1.n y1.c] 49)):=((Below.refl _ _).alloc (Nat.le_refl _) _)
   have P5:=Pair.new w4 49 (.slice x1.a x1.n x1.c) (.slice y1.a y1.n y1.c)
   have hs9:=P9.lt
   replace P9:=P9.below hb
   replace hkb:=hkb.below hb
   replace hv:=hv.below hb
   replace rg:=rg.below hb
   replace hown:=hown.below hb
   replace hg:=hg.move (fun _ _ _ h=>h.below hb)
   replace hB:=hB.trans (hb.mono hB.size)
   clear hb
   have HN:Hid (∀(j:Nat) (u:Value),[Value.slice x1.a x1.n x1.c,Value.slice y1.a y1.n y1.c][j]? =some u→(w4.alloc (.cells #[.slice x1.a x1.n x1.c,.slice y1.a y1.n y1.c] 49)).cell? ((⟨w4.heap.size,0,none⟩:Addr).add j)=some u):=Lib.hid (by
    intro j u hj
    match j,hj with
    | 0,hj=>rw[Addr.add_lit];exact P5.c0.trans hj
    | 1,hj=>rw[Addr.add_lit];exact P5.c1.trans hj
    | j+2,hj=>simp at hj)
   have HOW:=Lib.hid hown
   clear hown P5
   have HP9:=Lib.hid P9
   have HKB:=Lib.hid hkb
   have HV:=Lib.hid hv
   have HRG:=Lib.hid rg
   have HGG:=Lib.hid hg
   have HB2:=Lib.hid hB
   clear P9 hkb hv rg hg hB
   go_wp2_with (at_builtin;refine wpList_append_S (e:=49) (base:=B9+1) rfl _ _ 33 rfl i0 Tryz.underlying33 hi hz0 hz1 hz2 rfl HOW.out ⟨w4.heap.size,0,none⟩ 1 _ _ rfl ⟨_,_,_,rfl⟩ ⟨_,_,_,rfl⟩ HN.out (by omega) (by simp;omega) ?_;intro v5 w5 hown5 hgrow5)
   have hle:w.heap.size≤B9+1:=by omega
   have hBn:=HB2.out.grown hgrow5 HB2.out.size (fun j ej=>by have:=(HOW.out.lt j ej).1;omega)
   have hgn:=(HGG.out.snoc HRG.out).move (fun _ _ _ h=>h.grownS HOW.out hgrow5)
   rw[←HTS.out] at hgn
   have hvn:=HV.out.grownS HOW.out hgrow5
   have hpn:=HP9.out.grownS HOW.out (Nat.lt_succ_self _) hgrow5
   have hkn:=HKB.out.grownS HOW.out hgrow5
   have HH:=Lib.hid (And.intro hBn (And.intro hgn (And.intro hvn (And.intro hpn (And.intro hkn hown5)))))
   clear hBn hgn hvn hpn hkn hown5 hgrow5
   go_wp2_with fail
   go_round
   case rel=>exact⟨k+1,_,by omega,by go_num,Lib.hid HH.out.2.2.2.2.2,Lib.hid HH.out.2.1,Lib.hid HH.out.2.2.2.1,Lib.hid HH.out.2.2.1,Lib.hid HH.out.2.2.2.2.1,Lib.hid HH.out.1⟩
   case measure=>simp[intOf];omega
  ·have ek:k=ks.length:=by omega
   subst ek
   have hg2:Gets RQ wr xs (ks.map (given lvl)):=by rw[List.take_length] at hg;exact hg
   have ho2:OwnS wr (B9+1) 49 u10 (ks.map (given lvl)).length xs:=by rw[List.length_map];exact hown
   have hfr: ∀j,u10.ownBlock=some j→w.heap.size≤j:=fun j e=>by
    have h1:=(hown.lt j e).1
    omega
   have HH:=Lib.hid (And.intro (RowX.of_own ho2 hg2) (And.intro hfr hB))
   clear hg hown hg2 ho2 hB P9 hkb hv hfr
   go_wp2_with fail
   go_ret2
   exact⟨u10,rfl,by rw[←HLL.out];exact HH.out.1,HH.out.2.1,HH.out.2.2⟩
end Go.Proofs.YtohifgjeebhijaaGreatDoor
namespace Go.Proofs.YtohifgjeebhijaaGreatDoor
open Go.RowKit Go.Dig Go.Shelf Go.Proofs Go.Rq
theorem RowX.open {K:World→Sl→Sl→Rat→Prop} {w:World} {v:Value} {rs:List Rat} (h:RowX K w v rs) (hne:rs≠[]): ∃B cap,v= .slice (some ⟨B,0,none⟩) rs.length cap∧B<w.heap.size∧∀j,j<rs.length→∃p q:Sl,w.cell? ⟨B,j*2,none⟩=some (.slice p.a p.n p.c)∧w.cell? ⟨B,j*2+1,none⟩=some (.slice q.a q.n q.c)∧K w p q (rs.getD j 0):=by
 obtain⟨ad,cap,rfl,h2⟩:=h
 obtain⟨B,rfl,h3,h4⟩:=h2 hne
 exact⟨B,cap,rfl,h3,h4⟩
theorem awk_half:(qtext (N (rat 1 2)) (rat 1 2).den)=[49,47,50]:=by decide+kernel
theorem awk_one:(qtext (N 1) (1:Rat).den)=[49]:=by decide+kernel
end Go.Proofs.YtohifgjeebhijaaGreatDoor
