import Derived.Deep.DeepAppendRoom
import Derived.Deep.DeepAppendWide
import Derived.Test.YtohifgjeebhijaaGreatDoorVFe
namespace Go.Proofs.YtohifgjeebhijaaGreatDoor
open Go.RowKit Go.Dig Go.Shelf Go.Proofs Go.Rq
def iU (u:Value):Prop:=∃a n c,u= .slice a n c
def di (w:World) (base:Nat) (e:TypeId) (v:Value) (n:Nat) (xs:List Value):Prop:=
 xs.length=n*2∧((v= .slice none 0 0∧n=0)∨∃g cap cur,v= .slice (some ⟨g,0,none⟩) n cap∧base≤g∧w.heap[g]? =some (.cells cur e (0,0))∧n≤cap∧cap≤maxLen∧cur.size=cap*2∧cur.toList.take (n*2)=xs∧∀u∈cur.toList,iU u)
theorem di.nil (w:World) (base:Nat) (e:TypeId):di w base e (.slice none 0 0) 0 []:=⟨B4,.inl ⟨rfl,rfl⟩⟩
section
variable {P:Program} {w w':World} {base:Nat} {e:TypeId} {v:Value} {n:Nat} {xs:List Value}
theorem di.lt (h:di w base e v n xs): ∀k,v.ownBlock=some k→base≤k∧k<w.heap.size:=by
 intro k hk;rcases h.2 with ⟨rfl,_⟩ | ⟨g,cap,cur,rfl,hb,hg,_⟩
 ·cases hk
 ·cases hk;exact⟨hb,(Array.getElem?_eq_some_iff.1 hg).1⟩
theorem di.below (h:di w base e v n xs) (hb:Below w.heap.size w w'):di w' base e v n xs:=by
 refine⟨h.1,?_⟩;rcases h.2 with h2 | ⟨g,cap,cur,e1,hbg,hg,h3⟩
 ·exact .inl h2
 ·exact .inr ⟨g,cap,cur,e1,hbg,(hb.block g (Array.getElem?_eq_some_iff.1 hg).1).trans hg,h3⟩
theorem uX {m:Nat}: ∀u∈(Builtin.zeroCells (Value.agg #[.slice none 0 0,.slice none 0 0]).cells m).toList,iU u:=by
 intro u hu;have e1:(Value.agg #[.slice none 0 0,.slice none 0 0]).cells= #[.slice none 0 0,.slice none 0 0]:=Cp
 rw[e1] at hu;simp[Builtin.zeroCells] at hu;obtain⟨a,_,rfl⟩:=hu;have h2:a % 2<2:=Nat.mod_lt _ A3;generalize a % 2=r at h2
 match r,h2 with
 | 0,_=>exact⟨none,0,0,rfl⟩
 | 1,_=>exact⟨none,0,0,rfl⟩
theorem m9 {m:Nat}: ∀u∈(madeCells (Value.agg #[.slice none 0 0,.slice none 0 0]).cells m).toList,iU u:=by
 intro u hu;have e1:(Value.agg #[.slice none 0 0,.slice none 0 0]).cells= #[.slice none 0 0,.slice none 0 0]:=Cp
 rw[e1] at hu;simp[madeCells] at hu;obtain⟨a,_,rfl⟩:=hu;have h2:a % 2<2:=Nat.mod_lt _ A3;generalize a % 2=r at h2
 match r,h2 with
 | 0,_=>exact⟨none,0,0,rfl⟩
 | 1,_=>exact⟨none,0,0,rfl⟩
theorem iC (t ty:TypeId) (i:TypeInfo) (ht:P.underlying t=some (.slice e)) (hi:P.info? e=some i) (hz:i.zero=some (.agg #[.slice none 0 0,.slice none 0 0]))
  (hsize:i.size=2) (hby:i.bytes=48) (hown:di w base e v n xs) (a:Addr) (c:Nat) (x y:Value) (hx:iU x) (hy:iU y) (hnews: ∀j u,[x,y][j]? =some u→w.cell? (a.add j)=some u)
  (hn:n≤1000) (hbase:base≤w.heap.size):
  ∃v' w',(Builtin.append_ #[t,t] ty #[v,.slice (some a) 1 c]).run P w= .ok v' w'∧di w' base e v' (n+1) (xs++[x,y])∧w.grownBy w' v.ownBlock:=by
 have h1: ∀u∈[x,y],u.oneCell'=true:=by
  intro u hu;obtain⟨_,_,_,rfl⟩:=hx;obtain⟨_,_,_,rfl⟩:=hy;simp at hu;rcases hu with rfl | rfl<;>rfl
 have hsl: ∀u∈[x,y],iU u:=by
  intro u hu;simp at hu;rcases hu with rfl | rfl
  ·exact hx
  ·exact hy
 have hl:[x,y].length=1*i.size:=by rw[hsize];rfl
 have hlen:(xs++[x,y]).length=(n+1)*2:=by rw[List.length_append,hown.1];simp;omega
 have h63:n+1≤maxLen:=Cu
 have hz2:(Value.agg #[.slice none 0 0,.slice none 0 0]).cells.size=2:=Cp
 have hzx: ∀u∈xs,iU u:=by
  rcases hown.2 with ⟨_,h0⟩ | ⟨g,cap,cur,_,_,_,_,_,_,h6,h7⟩
  ·have:xs=[]:=List.eq_nil_of_length_eq_zero (by rw[hown.1,h0]);rw[this];intro u hu;simp at hu
  ·intro u hu;rw[←h6] at hu;exact h7 u (List.mem_of_mem_take hu)
 have grown: ∀(old:Nat) (row:Option Nat),
   di (w.drew.alloc (.cells (xs.toArray++[x,y].toArray++Builtin.zeroCells (Value.agg #[.slice none 0 0,.slice none 0 0]).cells (grownCap w (n+1) old e - (n+1))) e)) base e
    (.slice (some ⟨w.heap.size,0,none⟩) (n+1) (grownCap w (n+1) old e)) (n+1) (xs++[x,y])∧
   w.grownBy (w.drew.alloc (.cells (xs.toArray++[x,y].toArray++Builtin.zeroCells (Value.agg #[.slice none 0 0,.slice none 0 0]).cells (grownCap w (n+1) old e - (n+1))) e)) row:=by
  intro old row;have hge:=grownCap_ge w (n+1) old e;have hcm:grownCap w (n+1) old e≤maxLen:=grownCap_le_maxLen w (n+1) old e h63;refine⟨⟨hlen,.inr ⟨w.heap.size,_,_,rfl,hbase,heap_alloc_new w.drew _,hge,hcm,?_,?_,?_⟩⟩,⟨rfl,rfl,rfl,B4,fun k hk _=>heap_alloc_old w.drew _ hk⟩⟩
  ·simp only[Array.size_append,List.size_toArray,size_zeroCells,hz2,hown.1];simp;omega
  ·simp only[Array.toList_append,List.append_assoc];rw[←List.append_assoc,←hlen];exact List.take_left
  ·intro u hu;simp only[Array.toList_append,List.mem_append] at hu;rcases hu with (hu | hu) | hu
   ·exact hzx u hu
   ·exact hsl u hu
   ·exact uX u hu
 rcases hown.2 with ⟨rfl,rfl⟩ | ⟨g,cap,cur,rfl,hbg,hg,hnc,hcm,hcs,htake,hall⟩
 ·have hx0:xs=[]:=List.eq_nil_of_length_eq_zero (by simpa using hown.1);subst hx0;have hr:=run_append_nil (P:=P) w t ty e i _ ht hi hz a 1 c [x,y] hl hnews A3 A3 (by rw[hby];omega);have hgr:=grown 0 (Value.ownBlock (.slice none 0 0));simp only[Nat.zero_add,List.nil_append,Array.empty_append] at hgr ⊢;exact⟨_,_,hr,hgr.1,hgr.2⟩
 ·by_cases hroom:n+1≤cap
  ·have hfit:n*i.size+[x,y].length≤cur.size:=by rw[hsize,hcs];simp;omega
   have hr:=run_append_room (P:=P) w t ty e i ht hi g n cap cur hg a 1 c [x,y] hl hnews h1 hroom hfit;rw[hsize] at hr;refine⟨_,_,hr,⟨hlen,.inr ⟨g,cap,_,rfl,hbg,setRow_heap w g cur _ e _ hg,hroom,hcm,?_,?_,?_⟩⟩,⟨rfl,rfl,rfl,B4,fun k _ hk=>setRow_other w g k _ (fun e=>hk (by simp[Value.ownBlock,e]))⟩⟩
   ·simp only[List.size_toArray,List.length_append,List.length_take,List.length_drop,Array.length_toList];rw[hcs];simp;omega
   ·rw[htake,←hlen];exact List.take_left
   ·intro u hu;simp only[List.mem_append] at hu;rcases hu with (hu | hu) | hu
    ·exact hall u (List.mem_of_mem_take hu)
    ·exact hsl u hu
    ·exact hall u (List.mem_of_mem_drop hu)
  ·have holds: ∀j u,xs[j]? =some u→w.cell? ((⟨g,0,none⟩:Addr).add j)=some u:=by
    intro j u hj;rw[←htake,List.getElem?_take] at hj;split at hj
    ·simp only[Addr.add_lit,Nat.zero_add,World.cell?,hg];simpa using hj
    ·cases hj
   have hr:=run_append_grow (P:=P) w t ty e i _ ht hi hz ⟨g,0,none⟩ n cap xs (by rw[hsize];exact hown.1) holds a 1 c [x,y] hl hnews A3 A3 (growslice_fits_wide A3 (by rw[hby];omega));have hgr:=grown cap (Value.ownBlock (.slice (some ⟨g,0,none⟩) n cap));exact⟨_,_,hr,hgr.1,hgr.2⟩
theorem jz {ops:Array Oper} {rest:List Oper} {o:Oper} {a:Act} {Q:Exit→Act→World→Prop} (hgd:o.guard=none) (s x:Operand) (t:TypeId)
  (ho:o.op= .call { callee:=.builtin .append,args:= #[s,x],argTypes:= #[t,t] })
  (i:TypeInfo) (ht:P.underlying t=some (.slice e)) (hi:P.info? e=some i) (hz:i.zero=some (.agg #[.slice none 0 0,.slice none 0 0])) (hsize:i.size=2) (hby:i.bytes=48)
  (hs:a.eval s=v) (hown:di w base e v n xs) (ad:Addr) (c:Nat) (y z:Value) (hx:a.eval x= .slice (some ad) 1 c) (hy:iU y) (hz':iU z) (hnews: ∀j u,[y,z][j]? =some u→w.cell? (ad.add j)=some u)
  (hn:n≤1000) (hbase:base≤w.heap.size)
  (h: ∀v' w',di w' base e v' (n+1) (xs++[y,z])→w.grownBy w' v.ownBlock→wpList P ops Q rest (a.put o.dst v') w'):wpList P ops Q (o::rest) a w:=by
 refine wpList_plain hgd fun K hK=>?_
 obtain⟨v',w',hr,h2,h3⟩:=iC (P:=P) t o.type i ht hi hz hsize hby hown ad c y z hy hz' hnews hn hbase;unfold Oper.wp execOp;simp only[ho,resolve,invoke,builtin,Sem.run_bind,Sem.run_pure,Result.andThen_ok,List.map_toArray,List.map_cons,List.map_nil,hs,hx,hr];exact hK _ _ (h v' w' h2 h3)
theorem AL {p:Prop} (h:p:=by exact⟨b,off,rfl,Nat.lt_of_lt_of_le hb hg.size,fun j hj=>(World.cell?_of_block (w:=w) (a:=⟨b,off+j,none⟩) (hg.block b hb hne2)).trans (hc j hj)⟩):p:=h
theorem Ap {p:Prop} (h:p:=by obtain⟨h4,h5⟩:=Array.getElem?_eq_some_iff.1 h3;obtain⟨_,_,_,h6⟩:=hall _ (Array.getElem_mem_toList h4);rw[h5] at h6;cases h6):p:=h
theorem Lim.grownS {q:IntKind} {u:Value} {l:List Nat} (h:Lim q w u l) (ho:di w base e v n xs) (hg:w.grownBy w' v.ownBlock):Lim q w' u l:=by
 obtain⟨ad,cap,e1,h1,h2⟩:=h;refine⟨ad,cap,e1,h1,fun hne=>?_⟩;obtain⟨b,off,rfl,hb,hc⟩:=h2 hne;have hne2:some b≠v.ownBlock:=by
  intro eb;have h3:=hc 0 (List.length_pos_iff.2 hne);rcases ho.2 with ⟨rfl,_⟩ | ⟨g,cap2,cur,rfl,_,hgr,_,_,_,_,hall⟩
  ·cases eb
  ·cases eb;simp only[World.cell?,hgr,Nat.add_zero] at h3;exact Ap
 exact AL
theorem RQ.grownS {p q:Sl} {r:Rat} (h:RQ w p q r) (ho:di w base e v n xs) (hg:w.grownBy w' v.ownBlock):RQ w' p q r:=⟨h.1,h.2.1.grownS ho hg,h.2.2.grownS ho hg⟩
theorem RK.grownS {p q:Sl} {r:Rat} (h:RK w p q r) (ho:di w base e v n xs) (hg:w.grownBy w' v.ownBlock):RK w' p q r:=⟨h.1,h.2.1.grownS ho hg,h.2.2.grownS ho hg⟩
theorem k9 {ops:Array Oper} {rest:List Oper} {o:Oper} {a:Act} {Q:Exit→Act→World→Prop} (hgd:o.guard=none) (l c:Operand) (t:TypeId) (hop:o.op=Op.makeSlice t l c)
  (i:TypeInfo) (ht:P.underlying t=some (.slice e)) (hi:P.info? e=some i) (hz:i.zero=some (.agg #[.slice none 0 0,.slice none 0 0])) (hsize:i.size=2) (hby:i.bytes=48)
  (m:Nat) (hl:a.eval l= .int .i64 0) (hc:a.eval c= .int .i64 (m:Int)) (hm:m≤1000) (hbase:base≤w.heap.size)
  (h: ∀w',di w' base e (.slice (some ⟨w.heap.size,0,none⟩) 0 m) 0 []→w.grownBy w' none→wpList P ops Q rest (a.put o.dst (.slice (some ⟨w.heap.size,0,none⟩) 0 m)) w'):wpList P ops Q (o::rest) a w:=by
 refine wpList_plain hgd fun K hK'=>?_
 have hr:=run_make (P:=P) w t e i _ ht hi hz .i64 .i64 0 (m:Int) (Int.le_refl _) A3 (by rw[hby];omega) A3;simp only[Int.toNat_zero,Int.toNat_natCast] at hr;unfold Oper.wp;simp[execOp,hop,hl,hc,hr,Result.andThen];refine hK' _ _ (h _ ⟨rfl,.inr ⟨w.heap.size,m,_,rfl,hbase,heap_alloc_new w _,Nat.zero_le _,Cu,by rw[size_madeCells,hsize],B4,m9⟩⟩ (World.grownBy_alloc w _ none))
theorem ah.grownS {B:Nat} {t:TypeId} {x y:Value} (h:ah w B t x y) (ho:di w base e v n xs) (hB:B<base) (hg:w.grownBy w' v.ownBlock):ah w' B t x y:=
 (hg.block B h.lt (fun eb=>by have:=ho.lt B eb.symm;omega)).trans h
theorem KB.grownS {C:Nat} {ks:List Kid} (h:KB w C ks) (ho:di w base e v n xs) (hg:w.grownBy w' v.ownBlock):KB w' C ks:=by
 refine⟨Nat.lt_of_lt_of_le h.1 hg.size,fun j hj=>?_⟩;have hne:some C≠v.ownBlock:=by
  intro eb;have h3:=(h.2 0 (Nat.lt_of_le_of_lt (Nat.zero_le _) hj)).1.1;rcases ho.2 with ⟨rfl,_⟩ | ⟨g,cap2,cur,rfl,_,hgr,_,_,_,_,hall⟩
  ·cases eb
  ·cases eb;simp only[World.cell?,hgr,Nat.zero_mul] at h3;exact Ap
 have e1:=hg.block C h.1 hne;rw[World.cell?_of_block (w:=w) (a:=⟨C,j*2,none⟩) e1,World.cell?_of_block (w:=w) (a:=⟨C,j*2+1,none⟩) e1,World.frozen?_of_block (w:=w) (a:=⟨C,j*2,none⟩) e1,World.frozen?_of_block (w:=w) (a:=⟨C,j*2+1,none⟩) e1];exact h.2 j hj
end
def eL (K:World→Sl→Sl→Rat→Prop) (w:World) (xs:List Value) (rs:List Rat):Prop:=
 xs.length=rs.length*2∧∀j,j<rs.length→∃p q:Sl,xs[j*2]? =some (.slice p.a p.n p.c)∧xs[j*2+1]? =some (.slice q.a q.n q.c)∧K w p q (rs.getD j 0)
theorem eL.nil (K:World→Sl→Sl→Rat→Prop) (w:World):eL K w [] []:=⟨rfl,fun j hj=>by simp at hj⟩
theorem eL.move {K:World→Sl→Sl→Rat→Prop} {w w':World} {xs:List Value} {rs:List Rat} (h:eL K w xs rs) (hm: ∀p q r,K w p q r→K w' p q r):eL K w' xs rs:=
 ⟨h.1,fun j hj=>by obtain⟨p,q,h1,h2,h3⟩:=h.2 j hj;exact⟨p,q,h1,h2,hm _ _ _ h3⟩⟩
theorem eL.snoc {K:World→Sl→Sl→Rat→Prop} {w:World} {xs:List Value} {rs:List Rat} {p q:Sl} {r:Rat} (h:eL K w xs rs) (hr:K w p q r):eL K w (xs++[.slice p.a p.n p.c,.slice q.a q.n q.c]) (rs++[r]):=by
 refine⟨by rw[List.length_append,h.1,List.length_append];simp;omega,fun j hj=>?_⟩;have h1:=h.1;rw[List.length_append] at hj;simp only[List.length_cons,List.length_nil] at hj;by_cases e:j<rs.length
 ·obtain⟨p',q',a1,a2,a3⟩:=h.2 j e;refine⟨p',q',?_,?_,?_⟩
  ·rw[List.getElem?_append_left A3];exact a1
  ·rw[List.getElem?_append_left A3];exact a2
  ·rw[show (rs++[r]).getD j 0=rs.getD j 0 from by simp[List.getD_eq_getElem?_getD,List.getElem?_append_left e]];exact a3
 ·have ej:j=rs.length:=A3
  subst ej;refine⟨p,q,?_,?_,?_⟩
  ·rw[List.getElem?_append_right A3,h1];simp
  ·rw[List.getElem?_append_right A3,h1];simp
  ·rw[show (rs++[r]).getD rs.length 0=r from by simp[List.getD_eq_getElem?_getD]];exact hr
def dh (K:World→Sl→Sl→Rat→Prop) (w:World) (v:Value) (rs:List Rat):Prop:=
 ∃ad cap,v= .slice ad rs.length cap∧(rs≠[]→∃B,ad=some ⟨B,0,none⟩∧B<w.heap.size∧∀j,j<rs.length→∃p q:Sl,w.cell? ⟨B,j*2,none⟩=some (.slice p.a p.n p.c)∧w.cell? ⟨B,j*2+1,none⟩=some (.slice q.a q.n q.c)∧K w p q (rs.getD j 0))
theorem dh.of_own {K:World→Sl→Sl→Rat→Prop} {w:World} {base:Nat} {e:TypeId} {v:Value} {xs:List Value} {rs:List Rat} (h:di w base e v rs.length xs) (hg:eL K w xs rs):dh K w v rs:=by
 rcases h.2 with ⟨rfl,h0⟩ | ⟨g,cap,cur,rfl,_,hgr,_,_,_,ht,_⟩
 ·exact⟨none,0,by rw[h0],fun hne=>absurd (List.eq_nil_of_length_eq_zero h0) hne⟩
 ·refine⟨_,_,rfl,fun _=>⟨g,rfl,(Array.getElem?_eq_some_iff.1 hgr).1,fun j hj=>?_⟩⟩;obtain⟨p,q,h1,h2,h3⟩:=hg.2 j hj;have hc: ∀i u,xs[i]? =some u→w.cell? ⟨g,i,none⟩=some u:=by
   intro i u hi;rw[←ht,List.getElem?_take] at hi;split at hi
   ·simp only[World.cell?,hgr];simpa using hi
   ·cases hi
  exact⟨p,q,hc _ _ h1,hc _ _ h2,h3⟩
theorem dh.below {K:World→Sl→Sl→Rat→Prop} {w w':World} {v:Value} {rs:List Rat} (h:dh K w v rs) (hm: ∀p q r,K w p q r→K w' p q r) (hb:Below w.heap.size w w'):dh K w' v rs:=by
 obtain⟨ad,cap,e,h2⟩:=h;refine⟨ad,cap,e,fun hne=>?_⟩;obtain⟨B,rfl,hB,hc⟩:=h2 hne;refine⟨B,rfl,Nat.lt_of_lt_of_le hB hb.size,fun j hj=>?_⟩;obtain⟨p,q,h1,h2,h3⟩:=hc j hj;exact⟨p,q,(hb.cell (p:=⟨B,j*2,none⟩) hB).trans h1,(hb.cell (p:=⟨B,j*2+1,none⟩) hB).trans h2,hm _ _ _ h3⟩
theorem dh.len {K:World→Sl→Sl→Rat→Prop} {w:World} {p:Sl} {rs:List Rat} (h:dh K w (.slice p.a p.n p.c) rs):p.n=rs.length:=by
 obtain⟨ad,cap,e,_⟩:=h;injection e
theorem dh.sl {K:World→Sl→Sl→Rat→Prop} {w:World} {v:Value} {rs:List Rat} (h:dh K w v rs): ∃p:Sl,v= .slice p.a p.n p.c∧dh K w (.slice p.a p.n p.c) rs:=by
 obtain⟨ad,cap,rfl,h2⟩:=h;exact⟨⟨ad,rs.length,cap⟩,rfl,ad,cap,rfl,h2⟩
abbrev iJ:=dh RQ
abbrev oG:=dh RK
def cf (x:Rat) (ws cs:List Int):Int:=
 if ws.length≠cs.length then 17 else if 32<ws.length then 6 else if ws.any noW=true then 13 else if cs.any noC=true then 14 else if ((cs.sum.toNat:Nat):Rat)<x then 14 else 0
theorem uD {cs:List Int} (h:cs.any noC=false): ∀z∈cs,0≤z∧z≤64:=by
 intro z hz;have h1:=List.any_eq_false.1 h z hz;simp[noC] at h1;omega
theorem lB: ∀cs:List Int,(∀z∈cs,0≤z∧z≤64)→0≤cs.sum∧cs.sum≤64*cs.length
 | [],_=>by simp
 | c::cs,h=>by
  have h1:=lB cs (fun z hz=>h z (List.mem_cons_of_mem _ hz));have h2:=h c List.mem_cons_self;rw[List.sum_cons,List.length_cons];omega
theorem lI (p q a b:Sl) (x:Rat) (ws cs:List Int) (w:World) (hx:RQ w p q x) (ha:RI w a ws) (hc:RI w b cs) (hlw:ws.length≤200):
  Calls Tryz.prog 152 #[.agg #[.slice p.a p.n p.c,.slice q.a q.n q.c],.slice a.a a.n a.c,.slice b.a b.n b.c] w fun e w'=>e= .returned (.int .i64 (cf x ws cs))∧Below w.heap.size w w':=by
 unfold cf;by_cases h1:ws.length≠cs.length
 ·rw[if_pos h1];exact tE p q a b x ws cs w hx ha hc hlw h1
 ·have he:cs.length=ws.length:=A3
  rw[if_neg h1];by_cases h2:32<ws.length
  ·rw[if_pos h2];exact qL p q a b x ws cs w hx ha hc hlw he h2
  ·rw[if_neg h2];by_cases h3:ws.any noW=true
   ·rw[if_pos h3];exact m3 p q a b x ws cs w hx ha hc hlw he A3 h3
   ·rw[if_neg h3];have h3':ws.any noW=false:=by simpa using h3
    by_cases h4:cs.any noC=true
    ·rw[if_pos h4];exact sO p q a b x ws cs w hx ha hc hlw he A3 h3' h4
    ·rw[if_neg h4];have h4':cs.any noC=false:=by simpa using h4
     have hb:=lB cs (uD h4');have hs:cs.sum=((cs.sum.toNat:Nat):Int):=A3
     have hC: ∀z∈cs,0≤z∧z≤10000:=fun z hz=>by have:=uD h4' z hz;omega
     by_cases h5:((cs.sum.toNat:Nat):Rat)<x
     ·rw[if_pos h5];exact p8 p q a b x ws cs w hx ha hc hlw he A3 h3' h4' cs.sum.toNat A3 (Hd hs) (Hd hC) (Hd h5)
     ·rw[if_neg h5];exact wx p q a b x ws cs w hx ha hc hlw he A3 h3' h4' cs.sum.toNat A3 (Hd hs) (Hd hC) (Hd h5)
set_option maxRecDepth 100000
set_option maxHeartbeats 4000000
theorem sj (p q a b:Sl) (x:Rat) (ws cs:List Int) (w:World) (hx:RQ w p q x) (ha:RI w a ws) (hc:RI w b cs) (hlw:ws.length≤200) (cd:Int) (_hcd:cd≠0) (hcb:(cd==0)=false) (HC:Hid (cf x ws cs=cd)):
  Calls Tryz.prog 139 #[.agg #[.slice p.a p.n p.c,.slice q.a q.n q.c],.slice a.a a.n a.c,.slice b.a b.n b.c] w fun e w'=>e= .returned (.tuple #[.agg #[.slice none 0 0,.slice none 0 0],.int .i64 cd])∧Below w.heap.size w w':=by
 go_enter Tryz.func139,Tryz.ntmps139;have hb:Below w.heap.size w ((w.alloc (.cells #[.slice p.a p.n p.c,.slice q.a q.n q.c] 49)).alloc (.cells #[.slice none 0 0,.slice none 0 0] 49)):=(((Below.refl _ _).alloc lr _).alloc B4 _)
 replace hx:=hx.below hb;replace ha:=ha.below hb;replace hc:=hc.below hb;have hB:=hb;have P1:ah ((w.alloc (.cells #[.slice p.a p.n p.c,.slice q.a q.n q.c] 49)).alloc (.cells #[.slice none 0 0,.slice none 0 0] 49)) (w.heap.size) 49 (.slice p.a p.n p.c) (.slice q.a q.n q.c):=by
  have h:=(ah.new w 49 (.slice p.a p.n p.c) (.slice q.a q.n q.c)).alloc (.cells #[.slice none 0 0,.slice none 0 0] 49);exact zQ
 have P2:ah ((w.alloc (.cells #[.slice p.a p.n p.c,.slice q.a q.n q.c] 49)).alloc (.cells #[.slice none 0 0,.slice none 0 0] 49)) (w.heap.size+1) 49 (.slice none 0 0) (.slice none 0 0):=by
  have h:=ah.new (w.alloc (.cells #[.slice p.a p.n p.c,.slice q.a q.n q.c] 49)) 49 (.slice none 0 0) (.slice none 0 0);exact zQ
 clear hb;have c0P1:=P1.c0;have c1P1:=P1.c1;have c0P2:=P2.c0;have c1P2:=P2.c1;have H3:=Hd (lI p q a b x ws cs ((w.alloc (.cells #[.slice p.a p.n p.c,.slice q.a q.n q.c] 49)).alloc (.cells #[.slice none 0 0,.slice none 0 0] 49)) hx ha hc hlw);rw[HC.out] at H3
 go_wp2_with fail
 clear c0P1 c1P1 c0P2 c1P2;refine H3.mono ?_;rintro e w4 ⟨rfl,hb⟩;clear H3;replace P1:=P1.below hb;replace P2:=P2.below hb;replace hx:=hx.below hb;replace ha:=ha.below hb;replace hc:=hc.below hb;replace hB:=hB.tr hb;clear hb;have c0P1:=P1.c0;have c1P1:=P1.c1;have c0P2:=P2.c0;have c1P2:=P2.c1;have z0:=P2.z0;have z1:=P2.z1;have hsz:=hB.size
 go_wp2_with fail
 replace hB:=Below.pset (B:=w.heap.size+1) hB A3 (.slice none 0 0) (.slice none 0 0);have PX:=P2.set (.slice none 0 0) (.slice none 0 0);generalize (w4.setCell ⟨w.heap.size+1,0,none⟩ (.slice none 0 0)).setCell ⟨w.heap.size+1,1,none⟩ (.slice none 0 0)=WW at PX hB ⊢;refine bodyPost_ret (v:=.tuple #[.agg #[.slice none 0 0,.slice none 0 0],.int .i64 cd]) ?_ rfl ⟨rfl,hB⟩;simp[results,Tryz.f139,go_sem,PX.c0,PX.c1]
theorem pO (p q a b:Sl) (x:Rat) (ks:List Kid) (D:Nat) (w:World) (hx:RQ w p q x) (ha:RI w a (ks.map fun k=>(k.1:Int))) (hc:RI w b (ks.map fun k=>(k.2:Int))) (hl:ks.length≤32) (HKK:Hid (∀k∈ks,cX k)) (HF:Hid (gS D x)) (HX:Hid (x≤((bT ks:Nat):Rat))) (HE:Hid (cf x (ks.map fun k=>(k.1:Int)) (ks.map fun k=>(k.2:Int))=0)):
  Calls Tryz.prog 139 #[.agg #[.slice p.a p.n p.c,.slice q.a q.n q.c],.slice a.a a.n a.c,.slice b.a b.n b.c] w fun e w'=>∃u v:Sl,e= .returned (.tuple #[.agg #[.slice u.a u.n u.c,.slice v.a v.n v.c],.int .i64 0])∧RQ w' u v (aN x ks)∧Below w.heap.size w w':=by
 go_enter Tryz.func139,Tryz.ntmps139;have hb:Below w.heap.size w ((w.alloc (.cells #[.slice p.a p.n p.c,.slice q.a q.n q.c] 49)).alloc (.cells #[.slice none 0 0,.slice none 0 0] 49)):=(((Below.refl _ _).alloc lr _).alloc B4 _)
 replace hx:=hx.below hb;replace ha:=ha.below hb;replace hc:=hc.below hb;have hB:=hb;have P1:ah ((w.alloc (.cells #[.slice p.a p.n p.c,.slice q.a q.n q.c] 49)).alloc (.cells #[.slice none 0 0,.slice none 0 0] 49)) (w.heap.size) 49 (.slice p.a p.n p.c) (.slice q.a q.n q.c):=by
  have h:=(ah.new w 49 (.slice p.a p.n p.c) (.slice q.a q.n q.c)).alloc (.cells #[.slice none 0 0,.slice none 0 0] 49);exact zQ
 have P2:ah ((w.alloc (.cells #[.slice p.a p.n p.c,.slice q.a q.n q.c] 49)).alloc (.cells #[.slice none 0 0,.slice none 0 0] 49)) (w.heap.size+1) 49 (.slice none 0 0) (.slice none 0 0):=by
  have h:=ah.new (w.alloc (.cells #[.slice p.a p.n p.c,.slice q.a q.n q.c] 49)) 49 (.slice none 0 0) (.slice none 0 0);exact zQ
 clear hb;have c0P1:=P1.c0;have c1P1:=P1.c1;have c0P2:=P2.c0;have c1P2:=P2.c1;have H3:=Hd (lI p q a b x (ks.map fun k=>(k.1:Int)) (ks.map fun k=>(k.2:Int)) ((w.alloc (.cells #[.slice p.a p.n p.c,.slice q.a q.n q.c] 49)).alloc (.cells #[.slice none 0 0,.slice none 0 0] 49)) hx ha hc Bv);rw[HE.out] at H3
 go_wp2_with fail
 clear c0P1 c1P1 c0P2 c1P2;refine H3.mono ?_;rintro e w4 ⟨rfl,hb⟩;clear H3;replace P1:=P1.below hb;replace P2:=P2.below hb;replace hx:=hx.below hb;replace ha:=ha.below hb;replace hc:=hc.below hb;replace hB:=hB.tr hb;clear hb;have c0P1:=P1.c0;have c1P1:=P1.c1;have c0P2:=P2.c0;have c1P2:=P2.c1;have H7:=Hd (sJ p q a b x ks D w4 hx ha hc hl HKK HF HX)
 go_wp2_with fail
 clear c0P1 c1P1 c0P2 c1P2;refine H7.mono ?_;rintro e w8 ⟨x5,y6,rfl,rx5,hb⟩;clear H7;replace P1:=P1.below hb;replace P2:=P2.below hb;replace hx:=hx.below hb;replace ha:=ha.below hb;replace hc:=hc.below hb;replace hB:=hB.tr hb;clear hb;have c0P1:=P1.c0;have c1P1:=P1.c1;have c0P2:=P2.c0;have c1P2:=P2.c1;have z0:=P2.z0;have z1:=P2.z1;have hsz:=hB.size
 go_wp2_with fail
 replace rx5:=rx5.pset P2 (.slice x5.a x5.n x5.c) (.slice y6.a y6.n y6.c);replace hB:=Below.pset (B:=w.heap.size+1) hB A3 (.slice x5.a x5.n x5.c) (.slice y6.a y6.n y6.c);have PX:=P2.set (.slice x5.a x5.n x5.c) (.slice y6.a y6.n y6.c);generalize (w8.setCell ⟨w.heap.size+1,0,none⟩ (.slice x5.a x5.n x5.c)).setCell ⟨w.heap.size+1,1,none⟩ (.slice y6.a y6.n y6.c)=WW at rx5 PX hB ⊢;refine bodyPost_ret (v:=.tuple #[.agg #[.slice x5.a x5.n x5.c,.slice y6.a y6.n y6.c],.int .i64 0]) ?_ rfl ⟨x5,y6,rfl,rx5,hB⟩;simp[results,Tryz.f139,go_sem,PX.c0,PX.c1]
theorem wC (p q a b:Sl) (x:Rat) (ws cs:List Int) (w:World) (hx:RQ w p q x) (ha:RI w a ws) (hc:RI w b cs) (hlw:ws.length≤200) (cd:Int) (_hcd:cd≠0) (hcb:(cd==0)=false) (HC:Hid (cf x ws cs=cd)):
  Calls Tryz.prog 126 #[.agg #[.slice p.a p.n p.c,.slice q.a q.n q.c],.slice a.a a.n a.c,.slice b.a b.n b.c] w fun e w'=>e= .returned (.tuple #[.slice none 0 0,.int .i64 cd])∧Below w.heap.size w w':=by
 go_enter Tryz.func126,Tryz.ntmps126;have hb:Below w.heap.size w (w.alloc (.cells #[.slice p.a p.n p.c,.slice q.a q.n q.c] 49)):=((Below.refl _ _).alloc lr _)
 replace hx:=hx.below hb;replace ha:=ha.below hb;replace hc:=hc.below hb;have hB:=hb;have P1:ah (w.alloc (.cells #[.slice p.a p.n p.c,.slice q.a q.n q.c] 49)) (w.heap.size) 49 (.slice p.a p.n p.c) (.slice q.a q.n q.c):=by
  have h:=ah.new w 49 (.slice p.a p.n p.c) (.slice q.a q.n q.c);exact zQ
 clear hb;have c0P1:=P1.c0;have c1P1:=P1.c1;have H2:=Hd (sj p q a b x ws cs (w.alloc (.cells #[.slice p.a p.n p.c,.slice q.a q.n q.c] 49)) hx ha hc hlw cd _hcd hcb HC)
 go_wp2_with fail
 clear c0P1 c1P1;refine H2.mono ?_;rintro e w3 ⟨rfl,hb⟩;clear H2;replace P1:=P1.below hb;replace hx:=hx.below hb;replace ha:=ha.below hb;replace hc:=hc.below hb;replace hB:=hB.tr hb;clear hb;have hb:Below w3.heap.size w3 (w3.alloc (.cells #[.slice none 0 0,.slice none 0 0] 49)):=((Below.refl _ _).alloc lr _)
 replace P1:=P1.below hb;replace hx:=hx.below hb;replace ha:=ha.below hb;replace hc:=hc.below hb;replace hB:=hB.tr hb;have P4:ah (w3.alloc (.cells #[.slice none 0 0,.slice none 0 0] 49)) (w3.heap.size) 49 (.slice none 0 0) (.slice none 0 0):=by
  have h:=ah.new w3 49 (.slice none 0 0) (.slice none 0 0);exact zQ
 clear hb;have c0P1:=P1.c0;have c1P1:=P1.c1;have c0P4:=P4.c0;have c1P4:=P4.c1
 go_wp2_with fail
 go_ret2
 exact⟨rfl,hB⟩
theorem Tryz.info49:(Tryz.prog.info? 49).map (fun i=>(i.zero,i.size,i.bytes))=some (some (.agg #[.slice none 0 0,.slice none 0 0]),2,48):=Cx
theorem vZ {D:Nat} {x:Rat} {ks:List Kid} (hF:gS D x) (h0:0≤x) (hl:ks.length≤32) (hk: ∀k∈ks,cX k) (hx:x≤((bT ks:Nat):Rat)) (n:Nat) (hn:n≤10000):Sz (aN x ks*n):=by
 obtain⟨E,hE,hE2,hw,hd0,hd1⟩:=fQ (D:=D) hF.2.2 h0 (fun k hk'=>(hk k hk').1) (fun k hk'=>(hk k hk').2.1) (fun k hk'=>(hk k hk').2.2) hx;have hwl:=fe ks hk;have hcl:=jI ks hk;have hE3:E≤2 ^ 64:=by
  refine Nat.le_trans hE2 ?_;have:aI ks+1≤320001:=A3
  exact Nat.le_trans (Nat.mul_le_mul_left _ this) BD
 have hx2:x≤((2048:Nat):Rat):=Rat.le_trans hx (Rat.natCast_le_natCast.2 A3);refine Sz.whole (D:=D*E) (B:=2112*10000) (Nat.mul_ne_zero hF.1 hE) (gD n hw) (Rat.mul_nonneg hd0 Rat.natCast_nonneg) ?_ (go hF.2.1 hE3) (bW 3000 BD A3);have h1:aN x ks≤((2112:Nat):Rat):=by
  have:((2112:Nat):Rat)=((64:Nat):Rat)+((2048:Nat):Rat):=by rw[←Rat.natCast_add]
  rw[this];grind
 have h2:((n:Nat):Rat)≤((10000:Nat):Rat):=Rat.natCast_le_natCast.2 hn;rw[Rat.natCast_mul];exact Rat.le_trans (eK h1) (Rat.mul_le_mul_of_nonneg_left h2 Rat.natCast_nonneg)
theorem mc (f:Kid→Rat) {ks:List Kid} {k:Nat} (h:k<ks.length):(ks.take (k+1)).map f=(ks.take k).map f++[f (ks.getD k (0,0))]:=by
 rw[List.take_add_one,List.map_append];simp[List.getD_eq_getElem?_getD,List.getElem?_eq_getElem h]
theorem ug (p q a b:Sl) (x:Rat) (ks:List Kid) (D:Nat) (w:World) (hx:RQ w p q x) (ha:RI w a (ks.map fun k=>(k.1:Int))) (hc:RI w b (ks.map fun k=>(k.2:Int))) (hl:ks.length≤32) (HKK:Hid (∀k∈ks,cX k)) (HF:Hid (gS D x)) (HX:Hid (x≤((bT ks:Nat):Rat))) (HE:Hid (cf x (ks.map fun k=>(k.1:Int)) (ks.map fun k=>(k.2:Int))=0)):
  Calls Tryz.prog 126 #[.agg #[.slice p.a p.n p.c,.slice q.a q.n q.c],.slice a.a a.n a.c,.slice b.a b.n b.c] w fun e w'=>∃v,e= .returned (.tuple #[v,.int .i64 0])∧iJ w' v (ks.map (given (aN x ks)))∧(∀j,v.ownBlock=some j→w.heap.size≤j)∧Below w.heap.size w w':=by
 have ea:=ha.len;rw[List.length_map] at ea;have HEA:=Hd ea;clear ea;obtain⟨i0,hi,hz0,hz1,hz2⟩:=info_parts Tryz.info49;have HX0:Hid (0≤x):=Hd hx.1.pos;go_enter Tryz.func126,Tryz.ntmps126;have hb:Below w.heap.size w (w.alloc (.cells #[.slice p.a p.n p.c,.slice q.a q.n q.c] 49)):=((Below.refl _ _).alloc lr _)
 replace hx:=hx.below hb;replace ha:=ha.below hb;replace hc:=hc.below hb;have hB:=hb;have P1:ah (w.alloc (.cells #[.slice p.a p.n p.c,.slice q.a q.n q.c] 49)) (w.heap.size) 49 (.slice p.a p.n p.c) (.slice q.a q.n q.c):=by
  have h:=ah.new w 49 (.slice p.a p.n p.c) (.slice q.a q.n q.c);exact zQ
 clear hb;have c0P1:=P1.c0;have c1P1:=P1.c1;have H1:=Hd (pO p q a b x ks D (w.alloc (.cells #[.slice p.a p.n p.c,.slice q.a q.n q.c] 49)) hx ha hc hl HKK HF HX HE)
 go_wp2_with fail
 clear c0P1 c1P1;refine H1.mono ?_;rintro e w1 ⟨pv,qv,rfl,hv,hb⟩;clear H1;replace ha:=ha.below hb;replace hc:=hc.below hb;replace hB:=hB.tr hb;clear hb P1 hx;have P9:=ah.new w1 49 (.slice pv.a pv.n pv.c) (.slice qv.a qv.n qv.c);have hb:Below w1.heap.size w1 (w1.alloc (.cells #[.slice pv.a pv.n pv.c,.slice qv.a qv.n qv.c] 49)):=(Below.refl _ _).alloc lr _;have hsz:=hB.size;replace ha:=ha.below hb;replace hc:=hc.below hb;replace hv:=hv.below hb;replace hB:=hB.tr hb;clear hb
 go_wp2_with (at_make;refine k9 (base:=w1.heap.size+1) (e:=49) rfl _ _ 33 rfl i0 Tryz.underlying33 hi hz0 hz1 hz2 a.n rfl rfl (by have:=HEA.out;omega) B4 ?_;intro w2 hown hgrow)
 have hb:Below (w1.alloc (.cells #[.slice pv.a pv.n pv.c,.slice qv.a qv.n qv.c] 49)).heap.size (w1.alloc (.cells #[.slice pv.a pv.n pv.c,.slice qv.a qv.n qv.c] 49)) w2:=(Below.refl _ _).grown hgrow lr (fun j ej=>by cases ej);replace ha:=ha.below hb;replace hc:=hc.below hb;replace hv:=hv.below hb;replace P9:=P9.below hb;replace hB:=hB.tr hb;clear hb hgrow;obtain⟨B9,hB9⟩: ∃B,B=w1.heap.size:=⟨_,rfl⟩
 rw[←hB9] at hown hsz P9;simp only[World.size_alloc] at hown ⊢;rw[←hB9] at hown ⊢;clear hB9 w1;have H3:=Hd (iD a b ks w2 ha hc A3);clear ha hc
 go_wp2_with fail
 refine H3.mono ?_;rintro e w3 ⟨Bk,rfl,_,hkb,hb⟩;clear H3;replace hv:=hv.below hb;replace P9:=P9.below hb;replace hown:=hown.below hb;replace hB:=hB.tr hb;clear hb;have HLV:Hid (∀n:Nat,n≤10000→Sz (aN x ks*n)):=Hd (vZ HF.out HX0.out hl HKK.out HX.out);have HR:Hid ((ks.take 0).map (given (aN x ks))=[]):=Hd B4;obtain⟨lvl,hlvl⟩: ∃l,l=aN x ks:=⟨_,rfl⟩
 rw[←hlvl] at hv HLV HR;have HLL:=Hd hlvl;clear hlvl
 go_wp2_with fail
 go_loopw [10,30] (fun v i wr=>∃(k:Nat) (xs:List Value),k≤ks.length∧i= .int .i64 (k:Int)∧Hid (di wr (B9+1) 49 v k xs)∧Hid (eL RQ wr xs ((ks.take k).map (given lvl)))∧Hid (ah wr B9 49 (.slice pv.a pv.n pv.c) (.slice qv.a qv.n qv.c))∧Hid (RQ wr pv qv lvl)∧Hid (KB wr Bk ks)∧Hid (Below w.heap.size w wr)) (fun _ i _=>ks.length - (intOf i).toNat)
 case atStart=>exact⟨0,[],Nat.zero_le _,rfl,Hd hown,Hd (by rw[HR.out];exact eL.nil _ _),Hd P9,Hd hv,Hd hkb,Hd hB⟩
 case round=>
  clear P9 hkb hv hB hown;obtain⟨k,xs,hk,rfl,HO,HG,HP9,HV,HK,HBB⟩:=hrel;have P9:=HP9.out;have hkb:=HK.out;have hv:=HV.out;have hB:=HBB.out;have hg:=HG.out;have hown:=HO.out;clear HP9 HK HV HBB HG HO;by_cases hlt:k<ks.length
  ·skip
   have h2:=hkb.2 k hlt;have hkk:=HKK.out _ (fc hlt);have HTS:=Hd (mc (given lvl) hlt);generalize ks.getD k (0,0)=kid at h2 hkk HTS;obtain⟨wt,cp⟩:=kid;dsimp only at h2;obtain⟨⟨c1,_⟩,⟨c2,_⟩⟩:=h2;have hwt:=hkk.2.1;have hcp:=hkk.2.2;dsimp only at hwt hcp;clear hkk;have hb:Below wr.heap.size wr (wr.alloc (.cells #[.int .i64 (wt:Int),.int .i64 (cp:Int)] 201)):=((Below.refl _ _).alloc lr _)
   replace P9:=P9.below hb;replace hkb:=hkb.below hb;replace hv:=hv.below hb;replace hown:=hown.below hb;replace hg:=hg.move (fun _ _ _ h=>h.below hb);replace hB:=hB.tr hb;have P18:ah (wr.alloc (.cells #[.int .i64 (wt:Int),.int .i64 (cp:Int)] 201)) (wr.heap.size) 201 (.int .i64 (wt:Int)) (.int .i64 (cp:Int)):=by
    have h:=ah.new wr 201 (.int .i64 (wt:Int)) (.int .i64 (cp:Int));exact zQ
   clear hb;have c0P9:=P9.c0;have c1P9:=P9.c1;have c0P18:=P18.c0;have c1P18:=P18.c1;have H4:=Hd (uT wt cp pv qv lvl (wr.alloc (.cells #[.int .i64 (wt:Int),.int .i64 (cp:Int)] 201)) hv hwt hcp (Hd (HLV.out wt hwt)))
   go_wp2_with fail
   clear c0P9 c1P9 c0P18 c1P18 c1 c2;refine H4.mono ?_;rintro e w4 ⟨x1,y1,rfl,rg,hb⟩;clear H4 P18;replace P9:=P9.below hb;replace hkb:=hkb.below hb;replace hv:=hv.below hb;replace hown:=hown.below hb;replace hg:=hg.move (fun _ _ _ h=>h.below hb);replace hB:=hB.tr hb;clear hb;have hb:Below w4.heap.size w4 (w4.alloc (.cells #[.slice x1.a x1.n x1.c,.slice y1.a y1.n y1.c] 49)):=((Below.refl _ _).alloc lr _)
   have P5:=ah.new w4 49 (.slice x1.a x1.n x1.c) (.slice y1.a y1.n y1.c);have hs9:=P9.lt;replace P9:=P9.below hb;replace hkb:=hkb.below hb;replace hv:=hv.below hb;replace rg:=rg.below hb;replace hown:=hown.below hb;replace hg:=hg.move (fun _ _ _ h=>h.below hb);replace hB:=hB.tr hb;clear hb;have HN:Hid (∀(j:Nat) (u:Value),[Value.slice x1.a x1.n x1.c,Value.slice y1.a y1.n y1.c][j]? =some u→(w4.alloc (.cells #[.slice x1.a x1.n x1.c,.slice y1.a y1.n y1.c] 49)).cell? ((⟨w4.heap.size,0,none⟩:Addr).add j)=some u):=Hd (by
    intro j u hj
    match j,hj with
    | 0,hj=>rw[Addr.add_lit];exact P5.c0.trans hj
    | 1,hj=>rw[Addr.add_lit];exact P5.c1.trans hj
    | j+2,hj=>simp at hj)
   have HOW:=Hd hown;clear hown P5;have HP9:=Hd P9;have HKB:=Hd hkb;have HV:=Hd hv;have HRG:=Hd rg;have HGG:=Hd hg;have HB2:=Hd hB;clear P9 hkb hv rg hg hB
   go_wp2_with (at_builtin;refine jz (e:=49) (base:=B9+1) rfl _ _ 33 rfl i0 Tryz.underlying33 hi hz0 hz1 hz2 rfl HOW.out ⟨w4.heap.size,0,none⟩ 1 _ _ rfl ⟨_,_,_,rfl⟩ ⟨_,_,_,rfl⟩ HN.out A3 Cq ?_;intro v5 w5 hown5 hgrow5)
   have hle:w.heap.size≤B9+1:=A3
   have hBn:=HB2.grown hgrow5 HB2.size (fun j ej=>by have:=(HOW.lt j ej).1;omega);have hgn:=(HGG.snoc HRG.out).move (fun _ _ _ h=>h.grownS HOW.out hgrow5);rw[←HTS.out] at hgn;have hvn:=HV.grownS HOW.out hgrow5;have hpn:=HP9.grownS HOW.out (Nat.lt_succ_self _) hgrow5;have hkn:=HKB.grownS HOW.out hgrow5;have HH:=Hd (And.intro hBn (And.intro hgn (And.intro hvn (And.intro hpn (And.intro hkn hown5)))));clear hBn hgn hvn hpn hkn hown5 hgrow5
   go_wp2_with fail
   go_round
   case rel=>exact⟨k+1,_,A3,Cw,Hd HH.2.2.2.2.2,Hd HH.2.1,Hd HH.2.2.2.1,Hd HH.2.2.1,Hd HH.2.2.2.2.1,Hd HH.1⟩
   case measure=>simp[intOf];omega
  ·have ek:k=ks.length:=A3
   subst ek;have hg2:eL RQ wr xs (ks.map (given lvl)):=by rw[List.take_length] at hg;exact hg
   have ho2:di wr (B9+1) 49 u10 (ks.map (given lvl)).length xs:=by rw[List.length_map];exact hown
   have hfr: ∀j,u10.ownBlock=some j→w.heap.size≤j:=fun j e=>by
    have h1:=(hown.lt j e).1;omega
   have HH:=Hd (And.intro (dh.of_own ho2 hg2) (And.intro hfr hB));clear hg hown hg2 ho2 hB P9 hkb hv hfr
   go_wp2_with fail
   go_ret2
   exact⟨u10,rfl,by rw[←HLL.out];exact HH.1,HH.2.1,HH.2.2⟩
theorem dh.open {K:World→Sl→Sl→Rat→Prop} {w:World} {v:Value} {rs:List Rat} (h:dh K w v rs) (hne:rs≠[]): ∃B cap,v= .slice (some ⟨B,0,none⟩) rs.length cap∧B<w.heap.size∧∀j,j<rs.length→∃p q:Sl,w.cell? ⟨B,j*2,none⟩=some (.slice p.a p.n p.c)∧w.cell? ⟨B,j*2+1,none⟩=some (.slice q.a q.n q.c)∧K w p q (rs.getD j 0):=by
 obtain⟨ad,cap,rfl,h2⟩:=h;obtain⟨B,rfl,h3,h4⟩:=h2 hne;exact⟨B,cap,rfl,h3,h4⟩
theorem uA:(fF (N (rat 1 2)) (rat 1 2).den)=[49,47,50]:=B2
theorem xx:(fF (N 1) (1:Rat).den)=[49]:=B2
def IC (w:World) (b j:Nat) (z:Int):Prop:=b<w.heap.size∧w.cell? ⟨b,j,none⟩=some (.int .i64 z)
theorem IC.below {w w':World} {b j:Nat} {z:Int} (h:IC w b j z) (hb:Below w.heap.size w w'):IC w' b j z:=
 ⟨Nat.lt_of_lt_of_le h.1 hb.size,(hb.cell (p:=⟨b,j,none⟩) h.1).trans h.2⟩
theorem IC.pset {w:World} {b j B:Nat} {z:Int} {t:TypeId} {p r:Option Addr} {n c m d:Nat} (h:IC w b j z) (hp:ah w B t (.slice p n c) (.slice r m d)) (x' y':Value):IC ((w.setCell ⟨B,0,none⟩ x').setCell ⟨B,1,none⟩ y') b j z:=by
 have hbB:b≠B:=by
  rintro rfl;have h3:=h.2;simp only[World.cell?,show w.heap[b]? =_ from hp] at h3
  match j,h3 with
  | 0,h3=>simp at h3
  | 1,h3=>simp at h3
  | k+2,h3=>simp at h3
 refine⟨by simpa[World.setCell] using h.1,?_⟩;rw[World.cell?_of_block (w:=w) ((Below.heap_setCell _ _ _ _ hbB).trans (Below.heap_setCell _ _ _ _ hbB)),h.2]
def SC (w:World) (b j:Nat) (p q:Sl):Prop:=b<w.heap.size∧w.cell? ⟨b,j*2,none⟩=some (.slice p.a p.n p.c)∧w.cell? ⟨b,j*2+1,none⟩=some (.slice q.a q.n q.c)
theorem SC.below {w w':World} {b j:Nat} {p q:Sl} (h:SC w b j p q) (hb:Below w.heap.size w w'):SC w' b j p q:=
 ⟨Nat.lt_of_lt_of_le h.1 hb.size,(hb.cell (p:=⟨b,j*2,none⟩) h.1).trans h.2.1,(hb.cell (p:=⟨b,j*2+1,none⟩) h.1).trans h.2.2⟩
theorem iJ.below {w w':World} {v:Value} {rs:List Rat} (h:iJ w v rs) (hb:Below w.heap.size w w'):iJ w' v rs:=dh.below h (fun _ _ _ h=>h.below hb) hb
theorem dh.at {K:World→Sl→Sl→Rat→Prop} {w:World} {v:Value} {ks:List Kid} {f:Kid→Rat} (h:dh K w v (ks.map f)) {j:Nat} (hj:j<ks.length):
  ∃B cap,v= .slice (some ⟨B,0,none⟩) ks.length cap∧∃p q:Sl,SC w B j p q∧K w p q (f (ks.getD j (0,0))):=by
 have hne:ks.map f≠[]:=by
  intro e;have:=congrArg List.length e;simp at this;rw[this] at hj;simp at hj
 obtain⟨B,cap,rfl,hB,hc⟩:=h.open hne;obtain⟨p,q,h1,h2,h3⟩:=hc j (by rw[List.length_map];exact hj);refine⟨B,cap,by rw[List.length_map],p,q,⟨hB,h1,h2⟩,?_⟩;have e:(ks.map f).getD j 0=f (ks.getD j (0,0)):=by simp[List.getD_eq_getElem?_getD,List.getElem?_eq_getElem hj]
 rw[e] at h3;exact h3
theorem RI.at {w:World} {ad:Option Addr} {n cap:Nat} {ks:List Kid} {f:Kid→Int} (h:RI w ⟨ad,n,cap⟩ (ks.map f)) {j:Nat} (hj:j<ks.length):
  ∃b off,ad=some ⟨b,off,none⟩∧IC w b (off+j) (f (ks.getD j (0,0))):=by
 obtain⟨b,off,e,hb,hc⟩:=h.open (by intro e;have:=congrArg List.length e;simp at this;rw[this] at hj;simp at hj);exact⟨b,off,e,hb,by rw[hc j (by rw[List.length_map];exact hj),km _ hj]⟩
theorem qW (c k:Nat) (w:World) (hc:c<9223372036854775808) (hk:k<9223372036854775808) (HK:Hid (k≠0)):
  Calls Tryz.prog 103 #[.int .i64 (c:Int),.int .i64 (k:Int)] w fun e w'=>∃u v:Sl,e= .returned (.agg #[.slice u.a u.n u.c,.slice v.a v.n v.c])∧RK w' u v (rat c k)∧Below w.heap.size w w':=by
 go_enter Tryz.func103,Tryz.ntmps103;have hb:Below w.heap.size w (w.alloc (.cells #[.slice none 0 0,.slice none 0 0] 53)):=((Below.refl _ _).alloc lr _)
 have hB:=hb;have P1:ah (w.alloc (.cells #[.slice none 0 0,.slice none 0 0] 53)) (w.heap.size) 53 (.slice none 0 0) (.slice none 0 0):=by
  have h:=ah.new w 53 (.slice none 0 0) (.slice none 0 0);exact zQ
 clear hb;have c0P1:=P1.c0;have c1P1:=P1.c1;have H4:=Hd (fT c (w.alloc (.cells #[.slice none 0 0,.slice none 0 0] 53)) A3)
 go_wp2_with fail
 clear c0P1 c1P1;refine H4.mono ?_;rintro e w5 ⟨v2,rfl,rx3,hb⟩;clear H4;replace P1:=P1.below hb;replace hB:=hB.tr hb;clear hb;obtain⟨x3,rfl,rx3⟩:=rx3.sl;have c0P1:=P1.c0;have c1P1:=P1.c1;have H8:=Hd (fT k w5 A3)
 go_wp2_with fail
 clear c0P1 c1P1;refine H8.mono ?_;rintro e w9 ⟨v6,rfl,rx7,hb⟩;clear H8;replace P1:=P1.below hb;replace rx3:=rx3.below hb;replace hB:=hB.tr hb;clear hb;obtain⟨x7,rfl,rx7⟩:=rx7.sl;have c0P1:=P1.c0;have c1P1:=P1.c1;have H12:=Hd (Kof (.slice x3.a x3.n x3.c) (.slice x7.a x7.n x7.c) c k w9 rx3 rx7 (Nat.lt_of_lt_of_le (by omega:c<9223372036854775808) (bW 6400 BD A3)) (Nat.lt_of_lt_of_le (by omega:k<9223372036854775808) (bW 6400 BD A3)) HK.out)
 go_wp2_with fail
 clear c0P1 c1P1;refine H12.mono ?_;rintro e w13 ⟨x10,y11,rfl,rx10,hb⟩;clear H12;replace P1:=P1.below hb;replace rx3:=rx3.below hb;replace rx7:=rx7.below hb;replace hB:=hB.tr hb;clear hb;have c0P1:=P1.c0;have c1P1:=P1.c1;have z0P1:=P1.z0;have z1P1:=P1.z1;have hsz:=hB.size
 go_wp2_with fail
 replace rx10:=rx10.pset P1 (.slice x10.a x10.n x10.c) (.slice y11.a y11.n y11.c);replace hB:=Below.pset (B:=w.heap.size) hB A3 (.slice x10.a x10.n x10.c) (.slice y11.a y11.n y11.c);have PX:=P1.set (.slice x10.a x10.n x10.c) (.slice y11.a y11.n y11.c);generalize (w13.setCell ⟨w.heap.size,0,none⟩ (.slice x10.a x10.n x10.c)).setCell ⟨w.heap.size,1,none⟩ (.slice y11.a y11.n y11.c)=WW at rx10 PX hB ⊢;refine bodyPost_ret (v:=.agg #[.slice x10.a x10.n x10.c,.slice y11.a y11.n y11.c]) ?_ rfl ⟨x10,y11,rfl,rx10,hB⟩;simp[results,Tryz.f103,go_sem,PX.c0,PX.c1]
theorem Cj {p:Prop} (h:p:=by have h0:=hX.2.2.c0;have h1:=hX.2.2.c1;go_simp):p:=h
theorem Ag {p:Prop} (h:p:=by have H43:=Hd (pX py qy x39 y40 (l*(k:Rat)) (((c:Nat):Rat)) w42 hy rx39);go_simp;refine H43.mono ?_;rintro e w44 ⟨rfl,hb⟩;clear H43;replace P1:=P1.below hb;replace P2:=P2.below hb;replace P7:=P7.below hb;replace hl:=hl.below hb;replace hy:=hy.below hb;replace rx39:=rx39.below hb;replace hB:=hB.tr hb;clear hb;refine hK _ _ ⟨P1,P2,P7⟩ ?_;clear hK K;refine Rd.tf (.bool (decide (0<(ev (l*(k:Rat)) (((c:Nat):Rat)))))) ?_;exact Rd.tr_end (⟨_,_,_,_,_,rfl,P1,P2,P7,hl,hy,(by simp only[eE]),hB⟩)):p:=h
theorem Aa {p:Prop} (h:p:=by have c0P12:=P12.c0;have c1P12:=P12.c1;have z0P12:=P12.z0;have z1P12:=P12.z1;go_simp;clear c0P12 c1P12 z0P12 z1P12;replace hl:=hl.pset P12 (.slice x8.a x8.n x8.c) (.slice y9.a y9.n y9.c);replace rx4:=rx4.pset P12 (.slice x8.a x8.n x8.c) (.slice y9.a y9.n y9.c);replace rx8:=rx8.pset P12 (.slice x8.a x8.n x8.c) (.slice y9.a y9.n y9.c);replace P1:=P1.other (B:=B13) (by omega) (.slice x8.a x8.n x8.c) (.slice y9.a y9.n y9.c);replace P2:=P2.other (B:=B13) (by omega) (.slice x8.a x8.n x8.c) (.slice y9.a y9.n y9.c);replace hB:=Below.pset (B:=B13) hB (by omega) (.slice x8.a x8.n x8.c) (.slice y9.a y9.n y9.c);replace P12:=P12.set (.slice x8.a x8.n x8.c) (.slice y9.a y9.n y9.c);generalize (w14.setCell ⟨B13,0,none⟩ (.slice x8.a x8.n x8.c)).setCell ⟨B13,1,none⟩ (.slice y9.a y9.n y9.c)=w15 at P1 P2 P12 hl rx4 rx8 hB ⊢;refine hK _ _ ⟨P1,P2⟩ ?_;clear hK K;exact Rd.tr_end (⟨x8,y9,B13,_,_,_,_,rfl,P1,P2,hl,P12,rx8,hB⟩)):p:=h
theorem zZ {p:Prop} (h:p:=by have c0P16:=P16.c0;have c1P16:=P16.c1;have z0P16:=P16.z0;have z1P16:=P16.z1;go_simp;clear c0P16 c1P16 z0P16 z1P16;replace hl:=hl.pset P16 (.slice x19.a x19.n x19.c) (.slice y20.a y20.n y20.c);replace rx4:=rx4.pset P16 (.slice x19.a x19.n x19.c) (.slice y20.a y20.n y20.c);replace rx19:=rx19.pset P16 (.slice x19.a x19.n x19.c) (.slice y20.a y20.n y20.c);replace P1:=P1.other (B:=B17) (by omega) (.slice x19.a x19.n x19.c) (.slice y20.a y20.n y20.c);replace P2:=P2.other (B:=B17) (by omega) (.slice x19.a x19.n x19.c) (.slice y20.a y20.n y20.c);replace hB:=Below.pset (B:=B17) hB (by omega) (.slice x19.a x19.n x19.c) (.slice y20.a y20.n y20.c);replace P16:=P16.set (.slice x19.a x19.n x19.c) (.slice y20.a y20.n y20.c);generalize (w22.setCell ⟨B17,0,none⟩ (.slice x19.a x19.n x19.c)).setCell ⟨B17,1,none⟩ (.slice y20.a y20.n y20.c)=w23 at P1 P2 P16 hl rx4 rx19 hB ⊢;refine hK _ _ ⟨P1,P2⟩ ?_;clear hK K;exact Rd.tr_end (⟨x19,y20,B17,_,_,_,_,rfl,P1,P2,hl,P16,rx19,hB⟩)):p:=h
theorem zY {p:Prop} (h:p:=by have c0P24:=P24.c0;have c1P24:=P24.c1;have z0P24:=P24.z0;have z1P24:=P24.z1;go_simp;clear c0P24 c1P24 z0P24 z1P24;replace hl:=hl.pset P24 (.slice x31.a x31.n x31.c) (.slice y32.a y32.n y32.c);replace rx27:=rx27.pset P24 (.slice x31.a x31.n x31.c) (.slice y32.a y32.n y32.c);replace rx31:=rx31.pset P24 (.slice x31.a x31.n x31.c) (.slice y32.a y32.n y32.c);replace P1:=P1.other (B:=B25) (by omega) (.slice x31.a x31.n x31.c) (.slice y32.a y32.n y32.c);replace P2:=P2.other (B:=B25) (by omega) (.slice x31.a x31.n x31.c) (.slice y32.a y32.n y32.c);replace hB:=Below.pset (B:=B25) hB (by omega) (.slice x31.a x31.n x31.c) (.slice y32.a y32.n y32.c);replace P24:=P24.set (.slice x31.a x31.n x31.c) (.slice y32.a y32.n y32.c);generalize (w34.setCell ⟨B25,0,none⟩ (.slice x31.a x31.n x31.c)).setCell ⟨B25,1,none⟩ (.slice y32.a y32.n y32.c)=w35 at P1 P2 P24 hl rx27 rx31 hB ⊢;refine hK _ _ ⟨P1,P2⟩ ?_;clear hK K;exact Rd.tr_end (⟨x31,y32,B25,_,_,_,_,rfl,P1,P2,hl,P24,rx31,hB⟩)):p:=h
theorem ud (p q:Sl) (l:Rat) (k c:Nat) (w:World) (hl:RK w p q l) (hk:k<9223372036854775808) (hc:c<9223372036854775808) (HZ:Hid (Sz (l*(k:Rat)))) (HO:Hid ((c:Rat)<l*(k:Rat))):
  Calls Tryz.prog 66 #[.agg #[.slice p.a p.n p.c,.slice q.a q.n q.c],.int .i64 (k:Int),.int .i64 (c:Int)] w fun e w'=>∃u v:Sl,e= .returned (.agg #[.slice u.a u.n u.c,.slice v.a v.n v.c])∧RK w' u v (given l (k,c))∧Below w.heap.size w w':=by
 go_enter Tryz.func66,Tryz.ntmps66;have hb:Below w.heap.size w ((w.alloc (.cells #[.slice p.a p.n p.c,.slice q.a q.n q.c] 53)).alloc (.cells #[.slice none 0 0,.slice none 0 0] 53)):=(((Below.refl _ _).alloc lr _).alloc B4 _)
 replace hl:=hl.below hb;have hB:=hb;have P1:ah ((w.alloc (.cells #[.slice p.a p.n p.c,.slice q.a q.n q.c] 53)).alloc (.cells #[.slice none 0 0,.slice none 0 0] 53)) (w.heap.size) 53 (.slice p.a p.n p.c) (.slice q.a q.n q.c):=by
  have h:=(ah.new w 53 (.slice p.a p.n p.c) (.slice q.a q.n q.c)).alloc (.cells #[.slice none 0 0,.slice none 0 0] 53);exact zQ
 have P2:ah ((w.alloc (.cells #[.slice p.a p.n p.c,.slice q.a q.n q.c] 53)).alloc (.cells #[.slice none 0 0,.slice none 0 0] 53)) (w.heap.size+1) 53 (.slice none 0 0) (.slice none 0 0):=by
  have h:=ah.new (w.alloc (.cells #[.slice p.a p.n p.c,.slice q.a q.n q.c] 53)) 53 (.slice none 0 0) (.slice none 0 0);exact zQ
 clear hb;have c0P1:=P1.c0;have c1P1:=P1.c1;have c0P2:=P2.c0;have c1P2:=P2.c1
 go_wp2_with fail
 clear c0P1 c1P1 c0P2 c1P2;have hb:Below ((w.alloc (.cells #[.slice p.a p.n p.c,.slice q.a q.n q.c] 53)).alloc (.cells #[.slice none 0 0,.slice none 0 0] 53)).heap.size ((w.alloc (.cells #[.slice p.a p.n p.c,.slice q.a q.n q.c] 53)).alloc (.cells #[.slice none 0 0,.slice none 0 0] 53)) ((w.alloc (.cells #[.slice p.a p.n p.c,.slice q.a q.n q.c] 53)).alloc (.cells #[.slice none 0 0,.slice none 0 0] 53)).drew:=(Below.refl _ _).drew;replace P1:=P1.below hb;replace P2:=P2.below hb;replace hl:=hl.below hb;replace hB:=hB.tr hb;clear hb;refine Rd.regionT (fun X=>ah X (w.heap.size) 53 (.slice p.a p.n p.c) (.slice q.a q.n q.c)∧ah X (w.heap.size+1) 53 (.slice none 0 0) (.slice none 0 0)) [0,1] (.one 0 (.one 1 (.two 2 (.two 3 (.one 4 (.one 5 .done)) 4 (.one 3 (.one 5 .done))) 4 (.one 2 (.one 3 (.one 5 .done)))))) (fun ac W=>∃(py:Sl) (qy:Sl) (B7:Nat) (y8 y9 y10 y11:Value),ac={ tmps:=List.toArray (.agg #[.slice p.a p.n p.c,.slice q.a q.n q.c]:: .int .i64 (k:Int):: .int .i64 (c:Int):: .pointer (some ⟨w.heap.size,0,none⟩)::undef::undef:: .pointer (some ⟨w.heap.size+1,0,none⟩):: .pointer (some ⟨B7,0,none⟩)::y8::y9::y10::y11::undef::undef::undef::undef::undef::undef::undef::undef::[]),defers:=[] }∧ah W (w.heap.size) 53 (.slice p.a p.n p.c) (.slice q.a q.n q.c)∧ah W (w.heap.size+1) 53 (.slice none 0 0) (.slice none 0 0)∧RK W p q (l)∧ah W B7 53 (.slice py.a py.n py.c) (.slice qy.a qy.n qy.c)∧RK W py qy (l*(k:Rat))∧Below w.heap.size w W) Cx Cx Cx ⟨P1,P2⟩ ?tree ?next
 case tree=>
  generalize ((w.alloc (.cells #[.slice p.a p.n p.c,.slice q.a q.n q.c] 53)).alloc (.cells #[.slice none 0 0,.slice none 0 0] 53)).drew=w3 at P1 P2 hl hB ⊢;refine Rd.tg (.agg #[.slice p.a p.n p.c,.slice q.a q.n q.c]) ?_ (y:=fun X hX=>A5);refine Rd.tf (.int .i64 (k:Int)) ?_;refine Rd.tr_two BC Cp BC Cp (fun K hK=>?_) (fun K hK=>?_)
  ·skip
   have H6:=Hd (jf (k) A3 w3);go_simp;refine H6.mono ?_;rintro e w7 ⟨x4,y5,rfl,rx4,hb⟩;clear H6;replace P1:=P1.below hb;replace P2:=P2.below hb;replace hl:=hl.below hb;replace hB:=hB.tr hb;clear hb;refine hK _ _ ⟨P1,P2⟩ ?_;clear hK K;refine Rd.tr_two BC Cp BC Cp (fun K hK=>?_) (fun K hK=>?_)
   ·skip
    have H10:=Hd (tn p q x4 y5 (l) (((k:Nat):Rat)) w7 hl rx4 HZ.out);go_simp;refine H10.mono ?_;rintro e w11 ⟨x8,y9,rfl,rx8,hb⟩;clear H10;replace P1:=P1.below hb;replace P2:=P2.below hb;replace hl:=hl.below hb;replace rx4:=rx4.below hb;replace hB:=hB.tr hb;clear hb;refine hK _ _ ⟨P1,P2⟩ ?_;clear hK K;refine Rd.tm fun K hK=>?_
    go_simp;have P12:=ah.new w11 53 (.slice none 0 0) (.slice none 0 0);have nP1P12:=P1.lt;have nP2P12:=P2.lt;have gP12:=hB.size;have hb:Below w11.heap.size w11 (w11.alloc (.cells #[.slice none 0 0,.slice none 0 0] 53)):=(Below.refl _ _).alloc lr _;replace P1:=P1.below hb;replace P2:=P2.below hb;replace hl:=hl.below hb;replace rx4:=rx4.below hb;replace rx8:=rx8.below hb;replace hB:=hB.tr hb;clear hb;generalize w11.alloc (.cells #[.slice none 0 0,.slice none 0 0] 53)=w14 at P1 P2 hl rx4 rx8 P12 hB ⊢;generalize w11.heap.size=B13 at nP1P12 nP2P12 P12 gP12 ⊢;refine hK _ _ ⟨P1,P2⟩ ?_;clear hK K;refine Rd.tm fun K hK=>?_
    exact Aa
   ·skip
    go_simp;have P16:=ah.new w7 53 (.slice none 0 0) (.slice none 0 0);have nP1P16:=P1.lt;have nP2P16:=P2.lt;have gP16:=hB.size;have hb:Below w7.heap.size w7 (w7.alloc (.cells #[.slice none 0 0,.slice none 0 0] 53)):=(Below.refl _ _).alloc lr _;replace P1:=P1.below hb;replace P2:=P2.below hb;replace hl:=hl.below hb;replace rx4:=rx4.below hb;replace hB:=hB.tr hb;clear hb;generalize w7.alloc (.cells #[.slice none 0 0,.slice none 0 0] 53)=w18 at P1 P2 hl rx4 P16 hB ⊢;generalize w7.heap.size=B17 at nP1P16 nP2P16 P16 gP16 ⊢;refine hK _ _ ⟨P1,P2⟩ ?_;clear hK K;refine Rd.tm fun K hK=>?_
    have H21:=Hd (tn p q x4 y5 (l) (((k:Nat):Rat)) w18 hl rx4 HZ.out);go_simp;refine H21.mono ?_;rintro e w22 ⟨x19,y20,rfl,rx19,hb⟩;clear H21;replace P1:=P1.below hb;replace P2:=P2.below hb;replace P16:=P16.below hb;replace hl:=hl.below hb;replace rx4:=rx4.below hb;replace hB:=hB.tr hb;clear hb;refine hK _ _ ⟨P1,P2⟩ ?_;clear hK K;refine Rd.tm fun K hK=>?_
    exact zZ
  ·skip
   go_simp;have P24:=ah.new w3 53 (.slice none 0 0) (.slice none 0 0);have nP1P24:=P1.lt;have nP2P24:=P2.lt;have gP24:=hB.size;have hb:Below w3.heap.size w3 (w3.alloc (.cells #[.slice none 0 0,.slice none 0 0] 53)):=(Below.refl _ _).alloc lr _;replace P1:=P1.below hb;replace P2:=P2.below hb;replace hl:=hl.below hb;replace hB:=hB.tr hb;clear hb;generalize w3.alloc (.cells #[.slice none 0 0,.slice none 0 0] 53)=w26 at P1 P2 hl P24 hB ⊢;generalize w3.heap.size=B25 at nP1P24 nP2P24 P24 gP24 ⊢;refine hK _ _ ⟨P1,P2⟩ ?_;clear hK K;refine Rd.tm fun K hK=>?_
   have H29:=Hd (jf (k) A3 w26);go_simp;refine H29.mono ?_;rintro e w30 ⟨x27,y28,rfl,rx27,hb⟩;clear H29;replace P1:=P1.below hb;replace P2:=P2.below hb;replace P24:=P24.below hb;replace hl:=hl.below hb;replace hB:=hB.tr hb;clear hb;refine hK _ _ ⟨P1,P2⟩ ?_;clear hK K;refine Rd.tm fun K hK=>?_
   have H33:=Hd (tn p q x27 y28 (l) (((k:Nat):Rat)) w30 hl rx27 HZ.out);go_simp;refine H33.mono ?_;rintro e w34 ⟨x31,y32,rfl,rx31,hb⟩;clear H33;replace P1:=P1.below hb;replace P2:=P2.below hb;replace P24:=P24.below hb;replace hl:=hl.below hb;replace rx27:=rx27.below hb;replace hB:=hB.tr hb;clear hb;refine hK _ _ ⟨P1,P2⟩ ?_;clear hK K;refine Rd.tm fun K hK=>?_
   exact zY
 case next=>
  rintro a37 W36 ⟨py,qy,B7,y8,y9,y10,y11,rfl,P1,P2,hl,P7,hy,hB⟩;have c0P1:=P1.c0;have c1P1:=P1.c1;have c0P2:=P2.c0;have c1P2:=P2.c1;have c0P7:=P7.c0;have c1P7:=P7.c1
  go_wp2_with fail
  clear c0P1 c1P1 c0P2 c1P2 c0P7 c1P7;have hb:Below W36.heap.size W36 W36.drew:=(Below.refl _ _).drew;replace P1:=P1.below hb;replace P2:=P2.below hb;replace P7:=P7.below hb;replace hl:=hl.below hb;replace hy:=hy.below hb;replace hB:=hB.tr hb;clear hb;refine Rd.regionT (fun X=>ah X (w.heap.size) 53 (.slice p.a p.n p.c) (.slice q.a q.n q.c)∧ah X (w.heap.size+1) 53 (.slice none 0 0) (.slice none 0 0)∧ah X (B7) 53 (.slice py.a py.n py.c) (.slice qy.a qy.n qy.c)) [0,1,4] (.one 0 (.one 1 (.one 2 (.one 3 (.one 4 .done))))) (fun ac W=>∃(T:Bool) (y12 y13 y14 y15:Value),ac={ tmps:=List.toArray (.agg #[.slice p.a p.n p.c,.slice q.a q.n q.c]:: .int .i64 (k:Int):: .int .i64 (c:Int):: .pointer (some ⟨w.heap.size,0,none⟩)::undef::undef:: .pointer (some ⟨w.heap.size+1,0,none⟩):: .pointer (some ⟨B7,0,none⟩)::y8::y9::y10::y11::y12::y13::y14::y15:: .bool T::undef::undef::undef::[]),defers:=[] }∧ah W (w.heap.size) 53 (.slice p.a p.n p.c) (.slice q.a q.n q.c)∧ah W (w.heap.size+1) 53 (.slice none 0 0) (.slice none 0 0)∧ah W (B7) 53 (.slice py.a py.n py.c) (.slice qy.a qy.n qy.c)∧RK W p q (l)∧RK W py qy (l*(k:Rat))∧T=decide ((c:Rat)<l*(k:Rat))∧Below w.heap.size w W) Cx Cx Cx ⟨P1,P2,P7⟩ ?tree ?next
  case tree=>
   generalize W36.drew=w38 at P1 P2 P7 hl hy hB ⊢;refine Rd.tg (.agg #[.slice py.a py.n py.c,.slice qy.a qy.n qy.c]) ?_ (y:=fun X hX=>Cj);refine Rd.tf (.int .i64 (c:Int)) ?_;refine Rd.tm fun K hK=>?_
   have H41:=Hd (jf (c) A3 w38);go_simp;refine H41.mono ?_;rintro e w42 ⟨x39,y40,rfl,rx39,hb⟩;clear H41;replace P1:=P1.below hb;replace P2:=P2.below hb;replace P7:=P7.below hb;replace hl:=hl.below hb;replace hy:=hy.below hb;replace hB:=hB.tr hb;clear hb;refine hK _ _ ⟨P1,P2,P7⟩ ?_;clear hK K;refine Rd.tm fun K hK=>?_
   exact Ag
  case next=>
   rintro a46 W45 ⟨T,y12,y13,y14,y15,rfl,P1,P2,P7,hl,hy,hT,hB⟩;rw[decide_eq_true HO.out] at hT;subst hT;have c0P1:=P1.c0;have c1P1:=P1.c1;have c0P2:=P2.c0;have c1P2:=P2.c1;have c0P7:=P7.c0;have c1P7:=P7.c1;have H49:=Hd (jf (c) A3 W45)
   go_wp2_with fail
   clear c0P1 c1P1 c0P2 c1P2 c0P7 c1P7;refine H49.mono ?_;rintro e w50 ⟨x47,y48,rfl,rx47,hb⟩;clear H49;replace P1:=P1.below hb;replace P2:=P2.below hb;replace P7:=P7.below hb;replace hl:=hl.below hb;replace hy:=hy.below hb;replace hB:=hB.tr hb;clear hb;have c0P1:=P1.c0;have c1P1:=P1.c1;have c0P2:=P2.c0;have c1P2:=P2.c1;have c0P7:=P7.c0;have c1P7:=P7.c1;have z0P2:=P2.z0;have z1P2:=P2.z1;have hsz:=hB.size
   go_wp2_with fail
   replace rx47:=rx47.pset P2 (.slice x47.a x47.n x47.c) (.slice y48.a y48.n y48.c);replace hB:=Below.pset (B:=w.heap.size+1) hB A3 (.slice x47.a x47.n x47.c) (.slice y48.a y48.n y48.c);have PX:=P2.set (.slice x47.a x47.n x47.c) (.slice y48.a y48.n y48.c);generalize (w50.setCell ⟨w.heap.size+1,0,none⟩ (.slice x47.a x47.n x47.c)).setCell ⟨w.heap.size+1,1,none⟩ (.slice y48.a y48.n y48.c)=WW at rx47 PX hB ⊢;unfold given;rw[if_pos HO.out];refine bodyPost_ret (v:=.agg #[.slice x47.a x47.n x47.c,.slice y48.a y48.n y48.c]) ?_ rfl ⟨x47,y48,rfl,rx47,hB⟩;simp[results,Tryz.f66,go_sem,PX.c0,PX.c1]
theorem qd (p q:Sl) (l:Rat) (k c:Nat) (w:World) (hl:RK w p q l) (hk:k<9223372036854775808) (hc:c<9223372036854775808) (HZ:Hid (Sz (l*(k:Rat)))) (HO:Hid (¬(c:Rat)<l*(k:Rat))):
  Calls Tryz.prog 66 #[.agg #[.slice p.a p.n p.c,.slice q.a q.n q.c],.int .i64 (k:Int),.int .i64 (c:Int)] w fun e w'=>∃u v:Sl,e= .returned (.agg #[.slice u.a u.n u.c,.slice v.a v.n v.c])∧RK w' u v (given l (k,c))∧Below w.heap.size w w':=by
 go_enter Tryz.func66,Tryz.ntmps66;have hb:Below w.heap.size w ((w.alloc (.cells #[.slice p.a p.n p.c,.slice q.a q.n q.c] 53)).alloc (.cells #[.slice none 0 0,.slice none 0 0] 53)):=(((Below.refl _ _).alloc lr _).alloc B4 _)
 replace hl:=hl.below hb;have hB:=hb;have P1:ah ((w.alloc (.cells #[.slice p.a p.n p.c,.slice q.a q.n q.c] 53)).alloc (.cells #[.slice none 0 0,.slice none 0 0] 53)) (w.heap.size) 53 (.slice p.a p.n p.c) (.slice q.a q.n q.c):=by
  have h:=(ah.new w 53 (.slice p.a p.n p.c) (.slice q.a q.n q.c)).alloc (.cells #[.slice none 0 0,.slice none 0 0] 53);exact zQ
 have P2:ah ((w.alloc (.cells #[.slice p.a p.n p.c,.slice q.a q.n q.c] 53)).alloc (.cells #[.slice none 0 0,.slice none 0 0] 53)) (w.heap.size+1) 53 (.slice none 0 0) (.slice none 0 0):=by
  have h:=ah.new (w.alloc (.cells #[.slice p.a p.n p.c,.slice q.a q.n q.c] 53)) 53 (.slice none 0 0) (.slice none 0 0);exact zQ
 clear hb;have c0P1:=P1.c0;have c1P1:=P1.c1;have c0P2:=P2.c0;have c1P2:=P2.c1
 go_wp2_with fail
 clear c0P1 c1P1 c0P2 c1P2;have hb:Below ((w.alloc (.cells #[.slice p.a p.n p.c,.slice q.a q.n q.c] 53)).alloc (.cells #[.slice none 0 0,.slice none 0 0] 53)).heap.size ((w.alloc (.cells #[.slice p.a p.n p.c,.slice q.a q.n q.c] 53)).alloc (.cells #[.slice none 0 0,.slice none 0 0] 53)) ((w.alloc (.cells #[.slice p.a p.n p.c,.slice q.a q.n q.c] 53)).alloc (.cells #[.slice none 0 0,.slice none 0 0] 53)).drew:=(Below.refl _ _).drew;replace P1:=P1.below hb;replace P2:=P2.below hb;replace hl:=hl.below hb;replace hB:=hB.tr hb;clear hb;refine Rd.regionT (fun X=>ah X (w.heap.size) 53 (.slice p.a p.n p.c) (.slice q.a q.n q.c)∧ah X (w.heap.size+1) 53 (.slice none 0 0) (.slice none 0 0)) [0,1] (.one 0 (.one 1 (.two 2 (.two 3 (.one 4 (.one 5 .done)) 4 (.one 3 (.one 5 .done))) 4 (.one 2 (.one 3 (.one 5 .done)))))) (fun ac W=>∃(py:Sl) (qy:Sl) (B7:Nat) (y8 y9 y10 y11:Value),ac={ tmps:=List.toArray (.agg #[.slice p.a p.n p.c,.slice q.a q.n q.c]:: .int .i64 (k:Int):: .int .i64 (c:Int):: .pointer (some ⟨w.heap.size,0,none⟩)::undef::undef:: .pointer (some ⟨w.heap.size+1,0,none⟩):: .pointer (some ⟨B7,0,none⟩)::y8::y9::y10::y11::undef::undef::undef::undef::undef::undef::undef::undef::[]),defers:=[] }∧ah W (w.heap.size) 53 (.slice p.a p.n p.c) (.slice q.a q.n q.c)∧ah W (w.heap.size+1) 53 (.slice none 0 0) (.slice none 0 0)∧RK W p q (l)∧ah W B7 53 (.slice py.a py.n py.c) (.slice qy.a qy.n qy.c)∧RK W py qy (l*(k:Rat))∧Below w.heap.size w W) Cx Cx Cx ⟨P1,P2⟩ ?tree ?next
 case tree=>
  generalize ((w.alloc (.cells #[.slice p.a p.n p.c,.slice q.a q.n q.c] 53)).alloc (.cells #[.slice none 0 0,.slice none 0 0] 53)).drew=w3 at P1 P2 hl hB ⊢;refine Rd.tg (.agg #[.slice p.a p.n p.c,.slice q.a q.n q.c]) ?_ (y:=fun X hX=>A5);refine Rd.tf (.int .i64 (k:Int)) ?_;refine Rd.tr_two BC Cp BC Cp (fun K hK=>?_) (fun K hK=>?_)
  ·skip
   have H6:=Hd (jf (k) A3 w3);go_simp;refine H6.mono ?_;rintro e w7 ⟨x4,y5,rfl,rx4,hb⟩;clear H6;replace P1:=P1.below hb;replace P2:=P2.below hb;replace hl:=hl.below hb;replace hB:=hB.tr hb;clear hb;refine hK _ _ ⟨P1,P2⟩ ?_;clear hK K;refine Rd.tr_two BC Cp BC Cp (fun K hK=>?_) (fun K hK=>?_)
   ·skip
    have H10:=Hd (tn p q x4 y5 (l) (((k:Nat):Rat)) w7 hl rx4 HZ.out);go_simp;refine H10.mono ?_;rintro e w11 ⟨x8,y9,rfl,rx8,hb⟩;clear H10;replace P1:=P1.below hb;replace P2:=P2.below hb;replace hl:=hl.below hb;replace rx4:=rx4.below hb;replace hB:=hB.tr hb;clear hb;refine hK _ _ ⟨P1,P2⟩ ?_;clear hK K;refine Rd.tm fun K hK=>?_
    go_simp;have P12:=ah.new w11 53 (.slice none 0 0) (.slice none 0 0);have nP1P12:=P1.lt;have nP2P12:=P2.lt;have gP12:=hB.size;have hb:Below w11.heap.size w11 (w11.alloc (.cells #[.slice none 0 0,.slice none 0 0] 53)):=(Below.refl _ _).alloc lr _;replace P1:=P1.below hb;replace P2:=P2.below hb;replace hl:=hl.below hb;replace rx4:=rx4.below hb;replace rx8:=rx8.below hb;replace hB:=hB.tr hb;clear hb;generalize w11.alloc (.cells #[.slice none 0 0,.slice none 0 0] 53)=w14 at P1 P2 hl rx4 rx8 P12 hB ⊢;generalize w11.heap.size=B13 at nP1P12 nP2P12 P12 gP12 ⊢;refine hK _ _ ⟨P1,P2⟩ ?_;clear hK K;refine Rd.tm fun K hK=>?_
    exact Aa
   ·skip
    go_simp;have P16:=ah.new w7 53 (.slice none 0 0) (.slice none 0 0);have nP1P16:=P1.lt;have nP2P16:=P2.lt;have gP16:=hB.size;have hb:Below w7.heap.size w7 (w7.alloc (.cells #[.slice none 0 0,.slice none 0 0] 53)):=(Below.refl _ _).alloc lr _;replace P1:=P1.below hb;replace P2:=P2.below hb;replace hl:=hl.below hb;replace rx4:=rx4.below hb;replace hB:=hB.tr hb;clear hb;generalize w7.alloc (.cells #[.slice none 0 0,.slice none 0 0] 53)=w18 at P1 P2 hl rx4 P16 hB ⊢;generalize w7.heap.size=B17 at nP1P16 nP2P16 P16 gP16 ⊢;refine hK _ _ ⟨P1,P2⟩ ?_;clear hK K;refine Rd.tm fun K hK=>?_
    have H21:=Hd (tn p q x4 y5 (l) (((k:Nat):Rat)) w18 hl rx4 HZ.out);go_simp;refine H21.mono ?_;rintro e w22 ⟨x19,y20,rfl,rx19,hb⟩;clear H21;replace P1:=P1.below hb;replace P2:=P2.below hb;replace P16:=P16.below hb;replace hl:=hl.below hb;replace rx4:=rx4.below hb;replace hB:=hB.tr hb;clear hb;refine hK _ _ ⟨P1,P2⟩ ?_;clear hK K;refine Rd.tm fun K hK=>?_
    exact zZ
  ·skip
   go_simp;have P24:=ah.new w3 53 (.slice none 0 0) (.slice none 0 0);have nP1P24:=P1.lt;have nP2P24:=P2.lt;have gP24:=hB.size;have hb:Below w3.heap.size w3 (w3.alloc (.cells #[.slice none 0 0,.slice none 0 0] 53)):=(Below.refl _ _).alloc lr _;replace P1:=P1.below hb;replace P2:=P2.below hb;replace hl:=hl.below hb;replace hB:=hB.tr hb;clear hb;generalize w3.alloc (.cells #[.slice none 0 0,.slice none 0 0] 53)=w26 at P1 P2 hl P24 hB ⊢;generalize w3.heap.size=B25 at nP1P24 nP2P24 P24 gP24 ⊢;refine hK _ _ ⟨P1,P2⟩ ?_;clear hK K;refine Rd.tm fun K hK=>?_
   have H29:=Hd (jf (k) A3 w26);go_simp;refine H29.mono ?_;rintro e w30 ⟨x27,y28,rfl,rx27,hb⟩;clear H29;replace P1:=P1.below hb;replace P2:=P2.below hb;replace P24:=P24.below hb;replace hl:=hl.below hb;replace hB:=hB.tr hb;clear hb;refine hK _ _ ⟨P1,P2⟩ ?_;clear hK K;refine Rd.tm fun K hK=>?_
   have H33:=Hd (tn p q x27 y28 (l) (((k:Nat):Rat)) w30 hl rx27 HZ.out);go_simp;refine H33.mono ?_;rintro e w34 ⟨x31,y32,rfl,rx31,hb⟩;clear H33;replace P1:=P1.below hb;replace P2:=P2.below hb;replace P24:=P24.below hb;replace hl:=hl.below hb;replace rx27:=rx27.below hb;replace hB:=hB.tr hb;clear hb;refine hK _ _ ⟨P1,P2⟩ ?_;clear hK K;refine Rd.tm fun K hK=>?_
   exact zY
 case next=>
  rintro a37 W36 ⟨py,qy,B7,y8,y9,y10,y11,rfl,P1,P2,hl,P7,hy,hB⟩;have c0P1:=P1.c0;have c1P1:=P1.c1;have c0P2:=P2.c0;have c1P2:=P2.c1;have c0P7:=P7.c0;have c1P7:=P7.c1
  go_wp2_with fail
  clear c0P1 c1P1 c0P2 c1P2 c0P7 c1P7;have hb:Below W36.heap.size W36 W36.drew:=(Below.refl _ _).drew;replace P1:=P1.below hb;replace P2:=P2.below hb;replace P7:=P7.below hb;replace hl:=hl.below hb;replace hy:=hy.below hb;replace hB:=hB.tr hb;clear hb;refine Rd.regionT (fun X=>ah X (w.heap.size) 53 (.slice p.a p.n p.c) (.slice q.a q.n q.c)∧ah X (w.heap.size+1) 53 (.slice none 0 0) (.slice none 0 0)∧ah X (B7) 53 (.slice py.a py.n py.c) (.slice qy.a qy.n qy.c)) [0,1,4] (.one 0 (.one 1 (.one 2 (.one 3 (.one 4 .done))))) (fun ac W=>∃(T:Bool) (y12 y13 y14 y15:Value),ac={ tmps:=List.toArray (.agg #[.slice p.a p.n p.c,.slice q.a q.n q.c]:: .int .i64 (k:Int):: .int .i64 (c:Int):: .pointer (some ⟨w.heap.size,0,none⟩)::undef::undef:: .pointer (some ⟨w.heap.size+1,0,none⟩):: .pointer (some ⟨B7,0,none⟩)::y8::y9::y10::y11::y12::y13::y14::y15:: .bool T::undef::undef::undef::[]),defers:=[] }∧ah W (w.heap.size) 53 (.slice p.a p.n p.c) (.slice q.a q.n q.c)∧ah W (w.heap.size+1) 53 (.slice none 0 0) (.slice none 0 0)∧ah W (B7) 53 (.slice py.a py.n py.c) (.slice qy.a qy.n qy.c)∧RK W p q (l)∧RK W py qy (l*(k:Rat))∧T=decide ((c:Rat)<l*(k:Rat))∧Below w.heap.size w W) Cx Cx Cx ⟨P1,P2,P7⟩ ?tree ?next
  case tree=>
   generalize W36.drew=w38 at P1 P2 P7 hl hy hB ⊢;refine Rd.tg (.agg #[.slice py.a py.n py.c,.slice qy.a qy.n qy.c]) ?_ (y:=fun X hX=>Cj);refine Rd.tf (.int .i64 (c:Int)) ?_;refine Rd.tm fun K hK=>?_
   have H41:=Hd (jf (c) A3 w38);go_simp;refine H41.mono ?_;rintro e w42 ⟨x39,y40,rfl,rx39,hb⟩;clear H41;replace P1:=P1.below hb;replace P2:=P2.below hb;replace P7:=P7.below hb;replace hl:=hl.below hb;replace hy:=hy.below hb;replace hB:=hB.tr hb;clear hb;refine hK _ _ ⟨P1,P2,P7⟩ ?_;clear hK K;refine Rd.tm fun K hK=>?_
   exact Ag
  case next=>
   rintro a46 W45 ⟨T,y12,y13,y14,y15,rfl,P1,P2,P7,hl,hy,hT,hB⟩;rw[decide_eq_false HO.out] at hT;subst hT;have c0P1:=P1.c0;have c1P1:=P1.c1;have c0P2:=P2.c0;have c1P2:=P2.c1;have c0P7:=P7.c0;have c1P7:=P7.c1;have z0P2:=P2.z0;have z1P2:=P2.z1;have hsz:=hB.size
   go_wp2_with fail
   replace hy:=hy.pset P2 (.slice py.a py.n py.c) (.slice qy.a qy.n qy.c);replace hB:=Below.pset (B:=w.heap.size+1) hB A3 (.slice py.a py.n py.c) (.slice qy.a qy.n qy.c);have PX:=P2.set (.slice py.a py.n py.c) (.slice qy.a qy.n qy.c);generalize (W45.setCell ⟨w.heap.size+1,0,none⟩ (.slice py.a py.n py.c)).setCell ⟨w.heap.size+1,1,none⟩ (.slice qy.a qy.n qy.c)=WW at hy PX hB ⊢;unfold given;rw[if_neg HO.out];refine bodyPost_ret (v:=.agg #[.slice py.a py.n py.c,.slice qy.a qy.n qy.c]) ?_ rfl ⟨py,qy,rfl,hy,hB⟩;simp[results,Tryz.f66,go_sem,PX.c0,PX.c1]
theorem iQ (p q:Sl) (l:Rat) (k c:Nat) (w:World) (hl:RK w p q l) (hk:k<9223372036854775808) (hc:c<9223372036854775808) (HZ:Hid (Sz (l*(k:Rat)))):
  Calls Tryz.prog 66 #[.agg #[.slice p.a p.n p.c,.slice q.a q.n q.c],.int .i64 (k:Int),.int .i64 (c:Int)] w fun e w'=>∃u v:Sl,e= .returned (.agg #[.slice u.a u.n u.c,.slice v.a v.n v.c])∧RK w' u v (given l (k,c))∧Below w.heap.size w w':=by
 by_cases h:(c:Rat)<l*(k:Rat)
 ·exact ud p q l k c w hl hk hc HZ (Hd h)
 ·exact qd p q l k c w hl hk hc HZ (Hd h)
theorem sum_append (l:Rat): ∀a b:List Kid,sum l (a++b)=sum l a+sum l b
 | [],b=>by rw[List.nil_append];unfold sum;grind
 | k::a,b=>by rw[List.cons_append,sum,sum,sum_append l a b];grind
theorem ut (l:Rat) {ks:List Kid} {k:Nat} (h:k<ks.length):sum l (ks.take (k+1))=sum l (ks.take k)+given l (ks.getD k (0,0)):=by
 rw[List.take_add_one,sum_append];simp[List.getD_eq_getElem?_getD,List.getElem?_eq_getElem h,sum];grind
theorem jF (p q a b:Sl) (l:Rat) (ks:List Kid) (w:World) (hl:RK w p q l) (ha:RI w a (ks.map fun k=>(k.1:Int))) (hc:RI w b (ks.map fun k=>(k.2:Int))) (hn:ks.length≤100) (HKK:Hid (∀k∈ks,cX k)) (HZ:Hid (∀n:Nat,n≤10000→Sz (l*(n:Rat)))) (HS:Hid (∀js:List Kid,(∀k∈js,k∈ks)→js.length≤ks.length→Sz (sum l js))):
  Calls Tryz.prog 104 #[.agg #[.slice p.a p.n p.c,.slice q.a q.n q.c],.slice a.a a.n a.c,.slice b.a b.n b.c] w fun e w'=>∃u v:Sl,e= .returned (.agg #[.slice u.a u.n u.c,.slice v.a v.n v.c])∧RK w' u v (sum l ks)∧Below w.heap.size w w':=by
 obtain⟨aa,an,al⟩:=a;obtain⟨ba,bn,bl⟩:=b;have ea:=ha.len;have ec:=hc.len;rw[List.length_map] at ea ec;dsimp only at ea ec;subst ea ec;dsimp only;go_enter Tryz.func104,Tryz.ntmps104;have hb:Below w.heap.size w ((w.alloc (.cells #[.slice p.a p.n p.c,.slice q.a q.n q.c] 53)).alloc (.cells #[.slice none 0 0,.slice none 0 0] 53)):=(((Below.refl _ _).alloc lr _).alloc B4 _)
 replace hl:=hl.below hb;replace ha:=ha.below hb;replace hc:=hc.below hb;have hB:=hb;have P1:ah ((w.alloc (.cells #[.slice p.a p.n p.c,.slice q.a q.n q.c] 53)).alloc (.cells #[.slice none 0 0,.slice none 0 0] 53)) (w.heap.size) 53 (.slice p.a p.n p.c) (.slice q.a q.n q.c):=by
  have h:=(ah.new w 53 (.slice p.a p.n p.c) (.slice q.a q.n q.c)).alloc (.cells #[.slice none 0 0,.slice none 0 0] 53);exact zQ
 have P2:ah ((w.alloc (.cells #[.slice p.a p.n p.c,.slice q.a q.n q.c] 53)).alloc (.cells #[.slice none 0 0,.slice none 0 0] 53)) (w.heap.size+1) 53 (.slice none 0 0) (.slice none 0 0):=by
  have h:=ah.new (w.alloc (.cells #[.slice p.a p.n p.c,.slice q.a q.n q.c] 53)) 53 (.slice none 0 0) (.slice none 0 0);exact zQ
 clear hb;have c0P1:=P1.c0;have c1P1:=P1.c1;have c0P2:=P2.c0;have c1P2:=P2.c1;have H5:=Hd (jf (0) A3 ((w.alloc (.cells #[.slice p.a p.n p.c,.slice q.a q.n q.c] 53)).alloc (.cells #[.slice none 0 0,.slice none 0 0] 53)))
 go_wp2_with fail
 clear c0P1 c1P1 c0P2 c1P2;refine H5.mono ?_;rintro e w6 ⟨x3,y4,rfl,rx3,hb⟩;clear H5;replace P1:=P1.below hb;replace P2:=P2.below hb;replace hl:=hl.below hb;replace ha:=ha.below hb;replace hc:=hc.below hb;replace hB:=hB.tr hb;clear hb;have hp6:=P2.lt;have hb:Below w6.heap.size w6 (w6.alloc (.cells #[.slice x3.a x3.n x3.c,.slice y4.a y4.n y4.c] 53)):=((Below.refl _ _).alloc lr _)
 replace P1:=P1.below hb;replace P2:=P2.below hb;replace hl:=hl.below hb;replace ha:=ha.below hb;replace hc:=hc.below hb;replace rx3:=rx3.below hb;replace hB:=hB.tr hb;have P7:ah (w6.alloc (.cells #[.slice x3.a x3.n x3.c,.slice y4.a y4.n y4.c] 53)) (w6.heap.size) 53 (.slice x3.a x3.n x3.c) (.slice y4.a y4.n y4.c):=by
  have h:=ah.new w6 53 (.slice x3.a x3.n x3.c) (.slice y4.a y4.n y4.c);exact zQ
 clear hb;have c0P1:=P1.c0;have c1P1:=P1.c1;have c0P2:=P2.c0;have c1P2:=P2.c1;have c0P7:=P7.c0;have c1P7:=P7.c1
 go_wp2_with fail
 clear c0P1 c1P1 c0P2 c1P2 c0P7 c1P7;obtain⟨B7,hB7⟩: ∃B,B=w6.heap.size:=⟨_,rfl⟩
 skip
 have HR0:Hid (sum l (ks.take 0)=((0:Nat):Rat)):=Hd (by rw[List.take_zero];rfl);have hsz:=hB.size
 go_loopw [12] (fun i wr=>∃(k:Nat) (ps qs:Sl),k≤ks.length∧i= .int .i64 (k:Int)∧Hid (ah wr (w.heap.size) 53 (.slice p.a p.n p.c) (.slice q.a q.n q.c))∧Hid (ah wr (w.heap.size+1) 53 (.slice none 0 0) (.slice none 0 0))∧Hid (RK wr p q l)∧Hid (RI wr ⟨aa,ks.length,al⟩ (ks.map fun k=>(k.1:Int)))∧Hid (RI wr ⟨ba,ks.length,bl⟩ (ks.map fun k=>(k.2:Int)))∧Hid (ah wr (w6.heap.size) 53 (.slice ps.a ps.n ps.c) (.slice qs.a qs.n qs.c))∧Hid (RK wr ps qs (sum l (ks.take k)))∧Hid (Below w.heap.size w wr)) (fun i _=>ks.length - (intOf i).toNat)
 case atStart=>exact⟨0,x3,y4,Nat.zero_le _,rfl,Hd P1,Hd P2,Hd hl,Hd ha,Hd hc,Hd P7,Hd (by rw[HR0.out];exact rx3),Hd hB⟩
 case round=>
  clear P1 P2 P7 rx3 hl ha hc hB hsz;obtain⟨k,ps,qs,hk,rfl,HPL,HPR,HL,HA,HC,HP7,HSM,HBB⟩:=hrel;have PL:=HPL.out;have PR:=HPR.out;have hl:=HL.out;have ha:=HA.out;have hc:=HC.out;have P7:=HP7.out;have hs:=HSM.out;have hB:=HBB.out;clear HPL HPR HL HA HC HP7 HSM HBB;by_cases hlt:k<ks.length
  ·skip
   obtain⟨b1,o1,ec,ic⟩:=hc.at hlt;obtain⟨b2,o2,ea,iw⟩:=ha.at hlt;subst ea ec;have hkk:=HKK.out _ (fc hlt);have HSN:=Hd (ut l hlt);generalize ks.getD k (0,0)=kid at ic iw hkk HSN;obtain⟨wt,cp⟩:=kid;dsimp only at ic iw hkk;have hwt:=hkk.2.1;have hcp:=hkk.2.2;dsimp only at hwt hcp;clear hkk;have HT:Hid (Sz (sum l (ks.take k)+given l (wt,cp))):=Hd (by rw[←HSN.out];exact HS.out _ (fun x hx=>List.mem_of_mem_take hx) BU);have hsz:=hB.size;have hs7:=P7.lt;have hsr:=PR.lt;have c0PL:=PL.c0;have c1PL:=PL.c1;have c0PR:=PR.c0;have c1PR:=PR.c1;have c0P7:=P7.c0;have c1P7:=P7.c1
   go_wp2_with fail
   clear c0PL c1PL c0PR c1PR c0P7 c1P7;have hb:Below wr.heap.size wr wr.drew:=(Below.refl _ _).drew;replace PL:=PL.below hb;replace PR:=PR.below hb;replace P7:=P7.below hb;replace hl:=hl.below hb;replace ha:=ha.below hb;replace hc:=hc.below hb;replace hs:=hs.below hb;replace iw:=iw.below hb;replace ic:=ic.below hb;replace hB:=hB.tr hb;clear hb;refine Rd.regionT (fun X=>ah X (w.heap.size) 53 (.slice p.a p.n p.c) (.slice q.a q.n q.c)∧ah X (w.heap.size+1) 53 (.slice none 0 0) (.slice none 0 0)∧IC X b2 (o2+k) (wt:Int)∧IC X b1 (o1+k) (cp:Int)) [1,2,3,4,5,6,7,8,9] (.one 1 (.one 2 (.one 3 (.one 4 (.one 5 (.one 6 (.one 7 (.one 8 (.one 9 (.two 0 (.one 10 (.one 11 (.one 12 .done))) 10 (.one 0 (.one 11 (.one 12 .done))))))))))))) (fun ac W=>∃(pn:Sl) (qn:Sl) (y15 y16 y17 y18 y19 y20 y21 y22 y23 y24 y25 y26:Value),ac={ tmps:=List.toArray (.agg #[.slice p.a p.n p.c,.slice q.a q.n q.c]:: .slice (some ⟨b2,o2,none⟩) ks.length al:: .slice (some ⟨b1,o1,none⟩) ks.length bl:: .pointer (some ⟨w.heap.size,0,none⟩)::undef::undef:: .pointer (some ⟨w.heap.size+1,0,none⟩):: .pointer (some ⟨w6.heap.size,0,none⟩):: .int .i64 (k:Int):: .agg #[.slice x3.a x3.n x3.c,.slice y4.a y4.n y4.c]:: .slice (some ⟨b2,o2,none⟩) ks.length al:: .int .i64 (ks.length:Int):: .int .i64 (k:Int):: .bool true:: .int .i64 (k:Int)::y15::y16::y17::y18::y19::y20::y21::y22::y23::y24::y25::y26::u27::undef::[]),defers:=[] }∧ah W (w.heap.size) 53 (.slice p.a p.n p.c) (.slice q.a q.n q.c)∧ah W (w.heap.size+1) 53 (.slice none 0 0) (.slice none 0 0)∧RK W p q (l)∧RI W ⟨some ⟨b2,o2,none⟩,ks.length,al⟩ (ks.map fun k=>(k.1:Int))∧RI W ⟨some ⟨b1,o1,none⟩,ks.length,bl⟩ (ks.map fun k=>(k.2:Int))∧IC W b2 (o2+k) (wt:Int)∧IC W b1 (o1+k) (cp:Int)∧ah W (w6.heap.size) 53 (.slice pn.a pn.n pn.c) (.slice qn.a qn.n qn.c)∧RK W pn qn (sum l (ks.take k)+given l (wt,cp))∧Below w.heap.size w W) Cx Cx Cx ⟨PL,PR,iw,ic⟩ ?tree ?next
   case tree=>
    generalize wr.drew=w8 at PL PR P7 hl ha hc hs iw ic hB ⊢;refine Rd.tg (.agg #[.slice p.a p.n p.c,.slice q.a q.n q.c]) ?_ (y:=fun X hX=>A5);refine Rd.tf (.slice (some ⟨b2,o2,none⟩) ks.length al) ?_;refine Rd.tf (.int .i64 (k:Int)) ?_;refine Rd.tf (.pointer (some ⟨b2,o2+k,none⟩)) ?_;refine Rd.tg (.int .i64 (wt:Int)) ?_ (y:=fun X hX=>by have h0:=(hX.2.2.1).2;go_simp);refine Rd.tf (.slice (some ⟨b1,o1,none⟩) ks.length bl) ?_;refine Rd.tf (.int .i64 (k:Int)) ?_;refine Rd.tf (.pointer (some ⟨b1,o1+k,none⟩)) ?_;refine Rd.tg (.int .i64 (cp:Int)) ?_ (y:=fun X hX=>by have h0:=(hX.2.2.2).2;go_simp);refine Rd.tr_two (by simp only[gA,gC];rfl) Cp BC Cp (fun K hK=>?_) (fun K hK=>?_)
    ·skip
     have c0P7:=P7.c0;have c1P7:=P7.c1;go_simp;clear c0P7 c1P7;refine hK _ _ ⟨PL,PR,iw,ic⟩ ?_;clear hK K;refine Rd.tm fun K hK=>?_
     have H11:=Hd (iQ p q l wt cp w8 hl A3 A3 (Hd (HZ.out wt hwt)));go_simp;refine H11.mono ?_;rintro e w12 ⟨x9,y10,rfl,rx9,hb⟩;clear H11;replace PL:=PL.below hb;replace PR:=PR.below hb;replace P7:=P7.below hb;replace hl:=hl.below hb;replace ha:=ha.below hb;replace hc:=hc.below hb;replace hs:=hs.below hb;replace iw:=iw.below hb;replace ic:=ic.below hb;replace hB:=hB.tr hb;clear hb;refine hK _ _ ⟨PL,PR,iw,ic⟩ ?_;clear hK K;refine Rd.tm fun K hK=>?_
     have H15:=Hd (yS ps qs x9 y10 (sum l (ks.take k)) (given l (wt,cp)) w12 hs rx9 HT.out);go_simp;refine H15.mono ?_;rintro e w16 ⟨x13,y14,rfl,rx13,hb⟩;clear H15;replace PL:=PL.below hb;replace PR:=PR.below hb;replace P7:=P7.below hb;replace hl:=hl.below hb;replace ha:=ha.below hb;replace hc:=hc.below hb;replace hs:=hs.below hb;replace iw:=iw.below hb;replace ic:=ic.below hb;replace rx9:=rx9.below hb;replace hB:=hB.tr hb;clear hb;refine hK _ _ ⟨PL,PR,iw,ic⟩ ?_;clear hK K;refine Rd.tm fun K hK=>?_
     have c0P7:=P7.c0;have c1P7:=P7.c1;have z0P7:=P7.z0;have z1P7:=P7.z1;go_simp;clear c0P7 c1P7 z0P7 z1P7;replace hl:=hl.pset P7 (.slice x13.a x13.n x13.c) (.slice y14.a y14.n y14.c);replace ha:=ha.pset P7 (.slice x13.a x13.n x13.c) (.slice y14.a y14.n y14.c);replace hc:=hc.pset P7 (.slice x13.a x13.n x13.c) (.slice y14.a y14.n y14.c);replace hs:=hs.pset P7 (.slice x13.a x13.n x13.c) (.slice y14.a y14.n y14.c);replace iw:=iw.pset P7 (.slice x13.a x13.n x13.c) (.slice y14.a y14.n y14.c);replace ic:=ic.pset P7 (.slice x13.a x13.n x13.c) (.slice y14.a y14.n y14.c);replace rx9:=rx9.pset P7 (.slice x13.a x13.n x13.c) (.slice y14.a y14.n y14.c);replace rx13:=rx13.pset P7 (.slice x13.a x13.n x13.c) (.slice y14.a y14.n y14.c);replace PL:=PL.other (B:=w6.heap.size) A3 (.slice x13.a x13.n x13.c) (.slice y14.a y14.n y14.c);replace PR:=PR.other (B:=w6.heap.size) A3 (.slice x13.a x13.n x13.c) (.slice y14.a y14.n y14.c);replace hB:=Below.pset (B:=w6.heap.size) hB A3 (.slice x13.a x13.n x13.c) (.slice y14.a y14.n y14.c);replace P7:=P7.set (.slice x13.a x13.n x13.c) (.slice y14.a y14.n y14.c);generalize (w16.setCell ⟨w6.heap.size,0,none⟩ (.slice x13.a x13.n x13.c)).setCell ⟨w6.heap.size,1,none⟩ (.slice y14.a y14.n y14.c)=w17 at PL PR P7 hl ha hc hs iw ic rx9 rx13 hB ⊢;refine hK _ _ ⟨PL,PR,iw,ic⟩ ?_;clear hK K;exact Rd.tr_end (⟨x13,y14,_,_,_,_,_,_,_,_,_,_,_,_,rfl,PL,PR,hl,ha,hc,iw,ic,P7,rx13,hB⟩)
    ·skip
     have H20:=Hd (iQ p q l wt cp w8 hl A3 A3 (Hd (HZ.out wt hwt)));go_simp;refine H20.mono ?_;rintro e w21 ⟨x18,y19,rfl,rx18,hb⟩;clear H20;replace PL:=PL.below hb;replace PR:=PR.below hb;replace P7:=P7.below hb;replace hl:=hl.below hb;replace ha:=ha.below hb;replace hc:=hc.below hb;replace hs:=hs.below hb;replace iw:=iw.below hb;replace ic:=ic.below hb;replace hB:=hB.tr hb;clear hb;refine hK _ _ ⟨PL,PR,iw,ic⟩ ?_;clear hK K;refine Rd.tm fun K hK=>?_
     have c0P7:=P7.c0;have c1P7:=P7.c1;go_simp;clear c0P7 c1P7;refine hK _ _ ⟨PL,PR,iw,ic⟩ ?_;clear hK K;refine Rd.tm fun K hK=>?_
     have H24:=Hd (yS ps qs x18 y19 (sum l (ks.take k)) (given l (wt,cp)) w21 hs rx18 HT.out);go_simp;refine H24.mono ?_;rintro e w25 ⟨x22,y23,rfl,rx22,hb⟩;clear H24;replace PL:=PL.below hb;replace PR:=PR.below hb;replace P7:=P7.below hb;replace hl:=hl.below hb;replace ha:=ha.below hb;replace hc:=hc.below hb;replace hs:=hs.below hb;replace iw:=iw.below hb;replace ic:=ic.below hb;replace rx18:=rx18.below hb;replace hB:=hB.tr hb;clear hb;refine hK _ _ ⟨PL,PR,iw,ic⟩ ?_;clear hK K;refine Rd.tm fun K hK=>?_
     have c0P7:=P7.c0;have c1P7:=P7.c1;have z0P7:=P7.z0;have z1P7:=P7.z1;go_simp;clear c0P7 c1P7 z0P7 z1P7;replace hl:=hl.pset P7 (.slice x22.a x22.n x22.c) (.slice y23.a y23.n y23.c);replace ha:=ha.pset P7 (.slice x22.a x22.n x22.c) (.slice y23.a y23.n y23.c);replace hc:=hc.pset P7 (.slice x22.a x22.n x22.c) (.slice y23.a y23.n y23.c);replace hs:=hs.pset P7 (.slice x22.a x22.n x22.c) (.slice y23.a y23.n y23.c);replace iw:=iw.pset P7 (.slice x22.a x22.n x22.c) (.slice y23.a y23.n y23.c);replace ic:=ic.pset P7 (.slice x22.a x22.n x22.c) (.slice y23.a y23.n y23.c);replace rx18:=rx18.pset P7 (.slice x22.a x22.n x22.c) (.slice y23.a y23.n y23.c);replace rx22:=rx22.pset P7 (.slice x22.a x22.n x22.c) (.slice y23.a y23.n y23.c);replace PL:=PL.other (B:=w6.heap.size) A3 (.slice x22.a x22.n x22.c) (.slice y23.a y23.n y23.c);replace PR:=PR.other (B:=w6.heap.size) A3 (.slice x22.a x22.n x22.c) (.slice y23.a y23.n y23.c);replace hB:=Below.pset (B:=w6.heap.size) hB A3 (.slice x22.a x22.n x22.c) (.slice y23.a y23.n y23.c);replace P7:=P7.set (.slice x22.a x22.n x22.c) (.slice y23.a y23.n y23.c);generalize (w25.setCell ⟨w6.heap.size,0,none⟩ (.slice x22.a x22.n x22.c)).setCell ⟨w6.heap.size,1,none⟩ (.slice y23.a y23.n y23.c)=w26 at PL PR P7 hl ha hc hs iw ic rx18 rx22 hB ⊢;refine hK _ _ ⟨PL,PR,iw,ic⟩ ?_;clear hK K;exact Rd.tr_end (⟨x22,y23,_,_,_,_,_,_,_,_,_,_,_,_,rfl,PL,PR,hl,ha,hc,iw,ic,P7,rx22,hB⟩)
   case next=>
    rintro a28 W27 ⟨pn,qn,y15,y16,y17,y18,y19,y20,y21,y22,y23,y24,y25,y26,rfl,PL,PR,hl,ha,hc,iw,ic,P7,hN,hB⟩
    go_wp2_with fail
    go_round
    case rel=>exact⟨k+1,pn,qn,A3,Cw,Hd PL,Hd PR,Hd hl,Hd ha,Hd hc,Hd P7,Hd (by rw[HSN.out];exact hN),Hd hB⟩
    case measure=>simp[intOf];omega
  ·skip
   have ek:k=ks.length:=A3
   rw[ek,List.take_length] at hs;have hs7:=P7.lt;have hsr:=PR.lt;have c0PL:=PL.c0;have c1PL:=PL.c1;have c0PR:=PR.c0;have c1PR:=PR.c1;have c0P7:=P7.c0;have c1P7:=P7.c1;have z0PR:=PR.z0;have z1PR:=PR.z1;have hsz:=hB.size
   go_wp2_with fail
   replace hs:=hs.pset PR (.slice ps.a ps.n ps.c) (.slice qs.a qs.n qs.c);replace hB:=Below.pset (B:=w.heap.size+1) hB A3 (.slice ps.a ps.n ps.c) (.slice qs.a qs.n qs.c);have PX:=PR.set (.slice ps.a ps.n ps.c) (.slice qs.a qs.n qs.c);generalize (wr.setCell ⟨w.heap.size+1,0,none⟩ (.slice ps.a ps.n ps.c)).setCell ⟨w.heap.size+1,1,none⟩ (.slice qs.a qs.n qs.c)=WW at hs PX hB ⊢;refine bodyPost_ret (v:=.agg #[.slice ps.a ps.n ps.c,.slice qs.a qs.n qs.c]) ?_ rfl ⟨ps,qs,rfl,hs,hB⟩;simp[results,Tryz.f104,go_sem,PX.c0,PX.c1]
theorem ir (x:Rat) (all:List Kid): ∀(a b:List Kid) (low:Rat),bI x all (a++b) low=bI x all b (bI x all a low)
 | [],_,_=>rfl
 | k::a,b,low=>by rw[List.cons_append,bI,bI,ir x all a b]
theorem qS (x:Rat) {ks:List Kid} {k:Nat} (h:k<ks.length):bI x ks (ks.take (k+1)) 0=if sum (top (ks.getD k (0,0))) ks<x∧bI x ks (ks.take k) 0<top (ks.getD k (0,0)) then top (ks.getD k (0,0)) else bI x ks (ks.take k) 0:=by
 rw[List.take_add_one,ir];simp[List.getD_eq_getElem?_getD,List.getElem?_eq_getElem h,bI]
theorem iq (l:Rat): ∀a b:List Kid,bi l (a++b)=bi l a+bi l b
 | [],b=>by rw[List.nil_append];unfold bi;simp
 | k::a,b=>by rw[List.cons_append,bi,bi,iq l a b];omega
theorem qh (l:Rat) {ks:List Kid} {k:Nat} (h:k<ks.length):bi l (ks.take (k+1))=bi l (ks.take k)+(if l<top (ks.getD k (0,0)) then (ks.getD k (0,0)).1 else 0):=by
 rw[List.take_add_one,iq];simp[List.getD_eq_getElem?_getD,List.getElem?_eq_getElem h,bi]
def LvW (l:Rat):Prop:=∃E:Nat,E≠0∧E≤10000∧bX E l∧0≤l∧l≤((64:Nat):Rat)
theorem LvW.zero:LvW 0:=⟨1,A3,A3,dD 1 0,Rat.le_refl,Rat.natCast_nonneg⟩
theorem LvW.top {k:Kid} (h:cX k):LvW (top k):=
 ⟨k.1,h.1,h.2.1,lR h.1,fw _ _,Rat.le_trans (uC h.1) (Rat.natCast_le_natCast.2 h.2.2)⟩
theorem LvW.mul {l:Rat} (h:LvW l) (n:Nat) (hn:n≤10000):Sz (l*(n:Rat)):=by
 obtain⟨E,h1,h2,h3,h4,h5⟩:=h;refine Sz.whole (D:=E) (B:=64*10000) h1 (gD n h3) (Rat.mul_nonneg h4 Rat.natCast_nonneg) ?_ (bW 3000 A3 A3) (bW 3000 BD A3);have h6:((n:Nat):Rat)≤((10000:Nat):Rat):=Rat.natCast_le_natCast.2 hn;rw[Rat.natCast_mul];exact Rat.le_trans (eK h5) (Rat.mul_le_mul_of_nonneg_left h6 Rat.natCast_nonneg)
theorem ov: ∀ks:List Kid,(∀k∈ks,k.2≤64)→bT ks≤64*ks.length
 | [],_=>by simp[bT]
 | k::ks,h=>by
  have h1:=ov ks (fun x hx=>h x (List.mem_cons_of_mem _ hx));have h2:=h k List.mem_cons_self;rw[bT,List.length_cons];omega
theorem gP {l:Rat} (h:0≤l) (ks:List Kid):0≤sum l ks:=by
 have:=eh h ks;rw[dw] at this;exact this
theorem LvW.sum {l:Rat} (h:LvW l) (js:List Kid) (hl:js.length≤100) (hk: ∀k∈js,k.2≤64):Sz (sum l js):=by
 obtain⟨E,h1,h2,h3,h4,h5⟩:=h;refine Sz.whole (D:=E) (B:=6400) h1 (eT h3 js) (gP h4 js) ?_ (bW 3000 A3 A3) (bW 3000 BD A3);exact Rat.le_trans (jk l js) (Rat.natCast_le_natCast.2 (by have:=ov js hk;omega))
theorem LvW.rest {D:Nat} {l x:Rat} (h:LvW l) (hF:gS D x) (hx:x≤((2048:Nat):Rat)) (ks:List Kid) (hs:Rq.sum l ks≤x):Sz (x - Rq.sum l ks):=by
 obtain⟨E,h1,h2,h3,h4,h5⟩:=h;have h6:=gP h4 ks;refine Sz.whole (D:=D*E) (B:=2048) (Nat.mul_ne_zero hF.1 h1) (gn (bP E hF.2.2) (by rw[Nat.mul_comm];exact bP D (eT h3 ks)) hs) (by grind) (Rat.le_trans (by grind) hx) (go hF.2.1 A3) (bW 3000 BD A3)
theorem LvW.part {D:Nat} {l x:Rat} (h:LvW l) (hF:gS D x) (hx:x≤((2048:Nat):Rat)) (ks:List Kid) (hs:Rq.sum l ks≤x) {n:Nat} (hn:n≠0) (hn2:n≤1000000):Sz ((x - Rq.sum l ks) / (n:Rat))∧Sz (l+(x - Rq.sum l ks) / (n:Rat)):=by
 obtain⟨E,h1,h2,h3,h4,h5⟩:=h;have h6:=gP h4 ks;have hr:0≤x - Rq.sum l ks:=by grind
 have hw:=gj hn (gn (D:=D*E) (bP E hF.2.2) (by rw[Nat.mul_comm];exact bP D (eT h3 ks)) hs);have hd:=div_le_self hr hn;have hd0:=fs hr hn;have hE:E*n≤2 ^ 64:=Nat.le_trans (Nat.mul_le_mul h2 hn2) BD;rw[Nat.mul_assoc] at hw;refine⟨Sz.whole (D:=D*(E*n)) (B:=2048) (Nat.mul_ne_zero hF.1 (Nat.mul_ne_zero h1 hn)) hw hd0 (Rat.le_trans hd (Rat.le_trans (by grind) hx)) (go hF.2.1 hE) (bW 3000 BD A3),?_⟩;refine Sz.whole (D:=D*(E*n)) (B:=2112) (Nat.mul_ne_zero hF.1 (Nat.mul_ne_zero h1 hn)) (iL ?_ hw) (by grind) ?_ (go hF.2.1 hE) (bW 3000 BD A3)
 ·rw[Nat.mul_comm D];exact bP D (bP n h3)
 ·have:((2112:Nat):Rat)=((64:Nat):Rat)+((2048:Nat):Rat):=by rw[←Rat.natCast_add]
  rw[this];have:x - Rq.sum l ks≤x:=by grind
  grind
theorem mh {w:World} {p:Sl} {n:Nat} (h:RD w p n):p.n=0↔n=0:=by
 have h1:=RD.len h;rw[h1];constructor
 ·intro h2;have:=(cC (B:=10000) A3 n 0).1 (Nat.le_of_eq h2);omega
 ·intro h2;subst h2;rfl
theorem BZ {p:Prop} (h:p:=by have h0:=hX.2.2.2.c0;have h1:=hX.2.2.2.c1;go_simp):p:=h
theorem Af {p:Prop} (h:p:=by replace hs:=hs.pset PR (.slice ps.a ps.n ps.c) (.slice qs.a qs.n qs.c);replace hB:=Below.pset (B:=w.heap.size+1) hB (by omega) (.slice ps.a ps.n ps.c) (.slice qs.a qs.n qs.c);have PX:=PR.set (.slice ps.a ps.n ps.c) (.slice qs.a qs.n qs.c);generalize (wr.setCell ⟨w.heap.size+1,0,none⟩ (.slice ps.a ps.n ps.c)).setCell ⟨w.heap.size+1,1,none⟩ (.slice qs.a qs.n qs.c)=WW at hs PX hB ⊢;rw[HR.out];refine bodyPost_ret (v:=.agg #[.slice ps.a ps.n ps.c,.slice qs.a qs.n qs.c]) ?_ rfl ⟨ps,qs,rfl,hs,hB⟩;simp[results,Tryz.f65,go_sem,PX.c0,PX.c1]):p:=h
theorem tG (p q a b:Sl) (x:Rat) (ks:List Kid) (D:Nat) (w:World) (hx:RK w p q x) (ha:RI w a (ks.map fun k=>(k.1:Int))) (hc:RI w b (ks.map fun k=>(k.2:Int))) (hn:ks.length≤32) (HKK:Hid (∀k∈ks,cX k)) (HF:Hid (gS D x)) (HX:Hid (x≤((bT ks:Nat):Rat))):
  Calls Tryz.prog 65 #[.agg #[.slice p.a p.n p.c,.slice q.a q.n q.c],.slice a.a a.n a.c,.slice b.a b.n b.c] w fun e w'=>∃u v:Sl,e= .returned (.agg #[.slice u.a u.n u.c,.slice v.a v.n v.c])∧RK w' u v (aN x ks)∧Below w.heap.size w w':=by
 obtain⟨aa,an,al⟩:=a;obtain⟨ba,bn,bl⟩:=b;have ea:=ha.len;have ec:=hc.len;rw[List.length_map] at ea ec;dsimp only at ea ec;subst ea ec;dsimp only;have HX0:Hid (0≤x):=Hd hx.1.pos;have HX2:Hid (x≤((2048:Nat):Rat)):=Hd (Rat.le_trans HX.out (Rat.natCast_le_natCast.2 (by have:=jI ks HKK.out;omega)));go_enter Tryz.func65,Tryz.ntmps65;have hb:Below w.heap.size w ((w.alloc (.cells #[.slice p.a p.n p.c,.slice q.a q.n q.c] 53)).alloc (.cells #[.slice none 0 0,.slice none 0 0] 53)):=(((Below.refl _ _).alloc lr _).alloc B4 _)
 replace hx:=hx.below hb;replace ha:=ha.below hb;replace hc:=hc.below hb;have hB:=hb;have P1:ah ((w.alloc (.cells #[.slice p.a p.n p.c,.slice q.a q.n q.c] 53)).alloc (.cells #[.slice none 0 0,.slice none 0 0] 53)) (w.heap.size) 53 (.slice p.a p.n p.c) (.slice q.a q.n q.c):=by
  have h:=(ah.new w 53 (.slice p.a p.n p.c) (.slice q.a q.n q.c)).alloc (.cells #[.slice none 0 0,.slice none 0 0] 53);exact zQ
 have P2:ah ((w.alloc (.cells #[.slice p.a p.n p.c,.slice q.a q.n q.c] 53)).alloc (.cells #[.slice none 0 0,.slice none 0 0] 53)) (w.heap.size+1) 53 (.slice none 0 0) (.slice none 0 0):=by
  have h:=ah.new (w.alloc (.cells #[.slice p.a p.n p.c,.slice q.a q.n q.c] 53)) 53 (.slice none 0 0) (.slice none 0 0);exact zQ
 clear hb;have c0P1:=P1.c0;have c1P1:=P1.c1;have c0P2:=P2.c0;have c1P2:=P2.c1;have H5:=Hd (jf (0) A3 ((w.alloc (.cells #[.slice p.a p.n p.c,.slice q.a q.n q.c] 53)).alloc (.cells #[.slice none 0 0,.slice none 0 0] 53)))
 go_wp2_with fail
 clear c0P1 c1P1 c0P2 c1P2;refine H5.mono ?_;rintro e w6 ⟨x3,y4,rfl,rx3,hb⟩;clear H5;replace P1:=P1.below hb;replace P2:=P2.below hb;replace hx:=hx.below hb;replace ha:=ha.below hb;replace hc:=hc.below hb;replace hB:=hB.tr hb;clear hb;have hp6:=P2.lt;have hb:Below w6.heap.size w6 (w6.alloc (.cells #[.slice x3.a x3.n x3.c,.slice y4.a y4.n y4.c] 53)):=((Below.refl _ _).alloc lr _)
 replace P1:=P1.below hb;replace P2:=P2.below hb;replace hx:=hx.below hb;replace ha:=ha.below hb;replace hc:=hc.below hb;replace rx3:=rx3.below hb;replace hB:=hB.tr hb;have P7:ah (w6.alloc (.cells #[.slice x3.a x3.n x3.c,.slice y4.a y4.n y4.c] 53)) (w6.heap.size) 53 (.slice x3.a x3.n x3.c) (.slice y4.a y4.n y4.c):=by
  have h:=ah.new w6 53 (.slice x3.a x3.n x3.c) (.slice y4.a y4.n y4.c);exact zQ
 clear hb;have c0P1:=P1.c0;have c1P1:=P1.c1;have c0P2:=P2.c0;have c1P2:=P2.c1;have c0P7:=P7.c0;have c1P7:=P7.c1
 go_wp2_with fail
 clear c0P1 c1P1 c0P2 c1P2 c0P7 c1P7;obtain⟨B7,hB7⟩: ∃B,B=w6.heap.size:=⟨_,rfl⟩
 rw[←hB7] at hp6 P7 ⊢;clear hB7;have HR0:Hid (bI x ks (ks.take 0) 0=((0:Nat):Rat)):=Hd (by rw[List.take_zero];rfl);refine(?_ : ∀(z0 z4 z5 z8 z9 z10 z11 z12 z13 z14 z17 z18 z19 z20 z21 z22 z23 z24 z25 z26 z27 z28 z29 z30 z31 z32 z33 z34 z35 z36 z37 z38 z39 z40 z41 z42 z43 z44 z45 z46 z47 z48 z49 z50 z51 z52 z53 z54 z55 z56 z57 z58 z59 z60 z61 z62 z63 z64 z65 z66 z67 z68 z69 z70 z71 z72 z73 z74 z75 z76 z77 z78 z79 z80 z81 z82 z83 z84 z85 z86 z87:Value),Code.wp _ _ _ { tmps:=List.toArray (z0:: .slice aa ks.length al:: .slice ba ks.length bl:: .pointer (some ⟨w.heap.size,0,none⟩)::z4::z5:: .pointer (some ⟨w.heap.size+1,0,none⟩):: .pointer (some ⟨B7,0,none⟩)::z8::z9::z10::z11::z12::z13::z14:: .int .i64 (ks.length:Int):: .int .i64 0::z17::z18::z19::z20::z21::z22::z23::z24::z25::z26::z27::z28::z29::z30::z31::z32::z33::z34::z35::z36::z37::z38::z39::z40::z41::z42::z43::z44::z45::z46::z47::z48::z49::z50::z51::z52::z53::z54::z55::z56::z57::z58::z59::z60::z61::z62::z63::z64::z65::z66::z67::z68::z69::z70::z71::z72::z73::z74::z75::z76::z77::z78::z79::z80::z81::z82::z83::z84::z85::z86::z87::[]),defers:=[] } _) _ _ _ _ _ _ _ _ _ _ _ _ _ _ _ _ _ _ _ _ _ _ _ _ _ _ _ _ _ _ _ _ _ _ _ _ _ _ _ _ _ _ _ _ _ _ _ _ _ _ _ _ _ _ _ _ _ _ _ _ _ _ _ _ _ _ _ _ _ _ _ _ _ _ _ _ _ _ _ _ _;intro z0 z4 z5 z8 z9 z10 z11 z12 z13 z14 z17 z18 z19 z20 z21 z22 z23 z24 z25 z26 z27 z28 z29 z30 z31 z32 z33 z34 z35 z36 z37 z38 z39 z40 z41 z42 z43 z44 z45 z46 z47 z48 z49 z50 z51 z52 z53 z54 z55 z56 z57 z58 z59 z60 z61 z62 z63 z64 z65 z66 z67 z68 z69 z70 z71 z72 z73 z74 z75 z76 z77 z78 z79 z80 z81 z82 z83 z84 z85 z86 z87
 go_loopw [16] (fun i wr=>∃(k:Nat) (ps qs:Sl) (low:Rat),k≤ks.length∧i= .int .i64 (k:Int)∧Hid (LvW low)∧Hid (low=bI x ks (ks.take k) 0)∧Hid (ah wr (w.heap.size) 53 (.slice p.a p.n p.c) (.slice q.a q.n q.c))∧Hid (ah wr (w.heap.size+1) 53 (.slice none 0 0) (.slice none 0 0))∧Hid (RK wr p q x)∧Hid (RI wr ⟨aa,ks.length,al⟩ (ks.map fun k=>(k.1:Int)))∧Hid (RI wr ⟨ba,ks.length,bl⟩ (ks.map fun k=>(k.2:Int)))∧Hid (ah wr B7 53 (.slice ps.a ps.n ps.c) (.slice qs.a qs.n qs.c))∧Hid (RK wr ps qs low)∧Hid (Below w.heap.size w wr)) (fun mi _=>ks.length - (intOf mi).toNat)
 case atStart=>exact⟨0,x3,y4,((0:Nat):Rat),Nat.zero_le _,rfl,Hd LvW.zero,Hd HR0.symm,Hd P1,Hd P2,Hd hx,Hd ha,Hd hc,Hd P7,Hd rx3,Hd hB⟩
 case round=>
  clear P1 P2 P7 rx3 hx ha hc hB;obtain⟨k,ps,qs,low,hk,rfl,HLV,HLO,HPL,HPR,Hhx,Hha,Hhc,HP7,Hhs,HBB⟩:=hrel;have PL:=HPL.out;have PR:=HPR.out;have hx:=Hhx.out;have ha:=Hha.out;have hc:=Hhc.out;have P7:=HP7.out;have hs:=Hhs.out;have hB:=HBB.out;clear HPL HPR Hhx Hha Hhc HP7 Hhs HBB;by_cases hlt:k<ks.length
  ·skip
   obtain⟨b1,o1,ec,ic⟩:=hc.at hlt;obtain⟨b2,o2,ea,iw⟩:=ha.at hlt;subst ea ec;have hkk:=HKK.out _ (fc hlt);have HSN:=Hd (qS x hlt);generalize ks.getD k (0,0)=kid at ic iw hkk HSN;obtain⟨wt,cp⟩:=kid;dsimp only at ic iw;have hwt:=hkk.2.1;have hcp:=hkk.2.2;have HW0:Hid (wt≠0):=Hd hkk.1;have HTV:Hid (LvW (rat cp wt)):=Hd (LvW.top hkk);dsimp only at hwt hcp;clear hkk;have hsz:=hB.size;have hs7:=P7.lt;have hsr:=PR.lt;have hsl:=PL.lt;have c0PL:=PL.c0;have c1PL:=PL.c1;have c0PR:=PR.c0;have c1PR:=PR.c1;have c0P7:=P7.c0;have c1P7:=P7.c1
   go_wp2_with fail
   clear c0PL c1PL c0PR c1PR c0P7 c1P7;have hb:Below wr.heap.size wr wr.drew:=(Below.refl _ _).drew;replace PL:=PL.below hb;replace PR:=PR.below hb;replace P7:=P7.below hb;replace hx:=hx.below hb;replace ha:=ha.below hb;replace hc:=hc.below hb;replace hs:=hs.below hb;replace iw:=iw.below hb;replace ic:=ic.below hb;replace hB:=hB.tr hb;clear hb;refine Rd.regionT (fun X=>ah X (w.heap.size) 53 (.slice p.a p.n p.c) (.slice q.a q.n q.c)∧ah X (w.heap.size+1) 53 (.slice none 0 0) (.slice none 0 0)∧ah X (B7) 53 (.slice ps.a ps.n ps.c) (.slice qs.a qs.n qs.c)∧IC X b2 (o2+k) (wt:Int)∧IC X b1 (o1+k) (cp:Int)) [0,1,2,3,4,5,6,7] (.one 0 (.one 1 (.one 2 (.one 3 (.one 4 (.one 5 (.one 6 (.one 7 (.two 8 (.one 9 (.one 10 .done)) 9 (.one 8 (.one 10 .done))))))))))) (fun ac W=>∃(py:Sl) (qy:Sl) (B9:Nat) (y19 y20 y21 y22 y23 y24 y25 y26 y27:Value),ac={ tmps:=List.toArray (z0:: .slice (some ⟨b2,o2,none⟩) ks.length al:: .slice (some ⟨b1,o1,none⟩) ks.length bl:: .pointer (some ⟨w.heap.size,0,none⟩)::z4::z5:: .pointer (some ⟨w.heap.size+1,0,none⟩):: .pointer (some ⟨B7,0,none⟩):: .int .i64 (k:Int):: .pointer (some ⟨B9,0,none⟩)::z10::z11::z12::z13::z14:: .int .i64 (ks.length:Int):: .int .i64 (k:Int):: .bool true:: .int .i64 (k:Int)::y19::y20::y21::y22::y23::y24::y25::y26::y27::u28::u29::u30::u31::u32::u33::u34::u35::u36::u37::u38::u39::u40::u41::u42::z43::z44::z45::z46::z47::z48::z49::z50::z51::z52::z53::z54::z55::z56::z57::z58::z59::z60::z61::z62::z63::z64::z65::z66::z67::z68::z69::z70::z71::z72::z73::z74::z75::z76::z77::z78::z79::z80::z81::z82::z83::z84::z85::z86::z87::[]),defers:=[] }∧ah W (w.heap.size) 53 (.slice p.a p.n p.c) (.slice q.a q.n q.c)∧ah W (w.heap.size+1) 53 (.slice none 0 0) (.slice none 0 0)∧ah W (B7) 53 (.slice ps.a ps.n ps.c) (.slice qs.a qs.n qs.c)∧RK W p q (x)∧RI W ⟨some ⟨b2,o2,none⟩,ks.length,al⟩ (ks.map fun k=>(k.1:Int))∧RI W ⟨some ⟨b1,o1,none⟩,ks.length,bl⟩ (ks.map fun k=>(k.2:Int))∧RK W ps qs (low)∧IC W b2 (o2+k) (wt:Int)∧IC W b1 (o1+k) (cp:Int)∧ah W B9 53 (.slice py.a py.n py.c) (.slice qy.a qy.n qy.c)∧RK W py qy (rat cp wt)∧Below w.heap.size w W) Cx Cx Cx ⟨PL,PR,P7,iw,ic⟩ ?tree ?next
   case tree=>
    generalize wr.drew=w8 at PL PR P7 hx ha hc hs iw ic hB ⊢;refine Rd.tf (.slice (some ⟨b1,o1,none⟩) ks.length bl) ?_;refine Rd.tf (.int .i64 (k:Int)) ?_;refine Rd.tf (.pointer (some ⟨b1,o1+k,none⟩)) ?_;refine Rd.tg (.int .i64 (cp:Int)) ?_ (y:=fun X hX=>by have h0:=(hX.2.2.2.2).2;go_simp);refine Rd.tf (.slice (some ⟨b2,o2,none⟩) ks.length al) ?_;refine Rd.tf (.int .i64 (k:Int)) ?_;refine Rd.tf (.pointer (some ⟨b2,o2+k,none⟩)) ?_;refine Rd.tg (.int .i64 (wt:Int)) ?_ (y:=fun X hX=>by have h0:=(hX.2.2.2.1).2;go_simp);refine Rd.tr_two BC Cp BC Cp (fun K hK=>?_) (fun K hK=>?_)
    ·skip
     have H11:=Hd (qW cp wt w8 A3 A3 HW0);go_simp;refine H11.mono ?_;rintro e w12 ⟨x9,y10,rfl,rx9,hb⟩;clear H11;replace PL:=PL.below hb;replace PR:=PR.below hb;replace P7:=P7.below hb;replace hx:=hx.below hb;replace ha:=ha.below hb;replace hc:=hc.below hb;replace hs:=hs.below hb;replace iw:=iw.below hb;replace ic:=ic.below hb;replace hB:=hB.tr hb;clear hb;refine hK _ _ ⟨PL,PR,P7,iw,ic⟩ ?_;clear hK K;refine Rd.tm fun K hK=>?_
     go_simp;have P13:=ah.new w12 53 (.slice none 0 0) (.slice none 0 0);have nPLP13:=PL.lt;have nPRP13:=PR.lt;have nP7P13:=P7.lt;have gP13:=hB.size;have hb:Below w12.heap.size w12 (w12.alloc (.cells #[.slice none 0 0,.slice none 0 0] 53)):=(Below.refl _ _).alloc lr _;replace PL:=PL.below hb;replace PR:=PR.below hb;replace P7:=P7.below hb;replace hx:=hx.below hb;replace ha:=ha.below hb;replace hc:=hc.below hb;replace hs:=hs.below hb;replace iw:=iw.below hb;replace ic:=ic.below hb;replace rx9:=rx9.below hb;replace hB:=hB.tr hb;clear hb;generalize w12.alloc (.cells #[.slice none 0 0,.slice none 0 0] 53)=w15 at PL PR P7 hx ha hc hs iw ic rx9 P13 hB ⊢;generalize w12.heap.size=B14 at nPLP13 nPRP13 nP7P13 P13 gP13 ⊢;refine hK _ _ ⟨PL,PR,P7,iw,ic⟩ ?_;clear hK K;refine Rd.tm fun K hK=>?_
     have c0P13:=P13.c0;have c1P13:=P13.c1;have z0P13:=P13.z0;have z1P13:=P13.z1;go_simp;clear c0P13 c1P13 z0P13 z1P13;replace hx:=hx.pset P13 (.slice x9.a x9.n x9.c) (.slice y10.a y10.n y10.c);replace ha:=ha.pset P13 (.slice x9.a x9.n x9.c) (.slice y10.a y10.n y10.c);replace hc:=hc.pset P13 (.slice x9.a x9.n x9.c) (.slice y10.a y10.n y10.c);replace hs:=hs.pset P13 (.slice x9.a x9.n x9.c) (.slice y10.a y10.n y10.c);replace iw:=iw.pset P13 (.slice x9.a x9.n x9.c) (.slice y10.a y10.n y10.c);replace ic:=ic.pset P13 (.slice x9.a x9.n x9.c) (.slice y10.a y10.n y10.c);replace rx9:=rx9.pset P13 (.slice x9.a x9.n x9.c) (.slice y10.a y10.n y10.c);replace PL:=PL.other (B:=B14) A3 (.slice x9.a x9.n x9.c) (.slice y10.a y10.n y10.c);replace PR:=PR.other (B:=B14) A3 (.slice x9.a x9.n x9.c) (.slice y10.a y10.n y10.c);replace P7:=P7.other (B:=B14) A3 (.slice x9.a x9.n x9.c) (.slice y10.a y10.n y10.c);replace hB:=Below.pset (B:=B14) hB A3 (.slice x9.a x9.n x9.c) (.slice y10.a y10.n y10.c);replace P13:=P13.set (.slice x9.a x9.n x9.c) (.slice y10.a y10.n y10.c);generalize (w15.setCell ⟨B14,0,none⟩ (.slice x9.a x9.n x9.c)).setCell ⟨B14,1,none⟩ (.slice y10.a y10.n y10.c)=w16 at PL PR P7 P13 hx ha hc hs iw ic rx9 hB ⊢;refine hK _ _ ⟨PL,PR,P7,iw,ic⟩ ?_;clear hK K;exact Rd.tr_end (⟨x9,y10,B14,_,_,_,_,_,_,_,_,_,rfl,PL,PR,P7,hx,ha,hc,hs,iw,ic,P13,rx9,hB⟩)
    ·skip
     go_simp;have P17:=ah.new w8 53 (.slice none 0 0) (.slice none 0 0);have nPLP17:=PL.lt;have nPRP17:=PR.lt;have nP7P17:=P7.lt;have gP17:=hB.size;have hb:Below w8.heap.size w8 (w8.alloc (.cells #[.slice none 0 0,.slice none 0 0] 53)):=(Below.refl _ _).alloc lr _;replace PL:=PL.below hb;replace PR:=PR.below hb;replace P7:=P7.below hb;replace hx:=hx.below hb;replace ha:=ha.below hb;replace hc:=hc.below hb;replace hs:=hs.below hb;replace iw:=iw.below hb;replace ic:=ic.below hb;replace hB:=hB.tr hb;clear hb;generalize w8.alloc (.cells #[.slice none 0 0,.slice none 0 0] 53)=w19 at PL PR P7 hx ha hc hs iw ic P17 hB ⊢;generalize w8.heap.size=B18 at nPLP17 nPRP17 nP7P17 P17 gP17 ⊢;refine hK _ _ ⟨PL,PR,P7,iw,ic⟩ ?_;clear hK K;refine Rd.tm fun K hK=>?_
     have H22:=Hd (qW cp wt w19 A3 A3 HW0);go_simp;refine H22.mono ?_;rintro e w23 ⟨x20,y21,rfl,rx20,hb⟩;clear H22;replace PL:=PL.below hb;replace PR:=PR.below hb;replace P7:=P7.below hb;replace P17:=P17.below hb;replace hx:=hx.below hb;replace ha:=ha.below hb;replace hc:=hc.below hb;replace hs:=hs.below hb;replace iw:=iw.below hb;replace ic:=ic.below hb;replace hB:=hB.tr hb;clear hb;refine hK _ _ ⟨PL,PR,P7,iw,ic⟩ ?_;clear hK K;refine Rd.tm fun K hK=>?_
     have c0P17:=P17.c0;have c1P17:=P17.c1;have z0P17:=P17.z0;have z1P17:=P17.z1;go_simp;clear c0P17 c1P17 z0P17 z1P17;replace hx:=hx.pset P17 (.slice x20.a x20.n x20.c) (.slice y21.a y21.n y21.c);replace ha:=ha.pset P17 (.slice x20.a x20.n x20.c) (.slice y21.a y21.n y21.c);replace hc:=hc.pset P17 (.slice x20.a x20.n x20.c) (.slice y21.a y21.n y21.c);replace hs:=hs.pset P17 (.slice x20.a x20.n x20.c) (.slice y21.a y21.n y21.c);replace iw:=iw.pset P17 (.slice x20.a x20.n x20.c) (.slice y21.a y21.n y21.c);replace ic:=ic.pset P17 (.slice x20.a x20.n x20.c) (.slice y21.a y21.n y21.c);replace rx20:=rx20.pset P17 (.slice x20.a x20.n x20.c) (.slice y21.a y21.n y21.c);replace PL:=PL.other (B:=B18) A3 (.slice x20.a x20.n x20.c) (.slice y21.a y21.n y21.c);replace PR:=PR.other (B:=B18) A3 (.slice x20.a x20.n x20.c) (.slice y21.a y21.n y21.c);replace P7:=P7.other (B:=B18) A3 (.slice x20.a x20.n x20.c) (.slice y21.a y21.n y21.c);replace hB:=Below.pset (B:=B18) hB A3 (.slice x20.a x20.n x20.c) (.slice y21.a y21.n y21.c);replace P17:=P17.set (.slice x20.a x20.n x20.c) (.slice y21.a y21.n y21.c);generalize (w23.setCell ⟨B18,0,none⟩ (.slice x20.a x20.n x20.c)).setCell ⟨B18,1,none⟩ (.slice y21.a y21.n y21.c)=w24 at PL PR P7 P17 hx ha hc hs iw ic rx20 hB ⊢;refine hK _ _ ⟨PL,PR,P7,iw,ic⟩ ?_;clear hK K;exact Rd.tr_end (⟨x20,y21,B18,_,_,_,_,_,_,_,_,_,rfl,PL,PR,P7,hx,ha,hc,hs,iw,ic,P17,rx20,hB⟩)
   case next=>
    rintro a26 W25 ⟨py,qy,B9,y19,y20,y21,y22,y23,y24,y25,y26,y27,rfl,PL,PR,P7,hx,ha,hc,hs,iw,ic,P9,hy,hB⟩;by_cases HO1:sum (rat cp wt) ks<x
    ·skip
     have HO:=Hd HO1;clear HO1;have c0PL:=PL.c0;have c1PL:=PL.c1;have c0PR:=PR.c0;have c1PR:=PR.c1;have c0P7:=P7.c0;have c1P7:=P7.c1;have c0P9:=P9.c0;have c1P9:=P9.c1
     go_wp2_with fail
     clear c0PL c1PL c0PR c1PR c0P7 c1P7 c0P9 c1P9;have hb:Below W25.heap.size W25 W25.drew:=(Below.refl _ _).drew;replace PL:=PL.below hb;replace PR:=PR.below hb;replace P7:=P7.below hb;replace P9:=P9.below hb;replace hx:=hx.below hb;replace ha:=ha.below hb;replace hc:=hc.below hb;replace hs:=hs.below hb;replace iw:=iw.below hb;replace ic:=ic.below hb;replace hy:=hy.below hb;replace hB:=hB.tr hb;clear hb;refine Rd.regionT (fun X=>ah X (w.heap.size) 53 (.slice p.a p.n p.c) (.slice q.a q.n q.c)∧ah X (w.heap.size+1) 53 (.slice none 0 0) (.slice none 0 0)∧ah X (B7) 53 (.slice ps.a ps.n ps.c) (.slice qs.a qs.n qs.c)∧ah X (B9) 53 (.slice py.a py.n py.c) (.slice qy.a qy.n qy.c)) [0,1,2,4,6,7,8,9,11,12] (.one 0 (.one 1 (.one 2 (.one 4 (.one 3 (.one 5 (.one 6 (.one 7 (.one 8 (.one 9 (.one 10 (.one 11 (.one 12 .done))))))))))))) (fun ac W=>∃(T:Bool) (y28 y29 y30 y31 y32 y33 y34 y35 y36 y37 y38 y39:Value),ac={ tmps:=List.toArray (z0:: .slice (some ⟨b2,o2,none⟩) ks.length al:: .slice (some ⟨b1,o1,none⟩) ks.length bl:: .pointer (some ⟨w.heap.size,0,none⟩)::z4::z5:: .pointer (some ⟨w.heap.size+1,0,none⟩):: .pointer (some ⟨B7,0,none⟩):: .int .i64 (k:Int):: .pointer (some ⟨B9,0,none⟩)::z10::z11::z12::z13::z14:: .int .i64 (ks.length:Int):: .int .i64 (k:Int):: .bool true:: .int .i64 (k:Int)::y19::y20::y21::y22::y23::y24::y25::y26::y27::y28::y29::y30::y31::y32::y33::y34::y35::y36::y37::y38::y39:: .bool T::u41::u42::z43::z44::z45::z46::z47::z48::z49::z50::z51::z52::z53::z54::z55::z56::z57::z58::z59::z60::z61::z62::z63::z64::z65::z66::z67::z68::z69::z70::z71::z72::z73::z74::z75::z76::z77::z78::z79::z80::z81::z82::z83::z84::z85::z86::z87::[]),defers:=[] }∧ah W (w.heap.size) 53 (.slice p.a p.n p.c) (.slice q.a q.n q.c)∧ah W (w.heap.size+1) 53 (.slice none 0 0) (.slice none 0 0)∧ah W (B7) 53 (.slice ps.a ps.n ps.c) (.slice qs.a qs.n qs.c)∧ah W (B9) 53 (.slice py.a py.n py.c) (.slice qy.a qy.n qy.c)∧RK W p q (x)∧RI W ⟨some ⟨b2,o2,none⟩,ks.length,al⟩ (ks.map fun k=>(k.1:Int))∧RI W ⟨some ⟨b1,o1,none⟩,ks.length,bl⟩ (ks.map fun k=>(k.2:Int))∧RK W ps qs (low)∧IC W b2 (o2+k) (wt:Int)∧IC W b1 (o1+k) (cp:Int)∧RK W py qy (rat cp wt)∧T=decide (low<rat cp wt)∧Below w.heap.size w W) Cx Cx Cx ⟨PL,PR,P7,P9⟩ ?tree ?next
     case tree=>
      generalize W25.drew=w27 at PL PR P7 P9 hx ha hc hs iw ic hy hB ⊢;refine Rd.tg (.agg #[.slice py.a py.n py.c,.slice qy.a qy.n qy.c]) ?_ (y:=fun X hX=>BZ);refine Rd.tf (.slice (some ⟨b2,o2,none⟩) ks.length al) ?_;refine Rd.tf (.slice (some ⟨b1,o1,none⟩) ks.length bl) ?_;refine Rd.tg (.agg #[.slice p.a p.n p.c,.slice q.a q.n q.c]) ?_ (y:=fun X hX=>A5);refine Rd.tm fun K hK=>?_
      have H30:=Hd (jF py qy ⟨some ⟨b2,o2,none⟩,ks.length,al⟩ ⟨some ⟨b1,o1,none⟩,ks.length,bl⟩ (rat cp wt) ks w27 hy ha hc A3 HKK (Hd (fun n hn=>HTV.mul n hn)) (Hd (fun js hj hl=>HTV.sum js A3 (fun k hk=>(HKK.out k (hj k hk)).2.2))));go_simp;refine H30.mono ?_;rintro e w31 ⟨x28,y29,rfl,rx28,hb⟩;clear H30;replace PL:=PL.below hb;replace PR:=PR.below hb;replace P7:=P7.below hb;replace P9:=P9.below hb;replace hx:=hx.below hb;replace ha:=ha.below hb;replace hc:=hc.below hb;replace hs:=hs.below hb;replace iw:=iw.below hb;replace ic:=ic.below hb;replace hy:=hy.below hb;replace hB:=hB.tr hb;clear hb;refine hK _ _ ⟨PL,PR,P7,P9⟩ ?_;clear hK K;refine Rd.tm fun K hK=>?_
      have H32:=Hd (pX x28 y29 p q (sum (rat cp wt) ks) (x) w31 rx28 hx);go_simp;refine H32.mono ?_;rintro e w33 ⟨rfl,hb⟩;clear H32;replace PL:=PL.below hb;replace PR:=PR.below hb;replace P7:=P7.below hb;replace P9:=P9.below hb;replace hx:=hx.below hb;replace ha:=ha.below hb;replace hc:=hc.below hb;replace hs:=hs.below hb;replace iw:=iw.below hb;replace ic:=ic.below hb;replace hy:=hy.below hb;replace rx28:=rx28.below hb;replace hB:=hB.tr hb;clear hb;refine hK _ _ ⟨PL,PR,P7,P9⟩ ?_;clear hK K;refine Rd.tg (.bool true) ?_ (y:=fun X _=>by have hO:=rK.2 HO.out;go_simp);refine Rd.tf (.bool true) ?_;refine Rd.tg (.agg #[.slice py.a py.n py.c,.slice qy.a qy.n qy.c]) ?_ (y:=fun X hX=>BZ);refine Rd.tg (.agg #[.slice ps.a ps.n ps.c,.slice qs.a qs.n qs.c]) ?_ (y:=fun X hX=>by have h0:=hX.2.2.1.c0;have h1:=hX.2.2.1.c1;go_simp);refine Rd.tm fun K hK=>?_
      have H34:=Hd (pX py qy ps qs (rat cp wt) (low) w33 hy hs);go_simp;refine H34.mono ?_;rintro e w35 ⟨rfl,hb⟩;clear H34;replace PL:=PL.below hb;replace PR:=PR.below hb;replace P7:=P7.below hb;replace P9:=P9.below hb;replace hx:=hx.below hb;replace ha:=ha.below hb;replace hc:=hc.below hb;replace hs:=hs.below hb;replace iw:=iw.below hb;replace ic:=ic.below hb;replace hy:=hy.below hb;replace rx28:=rx28.below hb;replace hB:=hB.tr hb;clear hb;refine hK _ _ ⟨PL,PR,P7,P9⟩ ?_;clear hK K;refine Rd.tf (.bool (decide (0<(ev (rat cp wt) (low))))) ?_;refine Rd.tf (.bool (decide (0<(ev (rat cp wt) (low))))) ?_;exact Rd.tr_end (⟨_,_,_,_,_,_,_,_,_,_,_,_,_,rfl,PL,PR,P7,P9,hx,ha,hc,hs,iw,ic,hy,(by simp only[eE]),hB⟩)
     case next=>
      rintro a37 W36 ⟨T,y28,y29,y30,y31,y32,y33,y34,y35,y36,y37,y38,y39,rfl,PL,PR,P7,P9,hx,ha,hc,hs,iw,ic,hy,hT,hB⟩;by_cases HO2:low<rat cp wt
      ·skip
       rw[decide_eq_true HO2] at hT;subst hT;have H22:=Hd HO2;clear HO2;have h79:=P7.lt;have h99:=P9.lt;have c0PL:=PL.c0;have c1PL:=PL.c1;have c0PR:=PR.c0;have c1PR:=PR.c1;have c0P7:=P7.c0;have c1P7:=P7.c1;have c0P9:=P9.c0;have c1P9:=P9.c1;have z0P7:=P7.z0;have z1P7:=P7.z1
       go_wp2_with fail
       clear c0PL c1PL c0PR c1PR c0P7 c1P7 c0P9 c1P9;clear z0P7 z1P7;replace hx:=hx.pset P7 (.slice py.a py.n py.c) (.slice qy.a qy.n qy.c);replace ha:=ha.pset P7 (.slice py.a py.n py.c) (.slice qy.a qy.n qy.c);replace hc:=hc.pset P7 (.slice py.a py.n py.c) (.slice qy.a qy.n qy.c);replace hs:=hs.pset P7 (.slice py.a py.n py.c) (.slice qy.a qy.n qy.c);replace iw:=iw.pset P7 (.slice py.a py.n py.c) (.slice qy.a qy.n qy.c);replace ic:=ic.pset P7 (.slice py.a py.n py.c) (.slice qy.a qy.n qy.c);replace hy:=hy.pset P7 (.slice py.a py.n py.c) (.slice qy.a qy.n qy.c);replace PL:=PL.other (B:=B7) A3 (.slice py.a py.n py.c) (.slice qy.a qy.n qy.c);replace PR:=PR.other (B:=B7) A3 (.slice py.a py.n py.c) (.slice qy.a qy.n qy.c);replace hB:=Below.pset (B:=B7) hB A3 (.slice py.a py.n py.c) (.slice qy.a qy.n qy.c);replace P7:=P7.set (.slice py.a py.n py.c) (.slice qy.a qy.n qy.c);generalize (W36.setCell ⟨B7,0,none⟩ (.slice py.a py.n py.c)).setCell ⟨B7,1,none⟩ (.slice qy.a qy.n qy.c)=WW at hx ha hc hs iw ic hy PL PR P7 hB ⊢;go_round
       case rel=>exact⟨k+1,py,qy,rat cp wt,A3,Cw,HTV,Hd (by rw[HSN.out,←HLO.out,if_pos ⟨HO.out,H22.out⟩];rfl),Hd PL,Hd PR,Hd hx,Hd ha,Hd hc,Hd P7,Hd hy,Hd hB⟩
       case measure=>simp[intOf];omega
      ·skip
       rw[decide_eq_false HO2] at hT;subst hT;have H22:=Hd HO2;clear HO2
       go_wp2_with fail
       go_round
       case rel=>exact⟨k+1,ps,qs,low,A3,Cw,HLV,Hd (by rw[HSN.out,←HLO.out,if_neg (fun h=>H22.out h.2)]),Hd PL,Hd PR,Hd hx,Hd ha,Hd hc,Hd P7,Hd hs,Hd hB⟩
       case measure=>simp[intOf];omega
    ·skip
     have HO:=Hd HO1;clear HO1;have c0PL:=PL.c0;have c1PL:=PL.c1;have c0PR:=PR.c0;have c1PR:=PR.c1;have c0P7:=P7.c0;have c1P7:=P7.c1;have c0P9:=P9.c0;have c1P9:=P9.c1
     go_wp2_with fail
     clear c0PL c1PL c0PR c1PR c0P7 c1P7 c0P9 c1P9;have hb:Below W25.heap.size W25 W25.drew:=(Below.refl _ _).drew;replace PL:=PL.below hb;replace PR:=PR.below hb;replace P7:=P7.below hb;replace P9:=P9.below hb;replace hx:=hx.below hb;replace ha:=ha.below hb;replace hc:=hc.below hb;replace hs:=hs.below hb;replace iw:=iw.below hb;replace ic:=ic.below hb;replace hy:=hy.below hb;replace hB:=hB.tr hb;clear hb;refine Rd.regionT (fun X=>ah X (w.heap.size) 53 (.slice p.a p.n p.c) (.slice q.a q.n q.c)∧ah X (w.heap.size+1) 53 (.slice none 0 0) (.slice none 0 0)∧ah X (B7) 53 (.slice ps.a ps.n ps.c) (.slice qs.a qs.n qs.c)∧ah X (B9) 53 (.slice py.a py.n py.c) (.slice qy.a qy.n qy.c)) [0,1,2,4,6,7,8,9,11,12] (.one 0 (.one 1 (.one 2 (.one 4 (.one 3 (.one 5 (.one 6 (.one 7 (.one 8 (.one 9 (.one 10 (.one 11 (.one 12 .done))))))))))))) (fun ac W=>∃(y28 y29 y30 y31 y32 y33 y34 y35 y36 y37 y38 y39:Value),ac={ tmps:=List.toArray (z0:: .slice (some ⟨b2,o2,none⟩) ks.length al:: .slice (some ⟨b1,o1,none⟩) ks.length bl:: .pointer (some ⟨w.heap.size,0,none⟩)::z4::z5:: .pointer (some ⟨w.heap.size+1,0,none⟩):: .pointer (some ⟨B7,0,none⟩):: .int .i64 (k:Int):: .pointer (some ⟨B9,0,none⟩)::z10::z11::z12::z13::z14:: .int .i64 (ks.length:Int):: .int .i64 (k:Int):: .bool true:: .int .i64 (k:Int)::y19::y20::y21::y22::y23::y24::y25::y26::y27::y28::y29::y30::y31::y32::y33::y34::y35::y36::y37::y38::y39:: .bool false::u41::u42::z43::z44::z45::z46::z47::z48::z49::z50::z51::z52::z53::z54::z55::z56::z57::z58::z59::z60::z61::z62::z63::z64::z65::z66::z67::z68::z69::z70::z71::z72::z73::z74::z75::z76::z77::z78::z79::z80::z81::z82::z83::z84::z85::z86::z87::[]),defers:=[] }∧ah W (w.heap.size) 53 (.slice p.a p.n p.c) (.slice q.a q.n q.c)∧ah W (w.heap.size+1) 53 (.slice none 0 0) (.slice none 0 0)∧ah W (B7) 53 (.slice ps.a ps.n ps.c) (.slice qs.a qs.n qs.c)∧ah W (B9) 53 (.slice py.a py.n py.c) (.slice qy.a qy.n qy.c)∧RK W p q (x)∧RI W ⟨some ⟨b2,o2,none⟩,ks.length,al⟩ (ks.map fun k=>(k.1:Int))∧RI W ⟨some ⟨b1,o1,none⟩,ks.length,bl⟩ (ks.map fun k=>(k.2:Int))∧RK W ps qs (low)∧IC W b2 (o2+k) (wt:Int)∧IC W b1 (o1+k) (cp:Int)∧RK W py qy (rat cp wt)∧Below w.heap.size w W) Cx Cx Cx ⟨PL,PR,P7,P9⟩ ?tree ?next
     case tree=>
      generalize W25.drew=w38 at PL PR P7 P9 hx ha hc hs iw ic hy hB ⊢;refine Rd.tg (.agg #[.slice py.a py.n py.c,.slice qy.a qy.n qy.c]) ?_ (y:=fun X hX=>BZ);refine Rd.tf (.slice (some ⟨b2,o2,none⟩) ks.length al) ?_;refine Rd.tf (.slice (some ⟨b1,o1,none⟩) ks.length bl) ?_;refine Rd.tg (.agg #[.slice p.a p.n p.c,.slice q.a q.n q.c]) ?_ (y:=fun X hX=>A5);refine Rd.tm fun K hK=>?_
      have H41:=Hd (jF py qy ⟨some ⟨b2,o2,none⟩,ks.length,al⟩ ⟨some ⟨b1,o1,none⟩,ks.length,bl⟩ (rat cp wt) ks w38 hy ha hc A3 HKK (Hd (fun n hn=>HTV.mul n hn)) (Hd (fun js hj hl=>HTV.sum js A3 (fun k hk=>(HKK.out k (hj k hk)).2.2))));go_simp;refine H41.mono ?_;rintro e w42 ⟨x39,y40,rfl,rx39,hb⟩;clear H41;replace PL:=PL.below hb;replace PR:=PR.below hb;replace P7:=P7.below hb;replace P9:=P9.below hb;replace hx:=hx.below hb;replace ha:=ha.below hb;replace hc:=hc.below hb;replace hs:=hs.below hb;replace iw:=iw.below hb;replace ic:=ic.below hb;replace hy:=hy.below hb;replace hB:=hB.tr hb;clear hb;refine hK _ _ ⟨PL,PR,P7,P9⟩ ?_;clear hK K;refine Rd.tm fun K hK=>?_
      have H43:=Hd (pX x39 y40 p q (sum (rat cp wt) ks) (x) w42 rx39 hx);go_simp;refine H43.mono ?_;rintro e w44 ⟨rfl,hb⟩;clear H43;replace PL:=PL.below hb;replace PR:=PR.below hb;replace P7:=P7.below hb;replace P9:=P9.below hb;replace hx:=hx.below hb;replace ha:=ha.below hb;replace hc:=hc.below hb;replace hs:=hs.below hb;replace iw:=iw.below hb;replace ic:=ic.below hb;replace hy:=hy.below hb;replace rx39:=rx39.below hb;replace hB:=hB.tr hb;clear hb;refine hK _ _ ⟨PL,PR,P7,P9⟩ ?_;clear hK K;refine Rd.tg (.bool false) ?_ (y:=fun X _=>by have hO:=Int.not_lt.1 (fun h=>HO.out (rK.1 h));go_simp);refine Rd.tf (.bool false) ?_;refine Rd.tr_skip BC rfl Cp ?_;simp only[Act.put,sA,sB,sC];refine Rd.tr_skip BC rfl Cp ?_;simp only[Act.put,sA,sB,sC];refine Rd.tr_mskip BC rfl Cp ⟨PL,PR,P7,P9⟩ ?_;simp only[Act.put,sA,sB,sC];refine Rd.tr_skip BC rfl Cp ?_;simp only[Act.put,sA,sB,sC];refine Rd.tf (.bool false) ?_;exact Rd.tr_end (⟨_,_,_,_,_,_,_,_,_,_,_,_,rfl,PL,PR,P7,P9,hx,ha,hc,hs,iw,ic,hy,hB⟩)
     case next=>
      rintro a46 W45 ⟨y28,y29,y30,y31,y32,y33,y34,y35,y36,y37,y38,y39,rfl,PL,PR,P7,P9,hx,ha,hc,hs,iw,ic,hy,hB⟩
      go_wp2_with fail
      go_round
      case rel=>exact⟨k+1,ps,qs,low,A3,Cw,HLV,Hd (by rw[HSN.out,←HLO.out,if_neg (fun h=>HO.out h.1)]),Hd PL,Hd PR,Hd hx,Hd ha,Hd hc,Hd P7,Hd hs,Hd hB⟩
      case measure=>simp[intOf];omega
  ·skip
   have ek:k=ks.length:=A3
   have HLW:Hid (bI x ks ks 0=low):=Hd (by rw[HLO.out,ek,List.take_length]);clear HLO ek;have HSL:Hid (sum low ks≤x):=Hd (by rw[←HLW.out];exact ro (fun k hk=>(HKK.out k hk).1) HX0.out);have HSR:Hid (Sz (x - sum low ks)):=Hd (HLV.rest HF.out HX2.out ks HSL.out);have hsz:=hB.size;have hs7:=P7.lt;have hsr:=PR.lt;have hsl:=PL.lt;have c0PL:=PL.c0;have c1PL:=PL.c1;have c0PR:=PR.c0;have c1PR:=PR.c1;have c0P7:=P7.c0;have c1P7:=P7.c1
   go_wp2_with fail
   clear c0PL c1PL c0PR c1PR c0P7 c1P7;have hb:Below wr.heap.size wr wr.drew:=(Below.refl _ _).drew;replace PL:=PL.below hb;replace PR:=PR.below hb;replace P7:=P7.below hb;replace hx:=hx.below hb;replace ha:=ha.below hb;replace hc:=hc.below hb;replace hs:=hs.below hb;replace hB:=hB.tr hb;clear hb;refine Rd.regionT (fun X=>ah X (w.heap.size) 53 (.slice p.a p.n p.c) (.slice q.a q.n q.c)∧ah X (w.heap.size+1) 53 (.slice none 0 0) (.slice none 0 0)∧ah X (B7) 53 (.slice ps.a ps.n ps.c) (.slice qs.a qs.n qs.c)) [0,1,2,3] (.one 0 (.one 1 (.one 2 (.one 3 (.two 4 (.two 5 (.one 6 (.one 7 .done)) 6 (.one 5 (.one 7 .done))) 6 (.one 4 (.one 5 (.one 7 .done)))))))) (fun ac W=>∃(pr:Sl) (qr:Sl) (B10:Nat) (y43 y44 y45 y46 y47 y48:Value),ac={ tmps:=List.toArray (z0:: .slice aa ks.length al:: .slice ba ks.length bl:: .pointer (some ⟨w.heap.size,0,none⟩)::z4::z5:: .pointer (some ⟨w.heap.size+1,0,none⟩):: .pointer (some ⟨B7,0,none⟩)::u8::u9:: .pointer (some ⟨B10,0,none⟩)::z11::z12::z13::z14:: .int .i64 (ks.length:Int):: .int .i64 (k:Int):: .bool false::u18::u19::u20::u21::u22::u23::u24::u25::u26::u27::u28::u29::u30::u31::u32::u33::u34::u35::u36::u37::u38::u39::u40::u41::u42::y43::y44::y45::y46::y47::y48::z49::z50::z51::z52::z53::z54::z55::z56::z57::z58::z59::z60::z61::z62::z63::z64::z65::z66::z67::z68::z69::z70::z71::z72::z73::z74::z75::z76::z77::z78::z79::z80::z81::z82::z83::z84::z85::z86::z87::[]),defers:=[] }∧ah W (w.heap.size) 53 (.slice p.a p.n p.c) (.slice q.a q.n q.c)∧ah W (w.heap.size+1) 53 (.slice none 0 0) (.slice none 0 0)∧ah W (B7) 53 (.slice ps.a ps.n ps.c) (.slice qs.a qs.n qs.c)∧RK W p q (x)∧RI W ⟨aa,ks.length,al⟩ (ks.map fun k=>(k.1:Int))∧RI W ⟨ba,ks.length,bl⟩ (ks.map fun k=>(k.2:Int))∧RK W ps qs (low)∧ah W B10 53 (.slice pr.a pr.n pr.c) (.slice qr.a qr.n qr.c)∧RK W pr qr (x - sum low ks)∧w.heap.size+1<B10∧Below w.heap.size w W) Cx Cx Cx ⟨PL,PR,P7⟩ ?tree ?next
   case tree=>
    generalize wr.drew=w47 at PL PR P7 hx ha hc hs hB ⊢;refine Rd.tg (.agg #[.slice p.a p.n p.c,.slice q.a q.n q.c]) ?_ (y:=fun X hX=>A5);refine Rd.tg (.agg #[.slice ps.a ps.n ps.c,.slice qs.a qs.n qs.c]) ?_ (y:=fun X hX=>Cj);refine Rd.tf (.slice aa ks.length al) ?_;refine Rd.tf (.slice ba ks.length bl) ?_;refine Rd.tr_two BC Cp BC Cp (fun K hK=>?_) (fun K hK=>?_)
    ·skip
     have H50:=Hd (jF ps qs ⟨aa,ks.length,al⟩ ⟨ba,ks.length,bl⟩ (low) ks w47 hs ha hc A3 HKK (Hd (fun n hn=>HLV.mul n hn)) (Hd (fun js hj hl=>HLV.sum js A3 (fun k hk=>(HKK.out k (hj k hk)).2.2))));go_simp;refine H50.mono ?_;rintro e w51 ⟨x48,y49,rfl,rx48,hb⟩;clear H50;replace PL:=PL.below hb;replace PR:=PR.below hb;replace P7:=P7.below hb;replace hx:=hx.below hb;replace ha:=ha.below hb;replace hc:=hc.below hb;replace hs:=hs.below hb;replace hB:=hB.tr hb;clear hb;refine hK _ _ ⟨PL,PR,P7⟩ ?_;clear hK K;refine Rd.tr_two BC Cp BC Cp (fun K hK=>?_) (fun K hK=>?_)
     ·skip
      have H54:=Hd (yD p q x48 y49 (x) (sum (low) ks) w51 hx rx48 HSR.out HSL.out);go_simp;refine H54.mono ?_;rintro e w55 ⟨x52,y53,rfl,rx52,hb⟩;clear H54;replace PL:=PL.below hb;replace PR:=PR.below hb;replace P7:=P7.below hb;replace hx:=hx.below hb;replace ha:=ha.below hb;replace hc:=hc.below hb;replace hs:=hs.below hb;replace rx48:=rx48.below hb;replace hB:=hB.tr hb;clear hb;refine hK _ _ ⟨PL,PR,P7⟩ ?_;clear hK K;refine Rd.tm fun K hK=>?_
      go_simp;have P56:=ah.new w55 53 (.slice none 0 0) (.slice none 0 0);have nPLP56:=PL.lt;have nPRP56:=PR.lt;have nP7P56:=P7.lt;have gP56:=hB.size;have hb:Below w55.heap.size w55 (w55.alloc (.cells #[.slice none 0 0,.slice none 0 0] 53)):=(Below.refl _ _).alloc lr _;replace PL:=PL.below hb;replace PR:=PR.below hb;replace P7:=P7.below hb;replace hx:=hx.below hb;replace ha:=ha.below hb;replace hc:=hc.below hb;replace hs:=hs.below hb;replace rx48:=rx48.below hb;replace rx52:=rx52.below hb;replace hB:=hB.tr hb;clear hb;generalize w55.alloc (.cells #[.slice none 0 0,.slice none 0 0] 53)=w58 at PL PR P7 hx ha hc hs rx48 rx52 P56 hB ⊢;generalize w55.heap.size=B57 at nPLP56 nPRP56 nP7P56 P56 gP56 ⊢;refine hK _ _ ⟨PL,PR,P7⟩ ?_;clear hK K;refine Rd.tm fun K hK=>?_
      have c0P56:=P56.c0;have c1P56:=P56.c1;have z0P56:=P56.z0;have z1P56:=P56.z1;go_simp;clear c0P56 c1P56 z0P56 z1P56;replace hx:=hx.pset P56 (.slice x52.a x52.n x52.c) (.slice y53.a y53.n y53.c);replace ha:=ha.pset P56 (.slice x52.a x52.n x52.c) (.slice y53.a y53.n y53.c);replace hc:=hc.pset P56 (.slice x52.a x52.n x52.c) (.slice y53.a y53.n y53.c);replace hs:=hs.pset P56 (.slice x52.a x52.n x52.c) (.slice y53.a y53.n y53.c);replace rx48:=rx48.pset P56 (.slice x52.a x52.n x52.c) (.slice y53.a y53.n y53.c);replace rx52:=rx52.pset P56 (.slice x52.a x52.n x52.c) (.slice y53.a y53.n y53.c);replace PL:=PL.other (B:=B57) A3 (.slice x52.a x52.n x52.c) (.slice y53.a y53.n y53.c);replace PR:=PR.other (B:=B57) A3 (.slice x52.a x52.n x52.c) (.slice y53.a y53.n y53.c);replace P7:=P7.other (B:=B57) A3 (.slice x52.a x52.n x52.c) (.slice y53.a y53.n y53.c);replace hB:=Below.pset (B:=B57) hB A3 (.slice x52.a x52.n x52.c) (.slice y53.a y53.n y53.c);replace P56:=P56.set (.slice x52.a x52.n x52.c) (.slice y53.a y53.n y53.c);generalize (w58.setCell ⟨B57,0,none⟩ (.slice x52.a x52.n x52.c)).setCell ⟨B57,1,none⟩ (.slice y53.a y53.n y53.c)=w59 at PL PR P7 P56 hx ha hc hs rx48 rx52 hB ⊢;refine hK _ _ ⟨PL,PR,P7⟩ ?_;clear hK K;exact Rd.tr_end (⟨x52,y53,B57,_,_,_,_,_,_,rfl,PL,PR,P7,hx,ha,hc,hs,P56,rx52,nPRP56,hB⟩)
     ·skip
      go_simp;have P60:=ah.new w51 53 (.slice none 0 0) (.slice none 0 0);have nPLP60:=PL.lt;have nPRP60:=PR.lt;have nP7P60:=P7.lt;have gP60:=hB.size;have hb:Below w51.heap.size w51 (w51.alloc (.cells #[.slice none 0 0,.slice none 0 0] 53)):=(Below.refl _ _).alloc lr _;replace PL:=PL.below hb;replace PR:=PR.below hb;replace P7:=P7.below hb;replace hx:=hx.below hb;replace ha:=ha.below hb;replace hc:=hc.below hb;replace hs:=hs.below hb;replace rx48:=rx48.below hb;replace hB:=hB.tr hb;clear hb;generalize w51.alloc (.cells #[.slice none 0 0,.slice none 0 0] 53)=w62 at PL PR P7 hx ha hc hs rx48 P60 hB ⊢;generalize w51.heap.size=B61 at nPLP60 nPRP60 nP7P60 P60 gP60 ⊢;refine hK _ _ ⟨PL,PR,P7⟩ ?_;clear hK K;refine Rd.tm fun K hK=>?_
      have H65:=Hd (yD p q x48 y49 (x) (sum (low) ks) w62 hx rx48 HSR.out HSL.out);go_simp;refine H65.mono ?_;rintro e w66 ⟨x63,y64,rfl,rx63,hb⟩;clear H65;replace PL:=PL.below hb;replace PR:=PR.below hb;replace P7:=P7.below hb;replace P60:=P60.below hb;replace hx:=hx.below hb;replace ha:=ha.below hb;replace hc:=hc.below hb;replace hs:=hs.below hb;replace rx48:=rx48.below hb;replace hB:=hB.tr hb;clear hb;refine hK _ _ ⟨PL,PR,P7⟩ ?_;clear hK K;refine Rd.tm fun K hK=>?_
      have c0P60:=P60.c0;have c1P60:=P60.c1;have z0P60:=P60.z0;have z1P60:=P60.z1;go_simp;clear c0P60 c1P60 z0P60 z1P60;replace hx:=hx.pset P60 (.slice x63.a x63.n x63.c) (.slice y64.a y64.n y64.c);replace ha:=ha.pset P60 (.slice x63.a x63.n x63.c) (.slice y64.a y64.n y64.c);replace hc:=hc.pset P60 (.slice x63.a x63.n x63.c) (.slice y64.a y64.n y64.c);replace hs:=hs.pset P60 (.slice x63.a x63.n x63.c) (.slice y64.a y64.n y64.c);replace rx48:=rx48.pset P60 (.slice x63.a x63.n x63.c) (.slice y64.a y64.n y64.c);replace rx63:=rx63.pset P60 (.slice x63.a x63.n x63.c) (.slice y64.a y64.n y64.c);replace PL:=PL.other (B:=B61) A3 (.slice x63.a x63.n x63.c) (.slice y64.a y64.n y64.c);replace PR:=PR.other (B:=B61) A3 (.slice x63.a x63.n x63.c) (.slice y64.a y64.n y64.c);replace P7:=P7.other (B:=B61) A3 (.slice x63.a x63.n x63.c) (.slice y64.a y64.n y64.c);replace hB:=Below.pset (B:=B61) hB A3 (.slice x63.a x63.n x63.c) (.slice y64.a y64.n y64.c);replace P60:=P60.set (.slice x63.a x63.n x63.c) (.slice y64.a y64.n y64.c);generalize (w66.setCell ⟨B61,0,none⟩ (.slice x63.a x63.n x63.c)).setCell ⟨B61,1,none⟩ (.slice y64.a y64.n y64.c)=w67 at PL PR P7 P60 hx ha hc hs rx48 rx63 hB ⊢;refine hK _ _ ⟨PL,PR,P7⟩ ?_;clear hK K;exact Rd.tr_end (⟨x63,y64,B61,_,_,_,_,_,_,rfl,PL,PR,P7,hx,ha,hc,hs,P60,rx63,nPRP60,hB⟩)
    ·skip
     go_simp;have P68:=ah.new w47 53 (.slice none 0 0) (.slice none 0 0);have nPLP68:=PL.lt;have nPRP68:=PR.lt;have nP7P68:=P7.lt;have gP68:=hB.size;have hb:Below w47.heap.size w47 (w47.alloc (.cells #[.slice none 0 0,.slice none 0 0] 53)):=(Below.refl _ _).alloc lr _;replace PL:=PL.below hb;replace PR:=PR.below hb;replace P7:=P7.below hb;replace hx:=hx.below hb;replace ha:=ha.below hb;replace hc:=hc.below hb;replace hs:=hs.below hb;replace hB:=hB.tr hb;clear hb;generalize w47.alloc (.cells #[.slice none 0 0,.slice none 0 0] 53)=w70 at PL PR P7 hx ha hc hs P68 hB ⊢;generalize w47.heap.size=B69 at nPLP68 nPRP68 nP7P68 P68 gP68 ⊢;refine hK _ _ ⟨PL,PR,P7⟩ ?_;clear hK K;refine Rd.tm fun K hK=>?_
     have H73:=Hd (jF ps qs ⟨aa,ks.length,al⟩ ⟨ba,ks.length,bl⟩ (low) ks w70 hs ha hc A3 HKK (Hd (fun n hn=>HLV.mul n hn)) (Hd (fun js hj hl=>HLV.sum js A3 (fun k hk=>(HKK.out k (hj k hk)).2.2))));go_simp;refine H73.mono ?_;rintro e w74 ⟨x71,y72,rfl,rx71,hb⟩;clear H73;replace PL:=PL.below hb;replace PR:=PR.below hb;replace P7:=P7.below hb;replace P68:=P68.below hb;replace hx:=hx.below hb;replace ha:=ha.below hb;replace hc:=hc.below hb;replace hs:=hs.below hb;replace hB:=hB.tr hb;clear hb;refine hK _ _ ⟨PL,PR,P7⟩ ?_;clear hK K;refine Rd.tm fun K hK=>?_
     have H77:=Hd (yD p q x71 y72 (x) (sum (low) ks) w74 hx rx71 HSR.out HSL.out);go_simp;refine H77.mono ?_;rintro e w78 ⟨x75,y76,rfl,rx75,hb⟩;clear H77;replace PL:=PL.below hb;replace PR:=PR.below hb;replace P7:=P7.below hb;replace P68:=P68.below hb;replace hx:=hx.below hb;replace ha:=ha.below hb;replace hc:=hc.below hb;replace hs:=hs.below hb;replace rx71:=rx71.below hb;replace hB:=hB.tr hb;clear hb;refine hK _ _ ⟨PL,PR,P7⟩ ?_;clear hK K;refine Rd.tm fun K hK=>?_
     have c0P68:=P68.c0;have c1P68:=P68.c1;have z0P68:=P68.z0;have z1P68:=P68.z1;go_simp;clear c0P68 c1P68 z0P68 z1P68;replace hx:=hx.pset P68 (.slice x75.a x75.n x75.c) (.slice y76.a y76.n y76.c);replace ha:=ha.pset P68 (.slice x75.a x75.n x75.c) (.slice y76.a y76.n y76.c);replace hc:=hc.pset P68 (.slice x75.a x75.n x75.c) (.slice y76.a y76.n y76.c);replace hs:=hs.pset P68 (.slice x75.a x75.n x75.c) (.slice y76.a y76.n y76.c);replace rx71:=rx71.pset P68 (.slice x75.a x75.n x75.c) (.slice y76.a y76.n y76.c);replace rx75:=rx75.pset P68 (.slice x75.a x75.n x75.c) (.slice y76.a y76.n y76.c);replace PL:=PL.other (B:=B69) A3 (.slice x75.a x75.n x75.c) (.slice y76.a y76.n y76.c);replace PR:=PR.other (B:=B69) A3 (.slice x75.a x75.n x75.c) (.slice y76.a y76.n y76.c);replace P7:=P7.other (B:=B69) A3 (.slice x75.a x75.n x75.c) (.slice y76.a y76.n y76.c);replace hB:=Below.pset (B:=B69) hB A3 (.slice x75.a x75.n x75.c) (.slice y76.a y76.n y76.c);replace P68:=P68.set (.slice x75.a x75.n x75.c) (.slice y76.a y76.n y76.c);generalize (w78.setCell ⟨B69,0,none⟩ (.slice x75.a x75.n x75.c)).setCell ⟨B69,1,none⟩ (.slice y76.a y76.n y76.c)=w79 at PL PR P7 P68 hx ha hc hs rx71 rx75 hB ⊢;refine hK _ _ ⟨PL,PR,P7⟩ ?_;clear hK K;exact Rd.tr_end (⟨x75,y76,B69,_,_,_,_,_,_,rfl,PL,PR,P7,hx,ha,hc,hs,P68,rx75,nPRP68,hB⟩)
   case next=>
    rintro a81 W80 ⟨pr,qr,B10,y43,y44,y45,y46,y47,y48,rfl,PL,PR,P7,hx,ha,hc,hs,PT,hr,h10,hB⟩
    go_wp2_with fail
    refine(?_ : ∀(z0 z4 z5 z8 z9 z12 z13 z14 z15 z16 z17 z18 z19 z20 z21 z22 z23 z24 z25 z26 z27 z28 z29 z30 z31 z32 z33 z34 z35 z36 z37 z38 z39 z40 z41 z42 z43 z44 z45 z46 z47 z48 z49 z52 z53 z54 z55 z56 z57 z58 z59 z60 z61 z62 z63 z64 z65 z66 z67 z68 z69 z70 z71 z72 z73 z74 z75 z76 z77 z78 z79 z80 z81 z82 z83 z84 z85 z86 z87:Value),Code.wp _ _ _ { tmps:=List.toArray (z0:: .slice aa ks.length al:: .slice ba ks.length bl:: .pointer (some ⟨w.heap.size,0,none⟩)::z4::z5:: .pointer (some ⟨w.heap.size+1,0,none⟩):: .pointer (some ⟨B7,0,none⟩)::z8::z9:: .pointer (some ⟨B10,0,none⟩):: .int .i64 0::z12::z13::z14::z15::z16::z17::z18::z19::z20::z21::z22::z23::z24::z25::z26::z27::z28::z29::z30::z31::z32::z33::z34::z35::z36::z37::z38::z39::z40::z41::z42::z43::z44::z45::z46::z47::z48::z49:: .int .i64 (ks.length:Int):: .int .i64 0::z52::z53::z54::z55::z56::z57::z58::z59::z60::z61::z62::z63::z64::z65::z66::z67::z68::z69::z70::z71::z72::z73::z74::z75::z76::z77::z78::z79::z80::z81::z82::z83::z84::z85::z86::z87::[]),defers:=[] } _) _ _ _ _ _ _ _ _ _ _ _ _ _ _ _ _ _ _ _ _ _ _ _ _ _ _ _ _ _ _ _ _ _ _ _ _ _ _ _ _ _ _ _ _ _ _ _ _ _ _ _ _ _ _ _ _ _ _ _ _ _ _ _ _ _ _ _ _ _ _ _ _ _ _ _ _ _ _ _;intro z0 z4 z5 z8 z9 z12 z13 z14 z15 z16 z17 z18 z19 z20 z21 z22 z23 z24 z25 z26 z27 z28 z29 z30 z31 z32 z33 z34 z35 z36 z37 z38 z39 z40 z41 z42 z43 z44 z45 z46 z47 z48 z49 z52 z53 z54 z55 z56 z57 z58 z59 z60 z61 z62 z63 z64 z65 z66 z67 z68 z69 z70 z71 z72 z73 z74 z75 z76 z77 z78 z79 z80 z81 z82 z83 z84 z85 z86 z87
    go_loopw [11,51] (fun o i wr=>∃(k op:Nat),k≤ks.length∧i= .int .i64 (k:Int)∧o= .int .i64 (op:Int)∧op≤k*10000∧Hid (op=bi low (ks.take k))∧Hid (ah wr (w.heap.size) 53 (.slice p.a p.n p.c) (.slice q.a q.n q.c))∧Hid (ah wr (w.heap.size+1) 53 (.slice none 0 0) (.slice none 0 0))∧Hid (RK wr p q x)∧Hid (RI wr ⟨aa,ks.length,al⟩ (ks.map fun k=>(k.1:Int)))∧Hid (RI wr ⟨ba,ks.length,bl⟩ (ks.map fun k=>(k.2:Int)))∧Hid (ah wr B7 53 (.slice ps.a ps.n ps.c) (.slice qs.a qs.n qs.c))∧Hid (RK wr ps qs low)∧Hid (ah wr B10 53 (.slice pr.a pr.n pr.c) (.slice qr.a qr.n qr.c))∧Hid (RK wr pr qr (x - sum low ks))∧Hid (Below w.heap.size w wr)) (fun _ mi _=>ks.length - (intOf mi).toNat)
    case atStart=>exact⟨0,0,Nat.zero_le _,rfl,rfl,Nat.zero_le _,Hd (by rw[List.take_zero];rfl),Hd PL,Hd PR,Hd hx,Hd ha,Hd hc,Hd P7,Hd hs,Hd PT,Hd hr,Hd hB⟩
    case round=>
     clear hlt hk;clear PL PR hx ha hc P7 hs PT hr hB;obtain⟨k,op,hk,rfl,rfl,hop,HOP,HPL,HPR,Hhx,Hha,Hhc,HP7,Hhs,HPT,Hhr,HBB⟩:=hrel;have PL:=HPL.out;have PR:=HPR.out;have hx:=Hhx.out;have ha:=Hha.out;have hc:=Hhc.out;have P7:=HP7.out;have hs:=Hhs.out;have PT:=HPT.out;have hr:=Hhr.out;have hB:=HBB.out;clear HPL HPR Hhx Hha Hhc HP7 Hhs HPT Hhr HBB;by_cases hlt:k<ks.length
     ·skip
      obtain⟨b1,o1,ec,ic⟩:=hc.at hlt;obtain⟨b2,o2,ea,iw⟩:=ha.at hlt;subst ea ec;have hkk:=HKK.out _ (fc hlt);have HSN:=Hd (qh low hlt);generalize ks.getD k (0,0)=kid at ic iw hkk HSN;obtain⟨wt,cp⟩:=kid;dsimp only at ic iw;have hwt:=hkk.2.1;have hcp:=hkk.2.2;have HW0:Hid (wt≠0):=Hd hkk.1;have HTV:Hid (LvW (rat cp wt)):=Hd (LvW.top hkk);dsimp only at hwt hcp;clear hkk;have c0PL:=PL.c0;have c1PL:=PL.c1;have c0PR:=PR.c0;have c1PR:=PR.c1;have c0P7:=P7.c0;have c1P7:=P7.c1;have c0PT:=PT.c0;have c1PT:=PT.c1
      go_wp2_with fail
      clear c0PL c1PL c0PR c1PR c0P7 c1P7 c0PT c1PT;have hb:Below wr.heap.size wr wr.drew:=(Below.refl _ _).drew;replace PL:=PL.below hb;replace PR:=PR.below hb;replace P7:=P7.below hb;replace PT:=PT.below hb;replace hx:=hx.below hb;replace ha:=ha.below hb;replace hc:=hc.below hb;replace hs:=hs.below hb;replace hr:=hr.below hb;replace iw:=iw.below hb;replace ic:=ic.below hb;replace hB:=hB.tr hb;clear hb;refine Rd.regionT (fun X=>ah X (w.heap.size) 53 (.slice p.a p.n p.c) (.slice q.a q.n q.c)∧ah X (w.heap.size+1) 53 (.slice none 0 0) (.slice none 0 0)∧ah X (B7) 53 (.slice ps.a ps.n ps.c) (.slice qs.a qs.n qs.c)∧ah X (B10) 53 (.slice pr.a pr.n pr.c) (.slice qr.a qr.n qr.c)∧IC X b2 (o2+k) (wt:Int)∧IC X b1 (o1+k) (cp:Int)) [0,1,2,3,4,5,6,7,9,11] (.one 0 (.one 1 (.one 2 (.one 3 (.one 4 (.one 5 (.one 6 (.one 7 (.one 9 (.one 8 (.one 10 (.one 11 .done)))))))))))) (fun ac W=>∃(T:Bool) (y54 y55 y56 y57 y58 y59 y60 y61 y62 y63 y64:Value),ac={ tmps:=List.toArray (z0:: .slice (some ⟨b2,o2,none⟩) ks.length al:: .slice (some ⟨b1,o1,none⟩) ks.length bl:: .pointer (some ⟨w.heap.size,0,none⟩)::z4::z5:: .pointer (some ⟨w.heap.size+1,0,none⟩):: .pointer (some ⟨B7,0,none⟩)::z8::z9:: .pointer (some ⟨B10,0,none⟩):: .int .i64 (op:Int):: .int .i64 (k:Int)::z13::z14::z15::z16::z17::z18::z19::z20::z21::z22::z23::z24::z25::z26::z27::z28::z29::z30::z31::z32::z33::z34::z35::z36::z37::z38::z39::z40::z41::z42::z43::z44::z45::z46::z47::z48::z49:: .int .i64 (ks.length:Int):: .int .i64 (k:Int):: .bool true:: .int .i64 (k:Int)::y54::y55::y56::y57::y58::y59::y60::y61::y62::y63::y64:: .bool T::u66::u67::u68::u69::u70::u71::u72::z73::z74::z75::z76::z77::z78::z79::z80::z81::z82::z83::z84::z85::z86::z87::[]),defers:=[] }∧ah W (w.heap.size) 53 (.slice p.a p.n p.c) (.slice q.a q.n q.c)∧ah W (w.heap.size+1) 53 (.slice none 0 0) (.slice none 0 0)∧ah W (B7) 53 (.slice ps.a ps.n ps.c) (.slice qs.a qs.n qs.c)∧ah W (B10) 53 (.slice pr.a pr.n pr.c) (.slice qr.a qr.n qr.c)∧RK W p q (x)∧RI W ⟨some ⟨b2,o2,none⟩,ks.length,al⟩ (ks.map fun k=>(k.1:Int))∧RI W ⟨some ⟨b1,o1,none⟩,ks.length,bl⟩ (ks.map fun k=>(k.2:Int))∧RK W ps qs (low)∧RK W pr qr (x - sum low ks)∧IC W b2 (o2+k) (wt:Int)∧IC W b1 (o1+k) (cp:Int)∧T=decide (low<rat cp wt)∧Below w.heap.size w W) Cx Cx Cx ⟨PL,PR,P7,PT,iw,ic⟩ ?tree ?next
      case tree=>
       generalize wr.drew=w82 at PL PR P7 PT hx ha hc hs hr iw ic hB ⊢;refine Rd.tf (.slice (some ⟨b1,o1,none⟩) ks.length bl) ?_;refine Rd.tf (.int .i64 (k:Int)) ?_;refine Rd.tf (.pointer (some ⟨b1,o1+k,none⟩)) ?_;refine Rd.tg (.int .i64 (cp:Int)) ?_ (y:=fun X hX=>by have h0:=(hX.2.2.2.2.2).2;go_simp);refine Rd.tf (.slice (some ⟨b2,o2,none⟩) ks.length al) ?_;refine Rd.tf (.int .i64 (k:Int)) ?_;refine Rd.tf (.pointer (some ⟨b2,o2+k,none⟩)) ?_;refine Rd.tg (.int .i64 (wt:Int)) ?_ (y:=fun X hX=>by have h0:=(hX.2.2.2.2.1).2;go_simp);refine Rd.tg (.agg #[.slice ps.a ps.n ps.c,.slice qs.a qs.n qs.c]) ?_ (y:=fun X hX=>by have h0:=hX.2.2.1.c0;have h1:=hX.2.2.1.c1;go_simp);refine Rd.tm fun K hK=>?_
       have H85:=Hd (qW cp wt w82 A3 A3 HW0);go_simp;refine H85.mono ?_;rintro e w86 ⟨x83,y84,rfl,rx83,hb⟩;clear H85;replace PL:=PL.below hb;replace PR:=PR.below hb;replace P7:=P7.below hb;replace PT:=PT.below hb;replace hx:=hx.below hb;replace ha:=ha.below hb;replace hc:=hc.below hb;replace hs:=hs.below hb;replace hr:=hr.below hb;replace iw:=iw.below hb;replace ic:=ic.below hb;replace hB:=hB.tr hb;clear hb;refine hK _ _ ⟨PL,PR,P7,PT,iw,ic⟩ ?_;clear hK K;refine Rd.tm fun K hK=>?_
       have H87:=Hd (pX x83 y84 ps qs (rat cp wt) (low) w86 rx83 hs);go_simp;refine H87.mono ?_;rintro e w88 ⟨rfl,hb⟩;clear H87;replace PL:=PL.below hb;replace PR:=PR.below hb;replace P7:=P7.below hb;replace PT:=PT.below hb;replace hx:=hx.below hb;replace ha:=ha.below hb;replace hc:=hc.below hb;replace hs:=hs.below hb;replace hr:=hr.below hb;replace iw:=iw.below hb;replace ic:=ic.below hb;replace rx83:=rx83.below hb;replace hB:=hB.tr hb;clear hb;refine hK _ _ ⟨PL,PR,P7,PT,iw,ic⟩ ?_;clear hK K;refine Rd.tf (.bool (decide (0<(ev (rat cp wt) (low))))) ?_;exact Rd.tr_end (⟨_,_,_,_,_,_,_,_,_,_,_,_,rfl,PL,PR,P7,PT,hx,ha,hc,hs,hr,iw,ic,(by simp only[eE]),hB⟩)
      case next=>
       rintro a90 W89 ⟨T,y54,y55,y56,y57,y58,y59,y60,y61,y62,y63,y64,rfl,PL,PR,P7,PT,hx,ha,hc,hs,hr,iw,ic,hT,hB⟩;by_cases HO2:low<rat cp wt
       ·skip
        rw[decide_eq_true HO2] at hT;subst hT;have H22:=Hd HO2;clear HO2;have iw2:=iw.2
        go_wp2_with fail
        go_round
        case rel=>exact⟨k+1,op+wt,A3,Cw,Cw,A3,Hd (by rw[HSN.out,HOP.out,if_pos (show low<top (wt,cp) from H22.out)]),Hd PL,Hd PR,Hd hx,Hd ha,Hd hc,Hd P7,Hd hs,Hd PT,Hd hr,Hd hB⟩
        case measure=>simp[intOf];omega
       ·skip
        rw[decide_eq_false HO2] at hT;subst hT;have H22:=Hd HO2;clear HO2
        go_wp2_with fail
        go_round
        case rel=>exact⟨k+1,op,A3,Cw,Cw,A3,Hd (by rw[HSN.out,HOP.out,if_neg (show ¬low<top (wt,cp) from H22.out)];rfl),Hd PL,Hd PR,Hd hx,Hd ha,Hd hc,Hd P7,Hd hs,Hd PT,Hd hr,Hd hB⟩
        case measure=>simp[intOf];omega
     ·skip
      have ek:k=ks.length:=A3
      have HOW:Hid (bi low ks=op):=Hd (by rw[HOP.out,ek,List.take_length]);have hop2:op≤1000000:=A3
      clear HOP ek;have HDL:Hid (aN x ks=if op=0∨x - sum low ks=0 then low else low+(x - sum low ks) / ((op:Nat):Rat)):=Hd (by unfold aN;rw[HLW.out,HOW.out]);have hsz:=hB.size;have hs7:=P7.lt;have hsr:=PR.lt;have hsl:=PL.lt;by_cases h0:op=0
      ·skip
       subst h0;have HR:Hid (aN x ks=low):=Hd (by rw[HDL.out,if_pos (.inl rfl)]);have c0PL:=PL.c0;have c1PL:=PL.c1;have c0PR:=PR.c0;have c1PR:=PR.c1;have c0P7:=P7.c0;have c1P7:=P7.c1;have c0PT:=PT.c0;have c1PT:=PT.c1;have z0PR:=PR.z0;have z1PR:=PR.z1;have hsz:=hB.size
       go_wp2_with fail
       exact Af
      ·skip
       have h0b:((op:Int)==0)=false:=Cq
       have h0c: ¬(op:Int)=0:=A3
       by_cases h1:x - sum low ks=0
       ·skip
        have HR:Hid (aN x ks=low):=Hd (by rw[HDL.out,if_pos (.inr h1)]);have hz:pr.n=0:=(mh hr.2.1).2 (by rw[h1];rfl);have HH1:=Hd h1;clear h1;have c0PL:=PL.c0;have c1PL:=PL.c1;have c0PR:=PR.c0;have c1PR:=PR.c1;have c0P7:=P7.c0;have c1P7:=P7.c1;have c0PT:=PT.c0;have c1PT:=PT.c1;have z0PR:=PR.z0;have z1PR:=PR.z1;have hsz:=hB.size
        go_wp2_with fail
        exact Af
       ·skip
        have HR:Hid (aN x ks=low+(x - sum low ks) / ((op:Nat):Rat)):=Hd (by rw[HDL.out,if_neg (fun h=>h.elim h0 h1)]);have hz:pr.n≠0:=fun h=>wS hr.1.pos h1 ((mh hr.2.1).1 h)
        have hz2:((pr.n:Int)==0)=false:=Cq
        have hz3: ¬(pr.n:Int)=0:=A3
        have HPT:Hid (Sz ((x - sum low ks) / ((op:Nat):Rat))∧Sz (low+(x - sum low ks) / ((op:Nat):Rat))):=Hd (HLV.part HF.out HX2.out ks HSL.out h0 hop2);have HN0:Hid (op≠0):=Hd h0;clear h1 h0;have c0PL:=PL.c0;have c1PL:=PL.c1;have c0PR:=PR.c0;have c1PR:=PR.c1;have c0P7:=P7.c0;have c1P7:=P7.c1;have c0PT:=PT.c0;have c1PT:=PT.c1
        go_wp2_with fail
        clear c0PL c1PL c0PR c1PR c0P7 c1P7 c0PT c1PT;refine(?_ : ∀(z0 z1 z2 z3 z4 z5 z8 z9 z12 z13 z14 z15 z16 z17 z18 z19 z20 z21 z22 z23 z24 z25 z26 z27 z28 z29 z30 z31 z32 z33 z34 z35 z36 z37 z38 z39 z40 z41 z42 z43 z44 z45 z46 z47 z48 z49 z50 z51 z52 z53 z54 z55 z56 z57 z58 z59 z60 z61 z62 z63 z64 z65 z66 z67 z68 z69 z70 z71 z72 z73 z74 z75 z76 z77 z78 z79 z80 z81 z82 z83 z84 z85 z86 z87:Value),Code.wp _ _ _ { tmps:=List.toArray (z0::z1::z2::z3::z4::z5:: .pointer (some ⟨w.heap.size+1,0,none⟩):: .pointer (some ⟨B7,0,none⟩)::z8::z9:: .pointer (some ⟨B10,0,none⟩):: .int .i64 (op:Int)::z12::z13::z14::z15::z16::z17::z18::z19::z20::z21::z22::z23::z24::z25::z26::z27::z28::z29::z30::z31::z32::z33::z34::z35::z36::z37::z38::z39::z40::z41::z42::z43::z44::z45::z46::z47::z48::z49::z50::z51::z52::z53::z54::z55::z56::z57::z58::z59::z60::z61::z62::z63::z64::z65::z66::z67::z68::z69::z70::z71::z72::z73::z74::z75::z76::z77::z78::z79::z80::z81::z82::z83::z84::z85::z86::z87::[]),defers:=[] } _) _ _ _ _ _ _ _ _ _ _ _ _ _ _ _ _ _ _ _ _ _ _ _ _ _ _ _ _ _ _ _ _ _ _ _ _ _ _ _ _ _ _ _ _ _ _ _ _ _ _ _ _ _ _ _ _ _ _ _ _ _ _ _ _ _ _ _ _ _ _ _ _ _ _ _ _ _ _ _ _ _ _ _ _;intro z0 z1 z2 z3 z4 z5 z8 z9 z12 z13 z14 z15 z16 z17 z18 z19 z20 z21 z22 z23 z24 z25 z26 z27 z28 z29 z30 z31 z32 z33 z34 z35 z36 z37 z38 z39 z40 z41 z42 z43 z44 z45 z46 z47 z48 z49 z50 z51 z52 z53 z54 z55 z56 z57 z58 z59 z60 z61 z62 z63 z64 z65 z66 z67 z68 z69 z70 z71 z72 z73 z74 z75 z76 z77 z78 z79 z80 z81 z82 z83 z84 z85 z86 z87;have c0PL:=PL.c0;have c1PL:=PL.c1;have c0PR:=PR.c0;have c1PR:=PR.c1;have c0P7:=P7.c0;have c1P7:=P7.c1;have c0PT:=PT.c0;have c1PT:=PT.c1
        go_wp2_with fail
        clear c0PL c1PL c0PR c1PR c0P7 c1P7 c0PT c1PT;have hb:Below wr.heap.size wr wr.drew:=(Below.refl _ _).drew;replace PL:=PL.below hb;replace PR:=PR.below hb;replace P7:=P7.below hb;replace PT:=PT.below hb;replace hx:=hx.below hb;replace ha:=ha.below hb;replace hc:=hc.below hb;replace hs:=hs.below hb;replace hr:=hr.below hb;replace hB:=hB.tr hb;clear hb;refine Rd.regionT (fun X=>ah X (w.heap.size) 53 (.slice p.a p.n p.c) (.slice q.a q.n q.c)∧ah X (B7) 53 (.slice ps.a ps.n ps.c) (.slice qs.a qs.n qs.c)∧ah X (B10) 53 (.slice pr.a pr.n pr.c) (.slice qr.a qr.n qr.c)) [0,1,2] (.one 0 (.one 1 (.one 2 (.one 3 (.one 4 (.one 5 (.one 6 .done))))))) (fun ac W=>∃(pn:Sl) (qn:Sl) (y82 y83 y84 y85 y86 y87:Value),ac={ tmps:=List.toArray (z0::z1::z2::z3::z4::z5:: .pointer (some ⟨w.heap.size+1,0,none⟩):: .pointer (some ⟨B7,0,none⟩)::z8::z9:: .pointer (some ⟨B10,0,none⟩):: .int .i64 (op:Int)::z12::z13::z14::z15::z16::z17::z18::z19::z20::z21::z22::z23::z24::z25::z26::z27::z28::z29::z30::z31::z32::z33::z34::z35::z36::z37::z38::z39::z40::z41::z42::z43::z44::z45::z46::z47::z48::z49::z50::z51::z52::z53::z54::z55::z56::z57::z58::z59::z60::z61::z62::z63::z64::z65::z66::z67::z68::z69::z70::z71::z72::z73::z74::z75::z76::z77::z78::z79::z80::z81::y82::y83::y84::y85::y86::y87::[]),defers:=[] }∧ah W (w.heap.size+1) 53 (.slice pn.a pn.n pn.c) (.slice qn.a qn.n qn.c)∧RK W pn qn (low+(x - sum low ks) / ((op:Nat):Rat))∧Below w.heap.size w W) Cx Cx Cx ⟨PL,P7,PT⟩ ?tree ?next
        case tree=>
         generalize wr.drew=w91 at PL PR P7 PT hx ha hc hs hr hB ⊢;refine Rd.tg (.agg #[.slice ps.a ps.n ps.c,.slice qs.a qs.n qs.c]) ?_ (y:=fun X hX=>by have h0:=hX.2.1.c0;have h1:=hX.2.1.c1;go_simp);refine Rd.tg (.agg #[.slice pr.a pr.n pr.c,.slice qr.a qr.n qr.c]) ?_ (y:=fun X hX=>Cj);refine Rd.tf (.int .i64 (op:Int)) ?_;refine Rd.tm fun K hK=>?_
         have H94:=Hd (jf (op) A3 w91);go_simp;refine H94.mono ?_;rintro e w95 ⟨x92,y93,rfl,rx92,hb⟩;clear H94;replace PL:=PL.below hb;replace PR:=PR.below hb;replace P7:=P7.below hb;replace PT:=PT.below hb;replace hx:=hx.below hb;replace ha:=ha.below hb;replace hc:=hc.below hb;replace hs:=hs.below hb;replace hr:=hr.below hb;replace hB:=hB.tr hb;clear hb;refine hK _ _ ⟨PL,P7,PT⟩ ?_;clear hK K;refine Rd.tm fun K hK=>?_
         have H98:=Hd (zC pr qr x92 y93 (x - sum low ks) (((op:Nat):Rat)) w95 hr rx92 HPT.1 (by have:=aR HN0.out;grind));go_simp;refine H98.mono ?_;rintro e w99 ⟨x96,y97,rfl,rx96,hb⟩;clear H98;replace PL:=PL.below hb;replace PR:=PR.below hb;replace P7:=P7.below hb;replace PT:=PT.below hb;replace hx:=hx.below hb;replace ha:=ha.below hb;replace hc:=hc.below hb;replace hs:=hs.below hb;replace hr:=hr.below hb;replace rx92:=rx92.below hb;replace hB:=hB.tr hb;clear hb;refine hK _ _ ⟨PL,P7,PT⟩ ?_;clear hK K;refine Rd.tm fun K hK=>?_
         have H102:=Hd (yS ps qs x96 y97 (low) ((x - sum low ks) / ((op:Nat):Rat)) w99 hs rx96 HPT.2);go_simp;refine H102.mono ?_;rintro e w103 ⟨x100,y101,rfl,rx100,hb⟩;clear H102;replace PL:=PL.below hb;replace PR:=PR.below hb;replace P7:=P7.below hb;replace PT:=PT.below hb;replace hx:=hx.below hb;replace ha:=ha.below hb;replace hc:=hc.below hb;replace hs:=hs.below hb;replace hr:=hr.below hb;replace rx92:=rx92.below hb;replace rx96:=rx96.below hb;replace hB:=hB.tr hb;clear hb;refine hK _ _ ⟨PL,P7,PT⟩ ?_;clear hK K;refine Rd.tm fun K hK=>?_
         have c0PR:=PR.c0;have c1PR:=PR.c1;have z0PR:=PR.z0;have z1PR:=PR.z1;go_simp;clear c0PR c1PR z0PR z1PR;replace hx:=hx.pset PR (.slice x100.a x100.n x100.c) (.slice y101.a y101.n y101.c);replace ha:=ha.pset PR (.slice x100.a x100.n x100.c) (.slice y101.a y101.n y101.c);replace hc:=hc.pset PR (.slice x100.a x100.n x100.c) (.slice y101.a y101.n y101.c);replace hs:=hs.pset PR (.slice x100.a x100.n x100.c) (.slice y101.a y101.n y101.c);replace hr:=hr.pset PR (.slice x100.a x100.n x100.c) (.slice y101.a y101.n y101.c);replace rx92:=rx92.pset PR (.slice x100.a x100.n x100.c) (.slice y101.a y101.n y101.c);replace rx96:=rx96.pset PR (.slice x100.a x100.n x100.c) (.slice y101.a y101.n y101.c);replace rx100:=rx100.pset PR (.slice x100.a x100.n x100.c) (.slice y101.a y101.n y101.c);replace PL:=PL.other (B:=w.heap.size+1) A3 (.slice x100.a x100.n x100.c) (.slice y101.a y101.n y101.c);replace P7:=P7.other (B:=w.heap.size+1) A3 (.slice x100.a x100.n x100.c) (.slice y101.a y101.n y101.c);replace PT:=PT.other (B:=w.heap.size+1) A3 (.slice x100.a x100.n x100.c) (.slice y101.a y101.n y101.c);replace hB:=Below.pset (B:=w.heap.size+1) hB A3 (.slice x100.a x100.n x100.c) (.slice y101.a y101.n y101.c);replace PR:=PR.set (.slice x100.a x100.n x100.c) (.slice y101.a y101.n y101.c);generalize (w103.setCell ⟨w.heap.size+1,0,none⟩ (.slice x100.a x100.n x100.c)).setCell ⟨w.heap.size+1,1,none⟩ (.slice y101.a y101.n y101.c)=w104 at PL PR P7 PT hx ha hc hs hr rx92 rx96 rx100 hB ⊢;refine hK _ _ ⟨PL,P7,PT⟩ ?_;clear hK K;exact Rd.tr_end (⟨x100,y101,_,_,_,_,_,_,rfl,PR,rx100,hB⟩)
        case next=>
         rintro a106 W105 ⟨pn,qn,y82,y83,y84,y85,y86,y87,rfl,PX,hN,hB⟩
         go_wp2_with fail
         rw[HR.out];refine bodyPost_ret (v:=.agg #[.slice pn.a pn.n pn.c,.slice qn.a qn.n qn.c]) ?_ rfl ⟨pn,qn,rfl,hN,hB⟩;simp[results,Tryz.f65,go_sem,PX.c0,PX.c1]
theorem oF {φ:Int→Bool} {l:List Int} {k:Nat} (h:k<l.length) (hn:(l.take k).any φ=false):(l.take (k+1)).any φ=φ (l.getD k 0):=by
 rw[List.take_add_one,List.any_append,hn];simp[List.getD_eq_getElem?_getD,List.getElem?_eq_getElem h]
theorem lT {φ:Int→Bool} {l:List Int} {k:Nat} (h:k<l.length) (hp:φ (l.getD k 0)=true):l.any φ=true:=
 List.any_eq_true.2 ⟨_,lU h,hp⟩
theorem vN {l:List Int} {k:Nat} (h:k<l.length):(l.take (k+1)).sum=(l.take k).sum+l.getD k 0:=by
 rw[List.take_add_one,List.sum_append];simp[List.getD_eq_getElem?_getD,List.getElem?_eq_getElem h]
theorem tw (p q a b:Sl) (x:Rat) (ws cs:List Int) (w:World) (_hx:RK w p q x) (ha:RI w a ws) (hc:RI w b cs) (hne:ws.length≠cs.length):
  Calls Tryz.prog 64 #[.agg #[.slice p.a p.n p.c,.slice q.a q.n q.c],.slice a.a a.n a.c,.slice b.a b.n b.c] w fun e w'=>e= .returned (.int .i64 17)∧Below w.heap.size w w':=by
 have ea:=ha.len;have ec:=hc.len;have hne2:((a.n:Int)==(b.n:Int))=false:=by rw[ea,ec];simp;omega
 have hne3: ¬a.n=b.n:=A3
 clear ha hc _hx;go_enter Tryz.func64,Tryz.ntmps64
 go_wp2_with fail
 go_ret;exact⟨rfl,(Below.refl _ _).alloc lr _⟩
theorem q4 (p q a b:Sl) (x:Rat) (ws cs:List Int) (w:World) (_hx:RK w p q x) (ha:RI w a ws) (hc:RI w b cs) (he:cs.length=ws.length) (hf:32<ws.length):
  Calls Tryz.prog 64 #[.agg #[.slice p.a p.n p.c,.slice q.a q.n q.c],.slice a.a a.n a.c,.slice b.a b.n b.c] w fun e w'=>e= .returned (.int .i64 6)∧Below w.heap.size w w':=by
 have ea:=ha.len;have ec:=hc.len;have en:b.n=a.n:=A3
 rw[en];have h32:(32:Int)<(a.n:Int):=A3
 clear ha hc _hx ea ec en;go_enter Tryz.func64,Tryz.ntmps64
 go_wp2_with fail
 go_ret;exact⟨rfl,(Below.refl _ _).alloc lr _⟩
theorem BV {p:Prop} (h:p:=by unfold cf;rw[if_neg A3,if_neg A3,if_neg (by rw[HNA.out];simp),if_pos (HOF.out (by simp[noC];omega))]):p:=h
theorem AH {p:Prop} (h:p:=by go_ret;exact⟨by rw[HR.out];rfl,hB⟩):p:=h
theorem qX (p q a b:Sl) (x:Rat) (ws cs:List Int) (w:World) (hx:RK w p q x) (ha:RI w a ws) (hc:RI w b cs) (he:cs.length=ws.length) (hf:ws.length≤32):
  Calls Tryz.prog 64 #[.agg #[.slice p.a p.n p.c,.slice q.a q.n q.c],.slice a.a a.n a.c,.slice b.a b.n b.c] w fun e w'=>e= .returned (.int .i64 (cf x ws cs))∧Below w.heap.size w w':=by
 obtain⟨aa,an,al⟩:=a;obtain⟨ba,bn,bl⟩:=b;have ea:=ha.len;have ec:=hc.len;dsimp only at ea ec;rw[he] at ec;subst ea ec;dsimp only;have h32: ¬(32:Int)<(ws.length:Int):=A3
 go_enter Tryz.func64,Tryz.ntmps64;have hb:Below w.heap.size w (w.alloc (.cells #[.slice p.a p.n p.c,.slice q.a q.n q.c] 53)):=((Below.refl _ _).alloc lr _)
 replace hx:=hx.below hb;replace ha:=ha.below hb;replace hc:=hc.below hb;have hB:=hb;have P1:ah (w.alloc (.cells #[.slice p.a p.n p.c,.slice q.a q.n q.c] 53)) (w.heap.size) 53 (.slice p.a p.n p.c) (.slice q.a q.n q.c):=by
  have h:=ah.new w 53 (.slice p.a p.n p.c) (.slice q.a q.n q.c);exact zQ
 clear hb;have c0P1:=P1.c0;have c1P1:=P1.c1
 go_wp2_with fail
 clear c0P1 c1P1;refine(?_ : ∀(z0 z4 z5 z8 z9 z10 z11 z12 z13 z14 z15 z16 z17 z18 z21 z22 z23 z24 z25 z26 z27 z28 z29 z30 z31 z32 z33 z34 z35 z36 z37 z38 z39 z40 z41 z42 z43 z44 z45 z46 z47 z48 z49 z50 z51 z52 z53 z54 z55 z56 z57 z58 z59 z60 z61 z62 z63 z64:Value),Code.wp _ _ _ { tmps:=List.toArray (z0:: .slice aa ws.length al:: .slice ba ws.length bl:: .pointer (some ⟨w.heap.size,0,none⟩)::z4::z5:: .int .i64 0:: .int .i64 0::z8::z9::z10::z11::z12::z13::z14::z15::z16::z17::z18:: .int .i64 (ws.length:Int):: .int .i64 0::z21::z22::z23::z24::z25::z26::z27::z28::z29::z30::z31::z32::z33::z34::z35::z36::z37::z38::z39::z40::z41::z42::z43::z44::z45::z46::z47::z48::z49::z50::z51::z52::z53::z54::z55::z56::z57::z58::z59::z60::z61::z62::z63::z64::[]),defers:=[] } _) _ _ _ _ _ _ _ _ _ _ _ _ _ _ _ _ _ _ _ _ _ _ _ _ _ _ _ _ _ _ _ _ _ _ _ _ _ _ _ _ _ _ _ _ _ _ _ _ _ _ _ _ _ _ _ _ _ _;intro z0 z4 z5 z8 z9 z10 z11 z12 z13 z14 z15 z16 z17 z18 z21 z22 z23 z24 z25 z26 z27 z28 z29 z30 z31 z32 z33 z34 z35 z36 z37 z38 z39 z40 z41 z42 z43 z44 z45 z46 z47 z48 z49 z50 z51 z52 z53 z54 z55 z56 z57 z58 z59 z60 z61 z62 z63 z64
 go_loopw [20] (fun i wr=>∃k:Nat,k≤ws.length∧i= .int .i64 (k:Int)∧Hid ((ws.take k).any noW=false)∧Hid (ah wr (w.heap.size) 53 (.slice p.a p.n p.c) (.slice q.a q.n q.c))∧Hid (RK wr p q x)∧Hid (RI wr ⟨aa,ws.length,al⟩ ws)∧Hid (RI wr ⟨ba,ws.length,bl⟩ cs)∧Hid (Below w.heap.size w wr)) (fun mi _=>ws.length - (intOf mi).toNat)
 case atStart=>exact⟨0,Nat.zero_le _,rfl,Hd B4,Hd P1,Hd hx,Hd ha,Hd hc,Hd hB⟩
 case round=>
  clear P1 hx ha hc hB;obtain⟨k,hk,rfl,HNW,HPL,Hhx,Hha,Hhc,HBB⟩:=hrel;have PL:=HPL.out;have hx:=Hhx.out;have ha:=Hha.out;have hc:=Hhc.out;have hB:=HBB.out;clear HPL Hhx Hha Hhc HBB;by_cases hlt:k<ws.length
  ·skip
   obtain⟨b2,o2,ea,_,hcell⟩:=ha.open (by intro e;rw[e] at hlt;simp at hlt);dsimp only at ea;subst ea;have c1:=hcell k hlt;clear hcell;have HAT:=Hd (oF (φ:=noW) hlt HNW.out);have HOF:=Hd (fun h=>lT (φ:=noW) hlt h);generalize ws.getD k 0=z at c1 HAT HOF;by_cases h1:z<1
   ·skip
    have HR:Hid (cf x ws cs=13):=Hd (by unfold cf;rw[if_neg A3,if_neg A3,if_pos (HOF.out (by simp[noW];omega))]);clear PL hx ha hc
    go_wp2_with fail
    exact AH
   ·skip
    by_cases h2:10000<z
    ·skip
     have HR:Hid (cf x ws cs=13):=Hd (by unfold cf;rw[if_neg A3,if_neg A3,if_pos (HOF.out (by simp[noW];omega))]);clear PL hx ha hc
     go_wp2_with fail
     exact AH
    ·skip
     have HN2:Hid ((ws.take (k+1)).any noW=false):=Hd (by rw[HAT.out];simp[noW];omega)
     go_wp2_with fail
     go_round
     case rel=>exact⟨k+1,A3,Cw,HN2,Hd PL,Hd hx,Hd ha,Hd hc,Hd hB⟩
     case measure=>simp[intOf];omega
  ·skip
   have HNA:Hid (ws.any noW=false):=Hd (by have h:=HNW.out;rw[List.take_of_length_le A3] at h;exact h);clear HNW
   go_wp2_with fail
   refine(?_ : ∀(z0 z4 z5 z8 z9 z10 z11 z12 z13 z14 z15 z16 z17 z18 z19 z20 z21 z22 z23 z24 z25 z26 z27 z28 z29 z30 z31 z32 z33 z34 z35 z36 z39 z40 z41 z42 z43 z44 z45 z46 z47 z48 z49 z50 z51 z52 z53 z54 z55 z56 z57 z58 z59 z60 z61 z62 z63 z64:Value),Code.wp _ _ _ { tmps:=List.toArray (z0:: .slice aa ws.length al:: .slice ba ws.length bl:: .pointer (some ⟨w.heap.size,0,none⟩)::z4::z5::u6:: .int .i64 0::z8::z9::z10::z11::z12::z13::z14::z15::z16::z17::z18::z19::z20::z21::z22::z23::z24::z25::z26::z27::z28::z29::z30::z31::z32::z33::z34::z35::z36:: .int .i64 (ws.length:Int):: .int .i64 0::z39::z40::z41::z42::z43::z44::z45::z46::z47::z48::z49::z50::z51::z52::z53::z54::z55::z56::z57::z58::z59::z60::z61::z62::z63::z64::[]),defers:=[] } _) _ _ _ _ _ _ _ _ _ _ _ _ _ _ _ _ _ _ _ _ _ _ _ _ _ _ _ _ _ _ _ _ _ _ _ _ _ _ _ _ _ _ _ _ _ _ _ _ _ _ _ _ _ _ _ _ _ _;intro z0 z4 z5 z8 z9 z10 z11 z12 z13 z14 z15 z16 z17 z18 z19 z20 z21 z22 z23 z24 z25 z26 z27 z28 z29 z30 z31 z32 z33 z34 z35 z36 z39 z40 z41 z42 z43 z44 z45 z46 z47 z48 z49 z50 z51 z52 z53 z54 z55 z56 z57 z58 z59 z60 z61 z62 z63 z64
   go_loopw [7,38] (fun o i wr=>∃k:Nat,k≤ws.length∧i= .int .i64 (k:Int)∧o= .int .i64 (cs.take k).sum∧0≤(cs.take k).sum∧(cs.take k).sum≤64*(k:Int)∧Hid ((cs.take k).any noC=false)∧Hid (ah wr (w.heap.size) 53 (.slice p.a p.n p.c) (.slice q.a q.n q.c))∧Hid (RK wr p q x)∧Hid (RI wr ⟨aa,ws.length,al⟩ ws)∧Hid (RI wr ⟨ba,ws.length,bl⟩ cs)∧Hid (Below w.heap.size w wr)) (fun _ mi _=>ws.length - (intOf mi).toNat)
   case atStart=>exact⟨0,Nat.zero_le _,rfl,B4,B4,B4,Hd B4,Hd PL,Hd hx,Hd ha,Hd hc,Hd hB⟩
   case round=>
    clear hlt hk;clear PL hx ha hc hB;obtain⟨k,hk,rfl,rfl,hs0,hs1,HNC,HPL,Hhx,Hha,Hhc,HBB⟩:=hrel;have PL:=HPL.out;have hx:=Hhx.out;have ha:=Hha.out;have hc:=Hhc.out;have hB:=HBB.out;clear HPL Hhx Hha Hhc HBB;by_cases hlt:k<ws.length
    ·skip
     have hlc:k<cs.length:=A3
     obtain⟨b2,o2,ec,_,hcell⟩:=hc.open (by intro e;rw[e] at hlc;simp at hlc);dsimp only at ec;subst ec;have c1:=hcell k hlc;clear hcell;have HAT:=Hd (oF (φ:=noC) hlc HNC.out);have HOF:=Hd (fun h=>lT (φ:=noC) hlc h);have HSM:=Hd (vN hlc);generalize cs.getD k 0=z at c1 HAT HOF HSM;generalize hsm:(cs.take k).sum=sm at hs0 hs1 HSM ⊢;by_cases h1:z<0
     ·skip
      have HR:Hid (cf x ws cs=14):=Hd BV;clear PL hx ha hc hsm
      go_wp2_with fail
      exact AH
     ·skip
      by_cases h2:64<z
      ·skip
       have HR:Hid (cf x ws cs=14):=Hd BV;clear PL hx ha hc hsm
       go_wp2_with fail
       exact AH
      ·skip
       have HN2:Hid ((cs.take (k+1)).any noC=false):=Hd (by rw[HAT.out];simp[noC];omega);have HSS:=Hd HSM.out;clear hsm
       go_wp2_with fail
       go_round
       case rel=>exact⟨k+1,A3,Cw,by rw[HSS.out],by rw[HSS.out];omega,by rw[HSS.out];omega,HN2,Hd PL,Hd hx,Hd ha,Hd hc,Hd hB⟩
       case measure=>simp[intOf];omega
    ·skip
     have ek:k=ws.length:=A3
     have HCA:Hid (cs.any noC=false):=Hd (by have h:=HNC.out;rw[List.take_of_length_le A3] at h;exact h);have hsm:cs.sum=(cs.take k).sum:=by rw[List.take_of_length_le A3]
     rw[←hsm] at hs0 hs1 ⊢;obtain⟨sm,hsn⟩: ∃n:Nat,cs.sum=(n:Int):=⟨cs.sum.toNat,A3⟩
     rw[hsn] at hs0 hs1 ⊢;have hsm2:sm≤1000000:=A3
     have HSN:=Hd hsn;clear hsm hsn HNC;have HER:Hid (cf x ws cs=if (sm:Rat)<x then 14 else 0):=Hd (by unfold cf;rw[if_neg A3,if_neg A3,if_neg (by rw[HNA.out];simp),if_neg (by rw[HCA.out];simp),HSN.out,Int.toNat_natCast])
     go_wp2_with fail
     refine(?_ : ∀(z0 z1 z2 z4 z5 z8 z9 z10 z11 z12 z13 z14 z15 z16 z17 z18 z19 z20 z21 z22 z23 z24 z25 z26 z27 z28 z29 z30 z31 z32 z33 z34 z35 z36 z37 z38 z39 z40 z41 z42 z43 z44 z45 z46 z47 z48 z49 z50 z51 z52 z53 z54 z55 z56 z57 z58 z59 z60 z61 z62 z63 z64:Value),Code.wp _ _ _ { tmps:=List.toArray (z0::z1::z2:: .pointer (some ⟨w.heap.size,0,none⟩)::z4::z5::u6:: .int .i64 (sm:Int)::z8::z9::z10::z11::z12::z13::z14::z15::z16::z17::z18::z19::z20::z21::z22::z23::z24::z25::z26::z27::z28::z29::z30::z31::z32::z33::z34::z35::z36::z37::z38::z39::z40::z41::z42::z43::z44::z45::z46::z47::z48::z49::z50::z51::z52::z53::z54::z55::z56::z57::z58::z59::z60::z61::z62::z63::z64::[]),defers:=[] } _) _ _ _ _ _ _ _ _ _ _ _ _ _ _ _ _ _ _ _ _ _ _ _ _ _ _ _ _ _ _ _ _ _ _ _ _ _ _ _ _ _ _ _ _ _ _ _ _ _ _ _ _ _ _ _ _ _ _ _ _ _ _;intro z0 z1 z2 z4 z5 z8 z9 z10 z11 z12 z13 z14 z15 z16 z17 z18 z19 z20 z21 z22 z23 z24 z25 z26 z27 z28 z29 z30 z31 z32 z33 z34 z35 z36 z37 z38 z39 z40 z41 z42 z43 z44 z45 z46 z47 z48 z49 z50 z51 z52 z53 z54 z55 z56 z57 z58 z59 z60 z61 z62 z63 z64;have c0PL:=PL.c0;have c1PL:=PL.c1
     go_wp2_with fail
     clear c0PL c1PL;have hb:Below wr.heap.size wr wr.drew:=(Below.refl _ _).drew;replace PL:=PL.below hb;replace hx:=hx.below hb;replace hB:=hB.tr hb;clear hb;refine Rd.regionT (fun X=>ah X (w.heap.size) 53 (.slice p.a p.n p.c) (.slice q.a q.n q.c)) [0,1,4] (.one 0 (.one 1 (.one 2 (.one 3 (.one 4 .done))))) (fun ac W=>∃(T:Bool) (y60 y61 y62 y63:Value),ac={ tmps:=List.toArray (z0::z1::z2:: .pointer (some ⟨w.heap.size,0,none⟩)::z4::z5::u6:: .int .i64 (sm:Int)::z8::z9::z10::z11::z12::z13::z14::z15::z16::z17::z18::z19::z20::z21::z22::z23::z24::z25::z26::z27::z28::z29::z30::z31::z32::z33::z34::z35::z36::z37::z38::z39::z40::z41::z42::z43::z44::z45::z46::z47::z48::z49::z50::z51::z52::z53::z54::z55::z56::z57::z58::z59::y60::y61::y62::y63:: .bool T::[]),defers:=[] }∧T=decide ((sm:Rat)<x)∧Below w.heap.size w W) Cx Cx Cx PL ?tree ?next
     case tree=>
      generalize wr.drew=w2 at PL hx hB ⊢;refine Rd.tg (.agg #[.slice p.a p.n p.c,.slice q.a q.n q.c]) ?_ (y:=fun X hX=>BO);refine Rd.tf (.int .i64 (sm:Int)) ?_;refine Rd.tm fun K hK=>?_
      have H5:=Hd (jf (sm) A3 w2);go_simp;refine H5.mono ?_;rintro e w6 ⟨x3,y4,rfl,rx3,hb⟩;clear H5;replace PL:=PL.below hb;replace hx:=hx.below hb;replace hB:=hB.tr hb;clear hb;refine hK _ _ PL ?_;clear hK K;refine Rd.tm fun K hK=>?_
      have H7:=Hd (pX p q x3 y4 (x) (((sm:Nat):Rat)) w6 hx rx3);go_simp;refine H7.mono ?_;rintro e w8 ⟨rfl,hb⟩;clear H7;replace PL:=PL.below hb;replace hx:=hx.below hb;replace rx3:=rx3.below hb;replace hB:=hB.tr hb;clear hb;refine hK _ _ PL ?_;clear hK K;refine Rd.tf (.bool (decide (0<(ev (x) (((sm:Nat):Rat)))))) ?_;exact Rd.tr_end (⟨_,_,_,_,_,rfl,(by simp only[eE]),hB⟩)
     case next=>
      rintro a10 W9 ⟨T,y60,y61,y62,y63,rfl,hT,hB⟩;by_cases h5:(sm:Rat)<x
      ·skip
       rw[decide_eq_true h5] at hT;subst hT;have HR:Hid (cf x ws cs=14):=Hd (by rw[HER.out,if_pos h5]);clear h5
       go_wp2_with fail
       exact AH
      ·skip
       rw[decide_eq_false h5] at hT;subst hT;have HR:Hid (cf x ws cs=0):=Hd (by rw[HER.out,if_neg h5]);clear h5
       go_wp2_with fail
       exact AH
theorem sP (p q a b:Sl) (x:Rat) (ws cs:List Int) (w:World) (hx:RK w p q x) (ha:RI w a ws) (hc:RI w b cs):
  Calls Tryz.prog 64 #[.agg #[.slice p.a p.n p.c,.slice q.a q.n q.c],.slice a.a a.n a.c,.slice b.a b.n b.c] w fun e w'=>e= .returned (.int .i64 (cf x ws cs))∧Below w.heap.size w w':=by
 by_cases h1:ws.length≠cs.length
 ·have h:cf x ws cs=17:=by unfold cf;rw[if_pos h1]
  rw[h];exact tw p q a b x ws cs w hx ha hc h1
 ·by_cases h2:32<ws.length
  ·have h:cf x ws cs=6:=by unfold cf;rw[if_neg h1,if_pos h2]
   rw[h];exact q4 p q a b x ws cs w hx ha hc A3 h2
  ·exact qX p q a b x ws cs w hx ha hc A3 A3
theorem nc {o:Oper} {a:Act} {Q:Exit→Act→World→Prop} {K:Act→World→Prop} {w:World} (s x:Operand) (t t':TypeId)
  (ho:o.op= .call { callee:=.builtin .append,args:= #[s,x],argTypes:= #[t,t'] }) (v u v':Value) (w':World) (hs:a.eval s=v) (hx:a.eval x=u)
  (hr:(Builtin.append_ #[t,t'] o.type #[v,u]).run Tryz.prog w= .ok v' w') (h:K (a.put o.dst v') w'):o.wp Tryz.prog a w K Q:=by
 unfold Oper.wp execOp;simp only[ho,resolve,invoke,builtin,Sem.run_bind,Sem.run_pure,Result.andThen_ok,List.map_toArray,List.map_cons,List.map_nil,hs,hx,hr];exact h
section
variable {w w':World} {base:Nat} {e:TypeId} {v:Value} {n:Nat} {xs:List Value}
theorem di.ne_int (ho:di w base e v n xs) {b j:Nat} {z:Int} (hc:w.cell? ⟨b,j,none⟩=some (.int .i64 z)):some b≠v.ownBlock:=by
 intro eb;rcases ho.2 with ⟨rfl,_⟩ | ⟨g,cap2,cur,rfl,_,hgr,_,_,_,_,hall⟩
 ·cases eb
 ·cases eb;simp only[World.cell?,hgr] at hc;obtain⟨h4,h5⟩:=Array.getElem?_eq_some_iff.1 hc;obtain⟨_,_,_,h6⟩:=hall _ (Array.getElem_mem_toList h4);rw[h5] at h6;cases h6
theorem iI.grownS {u:Value} {l:List Int} (h:iI w u l) (ho:di w base e v n xs) (hg:w.grownBy w' v.ownBlock):iI w' u l:=by
 obtain⟨ad,cap,e1,h1,h2⟩:=h;refine⟨ad,cap,e1,h1,fun hne=>?_⟩;obtain⟨b,off,rfl,hb,hc⟩:=h2 hne;have hne2:=ho.ne_int (hc 0 (List.length_pos_iff.2 hne));exact AL
theorem IC.grownS {b j:Nat} {z:Int} (h:IC w b j z) (ho:di w base e v n xs) (hg:w.grownBy w' v.ownBlock):IC w' b j z:=
 ⟨Nat.lt_of_lt_of_le h.1 hg.size,(World.cell?_of_block (w:=w) (a:=⟨b,j,none⟩) (hg.block b h.1 (ho.ne_int h.2))).trans h.2⟩
theorem eL.below {rs:List Rat} {ys:List Value} (h:eL RK w ys rs) (hb:Below w.heap.size w w'):eL RK w' ys rs:=h.move (fun _ _ _ k=>k.below hb)
theorem eL.grownS {rs:List Rat} {ys:List Value} (h:eL RK w ys rs) (ho:di w base e v n xs) (hg:w.grownBy w' v.ownBlock):eL RK w' ys rs:=h.move (fun _ _ _ k=>k.grownS ho hg)
end
theorem Tryz.info53:(Tryz.prog.info? 53).map (fun i=>(i.zero,i.size,i.bytes))=some (some (.agg #[.slice none 0 0,.slice none 0 0]),2,48):=Cx
theorem vJ (p q a b:Sl) (x:Rat) (ks:List Kid) (D:Nat) (w:World) (hx:RK w p q x) (ha:RI w a (ks.map fun k=>(k.1:Int))) (hc:RI w b (ks.map fun k=>(k.2:Int))) (hl:ks.length≤32) (HKK:Hid (∀k∈ks,cX k)) (HF:Hid (gS D x)) (HX:Hid (x≤((bT ks:Nat):Rat))) (HE:Hid (cf x (ks.map fun k=>(k.1:Int)) (ks.map fun k=>(k.2:Int))=0)):
  Calls Tryz.prog 33 #[.agg #[.slice p.a p.n p.c,.slice q.a q.n q.c],.slice a.a a.n a.c,.slice b.a b.n b.c] w fun e w'=>∃v,e= .returned (.tuple #[v,.int .i64 0])∧oG w' v (ks.map (given (aN x ks)))∧(∀j,v.ownBlock=some j→w.heap.size≤j)∧Below w.heap.size w w':=by
 obtain⟨aa,an,al⟩:=a;obtain⟨ba,bn,bl⟩:=b;have ea:=ha.len;have ec:=hc.len;rw[List.length_map] at ea ec;dsimp only at ea ec;subst ea ec;dsimp only;have HX0:Hid (0≤x):=Hd hx.1.pos;obtain⟨i0,hi0,hz0,hz1,hz2⟩:=info_parts Tryz.info53;go_enter Tryz.func33,Tryz.ntmps33;have hb:Below w.heap.size w (w.alloc (.cells #[.slice p.a p.n p.c,.slice q.a q.n q.c] 53)):=((Below.refl _ _).alloc lr _)
 replace hx:=hx.below hb;replace ha:=ha.below hb;replace hc:=hc.below hb;have hB:=hb;have P1:ah (w.alloc (.cells #[.slice p.a p.n p.c,.slice q.a q.n q.c] 53)) (w.heap.size) 53 (.slice p.a p.n p.c) (.slice q.a q.n q.c):=by
  have h:=ah.new w 53 (.slice p.a p.n p.c) (.slice q.a q.n q.c);exact zQ
 clear hb;have c0P1:=P1.c0;have c1P1:=P1.c1;have H2:=Hd (sP p q ⟨aa,ks.length,al⟩ ⟨ba,ks.length,bl⟩ x (ks.map fun k=>(k.1:Int)) (ks.map fun k=>(k.2:Int)) (w.alloc (.cells #[.slice p.a p.n p.c,.slice q.a q.n q.c] 53)) hx ha hc);rw[HE.out] at H2
 go_wp2_with fail
 clear c0P1 c1P1;refine H2.mono ?_;rintro e w3 ⟨rfl,hb⟩;clear H2;replace P1:=P1.below hb;replace hx:=hx.below hb;replace ha:=ha.below hb;replace hc:=hc.below hb;replace hB:=hB.tr hb;clear hb;have c0P1:=P1.c0;have c1P1:=P1.c1;have H6:=Hd (tG p q ⟨aa,ks.length,al⟩ ⟨ba,ks.length,bl⟩ x ks D w3 hx ha hc hl HKK HF HX)
 go_wp2_with fail
 clear c0P1 c1P1;refine H6.mono ?_;rintro e w7 ⟨x4,y5,rfl,rx4,hb⟩;clear H6;replace P1:=P1.below hb;replace hx:=hx.below hb;replace ha:=ha.below hb;replace hc:=hc.below hb;replace hB:=hB.tr hb;clear hb;have HSZ9:=Hd hB.size;have hb:Below w7.heap.size w7 (w7.alloc (.cells #[.slice x4.a x4.n x4.c,.slice y5.a y5.n y5.c] 53)):=((Below.refl _ _).alloc lr _)
 replace P1:=P1.below hb;replace hx:=hx.below hb;replace ha:=ha.below hb;replace hc:=hc.below hb;replace rx4:=rx4.below hb;replace hB:=hB.tr hb;have P8:ah (w7.alloc (.cells #[.slice x4.a x4.n x4.c,.slice y5.a y5.n y5.c] 53)) (w7.heap.size) 53 (.slice x4.a x4.n x4.c) (.slice y5.a y5.n y5.c):=by
  have h:=ah.new w7 53 (.slice x4.a x4.n x4.c) (.slice y5.a y5.n y5.c);exact zQ
 clear hb;have c0P1:=P1.c0;have c1P1:=P1.c1;have c0P8:=P8.c0;have c1P8:=P8.c1
 go_wp2_with fail
 clear c0P1 c1P1 c0P8 c1P8;have hp9:=P1.lt;have hsz:=hB.size;obtain⟨B9,hB9⟩: ∃B,B=w7.heap.size:=⟨_,rfl⟩
 rw[←hB9] at P8 ⊢;have hb9:w.heap.size≤B9:=by rw[hB9];exact HSZ9.out
 have HLV:Hid (∀n:Nat,n≤10000→Sz (aN x ks*n)):=Hd (vZ HF.out HX0.out hl HKK.out HX.out);have HR0:Hid ((ks.take 0).map (given (aN x ks))=[]):=Hd B4;obtain⟨lvl,hlvl⟩: ∃l,l=aN x ks:=⟨_,rfl⟩
 rw[←hlvl] at rx4 HLV HR0;have HLL:=Hd hlvl;clear hlvl hB9;refine(?_ : ∀(z0 z3 z4 z5 z8 z11 z12 z13 z14 z15 z16 z17 z18 z19 z20 z21 z22 z23 z26 z27 z28 z29 z30 z31 z32 z33 z34 z35 z36 z37 z38 z39 z40 z41 z42:Value),Code.wp _ _ _ { tmps:=List.toArray (z0:: .slice aa ks.length al:: .slice ba ks.length bl::z3::z4::z5:: .slice none 0 0:: .int .i64 0::z8:: .pointer (some ⟨B9,0,none⟩):: .slice none 0 0::z11::z12::z13::z14::z15::z16::z17::z18::z19::z20::z21::z22::z23:: .int .i64 (ks.length:Int):: .int .i64 0::z26::z27::z28::z29::z30::z31::z32::z33::z34::z35::z36::z37::z38::z39::z40::z41::z42::[]),defers:=[] } _) _ _ _ _ _ _ _ _ _ _ _ _ _ _ _ _ _ _ _ _ _ _ _ _ _ _ _ _ _ _ _ _ _ _ _;intro z0 z3 z4 z5 z8 z11 z12 z13 z14 z15 z16 z17 z18 z19 z20 z21 z22 z23 z26 z27 z28 z29 z30 z31 z32 z33 z34 z35 z36 z37 z38 z39 z40 z41 z42
 go_loopw [10,25] (fun vv i wr=>∃(k:Nat) (v:Value) (xs:List Value),k≤ks.length∧vv=v∧i= .int .i64 (k:Int)∧Hid (ah wr B9 53 (.slice x4.a x4.n x4.c) (.slice y5.a y5.n y5.c))∧Hid (RK wr x4 y5 lvl)∧Hid (RI wr ⟨aa,ks.length,al⟩ (ks.map fun k=>(k.1:Int)))∧Hid (RI wr ⟨ba,ks.length,bl⟩ (ks.map fun k=>(k.2:Int)))∧Hid (di wr (B9+1) 53 v k xs)∧Hid (eL RK wr xs ((ks.take k).map (given lvl)))∧Hid (Below w.heap.size w wr)) (fun _ mi _=>ks.length - (intOf mi).toNat)
 case atStart=>exact⟨0,_,[],Nat.zero_le _,rfl,rfl,Hd P8,Hd rx4,Hd ha,Hd hc,Hd (di.nil _ _ _),Hd (by rw[HR0.out];exact eL.nil _ _),Hd hB⟩
 case round=>
  clear P1 P8 rx4 hx ha hc hB hp9 hsz;obtain⟨k,v,xs,hk,rfl,rfl,HP9,Hhv,Hha,Hhc,Hhown,Hhg,HBB⟩:=hrel;have P9:=HP9.out;have hv:=Hhv.out;have ha:=Hha.out;have hc:=Hhc.out;have hown:=Hhown.out;have hg:=Hhg.out;have hB:=HBB.out;clear HP9 Hhv Hha Hhc Hhown Hhg HBB;by_cases hlt:k<ks.length
  ·skip
   obtain⟨b1,o1,ec,ic⟩:=hc.at hlt;obtain⟨b2,o2,ea,iw⟩:=ha.at hlt;subst ea ec;have hkk:=HKK.out _ (fc hlt);have HTS:=Hd (mc (given lvl) hlt);generalize ks.getD k (0,0)=kid at ic iw hkk HTS;obtain⟨wt,cp⟩:=kid;dsimp only at ic iw;have hwt:=hkk.2.1;have hcp:=hkk.2.2;dsimp only at hwt hcp;clear hkk;have hs9:=P9.lt;have hsz:=hB.size;have c0P9:=P9.c0;have c1P9:=P9.c1
   go_wp2_with fail
   clear c0P9 c1P9;have hb:Below wr.heap.size wr wr.drew:=(Below.refl _ _).drew;replace P9:=P9.below hb;replace hv:=hv.below hb;replace ha:=ha.below hb;replace hc:=hc.below hb;replace hown:=hown.below hb;replace hg:=hg.below hb;replace iw:=iw.below hb;replace ic:=ic.below hb;replace hB:=hB.tr hb;clear hb;refine Rd.regionT (fun X=>ah X (B9) 53 (.slice x4.a x4.n x4.c) (.slice y5.a y5.n y5.c)∧IC X b2 (o2+k) (wt:Int)∧IC X b1 (o1+k) (cp:Int)) [0,1,2,3,4,5,6,7,8,9,13] (.one 0 (.one 1 (.one 2 (.one 3 (.one 4 (.one 5 (.one 6 (.one 7 (.one 8 (.one 9 (.one 10 (.one 11 (.one 12 (.one 13 .done)))))))))))))) (fun ac W=>∃(vn:Value) (ys:List Value) (y28 y29 y30 y31 y32 y33 y34 y35 y36 y37 y38 y39 y40:Value),ac={ tmps:=List.toArray (z0:: .slice (some ⟨b2,o2,none⟩) ks.length al:: .slice (some ⟨b1,o1,none⟩) ks.length bl::z3::z4::z5:: .slice none 0 0:: .int .i64 0::z8:: .pointer (some ⟨B9,0,none⟩)::vn:: .int .i64 (k:Int)::z12::z13::z14::z15::z16::z17::z18::z19::z20::z21::z22::z23:: .int .i64 (ks.length:Int):: .int .i64 (k:Int):: .bool true:: .int .i64 (k:Int)::y28::y29::y30::y31::y32::y33::y34::y35::y36::y37::y38::y39::y40::u41::z42::[]),defers:=[] }∧ah W (B9) 53 (.slice x4.a x4.n x4.c) (.slice y5.a y5.n y5.c)∧RK W x4 y5 (lvl)∧RI W ⟨some ⟨b2,o2,none⟩,ks.length,al⟩ (ks.map fun k=>(k.1:Int))∧RI W ⟨some ⟨b1,o1,none⟩,ks.length,bl⟩ (ks.map fun k=>(k.2:Int))∧IC W b2 (o2+k) (wt:Int)∧IC W b1 (o1+k) (cp:Int)∧di W (B9+1) 53 vn (k+1) ys∧eL RK W ys ((ks.take k).map (given lvl)++[given lvl (wt,cp)])∧Below w.heap.size w W) Cx Cx Cx ⟨P9,iw,ic⟩ ?tree ?next
   case tree=>
    generalize wr.drew=w9 at P9 hv ha hc hown hg iw ic hB ⊢;refine Rd.tf (u10) ?_;refine Rd.tg (.agg #[.slice x4.a x4.n x4.c,.slice y5.a y5.n y5.c]) ?_ (y:=fun X hX=>A5);refine Rd.tf (.slice (some ⟨b2,o2,none⟩) ks.length al) ?_;refine Rd.tf (.int .i64 (k:Int)) ?_;refine Rd.tf (.pointer (some ⟨b2,o2+k,none⟩)) ?_;refine Rd.tg (.int .i64 (wt:Int)) ?_ (y:=fun X hX=>by have h0:=(hX.2.1).2;go_simp);refine Rd.tf (.slice (some ⟨b1,o1,none⟩) ks.length bl) ?_;refine Rd.tf (.int .i64 (k:Int)) ?_;refine Rd.tf (.pointer (some ⟨b1,o1+k,none⟩)) ?_;refine Rd.tg (.int .i64 (cp:Int)) ?_ (y:=fun X hX=>by have h0:=(hX.2.2).2;go_simp);refine Rd.tm fun K hK=>?_
    have H12:=Hd (iQ x4 y5 lvl wt cp w9 hv A3 A3 (Hd (HLV.out wt hwt)));go_simp;refine H12.mono ?_;rintro e w13 ⟨x10,y11,rfl,rx10,hb⟩;clear H12;replace P9:=P9.below hb;replace hv:=hv.below hb;replace ha:=ha.below hb;replace hc:=hc.below hb;replace hown:=hown.below hb;replace hg:=hg.below hb;replace iw:=iw.below hb;replace ic:=ic.below hb;replace hB:=hB.tr hb;clear hb;refine hK _ _ ⟨P9,iw,ic⟩ ?_;clear hK K;refine Rd.tm fun K hK=>?_
    go_simp;have P14:=ah.new w13 53 (.slice x10.a x10.n x10.c) (.slice y11.a y11.n y11.c);have nP9P14:=P9.lt;have hb:Below w13.heap.size w13 (w13.alloc (.cells #[.slice x10.a x10.n x10.c,.slice y11.a y11.n y11.c] 53)):=(Below.refl _ _).alloc lr _;replace P9:=P9.below hb;replace hv:=hv.below hb;replace ha:=ha.below hb;replace hc:=hc.below hb;replace hown:=hown.below hb;replace hg:=hg.below hb;replace iw:=iw.below hb;replace ic:=ic.below hb;replace rx10:=rx10.below hb;replace hB:=hB.tr hb;clear hb;generalize w13.alloc (.cells #[.slice x10.a x10.n x10.c,.slice y11.a y11.n y11.c] 53)=w16 at P9 hv ha hc hown hg iw ic rx10 P14 hB ⊢;generalize w13.heap.size=B15 at P14 nP9P14 ⊢;refine hK _ _ ⟨P9,iw,ic⟩ ?_;clear hK K;refine Rd.tm fun K hK=>?_
    have HNW:Hid (∀(j:Nat) (u:Value),[Value.slice x10.a x10.n x10.c,Value.slice y11.a y11.n y11.c][j]? =some u→w16.cell? ((⟨B15,0,none⟩:Addr).add j)=some u):=Hd (by
     intro j u hj
     match j,hj with
     | 0,hj=>rw[Addr.add_lit];exact P14.c0.trans hj
     | 1,hj=>rw[Addr.add_lit];exact P14.c1.trans hj
     | j+2,hj=>simp at hj)
    obtain⟨vn,w17,HRN,hon,hgr⟩:=iC (P:=Tryz.prog) 42 42 i0 Tryz.underlying42 hi0 hz0 hz1 hz2 hown ⟨B15,0,none⟩ 1 _ _ ⟨_,_,_,rfl⟩ ⟨_,_,_,rfl⟩ HNW.out A3 (by have:=P9.lt;omega);refine nc _ _ 42 42 rfl (u10) (.slice (some ⟨B15,0,none⟩) 1 1) vn w17 Cp Cp HRN ?_;clear HRN HNW;simp only[Act.put,sA,sB,sC];replace P9:=P9.grownS hown (Nat.lt_succ_self _) hgr;replace hv:=hv.grownS hown hgr;replace ha:=ha.grownS hown hgr;replace hc:=hc.grownS hown hgr;replace hg:=hg.grownS hown hgr;replace iw:=iw.grownS hown hgr;replace ic:=ic.grownS hown hgr;replace rx10:=rx10.grownS hown hgr;replace hB:=hB.grown hgr hB.size (fun j ej=>by have:=(hown.lt j ej).1;omega);replace hg:=hg.snoc rx10;clear hown hgr;have hown:=hon;clear hon;refine hK _ _ ⟨P9,iw,ic⟩ ?_;clear hK K;refine Rd.tf (vn) ?_;exact Rd.tr_end (⟨_,_,_,_,_,_,_,_,_,_,_,_,_,_,_,rfl,P9,hv,ha,hc,iw,ic,hown,hg,hB⟩)
   case next=>
    rintro a19 W18 ⟨vn,ys,y28,y29,y30,y31,y32,y33,y34,y35,y36,y37,y38,y39,y40,rfl,P9,hv,ha,hc,iw,ic,hown,hg,hB⟩;rw[←HTS.out] at hg
    go_wp2_with fail
    go_round
    case rel=>exact⟨k+1,vn,ys,A3,rfl,Cw,Hd P9,Hd hv,Hd ha,Hd hc,Hd hown,Hd hg,Hd hB⟩
    case measure=>simp[intOf];omega
  ·skip
   have ek:k=ks.length:=A3
   subst ek;rw[List.take_length] at hg;have ho2:di wr (B9+1) 53 u10 (ks.map (given lvl)).length xs:=by rw[List.length_map];exact hown
   have hfr: ∀j,u10.ownBlock=some j→w.heap.size≤j:=fun j e=>by
    have h1:=(hown.lt j e).1;omega
   have HH:=Hd (And.intro (dh.of_own ho2 hg) (And.intro hfr hB));clear hg hown ho2 hB P9 hv ha hc hfr
   go_wp2_with fail
   go_ret2
   exact⟨u10,rfl,by rw[←HLL.out];exact HH.1,HH.2.1,HH.2.2⟩
end Go.Proofs.YtohifgjeebhijaaGreatDoor
