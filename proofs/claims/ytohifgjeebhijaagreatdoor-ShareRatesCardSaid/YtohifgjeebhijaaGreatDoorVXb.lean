import Derived.Maps.RangeWalk
import Derived.OpenShut
import Derived.Test.YtohifgjeebhijaaGreatDoorVXa
import Derived.Test.YtohifgjeebhijaaGreatDoorVUb
namespace Go.Proofs.YtohifgjeebhijaaGreatDoor
open Go.RowKit Go.Maps
def I64 (x:Int):Prop:= -9223372036854775808≤x∧x≤9223372036854775807
theorem sF {x:Int} (h:I64 x):(Lit.int .i64 x).wf=true:=by
 have h': -9223372036854775808≤x∧x≤9223372036854775807:=h;have:=wrap64_wf x
 rwa [show wrap64 x=x by unfold wrap64;omega] at this
theorem d5 {x:Int} (h:(Lit.int .i64 x).wf=true):I64 x:=by
 have:=bounds_i64 h;unfold I64;omega
def ptE (v:Value):Option (DataW Unit×List MemPlace):=
 match v with
 | .pointer none=>some (.lit (.int .i64 (-1)),[])
 | .pointer (some ⟨b,0,none⟩)=>some (.lit (.int .i64 (b:Int)),[])
 | _=>none
theorem jO {v:Value} {z:DataW Unit×List MemPlace} (h:ptE v=some z):(v= .pointer none∧z=(.lit (.int .i64 (-1)),[]))∨∃b:Nat,v= .pointer (some ⟨b,0,none⟩)∧z=(.lit (.int .i64 (b:Int)),[]):=by
 unfold ptE at h;split at h
 ·exact .inl ⟨rfl,by cases h;rfl⟩
 ·exact .inr ⟨_,rfl,by cases h;rfl⟩
 ·cases h
theorem mO:Keyed Tryz.prog 3:=int_keyed Tryz.underlying3
theorem yA (w:World):(zeroValue 145).run Tryz.prog w= .ok (.pointer none) w:=Ct
def ptV:Option Nat→Value
 | some b=>.pointer (some ⟨b,0,none⟩)
 | none=>.pointer none
def Mp (w:World) (b n:Nat) (G:Int→Option Nat):Prop:=
 ∃D:DataW Unit,w.ownsMap Tryz.prog 3 ptE b n D∧IsMap D∧∀(x:Int) (zd:DataW Unit),D.atKey (.int .i64 x) zd=match G x with | some c=>.lit (.int .i64 (c:Int)) | none=>zd
section
variable {w w':World} {b n:Nat} {G:Int→Option Nat}
theorem Mp.isMap (h:Mp w b n G): ∃es clock,w.heap[b]? =some (.map es clock):=by
 obtain⟨D,⟨es,clock,hb,_⟩,_⟩:=h;exact⟨es,clock,hb⟩
theorem Mp.lt (h:Mp w b n G):b<w.heap.size:=by
 obtain⟨es,clock,hb⟩:=h.isMap;exact(Array.getElem?_eq_some_iff.1 hb).1
theorem Mp.same (h:Mp w b n G) (hs:w'.heap[b]? =w.heap[b]?):Mp w' b n G:=by
 obtain⟨D,⟨es,clock,hb,h1⟩,h2⟩:=h;exact⟨D,⟨es,clock,by rw[hs];exact hb,h1⟩,h2⟩
theorem Mp.made (w:World):Mp (w.alloc (.map #[] 0)) w.heap.size 0 (fun _=>none):=
 ⟨.map [],World.ownsMap_made w Tryz.prog 3 _,⟨[],rfl⟩,fun _ _=>rfl⟩
theorem Mp.look (h:Mp w b n G) {x:Int} (hx:I64 x):(Instr.lookup 104 (.map (some b)) (.int .i64 x) false).run Tryz.prog w= .ok (ptV (G x)) w:=by
 obtain⟨D,hown,_,hat⟩:=h;obtain⟨v,ps,hrun,hv⟩:=hown.lookup mO Tryz.underlying104 (yA w) (show ptE (.pointer none)=some (.lit (.int .i64 (-1)),[]) from rfl) (keyOf_int_mk Tryz.underlying3 (sF hx));rw[hat] at hv;rw[hrun];cases hG:G x with
 | none=>
  rw[hG] at hv;rcases jO hv with ⟨rfl,_⟩ | ⟨c,rfl,hc⟩
  ·rfl
  ·simp only[Prod.mk.injEq,DataW.lit.injEq,Lit.int.injEq] at hc;omega
 | some c'=>
  rw[hG] at hv;rcases jO hv with ⟨rfl,hc⟩ | ⟨c,rfl,hc⟩
  ·simp only[Prod.mk.injEq,DataW.lit.injEq,Lit.int.injEq] at hc;omega
  ·simp only[Prod.mk.injEq,DataW.lit.injEq,Lit.int.injEq] at hc;obtain rfl:c'=c:=A3
   rfl
theorem Bt {p:Prop} (h:p:=by intro h;injection h with _ h;exact e h):p:=h
theorem Mp.put (h:Mp w b n G) (hn:n<maxLen) {x:Int} (hx:I64 x) (c:Nat):
  ∃w',(Instr.mapUpdate 104 (.map (some b)) (.int .i64 x) (.pointer (some ⟨c,0,none⟩))).run Tryz.prog w= .ok () w'∧Mp w' b (n+1) (fun y=>if y=x then some c else G y)∧w.grownBy w' (some b):=by
 obtain⟨D,hown,hm,hat⟩:=h;obtain⟨w',hrun,hown',hg⟩:=hown.update mO Tryz.underlying104 hn (keyOf_int_mk Tryz.underlying3 (sF hx)) (show ptE (.pointer (some ⟨c,0,none⟩))=some (.lit (.int .i64 (c:Int)),[]) from rfl);refine⟨w',hrun,⟨_,hown',hm.put _ _,fun y zd=>?_⟩,hg⟩;by_cases e:y=x
 ·subst e;rw[atKey_put_same hm (show WideAt.IsKeyLit (.int .i64 _) from trivial)];simp
 ·rw[atKey_put_other Bt,hat];simp[e]
theorem Mp.del (h:Mp w b n G) {x:Int} (hx:I64 x) (ty:TypeId):
  ∃w',(Builtin.delete_ #[104,3] ty #[.map (some b),.int .i64 x]).run Tryz.prog w= .ok (.tuple #[]) w'∧Mp w' b n (fun y=>if y=x then none else G y)∧w.grownBy w' (some b):=by
 obtain⟨D,hown,hm,hat⟩:=h;obtain⟨w',hrun,hown',hg⟩:=hown.drop mO Tryz.underlying104 (keyOf_int_mk Tryz.underlying3 (sF hx)) ty;refine⟨w',hrun,⟨_,hown',hm.del _,fun y zd=>?_⟩,hg.grown⟩;by_cases e:y=x
 ·subst e;rw[atKey_del_same];simp
 ·rw[atKey_del_other Bt,hat];simp[e]
end
def Rg (w:World) (b r n:Nat) (G:Int→Option Nat) (vs:List Int) (cnt:Nat):Prop:=
 ∃(D:DataW Unit) (left:Lit→Bool),w.ranges Tryz.prog 3 ptE b r n D left cnt∧IsMap D∧(∀(x:Int) (zd:DataW Unit),D.atKey (.int .i64 x) zd=match G x with | some c=>.lit (.int .i64 (c:Int)) | none=>zd)∧vs.Nodup∧∀x,x∈vs↔(G x).isSome=true∧left (.int .i64 x)=false
section
variable {w w':World} {b r n cnt:Nat} {G:Int→Option Nat} {vs:List Int}
theorem Rg.mp (h:Rg w b r n G vs cnt):Mp w b n G:=by
 obtain⟨D,left,h1,h2,h3,_⟩:=h;exact⟨D,h1.owns,h2,h3⟩
theorem Rg.lt (h:Rg w b r n G vs cnt):r<w.heap.size:=by
 obtain⟨D,left,h1,_⟩:=h;exact h1.lt
theorem Rg.left (h:Rg w b r n G vs cnt):w.rangeLeft b r=cnt:=by
 obtain⟨D,left,h1,_⟩:=h;exact h1.left_eq
theorem Rg.grownX {B:Nat} {v:Value} {l:List Int} (h:Rg w b r n G vs cnt) (hro:aK w B v l) (hg:w.grownBy w' v.ownBlock):Rg w' b r n G vs cnt:=by
 obtain⟨D,left,h1,h2⟩:=h;have hne: ∀j o,w.heap[j]? =some o→(∀c t z,o≠ .cells c t z)→some j≠v.ownBlock:=by
  intro j o hj ho e;rcases hro.2 with ⟨rfl,_⟩ | ⟨g,cap,cur,rfl,hbg,hg,_⟩
  ·cases e
  ·have:j=g:=by simpa[Value.ownBlock] using e
   subst this;rw[hg] at hj;cases hj;exact ho _ _ _ rfl
 refine⟨D,left,h1.kept hg ?_ ?_,h2⟩
 ·obtain⟨es,clock,since,seen,c0,e1,_⟩:=h1;exact hne _ _ e1 (fun c t z e=>by cases e)
 ·obtain⟨es,clock,since,seen,c0,_,_,_,_,e3,_⟩:=h1;exact hne _ _ e3 (fun c t z e=>by cases e)
theorem AK {p:Prop} (h:p:=by obtain⟨D,left,h1,h2⟩:=h;exact⟨D,left,h1.kept (row:=none) ⟨hb.os,hb.tape,hb.output,hb.size,fun i hi _=>hb.block i hi⟩ (by simp) (by simp),h2⟩):p:=h
theorem Rg.below (h:Rg w b r n G vs cnt) (hb:Below w.heap.size w w'):Rg w' b r n G vs cnt:=by
 exact AK
end
section
variable {ops:Array Oper} {rest:List Oper} {o:Oper} {a:Act} {w:World} {Q:Exit→Act→World→Prop}
theorem gH (hg:o.guard=none) (m:Operand) (hop:o.op=Op.range 104 m) {b n:Nat} {G:Int→Option Nat} (hm:a.eval m= .map (some b)) (h:Mp w b n G)
  (hK: ∀w' cnt,Rg w' b w.heap.size n G [] cnt→Below w.heap.size w w'→wpList Tryz.prog ops Q rest (a.put o.dst (.pointer (some ⟨w.heap.size,0,none⟩))) w'):wpList Tryz.prog ops Q (o::rest) a w:=by
 obtain⟨D,hown,hi,hat⟩:=h;refine wpList_range_own w hg m 104 hop 3 145 mO Tryz.underlying104 ptE b n D hm hown fun w' hr hg hs=>?_
 refine hK w' _ ⟨D,_,hr,hi,hat,List.nodup_nil,fun x=>?_⟩ ⟨hg.os,hg.tape,hg.output,hg.size,fun i hi=>hg.block i hi B4⟩;cases hG:G x with
 | none=>simp
 | some c=>
  have:Maps.has D (.int .i64 x)=true:=has_true_of_atKey (y:=.lit (.int .i64 (c:Int))) fun z=>by rw[hat,hG]
  simp[this]
theorem ie (hg:o.guard=none) (it:Operand) (hop:o.op=Op.next it false) {b r n cnt:Nat} {G:Int→Option Nat} {vs:List Int} (hit:a.eval it= .pointer (some ⟨r,0,none⟩)) (h:Rg w b r n G vs cnt)
  (hDone:(∀x,x∈vs↔(G x).isSome=true)→wpList Tryz.prog ops Q rest (a.put o.dst (.tuple #[.bool false])) w)
  (hMore: ∀(x:Int) (c:Nat) (w':World) (cnt':Nat),I64 x→G x=some c→x∉vs→Rg w' b r n G (x::vs) cnt'→cnt'<cnt→w.grownBy w' (some r)→(Instr.entry (.pointer (some ⟨r,0,none⟩))).run Tryz.prog w'= .ok (.tuple #[.int .i64 x,.pointer (some ⟨c,0,none⟩)]) w'→
   wpList Tryz.prog ops Q rest (a.put o.dst (.tuple #[.bool true,.int .i64 x,.pointer (some ⟨c,0,none⟩)])) w'):wpList Tryz.prog ops Q (o::rest) a w:=by
 obtain⟨D,left,hr,hi,hat,hnd,hvs⟩:=h;refine wpList_next_ranges w hg it hop 3 mO ptE (Value.int .i64) Value.pointer (fun key kl hkey=>by obtain⟨x,rfl,_⟩:=Maps.keyOf_int_inv Tryz.underlying3 hkey;exact⟨x,rfl⟩)
  (fun v y hv=>by rcases jO hv with ⟨rfl,_⟩ | ⟨c,rfl,_⟩<;>exact⟨_,rfl⟩) b r n D left cnt hit hr (fun h0 hl=>hDone fun x=>?_) (fun x c kl y w' cnt' hkey hlk hv hat1 hrg hlt hgr hsz hen=>?_)
 ·rw[hvs,hl];simp
 ·obtain⟨x',ex,rfl,hwx⟩:=Maps.keyOf_int_inv Tryz.underlying3 hkey;cases ex;have hnot:x∉vs:=fun hx=>by rw[((hvs x).1 hx).2] at hlk;cases hlk
  cases hG:G x with
  | none=>
   have h1:=hat1 (.lit (.int .i64 (-5)));have h2:=hat1 (.lit (.int .i64 (-6)));rw[hat,hG] at h1 h2;simp only at h1 h2;rw[←h2] at h1;simp at h1
  | some b'=>
   have h1:=hat1 (.lit (.int .i64 0));rw[hat,hG] at h1;simp only at h1;rcases jO hv with ⟨_,hc⟩ | ⟨c',e,hc⟩
   ·rw[hc] at h1;exfalso;simp only[DataW.lit.injEq,Lit.int.injEq] at h1;omega
   ·rw[hc] at h1;simp only[DataW.lit.injEq,Lit.int.injEq] at h1;obtain rfl:b'=c':=A3
    cases e;refine hMore x b' w' cnt' (d5 hwx) hG hnot ⟨D,_,hrg,hi,hat,List.nodup_cons.2 ⟨hnot,hnd⟩,fun z=>?_⟩ hlt hgr hen;rw[List.mem_cons,hvs z];by_cases e:z=x
    ·subst e;simp[hG,Lit.sameKey]
    ·have:(Lit.int .i64 z).sameKey (.int .i64 x)=false:=Maps.sameKey_ne Bt;simp[e,this]
end
structure eQ (w w':World):Prop where
 os:w'.os=w.os
 tape:w'.tape=w.tape
 output:w'.output=w.output
 heap:w'.heap=w.heap
section
variable {w w' w'':World}
theorem eQ.refl (w:World):eQ w w:=⟨rfl,rfl,rfl,rfl⟩
theorem eQ.drew (w:World):eQ w w.drew:=⟨rfl,rfl,rfl,rfl⟩
theorem eQ.below (h:eQ w w') (B:Nat):Below B w w':=⟨h.os,h.tape,h.output,by rw[h.heap];exact Nat.le_refl _,fun k _=>by rw[h.heap]⟩
theorem Below.stay (h:Below w.heap.size w w') (h':Below w'.heap.size w' w''):Below w.heap.size w w'':=h.tr h'
theorem Below.allocS (h:Below w.heap.size w w') (o:Obj):Below w.heap.size w (w'.alloc o):=h.alloc h.size o
theorem Below.drewS (h:Below w.heap.size w w'):Below w.heap.size w w'.drew:=⟨h.os,h.tape,h.output,h.size,h.block⟩
theorem Below.grownS {r:Nat} (h:Below w.heap.size w w') (hg:w'.grownBy w'' (some r)) (hr:w.heap.size≤r):Below w.heap.size w w'':=h.grown hg h.size fun _ e=>by cases e;exact hr
end
structure Wr (ts:List Nat) (B:Nat) (w w':World):Prop where
 os:w'.os=w.os
 tape:w'.tape=w.tape
 output:w'.output=w.output
 size:w.heap.size≤w'.heap.size
 low: ∀k,k<B→k<w.heap.size→w'.heap[k]? =w.heap[k]?
 typ: ∀(k:Nat) (c:Array Value) (t:Nat) (z:Nat×Nat),w.heap[k]? =some (Obj.cells c t z)→t∉ts→w'.heap[k]? =w.heap[k]?
section
variable {ts:List Nat} {B:Nat} {w w' w'':World}
theorem Wr.of_below (h:Below w.heap.size w w'):Wr ts B w w':=⟨h.os,h.tape,h.output,h.size,fun k _ hk=>h.block k hk,fun k _ _ _ hc _=>h.block k (Array.getElem?_eq_some_iff.1 hc).1⟩
theorem Wr.refl (w:World):Wr ts B w w:=Wr.of_below (Below.refl _ w)
theorem Wr.trans (h:Wr ts B w w') (h':Wr ts B w' w''):Wr ts B w w'':=
 ⟨h'.os.trans h.os,h'.tape.trans h.tape,h'.output.trans h.output,Nat.le_trans h.size h'.size,fun k hk hs=>(h'.low k hk (Nat.lt_of_lt_of_le hs h.size)).trans (h.low k hk hs),fun k c t z hc ht=>by
  have e:=h.typ k c t z hc ht;exact(h'.typ k c t z (e.trans hc) ht).trans e⟩
theorem Wr.wide {us:List Nat} (h:Wr ts B w w') (hs: ∀t,t∈ts→t∈us):Wr us B w w':=⟨h.os,h.tape,h.output,h.size,h.low,fun k c t z hc ht=>h.typ k c t z hc (fun h1=>ht (hs _ h1))⟩
theorem Wr.setCell {b i t:Nat} {c:Array Value} {z:Nat×Nat} (hc:w.heap[b]? =some (.cells c t z)) (ht:t∈ts) (hb:B≤b) (v:Value):Wr ts B w (w.setCell ⟨b,i,none⟩ v):=by
 have e:=aX.setCell w b i v;refine⟨e.os,e.tape,e.output,by rw[e.size];exact Nat.le_refl _,fun k hk _=>e.block k A3,fun k c' t' z' hc' ht'=>e.block k ?_⟩;rintro rfl;rw[hc] at hc';injection hc' with h1;injection h1 with _ h2 _;subst h2;exact ht' ht
theorem Wr.below (h:Wr ts B w w') (hB:B≤w.heap.size):Below B w w':=⟨h.os,h.tape,h.output,h.size,fun k hk=>h.low k hk A3⟩
end
def kF (g:Gr):Array Value:= #[.int .i64 g.pa,.int .i64 g.wt,.int .i64 g.me,.int .i64 g.aw]
def IsX (w:World) (b:Nat) (g:Gr):Prop:=w.heap[b]? =some (.cells (kF g) 118 (0,0))
section
variable {w w':World} {b:Nat} {g:Gr}
theorem IsX.lt (h:IsX w b g):b<w.heap.size:=(Array.getElem?_eq_some_iff.1 h).1
theorem IsX.c0 (h:IsX w b g):w.cell? ⟨b,0,none⟩=some (.int .i64 g.pa):=by rw[cell_of_row w b 0 _ 118 (0,0) h];rfl
theorem IsX.c1 (h:IsX w b g):w.cell? ⟨b,1,none⟩=some (.int .i64 g.wt):=by rw[cell_of_row w b 1 _ 118 (0,0) h];rfl
theorem IsX.c2 (h:IsX w b g):w.cell? ⟨b,2,none⟩=some (.int .i64 g.me):=by rw[cell_of_row w b 2 _ 118 (0,0) h];rfl
theorem IsX.c3 (h:IsX w b g):w.cell? ⟨b,3,none⟩=some (.int .i64 g.aw):=by rw[cell_of_row w b 3 _ 118 (0,0) h];rfl
theorem IsX.fz (h:IsX w b g) (i:Nat):w.frozen? ⟨b,i,none⟩=false:=frozen_of_row w b i _ 118 h
theorem IsX.set0 (h:IsX w b g) (x:Int):IsX (w.setCell ⟨b,0,none⟩ (.int .i64 x)) b { g with pa:=x }:=by unfold IsX;rw[heap_setCell_same w b 0 _ 118 _ h];rfl
theorem IsX.set1 (h:IsX w b g) (x:Int):IsX (w.setCell ⟨b,1,none⟩ (.int .i64 x)) b { g with wt:=x }:=by unfold IsX;rw[heap_setCell_same w b 1 _ 118 _ h];rfl
theorem IsX.set2 (h:IsX w b g) (x:Int):IsX (w.setCell ⟨b,2,none⟩ (.int .i64 x)) b { g with me:=x }:=by unfold IsX;rw[heap_setCell_same w b 2 _ 118 _ h];rfl
theorem IsX.set3 (h:IsX w b g) (x:Int):IsX (w.setCell ⟨b,3,none⟩ (.int .i64 x)) b { g with aw:=x }:=by unfold IsX;rw[heap_setCell_same w b 3 _ 118 _ h];rfl
end
def gOf (L:List Gr) (bl:Int→Nat) (x:Int):Option Nat:=if has L x=true then some (bl x) else none
theorem rI {L:List Gr} {bl:Int→Nat} {x:Int} (h:has L x=true):gOf L bl x=some (bl x):=if_pos h
theorem uv {L:List Gr} {bl:Int→Nat} {x:Int} (h:has L x=false):gOf L bl x=none:=if_neg (by rw[h];decide)
theorem xS {L:List Gr} {bl:Int→Nat} {x:Int} (h:has L x=true):ptV (gOf L bl x)= .pointer (some ⟨bl x,0,none⟩):=by rw[rI h];rfl
theorem yT {L:List Gr} {bl:Int→Nat} {x:Int} (h:has L x=false):ptV (gOf L bl x)= .pointer none:=by rw[uv h];rfl
structure Fo (w:World) (fp tp tg mp:Nat) (bl:Int→Nat) (L:List Gr) (l:List Int) (m:Int):Prop where
 ptr:w.heap[fp]? =some (.cells #[.pointer (some ⟨tp,0,none⟩),.map (some mp)] 106 (0,0))
 tab:aU w tp tg l m
 mpp: ∃n:Nat,(n:Int)≤m∧Mp w mp n (gOf L bl)
 grp: ∀x,has L x=true→IsX w (bl x) (gr L x)
 inj: ∀x y,has L x=true→has L y=true→bl x=bl y→x=y
section
variable {w w':World} {fp tp tg mp:Nat} {bl:Int→Nat} {L:List Gr} {l:List Int} {m:Int}
theorem Fo.ltf (h:Fo w fp tp tg mp bl L l m):fp<w.heap.size:=(Array.getElem?_eq_some_iff.1 h.ptr).1
theorem Fo.c0 (h:Fo w fp tp tg mp bl L l m):w.cell? ⟨fp,0,none⟩=some (.pointer (some ⟨tp,0,none⟩)):=by rw[cell_of_row w fp 0 _ 106 (0,0) h.ptr];rfl
theorem Fo.c1 (h:Fo w fp tp tg mp bl L l m):w.cell? ⟨fp,1,none⟩=some (.map (some mp)):=by rw[cell_of_row w fp 1 _ 106 (0,0) h.ptr];rfl
theorem Fo.below (h:Fo w fp tp tg mp bl L l m) (hb:Below w.heap.size w w'):Fo w' fp tp tg mp bl L l m where
 ptr:=(hb.block fp h.ltf).trans h.ptr
 tab:=h.tab.belowS hb
 mpp:=by obtain⟨n,hn,hm⟩:=h.mpp;exact⟨n,hn,hm.same (hb.block mp hm.lt)⟩
 grp:=fun x hx=>(hb.block _ (h.grp x hx).lt).trans (h.grp x hx)
 inj:=h.inj
theorem Fo.look (h:Fo w fp tp tg mp bl L l m) {x:Int} (hx:I64 x):(Instr.lookup 104 (.map (some mp)) (.int .i64 x) false).run Tryz.prog w= .ok (ptV (gOf L bl x)) w:=by
 obtain⟨n,_,hm⟩:=h.mpp;exact hm.look hx
theorem Fo.lookY (h:Fo w fp tp tg mp bl L l m) {x:Int} (hx:I64 x) (hh:has L x=true):(Instr.lookup 104 (.map (some mp)) (.int .i64 x) false).run Tryz.prog w= .ok (.pointer (some ⟨bl x,0,none⟩)) w:=by
 rw[h.look hx,rI hh];rfl
theorem Fo.lookN (h:Fo w fp tp tg mp bl L l m) {x:Int} (hx:I64 x) (hh:has L x=false):(Instr.lookup 104 (.map (some mp)) (.int .i64 x) false).run Tryz.prog w= .ok (.pointer none) w:=by
 rw[h.look hx,uv hh];rfl
theorem AQ {p:Prop} (h:p:=by rw[e,h2] at h1;injection h1 with h1;injection h1 with _ h1 _;cases h1):p:=h
theorem Fo.put (h:Fo w fp tp tg mp bl L l m) {x:Int} (hx:has L x=true) {g:Gr} (hg:g.id=x) {i:Nat} {v:Value} (hs:IsX (w.setCell ⟨bl x,i,none⟩ v) (bl x) g):Fo (w.setCell ⟨bl x,i,none⟩ v) fp tp tg mp bl (dT L x g) l m where
 ptr:=by
  rw[heap_setCell_other w ⟨bl x,i,none⟩ fp _ (fun e=>?_)]
  ·exact h.ptr
  ·have h1:=h.ptr;have h2:=h.grp x hx;unfold IsX at h2;change fp=bl x at e;exact AQ
 tab:=by
  have h2:=h.grp x hx;unfold IsX at h2;refine h.tab.same (heap_setCell_other w ⟨bl x,i,none⟩ tp _ (fun e=>?_)) (heap_setCell_other w ⟨bl x,i,none⟩ tg _ (fun e=>?_))
  ·have h1:=h.tab.ptr;change tp=bl x at e;exact AQ
  ·have h1:=h.tab.row;change tg=bl x at e;exact AQ
 mpp:=by
  obtain⟨n,hn,hm⟩:=h.mpp;have h2:=h.grp x hx;unfold IsX at h2;refine⟨n,hn,?_⟩;have e:gOf (dT L x g) bl=gOf L bl:=by funext y;unfold gOf;rw[eS hg]
  rw[e];refine hm.same (heap_setCell_other w ⟨bl x,i,none⟩ mp _ (fun e=>?_));obtain⟨es,clock,h1⟩:=hm.isMap;change mp=bl x at e;rw[e,h2] at h1;cases h1
 grp:=fun y hy=>by
  rw[eS hg] at hy;rw[mU hg hx];split
  ·rename_i e;subst e;exact hs
  ·rename_i e;have:=h.grp y hy;unfold IsX at this ⊢;rw[heap_setCell_other w ⟨bl x,i,none⟩ (bl y) _ (fun e2=>e (h.inj y x hy hx e2))];exact this
 inj:=fun y z hy hz e=>by
  rw[eS hg] at hy hz;exact h.inj y z hy hz e
end
structure IsF (w:World) (B fp:Nat) (L:List Gr) (l:List Int) (m k:Int):Prop where
 fo: ∃tp tg mp bl,Fo w fp tp tg mp bl L l m∧B≤tp∧B≤tg∧B≤mp∧∀x,has L x=true→B≤bl x
 tok:cK l m
 ids:hU l=bK L
 ok:Ok L m k
section
variable {w w':World} {B fp:Nat} {L:List Gr} {l:List Int} {m k:Int}
theorem IsF.below (h:IsF w B fp L l m k) (hb:Below w.heap.size w w'):IsF w' B fp L l m k:=by
 obtain⟨tp,tg,mp,bl,h1,h2⟩:=h.fo;exact⟨⟨tp,tg,mp,bl,h1.below hb,h2⟩,h.tok,h.ids,h.ok⟩
theorem IsF.ltf (h:IsF w B fp L l m k):fp<w.heap.size:=by
 obtain⟨tp,tg,mp,bl,h1,_⟩:=h.fo;exact h1.ltf
end
def idE (v:Value):Option (DataW Value×List MemPlace):=some (.held v,[])
def Mv (w:World) (b n:Nat) (G:Int→Option Value):Prop:=
 ∃D:DataW Value,w.ownsMap Tryz.prog 3 idE b n D∧IsMap D∧∀(x:Int) (zd:DataW Value),D.atKey (.int .i64 x) zd=match G x with | some v=>.held v | none=>zd
section
variable {w w':World} {b n:Nat} {G:Int→Option Value}
theorem Mv.isMap (h:Mv w b n G): ∃es clock,w.heap[b]? =some (.map es clock):=by
 obtain⟨D,⟨es,clock,hb,_⟩,_⟩:=h;exact⟨es,clock,hb⟩
theorem Mv.lt (h:Mv w b n G):b<w.heap.size:=by
 obtain⟨es,clock,hb⟩:=h.isMap;exact(Array.getElem?_eq_some_iff.1 hb).1
theorem Mv.same (h:Mv w b n G) (hs:w'.heap[b]? =w.heap[b]?):Mv w' b n G:=by
 obtain⟨D,⟨es,clock,hb,h1⟩,h2⟩:=h;exact⟨D,⟨es,clock,by rw[hs];exact hb,h1⟩,h2⟩
theorem Mv.below (h:Mv w b n G) (hb:Below w.heap.size w w'):Mv w' b n G:=h.same (hb.block b h.lt)
theorem Mv.more (h:Mv w b n G) {k:Nat} (hk:n≤k):Mv w b k G:=by
 obtain⟨D,h1,h2⟩:=h;exact⟨D,h1.mono hk,h2⟩
theorem Mv.made (w:World):Mv (w.alloc (.map #[] 0)) w.heap.size 0 (fun _=>none):=
 ⟨.map [],World.ownsMap_made w Tryz.prog 3 _,⟨[],rfl⟩,fun _ _=>rfl⟩
theorem Mv.look (h:Mv w b n G) {t e:TypeId} (ht:Tryz.prog.underlying t=some (.map 3 e)) {z:Value} (hz:(zeroValue e).run Tryz.prog w= .ok z w) {x:Int} (hx:I64 x):(Instr.lookup t (.map (some b)) (.int .i64 x) false).run Tryz.prog w= .ok ((G x).getD z) w:=by
 obtain⟨D,hown,_,hat⟩:=h;obtain⟨v,ps,hrun,hv⟩:=hown.lookup mO ht hz (show idE z=some (.held z,[]) from rfl) (keyOf_int_mk Tryz.underlying3 (sF hx));rw[hat] at hv;rw[hrun];unfold idE at hv;simp only[Option.some.injEq,Prod.mk.injEq] at hv;have hv:=hv.1;cases hG:G x with
 | none=>rw[hG] at hv;simp only[DataW.held.injEq] at hv;rw[hv];rfl
 | some c=>rw[hG] at hv;simp only[DataW.held.injEq] at hv;rw[hv];rfl
theorem Mv.put (h:Mv w b n G) (hn:n<maxLen) {t e:TypeId} (ht:Tryz.prog.underlying t=some (.map 3 e)) {x:Int} (hx:I64 x) (v:Value):
  ∃w',(Instr.mapUpdate t (.map (some b)) (.int .i64 x) v).run Tryz.prog w= .ok () w'∧Mv w' b (n+1) (fun y=>if y=x then some v else G y)∧w.grownBy w' (some b):=by
 obtain⟨D,hown,hm,hat⟩:=h;obtain⟨w',hrun,hown',hg⟩:=hown.update mO ht hn (keyOf_int_mk Tryz.underlying3 (sF hx)) (show idE v=some (.held v,[]) from rfl);refine⟨w',hrun,⟨_,hown',hm.put _ _,fun y zd=>?_⟩,hg⟩;by_cases e:y=x
 ·subst e;rw[atKey_put_same hm (show WideAt.IsKeyLit (.int .i64 _) from trivial)];simp
 ·rw[atKey_put_other Bt,hat];simp[e]
end
def Rv (w:World) (b r n:Nat) (G:Int→Option Value) (vs:List Int) (cnt:Nat):Prop:=
 ∃(D:DataW Value) (left:Lit→Bool),w.ranges Tryz.prog 3 idE b r n D left cnt∧IsMap D∧(∀(x:Int) (zd:DataW Value),D.atKey (.int .i64 x) zd=match G x with | some c=>.held c | none=>zd)∧vs.Nodup∧∀x,x∈vs↔(G x).isSome=true∧left (.int .i64 x)=false
section
variable {w w':World} {b r n cnt:Nat} {G:Int→Option Value} {vs:List Int}
theorem Rv.lt (h:Rv w b r n G vs cnt):r<w.heap.size:=by
 obtain⟨D,left,h1,_⟩:=h;exact h1.lt
theorem Rv.left (h:Rv w b r n G vs cnt):w.rangeLeft b r=cnt:=by
 obtain⟨D,left,h1,_⟩:=h;exact h1.left_eq
theorem Rv.below (h:Rv w b r n G vs cnt) (hb:Below w.heap.size w w'):Rv w' b r n G vs cnt:=by
 exact AK
end
section
variable {ops:Array Oper} {rest:List Oper} {o:Oper} {a:Act} {w:World} {Q:Exit→Act→World→Prop}
end
end Go.Proofs.YtohifgjeebhijaaGreatDoor
