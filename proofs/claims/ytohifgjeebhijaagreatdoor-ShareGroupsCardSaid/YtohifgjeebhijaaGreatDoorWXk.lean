/-
  What this claim needs; no condition of its own. Told short by a script from longer texts.
-/
import Derived.Laws.ResultCell
import Derived.Deep.MidRow
import Derived.Test.YtohifgjeebhijaaGreatDoorWXf
import Derived.Laws.OwnMore
import Derived.Test.YtohifgjeebhijaaGreatDoorWAl
namespace Go.Proofs.YtohifgjeebhijaaGreatDoor
open Go.RowKit Go.Maps
def Blk (w:World) (b t:Nat) (cs:Array Value):Prop:=w.heap[b]? =some (.cells cs t (0,0))
section
variable {w w':World} {b t:Nat} {cs:Array Value}
theorem Blk.new (w:World) (t:Nat) (cs:Array Value):Blk (w.alloc (.cells cs t)) w.heap.size t cs:=heap_alloc_new w _
theorem Blk.lt (h:Blk w b t cs):b<w.heap.size:=(Array.getElem?_eq_some_iff.1 h).1
theorem Blk.below (h:Blk w b t cs) (hb:Below w.heap.size w w'):Blk w' b t cs:=(hb.block b h.lt).trans h
theorem Blk.alloc (h:Blk w b t cs) (o:Obj):Blk (w.alloc o) b t cs:=(heap_alloc_old w o h.lt).trans h
theorem Blk.turn {d:Nat} (h:Blk w b t cs) (ht:Turn d w w') (hne:b≠d):Blk w' b t cs:=(ht.block b hne).trans h
theorem Blk.wr {ts:List Nat} {B:Nat} (h:Blk w b t cs) (hw:Wr ts B w w') (ht:t∉ts):Blk w' b t cs:=(hw.typ b cs t (0,0) h ht).trans h
theorem Blk.at (h:Blk w b t cs) (i:Nat):w.cell? ⟨b,i,none⟩=cs[i]? :=cell_of_row w b i _ t (0,0) h
theorem Blk.fz (h:Blk w b t cs) (i:Nat):w.frozen? ⟨b,i,none⟩=false:=frozen_of_row w b i _ t h
theorem Blk.drew (h:Blk w b t cs):Blk w.drew b t cs:=h
theorem Blk.set (h:Blk w b t cs) (i:Nat) (v:Value):Blk (w.setCell ⟨b,i,none⟩ v) b t (cs.setIfInBounds i v):=heap_setCell_same w b i _ t _ h
end
def cellsF (r m:Int) (v:Value):Array Value:= #[.int .i64 r,.int .i64 m,v]
theorem Tryz.info29:(Tryz.prog.info? 29).map (·.size)=some 3:=by kernel_rfl
theorem run_alloc30 (w:World):(Instr.alloc 29 true (.tuple #[])).run Tryz.prog w= .ok (.pointer (some ⟨w.heap.size,0,none⟩)) (w.alloc (.cells #[.int .i64 0,.int .i64 0,.slice none 0 0] 29)):=by kernel_rfl
theorem cF0 {w:World} {b:Nat} {r m:Int} {v:Value} (h:Blk w b 29 (cellsF r m v)):w.cell? ⟨b,0,none⟩=some (.int .i64 r):=by rw[h.at];rfl
theorem cF1 {w:World} {b:Nat} {r m:Int} {v:Value} (h:Blk w b 29 (cellsF r m v)):w.cell? ⟨b,1,none⟩=some (.int .i64 m):=by rw[h.at];rfl
theorem cF2 {w:World} {b:Nat} {r m:Int} {v:Value} (h:Blk w b 29 (cellsF r m v)):w.cell? ⟨b,2,none⟩=some (v):=by rw[h.at];rfl
def cellsE (g:Gr):Array Value:= #[.int .i64 g.id,.int .i64 g.pa,.int .i64 g.wt,.int .i64 g.me,.int .i64 g.aw]
theorem Tryz.info56:(Tryz.prog.info? 56).map (·.size)=some 5:=by kernel_rfl
theorem run_alloc70 (w:World):(Instr.alloc 56 true (.tuple #[])).run Tryz.prog w= .ok (.pointer (some ⟨w.heap.size,0,none⟩)) (w.alloc (.cells #[.int .i64 0,.int .i64 0,.int .i64 0,.int .i64 0,.int .i64 0] 56)):=by kernel_rfl
theorem cE1 {w:World} {b:Nat} {g:Gr} (h:Blk w b 56 (cellsE g)):w.cell? ⟨b,1,none⟩=some (.int .i64 g.pa):=by rw[h.at];rfl
theorem cE2 {w:World} {b:Nat} {g:Gr} (h:Blk w b 56 (cellsE g)):w.cell? ⟨b,2,none⟩=some (.int .i64 g.wt):=by rw[h.at];rfl
theorem cE3 {w:World} {b:Nat} {g:Gr} (h:Blk w b 56 (cellsE g)):w.cell? ⟨b,3,none⟩=some (.int .i64 g.me):=by rw[h.at];rfl
theorem cE4 {w:World} {b:Nat} {g:Gr} (h:Blk w b 56 (cellsE g)):w.cell? ⟨b,4,none⟩=some (.int .i64 g.aw):=by rw[h.at];rfl
def cellsA (q:Nat) (g n:Int):Array Value:= #[.int .u8 (q:Int),.int .i64 g,.int .i64 n]
theorem Tryz.info70:(Tryz.prog.info? 70).map (·.size)=some 3:=by kernel_rfl
def cellsU (i q wt d r me aw:Int):Array Value:= #[.int .i64 i,.int .i64 q,.int .i64 wt,.int .i64 d,.int .i64 r,.int .i64 me,.int .i64 aw]
theorem Tryz.info158:(Tryz.prog.info? 158).map (·.size)=some 7:=by kernel_rfl
theorem run_alloc44 (w:World):(Instr.alloc 158 true (.tuple #[])).run Tryz.prog w= .ok (.pointer (some ⟨w.heap.size,0,none⟩)) (w.alloc (.cells #[.int .i64 0,.int .i64 0,.int .i64 0,.int .i64 0,.int .i64 0,.int .i64 0,.int .i64 0] 158)):=by kernel_rfl
theorem cU4 {w:World} {b:Nat} {i q wt d r me aw:Int} (h:Blk w b 158 (cellsU i q wt d r me aw)):w.cell? ⟨b,4,none⟩=some (.int .i64 r):=by rw[h.at];rfl
section
variable {ops:Array Oper} {rest:List Oper} {o:Oper} {a:Act} {w:World} {Q:Exit→Act→World→Prop} {K:Act→World→Prop}
theorem wp_alloc30 (ho:o.op= .alloc 29) (h:K (a.put o.dst (.pointer (some ⟨w.heap.size,0,none⟩))) (w.alloc (.cells #[.int .i64 0,.int .i64 0,.slice none 0 0] 29))):o.wp Tryz.prog a w K Q:=by
 unfold Oper.wp execOp
 rw[ho]
 simp only[run_alloc30,Sem.run_bind,Sem.run_pure,Result.andThen_ok]
 exact h
theorem wpList_alloc30 (hg:o.guard=none) (ho:o.op= .alloc 29) (h:wpList Tryz.prog ops Q rest (a.put o.dst (.pointer (some ⟨w.heap.size,0,none⟩))) (w.alloc (.cells #[.int .i64 0,.int .i64 0,.slice none 0 0] 29))):wpList Tryz.prog ops Q (o::rest) a w:=
 wpList_plain hg fun _ hK=>wp_alloc30 ho (hK _ _ h)
theorem wpList_load30 (hg:o.guard=none) (x:Operand) (ho:o.op= .load 29 x) (b:Nat) (r m:Int) (v:Value) (hx:a.eval x= .pointer (some ⟨b,0,none⟩)) (hw:Blk w b 29 (cellsF r m v)) (h:wpList Tryz.prog ops Q rest (a.put o.dst (.agg (cellsF r m v))) w):wpList Tryz.prog ops Q (o::rest) a w:=
 wpList_load_row hg 29 x ho b hx 29 _ (0,0) _ hw Tryz.underlying29 rfl Tryz.info29 h
theorem wp_store30 (x y:Operand) (ho:o.op= .store 29 x y) (b:Nat) (r m:Int) (v:Value) {cs:Array Value} (hx:a.eval x= .pointer (some ⟨b,0,none⟩)) (hy:a.eval y= .agg (cellsF r m v)) (hw:Blk w b 29 cs) (hc:cs.size=3) (hv:v.oneCell'=true)
  (h: ∀w',Blk w' b 29 (cellsF r m v)→Turn b w w'→K (a.put o.dst undef) w'):o.wp Tryz.prog a w K Q:=
 wp_store_row 29 x y ho b _ hx hy 29 _ hw Tryz.info29 hc (by simp[hv,cellsF];exact⟨rfl,rfl⟩) (h _ (setRow_heap w b _ _ 29 _ hw) (Turn.setRow w b _))
theorem wpList_store30 (hg:o.guard=none) (x y:Operand) (ho:o.op= .store 29 x y) (b:Nat) (r m:Int) (v:Value) {cs:Array Value} (hx:a.eval x= .pointer (some ⟨b,0,none⟩)) (hy:a.eval y= .agg (cellsF r m v)) (hw:Blk w b 29 cs) (hc:cs.size=3) (hv:v.oneCell'=true)
  (h: ∀w',Blk w' b 29 (cellsF r m v)→Turn b w w'→wpList Tryz.prog ops Q rest (a.put o.dst undef) w'):wpList Tryz.prog ops Q (o::rest) a w:=
 wpList_plain hg fun _ hK=>wp_store30 x y ho b r m v hx hy hw hc hv fun w' h1 h2=>hK _ _ (h w' h1 h2)
theorem wp_alloc70 (ho:o.op= .alloc 56) (h:K (a.put o.dst (.pointer (some ⟨w.heap.size,0,none⟩))) (w.alloc (.cells #[.int .i64 0,.int .i64 0,.int .i64 0,.int .i64 0,.int .i64 0] 56))):o.wp Tryz.prog a w K Q:=by
 unfold Oper.wp execOp
 rw[ho]
 simp only[run_alloc70,Sem.run_bind,Sem.run_pure,Result.andThen_ok]
 exact h
theorem wpList_alloc70 (hg:o.guard=none) (ho:o.op= .alloc 56) (h:wpList Tryz.prog ops Q rest (a.put o.dst (.pointer (some ⟨w.heap.size,0,none⟩))) (w.alloc (.cells #[.int .i64 0,.int .i64 0,.int .i64 0,.int .i64 0,.int .i64 0] 56))):wpList Tryz.prog ops Q (o::rest) a w:=
 wpList_plain hg fun _ hK=>wp_alloc70 ho (hK _ _ h)
theorem wpList_load70 (hg:o.guard=none) (x:Operand) (ho:o.op= .load 56 x) (b:Nat) (g:Gr) (hx:a.eval x= .pointer (some ⟨b,0,none⟩)) (hw:Blk w b 56 (cellsE g)) (h:wpList Tryz.prog ops Q rest (a.put o.dst (.agg (cellsE g))) w):wpList Tryz.prog ops Q (o::rest) a w:=
 wpList_load_row hg 56 x ho b hx 56 _ (0,0) _ hw Tryz.underlying56 rfl Tryz.info56 h
theorem wp_store70 (x y:Operand) (ho:o.op= .store 56 x y) (b:Nat) (g:Gr) {cs:Array Value} (hx:a.eval x= .pointer (some ⟨b,0,none⟩)) (hy:a.eval y= .agg (cellsE g)) (hw:Blk w b 56 cs) (hc:cs.size=5)
  (h: ∀w',Blk w' b 56 (cellsE g)→Turn b w w'→K (a.put o.dst undef) w'):o.wp Tryz.prog a w K Q:=
 wp_store_row 56 x y ho b _ hx hy 56 _ hw Tryz.info56 hc (by simp[Value.oneCell',cellsE]) (h _ (setRow_heap w b _ _ 56 _ hw) (Turn.setRow w b _))
theorem wpList_store70 (hg:o.guard=none) (x y:Operand) (ho:o.op= .store 56 x y) (b:Nat) (g:Gr) {cs:Array Value} (hx:a.eval x= .pointer (some ⟨b,0,none⟩)) (hy:a.eval y= .agg (cellsE g)) (hw:Blk w b 56 cs) (hc:cs.size=5)
  (h: ∀w',Blk w' b 56 (cellsE g)→Turn b w w'→wpList Tryz.prog ops Q rest (a.put o.dst undef) w'):wpList Tryz.prog ops Q (o::rest) a w:=
 wpList_plain hg fun _ hK=>wp_store70 x y ho b g hx hy hw hc fun w' h1 h2=>hK _ _ (h w' h1 h2)
theorem wpList_load34 (hg:o.guard=none) (x:Operand) (ho:o.op= .load 70 x) (b:Nat) (q:Nat) (g n:Int) (hx:a.eval x= .pointer (some ⟨b,0,none⟩)) (hw:Blk w b 70 (cellsA q g n)) (h:wpList Tryz.prog ops Q rest (a.put o.dst (.agg (cellsA q g n))) w):wpList Tryz.prog ops Q (o::rest) a w:=
 wpList_load_row hg 70 x ho b hx 70 _ (0,0) _ hw Tryz.underlying70 rfl Tryz.info70 h
theorem wp_store34 (x y:Operand) (ho:o.op= .store 70 x y) (b:Nat) (q:Nat) (g n:Int) {cs:Array Value} (hx:a.eval x= .pointer (some ⟨b,0,none⟩)) (hy:a.eval y= .agg (cellsA q g n)) (hw:Blk w b 70 cs) (hc:cs.size=3)
  (h: ∀w',Blk w' b 70 (cellsA q g n)→Turn b w w'→K (a.put o.dst undef) w'):o.wp Tryz.prog a w K Q:=
 wp_store_row 70 x y ho b _ hx hy 70 _ hw Tryz.info70 hc (by simp[Value.oneCell',cellsA]) (h _ (setRow_heap w b _ _ 70 _ hw) (Turn.setRow w b _))
theorem wpList_store34 (hg:o.guard=none) (x y:Operand) (ho:o.op= .store 70 x y) (b:Nat) (q:Nat) (g n:Int) {cs:Array Value} (hx:a.eval x= .pointer (some ⟨b,0,none⟩)) (hy:a.eval y= .agg (cellsA q g n)) (hw:Blk w b 70 cs) (hc:cs.size=3)
  (h: ∀w',Blk w' b 70 (cellsA q g n)→Turn b w w'→wpList Tryz.prog ops Q rest (a.put o.dst undef) w'):wpList Tryz.prog ops Q (o::rest) a w:=
 wpList_plain hg fun _ hK=>wp_store34 x y ho b q g n hx hy hw hc fun w' h1 h2=>hK _ _ (h w' h1 h2)
theorem wp_alloc44 (ho:o.op= .alloc 158) (h:K (a.put o.dst (.pointer (some ⟨w.heap.size,0,none⟩))) (w.alloc (.cells #[.int .i64 0,.int .i64 0,.int .i64 0,.int .i64 0,.int .i64 0,.int .i64 0,.int .i64 0] 158))):o.wp Tryz.prog a w K Q:=by
 unfold Oper.wp execOp
 rw[ho]
 simp only[run_alloc44,Sem.run_bind,Sem.run_pure,Result.andThen_ok]
 exact h
theorem wpList_alloc44 (hg:o.guard=none) (ho:o.op= .alloc 158) (h:wpList Tryz.prog ops Q rest (a.put o.dst (.pointer (some ⟨w.heap.size,0,none⟩))) (w.alloc (.cells #[.int .i64 0,.int .i64 0,.int .i64 0,.int .i64 0,.int .i64 0,.int .i64 0,.int .i64 0] 158))):wpList Tryz.prog ops Q (o::rest) a w:=
 wpList_plain hg fun _ hK=>wp_alloc44 ho (hK _ _ h)
theorem wpList_load44 (hg:o.guard=none) (x:Operand) (ho:o.op= .load 158 x) (b:Nat) (i q wt d r me aw:Int) (hx:a.eval x= .pointer (some ⟨b,0,none⟩)) (hw:Blk w b 158 (cellsU i q wt d r me aw)) (h:wpList Tryz.prog ops Q rest (a.put o.dst (.agg (cellsU i q wt d r me aw))) w):wpList Tryz.prog ops Q (o::rest) a w:=
 wpList_load_row hg 158 x ho b hx 158 _ (0,0) _ hw Tryz.underlying158 rfl Tryz.info158 h
theorem wp_store44 (x y:Operand) (ho:o.op= .store 158 x y) (b:Nat) (i q wt d r me aw:Int) {cs:Array Value} (hx:a.eval x= .pointer (some ⟨b,0,none⟩)) (hy:a.eval y= .agg (cellsU i q wt d r me aw)) (hw:Blk w b 158 cs) (hc:cs.size=7)
  (h: ∀w',Blk w' b 158 (cellsU i q wt d r me aw)→Turn b w w'→K (a.put o.dst undef) w'):o.wp Tryz.prog a w K Q:=
 wp_store_row 158 x y ho b _ hx hy 158 _ hw Tryz.info158 hc (by simp[Value.oneCell',cellsU]) (h _ (setRow_heap w b _ _ 158 _ hw) (Turn.setRow w b _))
theorem wpList_store44 (hg:o.guard=none) (x y:Operand) (ho:o.op= .store 158 x y) (b:Nat) (i q wt d r me aw:Int) {cs:Array Value} (hx:a.eval x= .pointer (some ⟨b,0,none⟩)) (hy:a.eval y= .agg (cellsU i q wt d r me aw)) (hw:Blk w b 158 cs) (hc:cs.size=7)
  (h: ∀w',Blk w' b 158 (cellsU i q wt d r me aw)→Turn b w w'→wpList Tryz.prog ops Q rest (a.put o.dst undef) w'):wpList Tryz.prog ops Q (o::rest) a w:=
 wpList_plain hg fun _ hK=>wp_store44 x y ho b i q wt d r me aw hx hy hw hc fun w' h1 h2=>hK _ _ (h w' h1 h2)
theorem wpList_putG (hg:o.guard=none) (m x v:Operand) (hop:o.op=Op.mapUpdate 104 m x v) {b n:Nat} {G:Int→Option Nat} (hm:a.eval m= .map (some b)) (h:Mp w b n G) (hn:n<maxLen) {k:Int} (hx:a.eval x= .int .i64 k) (hk:I64 k) {c:Nat} (hv:a.eval v= .pointer (some ⟨c,0,none⟩))
  (hK: ∀w',Mp w' b (n+1) (fun y=>if y=k then some c else G y)→w.grownBy w' (some b)→wpList Tryz.prog ops Q rest (a.put o.dst undef) w'):wpList Tryz.prog ops Q (o::rest) a w:=by
 refine wpList_plain hg fun K' hK'=>?_
 obtain⟨w',hrun,r1,r2⟩:=h.put hn hk c
 unfold Oper.wp
 simp[execOp,hop,hm,hx,hv,hrun,Result.andThen]
 exact hK' _ _ (hK w' r1 r2)
theorem wpList_delG (hg:o.guard=none) (m x:Operand) (hop:o.op=Op.call { callee:=Callee.builtin Builtin.delete,args:= #[m,x],argTypes:= #[104,3] }) {b n:Nat} {G:Int→Option Nat} (hm:a.eval m= .map (some b)) (h:Mp w b n G) {k:Int} (hx:a.eval x= .int .i64 k) (hk:I64 k)
  (hK: ∀w',Mp w' b n (fun y=>if y=k then none else G y)→w.grownBy w' (some b)→wpList Tryz.prog ops Q rest (a.put o.dst (.tuple #[])) w'):wpList Tryz.prog ops Q (o::rest) a w:=by
 refine wpList_plain hg fun K' hK'=>?_
 obtain⟨w',hrun,r1,r2⟩:=h.del hk o.type
 unfold Oper.wp
 simp[execOp,hop,resolve,invoke,builtin,hm,hx,hrun,Result.andThen]
 exact hK' _ _ (hK w' r1 r2)
end
theorem resultsF_c {fn:Func} {p:Tmp} (h:fn.results= #[.cell p 29]) (tmps:Array Value) (w:World) (b:Nat) (r m:Int) (v:Value) (hp:tmps.getD p undef= .pointer (some ⟨b,0,none⟩)) (hw:Blk w b 29 (cellsF r m v)):
  (results fn tmps).run Tryz.prog w= .ok (.agg (cellsF r m v)) w:=by
 have hp':tmps[p]?.getD undef= .pointer (some ⟨b,0,none⟩):=by simpa using hp
 simp[results,h,hp',asAddr,run_loadVar_row w b 29 29 _ (0,0) _ hw Tryz.underlying29 rfl Tryz.info29]
theorem resultsF_ct {fn:Func} {p u:Tmp} (h:fn.results= #[.cell p 29,.tmp u]) (tmps:Array Value) (w:World) (b:Nat) (r m:Int) (v:Value) (x:Value) (hp:tmps.getD p undef= .pointer (some ⟨b,0,none⟩)) (hx:tmps.getD u undef=x) (hw:Blk w b 29 (cellsF r m v)):
  (results fn tmps).run Tryz.prog w= .ok (.tuple #[.agg (cellsF r m v),x]) w:=by
 have hp':tmps[p]?.getD undef= .pointer (some ⟨b,0,none⟩):=by simpa using hp
 have hx':tmps[u]?.getD undef=x:=by simpa using hx
 simp[results,h,hp',hx',asAddr,run_loadVar_row w b 29 29 _ (0,0) _ hw Tryz.underlying29 rfl Tryz.info29]
theorem resultsF_ctt {fn:Func} {p u u2:Tmp} (h:fn.results= #[.cell p 29,.tmp u,.tmp u2]) (tmps:Array Value) (w:World) (b:Nat) (r m:Int) (v:Value) (x y:Value) (hp:tmps.getD p undef= .pointer (some ⟨b,0,none⟩)) (hx:tmps.getD u undef=x) (hy:tmps.getD u2 undef=y) (hw:Blk w b 29 (cellsF r m v)):
  (results fn tmps).run Tryz.prog w= .ok (.tuple #[.agg (cellsF r m v),x,y]) w:=by
 have hp':tmps[p]?.getD undef= .pointer (some ⟨b,0,none⟩):=by simpa using hp
 have hx':tmps[u]?.getD undef=x:=by simpa using hx
 have hy':tmps[u2]?.getD undef=y:=by simpa using hy
 simp[results,h,hp',hx',hy',asAddr,run_loadVar_row w b 29 29 _ (0,0) _ hw Tryz.underlying29 rfl Tryz.info29]
theorem resultsU_c {fn:Func} {p:Tmp} (h:fn.results= #[.cell p 158]) (tmps:Array Value) (w:World) (b:Nat) (i q wt d r me aw:Int) (hp:tmps.getD p undef= .pointer (some ⟨b,0,none⟩)) (hw:Blk w b 158 (cellsU i q wt d r me aw)):
  (results fn tmps).run Tryz.prog w= .ok (.agg (cellsU i q wt d r me aw)) w:=by
 have hp':tmps[p]?.getD undef= .pointer (some ⟨b,0,none⟩):=by simpa using hp
 simp[results,h,hp',asAddr,run_loadVar_row w b 158 158 _ (0,0) _ hw Tryz.underlying158 rfl Tryz.info158]
theorem resultsU_ct {fn:Func} {p u:Tmp} (h:fn.results= #[.cell p 158,.tmp u]) (tmps:Array Value) (w:World) (b:Nat) (i q wt d r me aw:Int) (x:Value) (hp:tmps.getD p undef= .pointer (some ⟨b,0,none⟩)) (hx:tmps.getD u undef=x) (hw:Blk w b 158 (cellsU i q wt d r me aw)):
  (results fn tmps).run Tryz.prog w= .ok (.tuple #[.agg (cellsU i q wt d r me aw),x]) w:=by
 have hp':tmps[p]?.getD undef= .pointer (some ⟨b,0,none⟩):=by simpa using hp
 have hx':tmps[u]?.getD undef=x:=by simpa using hx
 simp[results,h,hp',hx',asAddr,run_loadVar_row w b 158 158 _ (0,0) _ hw Tryz.underlying158 rfl Tryz.info158]
end Go.Proofs.YtohifgjeebhijaaGreatDoor
namespace Go.Proofs.YtohifgjeebhijaaGreatDoor
set_option maxRecDepth 100000
set_option maxHeartbeats 4000000
open Go.RowKit Go.Maps
def nextI (c m:Int):Int:=if c=0 then m+1 else 0
def lastI (c m:Int):Int:=if c=0 then m+1 else m
section
variable {w w':World} {B fp tp tg mp:Nat} {bl:Int→Nat} {L:List Gr} {l l':List Int} {m k:Int}
theorem tab_eq_wr (h:Only tp tg w w') (ht:IsTab w tp tg l m) (hp:B≤tp) (hg:B≤tg):Wr [118,144,3] B w w':=by
 refine⟨h.os,h.tape,h.output,h.size,fun k hk hs=>h.block k hs (by omega) (by omega),fun k c t z hc hts=>h.block k (Array.getElem?_eq_some_iff.1 hc).1 ?_ ?_⟩
 ·rintro rfl
  rw[ht.ptr] at hc
  injection hc with h1
  injection h1 with _ h2 _
  subst h2
  exact hts (by decide)
 ·rintro rfl
  rw[ht.row] at hc
  injection hc with h1
  injection h1 with _ h2 _
  subst h2
  exact hts (by decide)
theorem map_wr {ts:List Nat} {n:Nat} {G:Int→Option Nat} (hg:w.grownBy w' (some mp)) (hm:Mp w mp n G) (hB:B≤mp):Wr ts B w w':=by
 refine⟨hg.os,hg.tape,hg.output,hg.size,fun k hk hs=>hg.block k hs (fun e=>by cases e;omega),fun k c t z hc _=>hg.block k (Array.getElem?_eq_some_iff.1 hc).1 (fun e=>?_)⟩
 cases e
 obtain⟨es,clock,h1⟩:=hm.isMap
 rw[h1] at hc
 cases hc
theorem ne_cells {a b:Nat} {ca cb:Array Value} {ta tb:Nat} {za zb:Nat×Nat} (ha:w.heap[a]? =some (.cells ca ta za)) (hb:w.heap[b]? =some (.cells cb tb zb)) (ht:ta≠tb):a≠b:=by
 rintro rfl
 rw[ha] at hb
 injection hb with h1
 injection h1 with _ h2 _
 exact ht h2
theorem ne_map {a:Nat} {ca:Array Value} {ta:Nat} {za:Nat×Nat} {n:Nat} {G:Int→Option Nat} (ha:w.heap[a]? =some (.cells ca ta za)) (hm:Mp w mp n G):a≠mp:=by
 rintro rfl
 obtain⟨es,clock,h1⟩:=hm.isMap
 rw[h1] at ha
 cases ha
theorem Fo.tabs (h:Fo w fp tp tg mp bl L l m) (ho:Only tp tg w w') (ht:IsTab w' tp tg l' m):Fo w' fp tp tg mp bl L l' m where
 ptr:=(ho.block fp h.ltf (ne_cells h.ptr h.tab.ptr (by decide)) (ne_cells h.ptr h.tab.row (by decide))).trans h.ptr
 tab:=ht
 mpp:=by
  obtain⟨n,hn,hm⟩:=h.mpp
  exact⟨n,hn,hm.same (ho.block mp hm.lt (fun e=>ne_map h.tab.ptr hm e.symm) (fun e=>ne_map h.tab.row hm e.symm))⟩
 grp:=fun x hx=>(ho.block _ (h.grp x hx).lt (ne_cells (h.grp x hx) h.tab.ptr (by decide)) (ne_cells (h.grp x hx) h.tab.row (by decide))).trans (h.grp x hx)
 inj:=h.inj
theorem Fo.more {w1 w2 w3:World} {p wt:Int} {n:Nat} (ok:Ok L m k) (h:Fo w fp tp tg mp bl L l m) (h1:w1=w.alloc (.cells #[.int .i64 p,.int .i64 wt,.int .i64 0,.int .i64 0] 118)) (ho:Only tp tg w1 w2) (ht:IsTab w2 tp tg l' (m+1)) (hn:(n:Int)≤m)
  (hm:Mp w3 mp (n+1) (fun y=>if y=m+1 then some w.heap.size else gOf L bl y)) (hg:w2.grownBy w3 (some mp)):Fo w3 fp tp tg mp (fun y=>if y=m+1 then w.heap.size else bl y) (addG L m p wt) l' (m+1):=by
 have hs1:w1.heap.size=w.heap.size+1:=by rw[h1];simp
 have hb1:Below w.heap.size w w1:=by rw[h1];exact(Below.refl _ w).alloc (Nat.le_refl _) _
 have h':=h.below hb1
 obtain⟨n0,_,hm0⟩:=h'.mpp
 have hnew:w1.heap[w.heap.size]? =some (.cells #[.int .i64 p,.int .i64 wt,.int .i64 0,.int .i64 0] 118 (0,0)):=by rw[h1];exact heap_alloc_new w _
 have keep: ∀(b:Nat) (c:Array Value) (t:Nat),w1.heap[b]? =some (Obj.cells c t (0,0))→t≠144→t≠3→w3.heap[b]? =some (Obj.cells c t (0,0)):=fun b c t hb h83 h3=>by
  have hlt:=(Array.getElem?_eq_some_iff.1 hb).1
  rw[hg.block b (Nat.lt_of_lt_of_le hlt ho.size) (fun e=>by cases e;exact ne_map hb hm0 rfl),ho.block b hlt (ne_cells hb h'.tab.ptr h83) (ne_cells hb h'.tab.row h3)]
  exact hb
 refine⟨keep _ _ _ h'.ptr (by decide) (by decide),?_,⟨n+1,by omega,?_⟩,fun x hx=>?_,fun x y hx hy e=>?_⟩
 ·refine ht.same (hg.block tp ht.ltp (fun e=>?_)) (hg.block tg ht.ltg (fun e=>?_))
  ·cases e
   exact ne_map h'.tab.ptr hm0 rfl
  ·cases e
   exact ne_map h'.tab.row hm0 rfl
 ·have e:(fun y=>if y=m+1 then some w.heap.size else gOf L bl y)=gOf (addG L m p wt) (fun y=>if y=m+1 then w.heap.size else bl y):=by
   funext y
   unfold gOf
   rw[addG_has]
   by_cases e:y=m+1<;>simp[e]
  rwa [←e]
 ·by_cases e:x=m+1
  ·subst e
   rw[addG_new ok]
   simp only[if_true]
   exact keep _ _ _ hnew (by decide) (by decide)
  ·rw[addG_has,decide_eq_false e,Bool.or_false] at hx
   rw[addG_old ok hx,if_neg e]
   exact keep _ _ _ (h'.grp x hx) (by decide) (by decide)
 ·rw[addG_has] at hx hy
  have lt: ∀z,has L z=true→bl z<w.heap.size:=fun z hz=>(h.grp z hz).lt
  by_cases e1:x=m+1<;>by_cases e2:y=m+1
  ·rw[e1,e2]
  ·rw[decide_eq_false e2,Bool.or_false] at hy
   rw[if_pos e1,if_neg e2] at e
   have:=lt y hy
   omega
  ·rw[decide_eq_false e1,Bool.or_false] at hx
   rw[if_neg e1,if_pos e2] at e
   have:=lt x hx
   omega
  ·rw[decide_eq_false e1,Bool.or_false] at hx
   rw[decide_eq_false e2,Bool.or_false] at hy
   rw[if_neg e1,if_neg e2] at e
   exact h.inj x y hx hy e
theorem Fo.less {x:Int} {n:Nat} (ok:Ok L m k) (h:Fo w fp tp tg mp bl L l m) (hx:has L x=true) (hn:(n:Int)≤m) (hm0:Mp w mp n (gOf L bl)) (hm:Mp w' mp n (fun y=>if y=x then none else gOf L bl y)) (hg:w.grownBy w' (some mp)):Fo w' fp tp tg mp bl (delG L x) l m:=by
 have keep: ∀(b:Nat) (c:Array Value) (t:Nat),w.heap[b]? =some (Obj.cells c t (0,0))→w'.heap[b]? =some (Obj.cells c t (0,0)):=fun b c t hb=>by
  rw[hg.block b (Array.getElem?_eq_some_iff.1 hb).1 (fun e=>by cases e;exact ne_map hb hm0 rfl)]
  exact hb
 refine⟨keep _ _ _ h.ptr,h.tab.same ((keep _ _ _ h.tab.ptr).trans h.tab.ptr.symm) ((keep _ _ _ h.tab.row).trans h.tab.row.symm),⟨n,hn,?_⟩,fun y hy=>?_,fun y z hy hz e=>?_⟩
 ·have e:(fun y=>if y=x then none else gOf L bl y)=gOf (delG L x) bl:=by
   funext y
   unfold gOf
   rw[del_has ok hx]
   by_cases e:y=x<;>simp[e]
  rwa [←e]
 ·rw[del_gr ok hx hy]
  rw[del_has ok hx,Bool.and_eq_true] at hy
  exact keep _ _ _ (h.grp y hy.1)
 ·rw[del_has ok hx,Bool.and_eq_true] at hy hz
  exact h.inj y z hy.1 hz.1 e
theorem add_rest {l:List Int} {m:Int} (hb:addB l m=true):addI l m=m+1∧addE l m=0∧addM l m=m+1∧(addL l m).length=l.length:=by
 simp[addI,addE,addM,addL,hb]
theorem add_full {l:List Int} {m:Int} (hb:addB l m=false):addI l m=0∧addE l m=6∧addM l m=m∧addL l m=l:=by
 simp[addI,addE,addM,addL,hb]
end
section
variable (fp B:Nat) (L:List Gr) (l:List Int) (m k:Int)
theorem put_no (p wt:Int) (w:World) (h:IsF w B fp L l m k) (hk:k<1000) (hl:L.length=l.length):
  Calls Tryz.prog 56 #[.pointer (some ⟨fp,0,none⟩),.agg #[.int .i64 p,.int .i64 wt,.int .i64 0,.int .i64 0]] w fun e w'=>e= .returned (.tuple #[.int .i64 0,.int .i64 6])∧IsF w' B fp L l m (k+1)∧Wr [118,144,3] B w w':=by
 obtain⟨tp,tg,mp,bl,hf,hB⟩:=h.fo
 have hb1:Below w.heap.size w (w.alloc (.cells #[.int .i64 p,.int .i64 wt,.int .i64 0,.int .i64 0] 118)):=(Below.refl _ w).alloc (Nat.le_refl _) _
 have hf1:=hf.below hb1
 have h1:=hf1.c0
 have hfree:addB l m=false:=by rw[(slots_free h.ok h.ids).1,hl];simp
 obtain⟨e1,e2,e3,e4⟩:=add_full hfree
 have HA:=Lib.hid (TAdd_any tp tg l m _ hf1.tab h.tok)
 have HE:=Lib.hid (show addI l m=0∧addE l m=6∧addM l m=m∧addL l m=l from ⟨e1,e2,e3,e4⟩)
 have HF:Hid (∀w2,IsTab w2 tp tg l m→Only tp tg (w.alloc (.cells #[.int .i64 p,.int .i64 wt,.int .i64 0,.int .i64 0] 118)) w2→IsF w2 B fp L l m (k+1)∧Wr [118,144,3] B w w2):=Lib.hid fun w2 ht ho=>
  ⟨⟨⟨tp,tg,mp,bl,hf1.tabs ho ht,hB⟩,h.tok,h.ids,h.ok.later hk⟩,(Wr.of_below hb1).trans (tab_eq_wr ho hf1.tab hB.1 hB.2.1)⟩
 clear h hf hB hb1 hf1 hfree e1 e2 e3 e4 hl hk
 go_enter Tryz.func56,Tryz.ntmps56
 go_wp2_with (go_at_call 91;refine HA.out.mono ?_;rw[HE.out.1,HE.out.2.1,HE.out.2.2.1,HE.out.2.2.2];rintro e w2 ⟨rfl,ht,ho⟩)
 go_ret2
 exact⟨rfl,HF.out _ ht ho⟩
theorem put_yes (p wt:Int) (w:World) (h:IsF w B fp L l m k) (hk:k<1000) (hBw:B≤w.heap.size) (hl: ¬L.length=l.length) (hp:p= -1∨has L p=true∧dep L p≠8) (hw:1≤wt∧wt≤10000):
  Calls Tryz.prog 56 #[.pointer (some ⟨fp,0,none⟩),.agg #[.int .i64 p,.int .i64 wt,.int .i64 0,.int .i64 0]] w fun e w'=>e= .returned (.tuple #[.int .i64 (m+1),.int .i64 0])∧(∃l',l'.length=l.length∧IsF w' B fp (addG L m p wt) l' (m+1) (k+1))∧Wr [118,144,3] B w w':=by
 obtain⟨tp,tg,mp,bl,hf,hB⟩:=h.fo
 have hb1:Below w.heap.size w (w.alloc (.cells #[.int .i64 p,.int .i64 wt,.int .i64 0,.int .i64 0] 118)):=(Below.refl _ w).alloc (Nat.le_refl _) _
 have hf1:=hf.below hb1
 have h1:=hf1.c0
 have hfree:addB l m=true:=by rw[(slots_free h.ok h.ids).1];simpa using hl
 have hlen:L.length<64:=by have:=(slots_free h.ok h.ids).2;have:=h.tok.n64;omega
 obtain⟨e1,e2,e3,e4⟩:=add_rest hfree
 obtain⟨n,hn,hm0⟩:=hf1.mpp
 have HA:=Lib.hid (TAdd_any tp tg l m _ hf1.tab h.tok)
 have HE:=Lib.hid (show addI l m=m+1∧addE l m=0∧addM l m=m+1 from ⟨e1,e2,e3⟩)
 have hmi:I64 (m+1):=by have:=h.ok.m0;have:=h.ok.mle;have:=h.ok.k1;unfold I64;omega
 have hnM:n<maxLen:=by have:=h.ok.mle;have:=h.ok.k1;unfold maxLen;omega
 have HF:Hid (∀w2 w3,IsTab w2 tp tg (addL l m) (m+1)→Only tp tg (w.alloc (.cells #[.int .i64 p,.int .i64 wt,.int .i64 0,.int .i64 0] 118)) w2→Mp w3 mp (n+1) (fun y=>if y=m+1 then some w.heap.size else gOf L bl y)→w2.grownBy w3 (some mp)→
   (∃l',l'.length=l.length∧IsF w3 B fp (addG L m p wt) l' (m+1) (k+1))∧Wr [118,144,3] B w w3):=Lib.hid fun w2 w3 ht ho hm hg=>by
  have hm2:=hm0.same (ho.block mp hm0.lt (fun e=>ne_map hf1.tab.ptr hm0 e.symm) (fun e=>ne_map hf1.tab.row hm0 e.symm))
  have tok':=h.tok.add
  rw[e3] at tok'
  refine⟨⟨addL l m,e4,⟨tp,tg,mp,_,hf.more h.ok rfl ho ht hn hm hg,hB.1,hB.2.1,hB.2.2.1,fun x hx=>?_⟩,tok',slots_add h.ok h.tok h.ids hfree,h.ok.addG hk hlen hp hw⟩,((Wr.of_below hb1).trans (tab_eq_wr ho hf1.tab hB.1 hB.2.1)).trans (map_wr hg hm2 hB.2.2.1)⟩
  by_cases e:x=m+1
  ·rw[if_pos e];exact hBw
  ·rw[if_neg e]
   rw[addG_has,decide_eq_false e,Bool.or_false] at hx
   exact hB.2.2.2 x hx
 have HM:Hid (∀w2,Only tp tg (w.alloc (.cells #[.int .i64 p,.int .i64 wt,.int .i64 0,.int .i64 0] 118)) w2→IsTab w2 tp tg (addL l m) (m+1)→Mp w2 mp n (gOf L bl)∧w2.cell? ⟨fp,1,none⟩=some (.map (some mp))):=Lib.hid fun w2 ho _=>by
  refine⟨hm0.same (ho.block mp hm0.lt (fun e=>ne_map hf1.tab.ptr hm0 e.symm) (fun e=>ne_map hf1.tab.row hm0 e.symm)),?_⟩
  have:=(ho.block fp hf1.ltf (ne_cells hf1.ptr hf1.tab.ptr (by decide)) (ne_cells hf1.ptr hf1.tab.row (by decide))).trans hf1.ptr
  rw[cell_of_row w2 fp 1 _ 106 (0,0) this];rfl
 clear h hf hB hb1 hf1 hfree e1 e2 e3 e4 hl hk hm0 hn hp hw hlen
 go_enter Tryz.func56,Tryz.ntmps56
 go_wp2_with (first | (go_at_call 91;refine HA.out.mono ?_;rw[HE.out.1,HE.out.2.1,HE.out.2.2];rintro e w2 ⟨rfl,ht,ho⟩;obtain⟨hm2,hc1⟩:=HM.out w2 ho ht) | (at_mapUpdate;refine wpList_putG rfl _ _ _ rfl rfl hm2 hnM rfl hmi rfl ?_;intro w3 hm3 hg3))
 go_ret2
 exact⟨rfl,HF.out _ _ ht ho hm3 hg3⟩
theorem put_any (p wt:Int) (w:World) (h:IsF w B fp L l m k) (hk:k<1000) (hBw:B≤w.heap.size) (hp:p= -1∨has L p=true∧dep L p≠8) (hw:1≤wt∧wt≤10000):
  Calls Tryz.prog 56 #[.pointer (some ⟨fp,0,none⟩),.agg #[.int .i64 p,.int .i64 wt,.int .i64 0,.int .i64 0]] w fun e w'=>e= .returned (.tuple #[.int .i64 (nextI (rootC L l.length) m),.int .i64 (rootC L l.length)])∧(∃l',l'.length=l.length∧IsF w' B fp (if rootC L l.length=0 then addG L m p wt else L) l' (lastI (rootC L l.length) m) (k+1))∧Wr [118,144,3] B w w':=by
 unfold rootC nextI lastI
 by_cases hl:L.length=l.length
 ·simp only[hl,if_true]
  refine(put_no fp B L l m k p wt w h hk hl).mono ?_
  rintro e w' ⟨rfl,hF,hW⟩
  exact⟨rfl,⟨l,rfl,hF⟩,hW⟩
 ·simp only[hl,if_false,if_true]
  exact put_yes fp B L l m k p wt w h hk hBw hl hp hw
theorem Root_any (w:World) (h:IsF w B fp L l m k) (hk:k<1000) (hBw:B≤w.heap.size):
  Calls Tryz.prog 25 #[.pointer (some ⟨fp,0,none⟩)] w fun e w'=>e= .returned (.tuple #[.int .i64 (nextI (rootC L l.length) m),.int .i64 (rootC L l.length)])∧(∃l',l'.length=l.length∧IsF w' B fp (rootN L l.length m) l' (lastI (rootC L l.length) m) (k+1))∧Wr [118,144,3] B w w':=by
 have HP:=Lib.hid (put_any fp B L l m k (-1) 1 w h hk hBw (.inl rfl) (by omega))
 unfold rootN
 clear h hk hBw
 generalize nextI (rootC L l.length) m=ni at *
 generalize (if rootC L l.length=0 then addG L m (-1) 1 else L)=L2 at *
 generalize lastI (rootC L l.length) m=mm at *
 generalize rootC L l.length=c at *
 go_enter Tryz.func25,Tryz.ntmps25
 go_wp2_with (go_at_call 56;refine HP.out.mono ?_;rintro e w2 ⟨rfl,hF,hW⟩)
 go_ret2
 exact⟨rfl,hF,hW⟩
theorem AddF_no (p wt:Int) (w:World) (h:IsF w B fp L l m k) (hp:I64 p) (hk:k<1000) (hh:has L p=false):
  Calls Tryz.prog 43 #[.pointer (some ⟨fp,0,none⟩),.int .i64 p,.int .i64 wt] w fun e w'=>e= .returned (.tuple #[.int .i64 (nextI (addC L l.length p wt) m),.int .i64 (addC L l.length p wt)])∧(∃l',l'.length=l.length∧IsF w' B fp (addN L l.length m p wt) l' (lastI (addC L l.length p wt) m) (k+1))∧Wr [118,144,3] B w w':=by
 have hc:addC L l.length p wt=4:=by unfold addC;rw[if_pos hh]
 have HC:=Lib.hid hc
 have HN:Hid (addN L l.length m p wt=L):=Lib.hid (by unfold addN;rw[hc];rfl)
 obtain⟨tp,tg,mp,bl,hf,hB⟩:=h.fo
 have h1:=hf.c1
 have HL:=hf.lookN hp hh
 have HH:=Lib.hid hh
 have HF:=Lib.hid h
 have HK:=Lib.hid hk
 have HR:=Lib.hid h.rdr
 have hb0:=Below.refl w.heap.size w
 clear h hf hB hk hh hc
 go_enter Tryz.func43,Tryz.ntmps43
 go_wp2_with fail
 go_ret2
 rw[HC.out,HN.out]
 exact⟨rfl,⟨l,rfl,(HF.out.below (Below.refl _ _)).later HK.out⟩,Wr.of_below (Below.refl _ _)⟩
theorem AddF_bad (p wt:Int) (w:World) (h:IsF w B fp L l m k) (hp:I64 p) (hk:k<1000) (hh:has L p=true) (hw: ¬(1≤wt∧wt≤10000)):
  Calls Tryz.prog 43 #[.pointer (some ⟨fp,0,none⟩),.int .i64 p,.int .i64 wt] w fun e w'=>e= .returned (.tuple #[.int .i64 (nextI (addC L l.length p wt) m),.int .i64 (addC L l.length p wt)])∧(∃l',l'.length=l.length∧IsF w' B fp (addN L l.length m p wt) l' (lastI (addC L l.length p wt) m) (k+1))∧Wr [118,144,3] B w w':=by
 have hc:addC L l.length p wt=13:=by unfold addC;rw[if_neg (by rw[hh];decide),if_pos hw]
 have HC:=Lib.hid hc
 have HN:Hid (addN L l.length m p wt=L):=Lib.hid (by unfold addN;rw[hc];rfl)
 obtain⟨tp,tg,mp,bl,hf,hB⟩:=h.fo
 have h1:=hf.c1
 have HL:=hf.lookY hp hh
 have HH:=Lib.hid hh
 have HF:=Lib.hid h
 have HK:=Lib.hid hk
 have HR:=Lib.hid h.rdr
 have hb0:=Below.refl w.heap.size w
 have HW:Hid (decide (1≤wt∧wt≤10000)=false):=Lib.hid (decide_eq_false hw)
 clear hw
 clear h hf hB hk hh hc
 go_enter Tryz.func43,Tryz.ntmps43
 go_wp2_with (go_at_call 81;refine(isWeight_any _ _).mono ?_;rw[HW.out];rintro e wj ⟨rfl,rfl⟩)
 go_ret2
 rw[HC.out,HN.out]
 exact⟨rfl,⟨l,rfl,(HF.out.below (Below.refl _ _)).later HK.out⟩,Wr.of_below (Below.refl _ _)⟩
theorem AddF_deep (p wt:Int) (w:World) (h:IsF w B fp L l m k) (hp:I64 p) (hk:k<1000) (hh:has L p=true) (hw:1≤wt∧wt≤10000) (hd:dep L p=8):
  Calls Tryz.prog 43 #[.pointer (some ⟨fp,0,none⟩),.int .i64 p,.int .i64 wt] w fun e w'=>e= .returned (.tuple #[.int .i64 (nextI (addC L l.length p wt) m),.int .i64 (addC L l.length p wt)])∧(∃l',l'.length=l.length∧IsF w' B fp (addN L l.length m p wt) l' (lastI (addC L l.length p wt) m) (k+1))∧Wr [118,144,3] B w w':=by
 have hc:addC L l.length p wt=7:=by unfold addC;rw[if_neg (by rw[hh];decide),if_neg (fun e=>e hw),if_pos hd]
 have HC:=Lib.hid hc
 have HN:Hid (addN L l.length m p wt=L):=Lib.hid (by unfold addN;rw[hc];rfl)
 obtain⟨tp,tg,mp,bl,hf,hB⟩:=h.fo
 have h1:=hf.c1
 have HL:=hf.lookY hp hh
 have HH:=Lib.hid hh
 have HF:=Lib.hid h
 have HK:=Lib.hid hk
 have HR:=Lib.hid h.rdr
 have hb0:=Below.refl w.heap.size w
 have HW:Hid (decide (1≤wt∧wt≤10000)=true):=Lib.hid (decide_eq_true hw)
 clear hw
 have hd2:=beq_tt hd
 clear hd
 clear h hf hB hk hh hc
 go_enter Tryz.func43,Tryz.ntmps43
 go_wp2_with (first | (go_at_call 81;refine(isWeight_any _ _).mono ?_;rw[HW.out];rintro e wj ⟨rfl,rfl⟩) | (go_at_call 82;refine(HR.out.depth _ _ (by assumption) (by assumption)).mono ?_;rintro e wi ⟨rfl,hbi⟩))
 go_ret2
 rw[HC.out,HN.out]
 exact⟨rfl,⟨l,rfl,(HF.out.below (hbi)).later HK.out⟩,Wr.of_below (hbi)⟩
theorem AddF_wide (p wt:Int) (w:World) (h:IsF w B fp L l m k) (hp:I64 p) (hk:k<1000) (hh:has L p=true) (hw:1≤wt∧wt≤10000) (hd: ¬dep L p=8) (hf32:fanI L p=32):
  Calls Tryz.prog 43 #[.pointer (some ⟨fp,0,none⟩),.int .i64 p,.int .i64 wt] w fun e w'=>e= .returned (.tuple #[.int .i64 (nextI (addC L l.length p wt) m),.int .i64 (addC L l.length p wt)])∧(∃l',l'.length=l.length∧IsF w' B fp (addN L l.length m p wt) l' (lastI (addC L l.length p wt) m) (k+1))∧Wr [118,144,3] B w w':=by
 have hc:addC L l.length p wt=6:=by unfold addC;rw[if_neg (by rw[hh];decide),if_neg (fun e=>e hw),if_neg hd,if_pos (.inl hf32)]
 have HC:=Lib.hid hc
 have HN:Hid (addN L l.length m p wt=L):=Lib.hid (by unfold addN;rw[hc];rfl)
 obtain⟨tp,tg,mp,bl,hf,hB⟩:=h.fo
 have h1:=hf.c1
 have HL:=hf.lookY hp hh
 have HH:=Lib.hid hh
 have HF:=Lib.hid h
 have HK:=Lib.hid hk
 have HR:=Lib.hid h.rdr
 have hb0:=Below.refl w.heap.size w
 have HW:Hid (decide (1≤wt∧wt≤10000)=true):=Lib.hid (decide_eq_true hw)
 clear hw
 have hd2:=beq_ff hd
 have hf2:=beq_tt hf32
 clear hd hf32
 clear h hf hB hk hh hc
 go_enter Tryz.func43,Tryz.ntmps43
 go_wp2_with (first | (go_at_call 81;refine(isWeight_any _ _).mono ?_;rw[HW.out];rintro e wj ⟨rfl,rfl⟩) | (go_at_call 82;refine(HR.out.depth _ _ (by assumption) (by assumption)).mono ?_;rintro e wi ⟨rfl,hbi⟩) | (go_at_call 83;refine(HR.out.fan _ _ (by assumption) HH.out (by assumption)).mono ?_;rintro e wi ⟨rfl,hbi⟩))
 go_ret2
 rw[HC.out,HN.out]
 exact⟨rfl,⟨l,rfl,(HF.out.below (hbi)).later HK.out⟩,Wr.of_below (hbi)⟩
theorem AddF_put (p wt:Int) (w:World) (h:IsF w B fp L l m k) (hp:I64 p) (hk:k<1000) (hBw:B≤w.heap.size) (hh:has L p=true) (hw:1≤wt∧wt≤10000) (hd: ¬dep L p=8) (hf32: ¬fanI L p=32):
  Calls Tryz.prog 43 #[.pointer (some ⟨fp,0,none⟩),.int .i64 p,.int .i64 wt] w fun e w'=>e= .returned (.tuple #[.int .i64 (nextI (addC L l.length p wt) m),.int .i64 (addC L l.length p wt)])∧(∃l',l'.length=l.length∧IsF w' B fp (addN L l.length m p wt) l' (lastI (addC L l.length p wt) m) (k+1))∧Wr [118,144,3] B w w':=by
 have hc:addC L l.length p wt=rootC L l.length:=by unfold addC rootC;rw[if_neg (by rw[hh];decide),if_neg (fun e=>e hw),if_neg hd];by_cases hl:L.length=l.length<;>simp[hf32,hl]
 have HC:=Lib.hid hc
 obtain⟨tp,tg,mp,bl,hf,hB⟩:=h.fo
 have h1:=hf.c1
 have HL:=hf.lookY hp hh
 have HH:=Lib.hid hh
 have HR:=Lib.hid h.rdr
 have hb0:=Below.refl w.heap.size w
 have HW:Hid (decide (1≤wt∧wt≤10000)=true):=Lib.hid (decide_eq_true hw)
 have HP:Hid (∀W:World,Below w.heap.size w W→Calls Tryz.prog 56 #[.pointer (some ⟨fp,0,none⟩),.agg #[.int .i64 p,.int .i64 wt,.int .i64 0,.int .i64 0]] W fun e w'=>e= .returned (.tuple #[.int .i64 (nextI (rootC L l.length) m),.int .i64 (rootC L l.length)])∧(∃l',l'.length=l.length∧IsF w' B fp (if rootC L l.length=0 then addG L m p wt else L) l' (lastI (rootC L l.length) m) (k+1))∧Wr [118,144,3] B w w'):=Lib.hid fun W hW=>by
  refine(put_any fp B L l m k p wt W (h.below hW) hk (Nat.le_trans hBw hW.size) (.inr ⟨hh,hd⟩) hw).mono ?_
  rintro e w' ⟨rfl,hF,hWr⟩
  exact⟨rfl,hF,(Wr.of_below hW).trans hWr⟩
 have hd2:=beq_ff hd
 have hf2:=beq_ff hf32
 unfold addN
 rw[hc]
 clear h hf hB hk hh hc hd hf32 hw hBw HC
 generalize nextI (rootC L l.length) m=ni at *
 generalize (if rootC L l.length=0 then addG L m p wt else L)=L2 at *
 generalize lastI (rootC L l.length) m=mm at *
 generalize rootC L l.length=c at *
 go_enter Tryz.func43,Tryz.ntmps43
 go_wp2_with (first | (go_at_call 81;refine(isWeight_any _ _).mono ?_;rw[HW.out];rintro e wj ⟨rfl,rfl⟩) | (go_at_call 82;refine(HR.out.depth _ _ (by assumption) (by assumption)).mono ?_;rintro e wi ⟨rfl,hbi⟩) | (go_at_call 83;refine(HR.out.fan _ _ (by assumption) HH.out (by assumption)).mono ?_;rintro e wi ⟨rfl,hbi⟩) | (go_at_call 56;refine(HP.out _ (by assumption)).mono ?_;rintro e wz ⟨rfl,hF,hW⟩))
 go_ret2
 exact⟨rfl,hF,hW⟩
theorem AddF_any (p wt:Int) (w:World) (h:IsF w B fp L l m k) (hp:I64 p) (hk:k<1000) (hBw:B≤w.heap.size):
  Calls Tryz.prog 43 #[.pointer (some ⟨fp,0,none⟩),.int .i64 p,.int .i64 wt] w fun e w'=>e= .returned (.tuple #[.int .i64 (nextI (addC L l.length p wt) m),.int .i64 (addC L l.length p wt)])∧(∃l',l'.length=l.length∧IsF w' B fp (addN L l.length m p wt) l' (lastI (addC L l.length p wt) m) (k+1))∧Wr [118,144,3] B w w':=by
 cases hh:has L p with
 | false=>exact AddF_no fp B L l m k p wt w h hp hk hh
 | true=>
 by_cases hw:1≤wt∧wt≤10000
 case neg=>exact AddF_bad fp B L l m k p wt w h hp hk hh hw
 by_cases hd:dep L p=8
 ·exact AddF_deep fp B L l m k p wt w h hp hk hh hw hd
 by_cases hf:fanI L p=32
 ·exact AddF_wide fp B L l m k p wt w h hp hk hh hw hd hf
 ·exact AddF_put fp B L l m k p wt w h hp hk hBw hh hw hd hf
theorem DropF_no (x:Int) (w:World) (h:IsF w B fp L l m k) (hx:I64 x) (hk:k<1000) (hh:has L x=false):
  Calls Tryz.prog 45 #[.pointer (some ⟨fp,0,none⟩),.int .i64 x] w fun e w'=>e= .returned (.int .i64 (dropC L x))∧(∃l',l'.length=l.length∧IsF w' B fp (dropN L x) l' m (k+1))∧Wr [118,144,3] B w w':=by
 have hc:dropC L x=4:=by unfold dropC;rw[if_pos hh]
 have HC:=Lib.hid hc
 have HN:Hid (dropN L x=L):=Lib.hid (by unfold dropN;rw[hc];rfl)
 obtain⟨tp,tg,mp,bl,hf,hB⟩:=h.fo
 have h1:=hf.c1
 have HL:=hf.lookN hx hh
 have HH:=Lib.hid hh
 have HF:=Lib.hid h
 have HK:=Lib.hid hk
 have HR:=Lib.hid h.rdr
 have hb0:=Below.refl w.heap.size w
 clear h hf hB hk hh hc
 go_enter Tryz.func45,Tryz.ntmps45
 go_wp2_with fail
 go_ret
 rw[HC.out,HN.out]
 exact⟨rfl,⟨l,rfl,(HF.out.below (Below.refl _ _)).later HK.out⟩,Wr.of_below (Below.refl _ _)⟩
theorem DropF_root (x:Int) (w:World) (h:IsF w B fp L l m k) (hx:I64 x) (hk:k<1000) (hh:has L x=true) (hp:(gr L x).pa= -1):
  Calls Tryz.prog 45 #[.pointer (some ⟨fp,0,none⟩),.int .i64 x] w fun e w'=>e= .returned (.int .i64 (dropC L x))∧(∃l',l'.length=l.length∧IsF w' B fp (dropN L x) l' m (k+1))∧Wr [118,144,3] B w w':=by
 have hc:dropC L x=15:=by unfold dropC;rw[if_neg (by rw[hh];decide),if_pos (by omega)]
 have HC:=Lib.hid hc
 have HN:Hid (dropN L x=L):=Lib.hid (by unfold dropN;rw[hc];rfl)
 obtain⟨tp,tg,mp,bl,hf,hB⟩:=h.fo
 have h1:=hf.c1
 have HL:=hf.lookY hx hh
 have HH:=Lib.hid hh
 have HF:=Lib.hid h
 have HK:=Lib.hid hk
 have HR:=Lib.hid h.rdr
 have hb0:=Below.refl w.heap.size w
 have q0:=(hf.grp x hh).c0
 rw[hp] at q0
 clear hp
 clear h hf hB hk hh hc
 go_enter Tryz.func45,Tryz.ntmps45
 go_wp2_with fail
 go_ret
 rw[HC.out,HN.out]
 exact⟨rfl,⟨l,rfl,(HF.out.below (Below.refl _ _)).later HK.out⟩,Wr.of_below (Below.refl _ _)⟩
theorem DropF_busy (x:Int) (w:World) (h:IsF w B fp L l m k) (hx:I64 x) (hk:k<1000) (hh:has L x=true) (hp:0≤(gr L x).pa) (hfa:0<fanI L x):
  Calls Tryz.prog 45 #[.pointer (some ⟨fp,0,none⟩),.int .i64 x] w fun e w'=>e= .returned (.int .i64 (dropC L x))∧(∃l',l'.length=l.length∧IsF w' B fp (dropN L x) l' m (k+1))∧Wr [118,144,3] B w w':=by
 have hc:dropC L x=11:=by unfold dropC;rw[if_neg (by rw[hh];decide),if_neg (by omega),if_pos hfa]
 have HC:=Lib.hid hc
 have HN:Hid (dropN L x=L):=Lib.hid (by unfold dropN;rw[hc];rfl)
 obtain⟨tp,tg,mp,bl,hf,hB⟩:=h.fo
 have h1:=hf.c1
 have HL:=hf.lookY hx hh
 have HH:=Lib.hid hh
 have HF:=Lib.hid h
 have HK:=Lib.hid hk
 have HR:=Lib.hid h.rdr
 have hb0:=Below.refl w.heap.size w
 have q0:=(hf.grp x hh).c0
 have hpa2:=beq_ff (show ¬(gr L x).pa= -1 by omega)
 clear hp
 generalize (gr L x).pa=pa at *
 clear h hf hB hk hh
 go_enter Tryz.func45,Tryz.ntmps45
 go_wp2_with (go_at_call 83;refine(HR.out.fan _ _ (by assumption) HH.out (by assumption)).mono ?_;rintro e wi ⟨rfl,hbi⟩)
 go_ret
 rw[HC.out,HN.out]
 exact⟨rfl,⟨l,rfl,(HF.out.below (hbi)).later HK.out⟩,Wr.of_below (hbi)⟩
theorem DropF_yes (x:Int) (w:World) (h:IsF w B fp L l m k) (hx:I64 x) (hk:k<1000) (hh:has L x=true) (hp:0≤(gr L x).pa) (hfa: ¬ 0<fanI L x):
  Calls Tryz.prog 45 #[.pointer (some ⟨fp,0,none⟩),.int .i64 x] w fun e w'=>e= .returned (.int .i64 (dropC L x))∧(∃l',l'.length=l.length∧IsF w' B fp (dropN L x) l' m (k+1))∧Wr [118,144,3] B w w':=by
 have hc:dropC L x=0:=by unfold dropC;rw[if_neg (by rw[hh];decide),if_neg (by omega),if_neg hfa]
 have HC:=Lib.hid hc
 have HN:Hid (dropN L x=delG L x):=Lib.hid (by unfold dropN;rw[hc];rfl)
 obtain⟨tp,tg,mp,bl,hf,hB⟩:=h.fo
 have h1:=hf.c1
 have HL:=hf.lookY hx hh
 have HH:=Lib.hid hh
 have HR:=Lib.hid h.rdr
 have HG:=Lib.hid hf
 have hb0:=Below.refl w.heap.size w
 have hE:hasE l x=0:=by unfold hasE;rw[slots_has h.ids,hh];rfl
 have HE:=Lib.hid hE
 have HM:Hid (∀W:World,Below w.heap.size w W→(∃n:Nat,(n:Int)≤m∧Mp W mp n (gOf L bl))∧W.cell? ⟨fp,1,none⟩=some (.map (some mp))):=Lib.hid fun W hW=>⟨(hf.below hW).mpp,(hf.below hW).c1⟩
 have HD:Hid (∀(W w2:World) (n:Nat),Below w.heap.size w W→(n:Int)≤m→Mp W mp n (gOf L bl)→Mp w2 mp n (fun y=>if y=x then none else gOf L bl y)→W.grownBy w2 (some mp)→w2.cell? ⟨fp,0,none⟩=some (.pointer (some ⟨tp,0,none⟩))∧
   Calls Tryz.prog 85 #[.pointer (some ⟨tp,0,none⟩),.int .i64 x] w2 fun e w'=>e= .returned (.int .i64 0)∧(∃l',l'.length=l.length∧IsF w' B fp (delG L x) l' m (k+1))∧Wr [118,144,3] B w w'):=Lib.hid fun W w2 n hW hn hm hm2 hg=>by
  have hfW:=hf.below hW
  have hf2:=hfW.less h.ok hh hn hm hm2 hg
  refine⟨hf2.c0,(Drop_any tp tg l m x w2 hf2.tab h.tok.n64).mono ?_⟩
  rintro e w' ⟨rfl,ht,ho⟩
  rw[hE]
  refine⟨rfl,⟨dropL l x,by unfold dropL;split<;>simp,⟨tp,tg,mp,bl,hf2.tabs ho ht,hB.1,hB.2.1,hB.2.2.1,fun y hy=>?_⟩,h.tok.drop x,slots_del h.ok h.tok h.ids hh,h.ok.del hk hh hfa⟩,((Wr.of_below hW).trans (map_wr hg hm hB.2.2.1)).trans (tab_eq_wr ho hf2.tab hB.1 hB.2.1)⟩
  rw[del_has h.ok hh,Bool.and_eq_true] at hy
  exact hB.2.2.2 y hy.1
 have q0:=(hf.grp x hh).c0
 have hpa2:=beq_ff (show ¬(gr L x).pa= -1 by omega)
 have hfz:fanI L x≤0:=by omega
 clear h hf hB hk hh hc hE hp hfa
 generalize (gr L x).pa=pa at *
 go_enter Tryz.func45,Tryz.ntmps45
 go_wp2_with (first | (go_at_call 83;refine(HR.out.fan _ _ (by assumption) HH.out (by assumption)).mono ?_;rintro e wi ⟨rfl,hbi⟩;obtain⟨⟨n,hn,hm⟩,hc1⟩:=HM.out wi hbi) | (at_delete;refine wpList_delG rfl _ _ rfl rfl hm rfl hx ?_;intro w2 hm2 hg2;obtain⟨hc0,hD⟩:=HD.out wi w2 n hbi hn hm hm2 hg2;have HD2:=Lib.hid hD;clear hD) | (go_at_call 85;refine HD2.out.mono ?_;rintro e w3 ⟨rfl,hF,hW⟩))
 go_ret
 rw[HC.out,HN.out]
 exact⟨rfl,hF,hW⟩
theorem DropF_any (x:Int) (w:World) (h:IsF w B fp L l m k) (hx:I64 x) (hk:k<1000):
  Calls Tryz.prog 45 #[.pointer (some ⟨fp,0,none⟩),.int .i64 x] w fun e w'=>e= .returned (.int .i64 (dropC L x))∧(∃l',l'.length=l.length∧IsF w' B fp (dropN L x) l' m (k+1))∧Wr [118,144,3] B w w':=by
 cases hh:has L x with
 | false=>exact DropF_no fp B L l m k x w h hx hk hh
 | true=>
 rcases h.ok.pa hh with hp | hp
 ·exact DropF_root fp B L l m k x w h hx hk hh hp
 have hp2:0≤(gr L x).pa:=by have:=h.ok.id hp;omega
 by_cases hf:0<fanI L x
 ·exact DropF_busy fp B L l m k x w h hx hk hh hp2 hf
 ·exact DropF_yes fp B L l m k x w h hx hk hh hp2 hf
theorem NewF_yes (n:Nat) (w:World) (h1:1≤n) (h2:n≤64):
  Calls Tryz.prog 22 #[.int .i64 (n:Int)] w fun e w'=>(∃fp l,e= .returned (.tuple #[.pointer (some ⟨fp,0,none⟩),.int .i64 0])∧l.length=n∧IsF w' w.heap.size fp [] l 0 0)∧Below w.heap.size w w':=by
 have HN:=Lib.hid (New_yes n w h1 h2)
 have h4: ¬ 64<(n:Int):=by omega
 have HT:=Lib.hid (TabOk.new h1 h2)
 have hmm:= @run_makeMap Tryz.prog
 clear h1 h2
 go_enter Tryz.func22,Tryz.ntmps22
 go_wp2_with (go_at_call 41;refine HN.out.mono ?_;rintro e w1 ⟨⟨tp,tg,rfl,ht,hp,hg⟩,hb⟩)
 go_ret2
 have hs1:=hb.size
 have hb1:Below w1.heap.size w1 (w1.alloc (.map #[] 0)):=(Below.refl _ w1).alloc (Nat.le_refl _) _
 have hb2:Below w1.heap.size w1 ((w1.alloc (.map #[] 0)).alloc (.cells #[.pointer (some ⟨tp,0,none⟩),.map (some w1.heap.size)] 106)):=hb1.alloc (by simp) _
 have hm:=Mp.made w1
 have hm2:=hm.same (heap_alloc_old (w1.alloc (.map #[] 0)) (.cells #[.pointer (some ⟨tp,0,none⟩),.map (some w1.heap.size)] 106) hm.lt)
 have hF:=heap_alloc_new (w1.alloc (.map #[] 0)) (.cells #[.pointer (some ⟨tp,0,none⟩),.map (some w1.heap.size)] 106)
 refine⟨⟨(w1.alloc (.map #[] 0)).heap.size,List.replicate n 0,by simp,by simp,⟨⟨tp,tg,w1.heap.size,fun _=>0,⟨hF,ht.belowS hb2,⟨0,by omega,?_⟩,fun x hx=>?_,fun x y hx=>?_⟩,hp,hg,hs1,fun x hx=>?_⟩,HT.out,?_,?_⟩⟩,Below.stay hb hb2⟩
 ·have e:gOf [] (fun _=>0)=fun _=>none:=by funext x;simp[gOf,has,pos]
  rw[e]
  exact hm2
 ·simp[has,pos] at hx
 ·simp[has,pos] at hx
 ·simp[has,pos] at hx
 ·refine List.eq_nil_iff_forall_not_mem.2 fun x hx=>?_
  have:=mem_ids.1 hx
  rw[List.mem_replicate] at this
  exact this.2 this.1.2
 ·refine⟨by simp[idsG],fun g hg=>by simp at hg,fun g hg=>by simp at hg,by omega,by omega,by omega,fun g hg=>by simp at hg,fun g hg=>by simp at hg,fun x=>?_,by simp⟩
  rw[pth_no (by simp[has,pos])]
  simp
end
end Go.Proofs.YtohifgjeebhijaaGreatDoor
namespace Go.Proofs.YtohifgjeebhijaaGreatDoor
set_option maxRecDepth 100000
set_option maxHeartbeats 4000000
open Go.RowKit Go.Maps
section
variable (fp B:Nat) (L:List Gr) (l:List Int) (m k:Int)
theorem Group_no (x:Int) (w:World) (h:IsF w B fp L l m k) (hx:I64 x) (hh:has L x=false):
  Calls Tryz.prog 97 #[.pointer (some ⟨fp,0,none⟩),.int .i64 x] w fun e w'=>e= .returned (.tuple #[.agg (cellsU 0 0 0 0 0 0 0),.int .i64 4])∧Below w.heap.size w w':=by
 obtain⟨tp,tg,mp,bl,hf,hB⟩:=h.fo
 have hb1:Below w.heap.size w (w.alloc (.cells #[.int .i64 0,.int .i64 0,.int .i64 0,.int .i64 0,.int .i64 0,.int .i64 0,.int .i64 0] 158)):=(Below.refl _ w).alloc (Nat.le_refl _) _
 have hf1:=hf.below hb1
 have h1:=hf1.c1
 have HL:=hf1.lookN hx hh
 have hZ:Blk (w.alloc (.cells #[.int .i64 0,.int .i64 0,.int .i64 0,.int .i64 0,.int .i64 0,.int .i64 0,.int .i64 0] 158)) w.heap.size 158 (cellsU 0 0 0 0 0 0 0):=Blk.new w 158 _
 clear h hf hB hf1 hh
 go_enter Tryz.func97,Tryz.ntmps97
 go_wp2_with (first | (refine wpList_alloc44 rfl rfl ?_;generalize w.alloc (.cells #[.int .i64 0,.int .i64 0,.int .i64 0,.int .i64 0,.int .i64 0,.int .i64 0,.int .i64 0] 158)=w1 at *) | (refine wpList_store44 rfl _ _ rfl w.heap.size 0 0 0 0 0 0 0 rfl rfl hZ rfl ?_;intro w2 hZ2 t2))
 refine bodyPost_ret (resultsU_ct rfl _ w2 w.heap.size 0 0 0 0 0 0 0 _ rfl rfl hZ2) rfl ?_
 exact⟨rfl,hb1.trans (t2.below (Nat.le_refl _))⟩
theorem Group_yes (x:Int) (w:World) (h:IsF w B fp L l m k) (hx:I64 x) (hh:has L x=true):
  Calls Tryz.prog 97 #[.pointer (some ⟨fp,0,none⟩),.int .i64 x] w fun e w'=>e= .returned (.tuple #[.agg (cellsU x (gr L x).pa (gr L x).wt (dep L x) (topI L x) (gr L x).me (gr L x).aw),.int .i64 0])∧Below w.heap.size w w':=by
 obtain⟨tp,tg,mp,bl,hf,hB⟩:=h.fo
 have hb1:Below w.heap.size w (w.alloc (.cells #[.int .i64 0,.int .i64 0,.int .i64 0,.int .i64 0,.int .i64 0,.int .i64 0,.int .i64 0] 158)):=(Below.refl _ w).alloc (Nat.le_refl _) _
 have hf1:=hf.below hb1
 have h1:=hf1.c1
 have HL:=hf1.lookY hx hh
 have hZ:Blk (w.alloc (.cells #[.int .i64 0,.int .i64 0,.int .i64 0,.int .i64 0,.int .i64 0,.int .i64 0,.int .i64 0] 158)) w.heap.size 158 (cellsU 0 0 0 0 0 0 0):=Blk.new w 158 _
 have HX:Hid (∀X,Below w.heap.size w X→X.cell? ⟨bl x,0,none⟩=some (.int .i64 (gr L x).pa)∧X.cell? ⟨bl x,1,none⟩=some (.int .i64 (gr L x).wt)∧X.cell? ⟨bl x,2,none⟩=some (.int .i64 (gr L x).me)∧X.cell? ⟨bl x,3,none⟩=some (.int .i64 (gr L x).aw)):=Lib.hid fun X hX=>
  ⟨((hf.below hX).grp x hh).c0,((hf.below hX).grp x hh).c1,((hf.below hX).grp x hh).c2,((hf.below hX).grp x hh).c3⟩
 have HD:Hid (∀W,Below w.heap.size w W→Calls Tryz.prog 82 #[.pointer (some ⟨fp,0,none⟩),.int .i64 x] W fun e w'=>e= .returned (.int .i64 (dep L x))∧Below W.heap.size W w'):=Lib.hid fun W hW=>depth_any fp B L l m k x W (h.below hW) hx
 have HT:Hid (∀W,Below w.heap.size w W→Calls Tryz.prog 86 #[.pointer (some ⟨fp,0,none⟩),.int .i64 x] W fun e w'=>e= .returned (.int .i64 (topI L x))∧Below W.heap.size W w'):=Lib.hid fun W hW=>root_any fp B L l m k x W (h.below hW) hx hh
 clear h hf hB hf1 hh
 generalize (gr L x).pa=pa at *
 generalize (gr L x).wt=wt at *
 generalize (gr L x).me=me at *
 generalize (gr L x).aw=aw at *
 generalize dep L x=d at *
 generalize topI L x=r at *
 go_enter Tryz.func97,Tryz.ntmps97
 go_wp2_with (refine wpList_alloc44 rfl rfl ?_;generalize w.alloc (.cells #[.int .i64 0,.int .i64 0,.int .i64 0,.int .i64 0,.int .i64 0,.int .i64 0,.int .i64 0] 158)=w1 at *)
 have hq:Below w.heap.size w w1.drew:=Below.drewS hb1
 have hZ2:=hZ.drew
 refine Rd.region (fun X=>Below w.heap.size w X) 26 [0,1,2,3,4,5,6,7,8,9,10,12,13,15,16,17,18,19,20,21,22,23,25] [0,1,2,3,4,5,6,7,8,9,10,12,13,15,16,17,18,19,20,21,22,11,14,23,24,25] (by kernel_rfl) (by kernel_rfl) (by kernel_rfl) (by kernel_rfl) rfl hq ?_
 clear HL h1
 refine Rd.seq_float (.int .i64 x) (by simp only[gA,gC];rfl) rfl (by rfl) (fun X _=>by go_simp) ?_
 simp only[Act.put,sA,sB,sC]
 refine Rd.seq_float (.pointer (some ⟨bl x,0,none⟩)) (by simp only[gA,gB,gC];rfl) rfl (by rfl) (fun X _=>by go_simp) ?_
 simp only[Act.put,sA,sB,sC]
 refine Rd.seq_float (.pointer (some ⟨bl x,0,none⟩)) (by simp only[gA,gB,gC];rfl) rfl (by rfl) (fun X _=>by go_simp) ?_
 simp only[Act.put,sA,sB,sC]
 refine Rd.seq_float (.pointer (some ⟨bl x,0,none⟩)) (by simp only[gA,gB,gC];rfl) rfl (by rfl) (fun X _=>by go_simp) ?_
 simp only[Act.put,sA,sB,sC]
 refine Rd.seq_float (.int .i64 pa) (by simp only[gA,gB,gC];rfl) rfl (by rfl) (fun X hX=>by obtain⟨e0,e1,e2,e3⟩:=HX.out X hX;go_simp) ?_
 simp only[Act.put,sA,sB,sC]
 refine Rd.seq_float (.pointer (some ⟨bl x,0,none⟩)) (by simp only[gA,gB,gC];rfl) rfl (by rfl) (fun X _=>by go_simp) ?_
 simp only[Act.put,sA,sB,sC]
 refine Rd.seq_float (.pointer (some ⟨bl x,0,none⟩)) (by simp only[gA,gB,gC];rfl) rfl (by rfl) (fun X _=>by go_simp) ?_
 simp only[Act.put,sA,sB,sC]
 refine Rd.seq_float (.pointer (some ⟨bl x,1,none⟩)) (by simp only[gA,gB,gC];rfl) rfl (by rfl) (fun X _=>by go_simp) ?_
 simp only[Act.put,sA,sB,sC]
 refine Rd.seq_float (.int .i64 wt) (by simp only[gA,gB,gC];rfl) rfl (by rfl) (fun X hX=>by obtain⟨e0,e1,e2,e3⟩:=HX.out X hX;go_simp) ?_
 simp only[Act.put,sA,sB,sC]
 refine Rd.seq_float (.pointer (some ⟨fp,0,none⟩)) (by simp only[gA,gB,gC];rfl) rfl (by rfl) (fun X _=>by go_simp) ?_
 simp only[Act.put,sA,sB,sC]
 refine Rd.seq_float (.int .i64 x) (by simp only[gA,gB,gC];rfl) rfl (by rfl) (fun X _=>by go_simp) ?_
 simp only[Act.put,sA,sB,sC]
 refine Rd.seq_float (.pointer (some ⟨fp,0,none⟩)) (by simp only[gA,gB,gC];rfl) rfl (by rfl) (fun X _=>by go_simp) ?_
 simp only[Act.put,sA,sB,sC]
 refine Rd.seq_float (.int .i64 x) (by simp only[gA,gB,gC];rfl) rfl (by rfl) (fun X _=>by go_simp) ?_
 simp only[Act.put,sA,sB,sC]
 refine Rd.seq_float (.pointer (some ⟨bl x,0,none⟩)) (by simp only[gA,gB,gC];rfl) rfl (by rfl) (fun X _=>by go_simp) ?_
 simp only[Act.put,sA,sB,sC]
 refine Rd.seq_float (.pointer (some ⟨bl x,0,none⟩)) (by simp only[gA,gB,gC];rfl) rfl (by rfl) (fun X _=>by go_simp) ?_
 simp only[Act.put,sA,sB,sC]
 refine Rd.seq_float (.pointer (some ⟨bl x,2,none⟩)) (by simp only[gA,gB,gC];rfl) rfl (by rfl) (fun X _=>by go_simp) ?_
 simp only[Act.put,sA,sB,sC]
 refine Rd.seq_float (.int .i64 me) (by simp only[gA,gB,gC];rfl) rfl (by rfl) (fun X hX=>by obtain⟨e0,e1,e2,e3⟩:=HX.out X hX;go_simp) ?_
 simp only[Act.put,sA,sB,sC]
 refine Rd.seq_float (.pointer (some ⟨bl x,0,none⟩)) (by simp only[gA,gB,gC];rfl) rfl (by rfl) (fun X _=>by go_simp) ?_
 simp only[Act.put,sA,sB,sC]
 refine Rd.seq_float (.pointer (some ⟨bl x,0,none⟩)) (by simp only[gA,gB,gC];rfl) rfl (by rfl) (fun X _=>by go_simp) ?_
 simp only[Act.put,sA,sB,sC]
 refine Rd.seq_float (.pointer (some ⟨bl x,3,none⟩)) (by simp only[gA,gB,gC];rfl) rfl (by rfl) (fun X _=>by go_simp) ?_
 simp only[Act.put,sA,sB,sC]
 refine Rd.seq_float (.int .i64 aw) (by simp only[gA,gB,gC];rfl) rfl (by rfl) (fun X hX=>by obtain⟨e0,e1,e2,e3⟩:=HX.out X hX;go_simp) ?_
 simp only[Act.put,sA,sB,sC]
 refine Rd.seq_move (by simp only[gA,gB,gC];rfl) rfl (by rfl) (fun K hK=>?_)
 go_simp
 refine(HD.out _ hq).mono ?_
 rintro e w3 ⟨rfl,hb3⟩
 have hq3:=Below.stay hq hb3
 have hZ3:=hZ2.below hb3
 refine hK _ _ (fun _=>hq3) ?_
 clear hK K
 refine Rd.seq_move (by simp only[gA,gB,gC];rfl) rfl (by rfl) (fun K hK=>?_)
 go_simp
 refine(HT.out _ hq3).mono ?_
 rintro e w4 ⟨rfl,hb4⟩
 have hq4:=Below.stay hq3 hb4
 have hZ4:=hZ3.below hb4
 refine hK _ _ (fun _=>hq4) ?_
 clear hK K
 refine Rd.seq_float (.agg (cellsU x pa wt d r me aw)) (by simp only[gA,gB,gC];rfl) rfl (by rfl) (fun X _=>by kernel_rfl) ?_
 simp only[Act.put,sA,sB,sC]
 refine Rd.seq_move (by simp only[gA,gB,gC];rfl) rfl (by rfl) (fun K hK=>?_)
 refine wp_store44 _ _ rfl w.heap.size x pa wt d r me aw rfl rfl hZ4 rfl ?_
 intro w5 hZ5 t5
 have hq5:Below w.heap.size w w5:=hq4.trans (t5.below (Nat.le_refl _))
 refine hK _ _ (fun _=>hq5) ?_
 clear hK K
 refine Rd.seq_float (.int .i64 0) (by simp only[gA,gB,gC];rfl) rfl (by rfl) (fun X _=>by go_simp) ?_
 simp only[Act.put,sA,sB,sC]
 refine Rd.seq_end ?_
 go_wp2_with fail
 refine bodyPost_ret (resultsU_ct rfl _ w5 w.heap.size x pa wt d r me aw _ rfl rfl hZ5) rfl ?_
 exact⟨rfl,hq5⟩
end
end Go.Proofs.YtohifgjeebhijaaGreatDoor
namespace Go.Proofs.YtohifgjeebhijaaGreatDoor
set_option maxRecDepth 100000
set_option maxHeartbeats 4000000
open Go.RowKit Go.Maps
def encG (L:List Gr):List Value:=L.flatMap fun g=>(cellsE g).toList
theorem encG_len: ∀L:List Gr,(encG L).length=L.length*5
 | []=>rfl
 | g::r=>by
  have:=encG_len r
  unfold encG at this ⊢
  rw[List.flatMap_cons,List.length_append,this,List.length_cons]
  have:(cellsE g).toList.length=5:=rfl
  omega
theorem encG_cons (g:Gr) (r:List Gr):encG (g::r)=(cellsE g).toList++encG r:=rfl
theorem encG_app (a b:List Gr):encG (a++b)=encG a++encG b:=by simp[encG]
theorem encG_one: ∀(L:List Gr),∀u∈encG L,u.oneCell'=true:=by
 intro L u hu
 unfold encG at hu
 obtain⟨g,_,hu⟩:=List.mem_flatMap.1 hu
 simp[cellsE] at hu
 rcases hu with rfl | rfl | rfl | rfl | rfl<;>rfl
theorem encG_at: ∀ {L:List Gr} {j i:Nat},j<L.length→i<5→(encG L)[j*5+i]? =(cellsE (L.getD j g0))[i]?
 | [],_,_,h,_=>by simp at h
 | g::r,0,i,_,hi=>by
  rw[encG_cons,List.getElem?_append_left (by show 0*5+i<5;omega)]
  simp
 | g::r,j+1,i,h,hi=>by
  rw[encG_cons,List.getElem?_append_right (by show 5≤(j+1)*5+i;omega)]
  have:(j+1)*5+i - (cellsE g).toList.length=j*5+i:=by show (j+1)*5+i - 5=j*5+i;omega
  rw[this,encG_at (L:=r) (by simpa using h) hi]
  simp
def Cl (w:World) (b off:Nat) (L:List Gr):Prop:=b<w.heap.size∧∀j v,(encG L)[j]? =some v→w.cell? ⟨b,off+j,none⟩=some v
section
variable {w w':World} {b off:Nat} {L:List Gr}
theorem Cl.below (h:Cl w b off L) (hb:Below w.heap.size w w'):Cl w' b off L:=⟨Nat.lt_of_lt_of_le h.1 hb.size,fun j v hj=>(hb.cell (p:=⟨b,off+j,none⟩) h.1).trans (h.2 j v hj)⟩
theorem Cl.at (h:Cl w b 0 L) {j i:Nat} (hj:j<L.length) (hi:i<5):w.cell? ⟨b,j*5+i,none⟩=(cellsE (L.getD j g0))[i]? :=by
 have e:=encG_at hj hi
 have:i<(cellsE (L.getD j g0)).size:=hi
 rw[Array.getElem?_eq_getElem this] at e ⊢
 have:=h.2 _ _ e
 rwa [Nat.zero_add] at this
theorem Cl.id (h:Cl w b 0 L) {j:Nat} (hj:j<L.length):w.cell? ⟨b,j*5,none⟩=some (.int .i64 (L.getD j g0).id):=h.at hj (i:=0) (by omega)
theorem Cl.pa (h:Cl w b 0 L) {j:Nat} (hj:j<L.length):w.cell? ⟨b,j*5+1,none⟩=some (.int .i64 (L.getD j g0).pa):=h.at hj (i:=1) (by omega)
theorem Cl.wt (h:Cl w b 0 L) {j:Nat} (hj:j<L.length):w.cell? ⟨b,j*5+2,none⟩=some (.int .i64 (L.getD j g0).wt):=h.at hj (i:=2) (by omega)
theorem Cl.me (h:Cl w b 0 L) {j:Nat} (hj:j<L.length):w.cell? ⟨b,j*5+3,none⟩=some (.int .i64 (L.getD j g0).me):=h.at hj (i:=3) (by omega)
theorem Cl.aw (h:Cl w b 0 L) {j:Nat} (hj:j<L.length):w.cell? ⟨b,j*5+4,none⟩=some (.int .i64 (L.getD j g0).aw):=h.at hj (i:=4) (by omega)
theorem Cl.range (h:Cl w b 0 L) {j:Nat} (hj:j<L.length):w.rangeAt b (j*5) (cellsE (L.getD j g0)).toList:=by
 intro i v hi
 have h5:i<5:=(List.getElem?_eq_some_iff.1 hi).1
 rw[h.at hj h5]
 simpa using hi
end
def RowG (w:World) (v:Value) (L:List Gr):Prop:=w.ownsRow 0 56 5 v L.length (encG L)
section
variable {w w':World} {v:Value} {L:List Gr}
theorem RowG.sl (h:RowG w v L): ∃a c,v= .slice a L.length c:=by
 rcases h.2 with ⟨rfl,h1⟩ | ⟨g,cap,cur,rfl,_⟩
 ·exact⟨none,0,by rw[h1]⟩
 ·exact⟨_,cap,rfl⟩
theorem RowG.same (h:RowG w v L) (hs: ∀(b:Nat) (cur:Array Value),w.heap[b]? =some (Obj.cells cur 56 (0,0))→w'.heap[b]? =w.heap[b]?):RowG w' v L:=by
 refine⟨h.1,?_⟩
 rcases h.2 with ⟨rfl,h1⟩ | ⟨g,cap,cur,rfl,hbg,hg,h3⟩
 ·exact .inl ⟨rfl,h1⟩
 ·exact .inr ⟨g,cap,cur,rfl,hbg,by rw[hs g cur hg];exact hg,h3⟩
theorem RowG.below (h:RowG w v L) (hb:Below w.heap.size w w'):RowG w' v L:=h.same fun b _ hg=>hb.block b (Array.getElem?_eq_some_iff.1 hg).1
theorem RowG.alloc (h:RowG w v L) (o:Obj):RowG (w.alloc o) v L:=h.below ((Below.refl _ w).alloc (Nat.le_refl _) o)
theorem RowG.wr {ts:List Nat} {B:Nat} (h:RowG w v L) (hw:Wr ts B w w') (ht:56∉ts):RowG w' v L:=h.same fun b cur hg=>hw.typ b cur 56 (0,0) hg ht
theorem RowG.turn {d t:Nat} {cs:Array Value} (h:RowG w v L) (ht:Turn d w w') (hd:Blk w d t cs) (hne:t≠56):RowG w' v L:=h.same fun b cur hb=>ht.block b (by
 rintro rfl
 unfold Blk at hd
 rw[hb] at hd
 injection hd with h1
 injection h1 with _ h2 _
 exact hne h2.symm)
theorem RowG.nil (w:World):RowG w (.slice none 0 0) []:=World.ownsRow_nil _ _ _ _
theorem RowG.form {a:Option Addr} {n c:Nat} (h:RowG w (.slice a n c) L):n=L.length∧L.length≤c∧((a=none∧c=0∧L=[])∨∃b,a=some ⟨b,0,none⟩∧Cl w b 0 L∧∃cur,w.heap[b]? =some (.cells cur 56 (0,0))∧cur.size=c*5):=by
 rcases h.2 with ⟨e,h1⟩ | ⟨g,cap,cur,e,_,hg,h3,h4,h5,htake⟩
 ·cases e
  exact⟨h1.symm,by omega,.inl ⟨rfl,rfl,List.length_eq_zero_iff.1 h1⟩⟩
 ·cases e
  refine⟨rfl,h3,.inr ⟨g,rfl,⟨(Array.getElem?_eq_some_iff.1 hg).1,fun j v hj=>?_⟩,cur,hg,h5⟩⟩
  rw[cell_of_row w g _ _ 56 (0,0) hg,Nat.zero_add,←hj,←htake,List.getElem?_take_of_lt (by have:=(List.getElem?_eq_some_iff.1 hj).1;rw[encG_len] at this;exact this)]
  simp
theorem RowG.at {a:Option Addr} {n c:Nat} (h:RowG w (.slice a n c) L) {j:Nat} (hj:j<L.length): ∃b,a=some ⟨b,0,none⟩∧Cl w b 0 L:=by
 rcases h.form.2.2 with ⟨_,_,rfl⟩ | ⟨b,e,hc,_⟩
 ·simp at hj
 ·exact⟨b,e,hc⟩
end
def DocF (w:World) (v:Value) (r m:Int) (L:List Gr):Prop:=∃a c,v= .agg (cellsF r m (.slice a L.length c))∧RowG w (.slice a L.length c) L
section
variable {w w':World} {v:Value} {r m:Int} {L:List Gr}
theorem DocF.below (h:DocF w v r m L) (hb:Below w.heap.size w w'):DocF w' v r m L:=by
 obtain⟨a,c,e,h⟩:=h
 exact⟨a,c,e,h.below hb⟩
theorem DocF.wr {ts:List Nat} {B:Nat} (h:DocF w v r m L) (hw:Wr ts B w w') (ht:56∉ts):DocF w' v r m L:=by
 obtain⟨a,c,e,h⟩:=h
 exact⟨a,c,e,h.wr hw ht⟩
end
def atG (L:List Gr) (x:Int):Int:=if has L x=true then (pos L x:Int) else -1
theorem atG_yes {L:List Gr} {x:Int} (h:has L x=true):atG L x=(pos L x:Int):=if_pos h
theorem atG_no {L:List Gr} {x:Int} (h:has L x=false):atG L x= -1:=if_neg (by rw[h];decide)
theorem At_any (r m:Int) (a:Option Addr) (c:Nat) (L:List Gr) (x:Int) (w:World) (h:RowG w (.slice a L.length c) L) (hl:L.length≤64):
  Calls Tryz.prog 30 #[.agg (cellsF r m (.slice a L.length c)),.int .i64 x] w fun e w'=>e= .returned (.int .i64 (atG L x))∧Below w.heap.size w w':=by
 have hb:Below w.heap.size w (w.alloc (.cells (cellsF r m (.slice a L.length c)) 29)):=(Below.refl _ w).alloc (Nat.le_refl _) _
 have HR:=Lib.hid (h.alloc (.cells (cellsF r m (.slice a L.length c)) 29))
 have hB:=Blk.new w 29 (cellsF r m (.slice a L.length c))
 have h2:=cF2 hB
 have HY:Hid (∀k,k<L.length→(L.getD k g0).id=x→(∀j,j<k→¬(L.getD j g0).id=x)→atG L x=(k:Int)):=Lib.hid fun k hk e hj=>by
  have:=pos_hit hk e hj
  have:has L x=true:=by unfold has;rw[decide_eq_true_iff];omega
  rw[atG_yes this];omega
 have HN:Hid ((∀j,j<L.length→¬(L.getD j g0).id=x)→atG L x= -1):=Lib.hid fun hj=>by
  have:=pos_none hj
  have:has L x=false:=by unfold has;rw[decide_eq_false_iff_not];omega
  exact atG_no this
 clear h hB
 unfold cellsF at h2 hb HR ⊢
 go_enter Tryz.func30,Tryz.ntmps30
 go_wp2_with fail
 generalize w.alloc (.cells #[.int .i64 r,.int .i64 m,.slice a L.length c] 29)=w1 at *
 go_loop [9] (fun i=>∃k:Nat,k≤L.length∧i= .int .i64 k∧Hid (∀j,j<k→¬(L.getD j g0).id=x)) (fun i=>L.length - (intOf i).toNat)
 case atStart=>exact⟨0,by omega,rfl,Lib.hid (fun j hj=>absurd hj (Nat.not_lt_zero _))⟩
 case round=>
  obtain⟨k,hk,rfl,HB⟩:=hrel
  by_cases hlt:k<L.length
  ·obtain⟨b,rfl,hc⟩:=HR.out.at hlt
   have h0:=hc.id hlt
   clear hc
   generalize hy:(L.getD k g0).id=y at *
   have HYy:=Lib.hid hy
   clear hy
   by_cases e:y=x
   ·subst e
    go_wp2_with fail
    go_ret
    exact⟨by rw[HY.out k hlt HYy.out HB.out];rfl,hb⟩
   ·have h5:=beq_ff e
    go_wp2_with fail
    refine⟨⟨k+1,by omega,by go_num,Lib.hid (fun j hj=>?_)⟩,by simp[intOf];omega⟩
    by_cases e2:j=k
    ·subst e2;rw[HYy.out];exact e
    ·exact HB.out j (by omega)
  ·obtain rfl:k=L.length:=by omega
   go_wp2_with fail
   go_ret
   exact⟨by rw[HN.out HB.out];rfl,hb⟩
end Go.Proofs.YtohifgjeebhijaaGreatDoor
namespace Go.Proofs.YtohifgjeebhijaaGreatDoor
set_option maxRecDepth 100000
set_option maxHeartbeats 4000000
open Go.RowKit Go.Maps
theorem run_load30 {o:Oper} {a:Act} {X:World} {x:Operand} {b:Nat} {r m:Int} {v:Value} (ho:o.op= .load 29 x) (hx:a.eval x= .pointer (some ⟨b,0,none⟩)) (hw:Blk X b 29 (cellsF r m v)):(execOp a.eval o).run Tryz.prog X= .ok (.value (.agg #[.int .i64 r,.int .i64 m,v])) X:=by
 unfold execOp
 simp only[ho,hx,Instr.loadAt,Instr.sureAddr,Sem.run_bind,Sem.run_pure,Result.andThen_ok,run_loadVar_row X b 29 29 _ (0,0) _ hw Tryz.underlying29 rfl Tryz.info29]
 rfl
structure Rdd (w1:World) (b0 b c:Nat) (r m:Int) (L:List Gr):Prop where
 box: ∀X,Below w1.heap.size w1 X→Blk X b0 29 (cellsF r m (.slice (some ⟨b,0,none⟩) L.length c))
 cl: ∀X,Below w1.heap.size w1 X→Cl X b 0 L
 at': ∀(y:Int) X,Below w1.heap.size w1 X→Calls Tryz.prog 30 #[.agg #[.int .i64 r,.int .i64 m,.slice (some ⟨b,0,none⟩) L.length c],.int .i64 y] X fun e w'=>e= .returned (.int .i64 (atG L y))∧Below w1.heap.size w1 w'
theorem Rdd.of {w:World} {r m:Int} {a:Option Addr} {c:Nat} {L:List Gr} (h:RowG w (.slice a L.length c) L) (hl:L.length≤64) (hne:0<L.length): ∃b,a=some ⟨b,0,none⟩∧Rdd (w.alloc (.cells #[.int .i64 r,.int .i64 m,.slice (some ⟨b,0,none⟩) L.length c] 29)) w.heap.size b c r m L:=by
 obtain⟨b,rfl,hc⟩:=h.at hne
 have hB:=Blk.new w 29 (cellsF r m (.slice (some ⟨b,0,none⟩) L.length c))
 have h1:=h.alloc (.cells #[.int .i64 r,.int .i64 m,.slice (some ⟨b,0,none⟩) L.length c] 29)
 have hb:Below w.heap.size w (w.alloc (.cells #[.int .i64 r,.int .i64 m,.slice (some ⟨b,0,none⟩) L.length c] 29)):=(Below.refl _ w).alloc (Nat.le_refl _) _
 refine⟨b,rfl,fun X hX=>hB.below hX,fun X hX=>(hc.below hb).below hX,fun y X hX=>?_⟩
 refine(At_any r m _ c L y X (h1.below hX) hl).mono ?_
 rintro e w' ⟨rfl,hb'⟩
 exact⟨rfl,Below.stay hX hb'⟩
theorem has_pos_len {L:List Gr} {x:Int} (h:has L x=true):0<L.length:=by have:=has_pos h;omega
section
variable (r m:Int) (a:Option Addr) (c:Nat) (L:List Gr)
theorem rDepth_any (x:Int) (m0 k:Int) (w:World) (h:RowG w (.slice a L.length c) L) (ok:Ok L m0 k) (hh:has L x=true):
  Calls Tryz.prog 31 #[.agg (cellsF r m (.slice a L.length c)),.int .i64 x] w fun e w'=>e= .returned (.int .i64 (dep L x))∧Below w.heap.size w w':=by
 have hne:=has_pos_len hh
 have n64:=ok.n64
 obtain⟨b,rfl,hR⟩:=Rdd.of (r:=r) (m:=m) h ok.n64 hne
 have hb1:Below w.heap.size w (w.alloc (.cells #[.int .i64 r,.int .i64 m,.slice (some ⟨b,0,none⟩) L.length c] 29)):=(Below.refl _ w).alloc (Nat.le_refl _) _
 have OK:=Lib.hid ok
 have HR:=Lib.hid hR
 clear h ok hR hne
 unfold cellsF
 go_enter Tryz.func31,Tryz.ntmps31
 go_wp2_with fail
 generalize w.alloc (.cells #[.int .i64 r,.int .i64 m,.slice (some ⟨b,0,none⟩) L.length c] 29)=w1 at *
 go_loopw [1,5] (fun i v wr=>∃y n:Int,i= .int .i64 y∧v= .int .i64 n∧Hid (y= -1∨has L y=true)∧Hid (n+dep L y=dep L x)∧Below w1.heap.size w1 wr∧0≤n) (fun i _ _=>(pth L (intOf i)).length)
 case atStart=>exact⟨x,0,rfl,rfl,Lib.hid (.inr hh),Lib.hid (by omega),Below.refl _ _,Int.le_refl _⟩
 case round=>
  clear hh
  obtain⟨y,n,rfl,rfl,HY,HN,hb,hn⟩:=hrel
  have hd:=OK.out.dep8 x
  have hd2:=OK.out.dep8 y
  have hn8:n≤8:=by have:=HN.out;omega
  clear hd hd2
  cases hh:has L y with
  | false=>
   obtain rfl:y= -1:=by
    rcases HY.out with e | e
    ·exact e
    ·rw[hh] at e;cases e
   have HE:Hid (n=dep L x):=Lib.hid (by have:=HN.out;unfold dep at this ⊢;rw[pth_no hh] at this;simp at this;exact this)
   clear hh
   go_wp2_with fail
   go_ret
   rw[←HE.out]
   exact⟨rfl,hb1.trans (hb.mono hb1.size)⟩
  | true=>
   have hy:=OK.out.id hh
   have hj:=has_pos hh
   have HJ:Hid (atG L y=(pos L y:Int)):=Lib.hid (atG_yes hh)
   have HV:Hid (∀X,Below w1.heap.size w1 X→X.cell? ⟨b,pos L y*5+1,none⟩=some (.int .i64 (gr L y).pa)):=Lib.hid fun X hX=>(HR.out.cl X hX).pa hj
   have HP:=Lib.hid (OK.out.pa hh)
   have HD:Hid (n+1+dep L (gr L y).pa=dep L x):=Lib.hid (by have:=HN.out;have:=OK.out.dep hh;omega)
   have HM:Hid ((pth L (gr L y).pa).length<(pth L y).length):=Lib.hid (by rw[OK.out.yes hh,List.length_cons];omega)
   clear hh
   generalize (gr L y).pa=pa at *
   generalize pos L y=j at *
   have hy0:0≤y:=by omega
   clear hy
   go_wp2_with fail
   have hq:Below w1.heap.size w1 wr.drew:=Below.drewS hb
   refine Rd.region (fun X=>Below w1.heap.size w1 X) 9 [0,1,2,3,5,6,7,8] [0,1,2,3,4,5,6,7,8] (by kernel_rfl) (by kernel_rfl) (by kernel_rfl) (by kernel_rfl) rfl hq ?_
   refine Rd.seq_float (.pointer (some ⟨w.heap.size,2,none⟩)) (by simp only[gA,gC];rfl) rfl (by rfl) (fun X _=>by go_simp) ?_
   simp only[Act.put,sA,sB,sC]
   refine Rd.seq_float (.slice (some ⟨b,0,none⟩) L.length c) (by simp only[gA,gB,gC];rfl) rfl (by rfl) (fun X hX=>by have e2:=cF2 (HR.out.box X hX);go_simp) ?_
   simp only[Act.put,sA,sB,sC]
   refine Rd.seq_float (.agg #[.int .i64 r,.int .i64 m,.slice (some ⟨b,0,none⟩) L.length c]) (by simp only[gA,gB,gC];rfl) rfl (by rfl) (fun X hX=>run_load30 rfl rfl (HR.out.box X hX)) ?_
   simp only[Act.put,sA,sB,sC]
   refine Rd.seq_float (.int .i64 y) (by simp only[gA,gB,gC];rfl) rfl (by rfl) (fun X _=>by go_simp) ?_
   simp only[Act.put,sA,sB,sC]
   refine Rd.seq_move (by simp only[gA,gB,gC];rfl) rfl (by rfl) (fun K hK=>?_)
   go_simp
   refine(HR.out.at' _ _ hq).mono ?_
   rw[HJ.out]
   rintro e w3 ⟨rfl,hb3⟩
   refine hK _ _ (fun _=>hb3) ?_
   clear hK K
   refine Rd.seq_float (.pointer (some ⟨b,j*5,none⟩)) (by simp only[gA,gB,gC];rfl) rfl (by rfl) (fun X _=>by first | (go_simp;done) | (go_simp;intro hx;omega)) ?_
   simp only[Act.put,sA,sB,sC]
   refine Rd.seq_float (.pointer (some ⟨b,j*5+1,none⟩)) (by simp only[gA,gB,gC];rfl) rfl (by rfl) (fun X _=>by go_simp) ?_
   simp only[Act.put,sA,sB,sC]
   refine Rd.seq_float (.int .i64 pa) (by simp only[gA,gB,gC];rfl) rfl (by rfl) (fun X hX=>by have e2:=HV.out X hX;go_simp) ?_
   simp only[Act.put,sA,sB,sC]
   refine Rd.seq_float (.int .i64 pa) (by simp only[gA,gB,gC];rfl) rfl (by rfl) (fun X _=>by go_simp) ?_
   simp only[Act.put,sA,sB,sC]
   refine Rd.seq_end ?_
   go_wp2_with fail
   exact⟨⟨pa,n+1,rfl,rfl,HP,HD,hb3,by omega⟩,HM.out⟩
theorem rBelow_any (x t:Int) (m0 k:Int) (w:World) (h:RowG w (.slice a L.length c) L) (ok:Ok L m0 k) (hh:has L x=true):
  Calls Tryz.prog 16 #[.agg (cellsF r m (.slice a L.length c)),.int .i64 x,.int .i64 t] w fun e w'=>e= .returned (.bool (belowB L x t))∧Below w.heap.size w w':=by
 have hne:=has_pos_len hh
 have n64:=ok.n64
 obtain⟨b,rfl,hR⟩:=Rdd.of (r:=r) (m:=m) h ok.n64 hne
 have hb1:Below w.heap.size w (w.alloc (.cells #[.int .i64 r,.int .i64 m,.slice (some ⟨b,0,none⟩) L.length c] 29)):=(Below.refl _ w).alloc (Nat.le_refl _) _
 have OK:=Lib.hid ok
 have HR:=Lib.hid hR
 clear h ok hR hne
 unfold cellsF
 go_enter Tryz.func16,Tryz.ntmps16
 go_wp2_with fail
 generalize w.alloc (.cells #[.int .i64 r,.int .i64 m,.slice (some ⟨b,0,none⟩) L.length c] 29)=w1 at *
 go_loopw [1] (fun i wr=>∃y:Int,i= .int .i64 y∧Hid (y= -1∨has L y=true)∧Hid (belowB L x t=belowB L y t)∧Below w1.heap.size w1 wr) (fun i _=>(pth L (intOf i)).length)
 case atStart=>exact⟨x,rfl,Lib.hid (.inr hh),Lib.hid rfl,Below.refl _ _⟩
 case round=>
  clear hh
  obtain⟨y,rfl,HY,HN,hb⟩:=hrel
  cases hh:has L y with
  | false=>
   obtain rfl:y= -1:=by
    rcases HY.out with e | e
    ·exact e
    ·rw[hh] at e;cases e
   have HE:Hid (belowB L x t=false):=Lib.hid (by rw[HN.out];exact below_no hh t)
   clear hh
   go_wp2_with fail
   go_ret
   rw[HE.out]
   exact⟨rfl,hb1.trans (hb.mono hb1.size)⟩
  | true=>
   have hy:=OK.out.id hh
   have hj:=has_pos hh
   have HJ:Hid (atG L y=(pos L y:Int)):=Lib.hid (atG_yes hh)
   have HV:Hid (∀X,Below w1.heap.size w1 X→X.cell? ⟨b,pos L y*5+1,none⟩=some (.int .i64 (gr L y).pa)):=Lib.hid fun X hX=>(HR.out.cl X hX).pa hj
   have HP:=Lib.hid (OK.out.pa hh)
   have HS:=Lib.hid (OK.out.below_step hh t)
   have HM:Hid ((pth L (gr L y).pa).length<(pth L y).length):=Lib.hid (by rw[OK.out.yes hh,List.length_cons];omega)
   clear hh
   have hy0:0≤y:=by omega
   clear hy
   by_cases e:y=t
   ·subst e
    have HE:Hid (belowB L x y=true):=Lib.hid (by rw[HN.out,HS.out];simp)
    have hyy:(y==y)=true:=by simp
    go_wp2_with fail
    go_ret
    rw[HE.out]
    exact⟨rfl,hb1.trans (hb.mono hb1.size)⟩
   ·have HE:Hid (belowB L x t=belowB L (gr L y).pa t):=Lib.hid (by rw[HN.out,HS.out,decide_eq_false e,Bool.false_or])
    have e2:=beq_ff e
    clear HS HN e
    generalize (gr L y).pa=pa at *
    generalize pos L y=j at *
    go_wp2_with fail
    have hq:Below w1.heap.size w1 wr.drew:=Below.drewS hb
    refine Rd.region (fun X=>Below w1.heap.size w1 X) 9 [0,1,2,3,5,6,7,8] [0,1,2,3,4,5,6,7,8] (by kernel_rfl) (by kernel_rfl) (by kernel_rfl) (by kernel_rfl) rfl hq ?_
    refine Rd.seq_float (.pointer (some ⟨w.heap.size,2,none⟩)) (by simp only[gA,gC];rfl) rfl (by rfl) (fun X _=>by go_simp) ?_
    simp only[Act.put,sA,sB,sC]
    refine Rd.seq_float (.slice (some ⟨b,0,none⟩) L.length c) (by simp only[gA,gB,gC];rfl) rfl (by rfl) (fun X hX=>by have e2:=cF2 (HR.out.box X hX);go_simp) ?_
    simp only[Act.put,sA,sB,sC]
    refine Rd.seq_float (.agg #[.int .i64 r,.int .i64 m,.slice (some ⟨b,0,none⟩) L.length c]) (by simp only[gA,gB,gC];rfl) rfl (by rfl) (fun X hX=>run_load30 rfl rfl (HR.out.box X hX)) ?_
    simp only[Act.put,sA,sB,sC]
    refine Rd.seq_float (.int .i64 y) (by simp only[gA,gB,gC];rfl) rfl (by rfl) (fun X _=>by go_simp) ?_
    simp only[Act.put,sA,sB,sC]
    refine Rd.seq_move (by simp only[gA,gB,gC];rfl) rfl (by rfl) (fun K hK=>?_)
    go_simp
    refine(HR.out.at' _ _ hq).mono ?_
    rw[HJ.out]
    rintro e w3 ⟨rfl,hb3⟩
    refine hK _ _ (fun _=>hb3) ?_
    clear hK K
    refine Rd.seq_float (.pointer (some ⟨b,j*5,none⟩)) (by simp only[gA,gB,gC];rfl) rfl (by rfl) (fun X _=>by first | (go_simp;done) | (go_simp;intro hx;omega)) ?_
    simp only[Act.put,sA,sB,sC]
    refine Rd.seq_float (.pointer (some ⟨b,j*5+1,none⟩)) (by simp only[gA,gB,gC];rfl) rfl (by rfl) (fun X _=>by go_simp) ?_
    simp only[Act.put,sA,sB,sC]
    refine Rd.seq_float (.int .i64 pa) (by simp only[gA,gB,gC];rfl) rfl (by rfl) (fun X hX=>by have e2:=HV.out X hX;go_simp) ?_
    simp only[Act.put,sA,sB,sC]
    refine Rd.seq_float (.int .i64 pa) (by simp only[gA,gB,gC];rfl) rfl (by rfl) (fun X _=>by go_simp) ?_
    simp only[Act.put,sA,sB,sC]
    refine Rd.seq_end ?_
    go_wp2_with fail
    exact⟨⟨pa,rfl,HP,HE,hb3⟩,HM.out⟩
theorem rRoot_any (x:Int) (m0 k:Int) (w:World) (h:RowG w (.slice a L.length c) L) (ok:Ok L m0 k) (hh:has L x=true):
  Calls Tryz.prog 89 #[.agg (cellsF r m (.slice a L.length c)),.int .i64 x] w fun e w'=>e= .returned (.int .i64 (topI L x))∧Below w.heap.size w w':=by
 have hne:=has_pos_len hh
 have n64:=ok.n64
 obtain⟨b,rfl,hR⟩:=Rdd.of (r:=r) (m:=m) h ok.n64 hne
 have hb1:Below w.heap.size w (w.alloc (.cells #[.int .i64 r,.int .i64 m,.slice (some ⟨b,0,none⟩) L.length c] 29)):=(Below.refl _ w).alloc (Nat.le_refl _) _
 have OK:=Lib.hid ok
 have HR:=Lib.hid hR
 clear h ok hR hne
 unfold cellsF
 go_enter Tryz.func89,Tryz.ntmps89
 go_wp2_with fail
 generalize w.alloc (.cells #[.int .i64 r,.int .i64 m,.slice (some ⟨b,0,none⟩) L.length c] 29)=w1 at *
 go_loopw [1] (fun i wr=>∃y:Int,i= .int .i64 y∧Hid (has L y=true)∧Hid (topI L x=topI L y)∧Below w1.heap.size w1 wr) (fun i _=>(pth L (intOf i)).length)
 case atStart=>exact⟨x,rfl,Lib.hid hh,Lib.hid rfl,Below.refl _ _⟩
 case round=>
  clear hh
  obtain⟨y,rfl,HY,HN,hb⟩:=hrel
  have hh:=HY.out
  have hq:Below w1.heap.size w1 wr.drew:=Below.drewS hb
  have hy:=OK.out.id hh
  have hj:=has_pos hh
  have HJ:Hid (atG L y=(pos L y:Int)):=Lib.hid (atG_yes hh)
  have HV:Hid (∀X,Below w1.heap.size w1 X→X.cell? ⟨b,pos L y*5+1,none⟩=some (.int .i64 (gr L y).pa)):=Lib.hid fun X hX=>(HR.out.cl X hX).pa hj
  have HP:=Lib.hid (OK.out.pa hh)
  have HM:Hid ((pth L (gr L y).pa).length<(pth L y).length):=Lib.hid (by rw[OK.out.yes hh,List.length_cons];omega)
  rcases OK.out.pa hh with hp | hp
  ·have HE:Hid (topI L x=y):=Lib.hid (by rw[HN.out];exact OK.out.top_end hh hp)
   clear HM HP HN HY hh
   rw[hp] at HV
   clear hp
   generalize pos L y=j at *
   go_wp2_with fail
   refine Rd.region (fun X=>Below w1.heap.size w1 X) 9 [0,1,2,3,5,6,7,8] [0,1,2,3,4,5,6,7,8] (by kernel_rfl) (by kernel_rfl) (by kernel_rfl) (by kernel_rfl) rfl hq ?_
   refine Rd.seq_float (.pointer (some ⟨w.heap.size,2,none⟩)) (by simp only[gA,gC];rfl) rfl (by rfl) (fun X _=>by go_simp) ?_
   simp only[Act.put,sA,sB,sC]
   refine Rd.seq_float (.slice (some ⟨b,0,none⟩) L.length c) (by simp only[gA,gB,gC];rfl) rfl (by rfl) (fun X hX=>by have e2:=cF2 (HR.out.box X hX);go_simp) ?_
   simp only[Act.put,sA,sB,sC]
   refine Rd.seq_float (.agg #[.int .i64 r,.int .i64 m,.slice (some ⟨b,0,none⟩) L.length c]) (by simp only[gA,gB,gC];rfl) rfl (by rfl) (fun X hX=>run_load30 rfl rfl (HR.out.box X hX)) ?_
   simp only[Act.put,sA,sB,sC]
   refine Rd.seq_float (.int .i64 y) (by simp only[gA,gB,gC];rfl) rfl (by rfl) (fun X _=>by go_simp) ?_
   simp only[Act.put,sA,sB,sC]
   refine Rd.seq_move (by simp only[gA,gB,gC];rfl) rfl (by rfl) (fun K hK=>?_)
   go_simp
   refine(HR.out.at' _ _ hq).mono ?_
   rw[HJ.out]
   rintro e w3 ⟨rfl,hb3⟩
   refine hK _ _ (fun _=>hb3) ?_
   clear hK K
   refine Rd.seq_float (.pointer (some ⟨b,j*5,none⟩)) (by simp only[gA,gB,gC];rfl) rfl (by rfl) (fun X _=>by first | (go_simp;done) | (go_simp;intro hx;omega)) ?_
   simp only[Act.put,sA,sB,sC]
   refine Rd.seq_float (.pointer (some ⟨b,j*5+1,none⟩)) (by simp only[gA,gB,gC];rfl) rfl (by rfl) (fun X _=>by go_simp) ?_
   simp only[Act.put,sA,sB,sC]
   refine Rd.seq_float (.int .i64 (-1)) (by simp only[gA,gB,gC];rfl) rfl (by rfl) (fun X hX=>by have e2:=HV.out X hX;go_simp) ?_
   simp only[Act.put,sA,sB,sC]
   refine Rd.seq_float (.bool false) (by simp only[gA,gB,gC];rfl) rfl (by rfl) (fun X _=>by go_simp) ?_
   simp only[Act.put,sA,sB,sC]
   refine Rd.seq_end ?_
   go_wp2_with fail
   go_ret
   rw[HE.out]
   exact⟨rfl,hb1.trans (hb3.mono hb1.size)⟩
  ·have HE:Hid (topI L x=topI L (gr L y).pa):=Lib.hid (by rw[HN.out];exact OK.out.top_step hh hp)
   have hp0:0≤(gr L y).pa:=by have:=OK.out.id hp;omega
   have HPP:=Lib.hid hp
   clear HP HN HY hh hp
   generalize (gr L y).pa=pa at *
   generalize pos L y=j at *
   go_wp2_with fail
   refine Rd.region (fun X=>Below w1.heap.size w1 X) 9 [0,1,2,3,5,6,7,8] [0,1,2,3,4,5,6,7,8] (by kernel_rfl) (by kernel_rfl) (by kernel_rfl) (by kernel_rfl) rfl hq ?_
   refine Rd.seq_float (.pointer (some ⟨w.heap.size,2,none⟩)) (by simp only[gA,gC];rfl) rfl (by rfl) (fun X _=>by go_simp) ?_
   simp only[Act.put,sA,sB,sC]
   refine Rd.seq_float (.slice (some ⟨b,0,none⟩) L.length c) (by simp only[gA,gB,gC];rfl) rfl (by rfl) (fun X hX=>by have e2:=cF2 (HR.out.box X hX);go_simp) ?_
   simp only[Act.put,sA,sB,sC]
   refine Rd.seq_float (.agg #[.int .i64 r,.int .i64 m,.slice (some ⟨b,0,none⟩) L.length c]) (by simp only[gA,gB,gC];rfl) rfl (by rfl) (fun X hX=>run_load30 rfl rfl (HR.out.box X hX)) ?_
   simp only[Act.put,sA,sB,sC]
   refine Rd.seq_float (.int .i64 y) (by simp only[gA,gB,gC];rfl) rfl (by rfl) (fun X _=>by go_simp) ?_
   simp only[Act.put,sA,sB,sC]
   refine Rd.seq_move (by simp only[gA,gB,gC];rfl) rfl (by rfl) (fun K hK=>?_)
   go_simp
   refine(HR.out.at' _ _ hq).mono ?_
   rw[HJ.out]
   rintro e w3 ⟨rfl,hb3⟩
   refine hK _ _ (fun _=>hb3) ?_
   clear hK K
   refine Rd.seq_float (.pointer (some ⟨b,j*5,none⟩)) (by simp only[gA,gB,gC];rfl) rfl (by rfl) (fun X _=>by first | (go_simp;done) | (go_simp;intro hx;omega)) ?_
   simp only[Act.put,sA,sB,sC]
   refine Rd.seq_float (.pointer (some ⟨b,j*5+1,none⟩)) (by simp only[gA,gB,gC];rfl) rfl (by rfl) (fun X _=>by go_simp) ?_
   simp only[Act.put,sA,sB,sC]
   refine Rd.seq_float (.int .i64 pa) (by simp only[gA,gB,gC];rfl) rfl (by rfl) (fun X hX=>by have e2:=HV.out X hX;go_simp) ?_
   simp only[Act.put,sA,sB,sC]
   refine Rd.seq_float (.bool true) (by simp only[gA,gB,gC];rfl) rfl (by rfl) (fun X _=>by go_simp) ?_
   simp only[Act.put,sA,sB,sC]
   refine Rd.seq_end ?_
   go_wp2_with fail
   have hq2:Below w1.heap.size w1 w3.drew:=Below.drewS hb3
   refine Rd.region (fun X=>Below w1.heap.size w1 X) 9 [0,1,2,3,5,6,7,8] [0,1,2,3,4,5,6,7,8] (by kernel_rfl) (by kernel_rfl) (by kernel_rfl) (by kernel_rfl) rfl hq2 ?_
   refine Rd.seq_float (.pointer (some ⟨w.heap.size,2,none⟩)) (by simp only[gA,gC];rfl) rfl (by rfl) (fun X _=>by go_simp) ?_
   simp only[Act.put,sA,sB,sC]
   refine Rd.seq_float (.slice (some ⟨b,0,none⟩) L.length c) (by simp only[gA,gB,gC];rfl) rfl (by rfl) (fun X hX=>by have e2:=cF2 (HR.out.box X hX);go_simp) ?_
   simp only[Act.put,sA,sB,sC]
   refine Rd.seq_float (.agg #[.int .i64 r,.int .i64 m,.slice (some ⟨b,0,none⟩) L.length c]) (by simp only[gA,gB,gC];rfl) rfl (by rfl) (fun X hX=>run_load30 rfl rfl (HR.out.box X hX)) ?_
   simp only[Act.put,sA,sB,sC]
   refine Rd.seq_float (.int .i64 y) (by simp only[gA,gB,gC];rfl) rfl (by rfl) (fun X _=>by go_simp) ?_
   simp only[Act.put,sA,sB,sC]
   refine Rd.seq_move (by simp only[gA,gB,gC];rfl) rfl (by rfl) (fun K hK=>?_)
   go_simp
   refine(HR.out.at' _ _ hq2).mono ?_
   rw[HJ.out]
   rintro e w4 ⟨rfl,hb4⟩
   refine hK _ _ (fun _=>hb4) ?_
   clear hK K
   refine Rd.seq_float (.pointer (some ⟨b,j*5,none⟩)) (by simp only[gA,gB,gC];rfl) rfl (by rfl) (fun X _=>by first | (go_simp;done) | (go_simp;intro hx;omega)) ?_
   simp only[Act.put,sA,sB,sC]
   refine Rd.seq_float (.pointer (some ⟨b,j*5+1,none⟩)) (by simp only[gA,gB,gC];rfl) rfl (by rfl) (fun X _=>by go_simp) ?_
   simp only[Act.put,sA,sB,sC]
   refine Rd.seq_float (.int .i64 pa) (by simp only[gA,gB,gC];rfl) rfl (by rfl) (fun X hX=>by have e2:=HV.out X hX;go_simp) ?_
   simp only[Act.put,sA,sB,sC]
   refine Rd.seq_float (.int .i64 pa) (by simp only[gA,gB,gC];rfl) rfl (by rfl) (fun X _=>by go_simp) ?_
   simp only[Act.put,sA,sB,sC]
   refine Rd.seq_end ?_
   go_wp2_with fail
   exact⟨⟨pa,rfl,HPP,HE,hb4⟩,HM.out⟩
end
end Go.Proofs.YtohifgjeebhijaaGreatDoor
namespace Go.Proofs.YtohifgjeebhijaaGreatDoor
set_option maxRecDepth 100000
set_option maxHeartbeats 4000000
open Go.RowKit Go.Maps
theorem take_snocG {L:List Gr} {k:Nat} (h:k<L.length):L.take (k+1)=L.take k++[L.getD k g0]:=by
 rw[List.take_add_one]
 simp[List.getD,h]
theorem kids_yes {L:List Gr} {x:Int} {k:Nat} (h:k<L.length) (hp:(L.getD k g0).pa=x):kids (L.take (k+1)) x=kids (L.take k) x++[(L.getD k g0).id]:=by
 rw[take_snocG h]
 unfold kids
 rw[List.filter_append,List.map_append,List.filter_cons_of_pos (by simpa using hp)]
 rfl
theorem kids_no {L:List Gr} {x:Int} {k:Nat} (h:k<L.length) (hp: ¬(L.getD k g0).pa=x):kids (L.take (k+1)) x=kids (L.take k) x:=by
 rw[take_snocG h]
 unfold kids
 rw[List.filter_append,List.map_append,List.filter_cons_of_neg (by simpa using hp)]
 simp
section
variable (r m:Int) (a:Option Addr) (c:Nat) (L:List Gr)
theorem rKids_any (x:Int) (w:World) (h:RowG w (.slice a L.length c) L) (hl:L.length≤64) (hx:1≤x):
  Calls Tryz.prog 63 #[.agg (cellsF r m (.slice a L.length c)),.int .i64 x] w fun e w'=>(∃a' c',e= .returned (.slice a' (kids L x).length c')∧RowO w' w.heap.size (.slice a' (kids L x).length c') (kids L x))∧Below w.heap.size w w':=by
 have hb1:Below w.heap.size w (w.alloc (.cells (cellsF r m (.slice a L.length c)) 29)):=(Below.refl _ w).alloc (Nat.le_refl _) _
 have h1:=h.alloc (.cells (cellsF r m (.slice a L.length c)) 29)
 have hB:=Blk.new w 29 (cellsF r m (.slice a L.length c))
 have h2:=cF2 hB
 have HB:Hid (∀X,Below w.heap.size (w.alloc (.cells (cellsF r m (.slice a L.length c)) 29)) X→True):=Lib.hid fun _ _=>trivial
 have HX:Hid (∀X,Below (w.alloc (.cells (cellsF r m (.slice a L.length c)) 29)).heap.size (w.alloc (.cells (cellsF r m (.slice a L.length c)) 29)) X→RowG X (.slice a L.length c) L∧X.cell? ⟨w.heap.size,2,none⟩=some (.slice a L.length c)):=Lib.hid fun X hX=>⟨h1.below hX,cF2 (hB.below hX)⟩
 clear h h1 hB HB
 unfold cellsF at h2 hb1 HX ⊢
 go_enter Tryz.func63,Tryz.ntmps63
 go_wp2_with fail
 have hs1:=hb1.size
 generalize w.alloc (.cells #[.int .i64 r,.int .i64 m,.slice a L.length c] 29)=w1 at *
 go_loopw [5,10] (fun v i wr=>∃(k:Nat) (a':Option Addr) (c':Nat),k≤L.length∧i= .int .i64 k∧v= .slice a' (kids (L.take k) x).length c'∧RowO wr w1.heap.size (.slice a' (kids (L.take k) x).length c') (kids (L.take k) x)∧Below w1.heap.size w1 wr) (fun _ i _=>L.length - (intOf i).toNat)
 case atStart=>exact⟨0,none,0,by omega,rfl,rfl,RowO.nil _ _,Below.refl _ _⟩
 case round=>
  obtain⟨k,a',c',hk,rfl,rfl,hro,hb⟩:=hrel
  have h3:=(HX.out _ hb).2
  have hsz:=hb.size
  by_cases hlt:k<L.length
  ·obtain⟨b,rfl,hc⟩:=(HX.out _ hb).1.at hlt
   have hid:=hc.id hlt
   have hpa:=hc.pa hlt
   have hkl:=kids_len (L.take k) x
   have hkl2:(L.take k).length≤64:=by rw[List.length_take];omega
   clear hc
   by_cases e:(L.getD k g0).pa=x
   ·have HE:=Lib.hid (kids_yes hlt e)
    rw[e] at hpa
    clear e
    generalize (L.getD k g0).id=y at *
    generalize kids (L.take k) x=ks at *
    have hA:=OneAt.new wr y
    have hba:Below w1.heap.size w1 (wr.alloc (.cells #[.int .i64 y] 3)):=Below.allocS hb _
    have hroa:RowO (wr.alloc (.cells #[.int .i64 y] 3)) w1.heap.size (.slice a' ks.length c') ks:=hro.alloc _
    go_wp2_with (first | (refine wpList_append rfl _ _ rfl w1.heap.size (.slice a' ks.length c') _ ks [y] rfl rfl (by simp;omega) hroa hA.src (by simp;omega) ?_;intro v' w2 hro2 hg2))
    have hb2:Below w1.heap.size w1 w2:=hba.trans (grown_below hroa hba.size hg2)
    obtain⟨a2,c2,rfl⟩:=hro2.sl
    exact⟨⟨k+1,a2,c2,by omega,by go_num,by rw[HE.out],by rw[HE.out];exact hro2,hb2⟩,by simp[intOf];omega⟩
   ·have HE:=Lib.hid (kids_no hlt e)
    have e2:=beq_ff e
    generalize (L.getD k g0).pa=p at *
    go_wp2_with fail
    exact⟨⟨k+1,a',c',by omega,by go_num,by rw[HE.out],by rw[HE.out];exact hro,hb⟩,by simp[intOf];omega⟩
  ·obtain rfl:k=L.length:=by omega
   rw[List.take_length] at *
   go_wp2_with fail
   go_ret
   exact⟨⟨a',c',rfl,hro.mono hs1⟩,hb1.trans (hb.mono hs1)⟩
theorem rFan_any (x:Int) (m0 k:Int) (w:World) (h:RowG w (.slice a L.length c) L) (ok:Ok L m0 k) (hh:has L x=true):
  Calls Tryz.prog 84 #[.agg (cellsF r m (.slice a L.length c)),.int .i64 x] w fun e w'=>e= .returned (.int .i64 (fanI L x))∧Below w.heap.size w w':=by
 have hne:=has_pos_len hh
 have n64:=ok.n64
 obtain⟨b,rfl,hR⟩:=Rdd.of (r:=r) (m:=m) h ok.n64 hne
 have hb1:Below w.heap.size w (w.alloc (.cells #[.int .i64 r,.int .i64 m,.slice (some ⟨b,0,none⟩) L.length c] 29)):=(Below.refl _ w).alloc (Nat.le_refl _) _
 have hj:=has_pos hh
 have HJ:Hid (atG L x=(pos L x:Int)):=Lib.hid (atG_yes hh)
 have HV:Hid (∀X,Below (w.alloc (.cells #[.int .i64 r,.int .i64 m,.slice (some ⟨b,0,none⟩) L.length c] 29)).heap.size (w.alloc (.cells #[.int .i64 r,.int .i64 m,.slice (some ⟨b,0,none⟩) L.length c] 29)) X→X.cell? ⟨b,pos L x*5+3,none⟩=some (.int .i64 (gr L x).me)):=Lib.hid fun X hX=>(hR.cl X hX).me hj
 have HC:Hid (∀X,Below (w.alloc (.cells #[.int .i64 r,.int .i64 m,.slice (some ⟨b,0,none⟩) L.length c] 29)).heap.size (w.alloc (.cells #[.int .i64 r,.int .i64 m,.slice (some ⟨b,0,none⟩) L.length c] 29)) X→Calls Tryz.prog 63 #[.agg #[.int .i64 r,.int .i64 m,.slice (some ⟨b,0,none⟩) L.length c],.int .i64 x] X fun e w'=>(∃a' c',e= .returned (.slice a' (kids L x).length c'))∧Below (w.alloc (.cells #[.int .i64 r,.int .i64 m,.slice (some ⟨b,0,none⟩) L.length c] 29)).heap.size (w.alloc (.cells #[.int .i64 r,.int .i64 m,.slice (some ⟨b,0,none⟩) L.length c] 29)) w'):=Lib.hid fun X hX=>by
  refine(rKids_any r m _ c L x X ((h.below hb1).below hX) n64 (ok.id hh).1).mono ?_
  rintro e w' ⟨⟨a',c',rfl,_⟩,hb⟩
  exact⟨⟨a',c',rfl⟩,Below.stay hX hb⟩
 have HR:=Lib.hid hR
 have hn:=kids_len L x
 have hme:=ok.num _ (gr_mem hh)
 have hkk:=ok.k1
 unfold fanI
 clear h ok hR hne hh
 generalize (kids L x).length=n at *
 generalize (gr L x).me=me at *
 generalize pos L x=j at *
 obtain⟨n1,n2,n3,_⟩:=hme
 have HW:Hid (IntKind.i64.wrap ((n:Int)+me)=(n:Int)+me):=Lib.hid (IntWalk.i64_in _ (by omega))
 clear n1 n2 n3 hkk
 unfold cellsF
 go_enter Tryz.func84,Tryz.ntmps84
 go_wp2_with fail
 generalize w.alloc (.cells #[.int .i64 r,.int .i64 m,.slice (some ⟨b,0,none⟩) L.length c] 29)=w1 at *
 have hq:Below w1.heap.size w1 w1.drew:=(Same.drew w1).below _
 refine Rd.region (fun X=>Below w1.heap.size w1 X) 14 [0,1,3,4,5,6,7,9,10,11,12,13] [0,1,4,5,6,7,2,3,8,9,10,11,12,13] (by kernel_rfl) (by kernel_rfl) (by kernel_rfl) (by kernel_rfl) rfl hq ?_
 refine Rd.seq_float (.agg #[.int .i64 r,.int .i64 m,.slice (some ⟨b,0,none⟩) L.length c]) (by simp only[gA,gC];rfl) rfl (by rfl) (fun X hX=>run_load30 rfl rfl (HR.out.box X hX)) ?_
 simp only[Act.put,sA,sB,sC]
 refine Rd.seq_float (.int .i64 x) (by simp only[gA,gB,gC];rfl) rfl (by rfl) (fun X _=>by go_simp) ?_
 simp only[Act.put,sA,sB,sC]
 refine Rd.seq_float (.pointer (some ⟨w.heap.size,2,none⟩)) (by simp only[gA,gB,gC];rfl) rfl (by rfl) (fun X _=>by go_simp) ?_
 simp only[Act.put,sA,sB,sC]
 refine Rd.seq_float (.slice (some ⟨b,0,none⟩) L.length c) (by simp only[gA,gB,gC];rfl) rfl (by rfl) (fun X hX=>by have e2:=cF2 (HR.out.box X hX);go_simp) ?_
 simp only[Act.put,sA,sB,sC]
 refine Rd.seq_float (.agg #[.int .i64 r,.int .i64 m,.slice (some ⟨b,0,none⟩) L.length c]) (by simp only[gA,gB,gC];rfl) rfl (by rfl) (fun X hX=>run_load30 rfl rfl (HR.out.box X hX)) ?_
 simp only[Act.put,sA,sB,sC]
 refine Rd.seq_float (.int .i64 x) (by simp only[gA,gB,gC];rfl) rfl (by rfl) (fun X _=>by go_simp) ?_
 simp only[Act.put,sA,sB,sC]
 refine Rd.seq_move (by simp only[gA,gB,gC];rfl) rfl (by rfl) (fun K hK=>?_)
 go_simp
 refine(HC.out _ hq).mono ?_
 rintro e w3 ⟨⟨a',c',rfl⟩,hb3⟩
 refine hK _ _ (fun _=>hb3) ?_
 clear hK K
 refine Rd.seq_float (.int .i64 (n:Int)) (by simp only[gA,gB,gC];rfl) rfl (by rfl) (fun X _=>by go_simp) ?_
 simp only[Act.put,sA,sB,sC]
 refine Rd.seq_move (by simp only[gA,gB,gC];rfl) rfl (by rfl) (fun K hK=>?_)
 go_simp
 refine(HR.out.at' _ _ hb3).mono ?_
 rw[HJ.out]
 rintro e w4 ⟨rfl,hb4⟩
 refine hK _ _ (fun _=>hb4) ?_
 clear hK K
 refine Rd.seq_float (.pointer (some ⟨b,j*5,none⟩)) (by simp only[gA,gB,gC];rfl) rfl (by rfl) (fun X _=>by first | (go_simp;done) | (go_simp;intro hx;omega)) ?_
 simp only[Act.put,sA,sB,sC]
 refine Rd.seq_float (.pointer (some ⟨b,j*5+3,none⟩)) (by simp only[gA,gB,gC];rfl) rfl (by rfl) (fun X _=>by go_simp) ?_
 simp only[Act.put,sA,sB,sC]
 refine Rd.seq_float (.int .i64 me) (by simp only[gA,gB,gC];rfl) rfl (by rfl) (fun X hX=>by have e2:=HV.out X hX;go_simp) ?_
 simp only[Act.put,sA,sB,sC]
 refine Rd.seq_float (.int .i64 ((n:Int)+me)) (by simp only[gA,gB,gC];rfl) rfl (by rfl) (fun X _=>by go_simp;exact HW.out) ?_
 simp only[Act.put,sA,sB,sC]
 refine Rd.seq_float (.int .i64 ((n:Int)+me)) (by simp only[gA,gB,gC];rfl) rfl (by rfl) (fun X _=>by go_simp) ?_
 simp only[Act.put,sA,sB,sC]
 refine Rd.seq_end ?_
 go_wp2_with fail
 go_ret
 exact⟨rfl,hb1.trans (hb4.mono hb1.size)⟩
end
end Go.Proofs.YtohifgjeebhijaaGreatDoor
namespace Go.Proofs.YtohifgjeebhijaaGreatDoor
set_option maxRecDepth 100000
set_option maxHeartbeats 4000000
open Go.RowKit Go.Maps
theorem Tryz.info70f:(Tryz.prog.info? 56).map (fun i=>(i.zero,i.size,i.bytes))=some (some (.agg #[.int .i64 0,.int .i64 0,.int .i64 0,.int .i64 0,.int .i64 0]),5,40):=by kernel_rfl
def RowH (w:World) (B:Nat) (v:Value) (L:List Gr):Prop:=w.ownsRow B 56 5 v L.length (encG L)
def SrcG (w:World) (u:Value) (L:List Gr):Prop:=∃ad c,u= .slice ad L.length c∧(L≠[]→∃b off,ad=some ⟨b,off,none⟩∧Cl w b off L)
section
variable {w w':World} {B:Nat} {v u:Value} {L M:List Gr}
theorem RowH.row (h:RowH w B v L):RowG w v L:=by
 refine⟨h.1,?_⟩
 rcases h.2 with h0 | ⟨g,cap,cur,e,hbg,h3⟩
 ·exact .inl h0
 ·exact .inr ⟨g,cap,cur,e,Nat.zero_le _,h3⟩
theorem RowH.below (h:RowH w B v L) (hb:Below w.heap.size w w'):RowH w' B v L:=by
 refine⟨h.1,?_⟩
 rcases h.2 with h0 | ⟨g,cap,cur,e,hbg,hg,h3⟩
 ·exact .inl h0
 ·exact .inr ⟨g,cap,cur,e,hbg,(hb.block g (Array.getElem?_eq_some_iff.1 hg).1).trans hg,h3⟩
theorem RowH.sl (h:RowH w B v L): ∃a c,v= .slice a L.length c:=h.row.sl
theorem RowH.grown (h:RowH w B v L) (hB:B≤w.heap.size) (hg:w.grownBy w' v.ownBlock):Below B w w':=(Below.refl B w).grown hg hB (fun j e=>by
 rcases h.2 with ⟨rfl,_⟩ | ⟨g,cap,cur,rfl,hbg,_⟩
 ·simp[Value.ownBlock] at e
 ·have:g=j:=by simpa[Value.ownBlock] using e
  omega)
theorem RowH.stay {g n c:Nat} {ob:Option Nat} (h:RowH w B (.slice (some ⟨g,0,none⟩) n c) L) (hg:w.grownBy w' ob) (hne: ¬some g=ob):RowH w' B (.slice (some ⟨g,0,none⟩) n c) L:=by
 refine⟨h.1,?_⟩
 rcases h.2 with h0 | ⟨g',cap,cur,e,hbg,hb,h3⟩
 ·exact .inl h0
 ·cases e
  exact .inr ⟨g,c,cur,rfl,hbg,(hg.block g (Array.getElem?_eq_some_iff.1 hb).1 hne).trans hb,h3⟩
theorem SrcG.below (h:SrcG w u L) (hb:Below w.heap.size w w'):SrcG w' u L:=by
 obtain⟨ad,c,e,h2⟩:=h
 refine⟨ad,c,e,fun hl=>?_⟩
 obtain⟨b,off,e2,h3⟩:=h2 hl
 exact⟨b,off,e2,h3.below hb⟩
theorem RowG.src (h:RowG w v L):SrcG w v L:=by
 obtain⟨a,c,rfl⟩:=h.sl
 refine⟨a,c,rfl,fun hl=>?_⟩
 obtain⟨b,rfl,hc⟩:=h.at (j:=0) (List.length_pos_iff.2 hl)
 exact⟨b,0,rfl,hc⟩
theorem RowH.empty (w:World) (B:Nat) (hB:B≤w.heap.size):RowH (w.alloc (.cells #[] 56)) B (.slice (some ⟨w.heap.size,0,none⟩) 0 0) []:=World.ownsRow_made w #[] 0 hB (by omega) rfl
theorem RowH.lit (w:World) (B:Nat) (g:Gr) (hB:B≤w.heap.size):RowH (w.alloc (.cells (cellsE g) 56)) B (.slice (some ⟨w.heap.size,0,none⟩) 1 1) [g]:=World.ownsRow_lit w (cellsE g) 1 hB (by unfold maxLen;omega) rfl
theorem appendG (ty:TypeId) (hB:B≤w.heap.size) (h:RowH w B v L) (hs:SrcG w u M) (hl:L.length+M.length≤1000):
  ∃v' w',(Builtin.append_ #[27,27] ty #[v,u]).run Tryz.prog w= .ok v' w'∧RowH w' B v' (L++M)∧w.grownBy w' v.ownBlock:=by
 obtain⟨i0,hi,hz0,hz1,hz2⟩:=info_parts Tryz.info70f
 obtain⟨ad,c,rfl,h2⟩:=hs
 cases had:ad with
 | none=>
  have:M=[]:=by
   by_cases hne:M=[]
   ·exact hne
   ·obtain⟨b,off,e,_⟩:=h2 hne
    rw[had] at e;cases e
  subst this
  by_cases hc:c=0
  ·subst hc
   exact⟨v,w,run_append_owned_none w B 27 ty 56 i0 5 Tryz.underlying27 hi v L.length _ h,by rw[List.append_nil];exact h,World.grownBy.refl _ _⟩
  ·refine⟨v,w,?_,by rw[List.append_nil];exact h,World.grownBy.refl _ _⟩
   rcases h.2 with ⟨rfl,h1⟩ | ⟨g,cap,cur,rfl,_,_,hnc,_⟩
   ·simp[Builtin.append_,run_underlying Tryz.underlying27,sizeOf,typeInfo,hi,Builtin.lenOf,Builtin.firstCells]
   ·simp[Builtin.append_,run_underlying Tryz.underlying27,sizeOf,typeInfo,hi,Builtin.lenOf,Builtin.firstCells,hnc,storeCells]
 | some p=>
  have hnews: ∀j x,(encG M)[j]? =some x→w.cell? (p.add j)=some x:=by
   intro j x hx
   obtain⟨b,off,e,hc⟩:=h2 (by rintro rfl;simp[encG] at hx)
   rw[had] at e
   cases e
   rw[Addr.add_lit]
   exact hc.2 j x hx
  obtain⟨v',w',hr,ho,hg,_⟩:=run_append_own (P:=Tryz.prog) w B 27 ty 56 i0 (.agg #[.int .i64 0,.int .i64 0,.int .i64 0,.int .i64 0,.int .i64 0]) 5 40 Tryz.underlying27 hi hz0 hz1 hz2 rfl (by decide) v L.length _ h p M.length c (encG M) (encG_len M) hnews (encG_one M) (by unfold maxLen;omega) (by omega) hB
  refine⟨v',w',hr,?_,hg⟩
  unfold RowH
  rw[List.length_append,encG_app]
  exact ho
end
section
variable {ops:Array Oper} {rest:List Oper} {o:Oper} {a:Act} {w:World} {Q:Exit→Act→World→Prop} {K:Act→World→Prop}
theorem wp_appendG (s x:Operand) (ho:o.op= .call { callee:=.builtin .append,args:= #[s,x],argTypes:= #[27,27] }) (B:Nat) (v u:Value) (L M:List Gr) (hs:a.eval s=v) (hx:a.eval x=u)
  (hB:B≤w.heap.size) (h1:RowH w B v L) (h2:SrcG w u M) (hl:L.length+M.length≤1000) (h: ∀v' w',RowH w' B v' (L++M)→w.grownBy w' v.ownBlock→K (a.put o.dst v') w'):o.wp Tryz.prog a w K Q:=by
 obtain⟨v',w',hr,ho',hg⟩:=appendG o.type hB h1 h2 hl
 unfold Oper.wp execOp
 simp only[ho,resolve,invoke,builtin,Sem.run_bind,Sem.run_pure,Result.andThen_ok,List.map_toArray,List.map_cons,List.map_nil,hs,hx,hr]
 exact h v' w' ho' hg
theorem wpList_appendG (hg:o.guard=none) (s x:Operand) (ho:o.op= .call { callee:=.builtin .append,args:= #[s,x],argTypes:= #[27,27] }) (B:Nat) (v u:Value) (L M:List Gr) (hs:a.eval s=v) (hx:a.eval x=u)
  (hB:B≤w.heap.size) (h1:RowH w B v L) (h2:SrcG w u M) (hl:L.length+M.length≤1000) (h: ∀v' w',RowH w' B v' (L++M)→w.grownBy w' v.ownBlock→wpList Tryz.prog ops Q rest (a.put o.dst v') w'):wpList Tryz.prog ops Q (o::rest) a w:=
 wpList_plain hg fun _ hK=>wp_appendG s x ho B v u L M hs hx hB h1 h2 hl fun v' w' h3 h4=>hK _ _ (h v' w' h3 h4)
end
theorem more_any (r m p wt:Int) (a:Option Addr) (c:Nat) (L:List Gr) (w:World) (h:RowG w (.slice a L.length c) L) (hl:L.length≤64) (hm:0≤m∧m≤1000):
  Calls Tryz.prog 80 #[.agg (cellsF r m (.slice a L.length c)),.int .i64 p,.int .i64 wt] w fun e w'=>(∃v,e= .returned (.tuple #[v,.int .i64 (m+1)])∧DocF w' v r (m+1) (addG L m p wt))∧Below w.heap.size w w':=by
 have hx0:Blk ((w.alloc (.cells #[.int .i64 r,.int .i64 m,.slice a L.length c] 29)).alloc (.cells #[.int .i64 0,.int .i64 0,.slice none 0 0] 29)) w.heap.size 29 (cellsF r m (.slice a L.length c)):=(Blk.new w 29 _).alloc _
 have hZ0:Blk ((w.alloc (.cells #[.int .i64 r,.int .i64 m,.slice a L.length c] 29)).alloc (.cells #[.int .i64 0,.int .i64 0,.slice none 0 0] 29)) (w.heap.size+1) 29 (cellsF 0 0 (.slice none 0 0)):=by
  have:=Blk.new (w.alloc (.cells #[.int .i64 r,.int .i64 m,.slice a L.length c] 29)) 29 (cellsF 0 0 (.slice none 0 0))
  have e:(w.alloc (.cells #[.int .i64 r,.int .i64 m,.slice a L.length c] 29)).heap.size=w.heap.size+1:=by simp
  rw[e] at this
  exact this
 have hb:Below w.heap.size w ((w.alloc (.cells #[.int .i64 r,.int .i64 m,.slice a L.length c] 29)).alloc (.cells #[.int .i64 0,.int .i64 0,.slice none 0 0] 29)):=((Below.refl _ w).alloc (Nat.le_refl _) _).alloc (by simp) _
 have hsz:((w.alloc (.cells #[.int .i64 r,.int .i64 m,.slice a L.length c] 29)).alloc (.cells #[.int .i64 0,.int .i64 0,.slice none 0 0] 29)).heap.size=w.heap.size+2:=by simp
 have HS:=Lib.hid (h.src.below hb)
 have e1:=cF1 hx0
 unfold addG
 clear h
 obtain⟨hm0,hm1⟩:=hm
 unfold cellsF
 go_enter Tryz.func80,Tryz.ntmps80
 go_wp2_with (first | (refine wpList_alloc30 rfl rfl ?_))
 generalize ((w.alloc (.cells #[.int .i64 r,.int .i64 m,.slice a L.length c] 29)).alloc (.cells #[.int .i64 0,.int .i64 0,.slice none 0 0] 29))=w3 at *
 have s3:=Same.drew w3
 have hx:=hx0.drew
 have hZ:=hZ0.drew
 replace hb:=hb.trans (s3.below _)
 have hs4:w.heap.size+2≤w3.drew.heap.size:=by rw[s3.heap,hsz];exact Nat.le_refl _
 have HS4:=Lib.hid (HS.out.below (s3.below _))
 refine Rd.regionT (fun X=>Blk X w.heap.size 29 (cellsF r m (.slice a L.length c))) [0,1,2,4,5,7,8,9,10,14,13,16] ((.one 0 (.one 1 (.one 2 (.one 4 (.one 5 (.one 7 (.one 8 (.one 9 (.one 10 (.one 14 (.two 3 (.two 6 (.one 11 (.one 12 (.one 13 (.one 15 (.one 16 .done))))) 11 (.one 6 (.one 12 (.one 13 (.one 15 (.one 16 .done)))))) 11 (.one 3 (.one 6 (.one 12 (.one 13 (.one 15 (.one 16 .done)))))))))))))))))) _ (by kernel_rfl) (by kernel_rfl) (by kernel_rfl) hx ?_ (fun _ _ h=>h)
 clear hx0 hZ0 HS s3 hsz e1
 generalize w3.drew=w4 at *
 have HS:=HS4
 clear HS4
 have hB:=Below.refl w4.heap.size w4
 refine Rd.tr_float (.pointer (some ⟨w.heap.size,0,none⟩)) (by simp only[gA,gC];rfl) rfl (by rfl) (fun X _=>by go_simp) ?_
 simp only[Act.put,sA,sB,sC]
 refine Rd.tr_float (.int .i64 r) (by simp only[gA,gB,gC];rfl) rfl (by rfl) (fun X hX=>by have e0:=cF0 hX;have e1:=cF1 hX;have e2:=cF2 hX;go_simp) ?_
 simp only[Act.put,sA,sB,sC]
 refine Rd.tr_float (.int .i64 (m+1)) (by simp only[gA,gB,gC];rfl) rfl (by rfl) (fun X _=>by go_simp) ?_
 simp only[Act.put,sA,sB,sC]
 refine Rd.tr_float (.pointer (some ⟨w.heap.size,2,none⟩)) (by simp only[gA,gB,gC];rfl) rfl (by rfl) (fun X _=>by go_simp) ?_
 simp only[Act.put,sA,sB,sC]
 refine Rd.tr_float (.slice a L.length c) (by simp only[gA,gB,gC];rfl) rfl (by rfl) (fun X hX=>by have e0:=cF0 hX;have e1:=cF1 hX;have e2:=cF2 hX;go_simp) ?_
 simp only[Act.put,sA,sB,sC]
 refine Rd.tr_float (.int .i64 (m+1)) (by simp only[gA,gB,gC];rfl) rfl (by rfl) (fun X _=>by go_simp) ?_
 simp only[Act.put,sA,sB,sC]
 refine Rd.tr_float (.int .i64 p) (by simp only[gA,gB,gC];rfl) rfl (by rfl) (fun X _=>by go_simp) ?_
 simp only[Act.put,sA,sB,sC]
 refine Rd.tr_float (.int .i64 wt) (by simp only[gA,gB,gC];rfl) rfl (by rfl) (fun X _=>by go_simp) ?_
 simp only[Act.put,sA,sB,sC]
 refine Rd.tr_float (.agg #[.int .i64 (m+1),.int .i64 p,.int .i64 wt,.int .i64 0,.int .i64 0]) (by simp only[gA,gB,gC];rfl) rfl (by rfl) (fun X _=>by kernel_rfl) ?_
 simp only[Act.put,sA,sB,sC]
 refine Rd.tr_float (.int .i64 (m+1)) (by simp only[gA,gB,gC];rfl) rfl (by rfl) (fun X _=>by go_simp) ?_
 simp only[Act.put,sA,sB,sC]
 refine Rd.tr_two (by simp only[gA,gB,gC];rfl) (by rfl) (by simp only[gA,gB,gC];rfl) (by rfl) (fun K hK=>?_) (fun K hK=>?_)
 ·go_simp
  have hE:=RowH.empty w4 w4.heap.size hB.size
  have hbn:Below w4.heap.size w4 (w4.alloc (.cells #[] 56)):=(Below.refl _ _).alloc (Nat.le_refl _) _
  have hltz1:w4.heap.size<(w4.alloc (.cells #[] 56)).heap.size:=by simp
  replace hB:=hB.trans (hbn.mono hB.size)
  clear hbn
  generalize w4.alloc (.cells #[] 56)=z1 at *
  refine hK _ _ (hx.below hB) ?_
  clear hK K
  refine Rd.tr_two (by simp only[gA,gB,gC];rfl) (by rfl) (by simp only[gA,gB,gC];rfl) (by rfl) (fun K hK=>?_) (fun K hK=>?_)
  ·refine wp_appendG _ _ rfl w4.heap.size _ _ [] L rfl rfl hB.size hE (HS.out.below hB) (by simp;omega) ?_
   intro v6 z2 h6 gr
   rw[List.nil_append] at h6
   have hbn:=hE.grown hB.size gr
   clear gr
   replace hB:=hB.trans hbn
   clear hbn
   refine hK _ _ (hx.below hB) ?_
   clear hK K
   refine Rd.tr_move (by simp only[gA,gB,gC];rfl) rfl (by rfl) (fun K hK=>?_)
   go_simp
   have hO:=(show RowH (z2.alloc (.cells #[.int .i64 (m+1),.int .i64 p,.int .i64 wt,.int .i64 0,.int .i64 0] 56)) w4.heap.size (.slice (some ⟨z2.heap.size,0,none⟩) 1 1) [⟨m+1,p,wt,0,0⟩] from RowH.lit z2 w4.heap.size ⟨m+1,p,wt,0,0⟩ hB.size)
   have hbn:Below z2.heap.size z2 (z2.alloc (.cells #[.int .i64 (m+1),.int .i64 p,.int .i64 wt,.int .i64 0,.int .i64 0] 56)):=(Below.refl _ _).alloc (Nat.le_refl _) _
   have hltz3:z2.heap.size<(z2.alloc (.cells #[.int .i64 (m+1),.int .i64 p,.int .i64 wt,.int .i64 0,.int .i64 0] 56)).heap.size:=by simp
   replace h6:=h6.below hbn
   replace hB:=hB.trans (hbn.mono hB.size)
   clear hbn
   generalize z2.alloc (.cells #[.int .i64 (m+1),.int .i64 p,.int .i64 wt,.int .i64 0,.int .i64 0] 56)=z3 at *
   refine hK _ _ (hx.below hB) ?_
   clear hK K
   refine Rd.tr_move (by simp only[gA,gB,gC];rfl) rfl (by rfl) (fun K hK=>?_)
   refine wp_appendG _ _ rfl w4.heap.size _ _ L [⟨m+1,p,wt,0,0⟩] rfl rfl hB.size h6 hO.row.src (by simp;omega) ?_
   intro v9 z4 h9 gr
   have hbn:=h6.grown hB.size gr
   clear gr
   replace hB:=hB.trans hbn
   clear hbn
   refine hK _ _ (hx.below hB) ?_
   clear hK K
   obtain⟨a9,c9,rfl⟩:=h9.sl
   refine Rd.tr_float (.agg #[.int .i64 r,.int .i64 (m+1),.slice a9 (L++[(⟨m+1,p,wt,0,0⟩:Gr)]).length c9]) (by simp only[gA,gB,gC];rfl) rfl (by rfl) (fun X _=>by kernel_rfl) ?_
   simp only[Act.put,sA,sB,sC]
   refine Rd.tr_move (by simp only[gA,gB,gC];rfl) rfl (by rfl) (fun K hK=>?_)
   refine wp_store30 _ _ rfl (w.heap.size+1) r (m+1) (.slice a9 (L++[(⟨m+1,p,wt,0,0⟩:Gr)]).length c9) rfl rfl (hZ.below hB) rfl rfl ?_
   intro z5 hZ9 t9
   refine hK _ _ ((hx.below hB).turn t9 (by omega)) ?_
   clear hK K
   refine Rd.tr_float (.int .i64 (m+1)) (by simp only[gA,gB,gC];rfl) rfl (by rfl) (fun X _=>by go_simp) ?_
   simp only[Act.put,sA,sB,sC]
   refine Rd.tr_end ?_
   go_wp2_with fail
   refine bodyPost_ret (resultsF_ct rfl _ z5 (w.heap.size+1) r (m+1) _ _ rfl rfl hZ9) rfl ?_
   have h10:=h9.row.turn t9 (hZ.below hB) (by decide)
   exact⟨⟨_,rfl,a9,c9,rfl,h10⟩,(hb.trans (hB.mono (by omega))).trans (t9.below (by omega))⟩
  ·go_simp
   have hO:=(show RowH (z1.alloc (.cells #[.int .i64 (m+1),.int .i64 p,.int .i64 wt,.int .i64 0,.int .i64 0] 56)) w4.heap.size (.slice (some ⟨z1.heap.size,0,none⟩) 1 1) [⟨m+1,p,wt,0,0⟩] from RowH.lit z1 w4.heap.size ⟨m+1,p,wt,0,0⟩ hB.size)
   have hbn:Below z1.heap.size z1 (z1.alloc (.cells #[.int .i64 (m+1),.int .i64 p,.int .i64 wt,.int .i64 0,.int .i64 0] 56)):=(Below.refl _ _).alloc (Nat.le_refl _) _
   have hltz6:z1.heap.size<(z1.alloc (.cells #[.int .i64 (m+1),.int .i64 p,.int .i64 wt,.int .i64 0,.int .i64 0] 56)).heap.size:=by simp
   replace hE:=hE.below hbn
   replace hB:=hB.trans (hbn.mono hB.size)
   clear hbn
   generalize z1.alloc (.cells #[.int .i64 (m+1),.int .i64 p,.int .i64 wt,.int .i64 0,.int .i64 0] 56)=z6 at *
   refine hK _ _ (hx.below hB) ?_
   clear hK K
   refine Rd.tr_move (by simp only[gA,gB,gC];rfl) rfl (by rfl) (fun K hK=>?_)
   refine wp_appendG _ _ rfl w4.heap.size _ _ [] L rfl rfl hB.size hE (HS.out.below hB) (by simp;omega) ?_
   intro v6 z7 h6 gr
   rw[List.nil_append] at h6
   have hbn:=hE.grown hB.size gr
   replace hO:=hO.stay gr (by intro e;have e2:=Option.some.inj e;(try dsimp only at e2);omega)
   clear gr
   replace hB:=hB.trans hbn
   clear hbn
   refine hK _ _ (hx.below hB) ?_
   clear hK K
   refine Rd.tr_move (by simp only[gA,gB,gC];rfl) rfl (by rfl) (fun K hK=>?_)
   refine wp_appendG _ _ rfl w4.heap.size _ _ L [⟨m+1,p,wt,0,0⟩] rfl rfl hB.size h6 hO.row.src (by simp;omega) ?_
   intro v9 z8 h9 gr
   have hbn:=h6.grown hB.size gr
   clear gr
   replace hB:=hB.trans hbn
   clear hbn
   refine hK _ _ (hx.below hB) ?_
   clear hK K
   obtain⟨a9,c9,rfl⟩:=h9.sl
   refine Rd.tr_float (.agg #[.int .i64 r,.int .i64 (m+1),.slice a9 (L++[(⟨m+1,p,wt,0,0⟩:Gr)]).length c9]) (by simp only[gA,gB,gC];rfl) rfl (by rfl) (fun X _=>by kernel_rfl) ?_
   simp only[Act.put,sA,sB,sC]
   refine Rd.tr_move (by simp only[gA,gB,gC];rfl) rfl (by rfl) (fun K hK=>?_)
   refine wp_store30 _ _ rfl (w.heap.size+1) r (m+1) (.slice a9 (L++[(⟨m+1,p,wt,0,0⟩:Gr)]).length c9) rfl rfl (hZ.below hB) rfl rfl ?_
   intro z9 hZ9 t9
   refine hK _ _ ((hx.below hB).turn t9 (by omega)) ?_
   clear hK K
   refine Rd.tr_float (.int .i64 (m+1)) (by simp only[gA,gB,gC];rfl) rfl (by rfl) (fun X _=>by go_simp) ?_
   simp only[Act.put,sA,sB,sC]
   refine Rd.tr_end ?_
   go_wp2_with fail
   refine bodyPost_ret (resultsF_ct rfl _ z9 (w.heap.size+1) r (m+1) _ _ rfl rfl hZ9) rfl ?_
   have h10:=h9.row.turn t9 (hZ.below hB) (by decide)
   exact⟨⟨_,rfl,a9,c9,rfl,h10⟩,(hb.trans (hB.mono (by omega))).trans (t9.below (by omega))⟩
 ·go_simp
  have hO:=(show RowH (w4.alloc (.cells #[.int .i64 (m+1),.int .i64 p,.int .i64 wt,.int .i64 0,.int .i64 0] 56)) w4.heap.size (.slice (some ⟨w4.heap.size,0,none⟩) 1 1) [⟨m+1,p,wt,0,0⟩] from RowH.lit w4 w4.heap.size ⟨m+1,p,wt,0,0⟩ hB.size)
  have hbn:Below w4.heap.size w4 (w4.alloc (.cells #[.int .i64 (m+1),.int .i64 p,.int .i64 wt,.int .i64 0,.int .i64 0] 56)):=(Below.refl _ _).alloc (Nat.le_refl _) _
  have hltz10:w4.heap.size<(w4.alloc (.cells #[.int .i64 (m+1),.int .i64 p,.int .i64 wt,.int .i64 0,.int .i64 0] 56)).heap.size:=by simp
  replace hB:=hB.trans (hbn.mono hB.size)
  clear hbn
  generalize w4.alloc (.cells #[.int .i64 (m+1),.int .i64 p,.int .i64 wt,.int .i64 0,.int .i64 0] 56)=z10 at *
  refine hK _ _ (hx.below hB) ?_
  clear hK K
  refine Rd.tr_move (by simp only[gA,gB,gC];rfl) rfl (by rfl) (fun K hK=>?_)
  go_simp
  have hE:=RowH.empty z10 w4.heap.size hB.size
  have hbn:Below z10.heap.size z10 (z10.alloc (.cells #[] 56)):=(Below.refl _ _).alloc (Nat.le_refl _) _
  have hltz11:z10.heap.size<(z10.alloc (.cells #[] 56)).heap.size:=by simp
  replace hO:=hO.below hbn
  replace hB:=hB.trans (hbn.mono hB.size)
  clear hbn
  generalize z10.alloc (.cells #[] 56)=z11 at *
  refine hK _ _ (hx.below hB) ?_
  clear hK K
  refine Rd.tr_move (by simp only[gA,gB,gC];rfl) rfl (by rfl) (fun K hK=>?_)
  refine wp_appendG _ _ rfl w4.heap.size _ _ [] L rfl rfl hB.size hE (HS.out.below hB) (by simp;omega) ?_
  intro v6 z12 h6 gr
  rw[List.nil_append] at h6
  have hbn:=hE.grown hB.size gr
  replace hO:=hO.stay gr (by intro e;have e2:=Option.some.inj e;(try dsimp only at e2);omega)
  clear gr
  replace hB:=hB.trans hbn
  clear hbn
  refine hK _ _ (hx.below hB) ?_
  clear hK K
  refine Rd.tr_move (by simp only[gA,gB,gC];rfl) rfl (by rfl) (fun K hK=>?_)
  refine wp_appendG _ _ rfl w4.heap.size _ _ L [⟨m+1,p,wt,0,0⟩] rfl rfl hB.size h6 hO.row.src (by simp;omega) ?_
  intro v9 z13 h9 gr
  have hbn:=h6.grown hB.size gr
  clear gr
  replace hB:=hB.trans hbn
  clear hbn
  refine hK _ _ (hx.below hB) ?_
  clear hK K
  obtain⟨a9,c9,rfl⟩:=h9.sl
  refine Rd.tr_float (.agg #[.int .i64 r,.int .i64 (m+1),.slice a9 (L++[(⟨m+1,p,wt,0,0⟩:Gr)]).length c9]) (by simp only[gA,gB,gC];rfl) rfl (by rfl) (fun X _=>by kernel_rfl) ?_
  simp only[Act.put,sA,sB,sC]
  refine Rd.tr_move (by simp only[gA,gB,gC];rfl) rfl (by rfl) (fun K hK=>?_)
  refine wp_store30 _ _ rfl (w.heap.size+1) r (m+1) (.slice a9 (L++[(⟨m+1,p,wt,0,0⟩:Gr)]).length c9) rfl rfl (hZ.below hB) rfl rfl ?_
  intro z14 hZ9 t9
  refine hK _ _ ((hx.below hB).turn t9 (by omega)) ?_
  clear hK K
  refine Rd.tr_float (.int .i64 (m+1)) (by simp only[gA,gB,gC];rfl) rfl (by rfl) (fun X _=>by go_simp) ?_
  simp only[Act.put,sA,sB,sC]
  refine Rd.tr_end ?_
  go_wp2_with fail
  refine bodyPost_ret (resultsF_ct rfl _ z14 (w.heap.size+1) r (m+1) _ _ rfl rfl hZ9) rfl ?_
  have h10:=h9.row.turn t9 (hZ.below hB) (by decide)
  exact⟨⟨_,rfl,a9,c9,rfl,h10⟩,(hb.trans (hB.mono (by omega))).trans (t9.below (by omega))⟩
end Go.Proofs.YtohifgjeebhijaaGreatDoor
namespace Go.Proofs.YtohifgjeebhijaaGreatDoor
set_option maxRecDepth 100000
set_option maxHeartbeats 4000000
open Go.RowKit Go.Maps
theorem encG_set: ∀ {L:List Gr} {i:Nat} (g:Gr),i<L.length→encG (L.set i g)=(((((encG L).set (i*5) (.int .i64 g.id)).set (i*5+1) (.int .i64 g.pa)).set (i*5+2) (.int .i64 g.wt)).set (i*5+3) (.int .i64 g.me)).set (i*5+4) (.int .i64 g.aw)
 | [],_,_,h=>by simp at h
 | y::r,0,g,_=>by
  rw[sC,encG_cons,encG_cons]
  rfl
 | y::r,i+1,g,h=>by
  have ih:=encG_set (L:=r) (i:=i) g (by simpa using h)
  rw[sB,encG_cons,ih,encG_cons]
  have e0:(i+1)*5=i*5+5:=by omega
  rw[e0]
  have st: ∀(k:Nat) (v:Value) (xs:List Value),((cellsE y).toList++xs).set (k+5) v=(cellsE y).toList++xs.set k v:=fun k v xs=>rfl
  rw[st,show i*5+5+1=i*5+1+5 by omega,st,show i*5+5+2=i*5+2+5 by omega,st,show i*5+5+3=i*5+3+5 by omega,st,show i*5+5+4=i*5+4+5 by omega,st]
theorem rowC_put {w:World} {B b n c k:Nat} {xs:List Value} (h:w.ownsRow B 56 5 (.slice (some ⟨b,0,none⟩) n c) k xs) (i:Nat) (x:Value):(w.setCell ⟨b,i,none⟩ x).ownsRow B 56 5 (.slice (some ⟨b,0,none⟩) n c) k (xs.set i x):=by
 have hl:=h.1
 rcases h.2 with ⟨h0,_⟩ | ⟨g,cap,cur,e,hbg,hg,h3,h4,h5,htake⟩
 ·cases h0
 ·cases e
  refine⟨by rw[List.length_set];exact hl,.inr ⟨b,c,_,rfl,hbg,heap_setCell_same w b i _ 56 _ hg,h3,h4,by rw[Array.size_setIfInBounds];exact h5,?_⟩⟩
  rw[Array.toList_setIfInBounds,List.take_set,htake]
theorem RowH.set {w:World} {B b n c i:Nat} {L:List Gr} (h:RowH w B (.slice (some ⟨b,0,none⟩) n c) L) (hi:i<L.length) (g:Gr):RowH (w.setCells b (i*5) (cellsE g).toList) B (.slice (some ⟨b,0,none⟩) n c) (L.set i g):=by
 have h5:=rowC_put (rowC_put (rowC_put (rowC_put (rowC_put h (i*5) (.int .i64 g.id)) (i*5+1) (.int .i64 g.pa)) (i*5+2) (.int .i64 g.wt)) (i*5+3) (.int .i64 g.me)) (i*5+4) (.int .i64 g.aw)
 unfold RowH
 rw[List.length_set,encG_set g hi]
 exact h5
theorem RowH.there {w:World} {B b n c i:Nat} {L:List Gr} (h:RowH w B (.slice (some ⟨b,0,none⟩) n c) L) (hi:i<L.length):w.there b (i*5) 5:=by
 intro j hj
 obtain⟨b',e,hc⟩:=h.row.at hi
 cases e
 rcases h.2 with ⟨h0,_⟩ | ⟨g,cap,cur,e,hbg,hg,_⟩
 ·cases h0
 ·cases e
  refine⟨?_,frozen_of_row w b _ _ 56 hg⟩
  rw[hc.at hi hj]
  match j,hj with
  | 0,_=>rfl
  | 1,_=>rfl
  | 2,_=>rfl
  | 3,_=>rfl
  | 4,_=>rfl
theorem b4_ge {w:World} {B b n c:Nat} {L:List Gr} (h:RowH w B (.slice (some ⟨b,0,none⟩) n c) L):B≤b:=by
 rcases h.2 with ⟨h0,_⟩ | ⟨g,cap,cur,e,hbg,_⟩
 ·cases h0
 ·cases e;exact hbg
theorem setCells_turn (w:World) (b o:Nat) (g:Gr):Turn b w (w.setCells b o (cellsE g).toList):=by
 have t: ∀ {w w' w'':World},Turn b w w'→Turn b w' w''→Turn b w w'':=fun h h'=>⟨h'.os.trans h.os,h'.tape.trans h.tape,h'.output.trans h.output,h'.size.trans h.size,fun k hk=>(h'.block k hk).trans (h.block k hk)⟩
 exact t (t (t (t (Turn.setCell w b o _) (Turn.setCell _ b (o+1) _)) (Turn.setCell _ b (o+2) _)) (Turn.setCell _ b (o+3) _)) (Turn.setCell _ b (o+4) _)
section
variable (r m:Int) (a:Option Addr) (c:Nat) (L:List Gr)
theorem rset_any (i:Nat) (g:Gr) (w:World) (h:RowG w (.slice a L.length c) L) (hl:L.length≤64) (hi:i<L.length):
  Calls Tryz.prog 90 #[.agg (cellsF r m (.slice a L.length c)),.int .i64 (i:Int),.agg (cellsE g)] w fun e w'=>(∃v,e= .returned v∧DocF w' v r m (L.set i g))∧Below w.heap.size w w':=by
 have hs1:(w.alloc (.cells #[.int .i64 r,.int .i64 m,.slice a L.length c] 29)).heap.size=w.heap.size+1:=by simp
 have hs2:((w.alloc (.cells #[.int .i64 r,.int .i64 m,.slice a L.length c] 29)).alloc (.cells #[.int .i64 g.id,.int .i64 g.pa,.int .i64 g.wt,.int .i64 g.me,.int .i64 g.aw] 56)).heap.size=w.heap.size+2:=by simp
 have hx0:Blk (((w.alloc (.cells #[.int .i64 r,.int .i64 m,.slice a L.length c] 29)).alloc (.cells #[.int .i64 g.id,.int .i64 g.pa,.int .i64 g.wt,.int .i64 g.me,.int .i64 g.aw] 56)).alloc (.cells #[.int .i64 0,.int .i64 0,.slice none 0 0] 29)) w.heap.size 29 (cellsF r m (.slice a L.length c)):=((Blk.new w 29 _).alloc _).alloc _
 have hg0:Blk (((w.alloc (.cells #[.int .i64 r,.int .i64 m,.slice a L.length c] 29)).alloc (.cells #[.int .i64 g.id,.int .i64 g.pa,.int .i64 g.wt,.int .i64 g.me,.int .i64 g.aw] 56)).alloc (.cells #[.int .i64 0,.int .i64 0,.slice none 0 0] 29)) (w.heap.size+1) 56 (cellsE g):=by
  have:=(Blk.new (w.alloc (.cells #[.int .i64 r,.int .i64 m,.slice a L.length c] 29)) 56 (cellsE g)).alloc (.cells #[.int .i64 0,.int .i64 0,.slice none 0 0] 29)
  rw[hs1] at this
  exact this
 have hZ0:Blk (((w.alloc (.cells #[.int .i64 r,.int .i64 m,.slice a L.length c] 29)).alloc (.cells #[.int .i64 g.id,.int .i64 g.pa,.int .i64 g.wt,.int .i64 g.me,.int .i64 g.aw] 56)).alloc (.cells #[.int .i64 0,.int .i64 0,.slice none 0 0] 29)) (w.heap.size+2) 29 (cellsF 0 0 (.slice none 0 0)):=by
  have:=Blk.new ((w.alloc (.cells #[.int .i64 r,.int .i64 m,.slice a L.length c] 29)).alloc (.cells #[.int .i64 g.id,.int .i64 g.pa,.int .i64 g.wt,.int .i64 g.me,.int .i64 g.aw] 56)) 29 (cellsF 0 0 (.slice none 0 0))
  rw[hs2] at this
  exact this
 have hb:Below w.heap.size w (((w.alloc (.cells #[.int .i64 r,.int .i64 m,.slice a L.length c] 29)).alloc (.cells #[.int .i64 g.id,.int .i64 g.pa,.int .i64 g.wt,.int .i64 g.me,.int .i64 g.aw] 56)).alloc (.cells #[.int .i64 0,.int .i64 0,.slice none 0 0] 29)):=(((Below.refl _ w).alloc (Nat.le_refl _) _).alloc (by simp) _).alloc (by simp;omega) _
 have hsz:w.heap.size+3≤(((w.alloc (.cells #[.int .i64 r,.int .i64 m,.slice a L.length c] 29)).alloc (.cells #[.int .i64 g.id,.int .i64 g.pa,.int .i64 g.wt,.int .i64 g.me,.int .i64 g.aw] 56)).alloc (.cells #[.int .i64 0,.int .i64 0,.slice none 0 0] 29)).heap.size:=by simp
 have HS:=Lib.hid (h.src.below hb)
 have e2:=cF2 hx0
 clear h hs1 hs2
 unfold cellsF cellsE
 go_enter Tryz.func90,Tryz.ntmps90
 go_wp2_with (first | (refine wpList_alloc30 rfl rfl ?_;generalize (((w.alloc (.cells #[.int .i64 r,.int .i64 m,.slice a L.length c] 29)).alloc (.cells #[.int .i64 g.id,.int .i64 g.pa,.int .i64 g.wt,.int .i64 g.me,.int .i64 g.aw] 56)).alloc (.cells #[.int .i64 0,.int .i64 0,.slice none 0 0] 29))=w3 at *;have hE:=RowH.empty w3 w3.heap.size (Nat.le_refl _);have hbE:Below w3.heap.size w3 (w3.alloc (.cells #[] 56)):=(Below.refl _ w3).alloc (Nat.le_refl _) _;have e3:=cF2 (hx0.below hbE)) | (refine wpList_appendG rfl _ _ rfl w3.heap.size (.slice (some ⟨w3.heap.size,0,none⟩) 0 0) _ [] L rfl rfl (by simp) hE (HS.out.below hbE) (by simp;omega) ?_;intro v4 w4 hr4 hg4;rw[List.nil_append] at hr4;have hb4:=hbE.trans (hE.grown (by simp) hg4);obtain⟨a4,c4,rfl⟩:=hr4.sl;obtain⟨b4,rfl,hc4⟩:=hr4.row.at hi;have hg4':=hg0.below hb4;have hx4:=hx0.below hb4;have hZ4:=hZ0.below hb4;have ht4:=hr4.there hi) | (refine wpList_load70 rfl _ rfl (w.heap.size+1) g rfl hg4' ?_) | (refine wpList_store_mid rfl 56 _ _ rfl b4 (i*5) (cellsE g) rfl rfl ht4 Tryz.info56 (by simp[cellsE,Value.oneCell']) ?_;have t5:=setCells_turn w4 b4 (i*5) g;have hr5:=hr4.set hi g;have hne5:w3.heap.size≤b4:=b4_ge hr4;have hx5:=hx4.turn t5 (by omega);have hZ5:=hZ4.turn t5 (by omega);have hb5:Below w3.heap.size w3 (w4.setCells b4 (i*5) (cellsE g).toList):=hb4.trans (t5.below hne5);generalize w4.setCells b4 (i*5) (cellsE g).toList=w5 at *;have q0:=cF0 hx5;have q1:=cF1 hx5) | (refine wpList_store30 rfl _ _ rfl (w.heap.size+2) r m (.slice (some ⟨b4,0,none⟩) L.length c4) rfl rfl hZ5 rfl rfl ?_;intro w6 hZ6 t6))
 refine bodyPost_ret (resultsF_c rfl _ w6 (w.heap.size+2) r m _ rfl hZ6) rfl ?_
 have hlen:(L.set i g).length=L.length:=List.length_set
 refine⟨⟨_,rfl,some ⟨b4,0,none⟩,c4,by rw[hlen],by rw[hlen];exact hr5.row.turn t6 hZ5 (by decide)⟩,(hb.trans (hb5.mono (by omega))).trans (t6.below (by omega))⟩
end
end Go.Proofs.YtohifgjeebhijaaGreatDoor
namespace Go.Proofs.YtohifgjeebhijaaGreatDoor
set_option maxRecDepth 100000
set_option maxHeartbeats 4000000
open Go.RowKit Go.Maps
structure Rdw (w1:World) (r m:Int) (a:Option Addr) (c:Nat) (L:List Gr):Prop where
 row: ∀X,Below w1.heap.size w1 X→RowG X (.slice a L.length c) L
 at': ∀(y:Int) X,Below w1.heap.size w1 X→Calls Tryz.prog 30 #[.agg #[.int .i64 r,.int .i64 m,.slice a L.length c],.int .i64 y] X fun e w'=>e= .returned (.int .i64 (atG L y))∧Below w1.heap.size w1 w'
 dep: ∀(y:Int) X,has L y=true→Below w1.heap.size w1 X→Calls Tryz.prog 31 #[.agg #[.int .i64 r,.int .i64 m,.slice a L.length c],.int .i64 y] X fun e w'=>e= .returned (.int .i64 (dep L y))∧Below w1.heap.size w1 w'
 top: ∀(y:Int) X,has L y=true→Below w1.heap.size w1 X→Calls Tryz.prog 89 #[.agg #[.int .i64 r,.int .i64 m,.slice a L.length c],.int .i64 y] X fun e w'=>e= .returned (.int .i64 (topI L y))∧Below w1.heap.size w1 w'
 bel: ∀(y t:Int) X,has L y=true→Below w1.heap.size w1 X→Calls Tryz.prog 16 #[.agg #[.int .i64 r,.int .i64 m,.slice a L.length c],.int .i64 y,.int .i64 t] X fun e w'=>e= .returned (.bool (belowB L y t))∧Below w1.heap.size w1 w'
 fan: ∀(y:Int) X,has L y=true→Below w1.heap.size w1 X→Calls Tryz.prog 84 #[.agg #[.int .i64 r,.int .i64 m,.slice a L.length c],.int .i64 y] X fun e w'=>e= .returned (.int .i64 (fanI L y))∧Below w1.heap.size w1 w'
 more: ∀(p wt:Int) X,0≤m∧m≤1000→Below w1.heap.size w1 X→Calls Tryz.prog 80 #[.agg #[.int .i64 r,.int .i64 m,.slice a L.length c],.int .i64 p,.int .i64 wt] X fun e w'=>(∃a' c',e= .returned (.tuple #[.agg #[.int .i64 r,.int .i64 (m+1),.slice a' (addG L m p wt).length c'],.int .i64 (m+1)])∧RowG w' (.slice a' (addG L m p wt).length c') (addG L m p wt))∧Below w1.heap.size w1 w'
 set: ∀(i:Nat) (g:Gr) X,i<L.length→Below w1.heap.size w1 X→Calls Tryz.prog 90 #[.agg #[.int .i64 r,.int .i64 m,.slice a L.length c],.int .i64 (i:Int),.agg (cellsE g)] X fun e w'=>(∃a' c',e= .returned (.agg #[.int .i64 r,.int .i64 m,.slice a' L.length c'])∧RowG w' (.slice a' L.length c') (L.set i g))∧Below w1.heap.size w1 w'
theorem Rdw.of {w w1:World} {r m m0 k:Int} {a:Option Addr} {c:Nat} {L:List Gr} (h:RowG w (.slice a L.length c) L) (ok:Ok L m0 k) (hb:Below w.heap.size w w1):Rdw w1 r m a c L where
 row:=fun X hX=>(h.below hb).below hX
 at':=fun y X hX=>(At_any r m a c L y X ((h.below hb).below hX) ok.n64).mono (by rintro e w' ⟨rfl,hb'⟩;exact⟨rfl,Below.stay hX hb'⟩)
 dep:=fun y X hy hX=>(rDepth_any r m a c L y m0 k X ((h.below hb).below hX) ok hy).mono (by rintro e w' ⟨rfl,hb'⟩;exact⟨rfl,Below.stay hX hb'⟩)
 top:=fun y X hy hX=>(rRoot_any r m a c L y m0 k X ((h.below hb).below hX) ok hy).mono (by rintro e w' ⟨rfl,hb'⟩;exact⟨rfl,Below.stay hX hb'⟩)
 bel:=fun y t X hy hX=>(rBelow_any r m a c L y t m0 k X ((h.below hb).below hX) ok hy).mono (by rintro e w' ⟨rfl,hb'⟩;exact⟨rfl,Below.stay hX hb'⟩)
 fan:=fun y X hy hX=>(rFan_any r m a c L y m0 k X ((h.below hb).below hX) ok hy).mono (by rintro e w' ⟨rfl,hb'⟩;exact⟨rfl,Below.stay hX hb'⟩)
 more:=fun p wt X hm hX=>(more_any r m p wt a c L X ((h.below hb).below hX) ok.n64 hm).mono (by rintro e w' ⟨⟨v,rfl,a',c',rfl,h'⟩,hb'⟩;exact⟨⟨a',c',rfl,h'⟩,Below.stay hX hb'⟩)
 set:=fun i g X hi hX=>(rset_any r m a c L i g X ((h.below hb).below hX) ok.n64 hi).mono (by rintro e w' ⟨⟨v,rfl,a',c',rfl,h'⟩,hb'⟩;rw[List.length_set] at h' ⊢;exact⟨⟨a',c',rfl,h'⟩,Below.stay hX hb'⟩)
theorem pre2 (r m:Int) {m0 k:Int} {a:Option Addr} {c:Nat} {L:List Gr} {w:World} (h:RowG w (.slice a L.length c) L) (ok:Ok L m0 k):
  (Blk ((w.alloc (.cells #[.int .i64 r,.int .i64 m,.slice a L.length c] 29)).alloc (.cells #[.int .i64 0,.int .i64 0,.slice none 0 0] 29)) w.heap.size 29 (cellsF r m (.slice a L.length c)))∧(Blk ((w.alloc (.cells #[.int .i64 r,.int .i64 m,.slice a L.length c] 29)).alloc (.cells #[.int .i64 0,.int .i64 0,.slice none 0 0] 29)) (w.heap.size+1) 29 (cellsF 0 0 (.slice none 0 0)))∧(Below w.heap.size w ((w.alloc (.cells #[.int .i64 r,.int .i64 m,.slice a L.length c] 29)).alloc (.cells #[.int .i64 0,.int .i64 0,.slice none 0 0] 29)))∧(w.heap.size+2≤((w.alloc (.cells #[.int .i64 r,.int .i64 m,.slice a L.length c] 29)).alloc (.cells #[.int .i64 0,.int .i64 0,.slice none 0 0] 29)).heap.size)∧(Hid (Rdw ((w.alloc (.cells #[.int .i64 r,.int .i64 m,.slice a L.length c] 29)).alloc (.cells #[.int .i64 0,.int .i64 0,.slice none 0 0] 29)) r m a c L))∧(Hid (∀X,Below ((w.alloc (.cells #[.int .i64 r,.int .i64 m,.slice a L.length c] 29)).alloc (.cells #[.int .i64 0,.int .i64 0,.slice none 0 0] 29)).heap.size ((w.alloc (.cells #[.int .i64 r,.int .i64 m,.slice a L.length c] 29)).alloc (.cells #[.int .i64 0,.int .i64 0,.slice none 0 0] 29)) X→Blk X w.heap.size 29 (cellsF r m (.slice a L.length c))))∧(Hid (∀X,Below ((w.alloc (.cells #[.int .i64 r,.int .i64 m,.slice a L.length c] 29)).alloc (.cells #[.int .i64 0,.int .i64 0,.slice none 0 0] 29)).heap.size ((w.alloc (.cells #[.int .i64 r,.int .i64 m,.slice a L.length c] 29)).alloc (.cells #[.int .i64 0,.int .i64 0,.slice none 0 0] 29)) X→Blk X (w.heap.size+1) 29 (cellsF 0 0 (.slice none 0 0))))∧(Hid (∀X,Below ((w.alloc (.cells #[.int .i64 r,.int .i64 m,.slice a L.length c] 29)).alloc (.cells #[.int .i64 0,.int .i64 0,.slice none 0 0] 29)).heap.size ((w.alloc (.cells #[.int .i64 r,.int .i64 m,.slice a L.length c] 29)).alloc (.cells #[.int .i64 0,.int .i64 0,.slice none 0 0] 29)) X→Below w.heap.size w X)):=by
 have hx0:Blk ((w.alloc (.cells #[.int .i64 r,.int .i64 m,.slice a L.length c] 29)).alloc (.cells #[.int .i64 0,.int .i64 0,.slice none 0 0] 29)) w.heap.size 29 (cellsF r m (.slice a L.length c)):=(Blk.new w 29 _).alloc _
 have hZ0:Blk ((w.alloc (.cells #[.int .i64 r,.int .i64 m,.slice a L.length c] 29)).alloc (.cells #[.int .i64 0,.int .i64 0,.slice none 0 0] 29)) (w.heap.size+1) 29 (cellsF 0 0 (.slice none 0 0)):=by
  have:=Blk.new (w.alloc (.cells #[.int .i64 r,.int .i64 m,.slice a L.length c] 29)) 29 (cellsF 0 0 (.slice none 0 0))
  have e:(w.alloc (.cells #[.int .i64 r,.int .i64 m,.slice a L.length c] 29)).heap.size=w.heap.size+1:=by simp
  rw[e] at this
  exact this
 have hb:Below w.heap.size w ((w.alloc (.cells #[.int .i64 r,.int .i64 m,.slice a L.length c] 29)).alloc (.cells #[.int .i64 0,.int .i64 0,.slice none 0 0] 29)):=((Below.refl _ w).alloc (Nat.le_refl _) _).alloc (by simp) _
 have hsz:w.heap.size+2≤((w.alloc (.cells #[.int .i64 r,.int .i64 m,.slice a L.length c] 29)).alloc (.cells #[.int .i64 0,.int .i64 0,.slice none 0 0] 29)).heap.size:=by simp
 have HR:Hid (Rdw ((w.alloc (.cells #[.int .i64 r,.int .i64 m,.slice a L.length c] 29)).alloc (.cells #[.int .i64 0,.int .i64 0,.slice none 0 0] 29)) r m a c L):=Lib.hid (Rdw.of h ok hb)
 have HXB:Hid (∀X,Below ((w.alloc (.cells #[.int .i64 r,.int .i64 m,.slice a L.length c] 29)).alloc (.cells #[.int .i64 0,.int .i64 0,.slice none 0 0] 29)).heap.size ((w.alloc (.cells #[.int .i64 r,.int .i64 m,.slice a L.length c] 29)).alloc (.cells #[.int .i64 0,.int .i64 0,.slice none 0 0] 29)) X→Blk X w.heap.size 29 (cellsF r m (.slice a L.length c))):=Lib.hid fun X hX=>hx0.below hX
 have HZB:Hid (∀X,Below ((w.alloc (.cells #[.int .i64 r,.int .i64 m,.slice a L.length c] 29)).alloc (.cells #[.int .i64 0,.int .i64 0,.slice none 0 0] 29)).heap.size ((w.alloc (.cells #[.int .i64 r,.int .i64 m,.slice a L.length c] 29)).alloc (.cells #[.int .i64 0,.int .i64 0,.slice none 0 0] 29)) X→Blk X (w.heap.size+1) 29 (cellsF 0 0 (.slice none 0 0))):=Lib.hid fun X hX=>hZ0.below hX
 have HFin:Hid (∀X,Below ((w.alloc (.cells #[.int .i64 r,.int .i64 m,.slice a L.length c] 29)).alloc (.cells #[.int .i64 0,.int .i64 0,.slice none 0 0] 29)).heap.size ((w.alloc (.cells #[.int .i64 r,.int .i64 m,.slice a L.length c] 29)).alloc (.cells #[.int .i64 0,.int .i64 0,.slice none 0 0] 29)) X→Below w.heap.size w X):=Lib.hid fun X hX=>hb.trans (hX.mono (by omega))
 exact⟨hx0,hZ0,hb,hsz,HR,HXB,HZB,HFin⟩
theorem rNew_yes (r:Int) (w:World) (h1:1≤r) (h2:r≤64):
  Calls Tryz.prog 23 #[.int .i64 r] w fun e w'=>(∃v,e= .returned (.tuple #[v,.int .i64 0])∧DocF w' v r 0 [])∧Below w.heap.size w w':=by
 have hZ:Blk (w.alloc (.cells #[.int .i64 0,.int .i64 0,.slice none 0 0] 29)) w.heap.size 29 (cellsF 0 0 (.slice none 0 0)):=Blk.new w 29 _
 have hb:Below w.heap.size w (w.alloc (.cells #[.int .i64 0,.int .i64 0,.slice none 0 0] 29)):=(Below.refl _ w).alloc (Nat.le_refl _) _
 have h3: ¬r<1:=by omega
 have h4: ¬ 64<r:=by omega
 go_enter Tryz.func23,Tryz.ntmps23
 go_wp2_with (first | (refine wpList_alloc30 rfl rfl ?_;generalize w.alloc (.cells #[.int .i64 0,.int .i64 0,.slice none 0 0] 29)=w1 at *) | (refine wpList_store30 rfl _ _ rfl w.heap.size r 0 (.slice none 0 0) rfl rfl hZ rfl rfl ?_;intro wz hZ9 t9))
 refine bodyPost_ret (resultsF_ct rfl _ wz w.heap.size r 0 (.slice none 0 0) _ rfl rfl hZ9) rfl ?_
 exact⟨⟨_,rfl,none,0,rfl,RowG.nil _⟩,hb.trans (t9.below (Nat.le_refl _))⟩
section
variable (r m:Int) (a:Option Addr) (c:Nat) (L:List Gr)
theorem rWeight_no (x wt:Int) (m0 k:Int) (w:World) (h:RowG w (.slice a L.length c) L) (ok:Ok L m0 k) (hh:has L x=false):
  Calls Tryz.prog 50 #[.agg (cellsF r m (.slice a L.length c)),.int .i64 x,.int .i64 wt] w fun e w'=>(∃v,e= .returned (.tuple #[v,.int .i64 (weightC L x wt)])∧DocF w' v r m (weightN L x wt))∧Below w.heap.size w w':=by
 have hc:weightC L x wt=4:=by unfold weightC;rw[if_pos hh]
 have HC:=Lib.hid hc
 have HN:Hid (weightN L x wt=L):=Lib.hid (by unfold weightN;rw[hc];rfl)
 obtain⟨hx0,hZ0,hb,hsz,HR,HXB,HZB,HFin⟩:=pre2 r m h ok
 have HA:Hid (atG L x= -1):=Lib.hid (atG_no hh)
 clear hh
 clear hc h ok
 unfold cellsF
 go_enter Tryz.func50,Tryz.ntmps50
 go_wp2_with (first | (have hgd:=hx0;refine wpList_alloc30 rfl rfl ?_;clear hgd;generalize ((w.alloc (.cells #[.int .i64 r,.int .i64 m,.slice a L.length c] 29)).alloc (.cells #[.int .i64 0,.int .i64 0,.slice none 0 0] 29))=w3 at *;have hbi:=Below.refl w3.heap.size w3;clear hx0 hZ0 hb) | (go_at_call 30;refine(HR.out.at' _ _ (by assumption)).mono ?_;rw[HA.out];rintro e wi ⟨rfl,hbi⟩) | (refine wpList_load30 rfl _ rfl w.heap.size r m (.slice a L.length c) rfl (HXB.out _ (by assumption)) ?_) | (refine wpList_store30 rfl _ _ rfl (w.heap.size+1) r m (.slice a L.length c) rfl rfl (HZB.out _ (by assumption)) rfl rfl ?_;intro wz hZ9 t9))
 refine bodyPost_ret (resultsF_ct rfl _ wz (w.heap.size+1) r m (.slice a L.length c) _ rfl rfl hZ9) rfl ?_
 rw[HC.out,HN.out]
 exact⟨⟨_,rfl,a,c,rfl,(HR.out.row _ hbi).turn t9 (HZB.out _ hbi) (by decide)⟩,(HFin.out _ hbi).trans (t9.below (by omega))⟩
theorem rWeight_root (x wt:Int) (m0 k:Int) (w:World) (h:RowG w (.slice a L.length c) L) (ok:Ok L m0 k) (hh:has L x=true) (hp:(gr L x).pa= -1):
  Calls Tryz.prog 50 #[.agg (cellsF r m (.slice a L.length c)),.int .i64 x,.int .i64 wt] w fun e w'=>(∃v,e= .returned (.tuple #[v,.int .i64 (weightC L x wt)])∧DocF w' v r m (weightN L x wt))∧Below w.heap.size w w':=by
 have hc:weightC L x wt=15:=by unfold weightC;rw[if_neg (by rw[hh];decide),if_pos (by omega)]
 have HC:=Lib.hid hc
 have HN:Hid (weightN L x wt=L):=Lib.hid (by unfold weightN;rw[hc];rfl)
 obtain⟨hx0,hZ0,hb,hsz,HR,HXB,HZB,HFin⟩:=pre2 r m h ok
 have HA:Hid (atG L x=(pos L x:Int)):=Lib.hid (atG_yes hh)
 have HH:=Lib.hid hh
 have hj:=has_pos hh
 obtain⟨b,rfl,hcl⟩:=h.at hj
 have HCL:Hid (∀X,Below ((w.alloc (.cells #[.int .i64 r,.int .i64 m,.slice (some ⟨b,0,none⟩) L.length c] 29)).alloc (.cells #[.int .i64 0,.int .i64 0,.slice none 0 0] 29)).heap.size ((w.alloc (.cells #[.int .i64 r,.int .i64 m,.slice (some ⟨b,0,none⟩) L.length c] 29)).alloc (.cells #[.int .i64 0,.int .i64 0,.slice none 0 0] 29)) X→X.cell? ⟨b,pos L x*5+1,none⟩=some (.int .i64 (gr L x).pa)∧X.rangeAt b (pos L x*5) (cellsE (gr L x)).toList):=Lib.hid fun X hX=>⟨((hcl.below hb).below hX).pa hj,((hcl.below hb).below hX).range hj⟩
 rw[hp] at HCL
 clear hh hp
 generalize pos L x=j at *
 clear hc h ok
 unfold cellsF
 go_enter Tryz.func50,Tryz.ntmps50
 go_wp2_with (first | (have hgd:=hx0;refine wpList_alloc30 rfl rfl ?_;clear hgd;generalize ((w.alloc (.cells #[.int .i64 r,.int .i64 m,.slice (some ⟨b,0,none⟩) L.length c] 29)).alloc (.cells #[.int .i64 0,.int .i64 0,.slice none 0 0] 29))=w3 at *;have hbi:=Below.refl w3.heap.size w3;clear hx0 hZ0 hb) | (go_at_call 30;refine(HR.out.at' _ _ (by assumption)).mono ?_;rw[HA.out];rintro e wi ⟨rfl,hbi⟩;have hX2:=HXB.out wi hbi;have f0:=cF0 hX2;have f1:=cF1 hX2;have f2:=cF2 hX2;clear hX2;have g1:=(HCL.out wi hbi).1) | (refine wpList_load30 rfl _ rfl w.heap.size r m (.slice (some ⟨b,0,none⟩) L.length c) rfl (HXB.out _ (by assumption)) ?_) | (refine wpList_store30 rfl _ _ rfl (w.heap.size+1) r m (.slice (some ⟨b,0,none⟩) L.length c) rfl rfl (HZB.out _ (by assumption)) rfl rfl ?_;intro wz hZ9 t9))
 refine bodyPost_ret (resultsF_ct rfl _ wz (w.heap.size+1) r m (.slice (some ⟨b,0,none⟩) L.length c) _ rfl rfl hZ9) rfl ?_
 rw[HC.out,HN.out]
 exact⟨⟨_,rfl,some ⟨b,0,none⟩,c,rfl,(HR.out.row _ hbi).turn t9 (HZB.out _ hbi) (by decide)⟩,(HFin.out _ hbi).trans (t9.below (by omega))⟩
theorem rWeight_bad1 (x wt:Int) (m0 k:Int) (w:World) (h:RowG w (.slice a L.length c) L) (ok:Ok L m0 k) (hh:has L x=true) (hp:0≤(gr L x).pa) (hw:wt<1):
  Calls Tryz.prog 50 #[.agg (cellsF r m (.slice a L.length c)),.int .i64 x,.int .i64 wt] w fun e w'=>(∃v,e= .returned (.tuple #[v,.int .i64 (weightC L x wt)])∧DocF w' v r m (weightN L x wt))∧Below w.heap.size w w':=by
 have hc:weightC L x wt=13:=by unfold weightC;rw[if_neg (by rw[hh];decide),if_neg (by omega),if_pos (by omega)]
 have HC:=Lib.hid hc
 have HN:Hid (weightN L x wt=L):=Lib.hid (by unfold weightN;rw[hc];rfl)
 obtain⟨hx0,hZ0,hb,hsz,HR,HXB,HZB,HFin⟩:=pre2 r m h ok
 have HA:Hid (atG L x=(pos L x:Int)):=Lib.hid (atG_yes hh)
 have HH:=Lib.hid hh
 have hj:=has_pos hh
 obtain⟨b,rfl,hcl⟩:=h.at hj
 have HCL:Hid (∀X,Below ((w.alloc (.cells #[.int .i64 r,.int .i64 m,.slice (some ⟨b,0,none⟩) L.length c] 29)).alloc (.cells #[.int .i64 0,.int .i64 0,.slice none 0 0] 29)).heap.size ((w.alloc (.cells #[.int .i64 r,.int .i64 m,.slice (some ⟨b,0,none⟩) L.length c] 29)).alloc (.cells #[.int .i64 0,.int .i64 0,.slice none 0 0] 29)) X→X.cell? ⟨b,pos L x*5+1,none⟩=some (.int .i64 (gr L x).pa)∧X.rangeAt b (pos L x*5) (cellsE (gr L x)).toList):=Lib.hid fun X hX=>⟨((hcl.below hb).below hX).pa hj,((hcl.below hb).below hX).range hj⟩
 clear hh
 skip
 generalize (gr L x).pa=pa at *
 generalize pos L x=j at *
 clear hc h ok
 unfold cellsF
 go_enter Tryz.func50,Tryz.ntmps50
 go_wp2_with (first | (have hgd:=hx0;refine wpList_alloc30 rfl rfl ?_;clear hgd;generalize ((w.alloc (.cells #[.int .i64 r,.int .i64 m,.slice (some ⟨b,0,none⟩) L.length c] 29)).alloc (.cells #[.int .i64 0,.int .i64 0,.slice none 0 0] 29))=w3 at *;have hbi:=Below.refl w3.heap.size w3;clear hx0 hZ0 hb) | (go_at_call 30;refine(HR.out.at' _ _ (by assumption)).mono ?_;rw[HA.out];rintro e wi ⟨rfl,hbi⟩;have hX2:=HXB.out wi hbi;have f0:=cF0 hX2;have f1:=cF1 hX2;have f2:=cF2 hX2;clear hX2;have g1:=(HCL.out wi hbi).1) | (refine wpList_load30 rfl _ rfl w.heap.size r m (.slice (some ⟨b,0,none⟩) L.length c) rfl (HXB.out _ (by assumption)) ?_) | (refine wpList_store30 rfl _ _ rfl (w.heap.size+1) r m (.slice (some ⟨b,0,none⟩) L.length c) rfl rfl (HZB.out _ (by assumption)) rfl rfl ?_;intro wz hZ9 t9))
 refine bodyPost_ret (resultsF_ct rfl _ wz (w.heap.size+1) r m (.slice (some ⟨b,0,none⟩) L.length c) _ rfl rfl hZ9) rfl ?_
 rw[HC.out,HN.out]
 exact⟨⟨_,rfl,some ⟨b,0,none⟩,c,rfl,(HR.out.row _ hbi).turn t9 (HZB.out _ hbi) (by decide)⟩,(HFin.out _ hbi).trans (t9.below (by omega))⟩
theorem rWeight_bad2 (x wt:Int) (m0 k:Int) (w:World) (h:RowG w (.slice a L.length c) L) (ok:Ok L m0 k) (hh:has L x=true) (hp:0≤(gr L x).pa) (hw:10000<wt):
  Calls Tryz.prog 50 #[.agg (cellsF r m (.slice a L.length c)),.int .i64 x,.int .i64 wt] w fun e w'=>(∃v,e= .returned (.tuple #[v,.int .i64 (weightC L x wt)])∧DocF w' v r m (weightN L x wt))∧Below w.heap.size w w':=by
 have hc:weightC L x wt=13:=by unfold weightC;rw[if_neg (by rw[hh];decide),if_neg (by omega),if_pos (by omega)]
 have HC:=Lib.hid hc
 have HN:Hid (weightN L x wt=L):=Lib.hid (by unfold weightN;rw[hc];rfl)
 obtain⟨hx0,hZ0,hb,hsz,HR,HXB,HZB,HFin⟩:=pre2 r m h ok
 have HA:Hid (atG L x=(pos L x:Int)):=Lib.hid (atG_yes hh)
 have HH:=Lib.hid hh
 have hj:=has_pos hh
 obtain⟨b,rfl,hcl⟩:=h.at hj
 have HCL:Hid (∀X,Below ((w.alloc (.cells #[.int .i64 r,.int .i64 m,.slice (some ⟨b,0,none⟩) L.length c] 29)).alloc (.cells #[.int .i64 0,.int .i64 0,.slice none 0 0] 29)).heap.size ((w.alloc (.cells #[.int .i64 r,.int .i64 m,.slice (some ⟨b,0,none⟩) L.length c] 29)).alloc (.cells #[.int .i64 0,.int .i64 0,.slice none 0 0] 29)) X→X.cell? ⟨b,pos L x*5+1,none⟩=some (.int .i64 (gr L x).pa)∧X.rangeAt b (pos L x*5) (cellsE (gr L x)).toList):=Lib.hid fun X hX=>⟨((hcl.below hb).below hX).pa hj,((hcl.below hb).below hX).range hj⟩
 clear hh
 have hw1: ¬wt<1:=by omega
 generalize (gr L x).pa=pa at *
 generalize pos L x=j at *
 clear hc h ok
 unfold cellsF
 go_enter Tryz.func50,Tryz.ntmps50
 go_wp2_with (first | (have hgd:=hx0;refine wpList_alloc30 rfl rfl ?_;clear hgd;generalize ((w.alloc (.cells #[.int .i64 r,.int .i64 m,.slice (some ⟨b,0,none⟩) L.length c] 29)).alloc (.cells #[.int .i64 0,.int .i64 0,.slice none 0 0] 29))=w3 at *;have hbi:=Below.refl w3.heap.size w3;clear hx0 hZ0 hb) | (go_at_call 30;refine(HR.out.at' _ _ (by assumption)).mono ?_;rw[HA.out];rintro e wi ⟨rfl,hbi⟩;have hX2:=HXB.out wi hbi;have f0:=cF0 hX2;have f1:=cF1 hX2;have f2:=cF2 hX2;clear hX2;have g1:=(HCL.out wi hbi).1) | (refine wpList_load30 rfl _ rfl w.heap.size r m (.slice (some ⟨b,0,none⟩) L.length c) rfl (HXB.out _ (by assumption)) ?_) | (refine wpList_store30 rfl _ _ rfl (w.heap.size+1) r m (.slice (some ⟨b,0,none⟩) L.length c) rfl rfl (HZB.out _ (by assumption)) rfl rfl ?_;intro wz hZ9 t9))
 refine bodyPost_ret (resultsF_ct rfl _ wz (w.heap.size+1) r m (.slice (some ⟨b,0,none⟩) L.length c) _ rfl rfl hZ9) rfl ?_
 rw[HC.out,HN.out]
 exact⟨⟨_,rfl,some ⟨b,0,none⟩,c,rfl,(HR.out.row _ hbi).turn t9 (HZB.out _ hbi) (by decide)⟩,(HFin.out _ hbi).trans (t9.below (by omega))⟩
theorem rWeight_yes (x wt:Int) (m0 k:Int) (w:World) (h:RowG w (.slice a L.length c) L) (ok:Ok L m0 k) (hh:has L x=true) (hp:0≤(gr L x).pa) (hw:1≤wt∧wt≤10000):
  Calls Tryz.prog 50 #[.agg (cellsF r m (.slice a L.length c)),.int .i64 x,.int .i64 wt] w fun e w'=>(∃v,e= .returned (.tuple #[v,.int .i64 (weightC L x wt)])∧DocF w' v r m (weightN L x wt))∧Below w.heap.size w w':=by
 have hc:weightC L x wt=0:=by unfold weightC;rw[if_neg (by rw[hh];decide),if_neg (by omega),if_neg (by omega)]
 have HC:=Lib.hid hc
 have HN:Hid (weightN L x wt=weightG L x wt):=Lib.hid (by unfold weightN;rw[hc];rfl)
 obtain⟨hx0,hZ0,hb,hsz,HR,HXB,HZB,HFin⟩:=pre2 r m h ok
 have HA:Hid (atG L x=(pos L x:Int)):=Lib.hid (atG_yes hh)
 have HH:=Lib.hid hh
 have hj:=has_pos hh
 obtain⟨b,rfl,hcl⟩:=h.at hj
 have HCL:Hid (∀X,Below ((w.alloc (.cells #[.int .i64 r,.int .i64 m,.slice (some ⟨b,0,none⟩) L.length c] 29)).alloc (.cells #[.int .i64 0,.int .i64 0,.slice none 0 0] 29)).heap.size ((w.alloc (.cells #[.int .i64 r,.int .i64 m,.slice (some ⟨b,0,none⟩) L.length c] 29)).alloc (.cells #[.int .i64 0,.int .i64 0,.slice none 0 0] 29)) X→X.cell? ⟨b,pos L x*5+1,none⟩=some (.int .i64 (gr L x).pa)∧X.rangeAt b (pos L x*5) (cellsE (gr L x)).toList):=Lib.hid fun X hX=>⟨((hcl.below hb).below hX).pa hj,((hcl.below hb).below hX).range hj⟩
 have HGG:Hid (weightG L x wt=L.set (pos L x) ⟨(gr L x).id,(gr L x).pa,wt,(gr L x).me,(gr L x).aw⟩):=Lib.hid (by unfold weightG setG;rw[gr_id hh])
 rw[HGG.out] at HN
 have hw1: ¬wt<1:=by omega
 have hw2: ¬ 10000<wt:=by omega
 clear hh hw HGG
 generalize gr L x=g at *
 generalize pos L x=j at *
 clear hc h ok
 unfold cellsF
 go_enter Tryz.func50,Tryz.ntmps50
 go_wp2_with (first | (have hgd:=hx0;refine wpList_alloc30 rfl rfl ?_;clear hgd;generalize ((w.alloc (.cells #[.int .i64 r,.int .i64 m,.slice (some ⟨b,0,none⟩) L.length c] 29)).alloc (.cells #[.int .i64 0,.int .i64 0,.slice none 0 0] 29))=w3 at *;have hbi:=Below.refl w3.heap.size w3;clear hx0 hZ0 hb) | (go_at_call 30;refine(HR.out.at' _ _ (by assumption)).mono ?_;rw[HA.out];rintro e wi ⟨rfl,hbi⟩;have hX2:=HXB.out wi hbi;have f0:=cF0 hX2;have f1:=cF1 hX2;have f2:=cF2 hX2;clear hX2;have g1:=(HCL.out wi hbi).1) | (refine wpList_load30 rfl _ rfl w.heap.size r m (.slice (some ⟨b,0,none⟩) L.length c) rfl (HXB.out _ (by assumption)) ?_) | (refine wpList_load_mid rfl 56 _ rfl b (j*5) rfl _ _ (HCL.out _ (by assumption)).2 Tryz.underlying56 rfl Tryz.info56 ?_) | (refine wpList_alloc70 rfl rfl ?_;have hZg:=Blk.new wi 56 #[.int .i64 0,.int .i64 0,.int .i64 0,.int .i64 0,.int .i64 0];have hbg:=Below.allocS hbi (.cells #[.int .i64 0,.int .i64 0,.int .i64 0,.int .i64 0,.int .i64 0] 56);have hltg:wi.heap.size<(wi.alloc (.cells #[.int .i64 0,.int .i64 0,.int .i64 0,.int .i64 0,.int .i64 0] 56)).heap.size:=(by simp);have hleg:=hbi.size;generalize wi.alloc (.cells #[.int .i64 0,.int .i64 0,.int .i64 0,.int .i64 0,.int .i64 0] 56)=wg at *) | (refine wpList_store70 rfl _ _ rfl wi.heap.size g rfl rfl hZg rfl ?_;intro wh hZh th;have hbh:Below w3.heap.size w3 wh:=hbg.trans (th.below hleg);have fz:=hZh.fz 2;have cx2:=cE2 hZh;have hZk:Blk (wh.setCell ⟨wi.heap.size,2,none⟩ (.int .i64 wt)) wi.heap.size 56 (cellsE ⟨g.id,g.pa,wt,g.me,g.aw⟩):=hZh.set 2 (.int .i64 wt);have hbk:Below w3.heap.size w3 (wh.setCell ⟨wi.heap.size,2,none⟩ (.int .i64 wt)):=hbh.trans ((Turn.setCell wh wi.heap.size 2 _).below hleg)) | (refine wpList_load70 rfl _ rfl wi.heap.size ⟨g.id,g.pa,wt,g.me,g.aw⟩ rfl hZk ?_) | (go_at_call 90;refine(HR.out.set _ ⟨g.id,g.pa,wt,g.me,g.aw⟩ _ hj (by assumption)).mono ?_;rintro e wi ⟨⟨a',c',rfl,hr9⟩,hbi⟩) | (refine wpList_store30 rfl _ _ rfl (w.heap.size+1) r m (.slice a' L.length c') rfl rfl (HZB.out _ (by assumption)) rfl rfl ?_;intro wz hZ9 t9))
 refine bodyPost_ret (resultsF_ct rfl _ wz (w.heap.size+1) r m _ _ rfl rfl hZ9) rfl ?_
 rw[HC.out,HN.out]
 exact⟨⟨_,rfl,a',c',by rw[List.length_set],by rw[List.length_set];exact hr9.turn t9 (HZB.out _ hbi) (by decide)⟩,(HFin.out _ hbi).trans (t9.below (by omega))⟩
end
end Go.Proofs.YtohifgjeebhijaaGreatDoor
namespace Go.Proofs.YtohifgjeebhijaaGreatDoor
set_option maxRecDepth 100000
set_option maxHeartbeats 4000000
open Go.RowKit Go.Maps
section
variable (r m:Int) (a:Option Addr) (c:Nat) (L:List Gr)
theorem rCount_no (x me aw:Int) (m0 k:Int) (w:World) (h:RowG w (.slice a L.length c) L) (ok:Ok L m0 k) (hh:has L x=false):
  Calls Tryz.prog 52 #[.agg (cellsF r m (.slice a L.length c)),.int .i64 x,.int .i64 me,.int .i64 aw] w fun e w'=>(∃v,e= .returned (.tuple #[v,.int .i64 (countC L x me aw)])∧DocF w' v r m (countN L x me aw))∧Below w.heap.size w w':=by
 have hc:countC L x me aw=4:=by unfold countC;rw[if_pos hh]
 have HC:=Lib.hid hc
 have HN:Hid (countN L x me aw=L):=Lib.hid (by unfold countN;rw[hc];rfl)
 obtain⟨hx0,hZ0,hb,hsz,HR,HXB,HZB,HFin⟩:=pre2 r m h ok
 have HA:Hid (atG L x= -1):=Lib.hid (atG_no hh)
 clear hh
 clear hc h ok
 unfold cellsF
 go_enter Tryz.func52,Tryz.ntmps52
 go_wp2_with (first | (have hgd:=hx0;refine wpList_alloc30 rfl rfl ?_;clear hgd;generalize ((w.alloc (.cells #[.int .i64 r,.int .i64 m,.slice a L.length c] 29)).alloc (.cells #[.int .i64 0,.int .i64 0,.slice none 0 0] 29))=w3 at *;have hbi:=Below.refl w3.heap.size w3;clear hx0 hZ0 hb) | (go_at_call 30;refine(HR.out.at' _ _ (by assumption)).mono ?_;rw[HA.out];rintro e wi ⟨rfl,hbi⟩) | (refine wpList_load30 rfl _ rfl w.heap.size r m (.slice a L.length c) rfl (HXB.out _ (by assumption)) ?_) | (refine wpList_store30 rfl _ _ rfl (w.heap.size+1) r m (.slice a L.length c) rfl rfl (HZB.out _ (by assumption)) rfl rfl ?_;intro wz hZ9 t9))
 refine bodyPost_ret (resultsF_ct rfl _ wz (w.heap.size+1) r m (.slice a L.length c) _ rfl rfl hZ9) rfl ?_
 rw[HC.out,HN.out]
 exact⟨⟨_,rfl,a,c,rfl,(HR.out.row _ hbi).turn t9 (HZB.out _ hbi) (by decide)⟩,(HFin.out _ hbi).trans (t9.below (by omega))⟩
theorem rCount_full (x me aw:Int) (m0 k:Int) (w:World) (h:RowG w (.slice a L.length c) L) (ok:Ok L m0 k) (hh:has L x=true) (h0:0<me) (h32:fanI L x=32):
  Calls Tryz.prog 52 #[.agg (cellsF r m (.slice a L.length c)),.int .i64 x,.int .i64 me,.int .i64 aw] w fun e w'=>(∃v,e= .returned (.tuple #[v,.int .i64 (countC L x me aw)])∧DocF w' v r m (countN L x me aw))∧Below w.heap.size w w':=by
 have hc:countC L x me aw=6:=by unfold countC;rw[if_neg (by rw[hh];decide),if_pos ⟨h0,h32⟩]
 have HC:=Lib.hid hc
 have HN:Hid (countN L x me aw=L):=Lib.hid (by unfold countN;rw[hc];rfl)
 obtain⟨hx0,hZ0,hb,hsz,HR,HXB,HZB,HFin⟩:=pre2 r m h ok
 have HA:Hid (atG L x=(pos L x:Int)):=Lib.hid (atG_yes hh)
 have HH:=Lib.hid hh
 have h322:=beq_tt h32
 clear hh h32
 generalize pos L x=j at *
 clear hc h ok
 unfold cellsF
 go_enter Tryz.func52,Tryz.ntmps52
 go_wp2_with (first | (have hgd:=hx0;refine wpList_alloc30 rfl rfl ?_;clear hgd;generalize ((w.alloc (.cells #[.int .i64 r,.int .i64 m,.slice a L.length c] 29)).alloc (.cells #[.int .i64 0,.int .i64 0,.slice none 0 0] 29))=w3 at *;have hbi:=Below.refl w3.heap.size w3;clear hx0 hZ0 hb) | (go_at_call 30;refine(HR.out.at' _ _ (by assumption)).mono ?_;rw[HA.out];rintro e wi ⟨rfl,hbi⟩;have hX2:=HXB.out wi hbi;have f0:=cF0 hX2;have f1:=cF1 hX2;have f2:=cF2 hX2;clear hX2) | (go_at_call 84;refine(HR.out.fan _ _ HH.out (by assumption)).mono ?_;rintro e wi ⟨rfl,hbi⟩) | (refine wpList_load30 rfl _ rfl w.heap.size r m (.slice a L.length c) rfl (HXB.out _ (by assumption)) ?_) | (refine wpList_store30 rfl _ _ rfl (w.heap.size+1) r m (.slice a L.length c) rfl rfl (HZB.out _ (by assumption)) rfl rfl ?_;intro wz hZ9 t9))
 refine bodyPost_ret (resultsF_ct rfl _ wz (w.heap.size+1) r m (.slice a L.length c) _ rfl rfl hZ9) rfl ?_
 rw[HC.out,HN.out]
 exact⟨⟨_,rfl,a,c,rfl,(HR.out.row _ hbi).turn t9 (HZB.out _ hbi) (by decide)⟩,(HFin.out _ hbi).trans (t9.below (by omega))⟩
theorem rCount_negG (x me aw:Int) (m0 k:Int) (w:World) (h:RowG w (.slice a L.length c) L) (ok:Ok L m0 k) (hh:has L x=true) (h0:0<me) (h32: ¬fanI L x=32) (hs:(gr L x).aw+aw<0) (hme: -1≤me∧me≤1) (haw: -1≤aw∧aw≤1):
  Calls Tryz.prog 52 #[.agg (cellsF r m (.slice a L.length c)),.int .i64 x,.int .i64 me,.int .i64 aw] w fun e w'=>(∃v,e= .returned (.tuple #[v,.int .i64 (countC L x me aw)])∧DocF w' v r m (countN L x me aw))∧Below w.heap.size w w':=by
 have hc:countC L x me aw=10:=by unfold countC;rw[if_neg (by rw[hh];decide),if_neg (fun e=>h32 e.2),if_pos (by omega)]
 have HC:=Lib.hid hc
 have HN:Hid (countN L x me aw=L):=Lib.hid (by unfold countN;rw[hc];rfl)
 obtain⟨hx0,hZ0,hb,hsz,HR,HXB,HZB,HFin⟩:=pre2 r m h ok
 have HA:Hid (atG L x=(pos L x:Int)):=Lib.hid (atG_yes hh)
 have HH:=Lib.hid hh
 have hj:=has_pos hh
 obtain⟨b,rfl,hcl⟩:=h.at hj
 have HCL:Hid (∀X,Below ((w.alloc (.cells #[.int .i64 r,.int .i64 m,.slice (some ⟨b,0,none⟩) L.length c] 29)).alloc (.cells #[.int .i64 0,.int .i64 0,.slice none 0 0] 29)).heap.size ((w.alloc (.cells #[.int .i64 r,.int .i64 m,.slice (some ⟨b,0,none⟩) L.length c] 29)).alloc (.cells #[.int .i64 0,.int .i64 0,.slice none 0 0] 29)) X→X.cell? ⟨b,pos L x*5+1,none⟩=some (.int .i64 (gr L x).pa)∧X.rangeAt b (pos L x*5) (cellsE (gr L x)).toList):=Lib.hid fun X hX=>⟨((hcl.below hb).below hX).pa hj,((hcl.below hb).below hX).range hj⟩
 have hnum:=ok.num _ (gr_mem hh)
 have hkk:=ok.k1
 have hff:=beq_ff h32
 obtain⟨n1,n2,n3,_⟩:=hnum
 have n5:(gr L x).me≤1000:=by omega
 have n6:0≤(gr L x).me:=by omega
 have n7:(gr L x).aw≤1000:=by omega
 clear hh n2 n3 hkk h32
 generalize gr L x=g at *
 generalize pos L x=j at *
 obtain⟨hme1,hme2⟩:=hme
 obtain⟨haw1,haw2⟩:=haw
 clear hc h ok
 unfold cellsF
 go_enter Tryz.func52,Tryz.ntmps52
 go_wp2_with (first | (have hgd:=hx0;refine wpList_alloc30 rfl rfl ?_;clear hgd;generalize ((w.alloc (.cells #[.int .i64 r,.int .i64 m,.slice (some ⟨b,0,none⟩) L.length c] 29)).alloc (.cells #[.int .i64 0,.int .i64 0,.slice none 0 0] 29))=w3 at *;have hbi:=Below.refl w3.heap.size w3;clear hx0 hZ0 hb) | (go_at_call 30;refine(HR.out.at' _ _ (by assumption)).mono ?_;rw[HA.out];rintro e wi ⟨rfl,hbi⟩;have hX2:=HXB.out wi hbi;have f0:=cF0 hX2;have f1:=cF1 hX2;have f2:=cF2 hX2;clear hX2;have g1:=(HCL.out wi hbi).1) | (go_at_call 84;refine(HR.out.fan _ _ HH.out (by assumption)).mono ?_;rintro e wi ⟨rfl,hbi⟩;have hX2:=HXB.out wi hbi;have f0:=cF0 hX2;have f1:=cF1 hX2;have f2:=cF2 hX2;clear hX2;have g1:=(HCL.out wi hbi).1) | (refine wpList_load30 rfl _ rfl w.heap.size r m (.slice (some ⟨b,0,none⟩) L.length c) rfl (HXB.out _ (by assumption)) ?_) | (refine wpList_load_mid rfl 56 _ rfl b (j*5) rfl _ _ (HCL.out _ (by assumption)).2 Tryz.underlying56 rfl Tryz.info56 ?_) | (refine wpList_alloc70 rfl rfl ?_;have hZg:=Blk.new wi 56 #[.int .i64 0,.int .i64 0,.int .i64 0,.int .i64 0,.int .i64 0];have hbg:=Below.allocS hbi (.cells #[.int .i64 0,.int .i64 0,.int .i64 0,.int .i64 0,.int .i64 0] 56);have hltg:wi.heap.size<(wi.alloc (.cells #[.int .i64 0,.int .i64 0,.int .i64 0,.int .i64 0,.int .i64 0] 56)).heap.size:=(by simp);have hleg:=hbi.size;generalize wi.alloc (.cells #[.int .i64 0,.int .i64 0,.int .i64 0,.int .i64 0,.int .i64 0] 56)=wg at *) | (refine wpList_store70 rfl _ _ rfl wi.heap.size g rfl rfl hZg rfl ?_;intro wh hZh th;have hbh:Below w3.heap.size w3 wh:=hbg.trans (th.below hleg);have fz3:=hZh.fz 3;have fz4:=hZh.fz 4;have cx3:=cE3 hZh;have cx4:=cE4 hZh;have hZi:Blk (wh.setCell ⟨wi.heap.size,3,none⟩ (.int .i64 (g.me+me))) wi.heap.size 56 (cellsE ⟨g.id,g.pa,g.wt,g.me+me,g.aw⟩):=hZh.set 3 _;have hbj:Below w3.heap.size w3 (wh.setCell ⟨wi.heap.size,3,none⟩ (.int .i64 (g.me+me))):=hbh.trans ((Turn.setCell wh wi.heap.size 3 _).below hleg);have cy4:=cE4 hZi;have fy4:=hZi.fz 4;have cz4x:=cE3 hZi;have hZk:Blk ((wh.setCell ⟨wi.heap.size,3,none⟩ (.int .i64 (g.me+me))).setCell ⟨wi.heap.size,4,none⟩ (.int .i64 (g.aw+aw))) wi.heap.size 56 (cellsE ⟨g.id,g.pa,g.wt,g.me+me,g.aw+aw⟩):=hZi.set 4 _;have hbk:Below w3.heap.size w3 ((wh.setCell ⟨wi.heap.size,3,none⟩ (.int .i64 (g.me+me))).setCell ⟨wi.heap.size,4,none⟩ (.int .i64 (g.aw+aw))):=hbj.trans ((Turn.setCell _ wi.heap.size 4 _).below hleg);have cz3:=cE3 hZk;have cz4:=cE4 hZk) | (refine wpList_store30 rfl _ _ rfl (w.heap.size+1) r m (.slice (some ⟨b,0,none⟩) L.length c) rfl rfl (HZB.out _ (by assumption)) rfl rfl ?_;intro wz hZ9 t9))
 refine bodyPost_ret (resultsF_ct rfl _ wz (w.heap.size+1) r m (.slice (some ⟨b,0,none⟩) L.length c) _ rfl rfl hZ9) rfl ?_
 rw[HC.out,HN.out]
 exact⟨⟨_,rfl,some ⟨b,0,none⟩,c,rfl,(HR.out.row _ hbk).turn t9 (HZB.out _ hbk) (by decide)⟩,(HFin.out _ hbk).trans (t9.below (by omega))⟩
theorem rCount_overG (x me aw:Int) (m0 k:Int) (w:World) (h:RowG w (.slice a L.length c) L) (ok:Ok L m0 k) (hh:has L x=true) (h0:0<me) (h32: ¬fanI L x=32) (hs0: ¬(gr L x).aw+aw<0) (hs:(gr L x).me+me<(gr L x).aw+aw) (hme: -1≤me∧me≤1) (haw: -1≤aw∧aw≤1):
  Calls Tryz.prog 52 #[.agg (cellsF r m (.slice a L.length c)),.int .i64 x,.int .i64 me,.int .i64 aw] w fun e w'=>(∃v,e= .returned (.tuple #[v,.int .i64 (countC L x me aw)])∧DocF w' v r m (countN L x me aw))∧Below w.heap.size w w':=by
 have hc:countC L x me aw=10:=by unfold countC;rw[if_neg (by rw[hh];decide),if_neg (fun e=>h32 e.2),if_pos (by omega)]
 have HC:=Lib.hid hc
 have HN:Hid (countN L x me aw=L):=Lib.hid (by unfold countN;rw[hc];rfl)
 obtain⟨hx0,hZ0,hb,hsz,HR,HXB,HZB,HFin⟩:=pre2 r m h ok
 have HA:Hid (atG L x=(pos L x:Int)):=Lib.hid (atG_yes hh)
 have HH:=Lib.hid hh
 have hj:=has_pos hh
 obtain⟨b,rfl,hcl⟩:=h.at hj
 have HCL:Hid (∀X,Below ((w.alloc (.cells #[.int .i64 r,.int .i64 m,.slice (some ⟨b,0,none⟩) L.length c] 29)).alloc (.cells #[.int .i64 0,.int .i64 0,.slice none 0 0] 29)).heap.size ((w.alloc (.cells #[.int .i64 r,.int .i64 m,.slice (some ⟨b,0,none⟩) L.length c] 29)).alloc (.cells #[.int .i64 0,.int .i64 0,.slice none 0 0] 29)) X→X.cell? ⟨b,pos L x*5+1,none⟩=some (.int .i64 (gr L x).pa)∧X.rangeAt b (pos L x*5) (cellsE (gr L x)).toList):=Lib.hid fun X hX=>⟨((hcl.below hb).below hX).pa hj,((hcl.below hb).below hX).range hj⟩
 have hnum:=ok.num _ (gr_mem hh)
 have hkk:=ok.k1
 have hff:=beq_ff h32
 obtain⟨n1,n2,n3,_⟩:=hnum
 have n5:(gr L x).me≤1000:=by omega
 have n6:0≤(gr L x).me:=by omega
 have n7:(gr L x).aw≤1000:=by omega
 clear hh n2 n3 hkk h32
 generalize gr L x=g at *
 generalize pos L x=j at *
 obtain⟨hme1,hme2⟩:=hme
 obtain⟨haw1,haw2⟩:=haw
 clear hc h ok
 unfold cellsF
 go_enter Tryz.func52,Tryz.ntmps52
 go_wp2_with (first | (have hgd:=hx0;refine wpList_alloc30 rfl rfl ?_;clear hgd;generalize ((w.alloc (.cells #[.int .i64 r,.int .i64 m,.slice (some ⟨b,0,none⟩) L.length c] 29)).alloc (.cells #[.int .i64 0,.int .i64 0,.slice none 0 0] 29))=w3 at *;have hbi:=Below.refl w3.heap.size w3;clear hx0 hZ0 hb) | (go_at_call 30;refine(HR.out.at' _ _ (by assumption)).mono ?_;rw[HA.out];rintro e wi ⟨rfl,hbi⟩;have hX2:=HXB.out wi hbi;have f0:=cF0 hX2;have f1:=cF1 hX2;have f2:=cF2 hX2;clear hX2;have g1:=(HCL.out wi hbi).1) | (go_at_call 84;refine(HR.out.fan _ _ HH.out (by assumption)).mono ?_;rintro e wi ⟨rfl,hbi⟩;have hX2:=HXB.out wi hbi;have f0:=cF0 hX2;have f1:=cF1 hX2;have f2:=cF2 hX2;clear hX2;have g1:=(HCL.out wi hbi).1) | (refine wpList_load30 rfl _ rfl w.heap.size r m (.slice (some ⟨b,0,none⟩) L.length c) rfl (HXB.out _ (by assumption)) ?_) | (refine wpList_load_mid rfl 56 _ rfl b (j*5) rfl _ _ (HCL.out _ (by assumption)).2 Tryz.underlying56 rfl Tryz.info56 ?_) | (refine wpList_alloc70 rfl rfl ?_;have hZg:=Blk.new wi 56 #[.int .i64 0,.int .i64 0,.int .i64 0,.int .i64 0,.int .i64 0];have hbg:=Below.allocS hbi (.cells #[.int .i64 0,.int .i64 0,.int .i64 0,.int .i64 0,.int .i64 0] 56);have hltg:wi.heap.size<(wi.alloc (.cells #[.int .i64 0,.int .i64 0,.int .i64 0,.int .i64 0,.int .i64 0] 56)).heap.size:=(by simp);have hleg:=hbi.size;generalize wi.alloc (.cells #[.int .i64 0,.int .i64 0,.int .i64 0,.int .i64 0,.int .i64 0] 56)=wg at *) | (refine wpList_store70 rfl _ _ rfl wi.heap.size g rfl rfl hZg rfl ?_;intro wh hZh th;have hbh:Below w3.heap.size w3 wh:=hbg.trans (th.below hleg);have fz3:=hZh.fz 3;have fz4:=hZh.fz 4;have cx3:=cE3 hZh;have cx4:=cE4 hZh;have hZi:Blk (wh.setCell ⟨wi.heap.size,3,none⟩ (.int .i64 (g.me+me))) wi.heap.size 56 (cellsE ⟨g.id,g.pa,g.wt,g.me+me,g.aw⟩):=hZh.set 3 _;have hbj:Below w3.heap.size w3 (wh.setCell ⟨wi.heap.size,3,none⟩ (.int .i64 (g.me+me))):=hbh.trans ((Turn.setCell wh wi.heap.size 3 _).below hleg);have cy4:=cE4 hZi;have fy4:=hZi.fz 4;have cz4x:=cE3 hZi;have hZk:Blk ((wh.setCell ⟨wi.heap.size,3,none⟩ (.int .i64 (g.me+me))).setCell ⟨wi.heap.size,4,none⟩ (.int .i64 (g.aw+aw))) wi.heap.size 56 (cellsE ⟨g.id,g.pa,g.wt,g.me+me,g.aw+aw⟩):=hZi.set 4 _;have hbk:Below w3.heap.size w3 ((wh.setCell ⟨wi.heap.size,3,none⟩ (.int .i64 (g.me+me))).setCell ⟨wi.heap.size,4,none⟩ (.int .i64 (g.aw+aw))):=hbj.trans ((Turn.setCell _ wi.heap.size 4 _).below hleg);have cz3:=cE3 hZk;have cz4:=cE4 hZk) | (refine wpList_store30 rfl _ _ rfl (w.heap.size+1) r m (.slice (some ⟨b,0,none⟩) L.length c) rfl rfl (HZB.out _ (by assumption)) rfl rfl ?_;intro wz hZ9 t9))
 refine bodyPost_ret (resultsF_ct rfl _ wz (w.heap.size+1) r m (.slice (some ⟨b,0,none⟩) L.length c) _ rfl rfl hZ9) rfl ?_
 rw[HC.out,HN.out]
 exact⟨⟨_,rfl,some ⟨b,0,none⟩,c,rfl,(HR.out.row _ hbk).turn t9 (HZB.out _ hbk) (by decide)⟩,(HFin.out _ hbk).trans (t9.below (by omega))⟩
theorem rCount_yesG (x me aw:Int) (m0 k:Int) (w:World) (h:RowG w (.slice a L.length c) L) (ok:Ok L m0 k) (hh:has L x=true) (h0:0<me) (h32: ¬fanI L x=32) (hs0: ¬(gr L x).aw+aw<0) (hs: ¬(gr L x).me+me<(gr L x).aw+aw) (hme: -1≤me∧me≤1) (haw: -1≤aw∧aw≤1):
  Calls Tryz.prog 52 #[.agg (cellsF r m (.slice a L.length c)),.int .i64 x,.int .i64 me,.int .i64 aw] w fun e w'=>(∃v,e= .returned (.tuple #[v,.int .i64 (countC L x me aw)])∧DocF w' v r m (countN L x me aw))∧Below w.heap.size w w':=by
 have hc:countC L x me aw=0:=by unfold countC;rw[if_neg (by rw[hh];decide),if_neg (fun e=>h32 e.2),if_neg (by omega)]
 have HC:=Lib.hid hc
 have HN:Hid (countN L x me aw=countG L x me aw):=Lib.hid (by unfold countN;rw[hc];rfl)
 obtain⟨hx0,hZ0,hb,hsz,HR,HXB,HZB,HFin⟩:=pre2 r m h ok
 have HA:Hid (atG L x=(pos L x:Int)):=Lib.hid (atG_yes hh)
 have HH:=Lib.hid hh
 have hj:=has_pos hh
 obtain⟨b,rfl,hcl⟩:=h.at hj
 have HCL:Hid (∀X,Below ((w.alloc (.cells #[.int .i64 r,.int .i64 m,.slice (some ⟨b,0,none⟩) L.length c] 29)).alloc (.cells #[.int .i64 0,.int .i64 0,.slice none 0 0] 29)).heap.size ((w.alloc (.cells #[.int .i64 r,.int .i64 m,.slice (some ⟨b,0,none⟩) L.length c] 29)).alloc (.cells #[.int .i64 0,.int .i64 0,.slice none 0 0] 29)) X→X.cell? ⟨b,pos L x*5+1,none⟩=some (.int .i64 (gr L x).pa)∧X.rangeAt b (pos L x*5) (cellsE (gr L x)).toList):=Lib.hid fun X hX=>⟨((hcl.below hb).below hX).pa hj,((hcl.below hb).below hX).range hj⟩
 have hnum:=ok.num _ (gr_mem hh)
 have hkk:=ok.k1
 have HGG:Hid (countG L x me aw=L.set (pos L x) ⟨(gr L x).id,(gr L x).pa,(gr L x).wt,(gr L x).me+me,(gr L x).aw+aw⟩):=Lib.hid (by unfold countG setG;rw[gr_id hh])
 rw[HGG.out] at HN
 clear HGG
 have hff:=beq_ff h32
 obtain⟨n1,n2,n3,_⟩:=hnum
 have n5:(gr L x).me≤1000:=by omega
 have n6:0≤(gr L x).me:=by omega
 have n7:(gr L x).aw≤1000:=by omega
 clear hh n2 n3 hkk h32
 generalize gr L x=g at *
 generalize pos L x=j at *
 obtain⟨hme1,hme2⟩:=hme
 obtain⟨haw1,haw2⟩:=haw
 clear hc h ok
 unfold cellsF
 go_enter Tryz.func52,Tryz.ntmps52
 go_wp2_with (first | (have hgd:=hx0;refine wpList_alloc30 rfl rfl ?_;clear hgd;generalize ((w.alloc (.cells #[.int .i64 r,.int .i64 m,.slice (some ⟨b,0,none⟩) L.length c] 29)).alloc (.cells #[.int .i64 0,.int .i64 0,.slice none 0 0] 29))=w3 at *;have hbi:=Below.refl w3.heap.size w3;clear hx0 hZ0 hb) | (go_at_call 30;refine(HR.out.at' _ _ (by assumption)).mono ?_;rw[HA.out];rintro e wi ⟨rfl,hbi⟩;have hX2:=HXB.out wi hbi;have f0:=cF0 hX2;have f1:=cF1 hX2;have f2:=cF2 hX2;clear hX2;have g1:=(HCL.out wi hbi).1) | (go_at_call 84;refine(HR.out.fan _ _ HH.out (by assumption)).mono ?_;rintro e wi ⟨rfl,hbi⟩;have hX2:=HXB.out wi hbi;have f0:=cF0 hX2;have f1:=cF1 hX2;have f2:=cF2 hX2;clear hX2;have g1:=(HCL.out wi hbi).1) | (refine wpList_load30 rfl _ rfl w.heap.size r m (.slice (some ⟨b,0,none⟩) L.length c) rfl (HXB.out _ (by assumption)) ?_) | (refine wpList_load_mid rfl 56 _ rfl b (j*5) rfl _ _ (HCL.out _ (by assumption)).2 Tryz.underlying56 rfl Tryz.info56 ?_) | (refine wpList_alloc70 rfl rfl ?_;have hZg:=Blk.new wi 56 #[.int .i64 0,.int .i64 0,.int .i64 0,.int .i64 0,.int .i64 0];have hbg:=Below.allocS hbi (.cells #[.int .i64 0,.int .i64 0,.int .i64 0,.int .i64 0,.int .i64 0] 56);have hltg:wi.heap.size<(wi.alloc (.cells #[.int .i64 0,.int .i64 0,.int .i64 0,.int .i64 0,.int .i64 0] 56)).heap.size:=(by simp);have hleg:=hbi.size;generalize wi.alloc (.cells #[.int .i64 0,.int .i64 0,.int .i64 0,.int .i64 0,.int .i64 0] 56)=wg at *) | (refine wpList_store70 rfl _ _ rfl wi.heap.size g rfl rfl hZg rfl ?_;intro wh hZh th;have hbh:Below w3.heap.size w3 wh:=hbg.trans (th.below hleg);have fz3:=hZh.fz 3;have fz4:=hZh.fz 4;have cx3:=cE3 hZh;have cx4:=cE4 hZh;have hZi:Blk (wh.setCell ⟨wi.heap.size,3,none⟩ (.int .i64 (g.me+me))) wi.heap.size 56 (cellsE ⟨g.id,g.pa,g.wt,g.me+me,g.aw⟩):=hZh.set 3 _;have hbj:Below w3.heap.size w3 (wh.setCell ⟨wi.heap.size,3,none⟩ (.int .i64 (g.me+me))):=hbh.trans ((Turn.setCell wh wi.heap.size 3 _).below hleg);have cy4:=cE4 hZi;have fy4:=hZi.fz 4;have cz4x:=cE3 hZi;have hZk:Blk ((wh.setCell ⟨wi.heap.size,3,none⟩ (.int .i64 (g.me+me))).setCell ⟨wi.heap.size,4,none⟩ (.int .i64 (g.aw+aw))) wi.heap.size 56 (cellsE ⟨g.id,g.pa,g.wt,g.me+me,g.aw+aw⟩):=hZi.set 4 _;have hbk:Below w3.heap.size w3 ((wh.setCell ⟨wi.heap.size,3,none⟩ (.int .i64 (g.me+me))).setCell ⟨wi.heap.size,4,none⟩ (.int .i64 (g.aw+aw))):=hbj.trans ((Turn.setCell _ wi.heap.size 4 _).below hleg);have cz3:=cE3 hZk;have cz4:=cE4 hZk) | (refine wpList_load70 rfl _ rfl wi.heap.size ⟨g.id,g.pa,g.wt,g.me+me,g.aw+aw⟩ rfl hZk ?_) | (go_at_call 90;refine(HR.out.set _ ⟨g.id,g.pa,g.wt,g.me+me,g.aw+aw⟩ _ hj (by assumption)).mono ?_;rintro e wi ⟨⟨a',c',rfl,hr9⟩,hbi⟩) | (refine wpList_store30 rfl _ _ rfl (w.heap.size+1) r m (.slice a' L.length c') rfl rfl (HZB.out _ (by assumption)) rfl rfl ?_;intro wz hZ9 t9))
 refine bodyPost_ret (resultsF_ct rfl _ wz (w.heap.size+1) r m _ _ rfl rfl hZ9) rfl ?_
 rw[HC.out,HN.out]
 exact⟨⟨_,rfl,a',c',by rw[List.length_set],by rw[List.length_set];exact hr9.turn t9 (HZB.out _ hbi) (by decide)⟩,(HFin.out _ hbi).trans (t9.below (by omega))⟩
theorem rCount_negN (x me aw:Int) (m0 k:Int) (w:World) (h:RowG w (.slice a L.length c) L) (ok:Ok L m0 k) (hh:has L x=true) (h0: ¬ 0<me) (hs:(gr L x).aw+aw<0) (hme: -1≤me∧me≤1) (haw: -1≤aw∧aw≤1):
  Calls Tryz.prog 52 #[.agg (cellsF r m (.slice a L.length c)),.int .i64 x,.int .i64 me,.int .i64 aw] w fun e w'=>(∃v,e= .returned (.tuple #[v,.int .i64 (countC L x me aw)])∧DocF w' v r m (countN L x me aw))∧Below w.heap.size w w':=by
 have hc:countC L x me aw=10:=by unfold countC;rw[if_neg (by rw[hh];decide),if_neg (fun e=>h0 e.1),if_pos (by omega)]
 have HC:=Lib.hid hc
 have HN:Hid (countN L x me aw=L):=Lib.hid (by unfold countN;rw[hc];rfl)
 obtain⟨hx0,hZ0,hb,hsz,HR,HXB,HZB,HFin⟩:=pre2 r m h ok
 have HA:Hid (atG L x=(pos L x:Int)):=Lib.hid (atG_yes hh)
 have HH:=Lib.hid hh
 have hj:=has_pos hh
 obtain⟨b,rfl,hcl⟩:=h.at hj
 have HCL:Hid (∀X,Below ((w.alloc (.cells #[.int .i64 r,.int .i64 m,.slice (some ⟨b,0,none⟩) L.length c] 29)).alloc (.cells #[.int .i64 0,.int .i64 0,.slice none 0 0] 29)).heap.size ((w.alloc (.cells #[.int .i64 r,.int .i64 m,.slice (some ⟨b,0,none⟩) L.length c] 29)).alloc (.cells #[.int .i64 0,.int .i64 0,.slice none 0 0] 29)) X→X.cell? ⟨b,pos L x*5+1,none⟩=some (.int .i64 (gr L x).pa)∧X.rangeAt b (pos L x*5) (cellsE (gr L x)).toList):=Lib.hid fun X hX=>⟨((hcl.below hb).below hX).pa hj,((hcl.below hb).below hX).range hj⟩
 have hnum:=ok.num _ (gr_mem hh)
 have hkk:=ok.k1
 obtain⟨n1,n2,n3,_⟩:=hnum
 have n5:(gr L x).me≤1000:=by omega
 have n6:0≤(gr L x).me:=by omega
 have n7:(gr L x).aw≤1000:=by omega
 clear hh n2 n3 hkk
 generalize gr L x=g at *
 generalize pos L x=j at *
 obtain⟨hme1,hme2⟩:=hme
 obtain⟨haw1,haw2⟩:=haw
 clear hc h ok
 unfold cellsF
 go_enter Tryz.func52,Tryz.ntmps52
 go_wp2_with (first | (have hgd:=hx0;refine wpList_alloc30 rfl rfl ?_;clear hgd;generalize ((w.alloc (.cells #[.int .i64 r,.int .i64 m,.slice (some ⟨b,0,none⟩) L.length c] 29)).alloc (.cells #[.int .i64 0,.int .i64 0,.slice none 0 0] 29))=w3 at *;have hbi:=Below.refl w3.heap.size w3;clear hx0 hZ0 hb) | (go_at_call 30;refine(HR.out.at' _ _ (by assumption)).mono ?_;rw[HA.out];rintro e wi ⟨rfl,hbi⟩;have hX2:=HXB.out wi hbi;have f0:=cF0 hX2;have f1:=cF1 hX2;have f2:=cF2 hX2;clear hX2;have g1:=(HCL.out wi hbi).1) | (refine wpList_load30 rfl _ rfl w.heap.size r m (.slice (some ⟨b,0,none⟩) L.length c) rfl (HXB.out _ (by assumption)) ?_) | (refine wpList_load_mid rfl 56 _ rfl b (j*5) rfl _ _ (HCL.out _ (by assumption)).2 Tryz.underlying56 rfl Tryz.info56 ?_) | (refine wpList_alloc70 rfl rfl ?_;have hZg:=Blk.new wi 56 #[.int .i64 0,.int .i64 0,.int .i64 0,.int .i64 0,.int .i64 0];have hbg:=Below.allocS hbi (.cells #[.int .i64 0,.int .i64 0,.int .i64 0,.int .i64 0,.int .i64 0] 56);have hltg:wi.heap.size<(wi.alloc (.cells #[.int .i64 0,.int .i64 0,.int .i64 0,.int .i64 0,.int .i64 0] 56)).heap.size:=(by simp);have hleg:=hbi.size;generalize wi.alloc (.cells #[.int .i64 0,.int .i64 0,.int .i64 0,.int .i64 0,.int .i64 0] 56)=wg at *) | (refine wpList_store70 rfl _ _ rfl wi.heap.size g rfl rfl hZg rfl ?_;intro wh hZh th;have hbh:Below w3.heap.size w3 wh:=hbg.trans (th.below hleg);have fz3:=hZh.fz 3;have fz4:=hZh.fz 4;have cx3:=cE3 hZh;have cx4:=cE4 hZh;have hZi:Blk (wh.setCell ⟨wi.heap.size,3,none⟩ (.int .i64 (g.me+me))) wi.heap.size 56 (cellsE ⟨g.id,g.pa,g.wt,g.me+me,g.aw⟩):=hZh.set 3 _;have hbj:Below w3.heap.size w3 (wh.setCell ⟨wi.heap.size,3,none⟩ (.int .i64 (g.me+me))):=hbh.trans ((Turn.setCell wh wi.heap.size 3 _).below hleg);have cy4:=cE4 hZi;have fy4:=hZi.fz 4;have cz4x:=cE3 hZi;have hZk:Blk ((wh.setCell ⟨wi.heap.size,3,none⟩ (.int .i64 (g.me+me))).setCell ⟨wi.heap.size,4,none⟩ (.int .i64 (g.aw+aw))) wi.heap.size 56 (cellsE ⟨g.id,g.pa,g.wt,g.me+me,g.aw+aw⟩):=hZi.set 4 _;have hbk:Below w3.heap.size w3 ((wh.setCell ⟨wi.heap.size,3,none⟩ (.int .i64 (g.me+me))).setCell ⟨wi.heap.size,4,none⟩ (.int .i64 (g.aw+aw))):=hbj.trans ((Turn.setCell _ wi.heap.size 4 _).below hleg);have cz3:=cE3 hZk;have cz4:=cE4 hZk) | (refine wpList_store30 rfl _ _ rfl (w.heap.size+1) r m (.slice (some ⟨b,0,none⟩) L.length c) rfl rfl (HZB.out _ (by assumption)) rfl rfl ?_;intro wz hZ9 t9))
 refine bodyPost_ret (resultsF_ct rfl _ wz (w.heap.size+1) r m (.slice (some ⟨b,0,none⟩) L.length c) _ rfl rfl hZ9) rfl ?_
 rw[HC.out,HN.out]
 exact⟨⟨_,rfl,some ⟨b,0,none⟩,c,rfl,(HR.out.row _ hbk).turn t9 (HZB.out _ hbk) (by decide)⟩,(HFin.out _ hbk).trans (t9.below (by omega))⟩
theorem rCount_overN (x me aw:Int) (m0 k:Int) (w:World) (h:RowG w (.slice a L.length c) L) (ok:Ok L m0 k) (hh:has L x=true) (h0: ¬ 0<me) (hs0: ¬(gr L x).aw+aw<0) (hs:(gr L x).me+me<(gr L x).aw+aw) (hme: -1≤me∧me≤1) (haw: -1≤aw∧aw≤1):
  Calls Tryz.prog 52 #[.agg (cellsF r m (.slice a L.length c)),.int .i64 x,.int .i64 me,.int .i64 aw] w fun e w'=>(∃v,e= .returned (.tuple #[v,.int .i64 (countC L x me aw)])∧DocF w' v r m (countN L x me aw))∧Below w.heap.size w w':=by
 have hc:countC L x me aw=10:=by unfold countC;rw[if_neg (by rw[hh];decide),if_neg (fun e=>h0 e.1),if_pos (by omega)]
 have HC:=Lib.hid hc
 have HN:Hid (countN L x me aw=L):=Lib.hid (by unfold countN;rw[hc];rfl)
 obtain⟨hx0,hZ0,hb,hsz,HR,HXB,HZB,HFin⟩:=pre2 r m h ok
 have HA:Hid (atG L x=(pos L x:Int)):=Lib.hid (atG_yes hh)
 have HH:=Lib.hid hh
 have hj:=has_pos hh
 obtain⟨b,rfl,hcl⟩:=h.at hj
 have HCL:Hid (∀X,Below ((w.alloc (.cells #[.int .i64 r,.int .i64 m,.slice (some ⟨b,0,none⟩) L.length c] 29)).alloc (.cells #[.int .i64 0,.int .i64 0,.slice none 0 0] 29)).heap.size ((w.alloc (.cells #[.int .i64 r,.int .i64 m,.slice (some ⟨b,0,none⟩) L.length c] 29)).alloc (.cells #[.int .i64 0,.int .i64 0,.slice none 0 0] 29)) X→X.cell? ⟨b,pos L x*5+1,none⟩=some (.int .i64 (gr L x).pa)∧X.rangeAt b (pos L x*5) (cellsE (gr L x)).toList):=Lib.hid fun X hX=>⟨((hcl.below hb).below hX).pa hj,((hcl.below hb).below hX).range hj⟩
 have hnum:=ok.num _ (gr_mem hh)
 have hkk:=ok.k1
 obtain⟨n1,n2,n3,_⟩:=hnum
 have n5:(gr L x).me≤1000:=by omega
 have n6:0≤(gr L x).me:=by omega
 have n7:(gr L x).aw≤1000:=by omega
 clear hh n2 n3 hkk
 generalize gr L x=g at *
 generalize pos L x=j at *
 obtain⟨hme1,hme2⟩:=hme
 obtain⟨haw1,haw2⟩:=haw
 clear hc h ok
 unfold cellsF
 go_enter Tryz.func52,Tryz.ntmps52
 go_wp2_with (first | (have hgd:=hx0;refine wpList_alloc30 rfl rfl ?_;clear hgd;generalize ((w.alloc (.cells #[.int .i64 r,.int .i64 m,.slice (some ⟨b,0,none⟩) L.length c] 29)).alloc (.cells #[.int .i64 0,.int .i64 0,.slice none 0 0] 29))=w3 at *;have hbi:=Below.refl w3.heap.size w3;clear hx0 hZ0 hb) | (go_at_call 30;refine(HR.out.at' _ _ (by assumption)).mono ?_;rw[HA.out];rintro e wi ⟨rfl,hbi⟩;have hX2:=HXB.out wi hbi;have f0:=cF0 hX2;have f1:=cF1 hX2;have f2:=cF2 hX2;clear hX2;have g1:=(HCL.out wi hbi).1) | (refine wpList_load30 rfl _ rfl w.heap.size r m (.slice (some ⟨b,0,none⟩) L.length c) rfl (HXB.out _ (by assumption)) ?_) | (refine wpList_load_mid rfl 56 _ rfl b (j*5) rfl _ _ (HCL.out _ (by assumption)).2 Tryz.underlying56 rfl Tryz.info56 ?_) | (refine wpList_alloc70 rfl rfl ?_;have hZg:=Blk.new wi 56 #[.int .i64 0,.int .i64 0,.int .i64 0,.int .i64 0,.int .i64 0];have hbg:=Below.allocS hbi (.cells #[.int .i64 0,.int .i64 0,.int .i64 0,.int .i64 0,.int .i64 0] 56);have hltg:wi.heap.size<(wi.alloc (.cells #[.int .i64 0,.int .i64 0,.int .i64 0,.int .i64 0,.int .i64 0] 56)).heap.size:=(by simp);have hleg:=hbi.size;generalize wi.alloc (.cells #[.int .i64 0,.int .i64 0,.int .i64 0,.int .i64 0,.int .i64 0] 56)=wg at *) | (refine wpList_store70 rfl _ _ rfl wi.heap.size g rfl rfl hZg rfl ?_;intro wh hZh th;have hbh:Below w3.heap.size w3 wh:=hbg.trans (th.below hleg);have fz3:=hZh.fz 3;have fz4:=hZh.fz 4;have cx3:=cE3 hZh;have cx4:=cE4 hZh;have hZi:Blk (wh.setCell ⟨wi.heap.size,3,none⟩ (.int .i64 (g.me+me))) wi.heap.size 56 (cellsE ⟨g.id,g.pa,g.wt,g.me+me,g.aw⟩):=hZh.set 3 _;have hbj:Below w3.heap.size w3 (wh.setCell ⟨wi.heap.size,3,none⟩ (.int .i64 (g.me+me))):=hbh.trans ((Turn.setCell wh wi.heap.size 3 _).below hleg);have cy4:=cE4 hZi;have fy4:=hZi.fz 4;have cz4x:=cE3 hZi;have hZk:Blk ((wh.setCell ⟨wi.heap.size,3,none⟩ (.int .i64 (g.me+me))).setCell ⟨wi.heap.size,4,none⟩ (.int .i64 (g.aw+aw))) wi.heap.size 56 (cellsE ⟨g.id,g.pa,g.wt,g.me+me,g.aw+aw⟩):=hZi.set 4 _;have hbk:Below w3.heap.size w3 ((wh.setCell ⟨wi.heap.size,3,none⟩ (.int .i64 (g.me+me))).setCell ⟨wi.heap.size,4,none⟩ (.int .i64 (g.aw+aw))):=hbj.trans ((Turn.setCell _ wi.heap.size 4 _).below hleg);have cz3:=cE3 hZk;have cz4:=cE4 hZk) | (refine wpList_store30 rfl _ _ rfl (w.heap.size+1) r m (.slice (some ⟨b,0,none⟩) L.length c) rfl rfl (HZB.out _ (by assumption)) rfl rfl ?_;intro wz hZ9 t9))
 refine bodyPost_ret (resultsF_ct rfl _ wz (w.heap.size+1) r m (.slice (some ⟨b,0,none⟩) L.length c) _ rfl rfl hZ9) rfl ?_
 rw[HC.out,HN.out]
 exact⟨⟨_,rfl,some ⟨b,0,none⟩,c,rfl,(HR.out.row _ hbk).turn t9 (HZB.out _ hbk) (by decide)⟩,(HFin.out _ hbk).trans (t9.below (by omega))⟩
theorem rCount_yesN (x me aw:Int) (m0 k:Int) (w:World) (h:RowG w (.slice a L.length c) L) (ok:Ok L m0 k) (hh:has L x=true) (h0: ¬ 0<me) (hs0: ¬(gr L x).aw+aw<0) (hs: ¬(gr L x).me+me<(gr L x).aw+aw) (hme: -1≤me∧me≤1) (haw: -1≤aw∧aw≤1):
  Calls Tryz.prog 52 #[.agg (cellsF r m (.slice a L.length c)),.int .i64 x,.int .i64 me,.int .i64 aw] w fun e w'=>(∃v,e= .returned (.tuple #[v,.int .i64 (countC L x me aw)])∧DocF w' v r m (countN L x me aw))∧Below w.heap.size w w':=by
 have hc:countC L x me aw=0:=by unfold countC;rw[if_neg (by rw[hh];decide),if_neg (fun e=>h0 e.1),if_neg (by omega)]
 have HC:=Lib.hid hc
 have HN:Hid (countN L x me aw=countG L x me aw):=Lib.hid (by unfold countN;rw[hc];rfl)
 obtain⟨hx0,hZ0,hb,hsz,HR,HXB,HZB,HFin⟩:=pre2 r m h ok
 have HA:Hid (atG L x=(pos L x:Int)):=Lib.hid (atG_yes hh)
 have HH:=Lib.hid hh
 have hj:=has_pos hh
 obtain⟨b,rfl,hcl⟩:=h.at hj
 have HCL:Hid (∀X,Below ((w.alloc (.cells #[.int .i64 r,.int .i64 m,.slice (some ⟨b,0,none⟩) L.length c] 29)).alloc (.cells #[.int .i64 0,.int .i64 0,.slice none 0 0] 29)).heap.size ((w.alloc (.cells #[.int .i64 r,.int .i64 m,.slice (some ⟨b,0,none⟩) L.length c] 29)).alloc (.cells #[.int .i64 0,.int .i64 0,.slice none 0 0] 29)) X→X.cell? ⟨b,pos L x*5+1,none⟩=some (.int .i64 (gr L x).pa)∧X.rangeAt b (pos L x*5) (cellsE (gr L x)).toList):=Lib.hid fun X hX=>⟨((hcl.below hb).below hX).pa hj,((hcl.below hb).below hX).range hj⟩
 have hnum:=ok.num _ (gr_mem hh)
 have hkk:=ok.k1
 have HGG:Hid (countG L x me aw=L.set (pos L x) ⟨(gr L x).id,(gr L x).pa,(gr L x).wt,(gr L x).me+me,(gr L x).aw+aw⟩):=Lib.hid (by unfold countG setG;rw[gr_id hh])
 rw[HGG.out] at HN
 clear HGG
 obtain⟨n1,n2,n3,_⟩:=hnum
 have n5:(gr L x).me≤1000:=by omega
 have n6:0≤(gr L x).me:=by omega
 have n7:(gr L x).aw≤1000:=by omega
 clear hh n2 n3 hkk
 generalize gr L x=g at *
 generalize pos L x=j at *
 obtain⟨hme1,hme2⟩:=hme
 obtain⟨haw1,haw2⟩:=haw
 clear hc h ok
 unfold cellsF
 go_enter Tryz.func52,Tryz.ntmps52
 go_wp2_with (first | (have hgd:=hx0;refine wpList_alloc30 rfl rfl ?_;clear hgd;generalize ((w.alloc (.cells #[.int .i64 r,.int .i64 m,.slice (some ⟨b,0,none⟩) L.length c] 29)).alloc (.cells #[.int .i64 0,.int .i64 0,.slice none 0 0] 29))=w3 at *;have hbi:=Below.refl w3.heap.size w3;clear hx0 hZ0 hb) | (go_at_call 30;refine(HR.out.at' _ _ (by assumption)).mono ?_;rw[HA.out];rintro e wi ⟨rfl,hbi⟩;have hX2:=HXB.out wi hbi;have f0:=cF0 hX2;have f1:=cF1 hX2;have f2:=cF2 hX2;clear hX2;have g1:=(HCL.out wi hbi).1) | (refine wpList_load30 rfl _ rfl w.heap.size r m (.slice (some ⟨b,0,none⟩) L.length c) rfl (HXB.out _ (by assumption)) ?_) | (refine wpList_load_mid rfl 56 _ rfl b (j*5) rfl _ _ (HCL.out _ (by assumption)).2 Tryz.underlying56 rfl Tryz.info56 ?_) | (refine wpList_alloc70 rfl rfl ?_;have hZg:=Blk.new wi 56 #[.int .i64 0,.int .i64 0,.int .i64 0,.int .i64 0,.int .i64 0];have hbg:=Below.allocS hbi (.cells #[.int .i64 0,.int .i64 0,.int .i64 0,.int .i64 0,.int .i64 0] 56);have hltg:wi.heap.size<(wi.alloc (.cells #[.int .i64 0,.int .i64 0,.int .i64 0,.int .i64 0,.int .i64 0] 56)).heap.size:=(by simp);have hleg:=hbi.size;generalize wi.alloc (.cells #[.int .i64 0,.int .i64 0,.int .i64 0,.int .i64 0,.int .i64 0] 56)=wg at *) | (refine wpList_store70 rfl _ _ rfl wi.heap.size g rfl rfl hZg rfl ?_;intro wh hZh th;have hbh:Below w3.heap.size w3 wh:=hbg.trans (th.below hleg);have fz3:=hZh.fz 3;have fz4:=hZh.fz 4;have cx3:=cE3 hZh;have cx4:=cE4 hZh;have hZi:Blk (wh.setCell ⟨wi.heap.size,3,none⟩ (.int .i64 (g.me+me))) wi.heap.size 56 (cellsE ⟨g.id,g.pa,g.wt,g.me+me,g.aw⟩):=hZh.set 3 _;have hbj:Below w3.heap.size w3 (wh.setCell ⟨wi.heap.size,3,none⟩ (.int .i64 (g.me+me))):=hbh.trans ((Turn.setCell wh wi.heap.size 3 _).below hleg);have cy4:=cE4 hZi;have fy4:=hZi.fz 4;have cz4x:=cE3 hZi;have hZk:Blk ((wh.setCell ⟨wi.heap.size,3,none⟩ (.int .i64 (g.me+me))).setCell ⟨wi.heap.size,4,none⟩ (.int .i64 (g.aw+aw))) wi.heap.size 56 (cellsE ⟨g.id,g.pa,g.wt,g.me+me,g.aw+aw⟩):=hZi.set 4 _;have hbk:Below w3.heap.size w3 ((wh.setCell ⟨wi.heap.size,3,none⟩ (.int .i64 (g.me+me))).setCell ⟨wi.heap.size,4,none⟩ (.int .i64 (g.aw+aw))):=hbj.trans ((Turn.setCell _ wi.heap.size 4 _).below hleg);have cz3:=cE3 hZk;have cz4:=cE4 hZk) | (refine wpList_load70 rfl _ rfl wi.heap.size ⟨g.id,g.pa,g.wt,g.me+me,g.aw+aw⟩ rfl hZk ?_) | (go_at_call 90;refine(HR.out.set _ ⟨g.id,g.pa,g.wt,g.me+me,g.aw+aw⟩ _ hj (by assumption)).mono ?_;rintro e wi ⟨⟨a',c',rfl,hr9⟩,hbi⟩) | (refine wpList_store30 rfl _ _ rfl (w.heap.size+1) r m (.slice a' L.length c') rfl rfl (HZB.out _ (by assumption)) rfl rfl ?_;intro wz hZ9 t9))
 refine bodyPost_ret (resultsF_ct rfl _ wz (w.heap.size+1) r m _ _ rfl rfl hZ9) rfl ?_
 rw[HC.out,HN.out]
 exact⟨⟨_,rfl,a',c',by rw[List.length_set],by rw[List.length_set];exact hr9.turn t9 (HZB.out _ hbi) (by decide)⟩,(HFin.out _ hbi).trans (t9.below (by omega))⟩
theorem rCount_any (x me aw:Int) (m0 k:Int) (w:World) (h:RowG w (.slice a L.length c) L) (ok:Ok L m0 k) (hme: -1≤me∧me≤1) (haw: -1≤aw∧aw≤1):
  Calls Tryz.prog 52 #[.agg (cellsF r m (.slice a L.length c)),.int .i64 x,.int .i64 me,.int .i64 aw] w fun e w'=>(∃v,e= .returned (.tuple #[v,.int .i64 (countC L x me aw)])∧DocF w' v r m (countN L x me aw))∧Below w.heap.size w w':=by
 cases hh:has L x with
 | false=>exact rCount_no r m a c L x me aw m0 k w h ok hh
 | true=>
 by_cases h0:0<me
 ·by_cases h32:fanI L x=32
  ·exact rCount_full r m a c L x me aw m0 k w h ok hh h0 h32
  ·by_cases hs0:(gr L x).aw+aw<0
   ·exact rCount_negG r m a c L x me aw m0 k w h ok hh h0 h32 hs0 hme haw
   ·by_cases hs:(gr L x).me+me<(gr L x).aw+aw
    ·exact rCount_overG r m a c L x me aw m0 k w h ok hh h0 h32 hs0 hs hme haw
    ·exact rCount_yesG r m a c L x me aw m0 k w h ok hh h0 h32 hs0 hs hme haw
 ·by_cases hs0:(gr L x).aw+aw<0
  ·exact rCount_negN r m a c L x me aw m0 k w h ok hh h0 hs0 hme haw
  ·by_cases hs:(gr L x).me+me<(gr L x).aw+aw
   ·exact rCount_overN r m a c L x me aw m0 k w h ok hh h0 hs0 hs hme haw
   ·exact rCount_yesN r m a c L x me aw m0 k w h ok hh h0 hs0 hs hme haw
theorem rWeight_any (x wt:Int) (m0 k:Int) (w:World) (h:RowG w (.slice a L.length c) L) (ok:Ok L m0 k):
  Calls Tryz.prog 50 #[.agg (cellsF r m (.slice a L.length c)),.int .i64 x,.int .i64 wt] w fun e w'=>(∃v,e= .returned (.tuple #[v,.int .i64 (weightC L x wt)])∧DocF w' v r m (weightN L x wt))∧Below w.heap.size w w':=by
 cases hh:has L x with
 | false=>exact rWeight_no r m a c L x wt m0 k w h ok hh
 | true=>
 rcases ok.pa hh with hp | hp
 ·exact rWeight_root r m a c L x wt m0 k w h ok hh hp
 have hp2:0≤(gr L x).pa:=by have:=ok.id hp;omega
 by_cases h1:wt<1
 ·exact rWeight_bad1 r m a c L x wt m0 k w h ok hh hp2 h1
 by_cases h2:10000<wt
 ·exact rWeight_bad2 r m a c L x wt m0 k w h ok hh hp2 h2
 ·exact rWeight_yes r m a c L x wt m0 k w h ok hh hp2 (by omega)
end
end Go.Proofs.YtohifgjeebhijaaGreatDoor
namespace Go.Proofs.YtohifgjeebhijaaGreatDoor
set_option maxRecDepth 100000
set_option maxHeartbeats 4000000
open Go.RowKit Go.Maps
section
variable (r m:Int) (a:Option Addr) (c:Nat) (L:List Gr)
theorem rRoot_full (R:Nat) (hR:r=(R:Int)) (hm:0≤m∧m<1000) (m0 k:Int) (w:World) (h:RowG w (.slice a L.length c) L) (ok:Ok L m0 k) (hl:L.length=R):
  Calls Tryz.prog 42 #[.agg (cellsF r m (.slice a L.length c))] w fun e w'=>(∃v,e= .returned (.tuple #[v,.int .i64 (nextI (rootC L R) m),.int .i64 (rootC L R)])∧DocF w' v r (lastI (rootC L R) m) (rootN L R m))∧Below w.heap.size w w':=by
 have hc:rootC L R=6:=by unfold rootC;rw[if_pos hl]
 have HC:Hid (nextI (rootC L R) m=0∧lastI (rootC L R) m=m∧rootC L R=6):=Lib.hid (by rw[hc];exact⟨rfl,rfl,rfl⟩)
 have HN:Hid (rootN L R m=L):=Lib.hid (by unfold rootN;rw[hc];rfl)
 have HM:Hid (0≤m∧m≤1000):=Lib.hid (by omega)
 obtain⟨hx0,hZ0,hb,hsz,HR,HXB,HZB,HFin⟩:=pre2 r m h ok
 have hl2:((L.length:Int)==r)=true:=beq_tt (by omega)
 clear hl
 have HX1:=Lib.hid (Below.refl w.heap.size w)
 clear hc h ok hm hR
 unfold cellsF
 go_enter Tryz.func42,Tryz.ntmps42
 go_wp2_with (first | (have hgd:=hx0;refine wpList_alloc30 rfl rfl ?_;clear hgd;generalize ((w.alloc (.cells #[.int .i64 r,.int .i64 m,.slice a L.length c] 29)).alloc (.cells #[.int .i64 0,.int .i64 0,.slice none 0 0] 29))=w3 at *;have hbi:=Below.refl w3.heap.size w3;have h00:=cF0 hx0;have h01:=cF1 hx0;have h02:=cF2 hx0;clear hx0 hZ0 hb) | (refine wpList_load30 rfl _ rfl w.heap.size r m (.slice a L.length c) rfl (HXB.out _ (by assumption)) ?_) | (refine wpList_store30 rfl _ _ rfl (w.heap.size+1) r m (.slice a L.length c) rfl rfl (HZB.out _ (by assumption)) rfl rfl ?_;intro wz hZ9 t9))
 refine bodyPost_ret (resultsF_ctt rfl _ wz (w.heap.size+1) r m (.slice a L.length c) _ _ rfl rfl rfl hZ9) rfl ?_
 rw[HC.out.1,HC.out.2.1,HC.out.2.2,HN.out]
 exact⟨⟨_,rfl,a,c,rfl,(HR.out.row _ hbi).turn t9 (HZB.out _ hbi) (by decide)⟩,(HFin.out _ hbi).trans (t9.below (by omega))⟩
theorem rRoot_yes (R:Nat) (hR:r=(R:Int)) (hm:0≤m∧m<1000) (m0 k:Int) (w:World) (h:RowG w (.slice a L.length c) L) (ok:Ok L m0 k) (hl: ¬L.length=R):
  Calls Tryz.prog 42 #[.agg (cellsF r m (.slice a L.length c))] w fun e w'=>(∃v,e= .returned (.tuple #[v,.int .i64 (nextI (rootC L R) m),.int .i64 (rootC L R)])∧DocF w' v r (lastI (rootC L R) m) (rootN L R m))∧Below w.heap.size w w':=by
 have hc:rootC L R=0:=by unfold rootC;rw[if_neg hl]
 have HC:Hid (nextI (rootC L R) m=m+1∧lastI (rootC L R) m=m+1∧rootC L R=0):=Lib.hid (by rw[hc];exact⟨rfl,rfl,rfl⟩)
 have HN:Hid (rootN L R m=addG L m (-1) 1):=Lib.hid (by unfold rootN;rw[hc];rfl)
 have HM:Hid (0≤m∧m≤1000):=Lib.hid (by omega)
 obtain⟨hx0,hZ0,hb,hsz,HR,HXB,HZB,HFin⟩:=pre2 r m h ok
 have hl2:((L.length:Int)==r)=false:=beq_ff (by omega)
 clear hl
 have HX1:=Lib.hid (Below.refl w.heap.size w)
 clear hc h ok hm hR
 unfold cellsF
 go_enter Tryz.func42,Tryz.ntmps42
 go_wp2_with (first | (have hgd:=hx0;refine wpList_alloc30 rfl rfl ?_;clear hgd;generalize ((w.alloc (.cells #[.int .i64 r,.int .i64 m,.slice a L.length c] 29)).alloc (.cells #[.int .i64 0,.int .i64 0,.slice none 0 0] 29))=w3 at *;have hbi:=Below.refl w3.heap.size w3;have h00:=cF0 hx0;have h01:=cF1 hx0;have h02:=cF2 hx0;clear hx0 hZ0 hb) | (refine wpList_load30 rfl _ rfl w.heap.size r m (.slice a L.length c) rfl (HXB.out _ (by assumption)) ?_) | (go_at_call 80;refine(HR.out.more _ _ _ HM.out (by assumption)).mono ?_;rintro e wi ⟨⟨a',c',rfl,hr9⟩,hbi⟩) | (refine wpList_alloc30 rfl rfl ?_;have hZg:=Blk.new wi 29 #[.int .i64 0,.int .i64 0,.slice none 0 0];have hbg:=Below.allocS hbi (.cells #[.int .i64 0,.int .i64 0,.slice none 0 0] 29);have hleg:=hbi.size;have hr5:=hr9.alloc (.cells #[.int .i64 0,.int .i64 0,.slice none 0 0] 29);generalize wi.alloc (.cells #[.int .i64 0,.int .i64 0,.slice none 0 0] 29)=wg at *) | (refine wpList_store30 rfl _ _ rfl wi.heap.size r (m+1) (.slice a' (addG L m (-1) 1).length c') rfl rfl hZg rfl rfl ?_;intro wh hZh th;have hbh:Below w3.heap.size w3 wh:=hbg.trans (th.below hleg);have hr6:=hr5.turn th hZg (by decide)) | (refine wpList_load30 rfl _ rfl wi.heap.size r (m+1) (.slice a' (addG L m (-1) 1).length c') rfl hZh ?_) | (refine wpList_store30 rfl _ _ rfl (w.heap.size+1) r (m+1) (.slice a' (addG L m (-1) 1).length c') rfl rfl (HZB.out _ hbh) rfl rfl ?_;intro wz hZ9 t9))
 refine bodyPost_ret (resultsF_ctt rfl _ wz (w.heap.size+1) r (m+1) (.slice a' (addG L m (-1) 1).length c') _ _ rfl rfl rfl hZ9) rfl ?_
 rw[HC.out.1,HC.out.2.1,HC.out.2.2,HN.out]
 exact⟨⟨_,rfl,a',c',rfl,hr6.turn t9 (HZB.out _ hbh) (by decide)⟩,(HFin.out _ hbh).trans (t9.below (by omega))⟩
theorem rAdd_no (p wt:Int) (R:Nat) (hm:0≤m∧m<1000) (m0 k:Int) (w:World) (h:RowG w (.slice a L.length c) L) (ok:Ok L m0 k) (hh:has L p=false):
  Calls Tryz.prog 44 #[.agg (cellsF r m (.slice a L.length c)),.int .i64 p,.int .i64 wt] w fun e w'=>(∃v,e= .returned (.tuple #[v,.int .i64 (nextI (addC L R p wt) m),.int .i64 (addC L R p wt)])∧DocF w' v r (lastI (addC L R p wt) m) (addN L R m p wt))∧Below w.heap.size w w':=by
 have hc:addC L R p wt=4:=by unfold addC;rw[if_pos hh]
 have HC:Hid (nextI (addC L R p wt) m=0∧lastI (addC L R p wt) m=m∧addC L R p wt=4):=Lib.hid (by rw[hc];exact⟨rfl,rfl,rfl⟩)
 have HN:Hid (addN L R m p wt=L):=Lib.hid (by unfold addN;rw[hc];rfl)
 have HM:Hid (0≤m∧m≤1000):=Lib.hid (by omega)
 obtain⟨hx0,hZ0,hb,hsz,HR,HXB,HZB,HFin⟩:=pre2 r m h ok
 have HA:Hid (atG L p= -1):=Lib.hid (atG_no hh)
 clear hh
 have HX1:=Lib.hid (Below.refl w.heap.size w)
 clear hc h ok hm
 unfold cellsF
 go_enter Tryz.func44,Tryz.ntmps44
 go_wp2_with (first | (have hgd:=hx0;refine wpList_alloc30 rfl rfl ?_;clear hgd;generalize ((w.alloc (.cells #[.int .i64 r,.int .i64 m,.slice a L.length c] 29)).alloc (.cells #[.int .i64 0,.int .i64 0,.slice none 0 0] 29))=w3 at *;have hbi:=Below.refl w3.heap.size w3;clear hx0 hZ0 hb) | (go_at_call 30;refine(HR.out.at' _ _ (by assumption)).mono ?_;rw[HA.out];rintro e wi ⟨rfl,hbi⟩;have hX2:=HXB.out wi hbi;have f0:=cF0 hX2;have f1:=cF1 hX2;have f2:=cF2 hX2;clear hX2) | (refine wpList_load30 rfl _ rfl w.heap.size r m (.slice a L.length c) rfl (HXB.out _ (by assumption)) ?_) | (refine wpList_store30 rfl _ _ rfl (w.heap.size+1) r m (.slice a L.length c) rfl rfl (HZB.out _ (by assumption)) rfl rfl ?_;intro wz hZ9 t9))
 refine bodyPost_ret (resultsF_ctt rfl _ wz (w.heap.size+1) r m (.slice a L.length c) _ _ rfl rfl rfl hZ9) rfl ?_
 rw[HC.out.1,HC.out.2.1,HC.out.2.2,HN.out]
 exact⟨⟨_,rfl,a,c,rfl,(HR.out.row _ hbi).turn t9 (HZB.out _ hbi) (by decide)⟩,(HFin.out _ hbi).trans (t9.below (by omega))⟩
theorem rAdd_bad1 (p wt:Int) (R:Nat) (hm:0≤m∧m<1000) (m0 k:Int) (w:World) (h:RowG w (.slice a L.length c) L) (ok:Ok L m0 k) (hh:has L p=true) (hw:wt<1):
  Calls Tryz.prog 44 #[.agg (cellsF r m (.slice a L.length c)),.int .i64 p,.int .i64 wt] w fun e w'=>(∃v,e= .returned (.tuple #[v,.int .i64 (nextI (addC L R p wt) m),.int .i64 (addC L R p wt)])∧DocF w' v r (lastI (addC L R p wt) m) (addN L R m p wt))∧Below w.heap.size w w':=by
 have hc:addC L R p wt=13:=by unfold addC;rw[if_neg (by rw[hh];decide),if_pos (by omega)]
 have HC:Hid (nextI (addC L R p wt) m=0∧lastI (addC L R p wt) m=m∧addC L R p wt=13):=Lib.hid (by rw[hc];exact⟨rfl,rfl,rfl⟩)
 have HN:Hid (addN L R m p wt=L):=Lib.hid (by unfold addN;rw[hc];rfl)
 have HM:Hid (0≤m∧m≤1000):=Lib.hid (by omega)
 obtain⟨hx0,hZ0,hb,hsz,HR,HXB,HZB,HFin⟩:=pre2 r m h ok
 have HA:Hid (atG L p=(pos L p:Int)):=Lib.hid (atG_yes hh)
 have HH:=Lib.hid hh
 clear hh
 generalize pos L p=j at *
 have HX1:=Lib.hid (Below.refl w.heap.size w)
 clear hc h ok hm
 unfold cellsF
 go_enter Tryz.func44,Tryz.ntmps44
 go_wp2_with (first | (have hgd:=hx0;refine wpList_alloc30 rfl rfl ?_;clear hgd;generalize ((w.alloc (.cells #[.int .i64 r,.int .i64 m,.slice a L.length c] 29)).alloc (.cells #[.int .i64 0,.int .i64 0,.slice none 0 0] 29))=w3 at *;have hbi:=Below.refl w3.heap.size w3;clear hx0 hZ0 hb) | (go_at_call 30;refine(HR.out.at' _ _ (by assumption)).mono ?_;rw[HA.out];rintro e wi ⟨rfl,hbi⟩;have hX2:=HXB.out wi hbi;have f0:=cF0 hX2;have f1:=cF1 hX2;have f2:=cF2 hX2;clear hX2) | (refine wpList_load30 rfl _ rfl w.heap.size r m (.slice a L.length c) rfl (HXB.out _ (by assumption)) ?_) | (refine wpList_store30 rfl _ _ rfl (w.heap.size+1) r m (.slice a L.length c) rfl rfl (HZB.out _ (by assumption)) rfl rfl ?_;intro wz hZ9 t9))
 refine bodyPost_ret (resultsF_ctt rfl _ wz (w.heap.size+1) r m (.slice a L.length c) _ _ rfl rfl rfl hZ9) rfl ?_
 rw[HC.out.1,HC.out.2.1,HC.out.2.2,HN.out]
 exact⟨⟨_,rfl,a,c,rfl,(HR.out.row _ hbi).turn t9 (HZB.out _ hbi) (by decide)⟩,(HFin.out _ hbi).trans (t9.below (by omega))⟩
theorem rAdd_bad2 (p wt:Int) (R:Nat) (hm:0≤m∧m<1000) (m0 k:Int) (w:World) (h:RowG w (.slice a L.length c) L) (ok:Ok L m0 k) (hh:has L p=true) (hw:10000<wt):
  Calls Tryz.prog 44 #[.agg (cellsF r m (.slice a L.length c)),.int .i64 p,.int .i64 wt] w fun e w'=>(∃v,e= .returned (.tuple #[v,.int .i64 (nextI (addC L R p wt) m),.int .i64 (addC L R p wt)])∧DocF w' v r (lastI (addC L R p wt) m) (addN L R m p wt))∧Below w.heap.size w w':=by
 have hc:addC L R p wt=13:=by unfold addC;rw[if_neg (by rw[hh];decide),if_pos (by omega)]
 have HC:Hid (nextI (addC L R p wt) m=0∧lastI (addC L R p wt) m=m∧addC L R p wt=13):=Lib.hid (by rw[hc];exact⟨rfl,rfl,rfl⟩)
 have HN:Hid (addN L R m p wt=L):=Lib.hid (by unfold addN;rw[hc];rfl)
 have HM:Hid (0≤m∧m≤1000):=Lib.hid (by omega)
 obtain⟨hx0,hZ0,hb,hsz,HR,HXB,HZB,HFin⟩:=pre2 r m h ok
 have HA:Hid (atG L p=(pos L p:Int)):=Lib.hid (atG_yes hh)
 have HH:=Lib.hid hh
 clear hh
 generalize pos L p=j at *
 have hw1: ¬wt<1:=by omega
 have HX1:=Lib.hid (Below.refl w.heap.size w)
 clear hc h ok hm
 unfold cellsF
 go_enter Tryz.func44,Tryz.ntmps44
 go_wp2_with (first | (have hgd:=hx0;refine wpList_alloc30 rfl rfl ?_;clear hgd;generalize ((w.alloc (.cells #[.int .i64 r,.int .i64 m,.slice a L.length c] 29)).alloc (.cells #[.int .i64 0,.int .i64 0,.slice none 0 0] 29))=w3 at *;have hbi:=Below.refl w3.heap.size w3;clear hx0 hZ0 hb) | (go_at_call 30;refine(HR.out.at' _ _ (by assumption)).mono ?_;rw[HA.out];rintro e wi ⟨rfl,hbi⟩;have hX2:=HXB.out wi hbi;have f0:=cF0 hX2;have f1:=cF1 hX2;have f2:=cF2 hX2;clear hX2) | (refine wpList_load30 rfl _ rfl w.heap.size r m (.slice a L.length c) rfl (HXB.out _ (by assumption)) ?_) | (refine wpList_store30 rfl _ _ rfl (w.heap.size+1) r m (.slice a L.length c) rfl rfl (HZB.out _ (by assumption)) rfl rfl ?_;intro wz hZ9 t9))
 refine bodyPost_ret (resultsF_ctt rfl _ wz (w.heap.size+1) r m (.slice a L.length c) _ _ rfl rfl rfl hZ9) rfl ?_
 rw[HC.out.1,HC.out.2.1,HC.out.2.2,HN.out]
 exact⟨⟨_,rfl,a,c,rfl,(HR.out.row _ hbi).turn t9 (HZB.out _ hbi) (by decide)⟩,(HFin.out _ hbi).trans (t9.below (by omega))⟩
theorem rAdd_deep (p wt:Int) (R:Nat) (hm:0≤m∧m<1000) (m0 k:Int) (w:World) (h:RowG w (.slice a L.length c) L) (ok:Ok L m0 k) (hh:has L p=true) (hw:1≤wt∧wt≤10000) (hd:dep L p=8):
  Calls Tryz.prog 44 #[.agg (cellsF r m (.slice a L.length c)),.int .i64 p,.int .i64 wt] w fun e w'=>(∃v,e= .returned (.tuple #[v,.int .i64 (nextI (addC L R p wt) m),.int .i64 (addC L R p wt)])∧DocF w' v r (lastI (addC L R p wt) m) (addN L R m p wt))∧Below w.heap.size w w':=by
 have hc:addC L R p wt=7:=by unfold addC;rw[if_neg (by rw[hh];decide),if_neg (fun e=>e hw),if_pos hd]
 have HC:Hid (nextI (addC L R p wt) m=0∧lastI (addC L R p wt) m=m∧addC L R p wt=7):=Lib.hid (by rw[hc];exact⟨rfl,rfl,rfl⟩)
 have HN:Hid (addN L R m p wt=L):=Lib.hid (by unfold addN;rw[hc];rfl)
 have HM:Hid (0≤m∧m≤1000):=Lib.hid (by omega)
 obtain⟨hx0,hZ0,hb,hsz,HR,HXB,HZB,HFin⟩:=pre2 r m h ok
 have HA:Hid (atG L p=(pos L p:Int)):=Lib.hid (atG_yes hh)
 have HH:=Lib.hid hh
 clear hh
 generalize pos L p=j at *
 have hw1: ¬wt<1:=by omega
 have hw2: ¬ 10000<wt:=by omega
 clear hw
 have hd2:=beq_tt hd
 clear hd
 have HX1:=Lib.hid (Below.refl w.heap.size w)
 clear hc h ok hm
 unfold cellsF
 go_enter Tryz.func44,Tryz.ntmps44
 go_wp2_with (first | (have hgd:=hx0;refine wpList_alloc30 rfl rfl ?_;clear hgd;generalize ((w.alloc (.cells #[.int .i64 r,.int .i64 m,.slice a L.length c] 29)).alloc (.cells #[.int .i64 0,.int .i64 0,.slice none 0 0] 29))=w3 at *;have hbi:=Below.refl w3.heap.size w3;clear hx0 hZ0 hb) | (go_at_call 30;refine(HR.out.at' _ _ (by assumption)).mono ?_;rw[HA.out];rintro e wi ⟨rfl,hbi⟩;have hX2:=HXB.out wi hbi;have f0:=cF0 hX2;have f1:=cF1 hX2;have f2:=cF2 hX2;clear hX2) | (go_at_call 31;refine(HR.out.dep _ _ HH.out (by assumption)).mono ?_;rintro e wi ⟨rfl,hbi⟩;have hX2:=HXB.out wi hbi;have f0:=cF0 hX2;have f1:=cF1 hX2;have f2:=cF2 hX2;clear hX2) | (refine wpList_load30 rfl _ rfl w.heap.size r m (.slice a L.length c) rfl (HXB.out _ (by assumption)) ?_) | (refine wpList_store30 rfl _ _ rfl (w.heap.size+1) r m (.slice a L.length c) rfl rfl (HZB.out _ (by assumption)) rfl rfl ?_;intro wz hZ9 t9))
 refine bodyPost_ret (resultsF_ctt rfl _ wz (w.heap.size+1) r m (.slice a L.length c) _ _ rfl rfl rfl hZ9) rfl ?_
 rw[HC.out.1,HC.out.2.1,HC.out.2.2,HN.out]
 exact⟨⟨_,rfl,a,c,rfl,(HR.out.row _ hbi).turn t9 (HZB.out _ hbi) (by decide)⟩,(HFin.out _ hbi).trans (t9.below (by omega))⟩
theorem rAdd_wide (p wt:Int) (R:Nat) (hm:0≤m∧m<1000) (m0 k:Int) (w:World) (h:RowG w (.slice a L.length c) L) (ok:Ok L m0 k) (hh:has L p=true) (hw:1≤wt∧wt≤10000) (hd: ¬dep L p=8) (hf:fanI L p=32):
  Calls Tryz.prog 44 #[.agg (cellsF r m (.slice a L.length c)),.int .i64 p,.int .i64 wt] w fun e w'=>(∃v,e= .returned (.tuple #[v,.int .i64 (nextI (addC L R p wt) m),.int .i64 (addC L R p wt)])∧DocF w' v r (lastI (addC L R p wt) m) (addN L R m p wt))∧Below w.heap.size w w':=by
 have hc:addC L R p wt=6:=by unfold addC;rw[if_neg (by rw[hh];decide),if_neg (fun e=>e hw),if_neg hd,if_pos (.inl hf)]
 have HC:Hid (nextI (addC L R p wt) m=0∧lastI (addC L R p wt) m=m∧addC L R p wt=6):=Lib.hid (by rw[hc];exact⟨rfl,rfl,rfl⟩)
 have HN:Hid (addN L R m p wt=L):=Lib.hid (by unfold addN;rw[hc];rfl)
 have HM:Hid (0≤m∧m≤1000):=Lib.hid (by omega)
 obtain⟨hx0,hZ0,hb,hsz,HR,HXB,HZB,HFin⟩:=pre2 r m h ok
 have HA:Hid (atG L p=(pos L p:Int)):=Lib.hid (atG_yes hh)
 have HH:=Lib.hid hh
 clear hh
 generalize pos L p=j at *
 have hw1: ¬wt<1:=by omega
 have hw2: ¬ 10000<wt:=by omega
 clear hw
 have hd2:=beq_ff hd
 have hf2:=beq_tt hf
 clear hd hf
 have HX1:=Lib.hid (Below.refl w.heap.size w)
 clear hc h ok hm
 unfold cellsF
 go_enter Tryz.func44,Tryz.ntmps44
 go_wp2_with (first | (have hgd:=hx0;refine wpList_alloc30 rfl rfl ?_;clear hgd;generalize ((w.alloc (.cells #[.int .i64 r,.int .i64 m,.slice a L.length c] 29)).alloc (.cells #[.int .i64 0,.int .i64 0,.slice none 0 0] 29))=w3 at *;have hbi:=Below.refl w3.heap.size w3;clear hx0 hZ0 hb) | (go_at_call 30;refine(HR.out.at' _ _ (by assumption)).mono ?_;rw[HA.out];rintro e wi ⟨rfl,hbi⟩;have hX2:=HXB.out wi hbi;have f0:=cF0 hX2;have f1:=cF1 hX2;have f2:=cF2 hX2;clear hX2) | (go_at_call 31;refine(HR.out.dep _ _ HH.out (by assumption)).mono ?_;rintro e wi ⟨rfl,hbi⟩;have hX2:=HXB.out wi hbi;have f0:=cF0 hX2;have f1:=cF1 hX2;have f2:=cF2 hX2;clear hX2) | (go_at_call 84;refine(HR.out.fan _ _ HH.out (by assumption)).mono ?_;rintro e wi ⟨rfl,hbi⟩;have hX2:=HXB.out wi hbi;have f0:=cF0 hX2;have f1:=cF1 hX2;have f2:=cF2 hX2;clear hX2) | (refine wpList_load30 rfl _ rfl w.heap.size r m (.slice a L.length c) rfl (HXB.out _ (by assumption)) ?_) | (refine wpList_store30 rfl _ _ rfl (w.heap.size+1) r m (.slice a L.length c) rfl rfl (HZB.out _ (by assumption)) rfl rfl ?_;intro wz hZ9 t9))
 refine bodyPost_ret (resultsF_ctt rfl _ wz (w.heap.size+1) r m (.slice a L.length c) _ _ rfl rfl rfl hZ9) rfl ?_
 rw[HC.out.1,HC.out.2.1,HC.out.2.2,HN.out]
 exact⟨⟨_,rfl,a,c,rfl,(HR.out.row _ hbi).turn t9 (HZB.out _ hbi) (by decide)⟩,(HFin.out _ hbi).trans (t9.below (by omega))⟩
theorem rAdd_full (p wt:Int) (R:Nat) (hR:r=(R:Int)) (hm:0≤m∧m<1000) (m0 k:Int) (w:World) (h:RowG w (.slice a L.length c) L) (ok:Ok L m0 k) (hh:has L p=true) (hw:1≤wt∧wt≤10000) (hd: ¬dep L p=8) (hf: ¬fanI L p=32) (hl:L.length=R):
  Calls Tryz.prog 44 #[.agg (cellsF r m (.slice a L.length c)),.int .i64 p,.int .i64 wt] w fun e w'=>(∃v,e= .returned (.tuple #[v,.int .i64 (nextI (addC L R p wt) m),.int .i64 (addC L R p wt)])∧DocF w' v r (lastI (addC L R p wt) m) (addN L R m p wt))∧Below w.heap.size w w':=by
 have hc:addC L R p wt=6:=by unfold addC;rw[if_neg (by rw[hh];decide),if_neg (fun e=>e hw),if_neg hd,if_pos (.inr hl)]
 have HC:Hid (nextI (addC L R p wt) m=0∧lastI (addC L R p wt) m=m∧addC L R p wt=6):=Lib.hid (by rw[hc];exact⟨rfl,rfl,rfl⟩)
 have HN:Hid (addN L R m p wt=L):=Lib.hid (by unfold addN;rw[hc];rfl)
 have HM:Hid (0≤m∧m≤1000):=Lib.hid (by omega)
 obtain⟨hx0,hZ0,hb,hsz,HR,HXB,HZB,HFin⟩:=pre2 r m h ok
 have HA:Hid (atG L p=(pos L p:Int)):=Lib.hid (atG_yes hh)
 have HH:=Lib.hid hh
 clear hh
 generalize pos L p=j at *
 have hw1: ¬wt<1:=by omega
 have hw2: ¬ 10000<wt:=by omega
 clear hw
 have hd2:=beq_ff hd
 have hf2:=beq_ff hf
 have hl2:((L.length:Int)==r)=true:=beq_tt (by omega)
 clear hd hf hl
 have HX1:=Lib.hid (Below.refl w.heap.size w)
 clear hc h ok hm hR
 unfold cellsF
 go_enter Tryz.func44,Tryz.ntmps44
 go_wp2_with (first | (have hgd:=hx0;refine wpList_alloc30 rfl rfl ?_;clear hgd;generalize ((w.alloc (.cells #[.int .i64 r,.int .i64 m,.slice a L.length c] 29)).alloc (.cells #[.int .i64 0,.int .i64 0,.slice none 0 0] 29))=w3 at *;have hbi:=Below.refl w3.heap.size w3;clear hx0 hZ0 hb) | (go_at_call 30;refine(HR.out.at' _ _ (by assumption)).mono ?_;rw[HA.out];rintro e wi ⟨rfl,hbi⟩;have hX2:=HXB.out wi hbi;have f0:=cF0 hX2;have f1:=cF1 hX2;have f2:=cF2 hX2;clear hX2) | (go_at_call 31;refine(HR.out.dep _ _ HH.out (by assumption)).mono ?_;rintro e wi ⟨rfl,hbi⟩;have hX2:=HXB.out wi hbi;have f0:=cF0 hX2;have f1:=cF1 hX2;have f2:=cF2 hX2;clear hX2) | (go_at_call 84;refine(HR.out.fan _ _ HH.out (by assumption)).mono ?_;rintro e wi ⟨rfl,hbi⟩;have hX2:=HXB.out wi hbi;have f0:=cF0 hX2;have f1:=cF1 hX2;have f2:=cF2 hX2;clear hX2) | (refine wpList_load30 rfl _ rfl w.heap.size r m (.slice a L.length c) rfl (HXB.out _ (by assumption)) ?_) | (refine wpList_store30 rfl _ _ rfl (w.heap.size+1) r m (.slice a L.length c) rfl rfl (HZB.out _ (by assumption)) rfl rfl ?_;intro wz hZ9 t9))
 refine bodyPost_ret (resultsF_ctt rfl _ wz (w.heap.size+1) r m (.slice a L.length c) _ _ rfl rfl rfl hZ9) rfl ?_
 rw[HC.out.1,HC.out.2.1,HC.out.2.2,HN.out]
 exact⟨⟨_,rfl,a,c,rfl,(HR.out.row _ hbi).turn t9 (HZB.out _ hbi) (by decide)⟩,(HFin.out _ hbi).trans (t9.below (by omega))⟩
theorem rAdd_yes (p wt:Int) (R:Nat) (hR:r=(R:Int)) (hm:0≤m∧m<1000) (m0 k:Int) (w:World) (h:RowG w (.slice a L.length c) L) (ok:Ok L m0 k) (hh:has L p=true) (hw:1≤wt∧wt≤10000) (hd: ¬dep L p=8) (hf: ¬fanI L p=32) (hl: ¬L.length=R):
  Calls Tryz.prog 44 #[.agg (cellsF r m (.slice a L.length c)),.int .i64 p,.int .i64 wt] w fun e w'=>(∃v,e= .returned (.tuple #[v,.int .i64 (nextI (addC L R p wt) m),.int .i64 (addC L R p wt)])∧DocF w' v r (lastI (addC L R p wt) m) (addN L R m p wt))∧Below w.heap.size w w':=by
 have hc:addC L R p wt=0:=by unfold addC;rw[if_neg (by rw[hh];decide),if_neg (fun e=>e hw),if_neg hd,if_neg (fun e=>e.elim hf hl)]
 have HC:Hid (nextI (addC L R p wt) m=m+1∧lastI (addC L R p wt) m=m+1∧addC L R p wt=0):=Lib.hid (by rw[hc];exact⟨rfl,rfl,rfl⟩)
 have HN:Hid (addN L R m p wt=addG L m p wt):=Lib.hid (by unfold addN;rw[hc];rfl)
 have HM:Hid (0≤m∧m≤1000):=Lib.hid (by omega)
 obtain⟨hx0,hZ0,hb,hsz,HR,HXB,HZB,HFin⟩:=pre2 r m h ok
 have HA:Hid (atG L p=(pos L p:Int)):=Lib.hid (atG_yes hh)
 have HH:=Lib.hid hh
 clear hh
 generalize pos L p=j at *
 have hw1: ¬wt<1:=by omega
 have hw2: ¬ 10000<wt:=by omega
 clear hw
 have hd2:=beq_ff hd
 have hf2:=beq_ff hf
 have hl2:((L.length:Int)==r)=false:=beq_ff (by omega)
 clear hd hf hl
 have HX1:=Lib.hid (Below.refl w.heap.size w)
 clear hc h ok hm hR
 unfold cellsF
 go_enter Tryz.func44,Tryz.ntmps44
 go_wp2_with (first | (have hgd:=hx0;refine wpList_alloc30 rfl rfl ?_;clear hgd;generalize ((w.alloc (.cells #[.int .i64 r,.int .i64 m,.slice a L.length c] 29)).alloc (.cells #[.int .i64 0,.int .i64 0,.slice none 0 0] 29))=w3 at *;have hbi:=Below.refl w3.heap.size w3;clear hx0 hZ0 hb) | (go_at_call 30;refine(HR.out.at' _ _ (by assumption)).mono ?_;rw[HA.out];rintro e wi ⟨rfl,hbi⟩;have hX2:=HXB.out wi hbi;have f0:=cF0 hX2;have f1:=cF1 hX2;have f2:=cF2 hX2;clear hX2) | (go_at_call 31;refine(HR.out.dep _ _ HH.out (by assumption)).mono ?_;rintro e wi ⟨rfl,hbi⟩;have hX2:=HXB.out wi hbi;have f0:=cF0 hX2;have f1:=cF1 hX2;have f2:=cF2 hX2;clear hX2) | (go_at_call 84;refine(HR.out.fan _ _ HH.out (by assumption)).mono ?_;rintro e wi ⟨rfl,hbi⟩;have hX2:=HXB.out wi hbi;have f0:=cF0 hX2;have f1:=cF1 hX2;have f2:=cF2 hX2;clear hX2) | (refine wpList_load30 rfl _ rfl w.heap.size r m (.slice a L.length c) rfl (HXB.out _ (by assumption)) ?_) | (go_at_call 80;refine(HR.out.more _ _ _ HM.out (by assumption)).mono ?_;rintro e wi ⟨⟨a',c',rfl,hr9⟩,hbi⟩) | (refine wpList_alloc30 rfl rfl ?_;have hZg:=Blk.new wi 29 #[.int .i64 0,.int .i64 0,.slice none 0 0];have hbg:=Below.allocS hbi (.cells #[.int .i64 0,.int .i64 0,.slice none 0 0] 29);have hleg:=hbi.size;have hr5:=hr9.alloc (.cells #[.int .i64 0,.int .i64 0,.slice none 0 0] 29);generalize wi.alloc (.cells #[.int .i64 0,.int .i64 0,.slice none 0 0] 29)=wg at *) | (refine wpList_store30 rfl _ _ rfl wi.heap.size r (m+1) (.slice a' (addG L m p wt).length c') rfl rfl hZg rfl rfl ?_;intro wh hZh th;have hbh:Below w3.heap.size w3 wh:=hbg.trans (th.below hleg);have hr6:=hr5.turn th hZg (by decide)) | (refine wpList_load30 rfl _ rfl wi.heap.size r (m+1) (.slice a' (addG L m p wt).length c') rfl hZh ?_) | (refine wpList_store30 rfl _ _ rfl (w.heap.size+1) r (m+1) (.slice a' (addG L m p wt).length c') rfl rfl (HZB.out _ hbh) rfl rfl ?_;intro wz hZ9 t9))
 refine bodyPost_ret (resultsF_ctt rfl _ wz (w.heap.size+1) r (m+1) (.slice a' (addG L m p wt).length c') _ _ rfl rfl rfl hZ9) rfl ?_
 rw[HC.out.1,HC.out.2.1,HC.out.2.2,HN.out]
 exact⟨⟨_,rfl,a',c',rfl,hr6.turn t9 (HZB.out _ hbh) (by decide)⟩,(HFin.out _ hbh).trans (t9.below (by omega))⟩
theorem rRootN_any (R:Nat) (hR:r=(R:Int)) (hm:0≤m∧m<1000) (m0 k:Int) (w:World) (h:RowG w (.slice a L.length c) L) (ok:Ok L m0 k):
  Calls Tryz.prog 42 #[.agg (cellsF r m (.slice a L.length c))] w fun e w'=>(∃v,e= .returned (.tuple #[v,.int .i64 (nextI (rootC L R) m),.int .i64 (rootC L R)])∧DocF w' v r (lastI (rootC L R) m) (rootN L R m))∧Below w.heap.size w w':=by
 by_cases hl:L.length=R
 ·exact rRoot_full r m a c L R hR hm m0 k w h ok hl
 ·exact rRoot_yes r m a c L R hR hm m0 k w h ok hl
theorem rAdd_any (p wt:Int) (R:Nat) (hR:r=(R:Int)) (hm:0≤m∧m<1000) (m0 k:Int) (w:World) (h:RowG w (.slice a L.length c) L) (ok:Ok L m0 k):
  Calls Tryz.prog 44 #[.agg (cellsF r m (.slice a L.length c)),.int .i64 p,.int .i64 wt] w fun e w'=>(∃v,e= .returned (.tuple #[v,.int .i64 (nextI (addC L R p wt) m),.int .i64 (addC L R p wt)])∧DocF w' v r (lastI (addC L R p wt) m) (addN L R m p wt))∧Below w.heap.size w w':=by
 cases hh:has L p with
 | false=>exact rAdd_no r m a c L p wt R hm m0 k w h ok hh
 | true=>
 by_cases h1:wt<1
 ·exact rAdd_bad1 r m a c L p wt R hm m0 k w h ok hh h1
 by_cases h2:10000<wt
 ·exact rAdd_bad2 r m a c L p wt R hm m0 k w h ok hh h2
 have hw:1≤wt∧wt≤10000:=by omega
 by_cases hd:dep L p=8
 ·exact rAdd_deep r m a c L p wt R hm m0 k w h ok hh hw hd
 by_cases hf:fanI L p=32
 ·exact rAdd_wide r m a c L p wt R hm m0 k w h ok hh hw hd hf
 by_cases hl:L.length=R
 ·exact rAdd_full r m a c L p wt R hR hm m0 k w h ok hh hw hd hf hl
 ·exact rAdd_yes r m a c L p wt R hR hm m0 k w h ok hh hw hd hf hl
end
end Go.Proofs.YtohifgjeebhijaaGreatDoor
namespace Go.Proofs.YtohifgjeebhijaaGreatDoor
set_option maxRecDepth 100000
set_option maxHeartbeats 4000000
open Go.RowKit Go.Maps
theorem Cl.head {w:World} {b k:Nat} {L:List Gr} (h:Cl w b 0 L):Cl w b 0 (L.take k):=by
 refine⟨h.1,fun j v hj=>h.2 j v ?_⟩
 have e:encG L=encG (L.take k)++encG (L.drop k):=by rw[←encG_app,List.take_append_drop]
 rw[e,List.getElem?_append_left (List.getElem?_eq_some_iff.1 hj).1]
 exact hj
theorem Cl.tail {w:World} {b k:Nat} {L:List Gr} (h:Cl w b 0 L) (hk:k≤L.length):Cl w b (k*5) (L.drop k):=by
 refine⟨h.1,fun j v hj=>?_⟩
 have e:encG L=encG (L.take k)++encG (L.drop k):=by rw[←encG_app,List.take_append_drop]
 have hl:(encG (L.take k)).length=k*5:=by rw[encG_len,List.length_take];omega
 have:=h.2 (k*5+j) v (by rw[e,List.getElem?_append_right (by omega),hl,show k*5+j - k*5=j by omega];exact hj)
 rwa [Nat.zero_add] at this
section
variable (r m:Int) (a:Option Addr) (c:Nat) (L:List Gr)
theorem rDrop_no (x:Int) (m0 k:Int) (w:World) (h:RowG w (.slice a L.length c) L) (ok:Ok L m0 k) (hh:has L x=false):
  Calls Tryz.prog 46 #[.agg (cellsF r m (.slice a L.length c)),.int .i64 x] w fun e w'=>(∃v,e= .returned (.tuple #[v,.int .i64 (dropC L x)])∧DocF w' v r m (dropN L x))∧Below w.heap.size w w':=by
 have hc:dropC L x=4:=by unfold dropC;rw[if_pos hh]
 have HC:=Lib.hid hc
 have HN:Hid (dropN L x=L):=Lib.hid (by unfold dropN;rw[hc];rfl)
 obtain⟨hx0,hZ0,hb,hsz,HR,HXB,HZB,HFin⟩:=pre2 r m h ok
 have HA:Hid (atG L x= -1):=Lib.hid (atG_no hh)
 clear hh
 clear hc h ok
 unfold cellsF
 go_enter Tryz.func46,Tryz.ntmps46
 go_wp2_with (first | (have hgd:=hx0;refine wpList_alloc30 rfl rfl ?_;clear hgd;generalize ((w.alloc (.cells #[.int .i64 r,.int .i64 m,.slice a L.length c] 29)).alloc (.cells #[.int .i64 0,.int .i64 0,.slice none 0 0] 29))=w3 at *;have hbi:=Below.refl w3.heap.size w3;clear hx0 hZ0 hb) | (go_at_call 30;refine(HR.out.at' _ _ (by assumption)).mono ?_;rw[HA.out];rintro e wi ⟨rfl,hbi⟩;have hX2:=HXB.out wi hbi;have f0:=cF0 hX2;have f1:=cF1 hX2;have f2:=cF2 hX2;clear hX2) | (refine wpList_load30 rfl _ rfl w.heap.size r m (.slice a L.length c) rfl (HXB.out _ (by assumption)) ?_) | (refine wpList_store30 rfl _ _ rfl (w.heap.size+1) r m (.slice a L.length c) rfl rfl (HZB.out _ (by assumption)) rfl rfl ?_;intro wz hZ9 t9))
 refine bodyPost_ret (resultsF_ct rfl _ wz (w.heap.size+1) r m (.slice a L.length c) _ rfl rfl hZ9) rfl ?_
 rw[HC.out,HN.out]
 exact⟨⟨_,rfl,a,c,rfl,(HR.out.row _ hbi).turn t9 (HZB.out _ hbi) (by decide)⟩,(HFin.out _ hbi).trans (t9.below (by omega))⟩
theorem rDrop_root (x:Int) (m0 k:Int) (w:World) (h:RowG w (.slice a L.length c) L) (ok:Ok L m0 k) (hh:has L x=true) (hp:(gr L x).pa= -1):
  Calls Tryz.prog 46 #[.agg (cellsF r m (.slice a L.length c)),.int .i64 x] w fun e w'=>(∃v,e= .returned (.tuple #[v,.int .i64 (dropC L x)])∧DocF w' v r m (dropN L x))∧Below w.heap.size w w':=by
 have hc:dropC L x=15:=by unfold dropC;rw[if_neg (by rw[hh];decide),if_pos (by omega)]
 have HC:=Lib.hid hc
 have HN:Hid (dropN L x=L):=Lib.hid (by unfold dropN;rw[hc];rfl)
 obtain⟨hx0,hZ0,hb,hsz,HR,HXB,HZB,HFin⟩:=pre2 r m h ok
 have HA:Hid (atG L x=(pos L x:Int)):=Lib.hid (atG_yes hh)
 have HH:=Lib.hid hh
 have hj:=has_pos hh
 obtain⟨b,rfl,hcl⟩:=h.at hj
 have HCL:Hid (∀X,Below ((w.alloc (.cells #[.int .i64 r,.int .i64 m,.slice (some ⟨b,0,none⟩) L.length c] 29)).alloc (.cells #[.int .i64 0,.int .i64 0,.slice none 0 0] 29)).heap.size ((w.alloc (.cells #[.int .i64 r,.int .i64 m,.slice (some ⟨b,0,none⟩) L.length c] 29)).alloc (.cells #[.int .i64 0,.int .i64 0,.slice none 0 0] 29)) X→X.cell? ⟨b,pos L x*5+1,none⟩=some (.int .i64 (gr L x).pa)∧X.rangeAt b (pos L x*5) (cellsE (gr L x)).toList):=Lib.hid fun X hX=>⟨((hcl.below hb).below hX).pa hj,((hcl.below hb).below hX).range hj⟩
 rw[hp] at HCL
 clear hh hp
 generalize pos L x=j at *
 clear hc h ok
 unfold cellsF
 go_enter Tryz.func46,Tryz.ntmps46
 go_wp2_with (first | (have hgd:=hx0;refine wpList_alloc30 rfl rfl ?_;clear hgd;generalize ((w.alloc (.cells #[.int .i64 r,.int .i64 m,.slice (some ⟨b,0,none⟩) L.length c] 29)).alloc (.cells #[.int .i64 0,.int .i64 0,.slice none 0 0] 29))=w3 at *;have hbi:=Below.refl w3.heap.size w3;clear hx0 hZ0 hb) | (go_at_call 30;refine(HR.out.at' _ _ (by assumption)).mono ?_;rw[HA.out];rintro e wi ⟨rfl,hbi⟩;have hX2:=HXB.out wi hbi;have f0:=cF0 hX2;have f1:=cF1 hX2;have f2:=cF2 hX2;clear hX2;have g1:=(HCL.out wi hbi).1) | (refine wpList_load30 rfl _ rfl w.heap.size r m (.slice (some ⟨b,0,none⟩) L.length c) rfl (HXB.out _ (by assumption)) ?_) | (refine wpList_store30 rfl _ _ rfl (w.heap.size+1) r m (.slice (some ⟨b,0,none⟩) L.length c) rfl rfl (HZB.out _ (by assumption)) rfl rfl ?_;intro wz hZ9 t9))
 refine bodyPost_ret (resultsF_ct rfl _ wz (w.heap.size+1) r m (.slice (some ⟨b,0,none⟩) L.length c) _ rfl rfl hZ9) rfl ?_
 rw[HC.out,HN.out]
 exact⟨⟨_,rfl,some ⟨b,0,none⟩,c,rfl,(HR.out.row _ hbi).turn t9 (HZB.out _ hbi) (by decide)⟩,(HFin.out _ hbi).trans (t9.below (by omega))⟩
theorem rDrop_busy (x:Int) (m0 k:Int) (w:World) (h:RowG w (.slice a L.length c) L) (ok:Ok L m0 k) (hh:has L x=true) (hp:0≤(gr L x).pa) (hf:0<fanI L x):
  Calls Tryz.prog 46 #[.agg (cellsF r m (.slice a L.length c)),.int .i64 x] w fun e w'=>(∃v,e= .returned (.tuple #[v,.int .i64 (dropC L x)])∧DocF w' v r m (dropN L x))∧Below w.heap.size w w':=by
 have hc:dropC L x=11:=by unfold dropC;rw[if_neg (by rw[hh];decide),if_neg (by omega),if_pos hf]
 have HC:=Lib.hid hc
 have HN:Hid (dropN L x=L):=Lib.hid (by unfold dropN;rw[hc];rfl)
 obtain⟨hx0,hZ0,hb,hsz,HR,HXB,HZB,HFin⟩:=pre2 r m h ok
 have HA:Hid (atG L x=(pos L x:Int)):=Lib.hid (atG_yes hh)
 have HH:=Lib.hid hh
 have hj:=has_pos hh
 obtain⟨b,rfl,hcl⟩:=h.at hj
 have HCL:Hid (∀X,Below ((w.alloc (.cells #[.int .i64 r,.int .i64 m,.slice (some ⟨b,0,none⟩) L.length c] 29)).alloc (.cells #[.int .i64 0,.int .i64 0,.slice none 0 0] 29)).heap.size ((w.alloc (.cells #[.int .i64 r,.int .i64 m,.slice (some ⟨b,0,none⟩) L.length c] 29)).alloc (.cells #[.int .i64 0,.int .i64 0,.slice none 0 0] 29)) X→X.cell? ⟨b,pos L x*5+1,none⟩=some (.int .i64 (gr L x).pa)∧X.rangeAt b (pos L x*5) (cellsE (gr L x)).toList):=Lib.hid fun X hX=>⟨((hcl.below hb).below hX).pa hj,((hcl.below hb).below hX).range hj⟩
 clear hh
 generalize (gr L x).pa=pa at *
 generalize pos L x=j at *
 clear hc h ok
 unfold cellsF
 go_enter Tryz.func46,Tryz.ntmps46
 go_wp2_with (first | (have hgd:=hx0;refine wpList_alloc30 rfl rfl ?_;clear hgd;generalize ((w.alloc (.cells #[.int .i64 r,.int .i64 m,.slice (some ⟨b,0,none⟩) L.length c] 29)).alloc (.cells #[.int .i64 0,.int .i64 0,.slice none 0 0] 29))=w3 at *;have hbi:=Below.refl w3.heap.size w3;clear hx0 hZ0 hb) | (go_at_call 30;refine(HR.out.at' _ _ (by assumption)).mono ?_;rw[HA.out];rintro e wi ⟨rfl,hbi⟩;have hX2:=HXB.out wi hbi;have f0:=cF0 hX2;have f1:=cF1 hX2;have f2:=cF2 hX2;clear hX2;have g1:=(HCL.out wi hbi).1) | (go_at_call 84;refine(HR.out.fan _ _ HH.out (by assumption)).mono ?_;rintro e wi ⟨rfl,hbi⟩;have hX2:=HXB.out wi hbi;have f0:=cF0 hX2;have f1:=cF1 hX2;have f2:=cF2 hX2;clear hX2) | (refine wpList_load30 rfl _ rfl w.heap.size r m (.slice (some ⟨b,0,none⟩) L.length c) rfl (HXB.out _ (by assumption)) ?_) | (refine wpList_store30 rfl _ _ rfl (w.heap.size+1) r m (.slice (some ⟨b,0,none⟩) L.length c) rfl rfl (HZB.out _ (by assumption)) rfl rfl ?_;intro wz hZ9 t9))
 refine bodyPost_ret (resultsF_ct rfl _ wz (w.heap.size+1) r m (.slice (some ⟨b,0,none⟩) L.length c) _ rfl rfl hZ9) rfl ?_
 rw[HC.out,HN.out]
 exact⟨⟨_,rfl,some ⟨b,0,none⟩,c,rfl,(HR.out.row _ hbi).turn t9 (HZB.out _ hbi) (by decide)⟩,(HFin.out _ hbi).trans (t9.below (by omega))⟩
theorem rDrop_yes (x:Int) (m0 k:Int) (w:World) (h:RowG w (.slice a L.length c) L) (ok:Ok L m0 k) (hh:has L x=true) (hp:0≤(gr L x).pa) (hf: ¬ 0<fanI L x):
  Calls Tryz.prog 46 #[.agg (cellsF r m (.slice a L.length c)),.int .i64 x] w fun e w'=>(∃v,e= .returned (.tuple #[v,.int .i64 (dropC L x)])∧DocF w' v r m (dropN L x))∧Below w.heap.size w w':=by
 have hc:dropC L x=0:=by unfold dropC;rw[if_neg (by rw[hh];decide),if_neg (by omega),if_neg hf]
 have HC:=Lib.hid hc
 have HN:Hid (dropN L x=L.take (pos L x)++L.drop (pos L x+1)):=Lib.hid (by unfold dropN;rw[hc];rfl)
 obtain⟨hx0,hZ0,hb,hsz,HR,HXB,HZB,HFin⟩:=pre2 r m h ok
 have HA:Hid (atG L x=(pos L x:Int)):=Lib.hid (atG_yes hh)
 have HH:=Lib.hid hh
 have hj:=has_pos hh
 obtain⟨b,rfl,hcl⟩:=h.at hj
 have HCL:Hid (∀X,Below ((w.alloc (.cells #[.int .i64 r,.int .i64 m,.slice (some ⟨b,0,none⟩) L.length c] 29)).alloc (.cells #[.int .i64 0,.int .i64 0,.slice none 0 0] 29)).heap.size ((w.alloc (.cells #[.int .i64 r,.int .i64 m,.slice (some ⟨b,0,none⟩) L.length c] 29)).alloc (.cells #[.int .i64 0,.int .i64 0,.slice none 0 0] 29)) X→X.cell? ⟨b,pos L x*5+1,none⟩=some (.int .i64 (gr L x).pa)∧X.rangeAt b (pos L x*5) (cellsE (gr L x)).toList):=Lib.hid fun X hX=>⟨((hcl.below hb).below hX).pa hj,((hcl.below hb).below hX).range hj⟩
 have hlc:=h.form.2.1
 have HCC:Hid (∀X,Below ((w.alloc (.cells #[.int .i64 r,.int .i64 m,.slice (some ⟨b,0,none⟩) L.length c] 29)).alloc (.cells #[.int .i64 0,.int .i64 0,.slice none 0 0] 29)).heap.size ((w.alloc (.cells #[.int .i64 r,.int .i64 m,.slice (some ⟨b,0,none⟩) L.length c] 29)).alloc (.cells #[.int .i64 0,.int .i64 0,.slice none 0 0] 29)) X→Cl X b 0 L):=Lib.hid fun X hX=>(hcl.below hb).below hX
 have hn64:=ok.n64
 clear hh
 generalize (gr L x).pa=pa at *
 generalize pos L x=j at *
 clear hc h ok
 unfold cellsF
 go_enter Tryz.func46,Tryz.ntmps46
 go_wp2_with (first | (have hgd:=hx0;refine wpList_alloc30 rfl rfl ?_;clear hgd;generalize ((w.alloc (.cells #[.int .i64 r,.int .i64 m,.slice (some ⟨b,0,none⟩) L.length c] 29)).alloc (.cells #[.int .i64 0,.int .i64 0,.slice none 0 0] 29))=w3 at *;have hbi:=Below.refl w3.heap.size w3;clear hx0 hZ0 hb) | (go_at_call 30;refine(HR.out.at' _ _ (by assumption)).mono ?_;rw[HA.out];rintro e wi ⟨rfl,hbi⟩;have hX2:=HXB.out wi hbi;have f0:=cF0 hX2;have f1:=cF1 hX2;have f2:=cF2 hX2;clear hX2;have g1:=(HCL.out wi hbi).1) | (go_at_call 84;refine(HR.out.fan _ _ HH.out (by assumption)).mono ?_;rintro e wi ⟨rfl,hbi⟩;have hX2:=HXB.out wi hbi;have f0:=cF0 hX2;have f1:=cF1 hX2;have f2:=cF2 hX2;clear hX2) | (refine wpList_load30 rfl _ rfl w.heap.size r m (.slice (some ⟨b,0,none⟩) L.length c) rfl (HXB.out _ (by assumption)) ?_) | (refine wpList_store30 rfl _ _ rfl (w.heap.size+1) r m (.slice (some ⟨b,0,none⟩) L.length c) rfl rfl (HZB.out _ (by assumption)) rfl rfl ?_;intro wz hZ9 t9))
 have hX4:=HXB.out wi hbi
 have hZ4:=HZB.out wi hbi
 have hC4:=HCC.out wi hbi
 have hF4:=HFin.out wi hbi
 have hs4:=hbi.size
 have hx:=hX4.drew
 have hZ:=hZ4.drew
 have hF5:Below w.heap.size w wi.drew:=Below.drewS hF4
 have hC5:Cl wi.drew b 0 L:=hC4
 have hs5:w.heap.size+2≤wi.drew.heap.size:=by show _≤wi.heap.size;omega
 have hfan: ¬ 0<fanI L x:=by omega
 go_wp2_with fail
 refine Rd.region (fun X=>Blk X w.heap.size 29 (cellsF r m (.slice (some ⟨b,0,none⟩) L.length c))) 19 [0,1,2,3,5,6,7,8,10,11,12,13,14,16,18] [0,1,2,3,5,6,7,8,10,11,12,13,14,4,9,15,16,17,18] (by kernel_rfl) (by kernel_rfl) (by kernel_rfl) (by kernel_rfl) rfl hx ?_
 clear hX4 hZ4 hC4 hF4 hs4 hbi f0 f1 f2 g1
 generalize wi.drew=w4 at *
 have HS1:Hid (SrcG w4 (.slice (some ⟨b,0,none⟩) j c) (L.take j)):=Lib.hid ⟨_,c,by rw[List.length_take,Nat.min_eq_left (by omega)],fun _=>⟨b,0,rfl,hC5.head⟩⟩
 generalize hvt:Value.slice (if c=j+1 then some ⟨b,0,none⟩ else some ⟨b,(j+1)*5,none⟩) (L.length - (j+1)) (c - (j+1))=VT
 have HV:=Lib.hid hvt.symm
 have HS2:Hid (SrcG w4 VT (L.drop (j+1))):=Lib.hid (by
  rw[HV.out]
  refine⟨_,_,by rw[List.length_drop],fun hne=>⟨b,(j+1)*5,?_,hC5.tail (by omega)⟩⟩
  have:0<(L.drop (j+1)).length:=List.length_pos_iff.2 hne
  rw[List.length_drop] at this
  rw[if_neg (by omega)])
 clear hvt
 have HW13:Hid (IntKind.i64.wrap ((j:Int)+1)=(j:Int)+1):=Lib.hid (IntWalk.i64_in _ (by omega))
 have hcj1:j≤c:=by omega
 have hcj2:j+1≤c:=by omega
 have hcj3: ¬c<j+1:=by omega
 refine Rd.seq_float (.pointer (some ⟨w.heap.size,0,none⟩)) (by simp only[gA,gC];rfl) rfl (by rfl) (fun X _=>by go_simp) ?_
 simp only[Act.put,sA,sB,sC]
 refine Rd.seq_float (.int .i64 r) (by simp only[gA,gB,gC];rfl) rfl (by rfl) (fun X hX=>by have e0:=cF0 hX;have e1:=cF1 hX;have e2:=cF2 hX;go_simp) ?_
 simp only[Act.put,sA,sB,sC]
 refine Rd.seq_float (.pointer (some ⟨w.heap.size,1,none⟩)) (by simp only[gA,gB,gC];rfl) rfl (by rfl) (fun X _=>by go_simp) ?_
 simp only[Act.put,sA,sB,sC]
 refine Rd.seq_float (.int .i64 m) (by simp only[gA,gB,gC];rfl) rfl (by rfl) (fun X hX=>by have e0:=cF0 hX;have e1:=cF1 hX;have e2:=cF2 hX;go_simp) ?_
 simp only[Act.put,sA,sB,sC]
 refine Rd.seq_float (.pointer (some ⟨w.heap.size,2,none⟩)) (by simp only[gA,gB,gC];rfl) rfl (by rfl) (fun X _=>by go_simp) ?_
 simp only[Act.put,sA,sB,sC]
 refine Rd.seq_float (.slice (some ⟨b,0,none⟩) L.length c) (by simp only[gA,gB,gC];rfl) rfl (by rfl) (fun X hX=>by have e0:=cF0 hX;have e1:=cF1 hX;have e2:=cF2 hX;go_simp) ?_
 simp only[Act.put,sA,sB,sC]
 refine Rd.seq_float (.int .i64 (j:Int)) (by simp only[gA,gB,gC];rfl) rfl (by rfl) (fun X _=>by go_simp) ?_
 simp only[Act.put,sA,sB,sC]
 refine Rd.seq_float (.slice (some ⟨b,0,none⟩) j c) (by simp only[gA,gB,gC];rfl) rfl (by rfl) (fun X _=>by go_simp) ?_
 simp only[Act.put,sA,sB,sC]
 refine Rd.seq_float (.pointer (some ⟨w.heap.size,2,none⟩)) (by simp only[gA,gB,gC];rfl) rfl (by rfl) (fun X _=>by go_simp) ?_
 simp only[Act.put,sA,sB,sC]
 refine Rd.seq_float (.slice (some ⟨b,0,none⟩) L.length c) (by simp only[gA,gB,gC];rfl) rfl (by rfl) (fun X hX=>by have e0:=cF0 hX;have e1:=cF1 hX;have e2:=cF2 hX;go_simp) ?_
 simp only[Act.put,sA,sB,sC]
 refine Rd.seq_float (.int .i64 (j:Int)) (by simp only[gA,gB,gC];rfl) rfl (by rfl) (fun X _=>by go_simp) ?_
 simp only[Act.put,sA,sB,sC]
 refine Rd.seq_float (.int .i64 ((j:Int)+1)) (by simp only[gA,gB,gC];rfl) rfl (by rfl) (fun X _=>by go_simp;exact HW13.out) ?_
 simp only[Act.put,sA,sB,sC]
 refine Rd.seq_float (VT) (by simp only[gA,gB,gC];rfl) rfl (by rfl) (fun X _=>by rw[HV.out];by_cases hcj:c=j+1<;>(go_simp;intro hq;exfalso;omega)) ?_
 simp only[Act.put,sA,sB,sC]
 refine Rd.seq_move (by simp only[gA,gB,gC];rfl) rfl (by rfl) (fun K hK=>?_)
 go_simp
 have hE:=RowH.empty w4 w4.heap.size (Nat.le_refl _)
 have hB:Below w4.heap.size w4 (w4.alloc (.cells #[] 56)):=(Below.refl _ _).alloc (Nat.le_refl _) _
 generalize w4.alloc (.cells #[] 56)=z1 at *
 refine hK _ _ (fun _=>hx.below hB) ?_
 clear hK K
 refine Rd.seq_move (by simp only[gA,gB,gC];rfl) rfl (by rfl) (fun K hK=>?_)
 refine wp_appendG _ _ rfl w4.heap.size _ _ [] (L.take j) rfl rfl hB.size hE (HS1.out.below hB) (by simp;omega) ?_
 intro v2 z2 h2 gr2
 rw[List.nil_append] at h2
 have hB2:=hB.trans (hE.grown hB.size gr2)
 refine hK _ _ (fun _=>hx.below hB2) ?_
 clear hK K
 refine Rd.seq_move (by simp only[gA,gB,gC];rfl) rfl (by rfl) (fun K hK=>?_)
 refine wp_appendG _ _ rfl w4.heap.size _ _ (L.take j) (L.drop (j+1)) rfl rfl hB2.size h2 (HS2.out.below hB2) (by simp;omega) ?_
 intro v5 z5 h5 gr5
 have hB5:=hB2.trans (h2.grown hB2.size gr5)
 obtain⟨a5,c5,rfl⟩:=h5.sl
 refine hK _ _ (fun _=>hx.below hB5) ?_
 clear hK K
 refine Rd.seq_float (.agg #[.int .i64 r,.int .i64 m,.slice a5 (L.take j++L.drop (j+1)).length c5]) (by simp only[gA,gB,gC];rfl) rfl (by rfl) (fun X _=>by kernel_rfl) ?_
 simp only[Act.put,sA,sB,sC]
 refine Rd.seq_move (by simp only[gA,gB,gC];rfl) rfl (by rfl) (fun K hK=>?_)
 refine wp_store30 _ _ rfl (w.heap.size+1) r m (.slice a5 (L.take j++L.drop (j+1)).length c5) rfl rfl (hZ.below hB5) rfl rfl ?_
 intro wz hZ9 t9
 refine hK _ _ (fun _=>(hx.below hB5).turn t9 (by omega)) ?_
 clear hK K
 refine Rd.seq_float (.int .i64 0) (by simp only[gA,gB,gC];rfl) rfl (by rfl) (fun X _=>by go_simp) ?_
 simp only[Act.put,sA,sB,sC]
 refine Rd.seq_end ?_
 go_wp2_with fail
 refine bodyPost_ret (resultsF_ct rfl _ wz (w.heap.size+1) r m _ _ rfl rfl hZ9) rfl ?_
 rw[HC.out,HN.out]
 exact⟨⟨_,rfl,a5,c5,rfl,h5.row.turn t9 (hZ.below hB5) (by decide)⟩,(hF5.trans (hB5.mono (by omega))).trans (t9.below (by omega))⟩
theorem rDrop_any (x:Int) (m0 k:Int) (w:World) (h:RowG w (.slice a L.length c) L) (ok:Ok L m0 k):
  Calls Tryz.prog 46 #[.agg (cellsF r m (.slice a L.length c)),.int .i64 x] w fun e w'=>(∃v,e= .returned (.tuple #[v,.int .i64 (dropC L x)])∧DocF w' v r m (dropN L x))∧Below w.heap.size w w':=by
 cases hh:has L x with
 | false=>exact rDrop_no r m a c L x m0 k w h ok hh
 | true=>
 rcases ok.pa hh with hp | hp
 ·exact rDrop_root r m a c L x m0 k w h ok hh hp
 have hp2:0≤(gr L x).pa:=by have:=ok.id hp;omega
 by_cases hf:0<fanI L x
 ·exact rDrop_busy r m a c L x m0 k w h ok hh hp2 hf
 ·exact rDrop_yes r m a c L x m0 k w h ok hh hp2 hf
end
end Go.Proofs.YtohifgjeebhijaaGreatDoor
