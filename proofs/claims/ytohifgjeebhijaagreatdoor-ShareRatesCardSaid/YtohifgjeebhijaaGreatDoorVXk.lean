import Derived.Laws.ResultCell
import Derived.Deep.MidRow
import Derived.Test.YtohifgjeebhijaaGreatDoorVXf
namespace Go.Proofs.YtohifgjeebhijaaGreatDoor
open Go.RowKit Go.Maps
def Blk (w:World) (b t:Nat) (cs:Array Value):Prop:=w.heap[b]? =some (.cells cs t (0,0))
section
variable {w w':World} {b t:Nat} {cs:Array Value}
theorem Blk.new (w:World) (t:Nat) (cs:Array Value):Blk (w.alloc (.cells cs t)) w.heap.size t cs:=heap_alloc_new w _
theorem Blk.lt (h:Blk w b t cs):b<w.heap.size:=(Array.getElem?_eq_some_iff.1 h).1
theorem Blk.below (h:Blk w b t cs) (hb:Below w.heap.size w w'):Blk w' b t cs:=(hb.block b h.lt).trans h
theorem Blk.alloc (h:Blk w b t cs) (o:Obj):Blk (w.alloc o) b t cs:=(heap_alloc_old w o h.lt).trans h
theorem Blk.turn {d:Nat} (h:Blk w b t cs) (ht:aX d w w') (hne:b≠d):Blk w' b t cs:=(ht.block b hne).trans h
theorem Blk.wr {ts:List Nat} {B:Nat} (h:Blk w b t cs) (hw:Wr ts B w w') (ht:t∉ts):Blk w' b t cs:=(hw.typ b cs t (0,0) h ht).trans h
theorem Blk.at (h:Blk w b t cs) (i:Nat):w.cell? ⟨b,i,none⟩=cs[i]? :=cell_of_row w b i _ t (0,0) h
theorem Blk.fz (h:Blk w b t cs) (i:Nat):w.frozen? ⟨b,i,none⟩=false:=frozen_of_row w b i _ t h
theorem Blk.drew (h:Blk w b t cs):Blk w.drew b t cs:=h
theorem Blk.set (h:Blk w b t cs) (i:Nat) (v:Value):Blk (w.setCell ⟨b,i,none⟩ v) b t (cs.setIfInBounds i v):=heap_setCell_same w b i _ t _ h
end
def ae (r m:Int) (v:Value):Array Value:= #[.int .i64 r,.int .i64 m,v]
theorem Tryz.info29:(Tryz.prog.info? 29).map (·.size)=some 3:=Ct
theorem oO (w:World):(Instr.alloc 29 true (.tuple #[])).run Tryz.prog w= .ok (.pointer (some ⟨w.heap.size,0,none⟩)) (w.alloc (.cells #[.int .i64 0,.int .i64 0,.slice none 0 0] 29)):=Ct
theorem Bi {p:Prop} (h:p:=by rw[h.at];rfl):p:=h
theorem cF0 {w:World} {b:Nat} {r m:Int} {v:Value} (h:Blk w b 29 (ae r m v)):w.cell? ⟨b,0,none⟩=some (.int .i64 r):=Bi
theorem cF1 {w:World} {b:Nat} {r m:Int} {v:Value} (h:Blk w b 29 (ae r m v)):w.cell? ⟨b,1,none⟩=some (.int .i64 m):=Bi
theorem cF2 {w:World} {b:Nat} {r m:Int} {v:Value} (h:Blk w b 29 (ae r m v)):w.cell? ⟨b,2,none⟩=some (v):=Bi
def au (g:Gr):Array Value:= #[.int .i64 g.id,.int .i64 g.pa,.int .i64 g.wt,.int .i64 g.me,.int .i64 g.aw]
theorem Tryz.info56:(Tryz.prog.info? 56).map (·.size)=some 5:=Ct
theorem o3 (w:World):(Instr.alloc 56 true (.tuple #[])).run Tryz.prog w= .ok (.pointer (some ⟨w.heap.size,0,none⟩)) (w.alloc (.cells #[.int .i64 0,.int .i64 0,.int .i64 0,.int .i64 0,.int .i64 0] 56)):=Ct
theorem cE1 {w:World} {b:Nat} {g:Gr} (h:Blk w b 56 (au g)):w.cell? ⟨b,1,none⟩=some (.int .i64 g.pa):=Bi
theorem cE2 {w:World} {b:Nat} {g:Gr} (h:Blk w b 56 (au g)):w.cell? ⟨b,2,none⟩=some (.int .i64 g.wt):=Bi
theorem cE3 {w:World} {b:Nat} {g:Gr} (h:Blk w b 56 (au g)):w.cell? ⟨b,3,none⟩=some (.int .i64 g.me):=Bi
theorem cE4 {w:World} {b:Nat} {g:Gr} (h:Blk w b 56 (au g)):w.cell? ⟨b,4,none⟩=some (.int .i64 g.aw):=Bi
def gK (q:Nat) (g n:Int):Array Value:= #[.int .u8 (q:Int),.int .i64 g,.int .i64 n]
theorem Tryz.info70:(Tryz.prog.info? 70).map (·.size)=some 3:=Ct
def bh (i q wt d r me aw:Int):Array Value:= #[.int .i64 i,.int .i64 q,.int .i64 wt,.int .i64 d,.int .i64 r,.int .i64 me,.int .i64 aw]
theorem Tryz.info158:(Tryz.prog.info? 158).map (·.size)=some 7:=Ct
theorem oP (w:World):(Instr.alloc 158 true (.tuple #[])).run Tryz.prog w= .ok (.pointer (some ⟨w.heap.size,0,none⟩)) (w.alloc (.cells #[.int .i64 0,.int .i64 0,.int .i64 0,.int .i64 0,.int .i64 0,.int .i64 0,.int .i64 0] 158)):=Ct
theorem cU4 {w:World} {b:Nat} {i q wt d r me aw:Int} (h:Blk w b 158 (bh i q wt d r me aw)):w.cell? ⟨b,4,none⟩=some (.int .i64 r):=Bi
section
variable {ops:Array Oper} {rest:List Oper} {o:Oper} {a:Act} {w:World} {Q:Exit→Act→World→Prop} {K:Act→World→Prop}
theorem pN (ho:o.op= .alloc 29) (h:K (a.put o.dst (.pointer (some ⟨w.heap.size,0,none⟩))) (w.alloc (.cells #[.int .i64 0,.int .i64 0,.slice none 0 0] 29))):o.wp Tryz.prog a w K Q:=by
 unfold Oper.wp execOp;rw[ho];simp only[oO,Sem.run_bind,Sem.run_pure,Result.andThen_ok];exact h
theorem ai (hg:o.guard=none) (ho:o.op= .alloc 29) (h:wpList Tryz.prog ops Q rest (a.put o.dst (.pointer (some ⟨w.heap.size,0,none⟩))) (w.alloc (.cells #[.int .i64 0,.int .i64 0,.slice none 0 0] 29))):wpList Tryz.prog ops Q (o::rest) a w:=
 wpList_plain hg fun _ hK=>pN ho (hK _ _ h)
theorem af (hg:o.guard=none) (x:Operand) (ho:o.op= .load 29 x) (b:Nat) (r m:Int) (v:Value) (hx:a.eval x= .pointer (some ⟨b,0,none⟩)) (hw:Blk w b 29 (ae r m v)) (h:wpList Tryz.prog ops Q rest (a.put o.dst (.agg (ae r m v))) w):wpList Tryz.prog ops Q (o::rest) a w:=
 wpList_load_row hg 29 x ho b hx 29 _ (0,0) _ hw Tryz.underlying29 rfl Tryz.info29 h
theorem cO (x y:Operand) (ho:o.op= .store 29 x y) (b:Nat) (r m:Int) (v:Value) {cs:Array Value} (hx:a.eval x= .pointer (some ⟨b,0,none⟩)) (hy:a.eval y= .agg (ae r m v)) (hw:Blk w b 29 cs) (hc:cs.size=3) (hv:v.oneCell'=true)
  (h: ∀w',Blk w' b 29 (ae r m v)→aX b w w'→K (a.put o.dst undef) w'):o.wp Tryz.prog a w K Q:=
 wp_store_row 29 x y ho b _ hx hy 29 _ hw Tryz.info29 hc (by simp[hv,ae];exact⟨rfl,rfl⟩) (h _ (setRow_heap w b _ _ 29 _ hw) (aX.setRow w b _))
theorem ab (hg:o.guard=none) (x y:Operand) (ho:o.op= .store 29 x y) (b:Nat) (r m:Int) (v:Value) {cs:Array Value} (hx:a.eval x= .pointer (some ⟨b,0,none⟩)) (hy:a.eval y= .agg (ae r m v)) (hw:Blk w b 29 cs) (hc:cs.size=3) (hv:v.oneCell'=true)
  (h: ∀w',Blk w' b 29 (ae r m v)→aX b w w'→wpList Tryz.prog ops Q rest (a.put o.dst undef) w'):wpList Tryz.prog ops Q (o::rest) a w:=
 wpList_plain hg fun _ hK=>cO x y ho b r m v hx hy hw hc hv fun w' h1 h2=>hK _ _ (h w' h1 h2)
theorem qM (ho:o.op= .alloc 56) (h:K (a.put o.dst (.pointer (some ⟨w.heap.size,0,none⟩))) (w.alloc (.cells #[.int .i64 0,.int .i64 0,.int .i64 0,.int .i64 0,.int .i64 0] 56))):o.wp Tryz.prog a w K Q:=by
 unfold Oper.wp execOp;rw[ho];simp only[o3,Sem.run_bind,Sem.run_pure,Result.andThen_ok];exact h
theorem bw (hg:o.guard=none) (ho:o.op= .alloc 56) (h:wpList Tryz.prog ops Q rest (a.put o.dst (.pointer (some ⟨w.heap.size,0,none⟩))) (w.alloc (.cells #[.int .i64 0,.int .i64 0,.int .i64 0,.int .i64 0,.int .i64 0] 56))):wpList Tryz.prog ops Q (o::rest) a w:=
 wpList_plain hg fun _ hK=>qM ho (hK _ _ h)
theorem cL (hg:o.guard=none) (x:Operand) (ho:o.op= .load 56 x) (b:Nat) (g:Gr) (hx:a.eval x= .pointer (some ⟨b,0,none⟩)) (hw:Blk w b 56 (au g)) (h:wpList Tryz.prog ops Q rest (a.put o.dst (.agg (au g))) w):wpList Tryz.prog ops Q (o::rest) a w:=
 wpList_load_row hg 56 x ho b hx 56 _ (0,0) _ hw Tryz.underlying56 rfl Tryz.info56 h
theorem qA (x y:Operand) (ho:o.op= .store 56 x y) (b:Nat) (g:Gr) {cs:Array Value} (hx:a.eval x= .pointer (some ⟨b,0,none⟩)) (hy:a.eval y= .agg (au g)) (hw:Blk w b 56 cs) (hc:cs.size=5)
  (h: ∀w',Blk w' b 56 (au g)→aX b w w'→K (a.put o.dst undef) w'):o.wp Tryz.prog a w K Q:=
 wp_store_row 56 x y ho b _ hx hy 56 _ hw Tryz.info56 hc (by simp[Value.oneCell',au]) (h _ (setRow_heap w b _ _ 56 _ hw) (aX.setRow w b _))
theorem bu (hg:o.guard=none) (x y:Operand) (ho:o.op= .store 56 x y) (b:Nat) (g:Gr) {cs:Array Value} (hx:a.eval x= .pointer (some ⟨b,0,none⟩)) (hy:a.eval y= .agg (au g)) (hw:Blk w b 56 cs) (hc:cs.size=5)
  (h: ∀w',Blk w' b 56 (au g)→aX b w w'→wpList Tryz.prog ops Q rest (a.put o.dst undef) w'):wpList Tryz.prog ops Q (o::rest) a w:=
 wpList_plain hg fun _ hK=>qA x y ho b g hx hy hw hc fun w' h1 h2=>hK _ _ (h w' h1 h2)
theorem lu (hg:o.guard=none) (x:Operand) (ho:o.op= .load 70 x) (b:Nat) (q:Nat) (g n:Int) (hx:a.eval x= .pointer (some ⟨b,0,none⟩)) (hw:Blk w b 70 (gK q g n)) (h:wpList Tryz.prog ops Q rest (a.put o.dst (.agg (gK q g n))) w):wpList Tryz.prog ops Q (o::rest) a w:=
 wpList_load_row hg 70 x ho b hx 70 _ (0,0) _ hw Tryz.underlying70 rfl Tryz.info70 h
theorem qN (x y:Operand) (ho:o.op= .store 70 x y) (b:Nat) (q:Nat) (g n:Int) {cs:Array Value} (hx:a.eval x= .pointer (some ⟨b,0,none⟩)) (hy:a.eval y= .agg (gK q g n)) (hw:Blk w b 70 cs) (hc:cs.size=3)
  (h: ∀w',Blk w' b 70 (gK q g n)→aX b w w'→K (a.put o.dst undef) w'):o.wp Tryz.prog a w K Q:=
 wp_store_row 70 x y ho b _ hx hy 70 _ hw Tryz.info70 hc (by simp[Value.oneCell',gK]) (h _ (setRow_heap w b _ _ 70 _ hw) (aX.setRow w b _))
theorem k4 (hg:o.guard=none) (x y:Operand) (ho:o.op= .store 70 x y) (b:Nat) (q:Nat) (g n:Int) {cs:Array Value} (hx:a.eval x= .pointer (some ⟨b,0,none⟩)) (hy:a.eval y= .agg (gK q g n)) (hw:Blk w b 70 cs) (hc:cs.size=3)
  (h: ∀w',Blk w' b 70 (gK q g n)→aX b w w'→wpList Tryz.prog ops Q rest (a.put o.dst undef) w'):wpList Tryz.prog ops Q (o::rest) a w:=
 wpList_plain hg fun _ hK=>qN x y ho b q g n hx hy hw hc fun w' h1 h2=>hK _ _ (h w' h1 h2)
theorem pP (ho:o.op= .alloc 158) (h:K (a.put o.dst (.pointer (some ⟨w.heap.size,0,none⟩))) (w.alloc (.cells #[.int .i64 0,.int .i64 0,.int .i64 0,.int .i64 0,.int .i64 0,.int .i64 0,.int .i64 0] 158))):o.wp Tryz.prog a w K Q:=by
 unfold Oper.wp execOp;rw[ho];simp only[oP,Sem.run_bind,Sem.run_pure,Result.andThen_ok];exact h
theorem bf (hg:o.guard=none) (ho:o.op= .alloc 158) (h:wpList Tryz.prog ops Q rest (a.put o.dst (.pointer (some ⟨w.heap.size,0,none⟩))) (w.alloc (.cells #[.int .i64 0,.int .i64 0,.int .i64 0,.int .i64 0,.int .i64 0,.int .i64 0,.int .i64 0] 158))):wpList Tryz.prog ops Q (o::rest) a w:=
 wpList_plain hg fun _ hK=>pP ho (hK _ _ h)
theorem k7 (hg:o.guard=none) (x:Operand) (ho:o.op= .load 158 x) (b:Nat) (i q wt d r me aw:Int) (hx:a.eval x= .pointer (some ⟨b,0,none⟩)) (hw:Blk w b 158 (bh i q wt d r me aw)) (h:wpList Tryz.prog ops Q rest (a.put o.dst (.agg (bh i q wt d r me aw))) w):wpList Tryz.prog ops Q (o::rest) a w:=
 wpList_load_row hg 158 x ho b hx 158 _ (0,0) _ hw Tryz.underlying158 rfl Tryz.info158 h
theorem jT (x y:Operand) (ho:o.op= .store 158 x y) (b:Nat) (i q wt d r me aw:Int) {cs:Array Value} (hx:a.eval x= .pointer (some ⟨b,0,none⟩)) (hy:a.eval y= .agg (bh i q wt d r me aw)) (hw:Blk w b 158 cs) (hc:cs.size=7)
  (h: ∀w',Blk w' b 158 (bh i q wt d r me aw)→aX b w w'→K (a.put o.dst undef) w'):o.wp Tryz.prog a w K Q:=
 wp_store_row 158 x y ho b _ hx hy 158 _ hw Tryz.info158 hc (by simp[Value.oneCell',bh]) (h _ (setRow_heap w b _ _ 158 _ hw) (aX.setRow w b _))
theorem bE (hg:o.guard=none) (x y:Operand) (ho:o.op= .store 158 x y) (b:Nat) (i q wt d r me aw:Int) {cs:Array Value} (hx:a.eval x= .pointer (some ⟨b,0,none⟩)) (hy:a.eval y= .agg (bh i q wt d r me aw)) (hw:Blk w b 158 cs) (hc:cs.size=7)
  (h: ∀w',Blk w' b 158 (bh i q wt d r me aw)→aX b w w'→wpList Tryz.prog ops Q rest (a.put o.dst undef) w'):wpList Tryz.prog ops Q (o::rest) a w:=
 wpList_plain hg fun _ hK=>jT x y ho b i q wt d r me aw hx hy hw hc fun w' h1 h2=>hK _ _ (h w' h1 h2)
theorem pt (hg:o.guard=none) (m x v:Operand) (hop:o.op=Op.mapUpdate 104 m x v) {b n:Nat} {G:Int→Option Nat} (hm:a.eval m= .map (some b)) (h:Mp w b n G) (hn:n<maxLen) {k:Int} (hx:a.eval x= .int .i64 k) (hk:I64 k) {c:Nat} (hv:a.eval v= .pointer (some ⟨c,0,none⟩))
  (hK: ∀w',Mp w' b (n+1) (fun y=>if y=k then some c else G y)→w.grownBy w' (some b)→wpList Tryz.prog ops Q rest (a.put o.dst undef) w'):wpList Tryz.prog ops Q (o::rest) a w:=by
 refine wpList_plain hg fun K' hK'=>?_
 obtain⟨w',hrun,r1,r2⟩:=h.put hn hk c;unfold Oper.wp;simp[execOp,hop,hm,hx,hv,hrun,Result.andThen];exact hK' _ _ (hK w' r1 r2)
theorem nS (hg:o.guard=none) (m x:Operand) (hop:o.op=Op.call { callee:=Callee.builtin Builtin.delete,args:= #[m,x],argTypes:= #[104,3] }) {b n:Nat} {G:Int→Option Nat} (hm:a.eval m= .map (some b)) (h:Mp w b n G) {k:Int} (hx:a.eval x= .int .i64 k) (hk:I64 k)
  (hK: ∀w',Mp w' b n (fun y=>if y=k then none else G y)→w.grownBy w' (some b)→wpList Tryz.prog ops Q rest (a.put o.dst (.tuple #[])) w'):wpList Tryz.prog ops Q (o::rest) a w:=by
 refine wpList_plain hg fun K' hK'=>?_
 obtain⟨w',hrun,r1,r2⟩:=h.del hk o.type;unfold Oper.wp;simp[execOp,hop,resolve,invoke,builtin,hm,hx,hrun,Result.andThen];exact hK' _ _ (hK w' r1 r2)
end
theorem q5 {fn:Func} {p:Tmp} (h:fn.results= #[.cell p 29]) (tmps:Array Value) (w:World) (b:Nat) (r m:Int) (v:Value) (hp:tmps.getD p undef= .pointer (some ⟨b,0,none⟩)) (hw:Blk w b 29 (ae r m v)):
  (results fn tmps).run Tryz.prog w= .ok (.agg (ae r m v)) w:=by
 have hp':tmps[p]?.getD undef= .pointer (some ⟨b,0,none⟩):=Bs
 simp[results,h,hp',asAddr,run_loadVar_row w b 29 29 _ (0,0) _ hw Tryz.underlying29 rfl Tryz.info29]
theorem am {fn:Func} {p u:Tmp} (h:fn.results= #[.cell p 29,.tmp u]) (tmps:Array Value) (w:World) (b:Nat) (r m:Int) (v:Value) (x:Value) (hp:tmps.getD p undef= .pointer (some ⟨b,0,none⟩)) (hx:tmps.getD u undef=x) (hw:Blk w b 29 (ae r m v)):
  (results fn tmps).run Tryz.prog w= .ok (.tuple #[.agg (ae r m v),x]) w:=by
 have hp':tmps[p]?.getD undef= .pointer (some ⟨b,0,none⟩):=Bs
 have hx':tmps[u]?.getD undef=x:=by simpa using hx
 simp[results,h,hp',hx',asAddr,run_loadVar_row w b 29 29 _ (0,0) _ hw Tryz.underlying29 rfl Tryz.info29]
theorem bV {fn:Func} {p u u2:Tmp} (h:fn.results= #[.cell p 29,.tmp u,.tmp u2]) (tmps:Array Value) (w:World) (b:Nat) (r m:Int) (v:Value) (x y:Value) (hp:tmps.getD p undef= .pointer (some ⟨b,0,none⟩)) (hx:tmps.getD u undef=x) (hy:tmps.getD u2 undef=y) (hw:Blk w b 29 (ae r m v)):
  (results fn tmps).run Tryz.prog w= .ok (.tuple #[.agg (ae r m v),x,y]) w:=by
 have hp':tmps[p]?.getD undef= .pointer (some ⟨b,0,none⟩):=Bs
 have hx':tmps[u]?.getD undef=x:=by simpa using hx
 have hy':tmps[u2]?.getD undef=y:=by simpa using hy
 simp[results,h,hp',hx',hy',asAddr,run_loadVar_row w b 29 29 _ (0,0) _ hw Tryz.underlying29 rfl Tryz.info29]
theorem p6 {fn:Func} {p:Tmp} (h:fn.results= #[.cell p 158]) (tmps:Array Value) (w:World) (b:Nat) (i q wt d r me aw:Int) (hp:tmps.getD p undef= .pointer (some ⟨b,0,none⟩)) (hw:Blk w b 158 (bh i q wt d r me aw)):
  (results fn tmps).run Tryz.prog w= .ok (.agg (bh i q wt d r me aw)) w:=by
 have hp':tmps[p]?.getD undef= .pointer (some ⟨b,0,none⟩):=Bs
 simp[results,h,hp',asAddr,run_loadVar_row w b 158 158 _ (0,0) _ hw Tryz.underlying158 rfl Tryz.info158]
theorem jl {fn:Func} {p u:Tmp} (h:fn.results= #[.cell p 158,.tmp u]) (tmps:Array Value) (w:World) (b:Nat) (i q wt d r me aw:Int) (x:Value) (hp:tmps.getD p undef= .pointer (some ⟨b,0,none⟩)) (hx:tmps.getD u undef=x) (hw:Blk w b 158 (bh i q wt d r me aw)):
  (results fn tmps).run Tryz.prog w= .ok (.tuple #[.agg (bh i q wt d r me aw),x]) w:=by
 have hp':tmps[p]?.getD undef= .pointer (some ⟨b,0,none⟩):=Bs
 have hx':tmps[u]?.getD undef=x:=by simpa using hx
 simp[results,h,hp',hx',asAddr,run_loadVar_row w b 158 158 _ (0,0) _ hw Tryz.underlying158 rfl Tryz.info158]
set_option maxRecDepth 100000
set_option maxHeartbeats 4000000
def bt (c m:Int):Int:=if c=0 then m+1 else 0
def be (c m:Int):Int:=if c=0 then m+1 else m
section
variable {w w':World} {B fp tp tg mp:Nat} {bl:Int→Nat} {L:List Gr} {l l':List Int} {m k:Int}
theorem iV (h:aQ tp tg w w') (ht:aU w tp tg l m) (hp:B≤tp) (hg:B≤tg):Wr [118,144,3] B w w':=by
 refine⟨h.os,h.tape,h.output,h.size,fun k hk hs=>h.block k hs A3 A3,fun k c t z hc hts=>h.block k (Array.getElem?_eq_some_iff.1 hc).1 ?_ ?_⟩
 ·rintro rfl;rw[ht.ptr] at hc;injection hc with h1;injection h1 with _ h2 _;subst h2;exact hts BD
 ·rintro rfl;rw[ht.row] at hc;injection hc with h1;injection h1 with _ h2 _;subst h2;exact hts BD
theorem vG {ts:List Nat} {n:Nat} {G:Int→Option Nat} (hg:w.grownBy w' (some mp)) (hm:Mp w mp n G) (hB:B≤mp):Wr ts B w w':=by
 refine⟨hg.os,hg.tape,hg.output,hg.size,fun k hk hs=>hg.block k hs (fun e=>by cases e;omega),fun k c t z hc _=>hg.block k (Array.getElem?_eq_some_iff.1 hc).1 (fun e=>?_)⟩;cases e;obtain⟨es,clock,h1⟩:=hm.isMap;rw[h1] at hc;cases hc
theorem du {a b:Nat} {ca cb:Array Value} {ta tb:Nat} {za zb:Nat×Nat} (ha:w.heap[a]? =some (.cells ca ta za)) (hb:w.heap[b]? =some (.cells cb tb zb)) (ht:ta≠tb):a≠b:=by
 rintro rfl;rw[ha] at hb;injection hb with h1;injection h1 with _ h2 _;exact ht h2
theorem el {a:Nat} {ca:Array Value} {ta:Nat} {za:Nat×Nat} {n:Nat} {G:Int→Option Nat} (ha:w.heap[a]? =some (.cells ca ta za)) (hm:Mp w mp n G):a≠mp:=by
 rintro rfl;obtain⟨es,clock,h1⟩:=hm.isMap;rw[h1] at ha;cases ha
theorem Fo.tabs (h:Fo w fp tp tg mp bl L l m) (ho:aQ tp tg w w') (ht:aU w' tp tg l' m):Fo w' fp tp tg mp bl L l' m where
 ptr:=(ho.block fp h.ltf (du h.ptr h.tab.ptr BD) (du h.ptr h.tab.row BD)).trans h.ptr
 tab:=ht
 mpp:=by
  obtain⟨n,hn,hm⟩:=h.mpp;exact⟨n,hn,hm.same (ho.block mp hm.lt (fun e=>el h.tab.ptr hm e.symm) (fun e=>el h.tab.row hm e.symm))⟩
 grp:=fun x hx=>(ho.block _ (h.grp x hx).lt (du (h.grp x hx) h.tab.ptr BD) (du (h.grp x hx) h.tab.row BD)).trans (h.grp x hx)
 inj:=h.inj
theorem Fo.more {w1 w2 w3:World} {p wt:Int} {n:Nat} (ok:Ok L m k) (h:Fo w fp tp tg mp bl L l m) (h1:w1=w.alloc (.cells #[.int .i64 p,.int .i64 wt,.int .i64 0,.int .i64 0] 118)) (ho:aQ tp tg w1 w2) (ht:aU w2 tp tg l' (m+1)) (hn:(n:Int)≤m)
  (hm:Mp w3 mp (n+1) (fun y=>if y=m+1 then some w.heap.size else gOf L bl y)) (hg:w2.grownBy w3 (some mp)):Fo w3 fp tp tg mp (fun y=>if y=m+1 then w.heap.size else bl y) (addG L m p wt) l' (m+1):=by
 have hs1:w1.heap.size=w.heap.size+1:=by rw[h1];simp
 have hb1:Below w.heap.size w w1:=by rw[h1];exact(Below.refl _ w).alloc lr _
 have h':=h.below hb1;obtain⟨n0,_,hm0⟩:=h'.mpp;have hnew:w1.heap[w.heap.size]? =some (.cells #[.int .i64 p,.int .i64 wt,.int .i64 0,.int .i64 0] 118 (0,0)):=by rw[h1];exact heap_alloc_new w _
 have keep: ∀(b:Nat) (c:Array Value) (t:Nat),w1.heap[b]? =some (Obj.cells c t (0,0))→t≠144→t≠3→w3.heap[b]? =some (Obj.cells c t (0,0)):=fun b c t hb h83 h3=>by
  have hlt:=(Array.getElem?_eq_some_iff.1 hb).1;rw[hg.block b (Nat.lt_of_lt_of_le hlt ho.size) (fun e=>by cases e;exact el hb hm0 rfl),ho.block b hlt (du hb h'.tab.ptr h83) (du hb h'.tab.row h3)];exact hb
 refine⟨keep _ _ _ h'.ptr BD BD,?_,⟨n+1,A3,?_⟩,fun x hx=>?_,fun x y hx hy e=>?_⟩
 ·refine ht.same (hg.block tp ht.ltp (fun e=>?_)) (hg.block tg ht.ltg (fun e=>?_))
  ·cases e;exact el h'.tab.ptr hm0 rfl
  ·cases e;exact el h'.tab.row hm0 rfl
 ·have e:(fun y=>if y=m+1 then some w.heap.size else gOf L bl y)=gOf (addG L m p wt) (fun y=>if y=m+1 then w.heap.size else bl y):=by
   funext y;unfold gOf;rw[d4];by_cases e:y=m+1<;>simp[e]
  rwa [←e]
 ·by_cases e:x=m+1
  ·subst e;rw[nT ok];simp only[if_true];exact keep _ _ _ hnew BD BD
  ·rw[d4,decide_eq_false e,Bool.or_false] at hx;rw[oA ok hx,if_neg e];exact keep _ _ _ (h'.grp x hx) BD BD
 ·rw[d4] at hx hy;have lt: ∀z,has L z=true→bl z<w.heap.size:=fun z hz=>(h.grp z hz).lt
  by_cases e1:x=m+1<;>by_cases e2:y=m+1
  ·rw[e1,e2]
  ·rw[decide_eq_false e2,Bool.or_false] at hy;rw[if_pos e1,if_neg e2] at e;have:=lt y hy;omega
  ·rw[decide_eq_false e1,Bool.or_false] at hx;rw[if_neg e1,if_pos e2] at e;have:=lt x hx;omega
  ·rw[decide_eq_false e1,Bool.or_false] at hx;rw[decide_eq_false e2,Bool.or_false] at hy;rw[if_neg e1,if_neg e2] at e;exact h.inj x y hx hy e
theorem Fo.less {x:Int} {n:Nat} (ok:Ok L m k) (h:Fo w fp tp tg mp bl L l m) (hx:has L x=true) (hn:(n:Int)≤m) (hm0:Mp w mp n (gOf L bl)) (hm:Mp w' mp n (fun y=>if y=x then none else gOf L bl y)) (hg:w.grownBy w' (some mp)):Fo w' fp tp tg mp bl (gW L x) l m:=by
 have keep: ∀(b:Nat) (c:Array Value) (t:Nat),w.heap[b]? =some (Obj.cells c t (0,0))→w'.heap[b]? =some (Obj.cells c t (0,0)):=fun b c t hb=>by
  rw[hg.block b (Array.getElem?_eq_some_iff.1 hb).1 (fun e=>by cases e;exact el hb hm0 rfl)];exact hb
 refine⟨keep _ _ _ h.ptr,h.tab.same ((keep _ _ _ h.tab.ptr).trans h.tab.ptr.symm) ((keep _ _ _ h.tab.row).trans h.tab.row.symm),⟨n,hn,?_⟩,fun y hy=>?_,fun y z hy hz e=>?_⟩
 ·have e:(fun y=>if y=x then none else gOf L bl y)=gOf (gW L x) bl:=by
   funext y;unfold gOf;rw[dU ok hx];by_cases e:y=x<;>simp[e]
  rwa [←e]
 ·rw[uP ok hx hy];rw[dU ok hx,Bool.and_eq_true] at hy;exact keep _ _ _ (h.grp y hy.1)
 ·rw[dU ok hx,Bool.and_eq_true] at hy hz;exact h.inj y z hy.1 hz.1 e
theorem xa {l:List Int} {m:Int} (hb:ft l m=true):mD l m=m+1∧mI l m=0∧j7 l m=m+1∧(gV l m).length=l.length:=by
 simp[mD,mI,j7,gV,hb]
theorem wO {l:List Int} {m:Int} (hb:ft l m=false):mD l m=0∧mI l m=6∧j7 l m=m∧gV l m=l:=by
 simp[mD,mI,j7,gV,hb]
end
section
variable (fp B:Nat) (L:List Gr) (l:List Int) (m k:Int)
theorem zo (p wt:Int) (w:World) (h:IsF w B fp L l m k) (hk:k<1000) (hl:L.length=l.length):
  Calls Tryz.prog 56 #[.pointer (some ⟨fp,0,none⟩),.agg #[.int .i64 p,.int .i64 wt,.int .i64 0,.int .i64 0]] w fun e w'=>e= .returned (.tuple #[.int .i64 0,.int .i64 6])∧IsF w' B fp L l m (k+1)∧Wr [118,144,3] B w w':=by
 obtain⟨tp,tg,mp,bl,hf,hB⟩:=h.fo;have hb1:Below w.heap.size w (w.alloc (.cells #[.int .i64 p,.int .i64 wt,.int .i64 0,.int .i64 0] 118)):=(Below.refl _ w).alloc lr _;have hf1:=hf.below hb1;have h1:=hf1.c0;have hfree:ft l m=false:=by rw[(fv h.ok h.ids).1,hl];simp
 obtain⟨e1,e2,e3,e4⟩:=wO hfree;have HA:=Hd (nF tp tg l m _ hf1.tab h.tok);have HE:=Hd (show mD l m=0∧mI l m=6∧j7 l m=m∧gV l m=l from ⟨e1,e2,e3,e4⟩);have HF:Hid (∀w2,aU w2 tp tg l m→aQ tp tg (w.alloc (.cells #[.int .i64 p,.int .i64 wt,.int .i64 0,.int .i64 0] 118)) w2→IsF w2 B fp L l m (k+1)∧Wr [118,144,3] B w w2):=Hd fun w2 ht ho=>
  ⟨⟨⟨tp,tg,mp,bl,hf1.tabs ho ht,hB⟩,h.tok,h.ids,h.ok.later hk⟩,(Wr.of_below hb1).trans (iV ho hf1.tab hB.1 hB.2.1)⟩
 clear h hf hB hb1 hf1 hfree e1 e2 e3 e4 hl hk;go_enter Tryz.func56,Tryz.ntmps56
 go_wp2_with (go_at_call 91;refine HA.mono ?_;rw[HE.1,HE.2.1,HE.2.2.1,HE.2.2.2];rintro e w2 ⟨rfl,ht,ho⟩)
 go_ret2
 exact⟨rfl,HF.out _ ht ho⟩
theorem yd (p wt:Int) (w:World) (h:IsF w B fp L l m k) (hk:k<1000) (hBw:B≤w.heap.size) (hl: ¬L.length=l.length) (hp:p= -1∨has L p=true∧dep L p≠8) (hw:1≤wt∧wt≤10000):
  Calls Tryz.prog 56 #[.pointer (some ⟨fp,0,none⟩),.agg #[.int .i64 p,.int .i64 wt,.int .i64 0,.int .i64 0]] w fun e w'=>e= .returned (.tuple #[.int .i64 (m+1),.int .i64 0])∧(∃l',l'.length=l.length∧IsF w' B fp (addG L m p wt) l' (m+1) (k+1))∧Wr [118,144,3] B w w':=by
 obtain⟨tp,tg,mp,bl,hf,hB⟩:=h.fo;have hb1:Below w.heap.size w (w.alloc (.cells #[.int .i64 p,.int .i64 wt,.int .i64 0,.int .i64 0] 118)):=(Below.refl _ w).alloc lr _;have hf1:=hf.below hb1;have h1:=hf1.c0;have hfree:ft l m=true:=by rw[(fv h.ok h.ids).1];simpa using hl
 have hlen:L.length<64:=by have:=(fv h.ok h.ids).2;have:=h.tok.n64;omega
 obtain⟨e1,e2,e3,e4⟩:=xa hfree;obtain⟨n,hn,hm0⟩:=hf1.mpp;have HA:=Hd (nF tp tg l m _ hf1.tab h.tok);have HE:=Hd (show mD l m=m+1∧mI l m=0∧j7 l m=m+1 from ⟨e1,e2,e3⟩);have hmi:I64 (m+1):=by have:=h.ok.m0;have:=h.ok.mle;have:=h.ok.k1;unfold I64;omega
 have hnM:n<maxLen:=by have:=h.ok.mle;have:=h.ok.k1;unfold maxLen;omega
 have HF:Hid (∀w2 w3,aU w2 tp tg (gV l m) (m+1)→aQ tp tg (w.alloc (.cells #[.int .i64 p,.int .i64 wt,.int .i64 0,.int .i64 0] 118)) w2→Mp w3 mp (n+1) (fun y=>if y=m+1 then some w.heap.size else gOf L bl y)→w2.grownBy w3 (some mp)→
   (∃l',l'.length=l.length∧IsF w3 B fp (addG L m p wt) l' (m+1) (k+1))∧Wr [118,144,3] B w w3):=Hd fun w2 w3 ht ho hm hg=>by
  have hm2:=hm0.same (ho.block mp hm0.lt (fun e=>el hf1.tab.ptr hm0 e.symm) (fun e=>el hf1.tab.row hm0 e.symm));have tok':=h.tok.add;rw[e3] at tok';refine⟨⟨gV l m,e4,⟨tp,tg,mp,_,hf.more h.ok rfl ho ht hn hm hg,hB.1,hB.2.1,hB.2.2.1,fun x hx=>?_⟩,tok',tv h.ok h.tok h.ids hfree,h.ok.addG hk hlen hp hw⟩,((Wr.of_below hb1).trans (iV ho hf1.tab hB.1 hB.2.1)).trans (vG hg hm2 hB.2.2.1)⟩;by_cases e:x=m+1
  ·rw[if_pos e];exact hBw
  ·rw[if_neg e];rw[d4,decide_eq_false e,Bool.or_false] at hx;exact hB.2.2.2 x hx
 have HM:Hid (∀w2,aQ tp tg (w.alloc (.cells #[.int .i64 p,.int .i64 wt,.int .i64 0,.int .i64 0] 118)) w2→aU w2 tp tg (gV l m) (m+1)→Mp w2 mp n (gOf L bl)∧w2.cell? ⟨fp,1,none⟩=some (.map (some mp))):=Hd fun w2 ho _=>by
  refine⟨hm0.same (ho.block mp hm0.lt (fun e=>el hf1.tab.ptr hm0 e.symm) (fun e=>el hf1.tab.row hm0 e.symm)),?_⟩;have:=(ho.block fp hf1.ltf (du hf1.ptr hf1.tab.ptr BD) (du hf1.ptr hf1.tab.row BD)).trans hf1.ptr;rw[cell_of_row w2 fp 1 _ 106 (0,0) this];rfl
 clear h hf hB hb1 hf1 hfree e1 e2 e3 e4 hl hk hm0 hn hp hw hlen;go_enter Tryz.func56,Tryz.ntmps56
 go_wp2_with (first | (go_at_call 91;refine HA.mono ?_;rw[HE.1,HE.2.1,HE.2.2];rintro e w2 ⟨rfl,ht,ho⟩;obtain⟨hm2,hc1⟩:=HM.out w2 ho ht) | (at_mapUpdate;refine pt rfl _ _ _ rfl rfl hm2 hnM rfl hmi rfl ?_;intro w3 hm3 hg3))
 go_ret2
 exact⟨rfl,HF.out _ _ ht ho hm3 hg3⟩
theorem rj (p wt:Int) (w:World) (h:IsF w B fp L l m k) (hk:k<1000) (hBw:B≤w.heap.size) (hp:p= -1∨has L p=true∧dep L p≠8) (hw:1≤wt∧wt≤10000):
  Calls Tryz.prog 56 #[.pointer (some ⟨fp,0,none⟩),.agg #[.int .i64 p,.int .i64 wt,.int .i64 0,.int .i64 0]] w fun e w'=>e= .returned (.tuple #[.int .i64 (bt (aV L l.length) m),.int .i64 (aV L l.length)])∧(∃l',l'.length=l.length∧IsF w' B fp (if aV L l.length=0 then addG L m p wt else L) l' (be (aV L l.length) m) (k+1))∧Wr [118,144,3] B w w':=by
 unfold aV bt be;by_cases hl:L.length=l.length
 ·simp only[hl,if_true];refine(zo fp B L l m k p wt w h hk hl).mono ?_;rintro e w' ⟨rfl,hF,hW⟩;exact⟨rfl,⟨l,rfl,hF⟩,hW⟩
 ·simp only[hl,if_false,if_true];exact yd fp B L l m k p wt w h hk hBw hl hp hw
theorem om (w:World) (h:IsF w B fp L l m k) (hk:k<1000) (hBw:B≤w.heap.size):
  Calls Tryz.prog 25 #[.pointer (some ⟨fp,0,none⟩)] w fun e w'=>e= .returned (.tuple #[.int .i64 (bt (aV L l.length) m),.int .i64 (aV L l.length)])∧(∃l',l'.length=l.length∧IsF w' B fp (dA L l.length m) l' (be (aV L l.length) m) (k+1))∧Wr [118,144,3] B w w':=by
 have HP:=Hd (rj fp B L l m k (-1) 1 w h hk hBw (.inl rfl) A3);unfold dA;clear h hk hBw;generalize bt (aV L l.length) m=ni at *;generalize (if aV L l.length=0 then addG L m (-1) 1 else L)=L2 at *;generalize be (aV L l.length) m=mm at *;generalize aV L l.length=c at *;go_enter Tryz.func25,Tryz.ntmps25
 go_wp2_with (go_at_call 56;refine HP.mono ?_;rintro e w2 ⟨rfl,hF,hW⟩)
 go_ret2
 exact⟨rfl,hF,hW⟩
theorem BI {p:Prop} (h:p:=by unfold b6;rw[hc];rfl):p:=h
theorem Ak {p:Prop} (h:p:=by rw[HC.out,HN.out];exact⟨rfl,⟨l,rfl,(HF.below (Below.refl _ _)).later HK.out⟩,Wr.of_below (Below.refl _ _)⟩):p:=h
theorem xI (p wt:Int) (w:World) (h:IsF w B fp L l m k) (hp:I64 p) (hk:k<1000) (hh:has L p=false):
  Calls Tryz.prog 43 #[.pointer (some ⟨fp,0,none⟩),.int .i64 p,.int .i64 wt] w fun e w'=>e= .returned (.tuple #[.int .i64 (bt (aG L l.length p wt) m),.int .i64 (aG L l.length p wt)])∧(∃l',l'.length=l.length∧IsF w' B fp (b6 L l.length m p wt) l' (be (aG L l.length p wt) m) (k+1))∧Wr [118,144,3] B w w':=by
 have hc:aG L l.length p wt=4:=by unfold aG;rw[if_pos hh]
 have HC:=Hd hc;have HN:Hid (b6 L l.length m p wt=L):=Hd BI;obtain⟨tp,tg,mp,bl,hf,hB⟩:=h.fo;have h1:=hf.c1;have HL:=hf.lookN hp hh;have HH:=Hd hh;have HF:=Hd h;have HK:=Hd hk;have HR:=Hd h.rdr;have hb0:=Below.refl w.heap.size w;clear h hf hB hk hh hc;go_enter Tryz.func43,Tryz.ntmps43
 go_wp2_with fail
 go_ret2
 exact Ak
theorem wG (p wt:Int) (w:World) (h:IsF w B fp L l m k) (hp:I64 p) (hk:k<1000) (hh:has L p=true) (hw: ¬(1≤wt∧wt≤10000)):
  Calls Tryz.prog 43 #[.pointer (some ⟨fp,0,none⟩),.int .i64 p,.int .i64 wt] w fun e w'=>e= .returned (.tuple #[.int .i64 (bt (aG L l.length p wt) m),.int .i64 (aG L l.length p wt)])∧(∃l',l'.length=l.length∧IsF w' B fp (b6 L l.length m p wt) l' (be (aG L l.length p wt) m) (k+1))∧Wr [118,144,3] B w w':=by
 have hc:aG L l.length p wt=13:=by unfold aG;rw[if_neg B6,if_pos hw]
 have HC:=Hd hc;have HN:Hid (b6 L l.length m p wt=L):=Hd BI;obtain⟨tp,tg,mp,bl,hf,hB⟩:=h.fo;have h1:=hf.c1;have HL:=hf.lookY hp hh;have HH:=Hd hh;have HF:=Hd h;have HK:=Hd hk;have HR:=Hd h.rdr;have hb0:=Below.refl w.heap.size w;have HW:Hid (decide (1≤wt∧wt≤10000)=false):=Hd (decide_eq_false hw);clear hw;clear h hf hB hk hh hc;go_enter Tryz.func43,Tryz.ntmps43
 go_wp2_with (go_at_call 81;refine(cR _ _).mono ?_;rw[HW.out];rintro e wj ⟨rfl,rfl⟩)
 go_ret2
 exact Ak
theorem AD {p:Prop} (h:p:=by rw[HC.out,HN.out];exact⟨rfl,⟨l,rfl,(HF.below (hbi)).later HK.out⟩,Wr.of_below (hbi)⟩):p:=h
theorem se (p wt:Int) (w:World) (h:IsF w B fp L l m k) (hp:I64 p) (hk:k<1000) (hh:has L p=true) (hw:1≤wt∧wt≤10000) (hd:dep L p=8):
  Calls Tryz.prog 43 #[.pointer (some ⟨fp,0,none⟩),.int .i64 p,.int .i64 wt] w fun e w'=>e= .returned (.tuple #[.int .i64 (bt (aG L l.length p wt) m),.int .i64 (aG L l.length p wt)])∧(∃l',l'.length=l.length∧IsF w' B fp (b6 L l.length m p wt) l' (be (aG L l.length p wt) m) (k+1))∧Wr [118,144,3] B w w':=by
 have hc:aG L l.length p wt=7:=by unfold aG;rw[if_neg B6,if_neg (fun e=>e hw),if_pos hd]
 have HC:=Hd hc;have HN:Hid (b6 L l.length m p wt=L):=Hd BI;obtain⟨tp,tg,mp,bl,hf,hB⟩:=h.fo;have h1:=hf.c1;have HL:=hf.lookY hp hh;have HH:=Hd hh;have HF:=Hd h;have HK:=Hd hk;have HR:=Hd h.rdr;have hb0:=Below.refl w.heap.size w;have HW:Hid (decide (1≤wt∧wt≤10000)=true):=Hd (decide_eq_true hw);clear hw;have hd2:=dP hd;clear hd;clear h hf hB hk hh hc;go_enter Tryz.func43,Tryz.ntmps43
 go_wp2_with (first | (go_at_call 81;refine(cR _ _).mono ?_;rw[HW.out];rintro e wj ⟨rfl,rfl⟩) | (go_at_call 82;refine(HR.depth _ _ A4 A4).mono ?_;rintro e wi ⟨rfl,hbi⟩))
 go_ret2
 exact AD
theorem tU (p wt:Int) (w:World) (h:IsF w B fp L l m k) (hp:I64 p) (hk:k<1000) (hh:has L p=true) (hw:1≤wt∧wt≤10000) (hd: ¬dep L p=8) (hf32:ce L p=32):
  Calls Tryz.prog 43 #[.pointer (some ⟨fp,0,none⟩),.int .i64 p,.int .i64 wt] w fun e w'=>e= .returned (.tuple #[.int .i64 (bt (aG L l.length p wt) m),.int .i64 (aG L l.length p wt)])∧(∃l',l'.length=l.length∧IsF w' B fp (b6 L l.length m p wt) l' (be (aG L l.length p wt) m) (k+1))∧Wr [118,144,3] B w w':=by
 have hc:aG L l.length p wt=6:=by unfold aG;rw[if_neg B6,if_neg (fun e=>e hw),if_neg hd,if_pos (.inl hf32)]
 have HC:=Hd hc;have HN:Hid (b6 L l.length m p wt=L):=Hd BI;obtain⟨tp,tg,mp,bl,hf,hB⟩:=h.fo;have h1:=hf.c1;have HL:=hf.lookY hp hh;have HH:=Hd hh;have HF:=Hd h;have HK:=Hd hk;have HR:=Hd h.rdr;have hb0:=Below.refl w.heap.size w;have HW:Hid (decide (1≤wt∧wt≤10000)=true):=Hd (decide_eq_true hw);clear hw;have hd2:=aB hd;have hf2:=dP hf32;clear hd hf32;clear h hf hB hk hh hc;go_enter Tryz.func43,Tryz.ntmps43
 go_wp2_with (first | (go_at_call 81;refine(cR _ _).mono ?_;rw[HW.out];rintro e wj ⟨rfl,rfl⟩) | (go_at_call 82;refine(HR.depth _ _ A4 A4).mono ?_;rintro e wi ⟨rfl,hbi⟩) | (go_at_call 83;refine(HR.fan _ _ A4 HH.out A4).mono ?_;rintro e wi ⟨rfl,hbi⟩))
 go_ret2
 exact AD
theorem uN (p wt:Int) (w:World) (h:IsF w B fp L l m k) (hp:I64 p) (hk:k<1000) (hBw:B≤w.heap.size) (hh:has L p=true) (hw:1≤wt∧wt≤10000) (hd: ¬dep L p=8) (hf32: ¬ce L p=32):
  Calls Tryz.prog 43 #[.pointer (some ⟨fp,0,none⟩),.int .i64 p,.int .i64 wt] w fun e w'=>e= .returned (.tuple #[.int .i64 (bt (aG L l.length p wt) m),.int .i64 (aG L l.length p wt)])∧(∃l',l'.length=l.length∧IsF w' B fp (b6 L l.length m p wt) l' (be (aG L l.length p wt) m) (k+1))∧Wr [118,144,3] B w w':=by
 have hc:aG L l.length p wt=aV L l.length:=by unfold aG aV;rw[if_neg B6,if_neg (fun e=>e hw),if_neg hd];by_cases hl:L.length=l.length<;>simp[hf32,hl]
 have HC:=Hd hc;obtain⟨tp,tg,mp,bl,hf,hB⟩:=h.fo;have h1:=hf.c1;have HL:=hf.lookY hp hh;have HH:=Hd hh;have HR:=Hd h.rdr;have hb0:=Below.refl w.heap.size w;have HW:Hid (decide (1≤wt∧wt≤10000)=true):=Hd (decide_eq_true hw);have HP:Hid (∀W:World,Below w.heap.size w W→Calls Tryz.prog 56 #[.pointer (some ⟨fp,0,none⟩),.agg #[.int .i64 p,.int .i64 wt,.int .i64 0,.int .i64 0]] W fun e w'=>e= .returned (.tuple #[.int .i64 (bt (aV L l.length) m),.int .i64 (aV L l.length)])∧(∃l',l'.length=l.length∧IsF w' B fp (if aV L l.length=0 then addG L m p wt else L) l' (be (aV L l.length) m) (k+1))∧Wr [118,144,3] B w w'):=Hd fun W hW=>by
  refine(rj fp B L l m k p wt W (h.below hW) hk (Nat.le_trans hBw hW.size) (.inr ⟨hh,hd⟩) hw).mono ?_;rintro e w' ⟨rfl,hF,hWr⟩;exact⟨rfl,hF,(Wr.of_below hW).trans hWr⟩
 have hd2:=aB hd;have hf2:=aB hf32;unfold b6;rw[hc];clear h hf hB hk hh hc hd hf32 hw hBw HC;generalize bt (aV L l.length) m=ni at *;generalize (if aV L l.length=0 then addG L m p wt else L)=L2 at *;generalize be (aV L l.length) m=mm at *;generalize aV L l.length=c at *;go_enter Tryz.func43,Tryz.ntmps43
 go_wp2_with (first | (go_at_call 81;refine(cR _ _).mono ?_;rw[HW.out];rintro e wj ⟨rfl,rfl⟩) | (go_at_call 82;refine(HR.depth _ _ A4 A4).mono ?_;rintro e wi ⟨rfl,hbi⟩) | (go_at_call 83;refine(HR.fan _ _ A4 HH.out A4).mono ?_;rintro e wi ⟨rfl,hbi⟩) | (go_at_call 56;refine(HP.out _ A4).mono ?_;rintro e wz ⟨rfl,hF,hW⟩))
 go_ret2
 exact⟨rfl,hF,hW⟩
theorem wI (p wt:Int) (w:World) (h:IsF w B fp L l m k) (hp:I64 p) (hk:k<1000) (hBw:B≤w.heap.size):
  Calls Tryz.prog 43 #[.pointer (some ⟨fp,0,none⟩),.int .i64 p,.int .i64 wt] w fun e w'=>e= .returned (.tuple #[.int .i64 (bt (aG L l.length p wt) m),.int .i64 (aG L l.length p wt)])∧(∃l',l'.length=l.length∧IsF w' B fp (b6 L l.length m p wt) l' (be (aG L l.length p wt) m) (k+1))∧Wr [118,144,3] B w w':=by
 cases hh:has L p with
 | false=>exact xI fp B L l m k p wt w h hp hk hh
 | true=>
 by_cases hw:1≤wt∧wt≤10000
 case neg=>exact wG fp B L l m k p wt w h hp hk hh hw
 by_cases hd:dep L p=8
 ·exact se fp B L l m k p wt w h hp hk hh hw hd
 by_cases hf:ce L p=32
 ·exact tU fp B L l m k p wt w h hp hk hh hw hd hf
 ·exact uN fp B L l m k p wt w h hp hk hBw hh hw hd hf
theorem Bq {p:Prop} (h:p:=by unfold bO;rw[hc];rfl):p:=h
theorem uk (x:Int) (w:World) (h:IsF w B fp L l m k) (hx:I64 x) (hk:k<1000) (hh:has L x=false):
  Calls Tryz.prog 45 #[.pointer (some ⟨fp,0,none⟩),.int .i64 x] w fun e w'=>e= .returned (.int .i64 (b5 L x))∧(∃l',l'.length=l.length∧IsF w' B fp (bO L x) l' m (k+1))∧Wr [118,144,3] B w w':=by
 have hc:b5 L x=4:=by unfold b5;rw[if_pos hh]
 have HC:=Hd hc;have HN:Hid (bO L x=L):=Hd Bq;obtain⟨tp,tg,mp,bl,hf,hB⟩:=h.fo;have h1:=hf.c1;have HL:=hf.lookN hx hh;have HH:=Hd hh;have HF:=Hd h;have HK:=Hd hk;have HR:=Hd h.rdr;have hb0:=Below.refl w.heap.size w;clear h hf hB hk hh hc;go_enter Tryz.func45,Tryz.ntmps45
 go_wp2_with fail
 go_ret;exact Ak
theorem qZ (x:Int) (w:World) (h:IsF w B fp L l m k) (hx:I64 x) (hk:k<1000) (hh:has L x=true) (hp:(gr L x).pa= -1):
  Calls Tryz.prog 45 #[.pointer (some ⟨fp,0,none⟩),.int .i64 x] w fun e w'=>e= .returned (.int .i64 (b5 L x))∧(∃l',l'.length=l.length∧IsF w' B fp (bO L x) l' m (k+1))∧Wr [118,144,3] B w w':=by
 have hc:b5 L x=15:=by unfold b5;rw[if_neg B6,if_pos A3]
 have HC:=Hd hc;have HN:Hid (bO L x=L):=Hd Bq;obtain⟨tp,tg,mp,bl,hf,hB⟩:=h.fo;have h1:=hf.c1;have HL:=hf.lookY hx hh;have HH:=Hd hh;have HF:=Hd h;have HK:=Hd hk;have HR:=Hd h.rdr;have hb0:=Below.refl w.heap.size w;have q0:=(hf.grp x hh).c0;rw[hp] at q0;clear hp;clear h hf hB hk hh hc;go_enter Tryz.func45,Tryz.ntmps45
 go_wp2_with fail
 go_ret;exact Ak
theorem qH (x:Int) (w:World) (h:IsF w B fp L l m k) (hx:I64 x) (hk:k<1000) (hh:has L x=true) (hp:0≤(gr L x).pa) (hfa:0<ce L x):
  Calls Tryz.prog 45 #[.pointer (some ⟨fp,0,none⟩),.int .i64 x] w fun e w'=>e= .returned (.int .i64 (b5 L x))∧(∃l',l'.length=l.length∧IsF w' B fp (bO L x) l' m (k+1))∧Wr [118,144,3] B w w':=by
 have hc:b5 L x=11:=by unfold b5;rw[if_neg B6,if_neg A3,if_pos hfa]
 have HC:=Hd hc;have HN:Hid (bO L x=L):=Hd Bq;obtain⟨tp,tg,mp,bl,hf,hB⟩:=h.fo;have h1:=hf.c1;have HL:=hf.lookY hx hh;have HH:=Hd hh;have HF:=Hd h;have HK:=Hd hk;have HR:=Hd h.rdr;have hb0:=Below.refl w.heap.size w;have q0:=(hf.grp x hh).c0;have hpa2:=aB (show ¬(gr L x).pa= -1 by omega);clear hp;generalize (gr L x).pa=pa at *;clear h hf hB hk hh;go_enter Tryz.func45,Tryz.ntmps45
 go_wp2_with (go_at_call 83;refine(HR.fan _ _ A4 HH.out A4).mono ?_;rintro e wi ⟨rfl,hbi⟩)
 go_ret;exact AD
theorem tA (x:Int) (w:World) (h:IsF w B fp L l m k) (hx:I64 x) (hk:k<1000) (hh:has L x=true) (hp:0≤(gr L x).pa) (hfa: ¬ 0<ce L x):
  Calls Tryz.prog 45 #[.pointer (some ⟨fp,0,none⟩),.int .i64 x] w fun e w'=>e= .returned (.int .i64 (b5 L x))∧(∃l',l'.length=l.length∧IsF w' B fp (bO L x) l' m (k+1))∧Wr [118,144,3] B w w':=by
 have hc:b5 L x=0:=by unfold b5;rw[if_neg B6,if_neg A3,if_neg hfa]
 have HC:=Hd hc;have HN:Hid (bO L x=gW L x):=Hd Bq;obtain⟨tp,tg,mp,bl,hf,hB⟩:=h.fo;have h1:=hf.c1;have HL:=hf.lookY hx hh;have HH:=Hd hh;have HR:=Hd h.rdr;have HG:=Hd hf;have hb0:=Below.refl w.heap.size w;have hE:jy l x=0:=by unfold jy;rw[lJ h.ids,hh];rfl
 have HE:=Hd hE;have HM:Hid (∀W:World,Below w.heap.size w W→(∃n:Nat,(n:Int)≤m∧Mp W mp n (gOf L bl))∧W.cell? ⟨fp,1,none⟩=some (.map (some mp))):=Hd fun W hW=>⟨(hf.below hW).mpp,(hf.below hW).c1⟩
 have HD:Hid (∀(W w2:World) (n:Nat),Below w.heap.size w W→(n:Int)≤m→Mp W mp n (gOf L bl)→Mp w2 mp n (fun y=>if y=x then none else gOf L bl y)→W.grownBy w2 (some mp)→w2.cell? ⟨fp,0,none⟩=some (.pointer (some ⟨tp,0,none⟩))∧
   Calls Tryz.prog 85 #[.pointer (some ⟨tp,0,none⟩),.int .i64 x] w2 fun e w'=>e= .returned (.int .i64 0)∧(∃l',l'.length=l.length∧IsF w' B fp (gW L x) l' m (k+1))∧Wr [118,144,3] B w w'):=Hd fun W w2 n hW hn hm hm2 hg=>by
  have hfW:=hf.below hW;have hf2:=hfW.less h.ok hh hn hm hm2 hg;refine⟨hf2.c0,(uW tp tg l m x w2 hf2.tab h.tok.n64).mono ?_⟩;rintro e w' ⟨rfl,ht,ho⟩;rw[hE];refine⟨rfl,⟨fU l x,by unfold fU;split<;>simp,⟨tp,tg,mp,bl,hf2.tabs ho ht,hB.1,hB.2.1,hB.2.2.1,fun y hy=>?_⟩,h.tok.drop x,tQ h.ok h.tok h.ids hh,h.ok.del hk hh hfa⟩,((Wr.of_below hW).trans (vG hg hm hB.2.2.1)).trans (iV ho hf2.tab hB.1 hB.2.1)⟩;rw[dU h.ok hh,Bool.and_eq_true] at hy;exact hB.2.2.2 y hy.1
 have q0:=(hf.grp x hh).c0;have hpa2:=aB (show ¬(gr L x).pa= -1 by omega);have hfz:ce L x≤0:=A3
 clear h hf hB hk hh hc hE hp hfa;generalize (gr L x).pa=pa at *;go_enter Tryz.func45,Tryz.ntmps45
 go_wp2_with (first | (go_at_call 83;refine(HR.fan _ _ A4 HH.out A4).mono ?_;rintro e wi ⟨rfl,hbi⟩;obtain⟨⟨n,hn,hm⟩,hc1⟩:=HM.out wi hbi) | (at_delete;refine nS rfl _ _ rfl rfl hm rfl hx ?_;intro w2 hm2 hg2;obtain⟨hc0,hD⟩:=HD.out wi w2 n hbi hn hm hm2 hg2;have HD2:=Hd hD;clear hD) | (go_at_call 85;refine HD2.mono ?_;rintro e w3 ⟨rfl,hF,hW⟩))
 go_ret;rw[HC.out,HN.out];exact⟨rfl,hF,hW⟩
theorem sv (x:Int) (w:World) (h:IsF w B fp L l m k) (hx:I64 x) (hk:k<1000):
  Calls Tryz.prog 45 #[.pointer (some ⟨fp,0,none⟩),.int .i64 x] w fun e w'=>e= .returned (.int .i64 (b5 L x))∧(∃l',l'.length=l.length∧IsF w' B fp (bO L x) l' m (k+1))∧Wr [118,144,3] B w w':=by
 cases hh:has L x with
 | false=>exact uk fp B L l m k x w h hx hk hh
 | true=>
 rcases h.ok.pa hh with hp | hp
 ·exact qZ fp B L l m k x w h hx hk hh hp
 have hp2:0≤(gr L x).pa:=by have:=h.ok.id hp;omega
 by_cases hf:0<ce L x
 ·exact qH fp B L l m k x w h hx hk hh hp2 hf
 ·exact tA fp B L l m k x w h hx hk hh hp2 hf
theorem oH (n:Nat) (w:World) (h1:1≤n) (h2:n≤64):
  Calls Tryz.prog 22 #[.int .i64 (n:Int)] w fun e w'=>(∃fp l,e= .returned (.tuple #[.pointer (some ⟨fp,0,none⟩),.int .i64 0])∧l.length=n∧IsF w' w.heap.size fp [] l 0 0)∧Below w.heap.size w w':=by
 have HN:=Hd (xP n w h1 h2);have h4: ¬ 64<(n:Int):=A3
 have HT:=Hd (cK.new h1 h2);have hmm:= @run_makeMap Tryz.prog;clear h1 h2;go_enter Tryz.func22,Tryz.ntmps22
 go_wp2_with (go_at_call 41;refine HN.mono ?_;rintro e w1 ⟨⟨tp,tg,rfl,ht,hp,hg⟩,hb⟩)
 go_ret2
 have hs1:=hb.size;have hb1:Below w1.heap.size w1 (w1.alloc (.map #[] 0)):=(Below.refl _ w1).alloc lr _;have hb2:Below w1.heap.size w1 ((w1.alloc (.map #[] 0)).alloc (.cells #[.pointer (some ⟨tp,0,none⟩),.map (some w1.heap.size)] 106)):=hb1.alloc B4 _;have hm:=Mp.made w1;have hm2:=hm.same (heap_alloc_old (w1.alloc (.map #[] 0)) (.cells #[.pointer (some ⟨tp,0,none⟩),.map (some w1.heap.size)] 106) hm.lt);have hF:=heap_alloc_new (w1.alloc (.map #[] 0)) (.cells #[.pointer (some ⟨tp,0,none⟩),.map (some w1.heap.size)] 106);refine⟨⟨(w1.alloc (.map #[] 0)).heap.size,List.replicate n 0,B4,B4,⟨⟨tp,tg,w1.heap.size,fun _=>0,⟨hF,ht.belowS hb2,⟨0,A3,?_⟩,fun x hx=>?_,fun x y hx=>?_⟩,hp,hg,hs1,fun x hx=>?_⟩,HT.out,?_,?_⟩⟩,Below.stay hb hb2⟩
 ·have e:gOf [] (fun _=>0)=fun _=>none:=by funext x;simp[gOf,has,pos]
  rw[e];exact hm2
 ·simp[has,pos] at hx
 ·simp[has,pos] at hx
 ·simp[has,pos] at hx
 ·refine List.eq_nil_iff_forall_not_mem.2 fun x hx=>?_
  have:=gz.1 hx;rw[List.mem_replicate] at this;exact this.2 this.1.2
 ·refine⟨by simp[bK],fun g hg=>by simp at hg,fun g hg=>by simp at hg,A3,A3,A3,fun g hg=>by simp at hg,fun g hg=>by simp at hg,fun x=>?_,B4⟩;rw[er (by simp[has,pos])];simp
end
section
variable (fp B:Nat) (L:List Gr) (l:List Int) (m k:Int)
theorem wE (x:Int) (w:World) (h:IsF w B fp L l m k) (hx:I64 x) (hh:has L x=false):
  Calls Tryz.prog 97 #[.pointer (some ⟨fp,0,none⟩),.int .i64 x] w fun e w'=>e= .returned (.tuple #[.agg (bh 0 0 0 0 0 0 0),.int .i64 4])∧Below w.heap.size w w':=by
 obtain⟨tp,tg,mp,bl,hf,hB⟩:=h.fo;have hb1:Below w.heap.size w (w.alloc (.cells #[.int .i64 0,.int .i64 0,.int .i64 0,.int .i64 0,.int .i64 0,.int .i64 0,.int .i64 0] 158)):=(Below.refl _ w).alloc lr _;have hf1:=hf.below hb1;have h1:=hf1.c1;have HL:=hf1.lookN hx hh;have hZ:Blk (w.alloc (.cells #[.int .i64 0,.int .i64 0,.int .i64 0,.int .i64 0,.int .i64 0,.int .i64 0,.int .i64 0] 158)) w.heap.size 158 (bh 0 0 0 0 0 0 0):=Blk.new w 158 _;clear h hf hB hf1 hh;go_enter Tryz.func97,Tryz.ntmps97
 go_wp2_with (first | (refine bf rfl rfl ?_;generalize w.alloc (.cells #[.int .i64 0,.int .i64 0,.int .i64 0,.int .i64 0,.int .i64 0,.int .i64 0,.int .i64 0] 158)=w1 at *) | (refine bE rfl _ _ rfl w.heap.size 0 0 0 0 0 0 0 rfl rfl hZ rfl ?_;intro w2 hZ2 t2))
 refine bodyPost_ret (jl rfl _ w2 w.heap.size 0 0 0 0 0 0 0 _ rfl rfl hZ2) rfl ?_;exact⟨rfl,hb1.trans (t2.below lr)⟩
theorem Bu {p:Prop} (h:p:=by obtain⟨e0,e1,e2,e3⟩:=HX.out X hX;go_simp):p:=h
theorem lL (x:Int) (w:World) (h:IsF w B fp L l m k) (hx:I64 x) (hh:has L x=true):
  Calls Tryz.prog 97 #[.pointer (some ⟨fp,0,none⟩),.int .i64 x] w fun e w'=>e= .returned (.tuple #[.agg (bh x (gr L x).pa (gr L x).wt (dep L x) (aZ L x) (gr L x).me (gr L x).aw),.int .i64 0])∧Below w.heap.size w w':=by
 obtain⟨tp,tg,mp,bl,hf,hB⟩:=h.fo;have hb1:Below w.heap.size w (w.alloc (.cells #[.int .i64 0,.int .i64 0,.int .i64 0,.int .i64 0,.int .i64 0,.int .i64 0,.int .i64 0] 158)):=(Below.refl _ w).alloc lr _;have hf1:=hf.below hb1;have h1:=hf1.c1;have HL:=hf1.lookY hx hh;have hZ:Blk (w.alloc (.cells #[.int .i64 0,.int .i64 0,.int .i64 0,.int .i64 0,.int .i64 0,.int .i64 0,.int .i64 0] 158)) w.heap.size 158 (bh 0 0 0 0 0 0 0):=Blk.new w 158 _;have HX:Hid (∀X,Below w.heap.size w X→X.cell? ⟨bl x,0,none⟩=some (.int .i64 (gr L x).pa)∧X.cell? ⟨bl x,1,none⟩=some (.int .i64 (gr L x).wt)∧X.cell? ⟨bl x,2,none⟩=some (.int .i64 (gr L x).me)∧X.cell? ⟨bl x,3,none⟩=some (.int .i64 (gr L x).aw)):=Hd fun X hX=>
  ⟨((hf.below hX).grp x hh).c0,((hf.below hX).grp x hh).c1,((hf.below hX).grp x hh).c2,((hf.below hX).grp x hh).c3⟩
 have HD:Hid (∀W,Below w.heap.size w W→Calls Tryz.prog 82 #[.pointer (some ⟨fp,0,none⟩),.int .i64 x] W fun e w'=>e= .returned (.int .i64 (dep L x))∧Below W.heap.size W w'):=Hd fun W hW=>i5 fp B L l m k x W (h.below hW) hx
 have HT:Hid (∀W,Below w.heap.size w W→Calls Tryz.prog 86 #[.pointer (some ⟨fp,0,none⟩),.int .i64 x] W fun e w'=>e= .returned (.int .i64 (aZ L x))∧Below W.heap.size W w'):=Hd fun W hW=>nW fp B L l m k x W (h.below hW) hx hh
 clear h hf hB hf1 hh;generalize (gr L x).pa=pa at *;generalize (gr L x).wt=wt at *;generalize (gr L x).me=me at *;generalize (gr L x).aw=aw at *;generalize dep L x=d at *;generalize aZ L x=r at *;go_enter Tryz.func97,Tryz.ntmps97
 go_wp2_with (refine bf rfl rfl ?_;generalize w.alloc (.cells #[.int .i64 0,.int .i64 0,.int .i64 0,.int .i64 0,.int .i64 0,.int .i64 0,.int .i64 0] 158)=w1 at *)
 have hq:Below w.heap.size w w1.drew:=Below.drewS hb1;have hZ2:=hZ.drew;refine Rd.rg (fun X=>Below w.heap.size w X) 26 [0,1,2,3,4,5,6,7,8,9,10,12,13,15,16,17,18,19,20,21,22,23,25] [0,1,2,3,4,5,6,7,8,9,10,12,13,15,16,17,18,19,20,21,22,11,14,23,24,25] hq ?_;clear HL h1;refine Rd.sf (.int .i64 x) ?_;refine Rd.sf (.pointer (some ⟨bl x,0,none⟩)) ?_;refine Rd.sf (.pointer (some ⟨bl x,0,none⟩)) ?_;refine Rd.sf (.pointer (some ⟨bl x,0,none⟩)) ?_;refine Rd.sg (.int .i64 pa) ?_ (y:=fun X hX=>Bu);refine Rd.sf (.pointer (some ⟨bl x,0,none⟩)) ?_;refine Rd.sf (.pointer (some ⟨bl x,0,none⟩)) ?_;refine Rd.sf (.pointer (some ⟨bl x,1,none⟩)) ?_;refine Rd.sg (.int .i64 wt) ?_ (y:=fun X hX=>Bu);refine Rd.sf (.pointer (some ⟨fp,0,none⟩)) ?_;refine Rd.sf (.int .i64 x) ?_;refine Rd.sf (.pointer (some ⟨fp,0,none⟩)) ?_;refine Rd.sf (.int .i64 x) ?_;refine Rd.sf (.pointer (some ⟨bl x,0,none⟩)) ?_;refine Rd.sf (.pointer (some ⟨bl x,0,none⟩)) ?_;refine Rd.sf (.pointer (some ⟨bl x,2,none⟩)) ?_;refine Rd.sg (.int .i64 me) ?_ (y:=fun X hX=>Bu);refine Rd.sf (.pointer (some ⟨bl x,0,none⟩)) ?_;refine Rd.sf (.pointer (some ⟨bl x,0,none⟩)) ?_;refine Rd.sf (.pointer (some ⟨bl x,3,none⟩)) ?_;refine Rd.sg (.int .i64 aw) ?_ (y:=fun X hX=>Bu);refine Rd.sm fun K hK=>?_
 go_simp;refine(HD.out _ hq).mono ?_;rintro e w3 ⟨rfl,hb3⟩;have hq3:=Below.stay hq hb3;have hZ3:=hZ2.below hb3;refine hK _ _ (fun _=>hq3) ?_;clear hK K;refine Rd.sm fun K hK=>?_
 go_simp;refine(HT.out _ hq3).mono ?_;rintro e w4 ⟨rfl,hb4⟩;have hq4:=Below.stay hq3 hb4;have hZ4:=hZ3.below hb4;refine hK _ _ (fun _=>hq4) ?_;clear hK K;refine Rd.sg (.agg (bh x pa wt d r me aw)) ?_ (y:=fun X _=>Ct);refine Rd.sm fun K hK=>?_
 refine jT _ _ rfl w.heap.size x pa wt d r me aw rfl rfl hZ4 rfl ?_;intro w5 hZ5 t5;have hq5:Below w.heap.size w w5:=hq4.trans (t5.below lr);refine hK _ _ (fun _=>hq5) ?_;clear hK K;refine Rd.sf (.int .i64 0) ?_;refine Rd.seq_end ?_
 go_wp2_with fail
 refine bodyPost_ret (jl rfl _ w5 w.heap.size x pa wt d r me aw _ rfl rfl hZ5) rfl ?_;exact⟨rfl,hq5⟩
end
def dK (L:List Gr):List Value:=L.flatMap fun g=>(au g).toList
theorem iz: ∀L:List Gr,(dK L).length=L.length*5
 | []=>rfl
 | g::r=>by
  have:=iz r;unfold dK at this ⊢;rw[List.flatMap_cons,List.length_append,this,List.length_cons];have:(au g).toList.length=5:=rfl;omega
theorem d3 (g:Gr) (r:List Gr):dK (g::r)=(au g).toList++dK r:=rfl
theorem jX (a b:List Gr):dK (a++b)=dK a++dK b:=by simp[dK]
theorem wo: ∀(L:List Gr),∀u∈dK L,u.oneCell'=true:=by
 intro L u hu;unfold dK at hu;obtain⟨g,_,hu⟩:=List.mem_flatMap.1 hu;simp[au] at hu;rcases hu with rfl | rfl | rfl | rfl | rfl<;>rfl
theorem rt: ∀ {L:List Gr} {j i:Nat},j<L.length→i<5→(dK L)[j*5+i]? =(au (L.getD j g0))[i]?
 | [],_,_,h,_=>by simp at h
 | g::r,0,i,_,hi=>by
  rw[d3,List.getElem?_append_left (by show 0*5+i<5;omega)];simp
 | g::r,j+1,i,h,hi=>by
  rw[d3,List.getElem?_append_right (by show 5≤(j+1)*5+i;omega)];have:(j+1)*5+i - (au g).toList.length=j*5+i:=by show (j+1)*5+i - 5=j*5+i;omega
  rw[this,rt (L:=r) BM hi];simp
def Cl (w:World) (b off:Nat) (L:List Gr):Prop:=b<w.heap.size∧∀j v,(dK L)[j]? =some v→w.cell? ⟨b,off+j,none⟩=some v
section
variable {w w':World} {b off:Nat} {L:List Gr}
theorem Cl.below (h:Cl w b off L) (hb:Below w.heap.size w w'):Cl w' b off L:=⟨Nat.lt_of_lt_of_le h.1 hb.size,fun j v hj=>(hb.cell (p:=⟨b,off+j,none⟩) h.1).trans (h.2 j v hj)⟩
theorem Cl.at (h:Cl w b 0 L) {j i:Nat} (hj:j<L.length) (hi:i<5):w.cell? ⟨b,j*5+i,none⟩=(au (L.getD j g0))[i]? :=by
 have e:=rt hj hi;have:i<(au (L.getD j g0)).size:=hi;rw[Array.getElem?_eq_getElem this] at e ⊢;have:=h.2 _ _ e
 rwa [Nat.zero_add] at this
theorem Cl.id (h:Cl w b 0 L) {j:Nat} (hj:j<L.length):w.cell? ⟨b,j*5,none⟩=some (.int .i64 (L.getD j g0).id):=h.at hj (i:=0) A3
theorem Cl.pa (h:Cl w b 0 L) {j:Nat} (hj:j<L.length):w.cell? ⟨b,j*5+1,none⟩=some (.int .i64 (L.getD j g0).pa):=h.at hj (i:=1) A3
theorem Cl.wt (h:Cl w b 0 L) {j:Nat} (hj:j<L.length):w.cell? ⟨b,j*5+2,none⟩=some (.int .i64 (L.getD j g0).wt):=h.at hj (i:=2) A3
theorem Cl.me (h:Cl w b 0 L) {j:Nat} (hj:j<L.length):w.cell? ⟨b,j*5+3,none⟩=some (.int .i64 (L.getD j g0).me):=h.at hj (i:=3) A3
theorem Cl.aw (h:Cl w b 0 L) {j:Nat} (hj:j<L.length):w.cell? ⟨b,j*5+4,none⟩=some (.int .i64 (L.getD j g0).aw):=h.at hj (i:=4) A3
theorem Cl.range (h:Cl w b 0 L) {j:Nat} (hj:j<L.length):w.rangeAt b (j*5) (au (L.getD j g0)).toList:=by
 intro i v hi;have h5:i<5:=(List.getElem?_eq_some_iff.1 hi).1;rw[h.at hj h5];simpa using hi
end
def aA (w:World) (v:Value) (L:List Gr):Prop:=w.ownsRow 0 56 5 v L.length (dK L)
section
variable {w w':World} {v:Value} {L:List Gr}
theorem aA.sl (h:aA w v L): ∃a c,v= .slice a L.length c:=by
 rcases h.2 with ⟨rfl,h1⟩ | ⟨g,cap,cur,rfl,_⟩
 ·exact⟨none,0,by rw[h1]⟩
 ·exact⟨_,cap,rfl⟩
theorem aA.same (h:aA w v L) (hs: ∀(b:Nat) (cur:Array Value),w.heap[b]? =some (Obj.cells cur 56 (0,0))→w'.heap[b]? =w.heap[b]?):aA w' v L:=by
 refine⟨h.1,?_⟩;rcases h.2 with ⟨rfl,h1⟩ | ⟨g,cap,cur,rfl,hbg,hg,h3⟩
 ·exact .inl ⟨rfl,h1⟩
 ·exact .inr ⟨g,cap,cur,rfl,hbg,by rw[hs g cur hg];exact hg,h3⟩
theorem aA.below (h:aA w v L) (hb:Below w.heap.size w w'):aA w' v L:=h.same fun b _ hg=>hb.block b (Array.getElem?_eq_some_iff.1 hg).1
theorem aA.alloc (h:aA w v L) (o:Obj):aA (w.alloc o) v L:=h.below ((Below.refl _ w).alloc lr o)
theorem aA.wr {ts:List Nat} {B:Nat} (h:aA w v L) (hw:Wr ts B w w') (ht:56∉ts):aA w' v L:=h.same fun b cur hg=>hw.typ b cur 56 (0,0) hg ht
theorem aA.turn {d t:Nat} {cs:Array Value} (h:aA w v L) (ht:aX d w w') (hd:Blk w d t cs) (hne:t≠56):aA w' v L:=h.same fun b cur hb=>ht.block b (by
 rintro rfl;unfold Blk at hd;rw[hb] at hd;injection hd with h1;injection h1 with _ h2 _;exact hne h2.symm)
theorem aA.nil (w:World):aA w (.slice none 0 0) []:=World.ownsRow_nil _ _ _ _
theorem aA.form {a:Option Addr} {n c:Nat} (h:aA w (.slice a n c) L):n=L.length∧L.length≤c∧((a=none∧c=0∧L=[])∨∃b,a=some ⟨b,0,none⟩∧Cl w b 0 L∧∃cur,w.heap[b]? =some (.cells cur 56 (0,0))∧cur.size=c*5):=by
 rcases h.2 with ⟨e,h1⟩ | ⟨g,cap,cur,e,_,hg,h3,h4,h5,htake⟩
 ·cases e;exact⟨h1.symm,A3,.inl ⟨rfl,rfl,List.length_eq_zero_iff.1 h1⟩⟩
 ·cases e;refine⟨rfl,h3,.inr ⟨g,rfl,⟨(Array.getElem?_eq_some_iff.1 hg).1,fun j v hj=>?_⟩,cur,hg,h5⟩⟩;rw[cell_of_row w g _ _ 56 (0,0) hg,Nat.zero_add,←hj,←htake,List.getElem?_take_of_lt (by have:=(List.getElem?_eq_some_iff.1 hj).1;rw[iz] at this;exact this)];simp
theorem aA.at {a:Option Addr} {n c:Nat} (h:aA w (.slice a n c) L) {j:Nat} (hj:j<L.length): ∃b,a=some ⟨b,0,none⟩∧Cl w b 0 L:=by
 rcases h.form.2.2 with ⟨_,_,rfl⟩ | ⟨b,e,hc,_⟩
 ·simp at hj
 ·exact⟨b,e,hc⟩
end
def bm (w:World) (v:Value) (r m:Int) (L:List Gr):Prop:=∃a c,v= .agg (ae r m (.slice a L.length c))∧aA w (.slice a L.length c) L
section
variable {w w':World} {v:Value} {r m:Int} {L:List Gr}
theorem bm.below (h:bm w v r m L) (hb:Below w.heap.size w w'):bm w' v r m L:=by
 obtain⟨a,c,e,h⟩:=h;exact⟨a,c,e,h.below hb⟩
theorem bm.wr {ts:List Nat} {B:Nat} (h:bm w v r m L) (hw:Wr ts B w w') (ht:56∉ts):bm w' v r m L:=by
 obtain⟨a,c,e,h⟩:=h;exact⟨a,c,e,h.wr hw ht⟩
end
def atG (L:List Gr) (x:Int):Int:=if has L x=true then (pos L x:Int) else -1
theorem aF {L:List Gr} {x:Int} (h:has L x=true):atG L x=(pos L x:Int):=if_pos h
theorem fq {L:List Gr} {x:Int} (h:has L x=false):atG L x= -1:=if_neg (by rw[h];decide)
theorem gO (r m:Int) (a:Option Addr) (c:Nat) (L:List Gr) (x:Int) (w:World) (h:aA w (.slice a L.length c) L) (hl:L.length≤64):
  Calls Tryz.prog 30 #[.agg (ae r m (.slice a L.length c)),.int .i64 x] w fun e w'=>e= .returned (.int .i64 (atG L x))∧Below w.heap.size w w':=by
 have hb:Below w.heap.size w (w.alloc (.cells (ae r m (.slice a L.length c)) 29)):=(Below.refl _ w).alloc lr _;have HR:=Hd (h.alloc (.cells (ae r m (.slice a L.length c)) 29));have hB:=Blk.new w 29 (ae r m (.slice a L.length c));have h2:=cF2 hB;have HY:Hid (∀k,k<L.length→(L.getD k g0).id=x→(∀j,j<k→¬(L.getD j g0).id=x)→atG L x=(k:Int)):=Hd fun k hk e hj=>by
  have:=m5 hk e hj;have:has L x=true:=by unfold has;rw[decide_eq_true_iff];omega
  rw[aF this];omega
 have HN:Hid ((∀j,j<L.length→¬(L.getD j g0).id=x)→atG L x= -1):=Hd fun hj=>by
  have:=vx hj;have:has L x=false:=by unfold has;rw[decide_eq_false_iff_not];omega
  exact fq this
 clear h hB;unfold ae at h2 hb HR ⊢;go_enter Tryz.func30,Tryz.ntmps30
 go_wp2_with fail
 generalize w.alloc (.cells #[.int .i64 r,.int .i64 m,.slice a L.length c] 29)=w1 at *
 go_loop [9] (fun i=>∃k:Nat,k≤L.length∧i= .int .i64 k∧Hid (∀j,j<k→¬(L.getD j g0).id=x)) (fun i=>L.length - (intOf i).toNat)
 case atStart=>exact⟨0,A3,rfl,Hd (fun j hj=>absurd hj (Nat.not_lt_zero _))⟩
 case round=>
  obtain⟨k,hk,rfl,HB⟩:=hrel;by_cases hlt:k<L.length
  ·obtain⟨b,rfl,hc⟩:=HR.at hlt;have h0:=hc.id hlt;clear hc;generalize hy:(L.getD k g0).id=y at *;have HYy:=Hd hy;clear hy;by_cases e:y=x
   ·subst e
    go_wp2_with fail
    go_ret;exact⟨by rw[HY.out k hlt HYy.out HB.out];rfl,hb⟩
   ·have h5:=aB e
    go_wp2_with fail
    refine⟨⟨k+1,A3,BH,Hd (fun j hj=>?_)⟩,Cd⟩;by_cases e2:j=k
    ·subst e2;rw[HYy.out];exact e
    ·exact HB.out j A3
  ·obtain rfl:k=L.length:=A3
   go_wp2_with fail
   go_ret;exact⟨by rw[HN.out HB.out];rfl,hb⟩
theorem aq {o:Oper} {a:Act} {X:World} {x:Operand} {b:Nat} {r m:Int} {v:Value} (ho:o.op= .load 29 x) (hx:a.eval x= .pointer (some ⟨b,0,none⟩)) (hw:Blk X b 29 (ae r m v)):(execOp a.eval o).run Tryz.prog X= .ok (.value (.agg #[.int .i64 r,.int .i64 m,v])) X:=by
 unfold execOp;simp only[ho,hx,Instr.loadAt,Instr.sureAddr,Sem.run_bind,Sem.run_pure,Result.andThen_ok,run_loadVar_row X b 29 29 _ (0,0) _ hw Tryz.underlying29 rfl Tryz.info29];rfl
structure Rdd (w1:World) (b0 b c:Nat) (r m:Int) (L:List Gr):Prop where
 box: ∀X,Below w1.heap.size w1 X→Blk X b0 29 (ae r m (.slice (some ⟨b,0,none⟩) L.length c))
 cl: ∀X,Below w1.heap.size w1 X→Cl X b 0 L
 at': ∀(y:Int) X,Below w1.heap.size w1 X→Calls Tryz.prog 30 #[.agg #[.int .i64 r,.int .i64 m,.slice (some ⟨b,0,none⟩) L.length c],.int .i64 y] X fun e w'=>e= .returned (.int .i64 (atG L y))∧Below w1.heap.size w1 w'
theorem Rdd.of {w:World} {r m:Int} {a:Option Addr} {c:Nat} {L:List Gr} (h:aA w (.slice a L.length c) L) (hl:L.length≤64) (hne:0<L.length): ∃b,a=some ⟨b,0,none⟩∧Rdd (w.alloc (.cells #[.int .i64 r,.int .i64 m,.slice (some ⟨b,0,none⟩) L.length c] 29)) w.heap.size b c r m L:=by
 obtain⟨b,rfl,hc⟩:=h.at hne;have hB:=Blk.new w 29 (ae r m (.slice (some ⟨b,0,none⟩) L.length c));have h1:=h.alloc (.cells #[.int .i64 r,.int .i64 m,.slice (some ⟨b,0,none⟩) L.length c] 29);have hb:Below w.heap.size w (w.alloc (.cells #[.int .i64 r,.int .i64 m,.slice (some ⟨b,0,none⟩) L.length c] 29)):=(Below.refl _ w).alloc lr _;refine⟨b,rfl,fun X hX=>hB.below hX,fun X hX=>(hc.below hb).below hX,fun y X hX=>?_⟩;refine(gO r m _ c L y X (h1.below hX) hl).mono ?_;rintro e w' ⟨rfl,hb'⟩;exact⟨rfl,Below.stay hX hb'⟩
theorem eF {L:List Gr} {x:Int} (h:has L x=true):0<L.length:=by have:=aC h;omega
section
variable (r m:Int) (a:Option Addr) (c:Nat) (L:List Gr)
theorem BG {p:Prop} (h:p:=by have e2:=HV.out X hX;go_simp):p:=h
theorem Bm {p:Prop} (h:p:=by have e2:=cF2 (HR.box X hX);go_simp):p:=h
theorem A7 {p:Prop} (h:p:=by first | (go_simp;done) | (go_simp;intro hx;omega)):p:=h
theorem kG (x:Int) (m0 k:Int) (w:World) (h:aA w (.slice a L.length c) L) (ok:Ok L m0 k) (hh:has L x=true):
  Calls Tryz.prog 31 #[.agg (ae r m (.slice a L.length c)),.int .i64 x] w fun e w'=>e= .returned (.int .i64 (dep L x))∧Below w.heap.size w w':=by
 have hne:=eF hh;have n64:=ok.n64;obtain⟨b,rfl,hR⟩:=Rdd.of (r:=r) (m:=m) h ok.n64 hne;have hb1:Below w.heap.size w (w.alloc (.cells #[.int .i64 r,.int .i64 m,.slice (some ⟨b,0,none⟩) L.length c] 29)):=(Below.refl _ w).alloc lr _;have OK:=Hd ok;have HR:=Hd hR;clear h ok hR hne;unfold ae;go_enter Tryz.func31,Tryz.ntmps31
 go_wp2_with fail
 generalize w.alloc (.cells #[.int .i64 r,.int .i64 m,.slice (some ⟨b,0,none⟩) L.length c] 29)=w1 at *
 go_loopw [1,5] (fun i v wr=>∃y n:Int,i= .int .i64 y∧v= .int .i64 n∧Hid (y= -1∨has L y=true)∧Hid (n+dep L y=dep L x)∧Below w1.heap.size w1 wr∧0≤n) (fun i _ _=>(pth L (intOf i)).length)
 case atStart=>exact⟨x,0,rfl,rfl,Hd (.inr hh),Hd A3,Below.refl _ _,Int.le_refl _⟩
 case round=>
  clear hh;obtain⟨y,n,rfl,rfl,HY,HN,hb,hn⟩:=hrel;have hd:=OK.dep8 x;have hd2:=OK.dep8 y;have hn8:n≤8:=by have:=HN.out;omega
  clear hd hd2;cases hh:has L y with
  | false=>
   obtain rfl:y= -1:=by
    rcases HY.out with e | e
    ·exact e
    ·rw[hh] at e;cases e
   have HE:Hid (n=dep L x):=Hd (by have:=HN.out;unfold dep at this ⊢;rw[er hh] at this;simp at this;exact this);clear hh
   go_wp2_with fail
   go_ret;rw[←HE.out];exact⟨rfl,hb1.tr hb⟩
  | true=>
   have hy:=OK.id hh;have hj:=aC hh;have HJ:Hid (atG L y=(pos L y:Int)):=Hd (aF hh);have HV:Hid (∀X,Below w1.heap.size w1 X→X.cell? ⟨b,pos L y*5+1,none⟩=some (.int .i64 (gr L y).pa)):=Hd fun X hX=>(HR.cl X hX).pa hj
   have HP:=Hd (OK.pa hh);have HD:Hid (n+1+dep L (gr L y).pa=dep L x):=Hd (by have:=HN.out;have:=OK.dep hh;omega);have HM:Hid ((pth L (gr L y).pa).length<(pth L y).length):=Hd (by rw[OK.yes hh,List.length_cons];omega);clear hh;generalize (gr L y).pa=pa at *;generalize pos L y=j at *;have hy0:0≤y:=A3
   clear hy
   go_wp2_with fail
   have hq:Below w1.heap.size w1 wr.drew:=Below.drewS hb;refine Rd.rg (fun X=>Below w1.heap.size w1 X) 9 [0,1,2,3,5,6,7,8] [0,1,2,3,4,5,6,7,8] hq ?_;refine Rd.sf (.pointer (some ⟨w.heap.size,2,none⟩)) ?_;refine Rd.sg (.slice (some ⟨b,0,none⟩) L.length c) ?_ (y:=fun X hX=>Bm);refine Rd.sg (.agg #[.int .i64 r,.int .i64 m,.slice (some ⟨b,0,none⟩) L.length c]) ?_ (y:=fun X hX=>aq rfl rfl (HR.box X hX));refine Rd.sf (.int .i64 y) ?_;refine Rd.sm fun K hK=>?_
   go_simp;refine(HR.at' _ _ hq).mono ?_;rw[HJ.out];rintro e w3 ⟨rfl,hb3⟩;refine hK _ _ (fun _=>hb3) ?_;clear hK K;refine Rd.sg (.pointer (some ⟨b,j*5,none⟩)) ?_ (y:=fun X _=>A7);refine Rd.sf (.pointer (some ⟨b,j*5+1,none⟩)) ?_;refine Rd.sg (.int .i64 pa) ?_ (y:=fun X hX=>BG);refine Rd.sf (.int .i64 pa) ?_;refine Rd.seq_end ?_
   go_wp2_with fail
   exact⟨⟨pa,n+1,rfl,rfl,HP,HD,hb3,A3⟩,HM.out⟩
theorem d7 (x t:Int) (m0 k:Int) (w:World) (h:aA w (.slice a L.length c) L) (ok:Ok L m0 k) (hh:has L x=true):
  Calls Tryz.prog 16 #[.agg (ae r m (.slice a L.length c)),.int .i64 x,.int .i64 t] w fun e w'=>e= .returned (.bool (ag L x t))∧Below w.heap.size w w':=by
 have hne:=eF hh;have n64:=ok.n64;obtain⟨b,rfl,hR⟩:=Rdd.of (r:=r) (m:=m) h ok.n64 hne;have hb1:Below w.heap.size w (w.alloc (.cells #[.int .i64 r,.int .i64 m,.slice (some ⟨b,0,none⟩) L.length c] 29)):=(Below.refl _ w).alloc lr _;have OK:=Hd ok;have HR:=Hd hR;clear h ok hR hne;unfold ae;go_enter Tryz.func16,Tryz.ntmps16
 go_wp2_with fail
 generalize w.alloc (.cells #[.int .i64 r,.int .i64 m,.slice (some ⟨b,0,none⟩) L.length c] 29)=w1 at *
 go_loopw [1] (fun i wr=>∃y:Int,i= .int .i64 y∧Hid (y= -1∨has L y=true)∧Hid (ag L x t=ag L y t)∧Below w1.heap.size w1 wr) (fun i _=>(pth L (intOf i)).length)
 case atStart=>exact⟨x,rfl,Hd (.inr hh),Hd rfl,Below.refl _ _⟩
 case round=>
  clear hh;obtain⟨y,rfl,HY,HN,hb⟩:=hrel;cases hh:has L y with
  | false=>
   obtain rfl:y= -1:=by
    rcases HY.out with e | e
    ·exact e
    ·rw[hh] at e;cases e
   have HE:Hid (ag L x t=false):=Hd (by rw[HN.out];exact fJ hh t);clear hh
   go_wp2_with fail
   go_ret;rw[HE.out];exact⟨rfl,hb1.tr hb⟩
  | true=>
   have hy:=OK.id hh;have hj:=aC hh;have HJ:Hid (atG L y=(pos L y:Int)):=Hd (aF hh);have HV:Hid (∀X,Below w1.heap.size w1 X→X.cell? ⟨b,pos L y*5+1,none⟩=some (.int .i64 (gr L y).pa)):=Hd fun X hX=>(HR.cl X hX).pa hj
   have HP:=Hd (OK.pa hh);have HS:=Hd (OK.below_step hh t);have HM:Hid ((pth L (gr L y).pa).length<(pth L y).length):=Hd (by rw[OK.yes hh,List.length_cons];omega);clear hh;have hy0:0≤y:=A3
   clear hy;by_cases e:y=t
   ·subst e;have HE:Hid (ag L x y=true):=Hd (by rw[HN.out,HS.out];simp);have hyy:(y==y)=true:=B4
    go_wp2_with fail
    go_ret;rw[HE.out];exact⟨rfl,hb1.tr hb⟩
   ·have HE:Hid (ag L x t=ag L (gr L y).pa t):=Hd (by rw[HN.out,HS.out,decide_eq_false e,Bool.false_or]);have e2:=aB e;clear HS HN e;generalize (gr L y).pa=pa at *;generalize pos L y=j at *
    go_wp2_with fail
    have hq:Below w1.heap.size w1 wr.drew:=Below.drewS hb;refine Rd.rg (fun X=>Below w1.heap.size w1 X) 9 [0,1,2,3,5,6,7,8] [0,1,2,3,4,5,6,7,8] hq ?_;refine Rd.sf (.pointer (some ⟨w.heap.size,2,none⟩)) ?_;refine Rd.sg (.slice (some ⟨b,0,none⟩) L.length c) ?_ (y:=fun X hX=>Bm);refine Rd.sg (.agg #[.int .i64 r,.int .i64 m,.slice (some ⟨b,0,none⟩) L.length c]) ?_ (y:=fun X hX=>aq rfl rfl (HR.box X hX));refine Rd.sf (.int .i64 y) ?_;refine Rd.sm fun K hK=>?_
    go_simp;refine(HR.at' _ _ hq).mono ?_;rw[HJ.out];rintro e w3 ⟨rfl,hb3⟩;refine hK _ _ (fun _=>hb3) ?_;clear hK K;refine Rd.sg (.pointer (some ⟨b,j*5,none⟩)) ?_ (y:=fun X _=>A7);refine Rd.sf (.pointer (some ⟨b,j*5+1,none⟩)) ?_;refine Rd.sg (.int .i64 pa) ?_ (y:=fun X hX=>BG);refine Rd.sf (.int .i64 pa) ?_;refine Rd.seq_end ?_
    go_wp2_with fail
    exact⟨⟨pa,rfl,HP,HE,hb3⟩,HM.out⟩
theorem tL (x:Int) (m0 k:Int) (w:World) (h:aA w (.slice a L.length c) L) (ok:Ok L m0 k) (hh:has L x=true):
  Calls Tryz.prog 89 #[.agg (ae r m (.slice a L.length c)),.int .i64 x] w fun e w'=>e= .returned (.int .i64 (aZ L x))∧Below w.heap.size w w':=by
 have hne:=eF hh;have n64:=ok.n64;obtain⟨b,rfl,hR⟩:=Rdd.of (r:=r) (m:=m) h ok.n64 hne;have hb1:Below w.heap.size w (w.alloc (.cells #[.int .i64 r,.int .i64 m,.slice (some ⟨b,0,none⟩) L.length c] 29)):=(Below.refl _ w).alloc lr _;have OK:=Hd ok;have HR:=Hd hR;clear h ok hR hne;unfold ae;go_enter Tryz.func89,Tryz.ntmps89
 go_wp2_with fail
 generalize w.alloc (.cells #[.int .i64 r,.int .i64 m,.slice (some ⟨b,0,none⟩) L.length c] 29)=w1 at *
 go_loopw [1] (fun i wr=>∃y:Int,i= .int .i64 y∧Hid (has L y=true)∧Hid (aZ L x=aZ L y)∧Below w1.heap.size w1 wr) (fun i _=>(pth L (intOf i)).length)
 case atStart=>exact⟨x,rfl,Hd hh,Hd rfl,Below.refl _ _⟩
 case round=>
  clear hh;obtain⟨y,rfl,HY,HN,hb⟩:=hrel;have hh:=HY.out;have hq:Below w1.heap.size w1 wr.drew:=Below.drewS hb;have hy:=OK.id hh;have hj:=aC hh;have HJ:Hid (atG L y=(pos L y:Int)):=Hd (aF hh);have HV:Hid (∀X,Below w1.heap.size w1 X→X.cell? ⟨b,pos L y*5+1,none⟩=some (.int .i64 (gr L y).pa)):=Hd fun X hX=>(HR.cl X hX).pa hj
  have HP:=Hd (OK.pa hh);have HM:Hid ((pth L (gr L y).pa).length<(pth L y).length):=Hd (by rw[OK.yes hh,List.length_cons];omega);rcases OK.pa hh with hp | hp
  ·have HE:Hid (aZ L x=y):=Hd (by rw[HN.out];exact OK.top_end hh hp);clear HM HP HN HY hh;rw[hp] at HV;clear hp;generalize pos L y=j at *
   go_wp2_with fail
   refine Rd.rg (fun X=>Below w1.heap.size w1 X) 9 [0,1,2,3,5,6,7,8] [0,1,2,3,4,5,6,7,8] hq ?_;refine Rd.sf (.pointer (some ⟨w.heap.size,2,none⟩)) ?_;refine Rd.sg (.slice (some ⟨b,0,none⟩) L.length c) ?_ (y:=fun X hX=>Bm);refine Rd.sg (.agg #[.int .i64 r,.int .i64 m,.slice (some ⟨b,0,none⟩) L.length c]) ?_ (y:=fun X hX=>aq rfl rfl (HR.box X hX));refine Rd.sf (.int .i64 y) ?_;refine Rd.sm fun K hK=>?_
   go_simp;refine(HR.at' _ _ hq).mono ?_;rw[HJ.out];rintro e w3 ⟨rfl,hb3⟩;refine hK _ _ (fun _=>hb3) ?_;clear hK K;refine Rd.sg (.pointer (some ⟨b,j*5,none⟩)) ?_ (y:=fun X _=>A7);refine Rd.sf (.pointer (some ⟨b,j*5+1,none⟩)) ?_;refine Rd.sg (.int .i64 (-1)) ?_ (y:=fun X hX=>BG);refine Rd.sf (.bool false) ?_;refine Rd.seq_end ?_
   go_wp2_with fail
   go_ret;rw[HE.out];exact⟨rfl,hb1.tr hb3⟩
  ·have HE:Hid (aZ L x=aZ L (gr L y).pa):=Hd (by rw[HN.out];exact OK.top_step hh hp);have hp0:0≤(gr L y).pa:=by have:=OK.id hp;omega
   have HPP:=Hd hp;clear HP HN HY hh hp;generalize (gr L y).pa=pa at *;generalize pos L y=j at *
   go_wp2_with fail
   refine Rd.rg (fun X=>Below w1.heap.size w1 X) 9 [0,1,2,3,5,6,7,8] [0,1,2,3,4,5,6,7,8] hq ?_;refine Rd.sf (.pointer (some ⟨w.heap.size,2,none⟩)) ?_;refine Rd.sg (.slice (some ⟨b,0,none⟩) L.length c) ?_ (y:=fun X hX=>Bm);refine Rd.sg (.agg #[.int .i64 r,.int .i64 m,.slice (some ⟨b,0,none⟩) L.length c]) ?_ (y:=fun X hX=>aq rfl rfl (HR.box X hX));refine Rd.sf (.int .i64 y) ?_;refine Rd.sm fun K hK=>?_
   go_simp;refine(HR.at' _ _ hq).mono ?_;rw[HJ.out];rintro e w3 ⟨rfl,hb3⟩;refine hK _ _ (fun _=>hb3) ?_;clear hK K;refine Rd.sg (.pointer (some ⟨b,j*5,none⟩)) ?_ (y:=fun X _=>A7);refine Rd.sf (.pointer (some ⟨b,j*5+1,none⟩)) ?_;refine Rd.sg (.int .i64 pa) ?_ (y:=fun X hX=>BG);refine Rd.sf (.bool true) ?_;refine Rd.seq_end ?_
   go_wp2_with fail
   have hq2:Below w1.heap.size w1 w3.drew:=Below.drewS hb3;refine Rd.rg (fun X=>Below w1.heap.size w1 X) 9 [0,1,2,3,5,6,7,8] [0,1,2,3,4,5,6,7,8] hq2 ?_;refine Rd.sf (.pointer (some ⟨w.heap.size,2,none⟩)) ?_;refine Rd.sg (.slice (some ⟨b,0,none⟩) L.length c) ?_ (y:=fun X hX=>Bm);refine Rd.sg (.agg #[.int .i64 r,.int .i64 m,.slice (some ⟨b,0,none⟩) L.length c]) ?_ (y:=fun X hX=>aq rfl rfl (HR.box X hX));refine Rd.sf (.int .i64 y) ?_;refine Rd.sm fun K hK=>?_
   go_simp;refine(HR.at' _ _ hq2).mono ?_;rw[HJ.out];rintro e w4 ⟨rfl,hb4⟩;refine hK _ _ (fun _=>hb4) ?_;clear hK K;refine Rd.sg (.pointer (some ⟨b,j*5,none⟩)) ?_ (y:=fun X _=>A7);refine Rd.sf (.pointer (some ⟨b,j*5+1,none⟩)) ?_;refine Rd.sg (.int .i64 pa) ?_ (y:=fun X hX=>BG);refine Rd.sf (.int .i64 pa) ?_;refine Rd.seq_end ?_
   go_wp2_with fail
   exact⟨⟨pa,rfl,HPP,HE,hb4⟩,HM.out⟩
end
theorem j8 {L:List Gr} {k:Nat} (h:k<L.length):L.take (k+1)=L.take k++[L.getD k g0]:=by
 rw[List.take_add_one];simp[List.getD,h]
theorem uO {L:List Gr} {x:Int} {k:Nat} (h:k<L.length) (hp:(L.getD k g0).pa=x):aW (L.take (k+1)) x=aW (L.take k) x++[(L.getD k g0).id]:=by
 rw[j8 h];unfold aW;rw[List.filter_append,List.map_append,List.filter_cons_of_pos Bs];rfl
theorem xY {L:List Gr} {x:Int} {k:Nat} (h:k<L.length) (hp: ¬(L.getD k g0).pa=x):aW (L.take (k+1)) x=aW (L.take k) x:=by
 rw[j8 h];unfold aW;rw[List.filter_append,List.map_append,List.filter_cons_of_neg Bs];simp
section
variable (r m:Int) (a:Option Addr) (c:Nat) (L:List Gr)
theorem lV (x:Int) (w:World) (h:aA w (.slice a L.length c) L) (hl:L.length≤64) (hx:1≤x):
  Calls Tryz.prog 63 #[.agg (ae r m (.slice a L.length c)),.int .i64 x] w fun e w'=>(∃a' c',e= .returned (.slice a' (aW L x).length c')∧aK w' w.heap.size (.slice a' (aW L x).length c') (aW L x))∧Below w.heap.size w w':=by
 have hb1:Below w.heap.size w (w.alloc (.cells (ae r m (.slice a L.length c)) 29)):=(Below.refl _ w).alloc lr _;have h1:=h.alloc (.cells (ae r m (.slice a L.length c)) 29);have hB:=Blk.new w 29 (ae r m (.slice a L.length c));have h2:=cF2 hB;have HB:Hid (∀X,Below w.heap.size (w.alloc (.cells (ae r m (.slice a L.length c)) 29)) X→True):=Hd fun _ _=>trivial
 have HX:Hid (∀X,Below (w.alloc (.cells (ae r m (.slice a L.length c)) 29)).heap.size (w.alloc (.cells (ae r m (.slice a L.length c)) 29)) X→aA X (.slice a L.length c) L∧X.cell? ⟨w.heap.size,2,none⟩=some (.slice a L.length c)):=Hd fun X hX=>⟨h1.below hX,cF2 (hB.below hX)⟩
 clear h h1 hB HB;unfold ae at h2 hb1 HX ⊢;go_enter Tryz.func63,Tryz.ntmps63
 go_wp2_with fail
 have hs1:=hb1.size;generalize w.alloc (.cells #[.int .i64 r,.int .i64 m,.slice a L.length c] 29)=w1 at *
 go_loopw [5,10] (fun v i wr=>∃(k:Nat) (a':Option Addr) (c':Nat),k≤L.length∧i= .int .i64 k∧v= .slice a' (aW (L.take k) x).length c'∧aK wr w1.heap.size (.slice a' (aW (L.take k) x).length c') (aW (L.take k) x)∧Below w1.heap.size w1 wr) (fun _ i _=>L.length - (intOf i).toNat)
 case atStart=>exact⟨0,none,0,A3,rfl,rfl,aK.nil _ _,Below.refl _ _⟩
 case round=>
  obtain⟨k,a',c',hk,rfl,rfl,hro,hb⟩:=hrel;have h3:=(HX.out _ hb).2;have hsz:=hb.size;by_cases hlt:k<L.length
  ·obtain⟨b,rfl,hc⟩:=(HX.out _ hb).1.at hlt;have hid:=hc.id hlt;have hpa:=hc.pa hlt;have hkl:=ee (L.take k) x;have hkl2:(L.take k).length≤64:=by rw[List.length_take];omega
   clear hc;by_cases e:(L.getD k g0).pa=x
   ·have HE:=Hd (uO hlt e);rw[e] at hpa;clear e;generalize (L.getD k g0).id=y at *;generalize aW (L.take k) x=ks at *;have hA:=bZ.new wr y;have hba:Below w1.heap.size w1 (wr.alloc (.cells #[.int .i64 y] 3)):=Below.allocS hb _;have hroa:aK (wr.alloc (.cells #[.int .i64 y] 3)) w1.heap.size (.slice a' ks.length c') ks:=hro.alloc _
    go_wp2_with (first | (refine cY rfl _ _ rfl w1.heap.size (.slice a' ks.length c') _ ks [y] rfl rfl Cq hroa hA.src Cq ?_;intro v' w2 hro2 hg2))
    have hb2:Below w1.heap.size w1 w2:=hba.trans (aY hroa hba.size hg2);obtain⟨a2,c2,rfl⟩:=hro2.sl;exact⟨⟨k+1,a2,c2,A3,BH,by rw[HE.out],by rw[HE.out];exact hro2,hb2⟩,Cd⟩
   ·have HE:=Hd (xY hlt e);have e2:=aB e;generalize (L.getD k g0).pa=p at *
    go_wp2_with fail
    exact⟨⟨k+1,a',c',A3,BH,by rw[HE.out],by rw[HE.out];exact hro,hb⟩,Cd⟩
  ·obtain rfl:k=L.length:=A3
   rw[List.take_length] at *
   go_wp2_with fail
   go_ret;exact⟨⟨a',c',rfl,hro.mono hs1⟩,hb1.trans (hb.mono hs1)⟩
theorem uB (x:Int) (m0 k:Int) (w:World) (h:aA w (.slice a L.length c) L) (ok:Ok L m0 k) (hh:has L x=true):
  Calls Tryz.prog 84 #[.agg (ae r m (.slice a L.length c)),.int .i64 x] w fun e w'=>e= .returned (.int .i64 (ce L x))∧Below w.heap.size w w':=by
 have hne:=eF hh;have n64:=ok.n64;obtain⟨b,rfl,hR⟩:=Rdd.of (r:=r) (m:=m) h ok.n64 hne;have hb1:Below w.heap.size w (w.alloc (.cells #[.int .i64 r,.int .i64 m,.slice (some ⟨b,0,none⟩) L.length c] 29)):=(Below.refl _ w).alloc lr _;have hj:=aC hh;have HJ:Hid (atG L x=(pos L x:Int)):=Hd (aF hh);have HV:Hid (∀X,Below (w.alloc (.cells #[.int .i64 r,.int .i64 m,.slice (some ⟨b,0,none⟩) L.length c] 29)).heap.size (w.alloc (.cells #[.int .i64 r,.int .i64 m,.slice (some ⟨b,0,none⟩) L.length c] 29)) X→X.cell? ⟨b,pos L x*5+3,none⟩=some (.int .i64 (gr L x).me)):=Hd fun X hX=>(hR.cl X hX).me hj
 have HC:Hid (∀X,Below (w.alloc (.cells #[.int .i64 r,.int .i64 m,.slice (some ⟨b,0,none⟩) L.length c] 29)).heap.size (w.alloc (.cells #[.int .i64 r,.int .i64 m,.slice (some ⟨b,0,none⟩) L.length c] 29)) X→Calls Tryz.prog 63 #[.agg #[.int .i64 r,.int .i64 m,.slice (some ⟨b,0,none⟩) L.length c],.int .i64 x] X fun e w'=>(∃a' c',e= .returned (.slice a' (aW L x).length c'))∧Below (w.alloc (.cells #[.int .i64 r,.int .i64 m,.slice (some ⟨b,0,none⟩) L.length c] 29)).heap.size (w.alloc (.cells #[.int .i64 r,.int .i64 m,.slice (some ⟨b,0,none⟩) L.length c] 29)) w'):=Hd fun X hX=>by
  refine(lV r m _ c L x X ((h.below hb1).below hX) n64 (ok.id hh).1).mono ?_;rintro e w' ⟨⟨a',c',rfl,_⟩,hb⟩;exact⟨⟨a',c',rfl⟩,Below.stay hX hb⟩
 have HR:=Hd hR;have hn:=ee L x;have hme:=ok.num _ (bd hh);have hkk:=ok.k1;unfold ce;clear h ok hR hne hh;generalize (aW L x).length=n at *;generalize (gr L x).me=me at *;generalize pos L x=j at *;obtain⟨n1,n2,n3,_⟩:=hme;have HW:Hid (IntKind.i64.wrap ((n:Int)+me)=(n:Int)+me):=Hd (IntWalk.i64_in _ A3);clear n1 n2 n3 hkk;unfold ae;go_enter Tryz.func84,Tryz.ntmps84
 go_wp2_with fail
 generalize w.alloc (.cells #[.int .i64 r,.int .i64 m,.slice (some ⟨b,0,none⟩) L.length c] 29)=w1 at *;have hq:Below w1.heap.size w1 w1.drew:=(eQ.drew w1).below _;refine Rd.rg (fun X=>Below w1.heap.size w1 X) 14 [0,1,3,4,5,6,7,9,10,11,12,13] [0,1,4,5,6,7,2,3,8,9,10,11,12,13] hq ?_;refine Rd.sg (.agg #[.int .i64 r,.int .i64 m,.slice (some ⟨b,0,none⟩) L.length c]) ?_ (y:=fun X hX=>aq rfl rfl (HR.box X hX));refine Rd.sf (.int .i64 x) ?_;refine Rd.sf (.pointer (some ⟨w.heap.size,2,none⟩)) ?_;refine Rd.sg (.slice (some ⟨b,0,none⟩) L.length c) ?_ (y:=fun X hX=>Bm);refine Rd.sg (.agg #[.int .i64 r,.int .i64 m,.slice (some ⟨b,0,none⟩) L.length c]) ?_ (y:=fun X hX=>aq rfl rfl (HR.box X hX));refine Rd.sf (.int .i64 x) ?_;refine Rd.sm fun K hK=>?_
 go_simp;refine(HC.out _ hq).mono ?_;rintro e w3 ⟨⟨a',c',rfl⟩,hb3⟩;refine hK _ _ (fun _=>hb3) ?_;clear hK K;refine Rd.sf (.int .i64 (n:Int)) ?_;refine Rd.sm fun K hK=>?_
 go_simp;refine(HR.at' _ _ hb3).mono ?_;rw[HJ.out];rintro e w4 ⟨rfl,hb4⟩;refine hK _ _ (fun _=>hb4) ?_;clear hK K;refine Rd.sg (.pointer (some ⟨b,j*5,none⟩)) ?_ (y:=fun X _=>A7);refine Rd.sf (.pointer (some ⟨b,j*5+3,none⟩)) ?_;refine Rd.sg (.int .i64 me) ?_ (y:=fun X hX=>BG);refine Rd.sg (.int .i64 ((n:Int)+me)) ?_ (y:=fun X _=>by go_simp;exact HW.out);refine Rd.sf (.int .i64 ((n:Int)+me)) ?_;refine Rd.seq_end ?_
 go_wp2_with fail
 go_ret;exact⟨rfl,hb1.tr hb4⟩
end
theorem Tryz.info70f:(Tryz.prog.info? 56).map (fun i=>(i.zero,i.size,i.bytes))=some (some (.agg #[.int .i64 0,.int .i64 0,.int .i64 0,.int .i64 0,.int .i64 0]),5,40):=Ct
def cB (w:World) (B:Nat) (v:Value) (L:List Gr):Prop:=w.ownsRow B 56 5 v L.length (dK L)
def nd (w:World) (u:Value) (L:List Gr):Prop:=∃ad c,u= .slice ad L.length c∧(L≠[]→∃b off,ad=some ⟨b,off,none⟩∧Cl w b off L)
section
variable {w w':World} {B:Nat} {v u:Value} {L M:List Gr}
theorem cB.row (h:cB w B v L):aA w v L:=by
 refine⟨h.1,?_⟩;rcases h.2 with h0 | ⟨g,cap,cur,e,hbg,h3⟩
 ·exact .inl h0
 ·exact .inr ⟨g,cap,cur,e,Nat.zero_le _,h3⟩
theorem cB.below (h:cB w B v L) (hb:Below w.heap.size w w'):cB w' B v L:=by
 refine⟨h.1,?_⟩;rcases h.2 with h0 | ⟨g,cap,cur,e,hbg,hg,h3⟩
 ·exact .inl h0
 ·exact .inr ⟨g,cap,cur,e,hbg,(hb.block g (Array.getElem?_eq_some_iff.1 hg).1).trans hg,h3⟩
theorem cB.sl (h:cB w B v L): ∃a c,v= .slice a L.length c:=h.row.sl
theorem cB.grown (h:cB w B v L) (hB:B≤w.heap.size) (hg:w.grownBy w' v.ownBlock):Below B w w':=(Below.refl B w).grown hg hB (fun j e=>by
 rcases h.2 with ⟨rfl,_⟩ | ⟨g,cap,cur,rfl,hbg,_⟩
 ·simp[Value.ownBlock] at e
 ·have:g=j:=by simpa[Value.ownBlock] using e
  omega)
theorem cB.stay {g n c:Nat} {ob:Option Nat} (h:cB w B (.slice (some ⟨g,0,none⟩) n c) L) (hg:w.grownBy w' ob) (hne: ¬some g=ob):cB w' B (.slice (some ⟨g,0,none⟩) n c) L:=by
 refine⟨h.1,?_⟩;rcases h.2 with h0 | ⟨g',cap,cur,e,hbg,hb,h3⟩
 ·exact .inl h0
 ·cases e;exact .inr ⟨g,c,cur,rfl,hbg,(hg.block g (Array.getElem?_eq_some_iff.1 hb).1 hne).trans hb,h3⟩
theorem nd.below (h:nd w u L) (hb:Below w.heap.size w w'):nd w' u L:=by
 obtain⟨ad,c,e,h2⟩:=h;refine⟨ad,c,e,fun hl=>?_⟩;obtain⟨b,off,e2,h3⟩:=h2 hl;exact⟨b,off,e2,h3.below hb⟩
theorem aA.src (h:aA w v L):nd w v L:=by
 obtain⟨a,c,rfl⟩:=h.sl;refine⟨a,c,rfl,fun hl=>?_⟩;obtain⟨b,rfl,hc⟩:=h.at (j:=0) (List.length_pos_iff.2 hl);exact⟨b,0,rfl,hc⟩
theorem cB.empty (w:World) (B:Nat) (hB:B≤w.heap.size):cB (w.alloc (.cells #[] 56)) B (.slice (some ⟨w.heap.size,0,none⟩) 0 0) []:=World.ownsRow_made w #[] 0 hB A3 rfl
theorem cB.lit (w:World) (B:Nat) (g:Gr) (hB:B≤w.heap.size):cB (w.alloc (.cells (au g) 56)) B (.slice (some ⟨w.heap.size,0,none⟩) 1 1) [g]:=World.ownsRow_lit w (au g) 1 hB Cf rfl
theorem xB (ty:TypeId) (hB:B≤w.heap.size) (h:cB w B v L) (hs:nd w u M) (hl:L.length+M.length≤1000):
  ∃v' w',(Builtin.append_ #[27,27] ty #[v,u]).run Tryz.prog w= .ok v' w'∧cB w' B v' (L++M)∧w.grownBy w' v.ownBlock:=by
 obtain⟨i0,hi,hz0,hz1,hz2⟩:=info_parts Tryz.info70f;obtain⟨ad,c,rfl,h2⟩:=hs;cases had:ad with
 | none=>
  have:M=[]:=by
   by_cases hne:M=[]
   ·exact hne
   ·obtain⟨b,off,e,_⟩:=h2 hne;rw[had] at e;cases e
  subst this;by_cases hc:c=0
  ·subst hc;exact⟨v,w,run_append_owned_none w B 27 ty 56 i0 5 Tryz.underlying27 hi v L.length _ h,by rw[List.append_nil];exact h,World.grownBy.refl _ _⟩
  ·refine⟨v,w,?_,by rw[List.append_nil];exact h,World.grownBy.refl _ _⟩;rcases h.2 with ⟨rfl,h1⟩ | ⟨g,cap,cur,rfl,_,_,hnc,_⟩
   ·simp[Builtin.append_,run_underlying Tryz.underlying27,sizeOf,typeInfo,hi,Builtin.lenOf,Builtin.firstCells]
   ·simp[Builtin.append_,run_underlying Tryz.underlying27,sizeOf,typeInfo,hi,Builtin.lenOf,Builtin.firstCells,hnc,storeCells]
 | some p=>
  have hnews: ∀j x,(dK M)[j]? =some x→w.cell? (p.add j)=some x:=by
   intro j x hx;obtain⟨b,off,e,hc⟩:=h2 (by rintro rfl;simp[dK] at hx);rw[had] at e;cases e;rw[Addr.add_lit];exact hc.2 j x hx
  obtain⟨v',w',hr,ho,hg,_⟩:=run_append_own (P:=Tryz.prog) w B 27 ty 56 i0 (.agg #[.int .i64 0,.int .i64 0,.int .i64 0,.int .i64 0,.int .i64 0]) 5 40 Tryz.underlying27 hi hz0 hz1 hz2 rfl BD v L.length _ h p M.length c (dK M) (iz M) hnews (wo M) Cf A3 hB;refine⟨v',w',hr,?_,hg⟩;unfold cB;rw[List.length_append,jX];exact ho
end
section
variable {ops:Array Oper} {rest:List Oper} {o:Oper} {a:Act} {w:World} {Q:Exit→Act→World→Prop} {K:Act→World→Prop}
theorem cI (s x:Operand) (ho:o.op= .call { callee:=.builtin .append,args:= #[s,x],argTypes:= #[27,27] }) (B:Nat) (v u:Value) (L M:List Gr) (hs:a.eval s=v) (hx:a.eval x=u)
  (hB:B≤w.heap.size) (h1:cB w B v L) (h2:nd w u M) (hl:L.length+M.length≤1000) (h: ∀v' w',cB w' B v' (L++M)→w.grownBy w' v.ownBlock→K (a.put o.dst v') w'):o.wp Tryz.prog a w K Q:=by
 obtain⟨v',w',hr,ho',hg⟩:=xB o.type hB h1 h2 hl;exact AE
theorem kD (hg:o.guard=none) (s x:Operand) (ho:o.op= .call { callee:=.builtin .append,args:= #[s,x],argTypes:= #[27,27] }) (B:Nat) (v u:Value) (L M:List Gr) (hs:a.eval s=v) (hx:a.eval x=u)
  (hB:B≤w.heap.size) (h1:cB w B v L) (h2:nd w u M) (hl:L.length+M.length≤1000) (h: ∀v' w',cB w' B v' (L++M)→w.grownBy w' v.ownBlock→wpList Tryz.prog ops Q rest (a.put o.dst v') w'):wpList Tryz.prog ops Q (o::rest) a w:=
 wpList_plain hg fun _ hK=>cI s x ho B v u L M hs hx hB h1 h2 hl fun v' w' h3 h4=>hK _ _ (h v' w' h3 h4)
end
theorem B3 {p:Prop} (h:p:=by simp only[gA,gB,gC];rfl):p:=h
theorem A9 {p:Prop} (h:p:=by have e0:=cF0 hX;have e1:=cF1 hX;have e2:=cF2 hX;go_simp):p:=h
theorem An {p:Prop} (h:p:=by have h10:=h9.row.turn t9 (hZ.below hB) (by decide);exact⟨⟨_,rfl,a9,c9,rfl,h10⟩,(hb.trans (hB.mono (by omega))).trans (t9.below (by omega))⟩):p:=h
theorem wL (r m p wt:Int) (a:Option Addr) (c:Nat) (L:List Gr) (w:World) (h:aA w (.slice a L.length c) L) (hl:L.length≤64) (hm:0≤m∧m≤1000):
  Calls Tryz.prog 80 #[.agg (ae r m (.slice a L.length c)),.int .i64 p,.int .i64 wt] w fun e w'=>(∃v,e= .returned (.tuple #[v,.int .i64 (m+1)])∧bm w' v r (m+1) (addG L m p wt))∧Below w.heap.size w w':=by
 have hx0:Blk ((w.alloc (.cells #[.int .i64 r,.int .i64 m,.slice a L.length c] 29)).alloc (.cells #[.int .i64 0,.int .i64 0,.slice none 0 0] 29)) w.heap.size 29 (ae r m (.slice a L.length c)):=(Blk.new w 29 _).alloc _;have hZ0:Blk ((w.alloc (.cells #[.int .i64 r,.int .i64 m,.slice a L.length c] 29)).alloc (.cells #[.int .i64 0,.int .i64 0,.slice none 0 0] 29)) (w.heap.size+1) 29 (ae 0 0 (.slice none 0 0)):=by
  have:=Blk.new (w.alloc (.cells #[.int .i64 r,.int .i64 m,.slice a L.length c] 29)) 29 (ae 0 0 (.slice none 0 0));have e:(w.alloc (.cells #[.int .i64 r,.int .i64 m,.slice a L.length c] 29)).heap.size=w.heap.size+1:=B4
  rw[e] at this;exact this
 have hb:Below w.heap.size w ((w.alloc (.cells #[.int .i64 r,.int .i64 m,.slice a L.length c] 29)).alloc (.cells #[.int .i64 0,.int .i64 0,.slice none 0 0] 29)):=((Below.refl _ w).alloc lr _).alloc B4 _;have hsz:((w.alloc (.cells #[.int .i64 r,.int .i64 m,.slice a L.length c] 29)).alloc (.cells #[.int .i64 0,.int .i64 0,.slice none 0 0] 29)).heap.size=w.heap.size+2:=B4
 have HS:=Hd (h.src.below hb);have e1:=cF1 hx0;unfold addG;clear h;obtain⟨hm0,hm1⟩:=hm;unfold ae;go_enter Tryz.func80,Tryz.ntmps80
 go_wp2_with (first | (refine ai rfl rfl ?_))
 generalize ((w.alloc (.cells #[.int .i64 r,.int .i64 m,.slice a L.length c] 29)).alloc (.cells #[.int .i64 0,.int .i64 0,.slice none 0 0] 29))=w3 at *;have s3:=eQ.drew w3;have hx:=hx0.drew;have hZ:=hZ0.drew;replace hb:=hb.trans (s3.below _);have hs4:w.heap.size+2≤w3.drew.heap.size:=by rw[s3.heap,hsz];exact Nat.le_refl _
 have HS4:=Hd (HS.below (s3.below _));refine Rd.regionT (fun X=>Blk X w.heap.size 29 (ae r m (.slice a L.length c))) [0,1,2,4,5,7,8,9,10,14,13,16] ((.one 0 (.one 1 (.one 2 (.one 4 (.one 5 (.one 7 (.one 8 (.one 9 (.one 10 (.one 14 (.two 3 (.two 6 (.one 11 (.one 12 (.one 13 (.one 15 (.one 16 .done))))) 11 (.one 6 (.one 12 (.one 13 (.one 15 (.one 16 .done)))))) 11 (.one 3 (.one 6 (.one 12 (.one 13 (.one 15 (.one 16 .done)))))))))))))))))) _ Ct Ct Ct hx ?_ (fun _ _ h=>h);clear hx0 hZ0 HS s3 hsz e1;generalize w3.drew=w4 at *;have HS:=HS4;clear HS4;have hB:=Below.refl w4.heap.size w4;refine Rd.tf (.pointer (some ⟨w.heap.size,0,none⟩)) ?_;refine Rd.tg (.int .i64 r) ?_ (y:=fun X hX=>A9);refine Rd.tf (.int .i64 (m+1)) ?_;refine Rd.tf (.pointer (some ⟨w.heap.size,2,none⟩)) ?_;refine Rd.tg (.slice a L.length c) ?_ (y:=fun X hX=>A9);refine Rd.tf (.int .i64 (m+1)) ?_;refine Rd.tf (.int .i64 p) ?_;refine Rd.tf (.int .i64 wt) ?_;refine Rd.tg (.agg #[.int .i64 (m+1),.int .i64 p,.int .i64 wt,.int .i64 0,.int .i64 0]) ?_ (y:=fun X _=>Ct);refine Rd.tf (.int .i64 (m+1)) ?_;refine Rd.tr_two B3 Cp B3 Cp (fun K hK=>?_) (fun K hK=>?_)
 ·go_simp;have hE:=cB.empty w4 w4.heap.size hB.size;have hbn:Below w4.heap.size w4 (w4.alloc (.cells #[] 56)):=(Below.refl _ _).alloc lr _;have hltz1:w4.heap.size<(w4.alloc (.cells #[] 56)).heap.size:=B4
  replace hB:=hB.tr hbn;clear hbn;generalize w4.alloc (.cells #[] 56)=z1 at *;refine hK _ _ (hx.below hB) ?_;clear hK K;refine Rd.tr_two B3 Cp B3 Cp (fun K hK=>?_) (fun K hK=>?_)
  ·refine cI _ _ rfl w4.heap.size _ _ [] L rfl rfl hB.size hE (HS.below hB) Cq ?_;intro v6 z2 h6 gr;rw[List.nil_append] at h6;have hbn:=hE.grown hB.size gr;clear gr;replace hB:=hB.trans hbn;clear hbn;refine hK _ _ (hx.below hB) ?_;clear hK K;refine Rd.tm fun K hK=>?_
   go_simp;have hO:=(show cB (z2.alloc (.cells #[.int .i64 (m+1),.int .i64 p,.int .i64 wt,.int .i64 0,.int .i64 0] 56)) w4.heap.size (.slice (some ⟨z2.heap.size,0,none⟩) 1 1) [⟨m+1,p,wt,0,0⟩] from cB.lit z2 w4.heap.size ⟨m+1,p,wt,0,0⟩ hB.size)
   have hbn:Below z2.heap.size z2 (z2.alloc (.cells #[.int .i64 (m+1),.int .i64 p,.int .i64 wt,.int .i64 0,.int .i64 0] 56)):=(Below.refl _ _).alloc lr _;have hltz3:z2.heap.size<(z2.alloc (.cells #[.int .i64 (m+1),.int .i64 p,.int .i64 wt,.int .i64 0,.int .i64 0] 56)).heap.size:=B4
   replace h6:=h6.below hbn;replace hB:=hB.tr hbn;clear hbn;generalize z2.alloc (.cells #[.int .i64 (m+1),.int .i64 p,.int .i64 wt,.int .i64 0,.int .i64 0] 56)=z3 at *;refine hK _ _ (hx.below hB) ?_;clear hK K;refine Rd.tm fun K hK=>?_
   refine cI _ _ rfl w4.heap.size _ _ L [⟨m+1,p,wt,0,0⟩] rfl rfl hB.size h6 hO.row.src Cq ?_;intro v9 z4 h9 gr;have hbn:=h6.grown hB.size gr;clear gr;replace hB:=hB.trans hbn;clear hbn;refine hK _ _ (hx.below hB) ?_;clear hK K;obtain⟨a9,c9,rfl⟩:=h9.sl;refine Rd.tg (.agg #[.int .i64 r,.int .i64 (m+1),.slice a9 (L++[(⟨m+1,p,wt,0,0⟩:Gr)]).length c9]) ?_ (y:=fun X _=>Ct);refine Rd.tm fun K hK=>?_
   refine cO _ _ rfl (w.heap.size+1) r (m+1) (.slice a9 (L++[(⟨m+1,p,wt,0,0⟩:Gr)]).length c9) rfl rfl (hZ.below hB) rfl rfl ?_;intro z5 hZ9 t9;refine hK _ _ ((hx.below hB).turn t9 A3) ?_;clear hK K;refine Rd.tf (.int .i64 (m+1)) ?_;refine Rd.tr_end ?_
   go_wp2_with fail
   refine bodyPost_ret (am rfl _ z5 (w.heap.size+1) r (m+1) _ _ rfl rfl hZ9) rfl ?_;exact An
  ·go_simp;have hO:=(show cB (z1.alloc (.cells #[.int .i64 (m+1),.int .i64 p,.int .i64 wt,.int .i64 0,.int .i64 0] 56)) w4.heap.size (.slice (some ⟨z1.heap.size,0,none⟩) 1 1) [⟨m+1,p,wt,0,0⟩] from cB.lit z1 w4.heap.size ⟨m+1,p,wt,0,0⟩ hB.size)
   have hbn:Below z1.heap.size z1 (z1.alloc (.cells #[.int .i64 (m+1),.int .i64 p,.int .i64 wt,.int .i64 0,.int .i64 0] 56)):=(Below.refl _ _).alloc lr _;have hltz6:z1.heap.size<(z1.alloc (.cells #[.int .i64 (m+1),.int .i64 p,.int .i64 wt,.int .i64 0,.int .i64 0] 56)).heap.size:=B4
   replace hE:=hE.below hbn;replace hB:=hB.tr hbn;clear hbn;generalize z1.alloc (.cells #[.int .i64 (m+1),.int .i64 p,.int .i64 wt,.int .i64 0,.int .i64 0] 56)=z6 at *;refine hK _ _ (hx.below hB) ?_;clear hK K;refine Rd.tm fun K hK=>?_
   refine cI _ _ rfl w4.heap.size _ _ [] L rfl rfl hB.size hE (HS.below hB) Cq ?_;intro v6 z7 h6 gr;rw[List.nil_append] at h6;have hbn:=hE.grown hB.size gr;replace hO:=hO.stay gr (by intro e;have e2:=Option.some.inj e;(try dsimp only at e2);omega);clear gr;replace hB:=hB.trans hbn;clear hbn;refine hK _ _ (hx.below hB) ?_;clear hK K;refine Rd.tm fun K hK=>?_
   refine cI _ _ rfl w4.heap.size _ _ L [⟨m+1,p,wt,0,0⟩] rfl rfl hB.size h6 hO.row.src Cq ?_;intro v9 z8 h9 gr;have hbn:=h6.grown hB.size gr;clear gr;replace hB:=hB.trans hbn;clear hbn;refine hK _ _ (hx.below hB) ?_;clear hK K;obtain⟨a9,c9,rfl⟩:=h9.sl;refine Rd.tg (.agg #[.int .i64 r,.int .i64 (m+1),.slice a9 (L++[(⟨m+1,p,wt,0,0⟩:Gr)]).length c9]) ?_ (y:=fun X _=>Ct);refine Rd.tm fun K hK=>?_
   refine cO _ _ rfl (w.heap.size+1) r (m+1) (.slice a9 (L++[(⟨m+1,p,wt,0,0⟩:Gr)]).length c9) rfl rfl (hZ.below hB) rfl rfl ?_;intro z9 hZ9 t9;refine hK _ _ ((hx.below hB).turn t9 A3) ?_;clear hK K;refine Rd.tf (.int .i64 (m+1)) ?_;refine Rd.tr_end ?_
   go_wp2_with fail
   refine bodyPost_ret (am rfl _ z9 (w.heap.size+1) r (m+1) _ _ rfl rfl hZ9) rfl ?_;exact An
 ·go_simp;have hO:=(show cB (w4.alloc (.cells #[.int .i64 (m+1),.int .i64 p,.int .i64 wt,.int .i64 0,.int .i64 0] 56)) w4.heap.size (.slice (some ⟨w4.heap.size,0,none⟩) 1 1) [⟨m+1,p,wt,0,0⟩] from cB.lit w4 w4.heap.size ⟨m+1,p,wt,0,0⟩ hB.size)
  have hbn:Below w4.heap.size w4 (w4.alloc (.cells #[.int .i64 (m+1),.int .i64 p,.int .i64 wt,.int .i64 0,.int .i64 0] 56)):=(Below.refl _ _).alloc lr _;have hltz10:w4.heap.size<(w4.alloc (.cells #[.int .i64 (m+1),.int .i64 p,.int .i64 wt,.int .i64 0,.int .i64 0] 56)).heap.size:=B4
  replace hB:=hB.tr hbn;clear hbn;generalize w4.alloc (.cells #[.int .i64 (m+1),.int .i64 p,.int .i64 wt,.int .i64 0,.int .i64 0] 56)=z10 at *;refine hK _ _ (hx.below hB) ?_;clear hK K;refine Rd.tm fun K hK=>?_
  go_simp;have hE:=cB.empty z10 w4.heap.size hB.size;have hbn:Below z10.heap.size z10 (z10.alloc (.cells #[] 56)):=(Below.refl _ _).alloc lr _;have hltz11:z10.heap.size<(z10.alloc (.cells #[] 56)).heap.size:=B4
  replace hO:=hO.below hbn;replace hB:=hB.tr hbn;clear hbn;generalize z10.alloc (.cells #[] 56)=z11 at *;refine hK _ _ (hx.below hB) ?_;clear hK K;refine Rd.tm fun K hK=>?_
  refine cI _ _ rfl w4.heap.size _ _ [] L rfl rfl hB.size hE (HS.below hB) Cq ?_;intro v6 z12 h6 gr;rw[List.nil_append] at h6;have hbn:=hE.grown hB.size gr;replace hO:=hO.stay gr (by intro e;have e2:=Option.some.inj e;(try dsimp only at e2);omega);clear gr;replace hB:=hB.trans hbn;clear hbn;refine hK _ _ (hx.below hB) ?_;clear hK K;refine Rd.tm fun K hK=>?_
  refine cI _ _ rfl w4.heap.size _ _ L [⟨m+1,p,wt,0,0⟩] rfl rfl hB.size h6 hO.row.src Cq ?_;intro v9 z13 h9 gr;have hbn:=h6.grown hB.size gr;clear gr;replace hB:=hB.trans hbn;clear hbn;refine hK _ _ (hx.below hB) ?_;clear hK K;obtain⟨a9,c9,rfl⟩:=h9.sl;refine Rd.tg (.agg #[.int .i64 r,.int .i64 (m+1),.slice a9 (L++[(⟨m+1,p,wt,0,0⟩:Gr)]).length c9]) ?_ (y:=fun X _=>Ct);refine Rd.tm fun K hK=>?_
  refine cO _ _ rfl (w.heap.size+1) r (m+1) (.slice a9 (L++[(⟨m+1,p,wt,0,0⟩:Gr)]).length c9) rfl rfl (hZ.below hB) rfl rfl ?_;intro z14 hZ9 t9;refine hK _ _ ((hx.below hB).turn t9 A3) ?_;clear hK K;refine Rd.tf (.int .i64 (m+1)) ?_;refine Rd.tr_end ?_
  go_wp2_with fail
  refine bodyPost_ret (am rfl _ z14 (w.heap.size+1) r (m+1) _ _ rfl rfl hZ9) rfl ?_;exact An
theorem o8: ∀ {L:List Gr} {i:Nat} (g:Gr),i<L.length→dK (L.set i g)=(((((dK L).set (i*5) (.int .i64 g.id)).set (i*5+1) (.int .i64 g.pa)).set (i*5+2) (.int .i64 g.wt)).set (i*5+3) (.int .i64 g.me)).set (i*5+4) (.int .i64 g.aw)
 | [],_,_,h=>by simp at h
 | y::r,0,g,_=>by
  rw[sC,d3,d3];rfl
 | y::r,i+1,g,h=>by
  have ih:=o8 (L:=r) (i:=i) g BM;rw[sB,d3,ih,d3];have e0:(i+1)*5=i*5+5:=A3
  rw[e0];have st: ∀(k:Nat) (v:Value) (xs:List Value),((au y).toList++xs).set (k+5) v=(au y).toList++xs.set k v:=fun k v xs=>rfl
  rw[st,show i*5+5+1=i*5+1+5 by omega,st,show i*5+5+2=i*5+2+5 by omega,st,show i*5+5+3=i*5+3+5 by omega,st,show i*5+5+4=i*5+4+5 by omega,st]
theorem fZ {w:World} {B b n c k:Nat} {xs:List Value} (h:w.ownsRow B 56 5 (.slice (some ⟨b,0,none⟩) n c) k xs) (i:Nat) (x:Value):(w.setCell ⟨b,i,none⟩ x).ownsRow B 56 5 (.slice (some ⟨b,0,none⟩) n c) k (xs.set i x):=by
 have hl:=h.1;rcases h.2 with ⟨h0,_⟩ | ⟨g,cap,cur,e,hbg,hg,h3,h4,h5,htake⟩
 ·cases h0
 ·cases e;refine⟨by rw[List.length_set];exact hl,.inr ⟨b,c,_,rfl,hbg,heap_setCell_same w b i _ 56 _ hg,h3,h4,by rw[Array.size_setIfInBounds];exact h5,?_⟩⟩;rw[Array.toList_setIfInBounds,List.take_set,htake]
theorem cB.set {w:World} {B b n c i:Nat} {L:List Gr} (h:cB w B (.slice (some ⟨b,0,none⟩) n c) L) (hi:i<L.length) (g:Gr):cB (w.setCells b (i*5) (au g).toList) B (.slice (some ⟨b,0,none⟩) n c) (L.set i g):=by
 have h5:=fZ (fZ (fZ (fZ (fZ h (i*5) (.int .i64 g.id)) (i*5+1) (.int .i64 g.pa)) (i*5+2) (.int .i64 g.wt)) (i*5+3) (.int .i64 g.me)) (i*5+4) (.int .i64 g.aw);unfold cB;rw[List.length_set,o8 g hi];exact h5
theorem cB.there {w:World} {B b n c i:Nat} {L:List Gr} (h:cB w B (.slice (some ⟨b,0,none⟩) n c) L) (hi:i<L.length):w.there b (i*5) 5:=by
 intro j hj;obtain⟨b',e,hc⟩:=h.row.at hi;cases e;rcases h.2 with ⟨h0,_⟩ | ⟨g,cap,cur,e,hbg,hg,_⟩
 ·cases h0
 ·cases e;refine⟨?_,frozen_of_row w b _ _ 56 hg⟩;rw[hc.at hi hj]
  match j,hj with
  | 0,_=>rfl
  | 1,_=>rfl
  | 2,_=>rfl
  | 3,_=>rfl
  | 4,_=>rfl
theorem zx {w:World} {B b n c:Nat} {L:List Gr} (h:cB w B (.slice (some ⟨b,0,none⟩) n c) L):B≤b:=by
 rcases h.2 with ⟨h0,_⟩ | ⟨g,cap,cur,e,hbg,_⟩
 ·cases h0
 ·cases e;exact hbg
theorem lh (w:World) (b o:Nat) (g:Gr):aX b w (w.setCells b o (au g).toList):=by
 have t: ∀ {w w' w'':World},aX b w w'→aX b w' w''→aX b w w'':=fun h h'=>⟨h'.os.trans h.os,h'.tape.trans h.tape,h'.output.trans h.output,h'.size.trans h.size,fun k hk=>(h'.block k hk).trans (h.block k hk)⟩
 exact t (t (t (t (aX.setCell w b o _) (aX.setCell _ b (o+1) _)) (aX.setCell _ b (o+2) _)) (aX.setCell _ b (o+3) _)) (aX.setCell _ b (o+4) _)
section
variable (r m:Int) (a:Option Addr) (c:Nat) (L:List Gr)
theorem u4 (i:Nat) (g:Gr) (w:World) (h:aA w (.slice a L.length c) L) (hl:L.length≤64) (hi:i<L.length):
  Calls Tryz.prog 90 #[.agg (ae r m (.slice a L.length c)),.int .i64 (i:Int),.agg (au g)] w fun e w'=>(∃v,e= .returned v∧bm w' v r m (L.set i g))∧Below w.heap.size w w':=by
 have hs1:(w.alloc (.cells #[.int .i64 r,.int .i64 m,.slice a L.length c] 29)).heap.size=w.heap.size+1:=B4
 have hs2:((w.alloc (.cells #[.int .i64 r,.int .i64 m,.slice a L.length c] 29)).alloc (.cells #[.int .i64 g.id,.int .i64 g.pa,.int .i64 g.wt,.int .i64 g.me,.int .i64 g.aw] 56)).heap.size=w.heap.size+2:=B4
 have hx0:Blk (((w.alloc (.cells #[.int .i64 r,.int .i64 m,.slice a L.length c] 29)).alloc (.cells #[.int .i64 g.id,.int .i64 g.pa,.int .i64 g.wt,.int .i64 g.me,.int .i64 g.aw] 56)).alloc (.cells #[.int .i64 0,.int .i64 0,.slice none 0 0] 29)) w.heap.size 29 (ae r m (.slice a L.length c)):=((Blk.new w 29 _).alloc _).alloc _;have hg0:Blk (((w.alloc (.cells #[.int .i64 r,.int .i64 m,.slice a L.length c] 29)).alloc (.cells #[.int .i64 g.id,.int .i64 g.pa,.int .i64 g.wt,.int .i64 g.me,.int .i64 g.aw] 56)).alloc (.cells #[.int .i64 0,.int .i64 0,.slice none 0 0] 29)) (w.heap.size+1) 56 (au g):=by
  have:=(Blk.new (w.alloc (.cells #[.int .i64 r,.int .i64 m,.slice a L.length c] 29)) 56 (au g)).alloc (.cells #[.int .i64 0,.int .i64 0,.slice none 0 0] 29);rw[hs1] at this;exact this
 have hZ0:Blk (((w.alloc (.cells #[.int .i64 r,.int .i64 m,.slice a L.length c] 29)).alloc (.cells #[.int .i64 g.id,.int .i64 g.pa,.int .i64 g.wt,.int .i64 g.me,.int .i64 g.aw] 56)).alloc (.cells #[.int .i64 0,.int .i64 0,.slice none 0 0] 29)) (w.heap.size+2) 29 (ae 0 0 (.slice none 0 0)):=by
  have:=Blk.new ((w.alloc (.cells #[.int .i64 r,.int .i64 m,.slice a L.length c] 29)).alloc (.cells #[.int .i64 g.id,.int .i64 g.pa,.int .i64 g.wt,.int .i64 g.me,.int .i64 g.aw] 56)) 29 (ae 0 0 (.slice none 0 0));rw[hs2] at this;exact this
 have hb:Below w.heap.size w (((w.alloc (.cells #[.int .i64 r,.int .i64 m,.slice a L.length c] 29)).alloc (.cells #[.int .i64 g.id,.int .i64 g.pa,.int .i64 g.wt,.int .i64 g.me,.int .i64 g.aw] 56)).alloc (.cells #[.int .i64 0,.int .i64 0,.slice none 0 0] 29)):=(((Below.refl _ w).alloc lr _).alloc B4 _).alloc Cq _;have hsz:w.heap.size+3≤(((w.alloc (.cells #[.int .i64 r,.int .i64 m,.slice a L.length c] 29)).alloc (.cells #[.int .i64 g.id,.int .i64 g.pa,.int .i64 g.wt,.int .i64 g.me,.int .i64 g.aw] 56)).alloc (.cells #[.int .i64 0,.int .i64 0,.slice none 0 0] 29)).heap.size:=B4
 have HS:=Hd (h.src.below hb);have e2:=cF2 hx0;clear h hs1 hs2;unfold ae au;go_enter Tryz.func90,Tryz.ntmps90
 go_wp2_with (first | (refine ai rfl rfl ?_;generalize (((w.alloc (.cells #[.int .i64 r,.int .i64 m,.slice a L.length c] 29)).alloc (.cells #[.int .i64 g.id,.int .i64 g.pa,.int .i64 g.wt,.int .i64 g.me,.int .i64 g.aw] 56)).alloc (.cells #[.int .i64 0,.int .i64 0,.slice none 0 0] 29))=w3 at *;have hE:=cB.empty w3 w3.heap.size lr;have hbE:Below w3.heap.size w3 (w3.alloc (.cells #[] 56)):=(Below.refl _ w3).alloc lr _;have e3:=cF2 (hx0.below hbE)) | (refine kD rfl _ _ rfl w3.heap.size (.slice (some ⟨w3.heap.size,0,none⟩) 0 0) _ [] L rfl rfl B4 hE (HS.below hbE) Cq ?_;intro v4 w4 hr4 hg4;rw[List.nil_append] at hr4;have hb4:=hbE.trans (hE.grown B4 hg4);obtain⟨a4,c4,rfl⟩:=hr4.sl;obtain⟨b4,rfl,hc4⟩:=hr4.row.at hi;have hg4':=hg0.below hb4;have hx4:=hx0.below hb4;have hZ4:=hZ0.below hb4;have ht4:=hr4.there hi) | (refine cL rfl _ rfl (w.heap.size+1) g rfl hg4' ?_) | (refine wpList_store_mid rfl 56 _ _ rfl b4 (i*5) (au g) rfl rfl ht4 Tryz.info56 (by simp[au,Value.oneCell']) ?_;have t5:=lh w4 b4 (i*5) g;have hr5:=hr4.set hi g;have hne5:w3.heap.size≤b4:=zx hr4;have hx5:=hx4.turn t5 A3;have hZ5:=hZ4.turn t5 A3;have hb5:Below w3.heap.size w3 (w4.setCells b4 (i*5) (au g).toList):=hb4.trans (t5.below hne5);generalize w4.setCells b4 (i*5) (au g).toList=w5 at *;have q0:=cF0 hx5;have q1:=cF1 hx5) | (refine ab rfl _ _ rfl (w.heap.size+2) r m (.slice (some ⟨b4,0,none⟩) L.length c4) rfl rfl hZ5 rfl rfl ?_;intro w6 hZ6 t6))
 refine bodyPost_ret (q5 rfl _ w6 (w.heap.size+2) r m _ rfl hZ6) rfl ?_;have hlen:(L.set i g).length=L.length:=List.length_set;refine⟨⟨_,rfl,some ⟨b4,0,none⟩,c4,by rw[hlen],by rw[hlen];exact hr5.row.turn t6 hZ5 BD⟩,(hb.trans (hb5.mono A3)).trans (t6.below A3)⟩
end
structure Rdw (w1:World) (r m:Int) (a:Option Addr) (c:Nat) (L:List Gr):Prop where
 row: ∀X,Below w1.heap.size w1 X→aA X (.slice a L.length c) L
 at': ∀(y:Int) X,Below w1.heap.size w1 X→Calls Tryz.prog 30 #[.agg #[.int .i64 r,.int .i64 m,.slice a L.length c],.int .i64 y] X fun e w'=>e= .returned (.int .i64 (atG L y))∧Below w1.heap.size w1 w'
 dep: ∀(y:Int) X,has L y=true→Below w1.heap.size w1 X→Calls Tryz.prog 31 #[.agg #[.int .i64 r,.int .i64 m,.slice a L.length c],.int .i64 y] X fun e w'=>e= .returned (.int .i64 (dep L y))∧Below w1.heap.size w1 w'
 top: ∀(y:Int) X,has L y=true→Below w1.heap.size w1 X→Calls Tryz.prog 89 #[.agg #[.int .i64 r,.int .i64 m,.slice a L.length c],.int .i64 y] X fun e w'=>e= .returned (.int .i64 (aZ L y))∧Below w1.heap.size w1 w'
 bel: ∀(y t:Int) X,has L y=true→Below w1.heap.size w1 X→Calls Tryz.prog 16 #[.agg #[.int .i64 r,.int .i64 m,.slice a L.length c],.int .i64 y,.int .i64 t] X fun e w'=>e= .returned (.bool (ag L y t))∧Below w1.heap.size w1 w'
 fan: ∀(y:Int) X,has L y=true→Below w1.heap.size w1 X→Calls Tryz.prog 84 #[.agg #[.int .i64 r,.int .i64 m,.slice a L.length c],.int .i64 y] X fun e w'=>e= .returned (.int .i64 (ce L y))∧Below w1.heap.size w1 w'
 more: ∀(p wt:Int) X,0≤m∧m≤1000→Below w1.heap.size w1 X→Calls Tryz.prog 80 #[.agg #[.int .i64 r,.int .i64 m,.slice a L.length c],.int .i64 p,.int .i64 wt] X fun e w'=>(∃a' c',e= .returned (.tuple #[.agg #[.int .i64 r,.int .i64 (m+1),.slice a' (addG L m p wt).length c'],.int .i64 (m+1)])∧aA w' (.slice a' (addG L m p wt).length c') (addG L m p wt))∧Below w1.heap.size w1 w'
 set: ∀(i:Nat) (g:Gr) X,i<L.length→Below w1.heap.size w1 X→Calls Tryz.prog 90 #[.agg #[.int .i64 r,.int .i64 m,.slice a L.length c],.int .i64 (i:Int),.agg (au g)] X fun e w'=>(∃a' c',e= .returned (.agg #[.int .i64 r,.int .i64 m,.slice a' L.length c'])∧aA w' (.slice a' L.length c') (L.set i g))∧Below w1.heap.size w1 w'
theorem Bg {p:Prop} (h:p:=by rintro e w' ⟨rfl,hb'⟩;exact⟨rfl,Below.stay hX hb'⟩):p:=h
theorem Rdw.of {w w1:World} {r m m0 k:Int} {a:Option Addr} {c:Nat} {L:List Gr} (h:aA w (.slice a L.length c) L) (ok:Ok L m0 k) (hb:Below w.heap.size w w1):Rdw w1 r m a c L where
 row:=fun X hX=>(h.below hb).below hX
 at':=fun y X hX=>(gO r m a c L y X ((h.below hb).below hX) ok.n64).mono Bg
 dep:=fun y X hy hX=>(kG r m a c L y m0 k X ((h.below hb).below hX) ok hy).mono Bg
 top:=fun y X hy hX=>(tL r m a c L y m0 k X ((h.below hb).below hX) ok hy).mono Bg
 bel:=fun y t X hy hX=>(d7 r m a c L y t m0 k X ((h.below hb).below hX) ok hy).mono Bg
 fan:=fun y X hy hX=>(uB r m a c L y m0 k X ((h.below hb).below hX) ok hy).mono Bg
 more:=fun p wt X hm hX=>(wL r m p wt a c L X ((h.below hb).below hX) ok.n64 hm).mono (by rintro e w' ⟨⟨v,rfl,a',c',rfl,h'⟩,hb'⟩;exact⟨⟨a',c',rfl,h'⟩,Below.stay hX hb'⟩)
 set:=fun i g X hi hX=>(u4 r m a c L i g X ((h.below hb).below hX) ok.n64 hi).mono (by rintro e w' ⟨⟨v,rfl,a',c',rfl,h'⟩,hb'⟩;rw[List.length_set] at h' ⊢;exact⟨⟨a',c',rfl,h'⟩,Below.stay hX hb'⟩)
theorem cU (r m:Int) {m0 k:Int} {a:Option Addr} {c:Nat} {L:List Gr} {w:World} (h:aA w (.slice a L.length c) L) (ok:Ok L m0 k):
  (Blk ((w.alloc (.cells #[.int .i64 r,.int .i64 m,.slice a L.length c] 29)).alloc (.cells #[.int .i64 0,.int .i64 0,.slice none 0 0] 29)) w.heap.size 29 (ae r m (.slice a L.length c)))∧(Blk ((w.alloc (.cells #[.int .i64 r,.int .i64 m,.slice a L.length c] 29)).alloc (.cells #[.int .i64 0,.int .i64 0,.slice none 0 0] 29)) (w.heap.size+1) 29 (ae 0 0 (.slice none 0 0)))∧(Below w.heap.size w ((w.alloc (.cells #[.int .i64 r,.int .i64 m,.slice a L.length c] 29)).alloc (.cells #[.int .i64 0,.int .i64 0,.slice none 0 0] 29)))∧(w.heap.size+2≤((w.alloc (.cells #[.int .i64 r,.int .i64 m,.slice a L.length c] 29)).alloc (.cells #[.int .i64 0,.int .i64 0,.slice none 0 0] 29)).heap.size)∧(Hid (Rdw ((w.alloc (.cells #[.int .i64 r,.int .i64 m,.slice a L.length c] 29)).alloc (.cells #[.int .i64 0,.int .i64 0,.slice none 0 0] 29)) r m a c L))∧(Hid (∀X,Below ((w.alloc (.cells #[.int .i64 r,.int .i64 m,.slice a L.length c] 29)).alloc (.cells #[.int .i64 0,.int .i64 0,.slice none 0 0] 29)).heap.size ((w.alloc (.cells #[.int .i64 r,.int .i64 m,.slice a L.length c] 29)).alloc (.cells #[.int .i64 0,.int .i64 0,.slice none 0 0] 29)) X→Blk X w.heap.size 29 (ae r m (.slice a L.length c))))∧(Hid (∀X,Below ((w.alloc (.cells #[.int .i64 r,.int .i64 m,.slice a L.length c] 29)).alloc (.cells #[.int .i64 0,.int .i64 0,.slice none 0 0] 29)).heap.size ((w.alloc (.cells #[.int .i64 r,.int .i64 m,.slice a L.length c] 29)).alloc (.cells #[.int .i64 0,.int .i64 0,.slice none 0 0] 29)) X→Blk X (w.heap.size+1) 29 (ae 0 0 (.slice none 0 0))))∧(Hid (∀X,Below ((w.alloc (.cells #[.int .i64 r,.int .i64 m,.slice a L.length c] 29)).alloc (.cells #[.int .i64 0,.int .i64 0,.slice none 0 0] 29)).heap.size ((w.alloc (.cells #[.int .i64 r,.int .i64 m,.slice a L.length c] 29)).alloc (.cells #[.int .i64 0,.int .i64 0,.slice none 0 0] 29)) X→Below w.heap.size w X)):=by
 have hx0:Blk ((w.alloc (.cells #[.int .i64 r,.int .i64 m,.slice a L.length c] 29)).alloc (.cells #[.int .i64 0,.int .i64 0,.slice none 0 0] 29)) w.heap.size 29 (ae r m (.slice a L.length c)):=(Blk.new w 29 _).alloc _;have hZ0:Blk ((w.alloc (.cells #[.int .i64 r,.int .i64 m,.slice a L.length c] 29)).alloc (.cells #[.int .i64 0,.int .i64 0,.slice none 0 0] 29)) (w.heap.size+1) 29 (ae 0 0 (.slice none 0 0)):=by
  have:=Blk.new (w.alloc (.cells #[.int .i64 r,.int .i64 m,.slice a L.length c] 29)) 29 (ae 0 0 (.slice none 0 0));have e:(w.alloc (.cells #[.int .i64 r,.int .i64 m,.slice a L.length c] 29)).heap.size=w.heap.size+1:=B4
  rw[e] at this;exact this
 have hb:Below w.heap.size w ((w.alloc (.cells #[.int .i64 r,.int .i64 m,.slice a L.length c] 29)).alloc (.cells #[.int .i64 0,.int .i64 0,.slice none 0 0] 29)):=((Below.refl _ w).alloc lr _).alloc B4 _;have hsz:w.heap.size+2≤((w.alloc (.cells #[.int .i64 r,.int .i64 m,.slice a L.length c] 29)).alloc (.cells #[.int .i64 0,.int .i64 0,.slice none 0 0] 29)).heap.size:=B4
 have HR:Hid (Rdw ((w.alloc (.cells #[.int .i64 r,.int .i64 m,.slice a L.length c] 29)).alloc (.cells #[.int .i64 0,.int .i64 0,.slice none 0 0] 29)) r m a c L):=Hd (Rdw.of h ok hb);have HXB:Hid (∀X,Below ((w.alloc (.cells #[.int .i64 r,.int .i64 m,.slice a L.length c] 29)).alloc (.cells #[.int .i64 0,.int .i64 0,.slice none 0 0] 29)).heap.size ((w.alloc (.cells #[.int .i64 r,.int .i64 m,.slice a L.length c] 29)).alloc (.cells #[.int .i64 0,.int .i64 0,.slice none 0 0] 29)) X→Blk X w.heap.size 29 (ae r m (.slice a L.length c))):=Hd fun X hX=>hx0.below hX
 have HZB:Hid (∀X,Below ((w.alloc (.cells #[.int .i64 r,.int .i64 m,.slice a L.length c] 29)).alloc (.cells #[.int .i64 0,.int .i64 0,.slice none 0 0] 29)).heap.size ((w.alloc (.cells #[.int .i64 r,.int .i64 m,.slice a L.length c] 29)).alloc (.cells #[.int .i64 0,.int .i64 0,.slice none 0 0] 29)) X→Blk X (w.heap.size+1) 29 (ae 0 0 (.slice none 0 0))):=Hd fun X hX=>hZ0.below hX
 have HFin:Hid (∀X,Below ((w.alloc (.cells #[.int .i64 r,.int .i64 m,.slice a L.length c] 29)).alloc (.cells #[.int .i64 0,.int .i64 0,.slice none 0 0] 29)).heap.size ((w.alloc (.cells #[.int .i64 r,.int .i64 m,.slice a L.length c] 29)).alloc (.cells #[.int .i64 0,.int .i64 0,.slice none 0 0] 29)) X→Below w.heap.size w X):=Hd fun X hX=>hb.trans (hX.mono A3)
 exact⟨hx0,hZ0,hb,hsz,HR,HXB,HZB,HFin⟩
theorem vY (r:Int) (w:World) (h1:1≤r) (h2:r≤64):
  Calls Tryz.prog 23 #[.int .i64 r] w fun e w'=>(∃v,e= .returned (.tuple #[v,.int .i64 0])∧bm w' v r 0 [])∧Below w.heap.size w w':=by
 have hZ:Blk (w.alloc (.cells #[.int .i64 0,.int .i64 0,.slice none 0 0] 29)) w.heap.size 29 (ae 0 0 (.slice none 0 0)):=Blk.new w 29 _;have hb:Below w.heap.size w (w.alloc (.cells #[.int .i64 0,.int .i64 0,.slice none 0 0] 29)):=(Below.refl _ w).alloc lr _;have h3: ¬r<1:=A3
 have h4: ¬ 64<r:=A3
 go_enter Tryz.func23,Tryz.ntmps23
 go_wp2_with (first | (refine ai rfl rfl ?_;generalize w.alloc (.cells #[.int .i64 0,.int .i64 0,.slice none 0 0] 29)=w1 at *) | (refine ab rfl _ _ rfl w.heap.size r 0 (.slice none 0 0) rfl rfl hZ rfl rfl ?_;intro wz hZ9 t9))
 refine bodyPost_ret (am rfl _ wz w.heap.size r 0 (.slice none 0 0) _ rfl rfl hZ9) rfl ?_;exact⟨⟨_,rfl,none,0,rfl,aA.nil _⟩,hb.trans (t9.below lr)⟩
section
variable (r m:Int) (a:Option Addr) (c:Nat) (L:List Gr)
theorem zW {p:Prop} (h:p:=by refine bodyPost_ret (am rfl _ wz (w.heap.size+1) r m (.slice a L.length c) _ rfl rfl hZ9) rfl ?_;rw[HC.out,HN.out];exact⟨⟨_,rfl,a,c,rfl,(HR.row _ hbi).turn t9 (HZB.out _ hbi) (by decide)⟩,(HFin.out _ hbi).trans (t9.below (by omega))⟩):p:=h
theorem pY (x wt:Int) (m0 k:Int) (w:World) (h:aA w (.slice a L.length c) L) (ok:Ok L m0 k) (hh:has L x=false):
  Calls Tryz.prog 50 #[.agg (ae r m (.slice a L.length c)),.int .i64 x,.int .i64 wt] w fun e w'=>(∃v,e= .returned (.tuple #[v,.int .i64 (aT L x wt)])∧bm w' v r m (aJ L x wt))∧Below w.heap.size w w':=by
 have hc:aT L x wt=4:=by unfold aT;rw[if_pos hh]
 have HC:=Hd hc;have HN:Hid (aJ L x wt=L):=Hd Bj;obtain⟨hx0,hZ0,hb,hsz,HR,HXB,HZB,HFin⟩:=cU r m h ok;have HA:Hid (atG L x= -1):=Hd (fq hh);clear hh;clear hc h ok;unfold ae;go_enter Tryz.func50,Tryz.ntmps50
 go_wp2_with (first | (have hgd:=hx0;refine ai rfl rfl ?_;clear hgd;generalize ((w.alloc (.cells #[.int .i64 r,.int .i64 m,.slice a L.length c] 29)).alloc (.cells #[.int .i64 0,.int .i64 0,.slice none 0 0] 29))=w3 at *;have hbi:=Below.refl w3.heap.size w3;clear hx0 hZ0 hb) | (go_at_call 30;refine(HR.at' _ _ A4).mono ?_;rw[HA.out];rintro e wi ⟨rfl,hbi⟩) | (refine af rfl _ rfl w.heap.size r m (.slice a L.length c) rfl (HXB.out _ A4) ?_) | (refine ab rfl _ _ rfl (w.heap.size+1) r m (.slice a L.length c) rfl rfl (HZB.out _ A4) rfl rfl ?_;intro wz hZ9 t9))
 exact zW
theorem zP {p:Prop} (h:p:=by refine bodyPost_ret (am rfl _ wz (w.heap.size+1) r m (.slice (some ⟨b,0,none⟩) L.length c) _ rfl rfl hZ9) rfl ?_;rw[HC.out,HN.out];exact⟨⟨_,rfl,some ⟨b,0,none⟩,c,rfl,(HR.row _ hbi).turn t9 (HZB.out _ hbi) (by decide)⟩,(HFin.out _ hbi).trans (t9.below (by omega))⟩):p:=h
theorem m8 (x wt:Int) (m0 k:Int) (w:World) (h:aA w (.slice a L.length c) L) (ok:Ok L m0 k) (hh:has L x=true) (hp:(gr L x).pa= -1):
  Calls Tryz.prog 50 #[.agg (ae r m (.slice a L.length c)),.int .i64 x,.int .i64 wt] w fun e w'=>(∃v,e= .returned (.tuple #[v,.int .i64 (aT L x wt)])∧bm w' v r m (aJ L x wt))∧Below w.heap.size w w':=by
 have hc:aT L x wt=15:=by unfold aT;rw[if_neg B6,if_pos A3]
 have HC:=Hd hc;have HN:Hid (aJ L x wt=L):=Hd Bj;obtain⟨hx0,hZ0,hb,hsz,HR,HXB,HZB,HFin⟩:=cU r m h ok;have HA:Hid (atG L x=(pos L x:Int)):=Hd (aF hh);have HH:=Hd hh;have hj:=aC hh;obtain⟨b,rfl,hcl⟩:=h.at hj;have HCL:Hid (∀X,Below ((w.alloc (.cells #[.int .i64 r,.int .i64 m,.slice (some ⟨b,0,none⟩) L.length c] 29)).alloc (.cells #[.int .i64 0,.int .i64 0,.slice none 0 0] 29)).heap.size ((w.alloc (.cells #[.int .i64 r,.int .i64 m,.slice (some ⟨b,0,none⟩) L.length c] 29)).alloc (.cells #[.int .i64 0,.int .i64 0,.slice none 0 0] 29)) X→X.cell? ⟨b,pos L x*5+1,none⟩=some (.int .i64 (gr L x).pa)∧X.rangeAt b (pos L x*5) (au (gr L x)).toList):=Hd fun X hX=>⟨((hcl.below hb).below hX).pa hj,((hcl.below hb).below hX).range hj⟩
 rw[hp] at HCL;clear hh hp;generalize pos L x=j at *;clear hc h ok;unfold ae;go_enter Tryz.func50,Tryz.ntmps50
 go_wp2_with (first | (have hgd:=hx0;refine ai rfl rfl ?_;clear hgd;generalize ((w.alloc (.cells #[.int .i64 r,.int .i64 m,.slice (some ⟨b,0,none⟩) L.length c] 29)).alloc (.cells #[.int .i64 0,.int .i64 0,.slice none 0 0] 29))=w3 at *;have hbi:=Below.refl w3.heap.size w3;clear hx0 hZ0 hb) | (go_at_call 30;refine(HR.at' _ _ A4).mono ?_;rw[HA.out];rintro e wi ⟨rfl,hbi⟩;have hX2:=HXB.out wi hbi;have f0:=cF0 hX2;have f1:=cF1 hX2;have f2:=cF2 hX2;clear hX2;have g1:=(HCL.out wi hbi).1) | (refine af rfl _ rfl w.heap.size r m (.slice (some ⟨b,0,none⟩) L.length c) rfl (HXB.out _ A4) ?_) | (refine ab rfl _ _ rfl (w.heap.size+1) r m (.slice (some ⟨b,0,none⟩) L.length c) rfl rfl (HZB.out _ A4) rfl rfl ?_;intro wz hZ9 t9))
 exact zP
theorem m4 (x wt:Int) (m0 k:Int) (w:World) (h:aA w (.slice a L.length c) L) (ok:Ok L m0 k) (hh:has L x=true) (hp:0≤(gr L x).pa) (hw:wt<1):
  Calls Tryz.prog 50 #[.agg (ae r m (.slice a L.length c)),.int .i64 x,.int .i64 wt] w fun e w'=>(∃v,e= .returned (.tuple #[v,.int .i64 (aT L x wt)])∧bm w' v r m (aJ L x wt))∧Below w.heap.size w w':=by
 have hc:aT L x wt=13:=by unfold aT;rw[if_neg B6,if_neg A3,if_pos A3]
 have HC:=Hd hc;have HN:Hid (aJ L x wt=L):=Hd Bj;obtain⟨hx0,hZ0,hb,hsz,HR,HXB,HZB,HFin⟩:=cU r m h ok;have HA:Hid (atG L x=(pos L x:Int)):=Hd (aF hh);have HH:=Hd hh;have hj:=aC hh;obtain⟨b,rfl,hcl⟩:=h.at hj;have HCL:Hid (∀X,Below ((w.alloc (.cells #[.int .i64 r,.int .i64 m,.slice (some ⟨b,0,none⟩) L.length c] 29)).alloc (.cells #[.int .i64 0,.int .i64 0,.slice none 0 0] 29)).heap.size ((w.alloc (.cells #[.int .i64 r,.int .i64 m,.slice (some ⟨b,0,none⟩) L.length c] 29)).alloc (.cells #[.int .i64 0,.int .i64 0,.slice none 0 0] 29)) X→X.cell? ⟨b,pos L x*5+1,none⟩=some (.int .i64 (gr L x).pa)∧X.rangeAt b (pos L x*5) (au (gr L x)).toList):=Hd fun X hX=>⟨((hcl.below hb).below hX).pa hj,((hcl.below hb).below hX).range hj⟩
 clear hh
 skip
 generalize (gr L x).pa=pa at *;generalize pos L x=j at *;clear hc h ok;unfold ae;go_enter Tryz.func50,Tryz.ntmps50
 go_wp2_with (first | (have hgd:=hx0;refine ai rfl rfl ?_;clear hgd;generalize ((w.alloc (.cells #[.int .i64 r,.int .i64 m,.slice (some ⟨b,0,none⟩) L.length c] 29)).alloc (.cells #[.int .i64 0,.int .i64 0,.slice none 0 0] 29))=w3 at *;have hbi:=Below.refl w3.heap.size w3;clear hx0 hZ0 hb) | (go_at_call 30;refine(HR.at' _ _ A4).mono ?_;rw[HA.out];rintro e wi ⟨rfl,hbi⟩;have hX2:=HXB.out wi hbi;have f0:=cF0 hX2;have f1:=cF1 hX2;have f2:=cF2 hX2;clear hX2;have g1:=(HCL.out wi hbi).1) | (refine af rfl _ rfl w.heap.size r m (.slice (some ⟨b,0,none⟩) L.length c) rfl (HXB.out _ A4) ?_) | (refine ab rfl _ _ rfl (w.heap.size+1) r m (.slice (some ⟨b,0,none⟩) L.length c) rfl rfl (HZB.out _ A4) rfl rfl ?_;intro wz hZ9 t9))
 exact zP
theorem mX (x wt:Int) (m0 k:Int) (w:World) (h:aA w (.slice a L.length c) L) (ok:Ok L m0 k) (hh:has L x=true) (hp:0≤(gr L x).pa) (hw:10000<wt):
  Calls Tryz.prog 50 #[.agg (ae r m (.slice a L.length c)),.int .i64 x,.int .i64 wt] w fun e w'=>(∃v,e= .returned (.tuple #[v,.int .i64 (aT L x wt)])∧bm w' v r m (aJ L x wt))∧Below w.heap.size w w':=by
 have hc:aT L x wt=13:=by unfold aT;rw[if_neg B6,if_neg A3,if_pos A3]
 have HC:=Hd hc;have HN:Hid (aJ L x wt=L):=Hd Bj;obtain⟨hx0,hZ0,hb,hsz,HR,HXB,HZB,HFin⟩:=cU r m h ok;have HA:Hid (atG L x=(pos L x:Int)):=Hd (aF hh);have HH:=Hd hh;have hj:=aC hh;obtain⟨b,rfl,hcl⟩:=h.at hj;have HCL:Hid (∀X,Below ((w.alloc (.cells #[.int .i64 r,.int .i64 m,.slice (some ⟨b,0,none⟩) L.length c] 29)).alloc (.cells #[.int .i64 0,.int .i64 0,.slice none 0 0] 29)).heap.size ((w.alloc (.cells #[.int .i64 r,.int .i64 m,.slice (some ⟨b,0,none⟩) L.length c] 29)).alloc (.cells #[.int .i64 0,.int .i64 0,.slice none 0 0] 29)) X→X.cell? ⟨b,pos L x*5+1,none⟩=some (.int .i64 (gr L x).pa)∧X.rangeAt b (pos L x*5) (au (gr L x)).toList):=Hd fun X hX=>⟨((hcl.below hb).below hX).pa hj,((hcl.below hb).below hX).range hj⟩
 clear hh;have hw1: ¬wt<1:=A3
 generalize (gr L x).pa=pa at *;generalize pos L x=j at *;clear hc h ok;unfold ae;go_enter Tryz.func50,Tryz.ntmps50
 go_wp2_with (first | (have hgd:=hx0;refine ai rfl rfl ?_;clear hgd;generalize ((w.alloc (.cells #[.int .i64 r,.int .i64 m,.slice (some ⟨b,0,none⟩) L.length c] 29)).alloc (.cells #[.int .i64 0,.int .i64 0,.slice none 0 0] 29))=w3 at *;have hbi:=Below.refl w3.heap.size w3;clear hx0 hZ0 hb) | (go_at_call 30;refine(HR.at' _ _ A4).mono ?_;rw[HA.out];rintro e wi ⟨rfl,hbi⟩;have hX2:=HXB.out wi hbi;have f0:=cF0 hX2;have f1:=cF1 hX2;have f2:=cF2 hX2;clear hX2;have g1:=(HCL.out wi hbi).1) | (refine af rfl _ rfl w.heap.size r m (.slice (some ⟨b,0,none⟩) L.length c) rfl (HXB.out _ A4) ?_) | (refine ab rfl _ _ rfl (w.heap.size+1) r m (.slice (some ⟨b,0,none⟩) L.length c) rfl rfl (HZB.out _ A4) rfl rfl ?_;intro wz hZ9 t9))
 exact zP
theorem zX {p:Prop} (h:p:=by refine bodyPost_ret (am rfl _ wz (w.heap.size+1) r m _ _ rfl rfl hZ9) rfl ?_;rw[HC.out,HN.out];exact⟨⟨_,rfl,a',c',by rw[List.length_set],by rw[List.length_set];exact hr9.turn t9 (HZB.out _ hbi) (by decide)⟩,(HFin.out _ hbi).trans (t9.below (by omega))⟩):p:=h
theorem oV (x wt:Int) (m0 k:Int) (w:World) (h:aA w (.slice a L.length c) L) (ok:Ok L m0 k) (hh:has L x=true) (hp:0≤(gr L x).pa) (hw:1≤wt∧wt≤10000):
  Calls Tryz.prog 50 #[.agg (ae r m (.slice a L.length c)),.int .i64 x,.int .i64 wt] w fun e w'=>(∃v,e= .returned (.tuple #[v,.int .i64 (aT L x wt)])∧bm w' v r m (aJ L x wt))∧Below w.heap.size w w':=by
 have hc:aT L x wt=0:=by unfold aT;rw[if_neg B6,if_neg A3,if_neg A3]
 have HC:=Hd hc;have HN:Hid (aJ L x wt=fh L x wt):=Hd Bj;obtain⟨hx0,hZ0,hb,hsz,HR,HXB,HZB,HFin⟩:=cU r m h ok;have HA:Hid (atG L x=(pos L x:Int)):=Hd (aF hh);have HH:=Hd hh;have hj:=aC hh;obtain⟨b,rfl,hcl⟩:=h.at hj;have HCL:Hid (∀X,Below ((w.alloc (.cells #[.int .i64 r,.int .i64 m,.slice (some ⟨b,0,none⟩) L.length c] 29)).alloc (.cells #[.int .i64 0,.int .i64 0,.slice none 0 0] 29)).heap.size ((w.alloc (.cells #[.int .i64 r,.int .i64 m,.slice (some ⟨b,0,none⟩) L.length c] 29)).alloc (.cells #[.int .i64 0,.int .i64 0,.slice none 0 0] 29)) X→X.cell? ⟨b,pos L x*5+1,none⟩=some (.int .i64 (gr L x).pa)∧X.rangeAt b (pos L x*5) (au (gr L x)).toList):=Hd fun X hX=>⟨((hcl.below hb).below hX).pa hj,((hcl.below hb).below hX).range hj⟩
 have HGG:Hid (fh L x wt=L.set (pos L x) ⟨(gr L x).id,(gr L x).pa,wt,(gr L x).me,(gr L x).aw⟩):=Hd (by unfold fh dT;rw[cV hh]);rw[HGG.out] at HN;have hw1: ¬wt<1:=A3
 have hw2: ¬ 10000<wt:=A3
 clear hh hw HGG;generalize gr L x=g at *;generalize pos L x=j at *;clear hc h ok;unfold ae;go_enter Tryz.func50,Tryz.ntmps50
 go_wp2_with (first | (have hgd:=hx0;refine ai rfl rfl ?_;clear hgd;generalize ((w.alloc (.cells #[.int .i64 r,.int .i64 m,.slice (some ⟨b,0,none⟩) L.length c] 29)).alloc (.cells #[.int .i64 0,.int .i64 0,.slice none 0 0] 29))=w3 at *;have hbi:=Below.refl w3.heap.size w3;clear hx0 hZ0 hb) | (go_at_call 30;refine(HR.at' _ _ A4).mono ?_;rw[HA.out];rintro e wi ⟨rfl,hbi⟩;have hX2:=HXB.out wi hbi;have f0:=cF0 hX2;have f1:=cF1 hX2;have f2:=cF2 hX2;clear hX2;have g1:=(HCL.out wi hbi).1) | (refine af rfl _ rfl w.heap.size r m (.slice (some ⟨b,0,none⟩) L.length c) rfl (HXB.out _ A4) ?_) | (refine wpList_load_mid rfl 56 _ rfl b (j*5) rfl _ _ (HCL.out _ A4).2 Tryz.underlying56 rfl Tryz.info56 ?_) | (refine bw rfl rfl ?_;have hZg:=Blk.new wi 56 #[.int .i64 0,.int .i64 0,.int .i64 0,.int .i64 0,.int .i64 0];have hbg:=Below.allocS hbi (.cells #[.int .i64 0,.int .i64 0,.int .i64 0,.int .i64 0,.int .i64 0] 56);have hltg:wi.heap.size<(wi.alloc (.cells #[.int .i64 0,.int .i64 0,.int .i64 0,.int .i64 0,.int .i64 0] 56)).heap.size:=B4;have hleg:=hbi.size;generalize wi.alloc (.cells #[.int .i64 0,.int .i64 0,.int .i64 0,.int .i64 0,.int .i64 0] 56)=wg at *) | (refine bu rfl _ _ rfl wi.heap.size g rfl rfl hZg rfl ?_;intro wh hZh th;have hbh:Below w3.heap.size w3 wh:=hbg.trans (th.below hleg);have fz:=hZh.fz 2;have cx2:=cE2 hZh;have hZk:Blk (wh.setCell ⟨wi.heap.size,2,none⟩ (.int .i64 wt)) wi.heap.size 56 (au ⟨g.id,g.pa,wt,g.me,g.aw⟩):=hZh.set 2 (.int .i64 wt);have hbk:Below w3.heap.size w3 (wh.setCell ⟨wi.heap.size,2,none⟩ (.int .i64 wt)):=hbh.trans ((aX.setCell wh wi.heap.size 2 _).below hleg)) | (refine cL rfl _ rfl wi.heap.size ⟨g.id,g.pa,wt,g.me,g.aw⟩ rfl hZk ?_) | (go_at_call 90;refine(HR.set _ ⟨g.id,g.pa,wt,g.me,g.aw⟩ _ hj A4).mono ?_;rintro e wi ⟨⟨a',c',rfl,hr9⟩,hbi⟩) | (refine ab rfl _ _ rfl (w.heap.size+1) r m (.slice a' L.length c') rfl rfl (HZB.out _ A4) rfl rfl ?_;intro wz hZ9 t9))
 exact zX
end
section
variable (r m:Int) (a:Option Addr) (c:Nat) (L:List Gr)
theorem te (x me aw:Int) (m0 k:Int) (w:World) (h:aA w (.slice a L.length c) L) (ok:Ok L m0 k) (hh:has L x=false):
  Calls Tryz.prog 52 #[.agg (ae r m (.slice a L.length c)),.int .i64 x,.int .i64 me,.int .i64 aw] w fun e w'=>(∃v,e= .returned (.tuple #[v,.int .i64 (ap L x me aw)])∧bm w' v r m (aj L x me aw))∧Below w.heap.size w w':=by
 have hc:ap L x me aw=4:=by unfold ap;rw[if_pos hh]
 have HC:=Hd hc;have HN:Hid (aj L x me aw=L):=Hd BF;obtain⟨hx0,hZ0,hb,hsz,HR,HXB,HZB,HFin⟩:=cU r m h ok;have HA:Hid (atG L x= -1):=Hd (fq hh);clear hh;clear hc h ok;unfold ae;go_enter Tryz.func52,Tryz.ntmps52
 go_wp2_with (first | (have hgd:=hx0;refine ai rfl rfl ?_;clear hgd;generalize ((w.alloc (.cells #[.int .i64 r,.int .i64 m,.slice a L.length c] 29)).alloc (.cells #[.int .i64 0,.int .i64 0,.slice none 0 0] 29))=w3 at *;have hbi:=Below.refl w3.heap.size w3;clear hx0 hZ0 hb) | (go_at_call 30;refine(HR.at' _ _ A4).mono ?_;rw[HA.out];rintro e wi ⟨rfl,hbi⟩) | (refine af rfl _ rfl w.heap.size r m (.slice a L.length c) rfl (HXB.out _ A4) ?_) | (refine ab rfl _ _ rfl (w.heap.size+1) r m (.slice a L.length c) rfl rfl (HZB.out _ A4) rfl rfl ?_;intro wz hZ9 t9))
 exact zW
theorem pk (x me aw:Int) (m0 k:Int) (w:World) (h:aA w (.slice a L.length c) L) (ok:Ok L m0 k) (hh:has L x=true) (h0:0<me) (h32:ce L x=32):
  Calls Tryz.prog 52 #[.agg (ae r m (.slice a L.length c)),.int .i64 x,.int .i64 me,.int .i64 aw] w fun e w'=>(∃v,e= .returned (.tuple #[v,.int .i64 (ap L x me aw)])∧bm w' v r m (aj L x me aw))∧Below w.heap.size w w':=by
 have hc:ap L x me aw=6:=by unfold ap;rw[if_neg B6,if_pos ⟨h0,h32⟩]
 have HC:=Hd hc;have HN:Hid (aj L x me aw=L):=Hd BF;obtain⟨hx0,hZ0,hb,hsz,HR,HXB,HZB,HFin⟩:=cU r m h ok;have HA:Hid (atG L x=(pos L x:Int)):=Hd (aF hh);have HH:=Hd hh;have h322:=dP h32;clear hh h32;generalize pos L x=j at *;clear hc h ok;unfold ae;go_enter Tryz.func52,Tryz.ntmps52
 go_wp2_with (first | (have hgd:=hx0;refine ai rfl rfl ?_;clear hgd;generalize ((w.alloc (.cells #[.int .i64 r,.int .i64 m,.slice a L.length c] 29)).alloc (.cells #[.int .i64 0,.int .i64 0,.slice none 0 0] 29))=w3 at *;have hbi:=Below.refl w3.heap.size w3;clear hx0 hZ0 hb) | (go_at_call 30;refine(HR.at' _ _ A4).mono ?_;rw[HA.out];rintro e wi ⟨rfl,hbi⟩;have hX2:=HXB.out wi hbi;have f0:=cF0 hX2;have f1:=cF1 hX2;have f2:=cF2 hX2;clear hX2) | (go_at_call 84;refine(HR.fan _ _ HH.out A4).mono ?_;rintro e wi ⟨rfl,hbi⟩) | (refine af rfl _ rfl w.heap.size r m (.slice a L.length c) rfl (HXB.out _ A4) ?_) | (refine ab rfl _ _ rfl (w.heap.size+1) r m (.slice a L.length c) rfl rfl (HZB.out _ A4) rfl rfl ?_;intro wz hZ9 t9))
 exact zW
theorem Ab {p:Prop} (h:p:=by refine bodyPost_ret (am rfl _ wz (w.heap.size+1) r m (.slice (some ⟨b,0,none⟩) L.length c) _ rfl rfl hZ9) rfl ?_;rw[HC.out,HN.out];exact⟨⟨_,rfl,some ⟨b,0,none⟩,c,rfl,(HR.row _ hbk).turn t9 (HZB.out _ hbk) (by decide)⟩,(HFin.out _ hbk).trans (t9.below (by omega))⟩):p:=h
theorem pq (x me aw:Int) (m0 k:Int) (w:World) (h:aA w (.slice a L.length c) L) (ok:Ok L m0 k) (hh:has L x=true) (h0:0<me) (h32: ¬ce L x=32) (hs:(gr L x).aw+aw<0) (hme: -1≤me∧me≤1) (haw: -1≤aw∧aw≤1):
  Calls Tryz.prog 52 #[.agg (ae r m (.slice a L.length c)),.int .i64 x,.int .i64 me,.int .i64 aw] w fun e w'=>(∃v,e= .returned (.tuple #[v,.int .i64 (ap L x me aw)])∧bm w' v r m (aj L x me aw))∧Below w.heap.size w w':=by
 have hc:ap L x me aw=10:=by unfold ap;rw[if_neg B6,if_neg (fun e=>h32 e.2),if_pos A3]
 have HC:=Hd hc;have HN:Hid (aj L x me aw=L):=Hd BF;obtain⟨hx0,hZ0,hb,hsz,HR,HXB,HZB,HFin⟩:=cU r m h ok;have HA:Hid (atG L x=(pos L x:Int)):=Hd (aF hh);have HH:=Hd hh;have hj:=aC hh;obtain⟨b,rfl,hcl⟩:=h.at hj;have HCL:Hid (∀X,Below ((w.alloc (.cells #[.int .i64 r,.int .i64 m,.slice (some ⟨b,0,none⟩) L.length c] 29)).alloc (.cells #[.int .i64 0,.int .i64 0,.slice none 0 0] 29)).heap.size ((w.alloc (.cells #[.int .i64 r,.int .i64 m,.slice (some ⟨b,0,none⟩) L.length c] 29)).alloc (.cells #[.int .i64 0,.int .i64 0,.slice none 0 0] 29)) X→X.cell? ⟨b,pos L x*5+1,none⟩=some (.int .i64 (gr L x).pa)∧X.rangeAt b (pos L x*5) (au (gr L x)).toList):=Hd fun X hX=>⟨((hcl.below hb).below hX).pa hj,((hcl.below hb).below hX).range hj⟩
 have hnum:=ok.num _ (bd hh);have hkk:=ok.k1;have hff:=aB h32;obtain⟨n1,n2,n3,_⟩:=hnum;have n5:(gr L x).me≤1000:=A3
 have n6:0≤(gr L x).me:=A3
 have n7:(gr L x).aw≤1000:=A3
 clear hh n2 n3 hkk h32;generalize gr L x=g at *;generalize pos L x=j at *;obtain⟨hme1,hme2⟩:=hme;obtain⟨haw1,haw2⟩:=haw;clear hc h ok;unfold ae;go_enter Tryz.func52,Tryz.ntmps52
 go_wp2_with (first | (have hgd:=hx0;refine ai rfl rfl ?_;clear hgd;generalize ((w.alloc (.cells #[.int .i64 r,.int .i64 m,.slice (some ⟨b,0,none⟩) L.length c] 29)).alloc (.cells #[.int .i64 0,.int .i64 0,.slice none 0 0] 29))=w3 at *;have hbi:=Below.refl w3.heap.size w3;clear hx0 hZ0 hb) | (go_at_call 30;refine(HR.at' _ _ A4).mono ?_;rw[HA.out];rintro e wi ⟨rfl,hbi⟩;have hX2:=HXB.out wi hbi;have f0:=cF0 hX2;have f1:=cF1 hX2;have f2:=cF2 hX2;clear hX2;have g1:=(HCL.out wi hbi).1) | (go_at_call 84;refine(HR.fan _ _ HH.out A4).mono ?_;rintro e wi ⟨rfl,hbi⟩;have hX2:=HXB.out wi hbi;have f0:=cF0 hX2;have f1:=cF1 hX2;have f2:=cF2 hX2;clear hX2;have g1:=(HCL.out wi hbi).1) | (refine af rfl _ rfl w.heap.size r m (.slice (some ⟨b,0,none⟩) L.length c) rfl (HXB.out _ A4) ?_) | (refine wpList_load_mid rfl 56 _ rfl b (j*5) rfl _ _ (HCL.out _ A4).2 Tryz.underlying56 rfl Tryz.info56 ?_) | (refine bw rfl rfl ?_;have hZg:=Blk.new wi 56 #[.int .i64 0,.int .i64 0,.int .i64 0,.int .i64 0,.int .i64 0];have hbg:=Below.allocS hbi (.cells #[.int .i64 0,.int .i64 0,.int .i64 0,.int .i64 0,.int .i64 0] 56);have hltg:wi.heap.size<(wi.alloc (.cells #[.int .i64 0,.int .i64 0,.int .i64 0,.int .i64 0,.int .i64 0] 56)).heap.size:=B4;have hleg:=hbi.size;generalize wi.alloc (.cells #[.int .i64 0,.int .i64 0,.int .i64 0,.int .i64 0,.int .i64 0] 56)=wg at *) | (refine bu rfl _ _ rfl wi.heap.size g rfl rfl hZg rfl ?_;intro wh hZh th;have hbh:Below w3.heap.size w3 wh:=hbg.trans (th.below hleg);have fz3:=hZh.fz 3;have fz4:=hZh.fz 4;have cx3:=cE3 hZh;have cx4:=cE4 hZh;have hZi:Blk (wh.setCell ⟨wi.heap.size,3,none⟩ (.int .i64 (g.me+me))) wi.heap.size 56 (au ⟨g.id,g.pa,g.wt,g.me+me,g.aw⟩):=hZh.set 3 _;have hbj:Below w3.heap.size w3 (wh.setCell ⟨wi.heap.size,3,none⟩ (.int .i64 (g.me+me))):=hbh.trans ((aX.setCell wh wi.heap.size 3 _).below hleg);have cy4:=cE4 hZi;have fy4:=hZi.fz 4;have cz4x:=cE3 hZi;have hZk:Blk ((wh.setCell ⟨wi.heap.size,3,none⟩ (.int .i64 (g.me+me))).setCell ⟨wi.heap.size,4,none⟩ (.int .i64 (g.aw+aw))) wi.heap.size 56 (au ⟨g.id,g.pa,g.wt,g.me+me,g.aw+aw⟩):=hZi.set 4 _;have hbk:Below w3.heap.size w3 ((wh.setCell ⟨wi.heap.size,3,none⟩ (.int .i64 (g.me+me))).setCell ⟨wi.heap.size,4,none⟩ (.int .i64 (g.aw+aw))):=hbj.trans ((aX.setCell _ wi.heap.size 4 _).below hleg);have cz3:=cE3 hZk;have cz4:=cE4 hZk) | (refine ab rfl _ _ rfl (w.heap.size+1) r m (.slice (some ⟨b,0,none⟩) L.length c) rfl rfl (HZB.out _ A4) rfl rfl ?_;intro wz hZ9 t9))
 exact Ab
theorem ny (x me aw:Int) (m0 k:Int) (w:World) (h:aA w (.slice a L.length c) L) (ok:Ok L m0 k) (hh:has L x=true) (h0:0<me) (h32: ¬ce L x=32) (hs0: ¬(gr L x).aw+aw<0) (hs:(gr L x).me+me<(gr L x).aw+aw) (hme: -1≤me∧me≤1) (haw: -1≤aw∧aw≤1):
  Calls Tryz.prog 52 #[.agg (ae r m (.slice a L.length c)),.int .i64 x,.int .i64 me,.int .i64 aw] w fun e w'=>(∃v,e= .returned (.tuple #[v,.int .i64 (ap L x me aw)])∧bm w' v r m (aj L x me aw))∧Below w.heap.size w w':=by
 have hc:ap L x me aw=10:=by unfold ap;rw[if_neg B6,if_neg (fun e=>h32 e.2),if_pos A3]
 have HC:=Hd hc;have HN:Hid (aj L x me aw=L):=Hd BF;obtain⟨hx0,hZ0,hb,hsz,HR,HXB,HZB,HFin⟩:=cU r m h ok;have HA:Hid (atG L x=(pos L x:Int)):=Hd (aF hh);have HH:=Hd hh;have hj:=aC hh;obtain⟨b,rfl,hcl⟩:=h.at hj;have HCL:Hid (∀X,Below ((w.alloc (.cells #[.int .i64 r,.int .i64 m,.slice (some ⟨b,0,none⟩) L.length c] 29)).alloc (.cells #[.int .i64 0,.int .i64 0,.slice none 0 0] 29)).heap.size ((w.alloc (.cells #[.int .i64 r,.int .i64 m,.slice (some ⟨b,0,none⟩) L.length c] 29)).alloc (.cells #[.int .i64 0,.int .i64 0,.slice none 0 0] 29)) X→X.cell? ⟨b,pos L x*5+1,none⟩=some (.int .i64 (gr L x).pa)∧X.rangeAt b (pos L x*5) (au (gr L x)).toList):=Hd fun X hX=>⟨((hcl.below hb).below hX).pa hj,((hcl.below hb).below hX).range hj⟩
 have hnum:=ok.num _ (bd hh);have hkk:=ok.k1;have hff:=aB h32;obtain⟨n1,n2,n3,_⟩:=hnum;have n5:(gr L x).me≤1000:=A3
 have n6:0≤(gr L x).me:=A3
 have n7:(gr L x).aw≤1000:=A3
 clear hh n2 n3 hkk h32;generalize gr L x=g at *;generalize pos L x=j at *;obtain⟨hme1,hme2⟩:=hme;obtain⟨haw1,haw2⟩:=haw;clear hc h ok;unfold ae;go_enter Tryz.func52,Tryz.ntmps52
 go_wp2_with (first | (have hgd:=hx0;refine ai rfl rfl ?_;clear hgd;generalize ((w.alloc (.cells #[.int .i64 r,.int .i64 m,.slice (some ⟨b,0,none⟩) L.length c] 29)).alloc (.cells #[.int .i64 0,.int .i64 0,.slice none 0 0] 29))=w3 at *;have hbi:=Below.refl w3.heap.size w3;clear hx0 hZ0 hb) | (go_at_call 30;refine(HR.at' _ _ A4).mono ?_;rw[HA.out];rintro e wi ⟨rfl,hbi⟩;have hX2:=HXB.out wi hbi;have f0:=cF0 hX2;have f1:=cF1 hX2;have f2:=cF2 hX2;clear hX2;have g1:=(HCL.out wi hbi).1) | (go_at_call 84;refine(HR.fan _ _ HH.out A4).mono ?_;rintro e wi ⟨rfl,hbi⟩;have hX2:=HXB.out wi hbi;have f0:=cF0 hX2;have f1:=cF1 hX2;have f2:=cF2 hX2;clear hX2;have g1:=(HCL.out wi hbi).1) | (refine af rfl _ rfl w.heap.size r m (.slice (some ⟨b,0,none⟩) L.length c) rfl (HXB.out _ A4) ?_) | (refine wpList_load_mid rfl 56 _ rfl b (j*5) rfl _ _ (HCL.out _ A4).2 Tryz.underlying56 rfl Tryz.info56 ?_) | (refine bw rfl rfl ?_;have hZg:=Blk.new wi 56 #[.int .i64 0,.int .i64 0,.int .i64 0,.int .i64 0,.int .i64 0];have hbg:=Below.allocS hbi (.cells #[.int .i64 0,.int .i64 0,.int .i64 0,.int .i64 0,.int .i64 0] 56);have hltg:wi.heap.size<(wi.alloc (.cells #[.int .i64 0,.int .i64 0,.int .i64 0,.int .i64 0,.int .i64 0] 56)).heap.size:=B4;have hleg:=hbi.size;generalize wi.alloc (.cells #[.int .i64 0,.int .i64 0,.int .i64 0,.int .i64 0,.int .i64 0] 56)=wg at *) | (refine bu rfl _ _ rfl wi.heap.size g rfl rfl hZg rfl ?_;intro wh hZh th;have hbh:Below w3.heap.size w3 wh:=hbg.trans (th.below hleg);have fz3:=hZh.fz 3;have fz4:=hZh.fz 4;have cx3:=cE3 hZh;have cx4:=cE4 hZh;have hZi:Blk (wh.setCell ⟨wi.heap.size,3,none⟩ (.int .i64 (g.me+me))) wi.heap.size 56 (au ⟨g.id,g.pa,g.wt,g.me+me,g.aw⟩):=hZh.set 3 _;have hbj:Below w3.heap.size w3 (wh.setCell ⟨wi.heap.size,3,none⟩ (.int .i64 (g.me+me))):=hbh.trans ((aX.setCell wh wi.heap.size 3 _).below hleg);have cy4:=cE4 hZi;have fy4:=hZi.fz 4;have cz4x:=cE3 hZi;have hZk:Blk ((wh.setCell ⟨wi.heap.size,3,none⟩ (.int .i64 (g.me+me))).setCell ⟨wi.heap.size,4,none⟩ (.int .i64 (g.aw+aw))) wi.heap.size 56 (au ⟨g.id,g.pa,g.wt,g.me+me,g.aw+aw⟩):=hZi.set 4 _;have hbk:Below w3.heap.size w3 ((wh.setCell ⟨wi.heap.size,3,none⟩ (.int .i64 (g.me+me))).setCell ⟨wi.heap.size,4,none⟩ (.int .i64 (g.aw+aw))):=hbj.trans ((aX.setCell _ wi.heap.size 4 _).below hleg);have cz3:=cE3 hZk;have cz4:=cE4 hZk) | (refine ab rfl _ _ rfl (w.heap.size+1) r m (.slice (some ⟨b,0,none⟩) L.length c) rfl rfl (HZB.out _ A4) rfl rfl ?_;intro wz hZ9 t9))
 exact Ab
theorem pz (x me aw:Int) (m0 k:Int) (w:World) (h:aA w (.slice a L.length c) L) (ok:Ok L m0 k) (hh:has L x=true) (h0:0<me) (h32: ¬ce L x=32) (hs0: ¬(gr L x).aw+aw<0) (hs: ¬(gr L x).me+me<(gr L x).aw+aw) (hme: -1≤me∧me≤1) (haw: -1≤aw∧aw≤1):
  Calls Tryz.prog 52 #[.agg (ae r m (.slice a L.length c)),.int .i64 x,.int .i64 me,.int .i64 aw] w fun e w'=>(∃v,e= .returned (.tuple #[v,.int .i64 (ap L x me aw)])∧bm w' v r m (aj L x me aw))∧Below w.heap.size w w':=by
 have hc:ap L x me aw=0:=by unfold ap;rw[if_neg B6,if_neg (fun e=>h32 e.2),if_neg A3]
 have HC:=Hd hc;have HN:Hid (aj L x me aw=cG L x me aw):=Hd BF;obtain⟨hx0,hZ0,hb,hsz,HR,HXB,HZB,HFin⟩:=cU r m h ok;have HA:Hid (atG L x=(pos L x:Int)):=Hd (aF hh);have HH:=Hd hh;have hj:=aC hh;obtain⟨b,rfl,hcl⟩:=h.at hj;have HCL:Hid (∀X,Below ((w.alloc (.cells #[.int .i64 r,.int .i64 m,.slice (some ⟨b,0,none⟩) L.length c] 29)).alloc (.cells #[.int .i64 0,.int .i64 0,.slice none 0 0] 29)).heap.size ((w.alloc (.cells #[.int .i64 r,.int .i64 m,.slice (some ⟨b,0,none⟩) L.length c] 29)).alloc (.cells #[.int .i64 0,.int .i64 0,.slice none 0 0] 29)) X→X.cell? ⟨b,pos L x*5+1,none⟩=some (.int .i64 (gr L x).pa)∧X.rangeAt b (pos L x*5) (au (gr L x)).toList):=Hd fun X hX=>⟨((hcl.below hb).below hX).pa hj,((hcl.below hb).below hX).range hj⟩
 have hnum:=ok.num _ (bd hh);have hkk:=ok.k1;have HGG:Hid (cG L x me aw=L.set (pos L x) ⟨(gr L x).id,(gr L x).pa,(gr L x).wt,(gr L x).me+me,(gr L x).aw+aw⟩):=Hd (by unfold cG dT;rw[cV hh]);rw[HGG.out] at HN;clear HGG;have hff:=aB h32;obtain⟨n1,n2,n3,_⟩:=hnum;have n5:(gr L x).me≤1000:=A3
 have n6:0≤(gr L x).me:=A3
 have n7:(gr L x).aw≤1000:=A3
 clear hh n2 n3 hkk h32;generalize gr L x=g at *;generalize pos L x=j at *;obtain⟨hme1,hme2⟩:=hme;obtain⟨haw1,haw2⟩:=haw;clear hc h ok;unfold ae;go_enter Tryz.func52,Tryz.ntmps52
 go_wp2_with (first | (have hgd:=hx0;refine ai rfl rfl ?_;clear hgd;generalize ((w.alloc (.cells #[.int .i64 r,.int .i64 m,.slice (some ⟨b,0,none⟩) L.length c] 29)).alloc (.cells #[.int .i64 0,.int .i64 0,.slice none 0 0] 29))=w3 at *;have hbi:=Below.refl w3.heap.size w3;clear hx0 hZ0 hb) | (go_at_call 30;refine(HR.at' _ _ A4).mono ?_;rw[HA.out];rintro e wi ⟨rfl,hbi⟩;have hX2:=HXB.out wi hbi;have f0:=cF0 hX2;have f1:=cF1 hX2;have f2:=cF2 hX2;clear hX2;have g1:=(HCL.out wi hbi).1) | (go_at_call 84;refine(HR.fan _ _ HH.out A4).mono ?_;rintro e wi ⟨rfl,hbi⟩;have hX2:=HXB.out wi hbi;have f0:=cF0 hX2;have f1:=cF1 hX2;have f2:=cF2 hX2;clear hX2;have g1:=(HCL.out wi hbi).1) | (refine af rfl _ rfl w.heap.size r m (.slice (some ⟨b,0,none⟩) L.length c) rfl (HXB.out _ A4) ?_) | (refine wpList_load_mid rfl 56 _ rfl b (j*5) rfl _ _ (HCL.out _ A4).2 Tryz.underlying56 rfl Tryz.info56 ?_) | (refine bw rfl rfl ?_;have hZg:=Blk.new wi 56 #[.int .i64 0,.int .i64 0,.int .i64 0,.int .i64 0,.int .i64 0];have hbg:=Below.allocS hbi (.cells #[.int .i64 0,.int .i64 0,.int .i64 0,.int .i64 0,.int .i64 0] 56);have hltg:wi.heap.size<(wi.alloc (.cells #[.int .i64 0,.int .i64 0,.int .i64 0,.int .i64 0,.int .i64 0] 56)).heap.size:=B4;have hleg:=hbi.size;generalize wi.alloc (.cells #[.int .i64 0,.int .i64 0,.int .i64 0,.int .i64 0,.int .i64 0] 56)=wg at *) | (refine bu rfl _ _ rfl wi.heap.size g rfl rfl hZg rfl ?_;intro wh hZh th;have hbh:Below w3.heap.size w3 wh:=hbg.trans (th.below hleg);have fz3:=hZh.fz 3;have fz4:=hZh.fz 4;have cx3:=cE3 hZh;have cx4:=cE4 hZh;have hZi:Blk (wh.setCell ⟨wi.heap.size,3,none⟩ (.int .i64 (g.me+me))) wi.heap.size 56 (au ⟨g.id,g.pa,g.wt,g.me+me,g.aw⟩):=hZh.set 3 _;have hbj:Below w3.heap.size w3 (wh.setCell ⟨wi.heap.size,3,none⟩ (.int .i64 (g.me+me))):=hbh.trans ((aX.setCell wh wi.heap.size 3 _).below hleg);have cy4:=cE4 hZi;have fy4:=hZi.fz 4;have cz4x:=cE3 hZi;have hZk:Blk ((wh.setCell ⟨wi.heap.size,3,none⟩ (.int .i64 (g.me+me))).setCell ⟨wi.heap.size,4,none⟩ (.int .i64 (g.aw+aw))) wi.heap.size 56 (au ⟨g.id,g.pa,g.wt,g.me+me,g.aw+aw⟩):=hZi.set 4 _;have hbk:Below w3.heap.size w3 ((wh.setCell ⟨wi.heap.size,3,none⟩ (.int .i64 (g.me+me))).setCell ⟨wi.heap.size,4,none⟩ (.int .i64 (g.aw+aw))):=hbj.trans ((aX.setCell _ wi.heap.size 4 _).below hleg);have cz3:=cE3 hZk;have cz4:=cE4 hZk) | (refine cL rfl _ rfl wi.heap.size ⟨g.id,g.pa,g.wt,g.me+me,g.aw+aw⟩ rfl hZk ?_) | (go_at_call 90;refine(HR.set _ ⟨g.id,g.pa,g.wt,g.me+me,g.aw+aw⟩ _ hj A4).mono ?_;rintro e wi ⟨⟨a',c',rfl,hr9⟩,hbi⟩) | (refine ab rfl _ _ rfl (w.heap.size+1) r m (.slice a' L.length c') rfl rfl (HZB.out _ A4) rfl rfl ?_;intro wz hZ9 t9))
 exact zX
theorem ou (x me aw:Int) (m0 k:Int) (w:World) (h:aA w (.slice a L.length c) L) (ok:Ok L m0 k) (hh:has L x=true) (h0: ¬ 0<me) (hs:(gr L x).aw+aw<0) (hme: -1≤me∧me≤1) (haw: -1≤aw∧aw≤1):
  Calls Tryz.prog 52 #[.agg (ae r m (.slice a L.length c)),.int .i64 x,.int .i64 me,.int .i64 aw] w fun e w'=>(∃v,e= .returned (.tuple #[v,.int .i64 (ap L x me aw)])∧bm w' v r m (aj L x me aw))∧Below w.heap.size w w':=by
 have hc:ap L x me aw=10:=by unfold ap;rw[if_neg B6,if_neg (fun e=>h0 e.1),if_pos A3]
 have HC:=Hd hc;have HN:Hid (aj L x me aw=L):=Hd BF;obtain⟨hx0,hZ0,hb,hsz,HR,HXB,HZB,HFin⟩:=cU r m h ok;have HA:Hid (atG L x=(pos L x:Int)):=Hd (aF hh);have HH:=Hd hh;have hj:=aC hh;obtain⟨b,rfl,hcl⟩:=h.at hj;have HCL:Hid (∀X,Below ((w.alloc (.cells #[.int .i64 r,.int .i64 m,.slice (some ⟨b,0,none⟩) L.length c] 29)).alloc (.cells #[.int .i64 0,.int .i64 0,.slice none 0 0] 29)).heap.size ((w.alloc (.cells #[.int .i64 r,.int .i64 m,.slice (some ⟨b,0,none⟩) L.length c] 29)).alloc (.cells #[.int .i64 0,.int .i64 0,.slice none 0 0] 29)) X→X.cell? ⟨b,pos L x*5+1,none⟩=some (.int .i64 (gr L x).pa)∧X.rangeAt b (pos L x*5) (au (gr L x)).toList):=Hd fun X hX=>⟨((hcl.below hb).below hX).pa hj,((hcl.below hb).below hX).range hj⟩
 have hnum:=ok.num _ (bd hh);have hkk:=ok.k1;obtain⟨n1,n2,n3,_⟩:=hnum;have n5:(gr L x).me≤1000:=A3
 have n6:0≤(gr L x).me:=A3
 have n7:(gr L x).aw≤1000:=A3
 clear hh n2 n3 hkk;generalize gr L x=g at *;generalize pos L x=j at *;obtain⟨hme1,hme2⟩:=hme;obtain⟨haw1,haw2⟩:=haw;clear hc h ok;unfold ae;go_enter Tryz.func52,Tryz.ntmps52
 go_wp2_with (first | (have hgd:=hx0;refine ai rfl rfl ?_;clear hgd;generalize ((w.alloc (.cells #[.int .i64 r,.int .i64 m,.slice (some ⟨b,0,none⟩) L.length c] 29)).alloc (.cells #[.int .i64 0,.int .i64 0,.slice none 0 0] 29))=w3 at *;have hbi:=Below.refl w3.heap.size w3;clear hx0 hZ0 hb) | (go_at_call 30;refine(HR.at' _ _ A4).mono ?_;rw[HA.out];rintro e wi ⟨rfl,hbi⟩;have hX2:=HXB.out wi hbi;have f0:=cF0 hX2;have f1:=cF1 hX2;have f2:=cF2 hX2;clear hX2;have g1:=(HCL.out wi hbi).1) | (refine af rfl _ rfl w.heap.size r m (.slice (some ⟨b,0,none⟩) L.length c) rfl (HXB.out _ A4) ?_) | (refine wpList_load_mid rfl 56 _ rfl b (j*5) rfl _ _ (HCL.out _ A4).2 Tryz.underlying56 rfl Tryz.info56 ?_) | (refine bw rfl rfl ?_;have hZg:=Blk.new wi 56 #[.int .i64 0,.int .i64 0,.int .i64 0,.int .i64 0,.int .i64 0];have hbg:=Below.allocS hbi (.cells #[.int .i64 0,.int .i64 0,.int .i64 0,.int .i64 0,.int .i64 0] 56);have hltg:wi.heap.size<(wi.alloc (.cells #[.int .i64 0,.int .i64 0,.int .i64 0,.int .i64 0,.int .i64 0] 56)).heap.size:=B4;have hleg:=hbi.size;generalize wi.alloc (.cells #[.int .i64 0,.int .i64 0,.int .i64 0,.int .i64 0,.int .i64 0] 56)=wg at *) | (refine bu rfl _ _ rfl wi.heap.size g rfl rfl hZg rfl ?_;intro wh hZh th;have hbh:Below w3.heap.size w3 wh:=hbg.trans (th.below hleg);have fz3:=hZh.fz 3;have fz4:=hZh.fz 4;have cx3:=cE3 hZh;have cx4:=cE4 hZh;have hZi:Blk (wh.setCell ⟨wi.heap.size,3,none⟩ (.int .i64 (g.me+me))) wi.heap.size 56 (au ⟨g.id,g.pa,g.wt,g.me+me,g.aw⟩):=hZh.set 3 _;have hbj:Below w3.heap.size w3 (wh.setCell ⟨wi.heap.size,3,none⟩ (.int .i64 (g.me+me))):=hbh.trans ((aX.setCell wh wi.heap.size 3 _).below hleg);have cy4:=cE4 hZi;have fy4:=hZi.fz 4;have cz4x:=cE3 hZi;have hZk:Blk ((wh.setCell ⟨wi.heap.size,3,none⟩ (.int .i64 (g.me+me))).setCell ⟨wi.heap.size,4,none⟩ (.int .i64 (g.aw+aw))) wi.heap.size 56 (au ⟨g.id,g.pa,g.wt,g.me+me,g.aw+aw⟩):=hZi.set 4 _;have hbk:Below w3.heap.size w3 ((wh.setCell ⟨wi.heap.size,3,none⟩ (.int .i64 (g.me+me))).setCell ⟨wi.heap.size,4,none⟩ (.int .i64 (g.aw+aw))):=hbj.trans ((aX.setCell _ wi.heap.size 4 _).below hleg);have cz3:=cE3 hZk;have cz4:=cE4 hZk) | (refine ab rfl _ _ rfl (w.heap.size+1) r m (.slice (some ⟨b,0,none⟩) L.length c) rfl rfl (HZB.out _ A4) rfl rfl ?_;intro wz hZ9 t9))
 exact Ab
theorem nh (x me aw:Int) (m0 k:Int) (w:World) (h:aA w (.slice a L.length c) L) (ok:Ok L m0 k) (hh:has L x=true) (h0: ¬ 0<me) (hs0: ¬(gr L x).aw+aw<0) (hs:(gr L x).me+me<(gr L x).aw+aw) (hme: -1≤me∧me≤1) (haw: -1≤aw∧aw≤1):
  Calls Tryz.prog 52 #[.agg (ae r m (.slice a L.length c)),.int .i64 x,.int .i64 me,.int .i64 aw] w fun e w'=>(∃v,e= .returned (.tuple #[v,.int .i64 (ap L x me aw)])∧bm w' v r m (aj L x me aw))∧Below w.heap.size w w':=by
 have hc:ap L x me aw=10:=by unfold ap;rw[if_neg B6,if_neg (fun e=>h0 e.1),if_pos A3]
 have HC:=Hd hc;have HN:Hid (aj L x me aw=L):=Hd BF;obtain⟨hx0,hZ0,hb,hsz,HR,HXB,HZB,HFin⟩:=cU r m h ok;have HA:Hid (atG L x=(pos L x:Int)):=Hd (aF hh);have HH:=Hd hh;have hj:=aC hh;obtain⟨b,rfl,hcl⟩:=h.at hj;have HCL:Hid (∀X,Below ((w.alloc (.cells #[.int .i64 r,.int .i64 m,.slice (some ⟨b,0,none⟩) L.length c] 29)).alloc (.cells #[.int .i64 0,.int .i64 0,.slice none 0 0] 29)).heap.size ((w.alloc (.cells #[.int .i64 r,.int .i64 m,.slice (some ⟨b,0,none⟩) L.length c] 29)).alloc (.cells #[.int .i64 0,.int .i64 0,.slice none 0 0] 29)) X→X.cell? ⟨b,pos L x*5+1,none⟩=some (.int .i64 (gr L x).pa)∧X.rangeAt b (pos L x*5) (au (gr L x)).toList):=Hd fun X hX=>⟨((hcl.below hb).below hX).pa hj,((hcl.below hb).below hX).range hj⟩
 have hnum:=ok.num _ (bd hh);have hkk:=ok.k1;obtain⟨n1,n2,n3,_⟩:=hnum;have n5:(gr L x).me≤1000:=A3
 have n6:0≤(gr L x).me:=A3
 have n7:(gr L x).aw≤1000:=A3
 clear hh n2 n3 hkk;generalize gr L x=g at *;generalize pos L x=j at *;obtain⟨hme1,hme2⟩:=hme;obtain⟨haw1,haw2⟩:=haw;clear hc h ok;unfold ae;go_enter Tryz.func52,Tryz.ntmps52
 go_wp2_with (first | (have hgd:=hx0;refine ai rfl rfl ?_;clear hgd;generalize ((w.alloc (.cells #[.int .i64 r,.int .i64 m,.slice (some ⟨b,0,none⟩) L.length c] 29)).alloc (.cells #[.int .i64 0,.int .i64 0,.slice none 0 0] 29))=w3 at *;have hbi:=Below.refl w3.heap.size w3;clear hx0 hZ0 hb) | (go_at_call 30;refine(HR.at' _ _ A4).mono ?_;rw[HA.out];rintro e wi ⟨rfl,hbi⟩;have hX2:=HXB.out wi hbi;have f0:=cF0 hX2;have f1:=cF1 hX2;have f2:=cF2 hX2;clear hX2;have g1:=(HCL.out wi hbi).1) | (refine af rfl _ rfl w.heap.size r m (.slice (some ⟨b,0,none⟩) L.length c) rfl (HXB.out _ A4) ?_) | (refine wpList_load_mid rfl 56 _ rfl b (j*5) rfl _ _ (HCL.out _ A4).2 Tryz.underlying56 rfl Tryz.info56 ?_) | (refine bw rfl rfl ?_;have hZg:=Blk.new wi 56 #[.int .i64 0,.int .i64 0,.int .i64 0,.int .i64 0,.int .i64 0];have hbg:=Below.allocS hbi (.cells #[.int .i64 0,.int .i64 0,.int .i64 0,.int .i64 0,.int .i64 0] 56);have hltg:wi.heap.size<(wi.alloc (.cells #[.int .i64 0,.int .i64 0,.int .i64 0,.int .i64 0,.int .i64 0] 56)).heap.size:=B4;have hleg:=hbi.size;generalize wi.alloc (.cells #[.int .i64 0,.int .i64 0,.int .i64 0,.int .i64 0,.int .i64 0] 56)=wg at *) | (refine bu rfl _ _ rfl wi.heap.size g rfl rfl hZg rfl ?_;intro wh hZh th;have hbh:Below w3.heap.size w3 wh:=hbg.trans (th.below hleg);have fz3:=hZh.fz 3;have fz4:=hZh.fz 4;have cx3:=cE3 hZh;have cx4:=cE4 hZh;have hZi:Blk (wh.setCell ⟨wi.heap.size,3,none⟩ (.int .i64 (g.me+me))) wi.heap.size 56 (au ⟨g.id,g.pa,g.wt,g.me+me,g.aw⟩):=hZh.set 3 _;have hbj:Below w3.heap.size w3 (wh.setCell ⟨wi.heap.size,3,none⟩ (.int .i64 (g.me+me))):=hbh.trans ((aX.setCell wh wi.heap.size 3 _).below hleg);have cy4:=cE4 hZi;have fy4:=hZi.fz 4;have cz4x:=cE3 hZi;have hZk:Blk ((wh.setCell ⟨wi.heap.size,3,none⟩ (.int .i64 (g.me+me))).setCell ⟨wi.heap.size,4,none⟩ (.int .i64 (g.aw+aw))) wi.heap.size 56 (au ⟨g.id,g.pa,g.wt,g.me+me,g.aw+aw⟩):=hZi.set 4 _;have hbk:Below w3.heap.size w3 ((wh.setCell ⟨wi.heap.size,3,none⟩ (.int .i64 (g.me+me))).setCell ⟨wi.heap.size,4,none⟩ (.int .i64 (g.aw+aw))):=hbj.trans ((aX.setCell _ wi.heap.size 4 _).below hleg);have cz3:=cE3 hZk;have cz4:=cE4 hZk) | (refine ab rfl _ _ rfl (w.heap.size+1) r m (.slice (some ⟨b,0,none⟩) L.length c) rfl rfl (HZB.out _ A4) rfl rfl ?_;intro wz hZ9 t9))
 exact Ab
theorem o7 (x me aw:Int) (m0 k:Int) (w:World) (h:aA w (.slice a L.length c) L) (ok:Ok L m0 k) (hh:has L x=true) (h0: ¬ 0<me) (hs0: ¬(gr L x).aw+aw<0) (hs: ¬(gr L x).me+me<(gr L x).aw+aw) (hme: -1≤me∧me≤1) (haw: -1≤aw∧aw≤1):
  Calls Tryz.prog 52 #[.agg (ae r m (.slice a L.length c)),.int .i64 x,.int .i64 me,.int .i64 aw] w fun e w'=>(∃v,e= .returned (.tuple #[v,.int .i64 (ap L x me aw)])∧bm w' v r m (aj L x me aw))∧Below w.heap.size w w':=by
 have hc:ap L x me aw=0:=by unfold ap;rw[if_neg B6,if_neg (fun e=>h0 e.1),if_neg A3]
 have HC:=Hd hc;have HN:Hid (aj L x me aw=cG L x me aw):=Hd BF;obtain⟨hx0,hZ0,hb,hsz,HR,HXB,HZB,HFin⟩:=cU r m h ok;have HA:Hid (atG L x=(pos L x:Int)):=Hd (aF hh);have HH:=Hd hh;have hj:=aC hh;obtain⟨b,rfl,hcl⟩:=h.at hj;have HCL:Hid (∀X,Below ((w.alloc (.cells #[.int .i64 r,.int .i64 m,.slice (some ⟨b,0,none⟩) L.length c] 29)).alloc (.cells #[.int .i64 0,.int .i64 0,.slice none 0 0] 29)).heap.size ((w.alloc (.cells #[.int .i64 r,.int .i64 m,.slice (some ⟨b,0,none⟩) L.length c] 29)).alloc (.cells #[.int .i64 0,.int .i64 0,.slice none 0 0] 29)) X→X.cell? ⟨b,pos L x*5+1,none⟩=some (.int .i64 (gr L x).pa)∧X.rangeAt b (pos L x*5) (au (gr L x)).toList):=Hd fun X hX=>⟨((hcl.below hb).below hX).pa hj,((hcl.below hb).below hX).range hj⟩
 have hnum:=ok.num _ (bd hh);have hkk:=ok.k1;have HGG:Hid (cG L x me aw=L.set (pos L x) ⟨(gr L x).id,(gr L x).pa,(gr L x).wt,(gr L x).me+me,(gr L x).aw+aw⟩):=Hd (by unfold cG dT;rw[cV hh]);rw[HGG.out] at HN;clear HGG;obtain⟨n1,n2,n3,_⟩:=hnum;have n5:(gr L x).me≤1000:=A3
 have n6:0≤(gr L x).me:=A3
 have n7:(gr L x).aw≤1000:=A3
 clear hh n2 n3 hkk;generalize gr L x=g at *;generalize pos L x=j at *;obtain⟨hme1,hme2⟩:=hme;obtain⟨haw1,haw2⟩:=haw;clear hc h ok;unfold ae;go_enter Tryz.func52,Tryz.ntmps52
 go_wp2_with (first | (have hgd:=hx0;refine ai rfl rfl ?_;clear hgd;generalize ((w.alloc (.cells #[.int .i64 r,.int .i64 m,.slice (some ⟨b,0,none⟩) L.length c] 29)).alloc (.cells #[.int .i64 0,.int .i64 0,.slice none 0 0] 29))=w3 at *;have hbi:=Below.refl w3.heap.size w3;clear hx0 hZ0 hb) | (go_at_call 30;refine(HR.at' _ _ A4).mono ?_;rw[HA.out];rintro e wi ⟨rfl,hbi⟩;have hX2:=HXB.out wi hbi;have f0:=cF0 hX2;have f1:=cF1 hX2;have f2:=cF2 hX2;clear hX2;have g1:=(HCL.out wi hbi).1) | (refine af rfl _ rfl w.heap.size r m (.slice (some ⟨b,0,none⟩) L.length c) rfl (HXB.out _ A4) ?_) | (refine wpList_load_mid rfl 56 _ rfl b (j*5) rfl _ _ (HCL.out _ A4).2 Tryz.underlying56 rfl Tryz.info56 ?_) | (refine bw rfl rfl ?_;have hZg:=Blk.new wi 56 #[.int .i64 0,.int .i64 0,.int .i64 0,.int .i64 0,.int .i64 0];have hbg:=Below.allocS hbi (.cells #[.int .i64 0,.int .i64 0,.int .i64 0,.int .i64 0,.int .i64 0] 56);have hltg:wi.heap.size<(wi.alloc (.cells #[.int .i64 0,.int .i64 0,.int .i64 0,.int .i64 0,.int .i64 0] 56)).heap.size:=B4;have hleg:=hbi.size;generalize wi.alloc (.cells #[.int .i64 0,.int .i64 0,.int .i64 0,.int .i64 0,.int .i64 0] 56)=wg at *) | (refine bu rfl _ _ rfl wi.heap.size g rfl rfl hZg rfl ?_;intro wh hZh th;have hbh:Below w3.heap.size w3 wh:=hbg.trans (th.below hleg);have fz3:=hZh.fz 3;have fz4:=hZh.fz 4;have cx3:=cE3 hZh;have cx4:=cE4 hZh;have hZi:Blk (wh.setCell ⟨wi.heap.size,3,none⟩ (.int .i64 (g.me+me))) wi.heap.size 56 (au ⟨g.id,g.pa,g.wt,g.me+me,g.aw⟩):=hZh.set 3 _;have hbj:Below w3.heap.size w3 (wh.setCell ⟨wi.heap.size,3,none⟩ (.int .i64 (g.me+me))):=hbh.trans ((aX.setCell wh wi.heap.size 3 _).below hleg);have cy4:=cE4 hZi;have fy4:=hZi.fz 4;have cz4x:=cE3 hZi;have hZk:Blk ((wh.setCell ⟨wi.heap.size,3,none⟩ (.int .i64 (g.me+me))).setCell ⟨wi.heap.size,4,none⟩ (.int .i64 (g.aw+aw))) wi.heap.size 56 (au ⟨g.id,g.pa,g.wt,g.me+me,g.aw+aw⟩):=hZi.set 4 _;have hbk:Below w3.heap.size w3 ((wh.setCell ⟨wi.heap.size,3,none⟩ (.int .i64 (g.me+me))).setCell ⟨wi.heap.size,4,none⟩ (.int .i64 (g.aw+aw))):=hbj.trans ((aX.setCell _ wi.heap.size 4 _).below hleg);have cz3:=cE3 hZk;have cz4:=cE4 hZk) | (refine cL rfl _ rfl wi.heap.size ⟨g.id,g.pa,g.wt,g.me+me,g.aw+aw⟩ rfl hZk ?_) | (go_at_call 90;refine(HR.set _ ⟨g.id,g.pa,g.wt,g.me+me,g.aw+aw⟩ _ hj A4).mono ?_;rintro e wi ⟨⟨a',c',rfl,hr9⟩,hbi⟩) | (refine ab rfl _ _ rfl (w.heap.size+1) r m (.slice a' L.length c') rfl rfl (HZB.out _ A4) rfl rfl ?_;intro wz hZ9 t9))
 exact zX
theorem fx (x me aw:Int) (m0 k:Int) (w:World) (h:aA w (.slice a L.length c) L) (ok:Ok L m0 k) (hme: -1≤me∧me≤1) (haw: -1≤aw∧aw≤1):
  Calls Tryz.prog 52 #[.agg (ae r m (.slice a L.length c)),.int .i64 x,.int .i64 me,.int .i64 aw] w fun e w'=>(∃v,e= .returned (.tuple #[v,.int .i64 (ap L x me aw)])∧bm w' v r m (aj L x me aw))∧Below w.heap.size w w':=by
 cases hh:has L x with
 | false=>exact te r m a c L x me aw m0 k w h ok hh
 | true=>
 by_cases h0:0<me
 ·by_cases h32:ce L x=32
  ·exact pk r m a c L x me aw m0 k w h ok hh h0 h32
  ·by_cases hs0:(gr L x).aw+aw<0
   ·exact pq r m a c L x me aw m0 k w h ok hh h0 h32 hs0 hme haw
   ·by_cases hs:(gr L x).me+me<(gr L x).aw+aw
    ·exact ny r m a c L x me aw m0 k w h ok hh h0 h32 hs0 hs hme haw
    ·exact pz r m a c L x me aw m0 k w h ok hh h0 h32 hs0 hs hme haw
 ·by_cases hs0:(gr L x).aw+aw<0
  ·exact ou r m a c L x me aw m0 k w h ok hh h0 hs0 hme haw
  ·by_cases hs:(gr L x).me+me<(gr L x).aw+aw
   ·exact nh r m a c L x me aw m0 k w h ok hh h0 hs0 hs hme haw
   ·exact o7 r m a c L x me aw m0 k w h ok hh h0 hs0 hs hme haw
theorem oZ (x wt:Int) (m0 k:Int) (w:World) (h:aA w (.slice a L.length c) L) (ok:Ok L m0 k):
  Calls Tryz.prog 50 #[.agg (ae r m (.slice a L.length c)),.int .i64 x,.int .i64 wt] w fun e w'=>(∃v,e= .returned (.tuple #[v,.int .i64 (aT L x wt)])∧bm w' v r m (aJ L x wt))∧Below w.heap.size w w':=by
 cases hh:has L x with
 | false=>exact pY r m a c L x wt m0 k w h ok hh
 | true=>
 rcases ok.pa hh with hp | hp
 ·exact m8 r m a c L x wt m0 k w h ok hh hp
 have hp2:0≤(gr L x).pa:=by have:=ok.id hp;omega
 by_cases h1:wt<1
 ·exact m4 r m a c L x wt m0 k w h ok hh hp2 h1
 by_cases h2:10000<wt
 ·exact mX r m a c L x wt m0 k w h ok hh hp2 h2
 ·exact oV r m a c L x wt m0 k w h ok hh hp2 A3
end
section
variable (r m:Int) (a:Option Addr) (c:Nat) (L:List Gr)
theorem Ce {p:Prop} (h:p:=by rw[hc];exact⟨rfl,rfl,rfl⟩):p:=h
theorem zS {p:Prop} (h:p:=by refine bodyPost_ret (bV rfl _ wz (w.heap.size+1) r m (.slice a L.length c) _ _ rfl rfl rfl hZ9) rfl ?_;rw[HC.1,HC.2.1,HC.2.2,HN.out];exact⟨⟨_,rfl,a,c,rfl,(HR.row _ hbi).turn t9 (HZB.out _ hbi) (by decide)⟩,(HFin.out _ hbi).trans (t9.below (by omega))⟩):p:=h
theorem q8 (R:Nat) (hR:r=(R:Int)) (hm:0≤m∧m<1000) (m0 k:Int) (w:World) (h:aA w (.slice a L.length c) L) (ok:Ok L m0 k) (hl:L.length=R):
  Calls Tryz.prog 42 #[.agg (ae r m (.slice a L.length c))] w fun e w'=>(∃v,e= .returned (.tuple #[v,.int .i64 (bt (aV L R) m),.int .i64 (aV L R)])∧bm w' v r (be (aV L R) m) (dA L R m))∧Below w.heap.size w w':=by
 have hc:aV L R=6:=by unfold aV;rw[if_pos hl]
 have HC:Hid (bt (aV L R) m=0∧be (aV L R) m=m∧aV L R=6):=Hd Ce;have HN:Hid (dA L R m=L):=Hd (by unfold dA;rw[hc];rfl);have HM:Hid (0≤m∧m≤1000):=Hd A3;obtain⟨hx0,hZ0,hb,hsz,HR,HXB,HZB,HFin⟩:=cU r m h ok;have hl2:((L.length:Int)==r)=true:=dP A3;clear hl;have HX1:=Hd (Below.refl w.heap.size w);clear hc h ok hm hR;unfold ae;go_enter Tryz.func42,Tryz.ntmps42
 go_wp2_with (first | (have hgd:=hx0;refine ai rfl rfl ?_;clear hgd;generalize ((w.alloc (.cells #[.int .i64 r,.int .i64 m,.slice a L.length c] 29)).alloc (.cells #[.int .i64 0,.int .i64 0,.slice none 0 0] 29))=w3 at *;have hbi:=Below.refl w3.heap.size w3;have h00:=cF0 hx0;have h01:=cF1 hx0;have h02:=cF2 hx0;clear hx0 hZ0 hb) | (refine af rfl _ rfl w.heap.size r m (.slice a L.length c) rfl (HXB.out _ A4) ?_) | (refine ab rfl _ _ rfl (w.heap.size+1) r m (.slice a L.length c) rfl rfl (HZB.out _ A4) rfl rfl ?_;intro wz hZ9 t9))
 exact zS
theorem AM {p:Prop} (h:p:=by rw[HC.1,HC.2.1,HC.2.2,HN.out];exact⟨⟨_,rfl,a',c',rfl,hr6.turn t9 (HZB.out _ hbh) (by decide)⟩,(HFin.out _ hbh).trans (t9.below (by omega))⟩):p:=h
theorem tV (R:Nat) (hR:r=(R:Int)) (hm:0≤m∧m<1000) (m0 k:Int) (w:World) (h:aA w (.slice a L.length c) L) (ok:Ok L m0 k) (hl: ¬L.length=R):
  Calls Tryz.prog 42 #[.agg (ae r m (.slice a L.length c))] w fun e w'=>(∃v,e= .returned (.tuple #[v,.int .i64 (bt (aV L R) m),.int .i64 (aV L R)])∧bm w' v r (be (aV L R) m) (dA L R m))∧Below w.heap.size w w':=by
 have hc:aV L R=0:=by unfold aV;rw[if_neg hl]
 have HC:Hid (bt (aV L R) m=m+1∧be (aV L R) m=m+1∧aV L R=0):=Hd Ce;have HN:Hid (dA L R m=addG L m (-1) 1):=Hd (by unfold dA;rw[hc];rfl);have HM:Hid (0≤m∧m≤1000):=Hd A3;obtain⟨hx0,hZ0,hb,hsz,HR,HXB,HZB,HFin⟩:=cU r m h ok;have hl2:((L.length:Int)==r)=false:=aB A3;clear hl;have HX1:=Hd (Below.refl w.heap.size w);clear hc h ok hm hR;unfold ae;go_enter Tryz.func42,Tryz.ntmps42
 go_wp2_with (first | (have hgd:=hx0;refine ai rfl rfl ?_;clear hgd;generalize ((w.alloc (.cells #[.int .i64 r,.int .i64 m,.slice a L.length c] 29)).alloc (.cells #[.int .i64 0,.int .i64 0,.slice none 0 0] 29))=w3 at *;have hbi:=Below.refl w3.heap.size w3;have h00:=cF0 hx0;have h01:=cF1 hx0;have h02:=cF2 hx0;clear hx0 hZ0 hb) | (refine af rfl _ rfl w.heap.size r m (.slice a L.length c) rfl (HXB.out _ A4) ?_) | (go_at_call 80;refine(HR.more _ _ _ HM.out A4).mono ?_;rintro e wi ⟨⟨a',c',rfl,hr9⟩,hbi⟩) | (refine ai rfl rfl ?_;have hZg:=Blk.new wi 29 #[.int .i64 0,.int .i64 0,.slice none 0 0];have hbg:=Below.allocS hbi (.cells #[.int .i64 0,.int .i64 0,.slice none 0 0] 29);have hleg:=hbi.size;have hr5:=hr9.alloc (.cells #[.int .i64 0,.int .i64 0,.slice none 0 0] 29);generalize wi.alloc (.cells #[.int .i64 0,.int .i64 0,.slice none 0 0] 29)=wg at *) | (refine ab rfl _ _ rfl wi.heap.size r (m+1) (.slice a' (addG L m (-1) 1).length c') rfl rfl hZg rfl rfl ?_;intro wh hZh th;have hbh:Below w3.heap.size w3 wh:=hbg.trans (th.below hleg);have hr6:=hr5.turn th hZg BD) | (refine af rfl _ rfl wi.heap.size r (m+1) (.slice a' (addG L m (-1) 1).length c') rfl hZh ?_) | (refine ab rfl _ _ rfl (w.heap.size+1) r (m+1) (.slice a' (addG L m (-1) 1).length c') rfl rfl (HZB.out _ hbh) rfl rfl ?_;intro wz hZ9 t9))
 refine bodyPost_ret (bV rfl _ wz (w.heap.size+1) r (m+1) (.slice a' (addG L m (-1) 1).length c') _ _ rfl rfl rfl hZ9) rfl ?_;exact AM
theorem ya (p wt:Int) (R:Nat) (hm:0≤m∧m<1000) (m0 k:Int) (w:World) (h:aA w (.slice a L.length c) L) (ok:Ok L m0 k) (hh:has L p=false):
  Calls Tryz.prog 44 #[.agg (ae r m (.slice a L.length c)),.int .i64 p,.int .i64 wt] w fun e w'=>(∃v,e= .returned (.tuple #[v,.int .i64 (bt (aG L R p wt) m),.int .i64 (aG L R p wt)])∧bm w' v r (be (aG L R p wt) m) (b6 L R m p wt))∧Below w.heap.size w w':=by
 have hc:aG L R p wt=4:=by unfold aG;rw[if_pos hh]
 have HC:Hid (bt (aG L R p wt) m=0∧be (aG L R p wt) m=m∧aG L R p wt=4):=Hd Ce;have HN:Hid (b6 L R m p wt=L):=Hd BI;have HM:Hid (0≤m∧m≤1000):=Hd A3;obtain⟨hx0,hZ0,hb,hsz,HR,HXB,HZB,HFin⟩:=cU r m h ok;have HA:Hid (atG L p= -1):=Hd (fq hh);clear hh;have HX1:=Hd (Below.refl w.heap.size w);clear hc h ok hm;unfold ae;go_enter Tryz.func44,Tryz.ntmps44
 go_wp2_with (first | (have hgd:=hx0;refine ai rfl rfl ?_;clear hgd;generalize ((w.alloc (.cells #[.int .i64 r,.int .i64 m,.slice a L.length c] 29)).alloc (.cells #[.int .i64 0,.int .i64 0,.slice none 0 0] 29))=w3 at *;have hbi:=Below.refl w3.heap.size w3;clear hx0 hZ0 hb) | (go_at_call 30;refine(HR.at' _ _ A4).mono ?_;rw[HA.out];rintro e wi ⟨rfl,hbi⟩;have hX2:=HXB.out wi hbi;have f0:=cF0 hX2;have f1:=cF1 hX2;have f2:=cF2 hX2;clear hX2) | (refine af rfl _ rfl w.heap.size r m (.slice a L.length c) rfl (HXB.out _ A4) ?_) | (refine ab rfl _ _ rfl (w.heap.size+1) r m (.slice a L.length c) rfl rfl (HZB.out _ A4) rfl rfl ?_;intro wz hZ9 t9))
 exact zS
theorem tj (p wt:Int) (R:Nat) (hm:0≤m∧m<1000) (m0 k:Int) (w:World) (h:aA w (.slice a L.length c) L) (ok:Ok L m0 k) (hh:has L p=true) (hw:wt<1):
  Calls Tryz.prog 44 #[.agg (ae r m (.slice a L.length c)),.int .i64 p,.int .i64 wt] w fun e w'=>(∃v,e= .returned (.tuple #[v,.int .i64 (bt (aG L R p wt) m),.int .i64 (aG L R p wt)])∧bm w' v r (be (aG L R p wt) m) (b6 L R m p wt))∧Below w.heap.size w w':=by
 have hc:aG L R p wt=13:=by unfold aG;rw[if_neg B6,if_pos A3]
 have HC:Hid (bt (aG L R p wt) m=0∧be (aG L R p wt) m=m∧aG L R p wt=13):=Hd Ce;have HN:Hid (b6 L R m p wt=L):=Hd BI;have HM:Hid (0≤m∧m≤1000):=Hd A3;obtain⟨hx0,hZ0,hb,hsz,HR,HXB,HZB,HFin⟩:=cU r m h ok;have HA:Hid (atG L p=(pos L p:Int)):=Hd (aF hh);have HH:=Hd hh;clear hh;generalize pos L p=j at *;have HX1:=Hd (Below.refl w.heap.size w);clear hc h ok hm;unfold ae;go_enter Tryz.func44,Tryz.ntmps44
 go_wp2_with (first | (have hgd:=hx0;refine ai rfl rfl ?_;clear hgd;generalize ((w.alloc (.cells #[.int .i64 r,.int .i64 m,.slice a L.length c] 29)).alloc (.cells #[.int .i64 0,.int .i64 0,.slice none 0 0] 29))=w3 at *;have hbi:=Below.refl w3.heap.size w3;clear hx0 hZ0 hb) | (go_at_call 30;refine(HR.at' _ _ A4).mono ?_;rw[HA.out];rintro e wi ⟨rfl,hbi⟩;have hX2:=HXB.out wi hbi;have f0:=cF0 hX2;have f1:=cF1 hX2;have f2:=cF2 hX2;clear hX2) | (refine af rfl _ rfl w.heap.size r m (.slice a L.length c) rfl (HXB.out _ A4) ?_) | (refine ab rfl _ _ rfl (w.heap.size+1) r m (.slice a L.length c) rfl rfl (HZB.out _ A4) rfl rfl ?_;intro wz hZ9 t9))
 exact zS
theorem ue (p wt:Int) (R:Nat) (hm:0≤m∧m<1000) (m0 k:Int) (w:World) (h:aA w (.slice a L.length c) L) (ok:Ok L m0 k) (hh:has L p=true) (hw:10000<wt):
  Calls Tryz.prog 44 #[.agg (ae r m (.slice a L.length c)),.int .i64 p,.int .i64 wt] w fun e w'=>(∃v,e= .returned (.tuple #[v,.int .i64 (bt (aG L R p wt) m),.int .i64 (aG L R p wt)])∧bm w' v r (be (aG L R p wt) m) (b6 L R m p wt))∧Below w.heap.size w w':=by
 have hc:aG L R p wt=13:=by unfold aG;rw[if_neg B6,if_pos A3]
 have HC:Hid (bt (aG L R p wt) m=0∧be (aG L R p wt) m=m∧aG L R p wt=13):=Hd Ce;have HN:Hid (b6 L R m p wt=L):=Hd BI;have HM:Hid (0≤m∧m≤1000):=Hd A3;obtain⟨hx0,hZ0,hb,hsz,HR,HXB,HZB,HFin⟩:=cU r m h ok;have HA:Hid (atG L p=(pos L p:Int)):=Hd (aF hh);have HH:=Hd hh;clear hh;generalize pos L p=j at *;have hw1: ¬wt<1:=A3
 have HX1:=Hd (Below.refl w.heap.size w);clear hc h ok hm;unfold ae;go_enter Tryz.func44,Tryz.ntmps44
 go_wp2_with (first | (have hgd:=hx0;refine ai rfl rfl ?_;clear hgd;generalize ((w.alloc (.cells #[.int .i64 r,.int .i64 m,.slice a L.length c] 29)).alloc (.cells #[.int .i64 0,.int .i64 0,.slice none 0 0] 29))=w3 at *;have hbi:=Below.refl w3.heap.size w3;clear hx0 hZ0 hb) | (go_at_call 30;refine(HR.at' _ _ A4).mono ?_;rw[HA.out];rintro e wi ⟨rfl,hbi⟩;have hX2:=HXB.out wi hbi;have f0:=cF0 hX2;have f1:=cF1 hX2;have f2:=cF2 hX2;clear hX2) | (refine af rfl _ rfl w.heap.size r m (.slice a L.length c) rfl (HXB.out _ A4) ?_) | (refine ab rfl _ _ rfl (w.heap.size+1) r m (.slice a L.length c) rfl rfl (HZB.out _ A4) rfl rfl ?_;intro wz hZ9 t9))
 exact zS
theorem sY (p wt:Int) (R:Nat) (hm:0≤m∧m<1000) (m0 k:Int) (w:World) (h:aA w (.slice a L.length c) L) (ok:Ok L m0 k) (hh:has L p=true) (hw:1≤wt∧wt≤10000) (hd:dep L p=8):
  Calls Tryz.prog 44 #[.agg (ae r m (.slice a L.length c)),.int .i64 p,.int .i64 wt] w fun e w'=>(∃v,e= .returned (.tuple #[v,.int .i64 (bt (aG L R p wt) m),.int .i64 (aG L R p wt)])∧bm w' v r (be (aG L R p wt) m) (b6 L R m p wt))∧Below w.heap.size w w':=by
 have hc:aG L R p wt=7:=by unfold aG;rw[if_neg B6,if_neg (fun e=>e hw),if_pos hd]
 have HC:Hid (bt (aG L R p wt) m=0∧be (aG L R p wt) m=m∧aG L R p wt=7):=Hd Ce;have HN:Hid (b6 L R m p wt=L):=Hd BI;have HM:Hid (0≤m∧m≤1000):=Hd A3;obtain⟨hx0,hZ0,hb,hsz,HR,HXB,HZB,HFin⟩:=cU r m h ok;have HA:Hid (atG L p=(pos L p:Int)):=Hd (aF hh);have HH:=Hd hh;clear hh;generalize pos L p=j at *;have hw1: ¬wt<1:=A3
 have hw2: ¬ 10000<wt:=A3
 clear hw;have hd2:=dP hd;clear hd;have HX1:=Hd (Below.refl w.heap.size w);clear hc h ok hm;unfold ae;go_enter Tryz.func44,Tryz.ntmps44
 go_wp2_with (first | (have hgd:=hx0;refine ai rfl rfl ?_;clear hgd;generalize ((w.alloc (.cells #[.int .i64 r,.int .i64 m,.slice a L.length c] 29)).alloc (.cells #[.int .i64 0,.int .i64 0,.slice none 0 0] 29))=w3 at *;have hbi:=Below.refl w3.heap.size w3;clear hx0 hZ0 hb) | (go_at_call 30;refine(HR.at' _ _ A4).mono ?_;rw[HA.out];rintro e wi ⟨rfl,hbi⟩;have hX2:=HXB.out wi hbi;have f0:=cF0 hX2;have f1:=cF1 hX2;have f2:=cF2 hX2;clear hX2) | (go_at_call 31;refine(HR.dep _ _ HH.out A4).mono ?_;rintro e wi ⟨rfl,hbi⟩;have hX2:=HXB.out wi hbi;have f0:=cF0 hX2;have f1:=cF1 hX2;have f2:=cF2 hX2;clear hX2) | (refine af rfl _ rfl w.heap.size r m (.slice a L.length c) rfl (HXB.out _ A4) ?_) | (refine ab rfl _ _ rfl (w.heap.size+1) r m (.slice a L.length c) rfl rfl (HZB.out _ A4) rfl rfl ?_;intro wz hZ9 t9))
 exact zS
theorem si (p wt:Int) (R:Nat) (hm:0≤m∧m<1000) (m0 k:Int) (w:World) (h:aA w (.slice a L.length c) L) (ok:Ok L m0 k) (hh:has L p=true) (hw:1≤wt∧wt≤10000) (hd: ¬dep L p=8) (hf:ce L p=32):
  Calls Tryz.prog 44 #[.agg (ae r m (.slice a L.length c)),.int .i64 p,.int .i64 wt] w fun e w'=>(∃v,e= .returned (.tuple #[v,.int .i64 (bt (aG L R p wt) m),.int .i64 (aG L R p wt)])∧bm w' v r (be (aG L R p wt) m) (b6 L R m p wt))∧Below w.heap.size w w':=by
 have hc:aG L R p wt=6:=by unfold aG;rw[if_neg B6,if_neg (fun e=>e hw),if_neg hd,if_pos (.inl hf)]
 have HC:Hid (bt (aG L R p wt) m=0∧be (aG L R p wt) m=m∧aG L R p wt=6):=Hd Ce;have HN:Hid (b6 L R m p wt=L):=Hd BI;have HM:Hid (0≤m∧m≤1000):=Hd A3;obtain⟨hx0,hZ0,hb,hsz,HR,HXB,HZB,HFin⟩:=cU r m h ok;have HA:Hid (atG L p=(pos L p:Int)):=Hd (aF hh);have HH:=Hd hh;clear hh;generalize pos L p=j at *;have hw1: ¬wt<1:=A3
 have hw2: ¬ 10000<wt:=A3
 clear hw;have hd2:=aB hd;have hf2:=dP hf;clear hd hf;have HX1:=Hd (Below.refl w.heap.size w);clear hc h ok hm;unfold ae;go_enter Tryz.func44,Tryz.ntmps44
 go_wp2_with (first | (have hgd:=hx0;refine ai rfl rfl ?_;clear hgd;generalize ((w.alloc (.cells #[.int .i64 r,.int .i64 m,.slice a L.length c] 29)).alloc (.cells #[.int .i64 0,.int .i64 0,.slice none 0 0] 29))=w3 at *;have hbi:=Below.refl w3.heap.size w3;clear hx0 hZ0 hb) | (go_at_call 30;refine(HR.at' _ _ A4).mono ?_;rw[HA.out];rintro e wi ⟨rfl,hbi⟩;have hX2:=HXB.out wi hbi;have f0:=cF0 hX2;have f1:=cF1 hX2;have f2:=cF2 hX2;clear hX2) | (go_at_call 31;refine(HR.dep _ _ HH.out A4).mono ?_;rintro e wi ⟨rfl,hbi⟩;have hX2:=HXB.out wi hbi;have f0:=cF0 hX2;have f1:=cF1 hX2;have f2:=cF2 hX2;clear hX2) | (go_at_call 84;refine(HR.fan _ _ HH.out A4).mono ?_;rintro e wi ⟨rfl,hbi⟩;have hX2:=HXB.out wi hbi;have f0:=cF0 hX2;have f1:=cF1 hX2;have f2:=cF2 hX2;clear hX2) | (refine af rfl _ rfl w.heap.size r m (.slice a L.length c) rfl (HXB.out _ A4) ?_) | (refine ab rfl _ _ rfl (w.heap.size+1) r m (.slice a L.length c) rfl rfl (HZB.out _ A4) rfl rfl ?_;intro wz hZ9 t9))
 exact zS
theorem sM (p wt:Int) (R:Nat) (hR:r=(R:Int)) (hm:0≤m∧m<1000) (m0 k:Int) (w:World) (h:aA w (.slice a L.length c) L) (ok:Ok L m0 k) (hh:has L p=true) (hw:1≤wt∧wt≤10000) (hd: ¬dep L p=8) (hf: ¬ce L p=32) (hl:L.length=R):
  Calls Tryz.prog 44 #[.agg (ae r m (.slice a L.length c)),.int .i64 p,.int .i64 wt] w fun e w'=>(∃v,e= .returned (.tuple #[v,.int .i64 (bt (aG L R p wt) m),.int .i64 (aG L R p wt)])∧bm w' v r (be (aG L R p wt) m) (b6 L R m p wt))∧Below w.heap.size w w':=by
 have hc:aG L R p wt=6:=by unfold aG;rw[if_neg B6,if_neg (fun e=>e hw),if_neg hd,if_pos (.inr hl)]
 have HC:Hid (bt (aG L R p wt) m=0∧be (aG L R p wt) m=m∧aG L R p wt=6):=Hd Ce;have HN:Hid (b6 L R m p wt=L):=Hd BI;have HM:Hid (0≤m∧m≤1000):=Hd A3;obtain⟨hx0,hZ0,hb,hsz,HR,HXB,HZB,HFin⟩:=cU r m h ok;have HA:Hid (atG L p=(pos L p:Int)):=Hd (aF hh);have HH:=Hd hh;clear hh;generalize pos L p=j at *;have hw1: ¬wt<1:=A3
 have hw2: ¬ 10000<wt:=A3
 clear hw;have hd2:=aB hd;have hf2:=aB hf;have hl2:((L.length:Int)==r)=true:=dP A3;clear hd hf hl;have HX1:=Hd (Below.refl w.heap.size w);clear hc h ok hm hR;unfold ae;go_enter Tryz.func44,Tryz.ntmps44
 go_wp2_with (first | (have hgd:=hx0;refine ai rfl rfl ?_;clear hgd;generalize ((w.alloc (.cells #[.int .i64 r,.int .i64 m,.slice a L.length c] 29)).alloc (.cells #[.int .i64 0,.int .i64 0,.slice none 0 0] 29))=w3 at *;have hbi:=Below.refl w3.heap.size w3;clear hx0 hZ0 hb) | (go_at_call 30;refine(HR.at' _ _ A4).mono ?_;rw[HA.out];rintro e wi ⟨rfl,hbi⟩;have hX2:=HXB.out wi hbi;have f0:=cF0 hX2;have f1:=cF1 hX2;have f2:=cF2 hX2;clear hX2) | (go_at_call 31;refine(HR.dep _ _ HH.out A4).mono ?_;rintro e wi ⟨rfl,hbi⟩;have hX2:=HXB.out wi hbi;have f0:=cF0 hX2;have f1:=cF1 hX2;have f2:=cF2 hX2;clear hX2) | (go_at_call 84;refine(HR.fan _ _ HH.out A4).mono ?_;rintro e wi ⟨rfl,hbi⟩;have hX2:=HXB.out wi hbi;have f0:=cF0 hX2;have f1:=cF1 hX2;have f2:=cF2 hX2;clear hX2) | (refine af rfl _ rfl w.heap.size r m (.slice a L.length c) rfl (HXB.out _ A4) ?_) | (refine ab rfl _ _ rfl (w.heap.size+1) r m (.slice a L.length c) rfl rfl (HZB.out _ A4) rfl rfl ?_;intro wz hZ9 t9))
 exact zS
theorem vF (p wt:Int) (R:Nat) (hR:r=(R:Int)) (hm:0≤m∧m<1000) (m0 k:Int) (w:World) (h:aA w (.slice a L.length c) L) (ok:Ok L m0 k) (hh:has L p=true) (hw:1≤wt∧wt≤10000) (hd: ¬dep L p=8) (hf: ¬ce L p=32) (hl: ¬L.length=R):
  Calls Tryz.prog 44 #[.agg (ae r m (.slice a L.length c)),.int .i64 p,.int .i64 wt] w fun e w'=>(∃v,e= .returned (.tuple #[v,.int .i64 (bt (aG L R p wt) m),.int .i64 (aG L R p wt)])∧bm w' v r (be (aG L R p wt) m) (b6 L R m p wt))∧Below w.heap.size w w':=by
 have hc:aG L R p wt=0:=by unfold aG;rw[if_neg B6,if_neg (fun e=>e hw),if_neg hd,if_neg (fun e=>e.elim hf hl)]
 have HC:Hid (bt (aG L R p wt) m=m+1∧be (aG L R p wt) m=m+1∧aG L R p wt=0):=Hd Ce;have HN:Hid (b6 L R m p wt=addG L m p wt):=Hd BI;have HM:Hid (0≤m∧m≤1000):=Hd A3;obtain⟨hx0,hZ0,hb,hsz,HR,HXB,HZB,HFin⟩:=cU r m h ok;have HA:Hid (atG L p=(pos L p:Int)):=Hd (aF hh);have HH:=Hd hh;clear hh;generalize pos L p=j at *;have hw1: ¬wt<1:=A3
 have hw2: ¬ 10000<wt:=A3
 clear hw;have hd2:=aB hd;have hf2:=aB hf;have hl2:((L.length:Int)==r)=false:=aB A3;clear hd hf hl;have HX1:=Hd (Below.refl w.heap.size w);clear hc h ok hm hR;unfold ae;go_enter Tryz.func44,Tryz.ntmps44
 go_wp2_with (first | (have hgd:=hx0;refine ai rfl rfl ?_;clear hgd;generalize ((w.alloc (.cells #[.int .i64 r,.int .i64 m,.slice a L.length c] 29)).alloc (.cells #[.int .i64 0,.int .i64 0,.slice none 0 0] 29))=w3 at *;have hbi:=Below.refl w3.heap.size w3;clear hx0 hZ0 hb) | (go_at_call 30;refine(HR.at' _ _ A4).mono ?_;rw[HA.out];rintro e wi ⟨rfl,hbi⟩;have hX2:=HXB.out wi hbi;have f0:=cF0 hX2;have f1:=cF1 hX2;have f2:=cF2 hX2;clear hX2) | (go_at_call 31;refine(HR.dep _ _ HH.out A4).mono ?_;rintro e wi ⟨rfl,hbi⟩;have hX2:=HXB.out wi hbi;have f0:=cF0 hX2;have f1:=cF1 hX2;have f2:=cF2 hX2;clear hX2) | (go_at_call 84;refine(HR.fan _ _ HH.out A4).mono ?_;rintro e wi ⟨rfl,hbi⟩;have hX2:=HXB.out wi hbi;have f0:=cF0 hX2;have f1:=cF1 hX2;have f2:=cF2 hX2;clear hX2) | (refine af rfl _ rfl w.heap.size r m (.slice a L.length c) rfl (HXB.out _ A4) ?_) | (go_at_call 80;refine(HR.more _ _ _ HM.out A4).mono ?_;rintro e wi ⟨⟨a',c',rfl,hr9⟩,hbi⟩) | (refine ai rfl rfl ?_;have hZg:=Blk.new wi 29 #[.int .i64 0,.int .i64 0,.slice none 0 0];have hbg:=Below.allocS hbi (.cells #[.int .i64 0,.int .i64 0,.slice none 0 0] 29);have hleg:=hbi.size;have hr5:=hr9.alloc (.cells #[.int .i64 0,.int .i64 0,.slice none 0 0] 29);generalize wi.alloc (.cells #[.int .i64 0,.int .i64 0,.slice none 0 0] 29)=wg at *) | (refine ab rfl _ _ rfl wi.heap.size r (m+1) (.slice a' (addG L m p wt).length c') rfl rfl hZg rfl rfl ?_;intro wh hZh th;have hbh:Below w3.heap.size w3 wh:=hbg.trans (th.below hleg);have hr6:=hr5.turn th hZg BD) | (refine af rfl _ rfl wi.heap.size r (m+1) (.slice a' (addG L m p wt).length c') rfl hZh ?_) | (refine ab rfl _ _ rfl (w.heap.size+1) r (m+1) (.slice a' (addG L m p wt).length c') rfl rfl (HZB.out _ hbh) rfl rfl ?_;intro wz hZ9 t9))
 refine bodyPost_ret (bV rfl _ wz (w.heap.size+1) r (m+1) (.slice a' (addG L m p wt).length c') _ _ rfl rfl rfl hZ9) rfl ?_;exact AM
theorem p9 (R:Nat) (hR:r=(R:Int)) (hm:0≤m∧m<1000) (m0 k:Int) (w:World) (h:aA w (.slice a L.length c) L) (ok:Ok L m0 k):
  Calls Tryz.prog 42 #[.agg (ae r m (.slice a L.length c))] w fun e w'=>(∃v,e= .returned (.tuple #[v,.int .i64 (bt (aV L R) m),.int .i64 (aV L R)])∧bm w' v r (be (aV L R) m) (dA L R m))∧Below w.heap.size w w':=by
 by_cases hl:L.length=R
 ·exact q8 r m a c L R hR hm m0 k w h ok hl
 ·exact tV r m a c L R hR hm m0 k w h ok hl
theorem wP (p wt:Int) (R:Nat) (hR:r=(R:Int)) (hm:0≤m∧m<1000) (m0 k:Int) (w:World) (h:aA w (.slice a L.length c) L) (ok:Ok L m0 k):
  Calls Tryz.prog 44 #[.agg (ae r m (.slice a L.length c)),.int .i64 p,.int .i64 wt] w fun e w'=>(∃v,e= .returned (.tuple #[v,.int .i64 (bt (aG L R p wt) m),.int .i64 (aG L R p wt)])∧bm w' v r (be (aG L R p wt) m) (b6 L R m p wt))∧Below w.heap.size w w':=by
 cases hh:has L p with
 | false=>exact ya r m a c L p wt R hm m0 k w h ok hh
 | true=>
 by_cases h1:wt<1
 ·exact tj r m a c L p wt R hm m0 k w h ok hh h1
 by_cases h2:10000<wt
 ·exact ue r m a c L p wt R hm m0 k w h ok hh h2
 have hw:1≤wt∧wt≤10000:=A3
 by_cases hd:dep L p=8
 ·exact sY r m a c L p wt R hm m0 k w h ok hh hw hd
 by_cases hf:ce L p=32
 ·exact si r m a c L p wt R hm m0 k w h ok hh hw hd hf
 by_cases hl:L.length=R
 ·exact sM r m a c L p wt R hR hm m0 k w h ok hh hw hd hf hl
 ·exact vF r m a c L p wt R hR hm m0 k w h ok hh hw hd hf hl
end
theorem Cl.head {w:World} {b k:Nat} {L:List Gr} (h:Cl w b 0 L):Cl w b 0 (L.take k):=by
 refine⟨h.1,fun j v hj=>h.2 j v ?_⟩;have e:dK L=dK (L.take k)++dK (L.drop k):=by rw[←jX,List.take_append_drop]
 rw[e,List.getElem?_append_left (List.getElem?_eq_some_iff.1 hj).1];exact hj
theorem Cl.tail {w:World} {b k:Nat} {L:List Gr} (h:Cl w b 0 L) (hk:k≤L.length):Cl w b (k*5) (L.drop k):=by
 refine⟨h.1,fun j v hj=>?_⟩;have e:dK L=dK (L.take k)++dK (L.drop k):=by rw[←jX,List.take_append_drop]
 have hl:(dK (L.take k)).length=k*5:=by rw[iz,List.length_take];omega
 have:=h.2 (k*5+j) v (by rw[e,List.getElem?_append_right A3,hl,show k*5+j - k*5=j by omega];exact hj)
 rwa [Nat.zero_add] at this
section
variable (r m:Int) (a:Option Addr) (c:Nat) (L:List Gr)
theorem uh (x:Int) (m0 k:Int) (w:World) (h:aA w (.slice a L.length c) L) (ok:Ok L m0 k) (hh:has L x=false):
  Calls Tryz.prog 46 #[.agg (ae r m (.slice a L.length c)),.int .i64 x] w fun e w'=>(∃v,e= .returned (.tuple #[v,.int .i64 (b5 L x)])∧bm w' v r m (bO L x))∧Below w.heap.size w w':=by
 have hc:b5 L x=4:=by unfold b5;rw[if_pos hh]
 have HC:=Hd hc;have HN:Hid (bO L x=L):=Hd Bq;obtain⟨hx0,hZ0,hb,hsz,HR,HXB,HZB,HFin⟩:=cU r m h ok;have HA:Hid (atG L x= -1):=Hd (fq hh);clear hh;clear hc h ok;unfold ae;go_enter Tryz.func46,Tryz.ntmps46
 go_wp2_with (first | (have hgd:=hx0;refine ai rfl rfl ?_;clear hgd;generalize ((w.alloc (.cells #[.int .i64 r,.int .i64 m,.slice a L.length c] 29)).alloc (.cells #[.int .i64 0,.int .i64 0,.slice none 0 0] 29))=w3 at *;have hbi:=Below.refl w3.heap.size w3;clear hx0 hZ0 hb) | (go_at_call 30;refine(HR.at' _ _ A4).mono ?_;rw[HA.out];rintro e wi ⟨rfl,hbi⟩;have hX2:=HXB.out wi hbi;have f0:=cF0 hX2;have f1:=cF1 hX2;have f2:=cF2 hX2;clear hX2) | (refine af rfl _ rfl w.heap.size r m (.slice a L.length c) rfl (HXB.out _ A4) ?_) | (refine ab rfl _ _ rfl (w.heap.size+1) r m (.slice a L.length c) rfl rfl (HZB.out _ A4) rfl rfl ?_;intro wz hZ9 t9))
 exact zW
theorem pR (x:Int) (m0 k:Int) (w:World) (h:aA w (.slice a L.length c) L) (ok:Ok L m0 k) (hh:has L x=true) (hp:(gr L x).pa= -1):
  Calls Tryz.prog 46 #[.agg (ae r m (.slice a L.length c)),.int .i64 x] w fun e w'=>(∃v,e= .returned (.tuple #[v,.int .i64 (b5 L x)])∧bm w' v r m (bO L x))∧Below w.heap.size w w':=by
 have hc:b5 L x=15:=by unfold b5;rw[if_neg B6,if_pos A3]
 have HC:=Hd hc;have HN:Hid (bO L x=L):=Hd Bq;obtain⟨hx0,hZ0,hb,hsz,HR,HXB,HZB,HFin⟩:=cU r m h ok;have HA:Hid (atG L x=(pos L x:Int)):=Hd (aF hh);have HH:=Hd hh;have hj:=aC hh;obtain⟨b,rfl,hcl⟩:=h.at hj;have HCL:Hid (∀X,Below ((w.alloc (.cells #[.int .i64 r,.int .i64 m,.slice (some ⟨b,0,none⟩) L.length c] 29)).alloc (.cells #[.int .i64 0,.int .i64 0,.slice none 0 0] 29)).heap.size ((w.alloc (.cells #[.int .i64 r,.int .i64 m,.slice (some ⟨b,0,none⟩) L.length c] 29)).alloc (.cells #[.int .i64 0,.int .i64 0,.slice none 0 0] 29)) X→X.cell? ⟨b,pos L x*5+1,none⟩=some (.int .i64 (gr L x).pa)∧X.rangeAt b (pos L x*5) (au (gr L x)).toList):=Hd fun X hX=>⟨((hcl.below hb).below hX).pa hj,((hcl.below hb).below hX).range hj⟩
 rw[hp] at HCL;clear hh hp;generalize pos L x=j at *;clear hc h ok;unfold ae;go_enter Tryz.func46,Tryz.ntmps46
 go_wp2_with (first | (have hgd:=hx0;refine ai rfl rfl ?_;clear hgd;generalize ((w.alloc (.cells #[.int .i64 r,.int .i64 m,.slice (some ⟨b,0,none⟩) L.length c] 29)).alloc (.cells #[.int .i64 0,.int .i64 0,.slice none 0 0] 29))=w3 at *;have hbi:=Below.refl w3.heap.size w3;clear hx0 hZ0 hb) | (go_at_call 30;refine(HR.at' _ _ A4).mono ?_;rw[HA.out];rintro e wi ⟨rfl,hbi⟩;have hX2:=HXB.out wi hbi;have f0:=cF0 hX2;have f1:=cF1 hX2;have f2:=cF2 hX2;clear hX2;have g1:=(HCL.out wi hbi).1) | (refine af rfl _ rfl w.heap.size r m (.slice (some ⟨b,0,none⟩) L.length c) rfl (HXB.out _ A4) ?_) | (refine ab rfl _ _ rfl (w.heap.size+1) r m (.slice (some ⟨b,0,none⟩) L.length c) rfl rfl (HZB.out _ A4) rfl rfl ?_;intro wz hZ9 t9))
 exact zP
theorem pV (x:Int) (m0 k:Int) (w:World) (h:aA w (.slice a L.length c) L) (ok:Ok L m0 k) (hh:has L x=true) (hp:0≤(gr L x).pa) (hf:0<ce L x):
  Calls Tryz.prog 46 #[.agg (ae r m (.slice a L.length c)),.int .i64 x] w fun e w'=>(∃v,e= .returned (.tuple #[v,.int .i64 (b5 L x)])∧bm w' v r m (bO L x))∧Below w.heap.size w w':=by
 have hc:b5 L x=11:=by unfold b5;rw[if_neg B6,if_neg A3,if_pos hf]
 have HC:=Hd hc;have HN:Hid (bO L x=L):=Hd Bq;obtain⟨hx0,hZ0,hb,hsz,HR,HXB,HZB,HFin⟩:=cU r m h ok;have HA:Hid (atG L x=(pos L x:Int)):=Hd (aF hh);have HH:=Hd hh;have hj:=aC hh;obtain⟨b,rfl,hcl⟩:=h.at hj;have HCL:Hid (∀X,Below ((w.alloc (.cells #[.int .i64 r,.int .i64 m,.slice (some ⟨b,0,none⟩) L.length c] 29)).alloc (.cells #[.int .i64 0,.int .i64 0,.slice none 0 0] 29)).heap.size ((w.alloc (.cells #[.int .i64 r,.int .i64 m,.slice (some ⟨b,0,none⟩) L.length c] 29)).alloc (.cells #[.int .i64 0,.int .i64 0,.slice none 0 0] 29)) X→X.cell? ⟨b,pos L x*5+1,none⟩=some (.int .i64 (gr L x).pa)∧X.rangeAt b (pos L x*5) (au (gr L x)).toList):=Hd fun X hX=>⟨((hcl.below hb).below hX).pa hj,((hcl.below hb).below hX).range hj⟩
 clear hh;generalize (gr L x).pa=pa at *;generalize pos L x=j at *;clear hc h ok;unfold ae;go_enter Tryz.func46,Tryz.ntmps46
 go_wp2_with (first | (have hgd:=hx0;refine ai rfl rfl ?_;clear hgd;generalize ((w.alloc (.cells #[.int .i64 r,.int .i64 m,.slice (some ⟨b,0,none⟩) L.length c] 29)).alloc (.cells #[.int .i64 0,.int .i64 0,.slice none 0 0] 29))=w3 at *;have hbi:=Below.refl w3.heap.size w3;clear hx0 hZ0 hb) | (go_at_call 30;refine(HR.at' _ _ A4).mono ?_;rw[HA.out];rintro e wi ⟨rfl,hbi⟩;have hX2:=HXB.out wi hbi;have f0:=cF0 hX2;have f1:=cF1 hX2;have f2:=cF2 hX2;clear hX2;have g1:=(HCL.out wi hbi).1) | (go_at_call 84;refine(HR.fan _ _ HH.out A4).mono ?_;rintro e wi ⟨rfl,hbi⟩;have hX2:=HXB.out wi hbi;have f0:=cF0 hX2;have f1:=cF1 hX2;have f2:=cF2 hX2;clear hX2) | (refine af rfl _ rfl w.heap.size r m (.slice (some ⟨b,0,none⟩) L.length c) rfl (HXB.out _ A4) ?_) | (refine ab rfl _ _ rfl (w.heap.size+1) r m (.slice (some ⟨b,0,none⟩) L.length c) rfl rfl (HZB.out _ A4) rfl rfl ?_;intro wz hZ9 t9))
 exact zP
theorem s7 (x:Int) (m0 k:Int) (w:World) (h:aA w (.slice a L.length c) L) (ok:Ok L m0 k) (hh:has L x=true) (hp:0≤(gr L x).pa) (hf: ¬ 0<ce L x):
  Calls Tryz.prog 46 #[.agg (ae r m (.slice a L.length c)),.int .i64 x] w fun e w'=>(∃v,e= .returned (.tuple #[v,.int .i64 (b5 L x)])∧bm w' v r m (bO L x))∧Below w.heap.size w w':=by
 have hc:b5 L x=0:=by unfold b5;rw[if_neg B6,if_neg A3,if_neg hf]
 have HC:=Hd hc;have HN:Hid (bO L x=L.take (pos L x)++L.drop (pos L x+1)):=Hd Bq;obtain⟨hx0,hZ0,hb,hsz,HR,HXB,HZB,HFin⟩:=cU r m h ok;have HA:Hid (atG L x=(pos L x:Int)):=Hd (aF hh);have HH:=Hd hh;have hj:=aC hh;obtain⟨b,rfl,hcl⟩:=h.at hj;have HCL:Hid (∀X,Below ((w.alloc (.cells #[.int .i64 r,.int .i64 m,.slice (some ⟨b,0,none⟩) L.length c] 29)).alloc (.cells #[.int .i64 0,.int .i64 0,.slice none 0 0] 29)).heap.size ((w.alloc (.cells #[.int .i64 r,.int .i64 m,.slice (some ⟨b,0,none⟩) L.length c] 29)).alloc (.cells #[.int .i64 0,.int .i64 0,.slice none 0 0] 29)) X→X.cell? ⟨b,pos L x*5+1,none⟩=some (.int .i64 (gr L x).pa)∧X.rangeAt b (pos L x*5) (au (gr L x)).toList):=Hd fun X hX=>⟨((hcl.below hb).below hX).pa hj,((hcl.below hb).below hX).range hj⟩
 have hlc:=h.form.2.1;have HCC:Hid (∀X,Below ((w.alloc (.cells #[.int .i64 r,.int .i64 m,.slice (some ⟨b,0,none⟩) L.length c] 29)).alloc (.cells #[.int .i64 0,.int .i64 0,.slice none 0 0] 29)).heap.size ((w.alloc (.cells #[.int .i64 r,.int .i64 m,.slice (some ⟨b,0,none⟩) L.length c] 29)).alloc (.cells #[.int .i64 0,.int .i64 0,.slice none 0 0] 29)) X→Cl X b 0 L):=Hd fun X hX=>(hcl.below hb).below hX
 have hn64:=ok.n64;clear hh;generalize (gr L x).pa=pa at *;generalize pos L x=j at *;clear hc h ok;unfold ae;go_enter Tryz.func46,Tryz.ntmps46
 go_wp2_with (first | (have hgd:=hx0;refine ai rfl rfl ?_;clear hgd;generalize ((w.alloc (.cells #[.int .i64 r,.int .i64 m,.slice (some ⟨b,0,none⟩) L.length c] 29)).alloc (.cells #[.int .i64 0,.int .i64 0,.slice none 0 0] 29))=w3 at *;have hbi:=Below.refl w3.heap.size w3;clear hx0 hZ0 hb) | (go_at_call 30;refine(HR.at' _ _ A4).mono ?_;rw[HA.out];rintro e wi ⟨rfl,hbi⟩;have hX2:=HXB.out wi hbi;have f0:=cF0 hX2;have f1:=cF1 hX2;have f2:=cF2 hX2;clear hX2;have g1:=(HCL.out wi hbi).1) | (go_at_call 84;refine(HR.fan _ _ HH.out A4).mono ?_;rintro e wi ⟨rfl,hbi⟩;have hX2:=HXB.out wi hbi;have f0:=cF0 hX2;have f1:=cF1 hX2;have f2:=cF2 hX2;clear hX2) | (refine af rfl _ rfl w.heap.size r m (.slice (some ⟨b,0,none⟩) L.length c) rfl (HXB.out _ A4) ?_) | (refine ab rfl _ _ rfl (w.heap.size+1) r m (.slice (some ⟨b,0,none⟩) L.length c) rfl rfl (HZB.out _ A4) rfl rfl ?_;intro wz hZ9 t9))
 have hX4:=HXB.out wi hbi;have hZ4:=HZB.out wi hbi;have hC4:=HCC.out wi hbi;have hF4:=HFin.out wi hbi;have hs4:=hbi.size;have hx:=hX4.drew;have hZ:=hZ4.drew;have hF5:Below w.heap.size w wi.drew:=Below.drewS hF4;have hC5:Cl wi.drew b 0 L:=hC4;have hs5:w.heap.size+2≤wi.drew.heap.size:=by show _≤wi.heap.size;omega
 have hfan: ¬ 0<ce L x:=A3
 go_wp2_with fail
 refine Rd.rg (fun X=>Blk X w.heap.size 29 (ae r m (.slice (some ⟨b,0,none⟩) L.length c))) 19 [0,1,2,3,5,6,7,8,10,11,12,13,14,16,18] [0,1,2,3,5,6,7,8,10,11,12,13,14,4,9,15,16,17,18] hx ?_;clear hX4 hZ4 hC4 hF4 hs4 hbi f0 f1 f2 g1;generalize wi.drew=w4 at *;have HS1:Hid (nd w4 (.slice (some ⟨b,0,none⟩) j c) (L.take j)):=Hd ⟨_,c,by rw[List.length_take,Nat.min_eq_left A3],fun _=>⟨b,0,rfl,hC5.head⟩⟩;generalize hvt:Value.slice (if c=j+1 then some ⟨b,0,none⟩ else some ⟨b,(j+1)*5,none⟩) (L.length - (j+1)) (c - (j+1))=VT;have HV:=Hd hvt.symm;have HS2:Hid (nd w4 VT (L.drop (j+1))):=Hd (by
  rw[HV.out];refine⟨_,_,by rw[List.length_drop],fun hne=>⟨b,(j+1)*5,?_,hC5.tail A3⟩⟩;have:0<(L.drop (j+1)).length:=List.length_pos_iff.2 hne;rw[List.length_drop] at this;rw[if_neg A3])
 clear hvt;have HW13:Hid (IntKind.i64.wrap ((j:Int)+1)=(j:Int)+1):=Hd (IntWalk.i64_in _ A3);have hcj1:j≤c:=A3
 have hcj2:j+1≤c:=A3
 have hcj3: ¬c<j+1:=A3
 refine Rd.sf (.pointer (some ⟨w.heap.size,0,none⟩)) ?_;refine Rd.sg (.int .i64 r) ?_ (y:=fun X hX=>A9);refine Rd.sf (.pointer (some ⟨w.heap.size,1,none⟩)) ?_;refine Rd.sg (.int .i64 m) ?_ (y:=fun X hX=>A9);refine Rd.sf (.pointer (some ⟨w.heap.size,2,none⟩)) ?_;refine Rd.sg (.slice (some ⟨b,0,none⟩) L.length c) ?_ (y:=fun X hX=>A9);refine Rd.sf (.int .i64 (j:Int)) ?_;refine Rd.sf (.slice (some ⟨b,0,none⟩) j c) ?_;refine Rd.sf (.pointer (some ⟨w.heap.size,2,none⟩)) ?_;refine Rd.sg (.slice (some ⟨b,0,none⟩) L.length c) ?_ (y:=fun X hX=>A9);refine Rd.sf (.int .i64 (j:Int)) ?_;refine Rd.sg (.int .i64 ((j:Int)+1)) ?_ (y:=fun X _=>by go_simp;exact HW13.out);refine Rd.sg (VT) ?_ (y:=fun X _=>by rw[HV.out];by_cases hcj:c=j+1<;>(go_simp;intro hq;exfalso;omega));refine Rd.sm fun K hK=>?_
 go_simp;have hE:=cB.empty w4 w4.heap.size lr;have hB:Below w4.heap.size w4 (w4.alloc (.cells #[] 56)):=(Below.refl _ _).alloc lr _;generalize w4.alloc (.cells #[] 56)=z1 at *;refine hK _ _ (fun _=>hx.below hB) ?_;clear hK K;refine Rd.sm fun K hK=>?_
 refine cI _ _ rfl w4.heap.size _ _ [] (L.take j) rfl rfl hB.size hE (HS1.below hB) Cq ?_;intro v2 z2 h2 gr2;rw[List.nil_append] at h2;have hB2:=hB.trans (hE.grown hB.size gr2);refine hK _ _ (fun _=>hx.below hB2) ?_;clear hK K;refine Rd.sm fun K hK=>?_
 refine cI _ _ rfl w4.heap.size _ _ (L.take j) (L.drop (j+1)) rfl rfl hB2.size h2 (HS2.below hB2) Cq ?_;intro v5 z5 h5 gr5;have hB5:=hB2.trans (h2.grown hB2.size gr5);obtain⟨a5,c5,rfl⟩:=h5.sl;refine hK _ _ (fun _=>hx.below hB5) ?_;clear hK K;refine Rd.sg (.agg #[.int .i64 r,.int .i64 m,.slice a5 (L.take j++L.drop (j+1)).length c5]) ?_ (y:=fun X _=>Ct);refine Rd.sm fun K hK=>?_
 refine cO _ _ rfl (w.heap.size+1) r m (.slice a5 (L.take j++L.drop (j+1)).length c5) rfl rfl (hZ.below hB5) rfl rfl ?_;intro wz hZ9 t9;refine hK _ _ (fun _=>(hx.below hB5).turn t9 A3) ?_;clear hK K;refine Rd.sf (.int .i64 0) ?_;refine Rd.seq_end ?_
 go_wp2_with fail
 refine bodyPost_ret (am rfl _ wz (w.heap.size+1) r m _ _ rfl rfl hZ9) rfl ?_;rw[HC.out,HN.out];exact⟨⟨_,rfl,a5,c5,rfl,h5.row.turn t9 (hZ.below hB5) BD⟩,(hF5.trans (hB5.mono A3)).trans (t9.below A3)⟩
theorem r6 (x:Int) (m0 k:Int) (w:World) (h:aA w (.slice a L.length c) L) (ok:Ok L m0 k):
  Calls Tryz.prog 46 #[.agg (ae r m (.slice a L.length c)),.int .i64 x] w fun e w'=>(∃v,e= .returned (.tuple #[v,.int .i64 (b5 L x)])∧bm w' v r m (bO L x))∧Below w.heap.size w w':=by
 cases hh:has L x with
 | false=>exact uh r m a c L x m0 k w h ok hh
 | true=>
 rcases ok.pa hh with hp | hp
 ·exact pR r m a c L x m0 k w h ok hh hp
 have hp2:0≤(gr L x).pa:=by have:=ok.id hp;omega
 by_cases hf:0<ce L x
 ·exact pV r m a c L x m0 k w h ok hh hp2 hf
 ·exact s7 r m a c L x m0 k w h ok hh hp2 hf
end
end Go.Proofs.YtohifgjeebhijaaGreatDoor
