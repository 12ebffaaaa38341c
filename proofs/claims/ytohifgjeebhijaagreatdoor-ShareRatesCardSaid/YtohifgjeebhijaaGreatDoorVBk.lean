import Derived.RangeFuncNested
import Derived.RangeFuncBound
import Derived.Shelf.Abstract
import Derived.Shelf.RegionOpen
import Derived.OwnWalkIn
import Derived.LoopNIn
import Derived.LoopIn
import Derived.Test.YtohifgjeebhijaaGreatDoorVRa
namespace Go.Proofs.YtohifgjeebhijaaGreatDoor
set_option maxRecDepth 100000
set_option maxHeartbeats 1000000
open Go.RowKit Go.Dig Go.Shelf Go.Proofs
attribute [local go_sem] Oper.semAt_some
theorem dY (ad:Option Addr) (n cap:Nat) (w:World):
  Calls Tryz.prog 72 #[.slice ad n cap] w fun e w'=>e= .returned (.func (.func 112) #[] #[.pointer (some ⟨w.heap.size,0,none⟩)])∧w'=w.alloc (.cells #[.slice ad n cap] 47):=by
 go_enter Tryz.func72,Tryz.ntmps72
 go_wp2
 go_ret;exact⟨rfl,rfl⟩
theorem xU (l Bn N:Nat) (ad:Option Addr) (len cap:Nat) (hlen:len≤1000000) (f:Nat→Nat) (J:Nat→World→Prop) (Jx:World→Prop)
  (hcell: ∀k W,k<len→J (k+1) W→W.cell? ⟨Bn,0,none⟩=some (.slice ad len cap)∧∃b off,ad=some ⟨b,off,none⟩∧W.cell? ⟨b,off+k,none⟩=some (.int .u64 (f k:Nat)))
  (hY: ∀k W,k<len→J (k+1) W→YieldAt Fence.wide (N - 1) Tryz.prog l #[.int .i64 (k:Int),.int .u64 (f k:Nat)] W fun e W'=>
   (e= .returned (.bool true)∧J k W')∨(e= .returned (.bool false)∧Jx W'))
  (W:World) (hbox:W.cell? ⟨Bn,0,none⟩=some (.slice ad len cap)) (h0:J len W):
  CallsIn Fence.wide N Tryz.prog 112 #[.func (.yield l) #[] #[],.pointer (some ⟨Bn,0,none⟩)] W fun e W'=>(∃v,e= .returned v)∧(J 0 W'∨Jx W'):=by
 refine callsIn_of_wp Tryz.func112 rfl trivial ?_ rfl;simp only[Tryz.ntmps112,List.size_toArray,List.length_cons,List.length_nil,Nat.reduceAdd,Nat.reduceSub,Array.replicate_succ,Array.replicate_zero,List.push_toArray,List.append_toArray,List.nil_append,List.cons_append]
 gi_wp2_with fail
 gi_loopw [3] (fun p wr=>∃(m:Nat),p= .int .i64 ((m:Int) - 1)∧m≤len∧J m wr) (fun p _=>(intOf p+1).toNat)
 case atStart=>
  exact⟨len,rfl,Nat.le_refl _,h0⟩
 case round=>
  obtain⟨m,rfl,hm,hJ⟩:=hrel;by_cases hz:m=0
  ·subst hz
   gi_wp2_with fail
   go_end0
   exact⟨⟨_,rfl⟩,.inl hJ⟩
  ·obtain⟨k,rfl⟩: ∃k,m=k+1:=⟨m - 1,A3⟩
   have hk:k<len:=A3
   obtain⟨hb1,b,off,rfl,hc⟩:=hcell k wr hk hJ;obtain⟨fn,tmps,assign,body,hy,hR⟩:=hY k wr hk hJ;have e1:((k+1:Nat):Int) - 1=(k:Int):=A3
   rw[e1];clear e1 hz hbox
   gi_wp2_with fail
   refine⟨fun h=>(by cases h),?_⟩;refine hR.mono ?_;rintro e W3 (⟨rfl,hJ3⟩ | ⟨rfl,hJx3⟩)
   ·gi_wp2_with fail
    go_roundw
    case rel=>exact⟨k,rfl,A3,hJ3⟩
    case measure=>simp[intOf]
   ·gi_wp2_with fail
    refine bodyPost_ret (results_none rfl _ _ _) rfl ?_;exact⟨⟨_,rfl⟩,.inr hJx3⟩
def vW (B:Nat) (Ik:World→Prop) (Ix:Code→World→Prop) (W:World):Exit→Act→World→Prop
 | .normal,_,W'=>KeepsFrom B W W'∧Ik W'
 | .ret,_,W'=>KeepsFrom B W W'∧Ix .ret W'
 | .exit id,_,W'=>KeepsFrom B W W'∧Ix (.exit id) W'
 | .goto t,_,W'=>KeepsFrom B W W'∧Ix (.goto t) W'
 | .panic _,_,_=>False
 | .outgrown,_,_=>False
theorem fA {g:Operand} {ps:Array Tmp} {assign body:Code} {Q:Exit→Act→World→Prop} {a:Act} {w:World} {N:Nat} (Bn:Nat) (ad:Option Addr) (len cap:Nat) (hlen:len≤1000000) (f:Nat→Nat)
  (hg:a.eval g= .func (.func 112) #[] #[.pointer (some ⟨Bn,0,none⟩)]) (hps:ps.size=2) (hbox:w.cell? ⟨Bn,0,none⟩=some (.slice ad len cap))
  (I:Nat→World→Prop) (Ix:Code→World→Prop) (hI:OwnFrom w.heap.size I) (hIx:OwnFrom w.heap.size Ix)
  (hcell: ∀k W,k<len→I (k+1) W→W.cell? ⟨Bn,0,none⟩=some (.slice ad len cap)∧∃b off,ad=some ⟨b,off,none⟩∧W.cell? ⟨b,off+k,none⟩=some (.int .u64 (f k:Nat)))
  (h0:I len w) (a₁:Nat→Act)
  (hassign: ∀(l k:Nat) (W:World) (K:Act→World→Prop),K (a₁ k) W→
   assign.wpIn (Fence.wide.inRound l) (N - 1 - 1) Tryz.prog (Exit.then K (fun _ _ _=>False)) { tmps:=(ps.zip #[.int .i64 (k:Int),.int .u64 (f k:Nat)]).foldl (fun t (p,v)=>t.setIfInBounds p v) a.tmps,defers:=[] } W)
  (hbody: ∀(l k:Nat) (W:World),k<len→w.heap.size≤l→l<W.heap.size→I (k+1) W→body.wpIn (Fence.wide.inRound l) (N - 1 - 1) Tryz.prog (vW w.heap.size (I k) Ix W) (a₁ k) W)
  (hdone: ∀(D:Nat) (W:World),w.heap.size≤D→I 0 W→W.heap[D]? =some (.deferred (some []))→Q .normal { a with defers:={ target:=.collected D,args:= #[] }::a.defers } W)
  (hstop: ∀(D:Nat) (c:Code) (W:World),w.heap.size≤D→Ix c W→W.heap[D]? =some (.deferred (some []))→c.wpIn Fence.wide N Tryz.prog Q { a with defers:={ target:=.collected D,args:= #[] }::a.defers } W):
  (Code.rangeFunc g ps assign body).wpIn Fence.wide N Tryz.prog Q a w:=by
 apply wpIn_rangeFunc;intro fn hfn
 let rc (st:LoopState) (pe:Option Code):Loop:={ state:=st,pending:=pe,fn:=fn,tmps:=a.tmps,params:=ps,assign:=assign,body:=body,defers:=w.heap.size }
 let W1:World:=(w.alloc (.deferred (some []))).alloc (.loop (rc .ready none))
 have hs1:W1.heap.size=w.heap.size+2:=by simp[W1]
 have hloop:W1.heap[w.heap.size+1]? =some (.loop (rc .ready none)):=by
  have h:=World.alloc_heap_new (w.alloc (.deferred (some []))) (.loop (rc .ready none));rw[World.size_alloc] at h;exact h
 have hdef:W1.heap[w.heap.size]? =some (.deferred (some [])):=by
  have h:=World.alloc_heap_new w (.deferred (some []));exact(Below.heap_alloc _ _ _ B4).trans h
 have hbox1:W1.cell? ⟨Bn,0,none⟩=some (.slice ad len cap):=by
  have hlt:Bn<w.heap.size:=World.block_lt_of_cell? w _ hbox;have hb:Below w.heap.size w W1:=((Below.refl _ w).alloc lr _).alloc B4 _;exact(hb.cell (p:=⟨Bn,0,none⟩) hlt).trans hbox
 refine⟨w.heap.size+1,[{ target:=.collected w.heap.size,args:= #[] }],W1,{ target:=.fn (.func 112) #[.pointer (some ⟨Bn,0,none⟩)],args:= #[.func (.yield (w.heap.size+1)) #[] #[]] },W1,112,
  #[.func (.yield (w.heap.size+1)) #[] #[],.pointer (some ⟨Bn,0,none⟩)],W1,run_enterLoop_outer fn a.tmps ps assign body,?_,fun _ _=>trivial,?_,fun h=>(by cases h),?_⟩
 ·simp only[resolve,hg];simp[go_sem]
 ·simp[invoke,go_sem]
 refine(xU (w.heap.size+1) Bn (N - 1) ad len cap hlen f
  (fun m W=>I m W∧W.heap[w.heap.size+1]? =some (.loop (rc .ready none))∧W.heap[w.heap.size]? =some (.deferred (some [])))
  (fun W=>∃c,Ix c W∧W.heap[w.heap.size+1]? =some (.loop (rc .done (some c)))∧W.heap[w.heap.size]? =some (.deferred (some [])))
  (fun k W hk h=>hcell k W hk h.1) ?_ W1 hbox1 ⟨hI.alloc _ (hI.alloc _ h0),hloop,hdef⟩).mono ?_
 ·rintro k W hk ⟨hi,hl,hd⟩;have hlt:w.heap.size+1<W.heap.size:=(Array.getElem?_eq_some_iff.1 hl).1;refine⟨fn,_,assign,body,run_yield hl (by rw[show (rc .ready none).params=ps from rfl,hps];rfl),roundIn_of_wpIn hfn ?_⟩;refine hassign _ k W _ ⟨_,run_beginRound hl rfl,?_⟩;have hlb:(W.putObj (w.heap.size+1) (.loop (rc .busy none))).heap[w.heap.size+1]? =some (.loop (rc .busy none)):=World.putObj_heap_same hlt;have hdb:(W.putObj (w.heap.size+1) (.loop (rc .busy none))).heap[w.heap.size]? =some (.deferred (some [])):=(World.putObj_heap_other A3).trans hd;have hib:I (k+1) (W.putObj (w.heap.size+1) (.loop (rc .busy none))):=hI.putObj _ hi A3 hl rfl;refine wpIn_mono (hbody (w.heap.size+1) k _ hk A3 (by rw[World.putObj_size];exact hlt) hib) ?_;have hend: ∀(j:Option Code) (W3:World),KeepsFrom w.heap.size (W.putObj (w.heap.size+1) (.loop (rc .busy none))) W3→
    ∃W4,(Instr.endRound (w.heap.size+1) j).run Tryz.prog W3= .ok (.bool j.isNone) W4∧W4=W3.putObj (w.heap.size+1) (.loop (rc (if j.isNone then .ready else .done) j))∧
     W3.heap[w.heap.size+1]? =some (.loop (rc .busy none))∧W4.heap[w.heap.size+1]? =some (.loop (rc (if j.isNone then .ready else .done) j))∧W4.heap[w.heap.size]? =some (.deferred (some [])):=by
   intro j W3 hk3;have h1:=hk3.same _ _ A3 hlb rfl;have h2:=hk3.same _ _ lr hdb rfl;exact⟨_,run_endRound j h1,rfl,h1,World.putObj_heap_same (Array.getElem?_eq_some_iff.1 h1).1,(World.putObj_heap_other A3).trans h2⟩
  intro e a3 W3 hp;cases e with
  | normal=>
   obtain⟨W4,hr,rfl,h3,h4,h5⟩:=hend none W3 hp.1;exact⟨_,_,hr,.inl ⟨rfl,hI.putObj _ hp.2 A3 h3 rfl,h4,h5⟩⟩
  | ret=>
   obtain⟨W4,hr,rfl,h3,h4,h5⟩:=hend (some .ret) W3 hp.1;exact⟨_,_,hr,.inr ⟨rfl,_,hIx.putObj _ hp.2 A3 h3 rfl,h4,h5⟩⟩
  | exit id=>
   obtain⟨W4,hr,rfl,h3,h4,h5⟩:=hend (some (.exit id)) W3 hp.1;exact⟨_,_,hr,.inr ⟨rfl,_,hIx.putObj _ hp.2 A3 h3 rfl,h4,h5⟩⟩
  | goto t=>
   obtain⟨W4,hr,rfl,h3,h4,h5⟩:=hend (some (.goto t)) W3 hp.1;exact⟨_,_,hr,.inr ⟨rfl,_,hIx.putObj _ hp.2 A3 h3 rfl,h4,h5⟩⟩
  | panic c=>exact hp.elim
  | outgrown=>exact hp.elim
 ·rintro e W2 ⟨⟨v,rfl⟩,(⟨hi,hl,hd⟩ | ⟨c,hi,hl,hd⟩)⟩
  ·exact⟨none,_,run_endLoop hl (fun h=>by cases h),hdone _ _ lr (hI.putObj _ hi A3 hl rfl) ((World.putObj_heap_other A3).trans hd)⟩
  ·exact⟨some c,_,run_endLoop hl (fun h=>by cases h),hstop _ c _ lr (hIx.putObj _ hi A3 hl rfl) ((World.putObj_heap_other A3).trans hd)⟩
set_option maxHeartbeats 2000000
attribute [local go_sem] Oper.semAt_some
theorem Tryz.info94:(Tryz.prog.info? 94).map (fun i=>(i.zero,i.size,i.bytes))=some (some (.int .u64 0),1,8):=Cx
def lj (c:Nat):Value:=.int .u64 (c:Int)
theorem aH.of_owns {w:World} {B:Nat} {v:Value} {l:List Nat} (h:w.ownsRow B 94 1 v l.length (l.map lj)):aH w v l:=by
 rcases h.2 with ⟨rfl,h1⟩ | ⟨g,cap,cur,rfl,h2,h3⟩
 ·have:l=[]:=List.eq_nil_of_length_eq_zero h1;subst this;exact AA
 ·refine⟨_,cap,rfl,h3.2.1,fun _=>⟨g,0,rfl,(Array.getElem?_eq_some_iff.1 h3.1).1,fun j hj=>?_⟩⟩;rw[Nat.zero_add,h.cellAt j A3];simp[List.getD,hj,lj]
theorem uI (v:Value) (l:List Nat) (i:Nat) (w:World) (h:aH w v l) (hl:l.length≤1000000) (_hi:i≤1000000):
  Calls Tryz.prog 78 #[v,.int .i64 (i:Int)] w fun e w'=>e= .returned (.int .u64 (l.getD i 0:Nat))∧w=w':=by
 obtain⟨ad,cap,rfl,hcap,h2⟩:=h;by_cases hlt:i<l.length
 ·obtain⟨b,off,rfl,hb,hc⟩:=h2 (by rintro rfl;simp at hlt);have hci:=hc i hlt;generalize l.getD i 0=x at hci ⊢;clear hc h2;go_enter Tryz.func78,Tryz.ntmps78
  go_wp2_with fail
  go_ret;exact⟨rfl,rfl⟩
 ·have e:l.getD i 0=0:=by simp[List.getD,Nat.le_of_not_lt hlt]
  rw[e];clear h2;go_enter Tryz.func78,Tryz.ntmps78
  go_wp2_with fail
  go_ret;exact⟨rfl,rfl⟩
theorem eV: ∀(l:List Nat),bq l=l.take (bq l).length
 | []=>rfl
 | d::l=>by
  have ih:=eV l;unfold bq;split
  ·rfl
  ·rw[List.length_cons,List.take_succ_cons,←ih]
theorem ef (l:List Nat):(bq l).length≤l.length:=by
 have h:=congrArg List.length (eV l);rw[List.length_take] at h;omega
def dr (ad:Option Addr) (cap:Nat) (l:List Nat):Value:=if bq l=[] then .slice none 0 0 else .slice ad (bq l).length cap
theorem aH.trimmed {w:World} {ad:Option Addr} {n cap:Nat} {l:List Nat} (h:aH w (.slice ad n cap) l):aH w (dr ad cap l) (bq l):=by
 unfold dr;by_cases h0:bq l=[]
 ·rw[if_pos h0,h0];exact AA
 ·rw[if_neg h0];have h1:=h.take (ef l);rw[←eV] at h1;exact h1
theorem b7 (ad:Option Addr) (cap:Nat) (l:List Nat) (w:World) (h:aH w (.slice ad l.length cap) l) (hl:l.length≤1000000):
  Calls Tryz.prog 70 #[.slice ad l.length cap] w fun e w'=>e= .returned (dr ad cap l)∧Below w.heap.size w w':=by
 have R:=Hd h;have hcap:l.length≤cap:=by obtain⟨_,_,e,h1,_⟩:=h;cases e;exact h1
 clear h;refine(callsIn_wide (n:=3)).1 ?_;refine callsIn_of_wp_marks Tryz.func70 rfl trivial ?_ rfl;simp only[Tryz.ntmps70,List.size_toArray,List.length_cons,List.length_nil,Nat.reduceAdd,Nat.reduceSub,Array.replicate_succ,Array.replicate_zero,List.push_toArray,List.append_toArray,List.nil_append,List.cons_append]
 gi_wp2_with fail
 refine⟨trivial,?_⟩;refine(callsIn_wide.2 (dY _ _ _ _)).mono ?_;rintro e w' ⟨rfl,rfl⟩
 gi_wp2_with fail
 have bA:=Boxed.new w 47 (.slice ad l.length cap);have bR:=Boxed.new (w.alloc (.cells #[.slice ad l.length cap] 47)) 47 (.slice none 0 0);rw[World.size_alloc] at bR;have bC:=Boxed.new ((w.alloc (.cells #[.slice ad l.length cap] 47)).alloc (.cells #[.slice none 0 0] 47)) 47 (.slice ad l.length cap);rw[World.size_alloc,World.size_alloc] at bC;have hB0:Below w.heap.size w (((w.alloc (.cells #[.slice ad l.length cap] 47)).alloc (.cells #[.slice none 0 0] 47)).alloc (.cells #[.slice ad l.length cap] 47)):=(((Below.refl _ w).alloc lr _).alloc B4 _).alloc Cq _;refine fA (w.heap.size+1+1) ad l.length cap hl (fun k=>l.getD k 0) rfl rfl bC.cell
  (fun m W=>Hid (bq (l.take m)=bq l)∧Boxed W w.heap.size 47 (.slice ad l.length cap)∧Boxed W (w.heap.size+1) 47 (.slice none 0 0)∧Boxed W (w.heap.size+1+1) 47 (.slice ad l.length cap)∧Below w.heap.size w W)
  (fun c W=>c= .ret∧Boxed W (w.heap.size+1) 47 (dr ad cap l)∧Below w.heap.size w W)
  (OwnFrom.and (ownFrom_pure _ _) (OwnFrom.and (Own.from (boxed_own _ _ _) _) (OwnFrom.and (Own.from (boxed_own _ _ _) _) (OwnFrom.and (Own.from (boxed_own _ _ _) _) (ownFrom_below lr Cq)))))
  (OwnFrom.and (ownFrom_pure _ _) (OwnFrom.and (Own.from (boxed_own _ _ _) _) (ownFrom_below lr Cq)))
  (fun k W hk hi=>⟨hi.2.2.2.1.cell,by
   obtain⟨b,off,rfl,hb,hc⟩:=R.cell hk;exact⟨b,off,rfl,(hi.2.2.2.2.cell (p:=⟨b,off+k,none⟩) hb).trans hc⟩⟩)
  ⟨Hd (by rw[List.take_length]),(bA.alloc _).alloc _,bR.alloc _,bC,hB0⟩
  (fun k=>{ tmps:= #[.slice ad l.length cap,.pointer (some ⟨w.heap.size,0,none⟩),.pointer (some ⟨w.heap.size+1,0,none⟩),.int .i64 (k:Int),.int .u64 (l.getD k 0:Nat),.slice ad l.length cap,.func (.func 112) #[] #[.pointer (some ⟨w.heap.size+1+1,0,none⟩)],.int .i64 (k:Int),.int .u64 (l.getD k 0:Nat),undef,undef,undef,undef,undef,undef],defers:=[] }) ?assign ?body ?done ?stop
 case assign=>
  intro ll k W K hK
  gi_wp2
  exact hK
 case body=>
  rintro ll k W hk _ _ ⟨HT,bA,bR,bC,hB⟩;have hc:=bA.cell;have hcr:=bR.cell;have hfr:=bR.frozen;have hsnoc:l.take (k+1)=l.take k++[l.getD k 0]:=by
   rw[List.take_add_one];simp[List.getD,hk]
  by_cases hz:l.getD k 0=0
  ·have HT2:Hid (bq (l.take k)=bq l):=Hd (by rw[←HT.out,hsnoc,hz,dv]);rw[hz]
   gi_wp2_with fail
   exact⟨KeepsFrom.refl _ _,HT2,bA,bR,bC,hB⟩
  ·have HT2:Hid (dr ad cap l= .slice ad (k+1) cap):=Hd (by
    have e:bq l=l.take (k+1):=by rw[←HT.out,hsnoc,gg _ hz]
    have e2:(bq l).length=k+1:=by rw[e,List.length_take];omega
    unfold dr;rw[if_neg (fun h=>by rw[h] at e2;simp at e2),e2])
   have hne:((l.getD k 0:Nat):Int)≠0:=A3
   generalize l.getD k 0=x at hne
   gi_wp2_with fail
   exact⟨(KeepsOthers.setCell _ _ _).from _,rfl,by rw[HT2.out];exact bR.set _,hB.setCell (p:=⟨w.heap.size+1,0,none⟩) B4 _⟩
 case done=>
  rintro D W hD ⟨HT,bA,bR,bC,hB⟩ hK;have HT2:Hid (dr ad cap l= .slice none 0 0):=Hd (by unfold dr;rw[←HT.out];rfl);have hcr:=bR.cell;have hfr:=bR.frozen;have hD2:w.heap.size≤D:=by simp at hD;omega
  gi_wp2_with fail
  have hK2:=(KeepsOthers.setCell W ⟨w.heap.size+1,0,none⟩ (.slice none 0 0)).same D _ hK rfl;have hc2:=(bR.set (.slice none 0 0)).cell;have hB2:=hB.setCell (p:=⟨w.heap.size+1,0,none⟩) B4 (.slice none 0 0);generalize W.setCell ⟨w.heap.size+1,0,none⟩ (.slice none 0 0)=W2 at hK2 hc2 hB2 ⊢;refine⟨B4,.inl ⟨_,_,rfl,run_takeDeferred hK2,?_⟩⟩;have hc5:=cell_kept hc2 (grownBy_putObj' _ D (.deferred none)) (fun r e=>by cases e;exact⟨_,hK2,rfl⟩);refine⟨.slice none 0 0,?_,by rw[HT2.out],hB2.trans (belowK_b (w:=w) lr W2 D _ _ hD2 hK2 rfl rfl)⟩;simp[results,Tryz.f70,go_sem,hc5]
 case stop=>
  rintro D c W hD ⟨rfl,bR,hB⟩ hK;have hcr:=bR.cell;have hfr:=bR.frozen;have hD2:w.heap.size≤D:=by simp at hD;omega
  gi_wp2_with fail
  refine⟨B4,.inl ⟨_,_,rfl,run_takeDeferred hK,?_⟩⟩;have hc5:=cell_kept hcr (grownBy_putObj' _ D (.deferred none)) (fun r e=>by cases e;exact⟨_,hK,rfl⟩);refine⟨dr ad cap l,?_,rfl,hB.trans (belowK_b (w:=w) lr W D _ _ hD2 hK rfl rfl)⟩;have ht: ∃ad' n',dr ad cap l= .slice ad' n' (if bq l=[] then 0 else cap):=by
   unfold dr;split<;>exact⟨_,_,rfl⟩
  obtain⟨ad',n',ht⟩:=ht;rw[ht] at hc5 ⊢;simp[results,Tryz.f70,go_sem,hc5]
theorem fm {a b:Nat} (h:a<b):bJ a b= -1:=by unfold bJ;rw[if_pos h]
theorem dV {a b:Nat} (h:b<a):bJ a b=1:=by unfold bJ;rw[if_neg A3,if_pos h]
theorem gy (a:Nat):bJ a a=0:=by unfold bJ;simp
theorem iX (a:Nat) (w:World):Calls Tryz.prog 111 #[.int .i64 (a:Int)] w fun e w'=>e= .returned (.bool false)∧w=w':=by
 go_enter Tryz.func111,Tryz.ntmps111
 go_wp2_with fail
 go_ret;exact⟨B4,rfl⟩
theorem iH (a:Nat) (w:World):Calls Tryz.prog 113 #[.int .u64 (a:Int)] w fun e w'=>e= .returned (.bool false)∧w=w':=by
 go_enter Tryz.func113,Tryz.ntmps113
 go_wp2_with fail
 go_ret;exact⟨B4,rfl⟩
theorem AG {p:Prop} (h:p:=by go_ret;exact⟨by rw[HZ.out];rfl,rfl⟩):p:=h
theorem jn (a b:Nat) (w:World):Calls Tryz.prog 71 #[.int .i64 (a:Int),.int .i64 (b:Int)] w fun e w'=>e= .returned (.int .i64 (bJ a b))∧w=w':=by
 rcases Nat.lt_trichotomy a b with h | h | h
 ·have HZ:=Hd (fm h);go_enter Tryz.func71,Tryz.ntmps71
  go_wp2_with (go_at_call 111;refine(iX _ _).mono ?_;rintro e w' ⟨rfl,rfl⟩)
  exact AG
 ·subst h;have HZ:=Hd (gy a);go_enter Tryz.func71,Tryz.ntmps71
  go_wp2_with (go_at_call 111;refine(iX _ _).mono ?_;rintro e w' ⟨rfl,rfl⟩)
  exact AG
 ·have HZ:=Hd (dV h);go_enter Tryz.func71,Tryz.ntmps71
  go_wp2_with (go_at_call 111;refine(iX _ _).mono ?_;rintro e w' ⟨rfl,rfl⟩)
  exact AG
theorem nI (a b:Nat) (w:World):Calls Tryz.prog 73 #[.int .u64 (a:Int),.int .u64 (b:Int)] w fun e w'=>e= .returned (.int .i64 (bJ a b))∧w=w':=by
 rcases Nat.lt_trichotomy a b with h | h | h
 ·have HZ:=Hd (fm h);go_enter Tryz.func73,Tryz.ntmps73
  go_wp2_with (go_at_call 113;refine(iH _ _).mono ?_;rintro e w' ⟨rfl,rfl⟩)
  exact AG
 ·subst h;have HZ:=Hd (gy a);go_enter Tryz.func73,Tryz.ntmps73
  go_wp2_with (go_at_call 113;refine(iH _ _).mono ?_;rintro e w' ⟨rfl,rfl⟩)
  exact AG
 ·have HZ:=Hd (dV h);go_enter Tryz.func73,Tryz.ntmps73
  go_wp2_with (go_at_call 113;refine(iH _ _).mono ?_;rintro e w' ⟨rfl,rfl⟩)
  exact AG
def fC (l:List Nat):Bool:=l.length==0||l.getD (l.length - 1) 0 != 0
theorem BL {p:Prop} (h:p:=by rw[beq_eq_false_iff_ne];omega):p:=h
theorem sE (v:Value) (l:List Nat) (w:World) (h:aH w v l) (hl:l.length≤1000000):
  Calls Tryz.prog 186 #[v] w fun e w'=>e= .returned (.bool (fC l))∧w=w':=by
 have R:=Hd h;obtain⟨ad,cap,rfl,hcap,h2⟩:=h;by_cases h0:l.length=0
 ·have HG:Hid (fC l=true):=Hd (by simp[fC,h0]);rw[h0];clear h2;go_enter Tryz.func186,Tryz.ntmps186
  go_wp2_with fail
  go_ret;exact⟨by rw[HG.out];rfl,rfl⟩
 ·obtain⟨b,off,rfl,hb,hc⟩:=R.cell (j:=l.length - 1) A3;have HG:Hid (fC l=(((l.getD (l.length - 1) 0:Nat):Int) != 0)):=Hd (by
   unfold fC;have:(l.length==0)=false:=by simpa using h0
   rw[this,Bool.false_or,Bool.eq_iff_iff];simp)
  generalize l.getD (l.length - 1) 0=x at hc HG;have hpos:0<l.length:=A3
  have hn0:((l.length:Int)==0)=false:=BL
  generalize l.length=n at *;clear h2;go_enter Tryz.func186,Tryz.ntmps186
  go_wp2_with fail
  go_ret;exact⟨by rw[HG.out];rfl,rfl⟩
abbrev L (n:Nat):List Nat:=dig 18446744073709551616 n
theorem uy {n:Nat} (h:n<18446744073709551616):bq [n]=L n:=by
 have h1:=dJ (B:=18446744073709551616) A3 [n] (Small.cons h Small.nil);rw[h1];simp[val]
theorem jJ (n:Nat) (w:World) (hn:n<18446744073709551616):
  Calls Tryz.prog 35 #[.int .u64 (n:Int)] w fun e w'=>∃v,e= .returned v∧aH w' v (L n)∧Below w.heap.size w w':=by
 have HT:=Hd (uy hn);have hrow:aH (w.alloc (.cells #[.int .u64 (n:Int)] 94)) (.slice (some ⟨w.heap.size,0,none⟩) 1 1) [n]:=
  aH.of_owns (B:=w.heap.size) (World.ownsRow_lit w #[.int .u64 (n:Int)] 1 lr Cu rfl)
 have hb:Below w.heap.size w (w.alloc (.cells #[.int .u64 (n:Int)] 94)):=(Below.refl _ w).alloc lr _;go_enter Tryz.func35,Tryz.ntmps35
 go_wp2_with fail
 refine(b7 (some ⟨w.heap.size,0,none⟩) 1 [n] _ hrow B4).mono ?_;rintro e w' ⟨rfl,hb2⟩
 go_wp2_with fail
 go_ret;refine⟨_,rfl,?_,hb.tr hb2⟩;have h3:=(aH.trimmed hrow).below hb2;rw[HT.out] at h3;exact h3
attribute [local go_sem] Oper.semAt_some
abbrev V (l:List Nat):Nat:=val 18446744073709551616 l
abbrev a7 (l:List Nat):Prop:=Small 18446744073709551616 l
theorem d6 {l:List Nat} (h:a7 l):bq l=L (V l):=dJ A3 l h
theorem V_L (n:Nat):V (L n)=n:=bU A3 n
theorem bH (n:Nat):a7 (L n):=b8 A3 n
theorem df {w:World} {ad:Option Addr} {n cap:Nat} {l:List Nat} (h:aH w (.slice ad n cap) l): ∃a c,dr ad cap l= .slice a (bq l).length c∧aH w (.slice a (bq l).length c) (bq l):=by
 have h1:=aH.trimmed h;obtain⟨a,c,e,-,-⟩:=id h1;exact⟨a,c,e,e ▸ h1⟩
theorem Ca {p:Prop} (h:p:=by go_simp):p:=h
theorem BC {p:Prop} (h:p:=by simp only[gA,gB,gC];rfl):p:=h
theorem oK (v1 v2:Value) (la lb:List Nat) (w:World) (h1:aH w v1 la) (h2:aH w v2 lb) (s1:a7 la) (s2:a7 lb) (hl1:la.length≤1000000) (hl2:lb.length≤1000000):
  Calls Tryz.prog 37 #[v1,v2] w fun e w'=>e= .returned (.int .i64 (bJ (V la) (V lb)))∧Below w.heap.size w w':=by
 have R1:=Hd h1;have R2:=Hd h2;obtain⟨ad1,cap1,rfl,hc1,-⟩:=h1;obtain⟨ad2,cap2,rfl,hc2,-⟩:=h2;obtain⟨a1,c1,e1,r1⟩:=df R1.out;obtain⟨a2,c2,e2,r2⟩:=df R2.out;have T1:=Hd (fun(W:World) (hb:Below w.heap.size w W)=>b7 ad1 cap1 la W (R1.below hb) hl1);have T2:=Hd (fun(W:World) (hb:Below w.heap.size w W)=>b7 ad2 cap2 lb W (R2.below hb) hl2);rw[e1] at T1;rw[e2] at T2;have hlx:(bq la).length≤1000000:=Nat.le_trans (ef _) hl1;have hly:(bq lb).length≤1000000:=Nat.le_trans (ef _) hl2;have Q1:=Hd r1;have Q2:=Hd r2;rw[d6 s1] at T1 hlx Q1;rw[d6 s2] at T2 hly Q2;generalize V la=x at *;generalize V lb=y at *;clear R1 R2 e1 e2 r1 r2 s1 s2;generalize la.length=n1 at *;generalize lb.length=n2 at *;have bB:=Boxed.new w 47 (.slice ad2 n2 cap2);have bR:=Boxed.new (w.alloc (.cells #[.slice ad2 n2 cap2] 47)) 3 (.int .i64 0);rw[World.size_alloc] at bR;replace bB:=bB.alloc (.cells #[.int .i64 0] 3);have hB0:Below w.heap.size w ((w.alloc (.cells #[.slice ad2 n2 cap2] 47)).alloc (.cells #[.int .i64 0] 3)):=((Below.refl _ w).alloc lr _).alloc B4 _;refine(callsIn_wide (n:=3)).1 ?_;refine callsIn_of_wp_marks Tryz.func37 rfl trivial ?_ rfl;simp only[Tryz.ntmps37,List.size_toArray,List.length_cons,List.length_nil,Nat.reduceAdd,Nat.reduceSub,Array.replicate_succ,Array.replicate_zero,List.push_toArray,List.append_toArray,List.nil_append,List.cons_append]
 gi_wp2_with fail
 generalize (w.alloc (.cells #[.slice ad2 n2 cap2] 47)).alloc (.cells #[.int .i64 0] 3)=W0 at bB bR hB0 ⊢;refine wpIn_wide.2 (Rd.region (fun X=>X.cell? ⟨w.heap.size,0,none⟩=some (.slice ad2 n2 cap2)) 5 [0,2,4] [0,2,1,3,4,5] Cx Cx Cx Cx rfl bB.cell ?_);have bB1:Boxed W0.drew w.heap.size 47 (.slice ad2 n2 cap2):=bB;have bR1:Boxed W0.drew (w.heap.size+1) 3 (.int .i64 0):=bR;have hB1:Below w.heap.size w W0.drew:=hB0.drew;clear bB bR hB0;generalize W0.drew=W1 at bB1 bR1 hB1 ⊢;refine Rd.sf (.slice ad1 n1 cap1) ?_;refine Rd.sg (.slice ad2 n2 cap2) ?_ (y:=fun X hX=>Ca);refine Rd.sm fun K hK=>?_
 go_simp;refine(T1.out W1 hB1).mono ?_;rintro e W2 ⟨rfl,hb2⟩;have bB2:Boxed W2 w.heap.size 47 (.slice ad2 n2 cap2):=(hb2.block _ bB1.lt).trans bB1;have bR2:Boxed W2 (w.heap.size+1) 3 (.int .i64 0):=(hb2.block _ bR1.lt).trans bR1;have hB2:Below w.heap.size w W2:=hB1.tr hb2;refine hK _ _ (fun _=>bB2.cell) ?_;clear hK K;refine Rd.sm fun K hK=>?_
 go_simp;refine(T2.out W2 hB2).mono ?_;rintro e W3 ⟨rfl,hb3⟩;have bB3:Boxed W3 w.heap.size 47 (.slice ad2 n2 cap2):=(hb3.block _ bB2.lt).trans bB2;have bR3:Boxed W3 (w.heap.size+1) 3 (.int .i64 0):=(hb3.block _ bR2.lt).trans bR2;have hB3:Below w.heap.size w W3:=hB2.tr hb3;refine hK _ _ (fun _=>bB3.cell) ?_;clear hK K;refine Rd.seq_float (.slice a1 (L x).length c1) BC rfl Cp (fun X _=>Ca) ?_;simp only[Act.put,sA,sC];refine Rd.sm fun K hK=>?_
 go_simp;have hc3:=bB3.cell;have hf3:=bB3.frozen;go_simp;refine hK _ _ (fun h=>absurd h A3) ?_;refine Rd.seq_end ?_;have bB4:=bB3.set (.slice a2 (L y).length c2);have bR4:Boxed (W3.setCell ⟨w.heap.size,0,none⟩ (.slice a2 (L y).length c2)) (w.heap.size+1) 3 (.int .i64 0):=bR3.other A3 _;have hB4:Below w.heap.size w (W3.setCell ⟨w.heap.size,0,none⟩ (.slice a2 (L y).length c2)):=hB3.setCell (p:=⟨w.heap.size,0,none⟩) lr _;clear bB1 bB2 bB3 bR1 bR2 bR3 hB1 hB2 hB3 hb2 hb3 T1 T2;generalize W3.setCell ⟨w.heap.size,0,none⟩ (.slice a2 (L y).length c2)=W4 at bB4 bR4 hB4 ⊢;have hcB:=bB4.cell;have hcR:=bR4.cell;have hfR:=bR4.frozen;by_cases hne:(L x).length=(L y).length
 ·have HL:=Hd hne;have hneq:(((L x).length:Int) != ((L y).length:Int))=false:=by rw[hne];simp
  clear hne
  gi_wp2_with fail
  refine⟨trivial,?_⟩;refine(callsIn_wide.2 (dY _ _ _ _)).mono ?_;rintro e w' ⟨rfl,rfl⟩
  gi_wp2_with fail
  have hlt4:=bR4.lt;have bC:=Boxed.new W4 47 (.slice a1 (L x).length c1);have bB5:=bB4.alloc (.cells #[.slice a1 (L x).length c1] 47);have bR5:=bR4.alloc (.cells #[.slice a1 (L x).length c1] 47);have hB5:=hB4.alloc hB4.size (.cells #[.slice a1 (L x).length c1] 47);have hs4:=hB4.size;have hsz:(W4.alloc (.cells #[.slice a1 (L x).length c1] 47)).heap.size=W4.heap.size+1:=World.size_alloc _ _;clear hcB hcR hfR bB4 bR4;refine fA W4.heap.size a1 (L x).length c1 hlx (fun k=>(L x).getD k 0) rfl rfl bC.cell
   (fun m W=>Hid (V ((L x).drop m)=V ((L y).drop m))∧Boxed W w.heap.size 47 (.slice a2 (L y).length c2)∧Boxed W (w.heap.size+1) 3 (.int .i64 0)∧Boxed W W4.heap.size 47 (.slice a1 (L x).length c1)∧Below w.heap.size w W)
   (fun c W=>c= .ret∧Boxed W (w.heap.size+1) 3 (.int .i64 (bJ x y))∧Below w.heap.size w W)
   (OwnFrom.and (ownFrom_pure _ _) (OwnFrom.and (Own.from (boxed_own _ _ _) _) (OwnFrom.and (Own.from (boxed_own _ _ _) _) (OwnFrom.and (Own.from (boxed_own _ _ _) _) (ownFrom_below lr (by rw[hsz];omega))))))
   (OwnFrom.and (ownFrom_pure _ _) (OwnFrom.and (Own.from (boxed_own _ _ _) _) (ownFrom_below lr (by rw[hsz];omega))))
   (fun k W hk hi=>⟨hi.2.2.2.1.cell,by
    obtain⟨b,off,rfl,hb,hc⟩:=Q1.cell hk;exact⟨b,off,rfl,(hi.2.2.2.2.cell (p:=⟨b,off+k,none⟩) hb).trans hc⟩⟩)
   ⟨Hd (by rw[List.drop_length,HL.out,List.drop_length]),bB5,bR5,bC,hB5⟩
   (fun k=>{ tmps:= #[.slice a1 (L x).length c1,.slice ad2 n2 cap2,undef,.pointer (some ⟨w.heap.size,0,none⟩),.pointer (some ⟨w.heap.size+1,0,none⟩),.int .i64 (k:Int),.int .u64 ((L x).getD k 0:Nat),.slice ad1 n1 cap1,.slice a1 (L x).length c1,.slice ad2 n2 cap2,.slice a2 (L y).length c2,.slice a1 (L x).length c1,.int .i64 ((L x).length:Int),.slice a2 (L y).length c2,.int .i64 ((L y).length:Int),.bool false,undef,undef,undef,undef,undef,.slice a1 (L x).length c1,.func (.func 112) #[] #[.pointer (some ⟨W4.heap.size,0,none⟩)],.int .i64 (k:Int),.int .u64 ((L x).getD k 0:Nat),undef,undef,undef,undef,undef,undef,undef,undef,undef,undef,undef,undef],defers:=[] }) ?assign ?body ?done ?stop
  case assign=>
   intro ll k W K hK
   gi_wp2
   exact hK
  case body=>
   rintro ll k W hk _ _ ⟨HT,bB,bR,bC,hB⟩;have hky:k<(L y).length:=by rw[←HL.out];exact hk
   have hcB:=bB.cell;have hcR:=bR.cell;have hfR:=bR.frozen;obtain⟨b2,o2,rfl,hb2,hc2⟩:=Q2.cell hky;replace hc2:=(hB.cell (p:=⟨b2,o2+k,none⟩) hb2).trans hc2;have HV:Hid (((L x).getD k 0<(L y).getD k 0→x<y)∧((L y).getD k 0<(L x).getD k 0→y<x)∧((L x).getD k 0=(L y).getD k 0→V ((L x).drop k)=V ((L y).drop k))):=Hd (by
    refine⟨fun h=>?_,fun h=>?_,fun h=>?_⟩
    ·have:=eA A3 (bH x) hk hky HT.out h;have e1:=V_L x;have e2:=V_L y;unfold V at e1 e2;omega
    ·have:=eA A3 (bH y) hky hk HT.symm h;have e1:=V_L x;have e2:=V_L y;unfold V at e1 e2;omega
    ·have e1:=bY (B:=18446744073709551616) (L x) k hk;have e2:=bY (B:=18446744073709551616) (L y) k hky;have:=HT.out;unfold V at this ⊢;rw[e1,e2,h,this])
   generalize (L x).getD k 0=p at HV;generalize (L y).getD k 0=q at HV hc2;by_cases hpq:p=q
   ·subst hpq;have HT2:=Hd (Hd (HV.2.2 rfl));clear HV;have hnn:((p:Int) != (p:Int))=false:=B4
    gi_wp2_with fail
    exact⟨KeepsFrom.refl _ _,HT2.out,bB,bR,bC,hB⟩
   ·have HZ:Hid (bJ x y=bJ p q):=Hd (by
     rcases Nat.lt_or_gt_of_ne hpq with h | h
     ·rw[fm h,fm (HV.1 h)]
     ·rw[dV h,dV (HV.2.1 h)])
    have hnn:((p:Int) != (q:Int))=true:=by rw[bne_iff_ne];omega
    gi_wp2_with fail
    refine⟨trivial,?_⟩;refine(CallsIn.inRound ll (callsIn_wide.2 (nI _ _ _))).mono ?_;rintro e w' ⟨rfl,rfl⟩
    gi_wp2_with fail
    exact⟨(KeepsOthers.setCell _ _ _).from _,rfl,by rw[HZ.out];exact bR.set _,hB.setCell (p:=⟨w.heap.size+1,0,none⟩) B4 _⟩
  case done=>
   rintro D W hD ⟨HT,bB,bR,bC,hB⟩ hK;have HZ:Hid (bJ x y=0):=Hd (by
    have h:=HT.out;rw[List.drop_zero,List.drop_zero,V_L,V_L] at h;rw[h];exact gy y)
   have hcr:=bR.cell;have hfr:=bR.frozen;have hD2:w.heap.size≤D:=by rw[hsz] at hD;omega
   gi_wp2_with fail
   have hK2:=(KeepsOthers.setCell W ⟨w.heap.size+1,0,none⟩ (.int .i64 0)).same D _ hK rfl;have hc2:=(bR.set (.int .i64 0)).cell;have hB2:=hB.setCell (p:=⟨w.heap.size+1,0,none⟩) B4 (.int .i64 0);generalize W.setCell ⟨w.heap.size+1,0,none⟩ (.int .i64 0)=W2 at hK2 hc2 hB2 ⊢;refine⟨B4,.inl ⟨_,_,rfl,run_takeDeferred hK2,?_⟩⟩;have hc5:=cell_kept hc2 (grownBy_putObj' _ D (.deferred none)) (fun r e=>by cases e;exact⟨_,hK2,rfl⟩);refine⟨.int .i64 0,?_,by rw[HZ.out],hB2.trans (belowK_b (w:=w) lr W2 D _ _ hD2 hK2 rfl rfl)⟩;simp[results,Tryz.f37,go_sem,hc5]
  case stop=>
   rintro D c W hD ⟨rfl,bR,hB⟩ hK;have hcr:=bR.cell;have hfr:=bR.frozen;have hD2:w.heap.size≤D:=by rw[hsz] at hD;omega
   gi_wp2_with fail
   refine⟨B4,.inl ⟨_,_,rfl,run_takeDeferred hK,?_⟩⟩;have hc5:=cell_kept hcr (grownBy_putObj' _ D (.deferred none)) (fun r e=>by cases e;exact⟨_,hK,rfl⟩);refine⟨.int .i64 (bJ x y),?_,rfl,hB.trans (belowK_b (w:=w) lr W D _ _ hD2 hK rfl rfl)⟩;simp[results,Tryz.f37,go_sem,hc5]
 ·have HZ:Hid (bJ x y=bJ (L x).length (L y).length):=Hd (by
   rcases Nat.lt_or_gt_of_ne hne with h | h
   ·rw[fm h,fm (gu A3 h)]
   ·rw[dV h,dV (gu A3 h)])
  have hneq:(((L x).length:Int) != ((L y).length:Int))=true:=by rw[bne_iff_ne];omega
  clear hne
  gi_wp2_with fail
  refine⟨trivial,?_⟩;refine(callsIn_wide.2 (jn _ _ _)).mono ?_;rintro e w' ⟨rfl,rfl⟩
  gi_wp2_with fail
  have hc5:=(bR4.set (.int .i64 (bJ (L x).length (L y).length))).cell;refine⟨.int .i64 (bJ (L x).length (L y).length),?_,by rw[HZ.out],hB4.setCell (p:=⟨w.heap.size+1,0,none⟩) B4 _⟩;simp[results,Tryz.f37,go_sem,hc5]
structure Fr (G:Nat→Prop) (w w':World):Prop where
 os:w'.os=w.os
 tape:w'.tape=w.tape
 output:w'.output=w.output
 size:w.heap.size≤w'.heap.size
 block: ∀k,k<w.heap.size→¬G k→w'.heap[k]? =w.heap[k]?
variable {G G':Nat→Prop} {w w' w'':World}
theorem Fr.refl (G:Nat→Prop) (w:World):Fr G w w:=⟨rfl,rfl,rfl,Nat.le_refl _,fun _ _ _=>rfl⟩
theorem Fr.trans (h:Fr G w w') (k:Fr G' w' w'') (hG: ∀i,i<w.heap.size→G' i→G i):Fr G w w'':=
 ⟨k.os.trans h.os,k.tape.trans h.tape,k.output.trans h.output,Nat.le_trans h.size k.size,fun i hi hn=>(k.block i (Nat.lt_of_lt_of_le hi h.size) (fun h9=>hn (hG i hi h9))).trans (h.block i hi hn)⟩
theorem Fr.more (h:Fr G w w') (hG: ∀i,i<w.heap.size→G i→G' i):Fr G' w w':=⟨h.os,h.tape,h.output,h.size,fun i hi hn=>h.block i hi (fun h9=>hn (hG i hi h9))⟩
theorem Fr.of_below (h:Below w.heap.size w w'):Fr G w w':=⟨h.os,h.tape,h.output,h.size,fun i hi _=>h.block i hi⟩
theorem Fr.of_grown {row:Option Nat} (h:w.grownBy w' row) (hr: ∀k,k<w.heap.size→row=some k→G k):Fr G w w':=
 ⟨h.os,h.tape,h.output,h.size,fun i hi hn=>h.block i hi (fun e=>hn (hr i hi e.symm))⟩
theorem Fr.below {B:Nat} (h:Fr G w w') (hB:B≤w.heap.size) (hG: ∀k,G k→B≤k):Below B w w':=
 ⟨h.os,h.tape,h.output,h.size,fun k hk=>h.block k A3 (fun h9=>by have:=hG k h9;omega)⟩
theorem Fr.grown {g:Nat} (h:Fr (· =g) w w'):w.grownBy w' (some g):=⟨h.os,h.tape,h.output,h.size,fun k hk hne=>h.block k hk (fun e=>hne (by rw[e]))⟩
theorem Fr.alloc (h:Fr G w w') (o:Obj):Fr G w (w'.alloc o):=h.trans (G':=fun _=>False) (Fr.of_grown (World.grownBy_alloc w' o none) (fun k _ e=>by cases e)) (fun _ _ h=>h.elim)
theorem Fr.drew (h:Fr G w w'):Fr G w w'.drew:=⟨h.os,h.tape,h.output,h.size,h.block⟩
theorem Fr.setCell (h:Fr G w w') {p:Addr} (hp:w.heap.size≤p.block∨G p.block) (u:Value):Fr G w (w'.setCell p u):=
 h.trans (G':=fun k=>k=p.block) ⟨rfl,rfl,rfl,by simp[World.setCell],fun k _ hn=>Below.heap_setCell _ _ _ _ hn⟩ (fun i hi e=>by
  rcases hp with hp | hp
  ·omega
  ·rw[e];exact hp)
theorem Fr.cell (h:Fr G w w') {p:Addr} (hp:p.block<w.heap.size) (hn: ¬G p.block):w'.cell? p=w.cell? p:=World.cell?_of_block (w:=w) (h.block p.block hp hn)
theorem Fr.boxed (h:Fr G w w') {B:Nat} {t:TypeId} {v:Value} (hb:Boxed w B t v) (hn: ¬G B):Boxed w' B t v:=(h.block B hb.lt hn).trans hb
theorem Fr.lim (h:Fr G w w') {q:IntKind} {ad:Option Addr} {n cap:Nat} {l:List Nat} (hl:Lim q w (.slice ad n cap) l) (hn: ∀b off,ad=some ⟨b,off,none⟩→b<w.heap.size→¬G b):Lim q w' (.slice ad n cap) l:=by
 obtain⟨ad',cap',e,h1,h2⟩:=hl;cases e;refine⟨ad,cap,rfl,h1,fun hne=>?_⟩;obtain⟨b,off,rfl,hb,hc⟩:=h2 hne;exact⟨b,off,rfl,Nat.lt_of_lt_of_le hb h.size,fun j hj=>(h.cell (p:=⟨b,off+j,none⟩) hb (hn b off rfl hb)).trans (hc j hj)⟩
theorem Fr.owns (h:Fr G w w') {base:Nat} {e:TypeId} {size:Nat} {g n cap:Nat} {xs:List Value} (ho:w.ownsRow base e size (.slice (some ⟨g,0,none⟩) n cap) n xs) (hn: ¬G g):w'.ownsRow base e size (.slice (some ⟨g,0,none⟩) n cap) n xs:=by
 refine⟨ho.1,?_⟩;rcases ho.2 with ⟨h',_⟩ | ⟨g',cap',cur,h',hb,hg,rest⟩
 ·cases h'
 ·cases h';exact .inr ⟨g,cap,cur,rfl,hb,(h.block g (Array.getElem?_eq_some_iff.1 hg).1 hn).trans hg,rest⟩
theorem qQ {β:Type} {B:Nat} {w₀:World} (hB:w₀.heap.size≤B):OwnFrom B (fun(_:β) W=>Fr G w₀ W):=fun _ _ _ _ hs hg hr=>
 hs.trans (G':=fun k=>B≤k) (Fr.of_grown hg (fun k _ e=>(hr k e).1)) (fun i hi h9=>A3)
theorem fY {W W':World} {row:Option Nat} {base:Nat} {e:TypeId} {size:Nat} {v:Value} {n:Nat} {xs:List Value} (h:W.ownsRow base e size v n xs) (hg:W.grownBy W' row)
  (hrow: ∀r,row=some r→∃o:Obj,W.heap[r]? =some o∧o.isCells=false):W'.ownsRow base e size v n xs:=by
 refine⟨h.1,?_⟩;rcases h.2 with h' | ⟨g,cap,cur,hv,hb,hc,rest⟩
 ·exact .inl h'
 ·exact .inr ⟨g,cap,cur,hv,hb,(grownBy_keeps_cells hg hrow hc rfl).trans hc,rest⟩
theorem cE {W W':World} {row:Option Nat} {B:Nat} {t:TypeId} {v:Value} (h:Boxed W B t v) (hg:W.grownBy W' row) (hrow: ∀r,row=some r→∃o:Obj,W.heap[r]? =some o∧o.isCells=false):Boxed W' B t v:=
 (grownBy_keeps_cells hg hrow h rfl).trans h
abbrev ay (w:World) (base g n cap:Nat) (l:List Nat):Prop:=w.ownsRow base 94 1 (.slice (some ⟨g,0,none⟩) n cap) n (l.map lj)
theorem ay.len {base g n cap:Nat} {l:List Nat} (h:ay w base g n cap l):l.length=n:=by have:=h.1;simpa using this
theorem ay.lt {base g n cap:Nat} {l:List Nat} (h:ay w base g n cap l):base≤g∧g<w.heap.size:=World.ownsRow.lt h g rfl
theorem ay.cap {base g n cap:Nat} {l:List Nat} (h:ay w base g n cap l):n≤cap:=by
 rcases h.2 with ⟨h',_⟩ | ⟨g',cap',cur,h',hb,hg,h1,_⟩
 ·cases h'
 ·cases h';exact h1
theorem ay.cell {base g n cap:Nat} {l:List Nat} (h:ay w base g n cap l) {j:Nat} (hj:j<n):w.cell? ⟨g,j,none⟩=some (.int .u64 (l.getD j 0:Nat)):=by
 have hl:=h.len;rw[h.cellAt j A3];simp[List.getD,show j<l.length by omega,lj]
theorem ay.frozen {base g n cap:Nat} {l:List Nat} (h:ay w base g n cap l) (j:Nat):w.frozen? ⟨g,j,none⟩=false:=h.frozenAt j
theorem ay.row {base g n cap:Nat} {l:List Nat} (h:ay w base g n cap l):aH w (.slice (some ⟨g,0,none⟩) n cap) l:=by
 have hl:=h.len;subst hl;exact aH.of_owns h
theorem ay.set {base g n cap:Nat} {l:List Nat} (h:ay w base g n cap l) (j x:Nat):ay (w.setCell ⟨g,j,none⟩ (.int .u64 (x:Int))) base g n cap (l.set j x):=by
 have h1:=(h.stored j (.int .u64 (x:Int))).1;rw[show (.int .u64 (x:Int):Value)=lj x from rfl,←List.map_set] at h1;exact h1
theorem ay.take {base g n cap k:Nat} {l:List Nat} (h:ay w base g n cap l) (hk:k≤n):ay w base g k cap (l.take k):=by
 have hl:=h.len;refine⟨by rw[List.length_map,List.length_take];omega,?_⟩;rcases h.2 with ⟨h',_⟩ | ⟨g',cap',cur,h',hb,hg,h1,h2,h3,h4⟩
 ·cases h'
 ·cases h';refine .inr ⟨g,cap,cur,rfl,hb,hg,A3,h2,h3,?_⟩;rw[Nat.mul_one] at h4 ⊢;rw[List.map_take,←h4,List.take_take,Nat.min_eq_left hk]
end Go.Proofs.YtohifgjeebhijaaGreatDoor
