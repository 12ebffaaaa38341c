import Derived.Test.YtohifgjeebhijaaGreatDoorVAm
import Derived.OrdersHeld
import Derived.Tactics
import Derived.OrdersIn
import Derived.TacticsIn
import Derived.RangeFuncCalls
import Derived.Test.YtohifgjeebhijaaGreatDoorVAl
namespace Go.Rd
open Go
def g8 (ops:Array Oper):Bool:=ops.all fun o=>match o.op with | .defer _=>false | _=>true
theorem mB {ops:Array Oper} (h:g8 ops=true) {i:Nat} {o:Oper} (ho:ops[i]? =some o): ∀c,o.op≠ .defer c:=by
 intro c hc;have hm:o∈ops:=Array.mem_of_getElem? ho;have:=(Array.all_eq_true_iff_forall_mem.1 h) o hm;simp[hc] at this
def mo (md:Region.Mode) (oj:Oper) (i:Nat):Bool:=oj.after.any fun e=>Region.binds md e&&e.on==i
theorem kM {md:Region.Mode} {oj:Oper} {i:Nat} (h:mo md oj i=true): ∃e∈oj.after,Region.binds md e=true∧e.on=i:=by
 unfold mo at h;rw[Array.any_eq_true'] at h;obtain⟨e,he,hb⟩:=h;rw[Bool.and_eq_true] at hb;exact⟨e,he,hb.1,by simpa using hb.2⟩
def iy (md:Region.Mode) (ops:Array Oper) (fl:List Nat) (T:Nat):Bool:=
 (List.range ops.size).all fun j=>decide (j<T)||fl.all fun i=>match ops[j]? with | some oj=>mo md oj i | none=>true
theorem kJ {md:Region.Mode} {ops:Array Oper} {fl:List Nat} {T:Nat} (h:iy md ops fl T=true) {i j:Nat} {oj:Oper} (hi:i∈fl) (hj:T≤j) (ho:ops[j]? =some oj):mo md oj i=true:=by
 unfold iy at h;rw[List.all_eq_true] at h;have h1:=h j (by simpa using(Array.getElem?_eq_some_iff.1 ho).1);have h2: ¬j<T:=A3
 simp only[h2,decide_false,Bool.false_or,List.all_eq_true] at h1;have h3:=h1 i hi;simpa[ho] using h3
def only (R:Act→World→Prop):Exit→Act→World→Prop
 | .normal,a,w=>R a w
 | _,_,_=>False
theorem pC (R:Act→World→Prop): ¬LetsOut (only R):=fun⟨_,_,h⟩=>h
section
variable {P:Program} {ops:Array Oper} {md:Region.Mode} {S:World→Prop} {T:Nat}
def j1 (P:Program) (md:Region.Mode) (ops:Array Oper) (Q:Exit→Act→World→Prop) (S:World→Prop) (T:Nat):Nat→Array Bool→Act→World→Prop
 | 0,listed,a,w=>Region.ready md ops listed=[]∧Q .normal a w
 | fuel+1,listed,a,w=>
  (Region.ready md ops listed=[]→Q .normal a w)∧
  ∀i∈Region.ready md ops listed,wpOp P ops Q i (fun a' w'=>(i<T→S w')∧j1 P md ops Q S T fuel (listed.setIfInBounds i true) a' w') a w
theorem gL {Q:Exit→Act→World→Prop}: ∀(fuel:Nat) (listed:Array Bool) (a:Act) (w:World),j1 P md ops Q S T fuel listed a w→wpAny P md ops Q fuel listed a w
 | 0,_,_,_,h=>h
 | fuel+1,_,_,_,h=>⟨h.1,fun i hi=>wpOp_mono (fun a' w' h'=>gL fuel _ a' w' h'.2) (h.2 i hi)⟩
theorem nx {R:Act→World→Prop} {i:Nat} {oi:Oper} {v:Value} (hi:ops[i]? =some oi) (hsel: ∀(j:Nat) (o:Oper) cs b,ops[j]? =some o→o.op≠ .select cs b)
  (hT: ∀j oj,T≤j→ops[j]? =some oj→mo md oj i=true) (hiT:i<T):
  ∀(fuel:Nat) (listed:Array Bool) (a:Act) (w:World),
   (∀j oj,ops[j]? =some oj→j≠i→listed.getD j true=false→(∀e∈oj.after,Region.binds md e=true→e.on≠i)→oi.apart ops oj=true)→
   i∈Region.ready md ops listed→YieldsIf P ops S oi v a→S w→
   j1 P md ops (only R) S T fuel (listed.setIfInBounds i true) (a.put oi.dst v) w→j1 P md ops (only R) S T (fuel+1) listed a w:=by
 intro fuel
 induction fuel with
 | zero=>
  intro listed a w _ hr hy hS H;refine⟨fun h=>(by rw[h] at hr;cases hr),fun j hj=>?_⟩;by_cases hji:j=i
  ·subst hji;exact hy.wpOp hi hS ⟨fun _=>hS,H⟩
  ·have h0:=ready_mono hj hji;rw[H.1] at h0;cases h0
 | succ fuel ih=>
  intro listed a w hfree hr hy hS H;refine⟨fun h=>(by rw[h] at hr;cases hr),fun j hj=>?_⟩;by_cases hji:j=i
  ·subst hji;exact hy.wpOp hi hS ⟨fun _=>hS,H⟩
  ·obtain⟨hjun,oj,hoj,hall⟩:=mem_ready.1 hj;have hnot: ∀e∈oj.after,Region.binds md e=true→e.on≠i:=fun e he hb heq=>by
    have h1:=hall e he hb;have h0:=(mem_ready.1 hr).1;rw[heq] at h1;rcases Nat.lt_or_ge i listed.size with h' | h'
    ·simp[h'] at h0 h1;rw[h0] at h1;cases h1
    ·simp[Array.getElem?_eq_none h'] at h1
   have hjT:j<T:=by
    apply Nat.lt_of_not_le;intro hle;obtain⟨e,he,hb,heq⟩:=kM (hT j oj hle hoj);exact hnot e he hb heq
   have h2:=wpOp_putIf hoj (hfree j oj hoj hji hjun hnot) (fun cs b=>hsel i oi cs b hi) (fun cs b=>hsel j oj cs b hoj) (fun c a w h=>h) hy (H.2 j (ready_mono hj hji));have hfree': ∀k ok,ops[k]? =some ok→k≠i→(listed.setIfInBounds j true).getD k true=false→
     (∀e∈ok.after,Region.binds md e=true→e.on≠i)→oi.apart ops ok=true:=fun k ok hk hki hun hno=>by
    refine hfree k ok hk hki ?_ hno;by_cases hjk:j=k
    ·subst hjk;exact hjun
    ·rw[getD_set_ne true hjk] at hun;exact hun
   refine wpOp_mono (fun a' w' h3=>⟨h3.2.1,ih (listed.setIfInBounds j true) a' w' hfree' (ready_mono hr (Ne.symm hji)) h3.1 (h3.2.1 hjT) ?_⟩) h2;rw[Array.setIfInBounds_comm _ _ hji];exact h3.2.2
def wpSeq (P:Program) (ops:Array Oper) (R:Act→World→Prop) (S:World→Prop) (T:Nat) (fl:List Nat):List Nat→Act→World→Prop
 | [],a,w=>R a w
 | k::rest,a,w=>if fl.contains k then ∃o v,ops[k]? =some o∧YieldsIf P ops S o v a∧wpSeq P ops R S T fl rest (a.put o.dst v) w
  else wpOp P ops (only R) k (fun a' w'=>(k<T→S w')∧wpSeq P ops R S T fl rest a' w') a w
def pS (md:Region.Mode) (ops:Array Oper) (T:Nat) (fl:List Nat):List Nat→Array Bool→Bool
 | [],listed=>(Region.ready md ops listed).isEmpty
 | k::rest,listed=>(if fl.contains k then decide (k<T)&&(Region.ready md ops listed).contains k&&Region.free md ops listed k else decide (Region.ready md ops listed=[k]))&&
   decide (k<T∨rest.all (fun j=>decide (T≤j)&& !fl.contains j))&&pS md ops T fl rest (listed.setIfInBounds k true)
theorem jM {R:Act→World→Prop} {fl:List Nat} (hsel:Region.noSelect ops=true) (hT:iy md ops fl T=true):
  ∀(ord:List Nat) (listed:Array Bool) (a:Act) (w:World),pS md ops T fl ord listed=true→((∃k∈ord,fl.contains k=true)→S w)→wpSeq P ops R S T fl ord a w→j1 P md ops (only R) S T ord.length listed a w
 | [],listed,a,w,hB,_,h=>⟨by simpa[pS] using hB,h⟩
 | k::rest,listed,a,w,hB,hS,h=>by
  simp only[pS,Bool.and_eq_true] at hB;obtain⟨⟨hk,htl⟩,hB'⟩:=hB;unfold wpSeq at h;by_cases hf:fl.contains k=true
  ·rw[if_pos hf] at h hk;obtain⟨o,v,ho,hy,h'⟩:=h;simp only[Bool.and_eq_true,decide_eq_true_eq] at hk;obtain⟨⟨hkT,hr⟩,hfree⟩:=hk;have hSw:=hS ⟨k,B4,hf⟩;exact nx ho (Region.noSelect_spec hsel) (fun j oj hj hoj=>kJ hT (by simpa using hf) hj hoj) hkT rest.length listed a w (Region.free_spec ho hfree) (by simpa using hr) hy hSw
    (jM hsel hT rest _ _ w hB' (fun _=>hSw) h')
  ·rw[if_neg hf] at h hk;simp only[decide_eq_true_eq] at hk;refine⟨fun h0=>(by rw[hk] at h0;cases h0),fun i hi=>?_⟩;rw[hk] at hi;have hik:i=k:=by simpa using hi
   subst hik;refine wpOp_mono (fun a' w' h3=>⟨h3.1,jM hsel hT rest _ a' w' hB' (fun hex=>?_) h3.2⟩) h;simp only[decide_eq_true_eq] at htl;rcases htl with htl | htl
   ·exact h3.1 htl
   ·obtain⟨j,hj,hfj⟩:=hex;have h4:=(List.all_eq_true.1 htl) j hj;rw[hfj] at h4;simp at h4
theorem seq_float {R:Act→World→Prop} {fl:List Nat} {k:Nat} {rest:List Nat} {a:Act} {w:World} {o:Oper} (v:Value) (ho:ops[k]? =some o) (hf:fl.contains k=true)
  (hw:Region.wanted o (yielded ops a.tmps)=true) (hy: ∀w,S w→(execOp a.eval o).run P w= .ok (.value v) w) (h:wpSeq P ops R S T fl rest (a.put o.dst v) w):wpSeq P ops R S T fl (k::rest) a w:=by
 unfold wpSeq;rw[if_pos hf];exact⟨o,v,ho,.inl ⟨hw,hy⟩,h⟩
theorem nZ {R:Act→World→Prop} {fl:List Nat} {k:Nat} {rest:List Nat} {a:Act} {w:World} {o:Oper} (ho:ops[k]? =some o) (hf:fl.contains k=true)
  (hw:Region.wanted o (yielded ops a.tmps)=false) (h:wpSeq P ops R S T fl rest (a.put o.dst undef) w):wpSeq P ops R S T fl (k::rest) a w:=by
 unfold wpSeq;rw[if_pos hf];exact⟨o,undef,ho,.inr ⟨hw,rfl⟩,h⟩
theorem Aq {p:Prop} (h:p:=by unfold wpOp;simp only[ho,hw,if_true];exact .inl (h _ fun a' w' h1 h2=>⟨h1,h2⟩)):p:=h
theorem vg {R:Act→World→Prop} {fl:List Nat} {k:Nat} {rest:List Nat} {a:Act} {w:World} {o:Oper} (ho:ops[k]? =some o) (hf:fl.contains k=false)
  (hw:Region.wanted o (yielded ops a.tmps)=true)
  (h: ∀K:Act→World→Prop,(∀a' w',(k<T→S w')→wpSeq P ops R S T fl rest a' w'→K a' w')→o.wp P a w K (only R)):wpSeq P ops R S T fl (k::rest) a w:=by
 unfold wpSeq;rw[if_neg (by rw[hf];simp)];exact Aq
theorem seq_end {R:Act→World→Prop} {fl:List Nat} {a:Act} {w:World} (h:R a w):wpSeq P ops R S T fl [] a w:=h
theorem AV {p:Prop} (h:p:=by rw[hlen] at h1;refine Code.wp_mono (fun e a w hq=>?_) (wp_region_any hm h1);cases e<;>first | exact hq | exact(hq:False).elim):p:=h
theorem region {id:Nat} {Q:Exit→Act→World→Prop} {a:Act} {w:World} (S:World→Prop) (T:Nat) (fl ord:List Nat) (hm:P.follows .mixedOrders=true) (hsel:Region.noSelect ops=true)
  (hT:iy .any ops fl T=true) (hB:pS .any ops T fl ord (Array.replicate ops.size false)=true) (hlen:ord.length=ops.size) (hS:S w.drew)
  (h:wpSeq P ops (fun a w=>Q .normal a w) S T fl ord a w.drew):(Code.region id ops true).wp P Q a w:=by
 have h1:=gL _ _ _ _ (jM (md:=.any) hsel hT ord _ a w.drew hB (fun _=>hS) h);exact AV
end
section
variable {P:Program} {ops:Array Oper} {md:Region.Mode} {l n:Nat}
theorem qp {o:Oper} (hd: ∀c,o.op≠ .defer c) {a:Act} {w:World} {K:Act→World→Prop} {Q:Exit→Act→World→Prop} (hh:o.wp P a w K Q):o.wpIn (Fence.wide.inRound l) n P a w K Q:=by
 refine⟨fun _ _=>trivial,?_⟩;rw[Oper.semAt_eq _ _ _ hd];unfold Oper.wp at hh;generalize (execOp a.eval o).run P w=r at *;cases r with
 | ok x w'=>
  cases x<;>simp only[Oper.upon] at hh<;>simp only[Oper.uponIn]
  case enter f args=>
   exact⟨fun hdep=>by simp[Fence.wide,Fence.inRound] at hdep,CallsIn.inRound l (callsIn_wide.2 hh)⟩
  case row row args=>
   refine⟨fun hdep=>by simp[Fence.wide,Fence.inRound] at hdep,fun c cs _=>?_⟩;obtain⟨v,w'',hr,hs⟩:=hh c cs;exact⟨v,w'',hr,stepsIn_wide.2 hs⟩
  all_goals exact hh
 | halt x w'=>cases x<;>simp only[Oper.upon] at hh<;>simp only[Oper.uponIn]<;>exact hh
theorem kX (hd:g8 ops=true) {Q:Exit→Act→World→Prop} (hQ: ¬LetsOut Q) {i:Nat} {a:Act} {w:World} {K:Act→World→Prop} (hh:wpOp P ops Q i K a w):wpOpIn (Fence.wide.inRound l) n P ops Q i K a w:=by
 unfold wpOp at hh;unfold wpOpIn;split
 ·rename_i ho;simpa only[ho] using hh
 ·rename_i o ho;simp only[ho] at hh;split
  ·rename_i hw;simp only[hw,if_true] at hh;rcases hh with hh | hh
   ·exact qp (mB hd ho) hh
   ·exact absurd hh.2 hQ
  ·rename_i hw;simp only[hw] at hh;exact⟨fun _ _=>trivial,hh⟩
theorem dG (hd:g8 ops=true) {Q:Exit→Act→World→Prop} (hQ: ¬LetsOut Q): ∀(fuel:Nat) (listed:Array Bool) (a:Act) (w:World),wpAny P md ops Q fuel listed a w→wpAnyIn (Fence.wide.inRound l) n P md ops Q fuel listed a w
 | 0,_,_,_,h=>h
 | fuel+1,_,_,_,h=>⟨h.1,fun i hi=>wpOpIn_mono (fun a' w' h'=>dG hd hQ fuel _ a' w' h') (kX hd hQ (h.2 i hi))⟩
theorem AN {p:Prop} (h:p:=by rw[hlen] at h1;refine wpIn_mono (wpIn_region_any hm (dG hd (pC _) _ _ _ _ h1)) (fun e a w hq=>?_);cases e<;>first | exact hq | exact(hq:False).elim):p:=h
theorem regionIn {id:Nat} {Q:Exit→Act→World→Prop} {a:Act} {w:World} (S:World→Prop) (T:Nat) (fl ord:List Nat) (hm:P.follows .mixedOrders=true) (hd:g8 ops=true) (hsel:Region.noSelect ops=true)
  (hT:iy .any ops fl T=true) (hB:pS .any ops T fl ord (Array.replicate ops.size false)=true) (hlen:ord.length=ops.size) (hS:S w.drew)
  (h:wpSeq P ops (fun a w=>Q .normal a w) S T fl ord a w.drew):(Code.region id ops true).wpIn (Fence.wide.inRound l) n P Q a w:=by
 have h1:=gL _ _ _ _ (jM (md:=.any) hsel hT ord _ a w.drew hB (fun _=>hS) h);exact AN
end
section
variable {P:Program} {ops:Array Oper} {md:Region.Mode} {S:World→Prop} {T:Nat}
def eO (P:Program) (md:Region.Mode) (ops:Array Oper) (Q:Exit→Act→World→Prop) (S:World→Prop) (T:Nat):Nat→Array Bool→Act→World→Prop
 | 0,listed,a,w=>Region.ready md ops listed=[]∧Q .normal a w
 | fuel+1,listed,a,w=>
  (Region.ready md ops listed=[]→Q .normal a w)∧
  ∀i∈Region.ready md ops listed,wpOp P ops Q i (fun a' w'=>(i<T→S w→S w')∧eO P md ops Q S T fuel (listed.setIfInBounds i true) a' w') a w
theorem eo {Q:Exit→Act→World→Prop}: ∀(fuel:Nat) (listed:Array Bool) (a:Act) (w:World),eO P md ops Q S T fuel listed a w→wpAny P md ops Q fuel listed a w
 | 0,_,_,_,h=>h
 | fuel+1,_,_,_,h=>⟨h.1,fun i hi=>wpOp_mono (fun a' w' h'=>eo fuel _ a' w' h'.2) (h.2 i hi)⟩
theorem dX {R:Act→World→Prop} {i:Nat} {oi:Oper} {v:Value} {S':World→Prop} (hi:ops[i]? =some oi) (hsel: ∀(j:Nat) (o:Oper) cs b,ops[j]? =some o→o.op≠ .select cs b)
  (hS':(∀w,S' w)∨(S'=S∧∀j oj,T≤j→ops[j]? =some oj→mo md oj i=true)):
  ∀(fuel:Nat) (listed:Array Bool) (a:Act) (w:World),
   (∀j oj,ops[j]? =some oj→j≠i→listed.getD j true=false→(∀e∈oj.after,Region.binds md e=true→e.on≠i)→oi.apart ops oj=true)→
   i∈Region.ready md ops listed→YieldsIf P ops S' oi v a→S' w→
   eO P md ops (only R) S T fuel (listed.setIfInBounds i true) (a.put oi.dst v) w→eO P md ops (only R) S T (fuel+1) listed a w:=by
 intro fuel
 induction fuel with
 | zero=>
  intro listed a w _ hr hy hS H;refine⟨fun h=>(by rw[h] at hr;cases hr),fun j hj=>?_⟩;by_cases hji:j=i
  ·subst hji;exact hy.wpOp hi hS ⟨fun _ h=>h,H⟩
  ·have h0:=ready_mono hj hji;rw[H.1] at h0;cases h0
 | succ fuel ih=>
  intro listed a w hfree hr hy hS H;refine⟨fun h=>(by rw[h] at hr;cases hr),fun j hj=>?_⟩;by_cases hji:j=i
  ·subst hji;exact hy.wpOp hi hS ⟨fun _ h=>h,H⟩
  ·obtain⟨hjun,oj,hoj,hall⟩:=mem_ready.1 hj;have hnot: ∀e∈oj.after,Region.binds md e=true→e.on≠i:=fun e he hb heq=>by
    have h1:=hall e he hb;have h0:=(mem_ready.1 hr).1;rw[heq] at h1;rcases Nat.lt_or_ge i listed.size with h' | h'
    ·simp[h'] at h0 h1;rw[h0] at h1;cases h1
    ·simp[Array.getElem?_eq_none h'] at h1
   have h2:=wpOp_putIf hoj (hfree j oj hoj hji hjun hnot) (fun cs b=>hsel i oi cs b hi) (fun cs b=>hsel j oj cs b hoj) (fun c a w h=>h) hy (H.2 j (ready_mono hj hji));have hfree': ∀k ok,ops[k]? =some ok→k≠i→(listed.setIfInBounds j true).getD k true=false→
     (∀e∈ok.after,Region.binds md e=true→e.on≠i)→oi.apart ops ok=true:=fun k ok hk hki hun hno=>by
    refine hfree k ok hk hki ?_ hno;by_cases hjk:j=k
    ·subst hjk;exact hjun
    ·rw[getD_set_ne true hjk] at hun;exact hun
   refine wpOp_mono (fun a' w' h3=>⟨h3.2.1,ih (listed.setIfInBounds j true) a' w' hfree' (ready_mono hr (Ne.symm hji)) h3.1 ?_ ?_⟩) h2
   ·rcases hS' with hall' | ⟨rfl,hT⟩
    ·exact hall' w'
    ·have hjT:j<T:=by
      apply Nat.lt_of_not_le;intro hle;obtain⟨e,he,hb,heq⟩:=kM (hT j oj hle hoj);exact hnot e he hb heq
     exact h3.2.1 hjT hS
   ·rw[Array.setIfInBounds_comm _ _ hji];exact h3.2.2
def cF (P:Program) (ops:Array Oper) (R:Act→World→Prop) (S:World→Prop) (T:Nat) (fp fl:List Nat):List Nat→Act→World→Prop
 | [],a,w=>R a w
 | k::rest,a,w=>if fp.contains k then ∃o v,ops[k]? =some o∧YieldsIf P ops (fun _=>True) o v a∧cF P ops R S T fp fl rest (a.put o.dst v) w
  else if fl.contains k then ∃o v,ops[k]? =some o∧YieldsIf P ops S o v a∧cF P ops R S T fp fl rest (a.put o.dst v) w
  else wpOp P ops (only R) k (fun a' w'=>(k<T→S w')∧cF P ops R S T fp fl rest a' w') a w
def ml (md:Region.Mode) (ops:Array Oper) (T:Nat) (fp fl:List Nat):List Nat→Array Bool→Bool
 | [],listed=>(Region.ready md ops listed).isEmpty
 | k::rest,listed=>(if fp.contains k||fl.contains k then (Region.ready md ops listed).contains k&&Region.free md ops listed k
   else decide (Region.ready md ops listed=[k])&&decide (k<T∨rest.all (fun j=>fp.contains j|| !fl.contains j)))&&ml md ops T fp fl rest (listed.setIfInBounds k true)
theorem f7 {R:Act→World→Prop} {fp fl:List Nat} (hsel:Region.noSelect ops=true) (hT:iy md ops fl T=true):
  ∀(ord:List Nat) (listed:Array Bool) (a:Act) (w:World),ml md ops T fp fl ord listed=true→((∃k∈ord,fp.contains k=false∧fl.contains k=true)→S w)→cF P ops R S T fp fl ord a w→eO P md ops (only R) S T ord.length listed a w
 | [],listed,a,w,hB,_,h=>⟨by simpa[ml] using hB,h⟩
 | k::rest,listed,a,w,hB,hS,h=>by
  simp only[ml,Bool.and_eq_true] at hB;obtain⟨hk,hB'⟩:=hB;unfold cF at h;by_cases hp:fp.contains k=true
  ·rw[if_pos hp] at h;rw[hp,Bool.true_or,if_pos rfl,Bool.and_eq_true] at hk;obtain⟨o,v,ho,hy,h'⟩:=h;exact dX ho (Region.noSelect_spec hsel) (.inl fun _=>trivial) rest.length listed a w (Region.free_spec ho hk.2) (by simpa using hk.1) hy trivial
    (f7 hsel hT rest _ _ w hB' (fun⟨j,hj,hjf⟩=>hS ⟨j,by simp[hj],hjf⟩) h')
  ·have hpf:fp.contains k=false:=by simpa using hp
   rw[if_neg hp] at h;by_cases hf:fl.contains k=true
   ·rw[if_pos hf] at h;rw[hf,Bool.or_true,if_pos rfl,Bool.and_eq_true] at hk;obtain⟨o,v,ho,hy,h'⟩:=h;exact dX ho (Region.noSelect_spec hsel) (.inr ⟨rfl,fun j oj hj hoj=>kJ hT (by simpa using hf) hj hoj⟩) rest.length listed a w (Region.free_spec ho hk.2) (by simpa using hk.1) hy (hS ⟨k,B4,hpf,hf⟩)
     (f7 hsel hT rest _ _ w hB' (fun⟨j,hj,hjf⟩=>hS ⟨j,by simp[hj],hjf⟩) h')
   ·have hff:fl.contains k=false:=by simpa using hf
    rw[if_neg hf] at h;rw[hpf,hff,Bool.or_false,if_neg B4,Bool.and_eq_true,decide_eq_true_eq,decide_eq_true_eq] at hk;obtain⟨hk1,htl⟩:=hk;refine⟨fun h0=>(by rw[hk1] at h0;cases h0),fun i hi=>?_⟩;rw[hk1] at hi;have hik:i=k:=by simpa using hi
    subst hik;refine wpOp_mono (fun a' w' h3=>⟨fun hlt _=>h3.1 hlt,f7 hsel hT rest _ a' w' hB' (fun hex=>?_) h3.2⟩) h;rcases htl with htl | htl
    ·exact h3.1 htl
    ·obtain⟨j,hj,hjp,hjf⟩:=hex;have h4:=(List.all_eq_true.1 htl) j hj;rw[hjp,hjf] at h4;simp at h4
theorem p4 {R:Act→World→Prop} {fp fl:List Nat} {k:Nat} {rest:List Nat} {a:Act} {w:World} {o:Oper} (v:Value) (ho:ops[k]? =some o) (hf:fp.contains k=true)
  (hw:Region.wanted o (yielded ops a.tmps)=true) (hy: ∀w:World,(execOp a.eval o).run P w= .ok (.value v) w) (h:cF P ops R S T fp fl rest (a.put o.dst v) w):cF P ops R S T fp fl (k::rest) a w:=by
 unfold cF;rw[if_pos hf];exact⟨o,v,ho,.inl ⟨hw,fun w _=>hy w⟩,h⟩
theorem seqK_float {R:Act→World→Prop} {fp fl:List Nat} {k:Nat} {rest:List Nat} {a:Act} {w:World} {o:Oper} (v:Value) (ho:ops[k]? =some o) (hp:fp.contains k=false) (hf:fl.contains k=true)
  (hw:Region.wanted o (yielded ops a.tmps)=true) (hy: ∀w,S w→(execOp a.eval o).run P w= .ok (.value v) w) (h:cF P ops R S T fp fl rest (a.put o.dst v) w):cF P ops R S T fp fl (k::rest) a w:=by
 unfold cF;rw[if_neg (by rw[hp];simp),if_pos hf];exact⟨o,v,ho,.inl ⟨hw,hy⟩,h⟩
theorem seqK_move {R:Act→World→Prop} {fp fl:List Nat} {k:Nat} {rest:List Nat} {a:Act} {w:World} {o:Oper} (ho:ops[k]? =some o) (hp:fp.contains k=false) (hf:fl.contains k=false)
  (hw:Region.wanted o (yielded ops a.tmps)=true)
  (h: ∀K:Act→World→Prop,(∀a' w',(k<T→S w')→cF P ops R S T fp fl rest a' w'→K a' w')→o.wp P a w K (only R)):cF P ops R S T fp fl (k::rest) a w:=by
 unfold cF;rw[if_neg (by rw[hp];simp),if_neg (by rw[hf];simp)];exact Aq
theorem seqK_end {R:Act→World→Prop} {fp fl:List Nat} {a:Act} {w:World} (h:R a w):cF P ops R S T fp fl [] a w:=h
theorem regionK {id:Nat} {Q:Exit→Act→World→Prop} {a:Act} {w:World} (S:World→Prop) (T:Nat) (fp fl ord:List Nat) (hm:P.follows .mixedOrders=true) (hsel:Region.noSelect ops=true)
  (hT:iy .any ops fl T=true) (hB:ml .any ops T fp fl ord (Array.replicate ops.size false)=true) (hlen:ord.length=ops.size) (hS:S w.drew)
  (h:cF P ops (fun a w=>Q .normal a w) S T fp fl ord a w.drew):(Code.region id ops true).wp P Q a w:=by
 have h1:=eo _ _ _ _ (f7 (md:=.any) hsel hT ord _ a w.drew hB (fun _=>hS) h);exact AV
end
section
variable {P:Program} {ops:Array Oper} {l n:Nat}
theorem regionInK {id:Nat} {Q:Exit→Act→World→Prop} {a:Act} {w:World} (S:World→Prop) (T:Nat) (fp fl ord:List Nat) (hm:P.follows .mixedOrders=true) (hd:g8 ops=true) (hsel:Region.noSelect ops=true)
  (hT:iy .any ops fl T=true) (hB:ml .any ops T fp fl ord (Array.replicate ops.size false)=true) (hlen:ord.length=ops.size) (hS:S w.drew)
  (h:cF P ops (fun a w=>Q .normal a w) S T fp fl ord a w.drew):(Code.region id ops true).wpIn (Fence.wide.inRound l) n P Q a w:=by
 have h1:=eo _ _ _ _ (f7 (md:=.any) hsel hT ord _ a w.drew hB (fun _=>hS) h);exact AN
end
section
variable {P:Program} {ops:Array Oper} {md:Region.Mode} {S:World→Prop}
def dR (P:Program) (ops:Array Oper) (R:Act→World→Prop) (S:World→Prop) (fl:List Nat) (K:Act→World→Prop):List Nat→Act→World→Prop
 | [],a,w=>K a w
 | k::l,a,w=>if fl.contains k then ∃o v,ops[k]? =some o∧YieldsIf P ops S o v a∧dR P ops R S fl K l (a.put o.dst v) w
  else wpOp P ops (only R) k (fun a' w'=>S w'∧dR P ops R S fl K l a' w') a w
def sK (md:Region.Mode) (ops:Array Oper) (fl:List Nat) (cont:Array Bool→Bool):List Nat→Array Bool→Bool
 | [],listed=>cont listed
 | k::l,listed=>(if fl.contains k then (Region.ready md ops listed).contains k&&Region.free md ops listed k else decide (Region.ready md ops listed=[k]))&&sK md ops fl cont l (listed.setIfInBounds k true)
def mJ (P:Program) (ops:Array Oper) (R:Act→World→Prop) (S:World→Prop) (fl:List Nat) (k1:Nat) (l1:List Nat) (k2:Nat) (l2:List Nat) (a:Act) (w:World):Prop:=
 wpOp P ops (only R) k1 (fun a' w'=>S w'∧dR P ops R S fl R l1 a' w') a w∧wpOp P ops (only R) k2 (fun a' w'=>S w'∧dR P ops R S fl R l2 a' w') a w
def wD (md:Region.Mode) (ops:Array Oper) (fl:List Nat) (k1:Nat) (l1:List Nat) (k2:Nat) (l2:List Nat) (listed:Array Bool):Bool:=
 (Region.ready md ops listed).all (fun i=>decide (i=k1∨i=k2))&&(!(Region.ready md ops listed).isEmpty&&(sK md ops fl (fun x=>(Region.ready md ops x).isEmpty) l1 (listed.setIfInBounds k1 true)&&sK md ops fl (fun x=>(Region.ready md ops x).isEmpty) l2 (listed.setIfInBounds k2 true)))
theorem ia {R:Act→World→Prop} {fl:List Nat} (hsel:Region.noSelect ops=true) {fuel:Nat} {K:Act→World→Prop} {cont:Array Bool→Bool}
  (hcont: ∀(listed:Array Bool) (a:Act) (w:World),cont listed=true→S w→K a w→eO P md ops (only R) S ops.size fuel listed a w):
  ∀(l:List Nat) (listed:Array Bool) (a:Act) (w:World),sK md ops fl cont l listed=true→S w→dR P ops R S fl K l a w→eO P md ops (only R) S ops.size (fuel+l.length) listed a w
 | [],listed,a,w,hB,hS,h=>hcont listed a w hB hS h
 | k::l,listed,a,w,hB,hS,h=>by
  simp only[sK,Bool.and_eq_true] at hB;obtain⟨hk,hB'⟩:=hB;unfold dR at h;by_cases hf:fl.contains k=true
  ·rw[if_pos hf] at h hk;rw[Bool.and_eq_true] at hk;obtain⟨o,v,ho,hy,h'⟩:=h;exact dX ho (Region.noSelect_spec hsel) (.inr ⟨rfl,fun j oj hj hoj=>by rw[Array.getElem?_eq_none hj] at hoj;cases hoj⟩) (fuel+l.length) listed a w (Region.free_spec ho hk.2) (by simpa using hk.1) hy hS
    (ia hsel hcont l _ _ w hB' hS h')
  ·rw[if_neg hf] at h hk;simp only[decide_eq_true_eq] at hk;refine⟨fun h0=>(by rw[hk] at h0;cases h0),fun i hi=>?_⟩;rw[hk] at hi;have hik:i=k:=by simpa using hi
   subst hik;exact wpOp_mono (fun a' w' h3=>⟨fun _ _=>h3.1,ia hsel hcont l _ a' w' hB' h3.1 h3.2⟩) h
theorem uV {R:Act→World→Prop} {fl:List Nat} (hsel:Region.noSelect ops=true) {k1:Nat} {l1:List Nat} {k2:Nat} {l2:List Nat} (hd:l1.length=l2.length) (listed:Array Bool) (a:Act) (w:World)
  (hB:wD md ops fl k1 l1 k2 l2 listed=true) (_hS:S w) (h:mJ P ops R S fl k1 l1 k2 l2 a w):eO P md ops (only R) S ops.size (l1.length+1) listed a w:=by
 have hend: ∀(listed:Array Bool) (a:Act) (w:World),(Region.ready md ops listed).isEmpty=true→S w→R a w→eO P md ops (only R) S ops.size 0 listed a w:=fun listed a w h1 _ h3=>⟨by simpa using h1,h3⟩
 simp only[wD,Bool.and_eq_true] at hB;obtain⟨hr,hne,hB1,hB2⟩:=hB;refine⟨fun h0=>(by rw[h0] at hne;simp at hne),fun i hi=>?_⟩;have h9:=(List.all_eq_true.1 hr) i hi;simp only[decide_eq_true_eq] at h9;rcases h9 with rfl | rfl
 ·refine wpOp_mono (fun a' w' h3=>⟨fun _ _=>h3.1,?_⟩) h.1;have:=ia hsel hend l1 _ a' w' hB1 h3.1 h3.2
  rwa [Nat.zero_add] at this
 ·refine wpOp_mono (fun a' w' h3=>⟨fun _ _=>h3.1,?_⟩) h.2;have:=ia hsel hend l2 _ a' w' hB2 h3.1 h3.2
  rwa [Nat.zero_add,←hd] at this
theorem pre_float {R K:Act→World→Prop} {fl:List Nat} {k:Nat} {l:List Nat} {a:Act} {w:World} {o:Oper} (v:Value) (ho:ops[k]? =some o) (hf:fl.contains k=true)
  (hw:Region.wanted o (yielded ops a.tmps)=true) (hy: ∀w,S w→(execOp a.eval o).run P w= .ok (.value v) w) (h:dR P ops R S fl K l (a.put o.dst v) w):dR P ops R S fl K (k::l) a w:=by
 unfold dR;rw[if_pos hf];exact⟨o,v,ho,.inl ⟨hw,hy⟩,h⟩
theorem pre_move {R K:Act→World→Prop} {fl:List Nat} {k:Nat} {l:List Nat} {a:Act} {w:World} {o:Oper} (ho:ops[k]? =some o) (hf:fl.contains k=false)
  (hw:Region.wanted o (yielded ops a.tmps)=true)
  (h: ∀K':Act→World→Prop,(∀a' w',S w'→dR P ops R S fl K l a' w'→K' a' w')→o.wp P a w K' (only R)):dR P ops R S fl K (k::l) a w:=by
 unfold dR;rw[if_neg (by rw[hf];simp)];exact Aq
theorem pre_end {R K:Act→World→Prop} {fl:List Nat} {a:Act} {w:World} (h:K a w):dR P ops R S fl K [] a w:=h
theorem fork_both {R:Act→World→Prop} {fl:List Nat} {k1 k2:Nat} {l1 l2:List Nat} {a:Act} {w:World} {o1 o2:Oper} (ho1:ops[k1]? =some o1) (ho2:ops[k2]? =some o2)
  (hw1:Region.wanted o1 (yielded ops a.tmps)=true) (hw2:Region.wanted o2 (yielded ops a.tmps)=true)
  (h1: ∀K':Act→World→Prop,(∀a' w',S w'→dR P ops R S fl R l1 a' w'→K' a' w')→o1.wp P a w K' (only R))
  (h2: ∀K':Act→World→Prop,(∀a' w',S w'→dR P ops R S fl R l2 a' w'→K' a' w')→o2.wp P a w K' (only R)):mJ P ops R S fl k1 l1 k2 l2 a w:=by
 unfold mJ wpOp;simp only[ho1,ho2,hw1,hw2,if_true];exact⟨.inl (h1 _ fun a' w' x y=>⟨x,y⟩),.inl (h2 _ fun a' w' x y=>⟨x,y⟩)⟩
theorem AX {p:Prop} (h:p:=by refine Code.wp_mono (fun e a w hq=>?_) (wp_region_any hm h1);cases e<;>first | exact hR _ _ hq | exact(hq:False).elim):p:=h
theorem regionF {id:Nat} {Q:Exit→Act→World→Prop} {a:Act} {w:World} (S:World→Prop) (fl pre:List Nat) (k1:Nat) (l1:List Nat) (k2:Nat) (l2:List Nat) (R:Act→World→Prop) (hm:P.follows .mixedOrders=true) (hsel:Region.noSelect ops=true)
  (hB:sK .any ops fl (wD .any ops fl k1 l1 k2 l2) pre (Array.replicate ops.size false)=true) (hd:l1.length=l2.length) (hlen:l1.length+1+pre.length=ops.size) (hS:S w.drew)
  (h:dR P ops R S fl (mJ P ops R S fl k1 l1 k2 l2) pre a w.drew) (hR: ∀a w,R a w→Q .normal a w):(Code.region id ops true).wp P Q a w:=by
 have h1:=eo _ _ _ _ (ia (md:=.any) hsel (fun listed a w=>uV hsel hd listed a w) pre _ a w.drew hB hS h);rw[hlen] at h1;exact AX
end
inductive Tr where
 | done
 | one (k:Nat) (t:Tr)
 | two (k1:Nat) (t1:Tr) (k2:Nat) (t2:Tr)
 | three (k1:Nat) (t1:Tr) (k2:Nat) (t2:Tr) (k3:Nat) (t3:Tr)
section
variable {P:Program} {ops:Array Oper} {md:Region.Mode} {S:World→Prop}
def wpTr (P:Program) (ops:Array Oper) (R:Act→World→Prop) (S:World→Prop) (fl:List Nat):Tr→Act→World→Prop
 | .done,a,w=>R a w
 | .one k t,a,w=>if fl.contains k then ∃o v,ops[k]? =some o∧YieldsIf P ops S o v a∧wpTr P ops R S fl t (a.put o.dst v) w
  else wpOp P ops (only R) k (fun a' w'=>S w'∧wpTr P ops R S fl t a' w') a w
 | .two k1 t1 k2 t2,a,w=>wpOp P ops (only R) k1 (fun a' w'=>S w'∧wpTr P ops R S fl t1 a' w') a w∧wpOp P ops (only R) k2 (fun a' w'=>S w'∧wpTr P ops R S fl t2 a' w') a w
 | .three k1 t1 k2 t2 k3 t3,a,w=>wpOp P ops (only R) k1 (fun a' w'=>S w'∧wpTr P ops R S fl t1 a' w') a w∧wpOp P ops (only R) k2 (fun a' w'=>S w'∧wpTr P ops R S fl t2 a' w') a w∧
   wpOp P ops (only R) k3 (fun a' w'=>S w'∧wpTr P ops R S fl t3 a' w') a w
def trB (md:Region.Mode) (ops:Array Oper) (fl:List Nat):Nat→Tr→Array Bool→Bool
 | 0,.done,listed=>(Region.ready md ops listed).isEmpty
 | n+1,.one k t,listed=>(if fl.contains k then (Region.ready md ops listed).contains k&&Region.free md ops listed k else decide (Region.ready md ops listed=[k]))&&trB md ops fl n t (listed.setIfInBounds k true)
 | n+1,.two k1 t1 k2 t2,listed=>(!(Region.ready md ops listed).isEmpty&&(Region.ready md ops listed).all (fun i=>decide (i=k1∨i=k2)))&&(trB md ops fl n t1 (listed.setIfInBounds k1 true)&&trB md ops fl n t2 (listed.setIfInBounds k2 true))
 | n+1,.three k1 t1 k2 t2 k3 t3,listed=>(!(Region.ready md ops listed).isEmpty&&(Region.ready md ops listed).all (fun i=>decide (i=k1∨i=k2∨i=k3)))&&
   (trB md ops fl n t1 (listed.setIfInBounds k1 true)&&(trB md ops fl n t2 (listed.setIfInBounds k2 true)&&trB md ops fl n t3 (listed.setIfInBounds k3 true)))
 | _,_,_=>false
theorem fP {R:Act→World→Prop} {fl:List Nat} (hsel:Region.noSelect ops=true):
  ∀(n:Nat) (t:Tr) (listed:Array Bool) (a:Act) (w:World),trB md ops fl n t listed=true→S w→wpTr P ops R S fl t a w→eO P md ops (only R) S ops.size n listed a w
 | 0,.done,listed,a,w,hB,_,h=>⟨by simpa[trB] using hB,h⟩
 | 0,.one _ _,_,_,_,hB,_,_=>by simp[trB] at hB
 | 0,.two _ _ _ _,_,_,_,hB,_,_=>by simp[trB] at hB
 | 0,.three _ _ _ _ _ _,_,_,_,hB,_,_=>by simp[trB] at hB
 | _+1,.done,_,_,_,hB,_,_=>by simp[trB] at hB
 | n+1,.one k t,listed,a,w,hB,hS,h=>by
  simp only[trB,Bool.and_eq_true] at hB;obtain⟨hk,hB'⟩:=hB;unfold wpTr at h;by_cases hf:fl.contains k=true
  ·rw[if_pos hf] at h hk;rw[Bool.and_eq_true] at hk;obtain⟨o,v,ho,hy,h'⟩:=h;exact dX ho (Region.noSelect_spec hsel) (.inr ⟨rfl,fun j oj hj hoj=>by rw[Array.getElem?_eq_none hj] at hoj;cases hoj⟩) n listed a w (Region.free_spec ho hk.2) (by simpa using hk.1) hy hS
    (fP hsel n t _ _ w hB' hS h')
  ·rw[if_neg hf] at h hk;simp only[decide_eq_true_eq] at hk;refine⟨fun h0=>(by rw[hk] at h0;cases h0),fun i hi=>?_⟩;rw[hk] at hi;have hik:i=k:=by simpa using hi
   subst hik;exact wpOp_mono (fun a' w' h3=>⟨fun _ _=>h3.1,fP hsel n t _ a' w' hB' h3.1 h3.2⟩) h
 | n+1,.two k1 t1 k2 t2,listed,a,w,hB,_,h=>by
  simp only[trB,Bool.and_eq_true] at hB;obtain⟨⟨hne,hr⟩,hB1,hB2⟩:=hB;unfold wpTr at h;refine⟨fun h0=>(by rw[h0] at hne;simp at hne),fun i hi=>?_⟩;have h9:=(List.all_eq_true.1 hr) i hi;simp only[decide_eq_true_eq] at h9;rcases h9 with rfl | rfl
  ·exact wpOp_mono (fun a' w' h3=>⟨fun _ _=>h3.1,fP hsel n t1 _ a' w' hB1 h3.1 h3.2⟩) h.1
  ·exact wpOp_mono (fun a' w' h3=>⟨fun _ _=>h3.1,fP hsel n t2 _ a' w' hB2 h3.1 h3.2⟩) h.2
 | n+1,.three k1 t1 k2 t2 k3 t3,listed,a,w,hB,_,h=>by
  simp only[trB,Bool.and_eq_true] at hB;obtain⟨⟨hne,hr⟩,hB1,hB2,hB3⟩:=hB;unfold wpTr at h;refine⟨fun h0=>(by rw[h0] at hne;simp at hne),fun i hi=>?_⟩;have h9:=(List.all_eq_true.1 hr) i hi;simp only[decide_eq_true_eq] at h9;rcases h9 with rfl | rfl | rfl
  ·exact wpOp_mono (fun a' w' h3=>⟨fun _ _=>h3.1,fP hsel n t1 _ a' w' hB1 h3.1 h3.2⟩) h.1
  ·exact wpOp_mono (fun a' w' h3=>⟨fun _ _=>h3.1,fP hsel n t2 _ a' w' hB2 h3.1 h3.2⟩) h.2.1
  ·exact wpOp_mono (fun a' w' h3=>⟨fun _ _=>h3.1,fP hsel n t3 _ a' w' hB3 h3.1 h3.2⟩) h.2.2
def Mv (P:Program) (R:Act→World→Prop) (S:World→Prop) (C:Act→World→Prop) (o:Oper) (a:Act) (w:World):Prop:=
 ∀K':Act→World→Prop,(∀a' w',S w'→C a' w'→K' a' w')→o.wp P a w K' (only R)
theorem oS {R:Act→World→Prop} {fl:List Nat} {k:Nat} {t:Tr} {a:Act} {w:World} {o:Oper} (v:Value) (ho:ops[k]? =some o) (hf:fl.contains k=true)
  (hw:Region.wanted o (yielded ops a.tmps)=true) (hy: ∀w,S w→(execOp a.eval o).run P w= .ok (.value v) w) (h:wpTr P ops R S fl t (a.put o.dst v) w):wpTr P ops R S fl (.one k t) a w:=by
 unfold wpTr;rw[if_pos hf];exact⟨o,v,ho,.inl ⟨hw,hy⟩,h⟩
theorem um {R C:Act→World→Prop} {k:Nat} {a:Act} {w:World} {o:Oper} (ho:ops[k]? =some o) (hw:Region.wanted o (yielded ops a.tmps)=true) (h:Mv P R S C o a w):wpOp P ops (only R) k (fun a' w'=>S w'∧C a' w') a w:=by
 exact Aq
theorem xJ {R:Act→World→Prop} {fl:List Nat} {k:Nat} {t:Tr} {a:Act} {w:World} {o:Oper} (ho:ops[k]? =some o) (hf:fl.contains k=false)
  (hw:Region.wanted o (yielded ops a.tmps)=true) (h:Mv P R S (wpTr P ops R S fl t) o a w):wpTr P ops R S fl (.one k t) a w:=by
 unfold wpTr;rw[if_neg (by rw[hf];simp)];exact um ho hw h
theorem tr_two {R:Act→World→Prop} {fl:List Nat} {k1 k2:Nat} {t1 t2:Tr} {a:Act} {w:World} {o1 o2:Oper} (ho1:ops[k1]? =some o1) (hw1:Region.wanted o1 (yielded ops a.tmps)=true) (ho2:ops[k2]? =some o2) (hw2:Region.wanted o2 (yielded ops a.tmps)=true)
  (h1:Mv P R S (wpTr P ops R S fl t1) o1 a w) (h2:Mv P R S (wpTr P ops R S fl t2) o2 a w):wpTr P ops R S fl (.two k1 t1 k2 t2) a w:=by
 unfold wpTr;exact⟨um ho1 hw1 h1,um ho2 hw2 h2⟩
theorem tr_end {R:Act→World→Prop} {fl:List Nat} {a:Act} {w:World} (h:R a w):wpTr P ops R S fl .done a w:=h
theorem regionT {id:Nat} {Q:Exit→Act→World→Prop} {a:Act} {w:World} (S:World→Prop) (fl:List Nat) (t:Tr) (R:Act→World→Prop) (hm:P.follows .mixedOrders=true) (hsel:Region.noSelect ops=true)
  (hB:trB .any ops fl ops.size t (Array.replicate ops.size false)=true) (hS:S w.drew)
  (h:wpTr P ops R S fl t a w.drew) (hR: ∀a w,R a w→Q .normal a w):(Code.region id ops true).wp P Q a w:=by
 have h1:=eo _ _ _ _ (fP (md:=.any) hsel ops.size t _ a w.drew hB hS h);exact AX
end
section
variable {P:Program} {ops:Array Oper} {S:World→Prop}
theorem tr_skip {R:Act→World→Prop} {fl:List Nat} {k:Nat} {t:Tr} {a:Act} {w:World} {o:Oper} (ho:ops[k]? =some o) (hf:fl.contains k=true)
  (hw:Region.wanted o (yielded ops a.tmps)=false) (h:wpTr P ops R S fl t (a.put o.dst undef) w):wpTr P ops R S fl (.one k t) a w:=by
 unfold wpTr;rw[if_pos hf];exact⟨o,undef,ho,.inr ⟨hw,rfl⟩,h⟩
theorem tr_mskip {R:Act→World→Prop} {fl:List Nat} {k:Nat} {t:Tr} {a:Act} {w:World} {o:Oper} (ho:ops[k]? =some o) (hf:fl.contains k=false)
  (hw:Region.wanted o (yielded ops a.tmps)=false) (hS:S w) (h:wpTr P ops R S fl t (a.put o.dst undef) w):wpTr P ops R S fl (.one k t) a w:=by
 unfold wpTr;rw[if_neg (by rw[hf];simp)];unfold wpOp;simp only[ho,hw];exact⟨hS,h⟩
end
section
variable {P:Program} {ops:Array Oper} {S:World→Prop} {T:Nat}
theorem nM (l:List Value) (d:List _) (t:Nat) (v:Value):(Act.put { tmps:=l.toArray,defers:=d } (some t) v)={ tmps:=(l.set t v).toArray,defers:=d }:=by simp[Act.put]
theorem j5 {R:Act→World→Prop} {fl:List Nat} {k:Nat} {rest:List Nat} {l:List Value} {d:List _} {w:World} {o:Oper} {t:Nat} (v:Value) (ho:ops[k]? =some o) (hd:o.dst=some t) (hf:fl.contains k=true)
  (hw:Region.wanted o (yielded ops l.toArray)=true) (hy: ∀w,S w→(execOp (Act.eval { tmps:=l.toArray,defers:=d }) o).run P w= .ok (.value v) w) (h:wpSeq P ops R S T fl rest { tmps:=(l.set t v).toArray,defers:=d } w):
  wpSeq P ops R S T fl (k::rest) { tmps:=l.toArray,defers:=d } w:=by
 refine seq_float v ho hf hw hy ?_;rw[hd,nM];exact h
theorem seq_skipL {R:Act→World→Prop} {fl:List Nat} {k:Nat} {rest:List Nat} {l:List Value} {d:List _} {w:World} {o:Oper} {t:Nat} (ho:ops[k]? =some o) (hd:o.dst=some t) (hf:fl.contains k=true)
  (hw:Region.wanted o (yielded ops l.toArray)=false) (h:wpSeq P ops R S T fl rest { tmps:=(l.set t undef).toArray,defers:=d } w):
  wpSeq P ops R S T fl (k::rest) { tmps:=l.toArray,defers:=d } w:=by
 refine nZ ho hf hw ?_;rw[hd,nM];exact h
end
end Go.Rd
namespace Go.Rd
theorem sf {P:Program} {ops:Array Oper} {S:World→Prop} {R:Act→World→Prop} {fl:List Nat} {k:Nat} {a a0:Act} {w:World} {o:Oper} {T:Nat} {rest:List Nat} (v:Value) (h:wpSeq P ops R S T fl rest a0 w) (ho:ops[k]? =some o:=by simp only[gA,gB,gC];rfl) (hf:fl.contains k=true:=by rfl) (hw:Region.wanted o (yielded ops a.tmps)=true:=by rfl) (y:∀w,S w→(execOp a.eval o).run P w= .ok (.value v) w:=by intro X _;go_simp) (he:a.put o.dst v=a0:=by simp only[Act.put,sA,sB,sC]<;>rfl):wpSeq P ops R S T fl (k::rest) a w:=seq_float v ho hf hw y (he▸h)
theorem sg {P:Program} {ops:Array Oper} {S:World→Prop} {R:Act→World→Prop} {fl:List Nat} {k:Nat} {a a0:Act} {w:World} {o:Oper} {T:Nat} {rest:List Nat} (v:Value) (h:wpSeq P ops R S T fl rest a0 w) (ho:ops[k]? =some o:=by simp only[gA,gB,gC];rfl) (hf:fl.contains k=true:=by rfl) (hw:Region.wanted o (yielded ops a.tmps)=true:=by rfl) (y:∀w,S w→(execOp a.eval o).run P w= .ok (.value v) w) (he:a.put o.dst v=a0:=by simp only[Act.put,sA,sB,sC]<;>rfl):wpSeq P ops R S T fl (k::rest) a w:=seq_float v ho hf hw y (he▸h)
theorem tf {P:Program} {ops:Array Oper} {S:World→Prop} {R:Act→World→Prop} {fl:List Nat} {k:Nat} {a a0:Act} {w:World} {o:Oper} {t:Tr} (v:Value) (h:wpTr P ops R S fl t a0 w) (ho:ops[k]? =some o:=by simp only[gA,gB,gC];rfl) (hf:fl.contains k=true:=by rfl) (hw:Region.wanted o (yielded ops a.tmps)=true:=by rfl) (y:∀w,S w→(execOp a.eval o).run P w= .ok (.value v) w:=by intro X _;go_simp) (he:a.put o.dst v=a0:=by simp only[Act.put,sA,sB,sC]<;>rfl):wpTr P ops R S fl (.one k t) a w:=oS v ho hf hw y (he▸h)
theorem tg {P:Program} {ops:Array Oper} {S:World→Prop} {R:Act→World→Prop} {fl:List Nat} {k:Nat} {a a0:Act} {w:World} {o:Oper} {t:Tr} (v:Value) (h:wpTr P ops R S fl t a0 w) (ho:ops[k]? =some o:=by simp only[gA,gB,gC];rfl) (hf:fl.contains k=true:=by rfl) (hw:Region.wanted o (yielded ops a.tmps)=true:=by rfl) (y:∀w,S w→(execOp a.eval o).run P w= .ok (.value v) w) (he:a.put o.dst v=a0:=by simp only[Act.put,sA,sB,sC]<;>rfl):wpTr P ops R S fl (.one k t) a w:=oS v ho hf hw y (he▸h)
theorem sm {P:Program} {ops:Array Oper} {S:World→Prop} {R:Act→World→Prop} {fl:List Nat} {k:Nat} {a:Act} {w:World} {o:Oper} {T:Nat} {rest:List Nat} (h:∀K:Act→World→Prop,(∀a' w',(k<T→S w')→wpSeq P ops R S T fl rest a' w'→K a' w')→o.wp P a w K (only R)) (ho:ops[k]? =some o:=by simp only[gA,gB,gC];rfl) (hf:fl.contains k=false:=by rfl) (hw:Region.wanted o (yielded ops a.tmps)=true:=by rfl):wpSeq P ops R S T fl (k::rest) a w:=vg ho hf hw h
theorem tm {P:Program} {ops:Array Oper} {S:World→Prop} {R:Act→World→Prop} {fl:List Nat} {k:Nat} {a:Act} {w:World} {o:Oper} {t:Tr} (h:∀K:Act→World→Prop,(∀a' w',S w'→wpTr P ops R S fl t a' w'→K a' w')→o.wp P a w K (only R)) (ho:ops[k]? =some o:=by simp only[gA,gB,gC];rfl) (hf:fl.contains k=false:=by rfl) (hw:Region.wanted o (yielded ops a.tmps)=true:=by rfl):wpTr P ops R S fl (.one k t) a w:=xJ ho hf hw h
theorem sk {P:Program} {ops:Array Oper} {S:World→Prop} {R:Act→World→Prop} {fl:List Nat} {k:Nat} {a a0:Act} {w:World} {o:Oper} {T:Nat} {rest:List Nat} (h:wpSeq P ops R S T fl rest a0 w) (ho:ops[k]? =some o:=by simp only[gA,gB,gC];rfl) (hf:fl.contains k=true:=by rfl) (hw:Region.wanted o (yielded ops a.tmps)=false:=by rfl) (he:a.put o.dst undef=a0:=by simp only[Act.put,sA,sB,sC]<;>rfl):wpSeq P ops R S T fl (k::rest) a w:=nZ ho hf hw (he▸h)
theorem rg {P:Program} {ops:Array Oper} {id:Nat} {Q:Exit→Act→World→Prop} {a:Act} {w:World} (S:World→Prop) (T:Nat) (fl ord:List Nat) (hS:S w.drew) (h:wpSeq P ops (fun a w=>Q .normal a w) S T fl ord a w.drew) (hm:P.follows .mixedOrders=true:=by kernel_rfl) (hsel:Region.noSelect ops=true:=by kernel_rfl) (hT:iy .any ops fl T=true:=by kernel_rfl) (hB:pS .any ops T fl ord (Array.replicate ops.size false)=true:=by kernel_rfl) (hlen:ord.length=ops.size:=by rfl):(Code.region id ops true).wp P Q a w:=region S T fl ord hm hsel hT hB hlen hS h
theorem kg {P:Program} {ops:Array Oper} {S:World→Prop} {T:Nat} {R:Act→World→Prop} {fp fl:List Nat} {k:Nat} {rest:List Nat} {a a0:Act} {w:World} {o:Oper} (v:Value) (h:cF P ops R S T fp fl rest a0 w) (ho:ops[k]? =some o:=by simp only[gA,gB,gC];rfl) (hf:fp.contains k=true:=by rfl) (hw:Region.wanted o (yielded ops a.tmps)=true:=by rfl) (y:∀w,(execOp a.eval o).run P w= .ok (.value v) w) (he:a.put o.dst v=a0:=by simp only[Act.put,sA,sB,sC]<;>rfl):cF P ops R S T fp fl (k::rest) a w:=p4 v ho hf hw y (he▸h)
theorem lf {P:Program} {ops:Array Oper} {S:World→Prop} {T:Nat} {R:Act→World→Prop} {fl:List Nat} {k:Nat} {rest:List Nat} {l:List Value} {d:List _} {w:World} {o:Oper} {t:Nat} (v:Value) (h:wpSeq P ops R S T fl rest {tmps:=(l.set t v).toArray,defers:=d} w) (ho:ops[k]? =some o:=by simp only[gA,gB,gC];rfl) (hd:o.dst=some t:=by rfl) (hf:fl.contains k=true:=by rfl) (hw:Region.wanted o (yielded ops l.toArray)=true:=by rfl) (y:∀w,S w→(execOp (Act.eval {tmps:=l.toArray,defers:=d}) o).run P w= .ok (.value v) w:=by intro X _;go_simp):wpSeq P ops R S T fl (k::rest) {tmps:=l.toArray,defers:=d} w:=j5 v ho hd hf hw y h
theorem lg {P:Program} {ops:Array Oper} {S:World→Prop} {T:Nat} {R:Act→World→Prop} {fl:List Nat} {k:Nat} {rest:List Nat} {l:List Value} {d:List _} {w:World} {o:Oper} {t:Nat} (v:Value) (h:wpSeq P ops R S T fl rest {tmps:=(l.set t v).toArray,defers:=d} w) (ho:ops[k]? =some o:=by simp only[gA,gB,gC];rfl) (hd:o.dst=some t:=by rfl) (hf:fl.contains k=true:=by rfl) (hw:Region.wanted o (yielded ops l.toArray)=true:=by rfl) (y:∀w,S w→(execOp (Act.eval {tmps:=l.toArray,defers:=d}) o).run P w= .ok (.value v) w):wpSeq P ops R S T fl (k::rest) {tmps:=l.toArray,defers:=d} w:=j5 v ho hd hf hw y h
end Go.Rd
