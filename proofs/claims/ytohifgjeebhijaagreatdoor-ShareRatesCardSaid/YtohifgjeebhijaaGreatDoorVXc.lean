import Derived.Deep.LoopGhost
import Derived.Test.YtohifgjeebhijaaGreatDoorVXb
namespace Go.Proofs.YtohifgjeebhijaaGreatDoor
set_option maxRecDepth 100000
set_option maxHeartbeats 4000000
open Go.RowKit Go.Maps
theorem kL (fp B:Nat) (L:List Gr) (l:List Int) (m k x:Int) (w:World) (h:IsF w B fp L l m k) (hx:I64 x):
  Calls Tryz.prog 116 #[.pointer (some ⟨fp,0,none⟩),.int .i64 x] w fun e w'=>(∃a c,e= .returned (.slice a (pth L x).length c)∧aK w' w.heap.size (.slice a (pth L x).length c) (pth L x))∧Below w.heap.size w w':=by
 obtain⟨tp,tg,mp,bl,hf,_⟩:=h.fo;have ok:=h.ok;clear h;have h1:=hf.c1;have HL:=hf.look hx;have HF:=Hd hf;have HD:=Hd (ok.deep x);have HI:Hid (∀y,has L y=true→I64 (gr L y).pa):=Hd fun y hy=>by
  have h1:=ok.pa_lt hy;have h2:=ok.mle;have h3:=ok.k1;unfold I64;omega
 have HP:Hid (∀y,has L y=true→pth L y=y::pth L (gr L y).pa):=Hd fun y hy=>ok.yes hy
 clear hf ok;go_enter Tryz.func116,Tryz.ntmps116
 go_wp2_with fail
 go_loopw [1,5,6] (fun i v q wr=>∃(y:Int) (done:List Int) (a:Option Addr) (c:Nat),i= .int .i64 y∧v= .slice a done.length c∧I64 y∧q=ptV (gOf L bl y)∧Hid (done++pth L y=pth L x)∧aK wr w.heap.size (.slice a done.length c) done∧Below w.heap.size w wr) (fun i _ _ _=>(pth L (intOf i)).length)
 case atStart=>exact⟨x,[],none,0,rfl,rfl,hx,rfl,Hd rfl,aK.nil _ _,Below.refl _ _⟩
 case round=>
  obtain⟨y,done,a,c,rfl,rfl,hy,rfl,HE,hro,hb⟩:=hrel;cases hh:has L y with
  | false=>
   rw[yT hh];have HN:=Hd (er hh);clear hh;have e:done=pth L x:=by have:=HE.out;rwa [HN.out,List.append_nil] at this
   subst e
   go_wp2_with fail
   go_ret;exact⟨⟨a,c,rfl,hro⟩,hb⟩
  | true=>
   rw[xS hh];have hp:=HI.out y hh;have HE2:Hid (done++[y]++pth L (gr L y).pa=pth L x):=Hd (by have:=HE.out;rw[HP.out y hh] at this;simpa using this);have hlen:done.length≤8:=by have:=congrArg List.length HE.out;rw[List.length_append] at this;have:=HD.out;omega
   have HX:Hid (∀W:World,Fo W fp tp tg mp bl L l m→W.cell? ⟨bl y,0,none⟩=some (.int .i64 (gr L y).pa)):=Hd fun W hW=>(hW.grp y hh).c0
   have HM:Hid ((pth L (gr L y).pa).length<(pth L y).length):=Hd (by rw[HP.out y hh,List.length_cons];omega);have hbs:=hb.size;have hA:=bZ.new wr y;have hba:Below w.heap.size w (wr.alloc (.cells #[.int .i64 y] 3)):=Below.allocS hb _;have hroa:aK (wr.alloc (.cells #[.int .i64 y] 3)) w.heap.size (.slice a done.length c) done:=hro.alloc _;clear hh;generalize (gr L y).pa=p at *
   go_wp2_with (first | (refine cY rfl _ _ rfl w.heap.size (.slice a done.length c) _ done [y] rfl rfl Cq hroa hA.src Cq ?_;intro v' w2 hro2 hg2;have hb2:=hba.trans (aY hroa hba.size hg2);have hf2:=HF.below hb2;have q1:=hf2.c1;have q2:=HX.out w2 hf2;have q3:=hf2.look hp))
   obtain⟨a',c',rfl⟩:=hro2.sl;refine⟨⟨p,done++[y],a',c',rfl,rfl,hp,rfl,HE2,hro2,hb2⟩,HM.out⟩
theorem tW (a:Option Addr) (c:Nat) (x:Int) (w:World):
  Calls Tryz.prog 120 #[.slice a 0 c,.int .i64 x] w fun e w'=>e= .returned (.int .i64 (-1))∧w=w':=by
 go_enter Tryz.func120,Tryz.ntmps120
 go_wp2_with fail
 go_loop [8] (fun i=>i= .int .i64 0) (fun _=>0)
 case atStart=>rfl
 case round=>
  obtain rfl:=hrel
  go_wp2_with fail
  go_ret;exact⟨rfl,rfl⟩
theorem td {w:World} {B:Nat} {a:Option Addr} {c:Nat} {l:List Int} (x:Int) (h:aK w B (.slice a l.length c) l) (hl:l.length≤64):
  Calls Tryz.prog 120 #[.slice a l.length c,.int .i64 x] w fun e w'=>e= .returned (.int .i64 (cQ l x))∧w=w':=by
 by_cases h0:l=[]
 ·subst h0;exact tW a c x w
 ·obtain⟨b,rfl,_⟩:=h.at (j:=0) (List.length_pos_iff.2 h0);refine mb b _ _ l x w rfl hl fun j hj=>?_
  obtain⟨b',e,_,_,hc,_⟩:=h.at hj;cases e;exact hc
theorem vQ (l:List Int) (x:Int):decide (0≤cQ l x)=decide (x∈l):=by
 unfold cQ;by_cases h:find l x<l.length
 ·rw[if_pos h,decide_eq_true (jL.1 h),decide_eq_true A3]
 ·rw[if_neg h,decide_eq_false (fun e=>h (jL.2 e))];decide
theorem mH {w:World} {B:Nat} {a:Option Addr} {c:Nat} {l:List Int} (x:Int) (h:aK w B (.slice a l.length c) l) (hl:l.length≤64):
  Calls Tryz.prog 119 #[.slice a l.length c,.int .i64 x] w fun e w'=>e= .returned (.bool (decide (x∈l)))∧w=w':=by
 have HI:=Hd (td x h hl);have HS:=Hd (vQ l x);clear h hl;generalize l.length=n at *;generalize cQ l x=s at *;go_enter Tryz.func119,Tryz.ntmps119
 go_wp2_with (go_at_call 120;refine HI.mono ?_;rintro e w1 ⟨rfl,rfl⟩)
 go_ret;exact⟨by first | rfl | (rw[HS.out];rfl),rfl⟩
section
variable (fp B:Nat) (L:List Gr) (l:List Int) (m k:Int)
theorem ja (x t:Int) (w:World) (h:IsF w B fp L l m k) (hx:I64 x):
  Calls Tryz.prog 87 #[.pointer (some ⟨fp,0,none⟩),.int .i64 x,.int .i64 t] w fun e w'=>e= .returned (.bool (ag L x t))∧Below w.heap.size w w':=by
 have HP:=Hd (kL fp B L l m k x w h hx);have h8:=h.ok.deep x;unfold ag;clear h hx;generalize pth L x=p at *;go_enter Tryz.func87,Tryz.ntmps87
 go_wp2_with (first | (go_at_call 116;refine HP.mono ?_;rintro e w1 ⟨⟨a,c,rfl,hro⟩,hb⟩;have HC:=Hd (mH t hro A3)) | (go_at_call 119;refine HC.mono ?_;rintro e w2 ⟨rfl,rfl⟩))
 go_ret;exact⟨rfl,hb⟩
theorem i5 (x:Int) (w:World) (h:IsF w B fp L l m k) (hx:I64 x):
  Calls Tryz.prog 82 #[.pointer (some ⟨fp,0,none⟩),.int .i64 x] w fun e w'=>e= .returned (.int .i64 (dep L x))∧Below w.heap.size w w':=by
 have HP:=Hd (kL fp B L l m k x w h hx);unfold dep;clear h hx;generalize pth L x=p at *;go_enter Tryz.func82,Tryz.ntmps82
 go_wp2_with (go_at_call 116;refine HP.mono ?_;rintro e w1 ⟨⟨a,c,rfl,hro⟩,hb⟩)
 go_ret;exact⟨rfl,hb⟩
theorem nW (x:Int) (w:World) (h:IsF w B fp L l m k) (hx:I64 x) (hh:has L x=true):
  Calls Tryz.prog 86 #[.pointer (some ⟨fp,0,none⟩),.int .i64 x] w fun e w'=>e= .returned (.int .i64 (aZ L x))∧Below w.heap.size w w':=by
 have HP:=Hd (kL fp B L l m k x w h hx);have h8:=h.ok.deep x;have h1:(pth L x).length≠0:=by rw[h.ok.yes hh];simp
 unfold aZ;clear h hx hh;generalize pth L x=p at *;obtain⟨j,hj⟩: ∃j,p.length=j+1:=⟨p.length - 1,A3⟩
 have hjp:j<p.length:=A3
 rw[hj,Nat.add_sub_cancel];rw[hj] at HP h8;generalize hy:p.getD j 0=y;have HY:=Hd hy;clear hj h1 hy;go_enter Tryz.func86,Tryz.ntmps86
 go_wp2_with (go_at_call 116;refine HP.mono ?_;rintro e w1 ⟨⟨a,c,rfl,hro⟩,hb⟩;obtain⟨b,rfl,_,_,hc,_⟩:=hro.at hjp;rw[HY.out] at hc)
 go_ret;exact⟨rfl,hb⟩
end
theorem cR (x:Int) (w:World):
  Calls Tryz.prog 81 #[.int .i64 x] w fun e w'=>e= .returned (.bool (decide (1≤x∧x≤10000)))∧w=w':=by
 by_cases h1:1≤x
 ·by_cases h2:x≤10000
  ·go_enter Tryz.func81,Tryz.ntmps81
   go_wp2_with fail
   go_ret;exact⟨by simp[h1,h2],rfl⟩
  ·go_enter Tryz.func81,Tryz.ntmps81
   go_wp2_with fail
   go_ret;exact⟨by simp[h2],rfl⟩
 ·go_enter Tryz.func81,Tryz.ntmps81
  go_wp2_with fail
  go_ret;exact⟨Cq,rfl⟩
theorem q6 (w:World):Calls Tryz.prog 144 #[.int .u64 0] w fun e w'=>e= .returned (.int .i64 0)∧w=w':=by
 go_enter Tryz.func144,Tryz.ntmps144
 go_wp2_with fail
 go_ret;exact⟨Ct,rfl⟩
theorem vh (w:World):Calls Tryz.prog 149 #[.int .u64 0] w fun e w'=>e= .returned (.int .i64 0)∧w=w':=by
 go_enter Tryz.func149,Tryz.ntmps149
 go_wp2_with (go_at_call 144;refine(q6 _).mono ?_;rintro e w1 ⟨rfl,rfl⟩)
 go_ret;exact⟨rfl,rfl⟩
theorem yp (a:Option Addr) (c:Nat) (w:World):Calls Tryz.prog 157 #[.slice a 0 c,.int .i64 0,.int .i64 0] w fun e w'=>e= .returned (.tuple #[])∧w=w':=by
 go_enter Tryz.func157,Tryz.ntmps157
 go_wp2_with fail
 go_loop [6] (fun i=>i= .int .i64 1) (fun _=>0)
 case atStart=>rfl
 case round=>
  obtain rfl:=hrel
  go_wp2_with fail
  go_end0
  exact⟨rfl,rfl⟩
theorem xl (a:Option Addr) (c:Nat) (w:World):Calls Tryz.prog 148 #[.slice a 0 c,.int .i64 0,.int .i64 0,.int .i64 0] w fun e w'=>e= .returned (.tuple #[])∧w=w':=by
 go_enter Tryz.func148,Tryz.ntmps148
 go_wp2_with fail
 go_loop [1,2] (fun a b=>a= .int .i64 0∧b= .int .i64 0) (fun _ _=>0)
 case atStart=>exact⟨rfl,rfl⟩
 case round=>
  obtain⟨rfl,rfl⟩:=hrel
  go_wp2_with (go_at_call 157;refine(yp a c _).mono ?_;rintro e w1 ⟨rfl,rfl⟩)
  refine bodyPost_ret (results_none rfl _ _ _) rfl ?_;exact⟨rfl,rfl⟩
theorem vq (a:Option Addr) (c:Nat) (w:World):Calls Tryz.prog 135 #[.slice a 0 c] w fun e w'=>e= .returned (.tuple #[])∧w=w':=by
 go_enter Tryz.func135,Tryz.ntmps135
 go_wp2_with (first | (go_at_call 149;refine(vh _).mono ?_;rintro e w1 ⟨rfl,rfl⟩) | (go_at_call 148;refine(xl a c _).mono ?_;rintro e w1 ⟨rfl,rfl⟩))
 go_end0
 exact⟨rfl,rfl⟩
end Go.Proofs.YtohifgjeebhijaaGreatDoor
