import Derived.Test.YtohifgjeebhijaaGreatDoorVLc
import Derived.Test.YtohifgjeebhijaaGreatDoorVShes
namespace Go.Proofs.YtohifgjeebhijaaGreatDoor
set_option maxHeartbeats 1000000
open Go.RowKit Go.Dig Go.Shelf Go.Proofs Go.Rq Go.Sort
def cX (k:Kid):Prop:=k.1≠0∧k.1≤10000∧k.2≤64
abbrev Kd:={k:Kid // cX k}
instance:Inhabited Kd:=⟨⟨(1,0),by unfold cX;decide⟩⟩
def li (x:Kd):List Value:=[.int .i64 (x.1.1:Int),.int .i64 (x.1.2:Int)]
def cfK (x y:Kd):Int:=bJ (x.1.2*y.1.1) (y.1.2*x.1.1)
theorem ltK (x y:Kd):ltOf cfK x y=decide (x.1.2*y.1.1<y.1.2*x.1.1):=by
 unfold ltOf cfK bJ;by_cases h:x.1.2*y.1.1<y.1.2*x.1.1
 ·simp[h]
 ·rw[if_neg h];by_cases h2:y.1.2*x.1.1<x.1.2*y.1.1<;>simp[h,h2]
theorem tZ (a b c:Nat):a*b*c=a*c*b:=by rw[Nat.mul_assoc,Nat.mul_comm b c,Nat.mul_assoc]
theorem uM {a1 a2 b1 b2 c1 c2:Nat} (ha:a1≠0) (hc:c1≠0) (h1:a2*b1<b2*a1) (h2:b2*c1<c2*b1):a2*c1<c2*a1:=by
 have e1:a2*b1*c1<b2*a1*c1:=Nat.mul_lt_mul_of_pos_right h1 (Nat.pos_of_ne_zero hc);have e2:b2*c1*a1<c2*b1*a1:=Nat.mul_lt_mul_of_pos_right h2 (Nat.pos_of_ne_zero ha);rw[tZ b2 c1 a1] at e2;have e3:a2*c1*b1<c2*a1*b1:=by rw[tZ a2 c1 b1,tZ c2 a1 b1];omega
 exact Nat.lt_of_mul_lt_mul_right e3
theorem xc {a1 a2 b1 b2 c1 c2:Nat} (hb:b1≠0) (h1:b2*a1≤a2*b1) (h2:c2*b1≤b2*c1):c2*a1≤a2*c1:=by
 have e1:b2*a1*c1≤a2*b1*c1:=Nat.mul_le_mul_right _ h1;have e2:c2*b1*a1≤b2*c1*a1:=Nat.mul_le_mul_right _ h2;rw[tZ b2 c1 a1] at e2;have e3:c2*a1*b1≤a2*c1*b1:=by rw[tZ c2 a1 b1,tZ a2 c1 b1];omega
 exact Nat.le_of_mul_le_mul_right e3 (Nat.pos_of_ne_zero hb)
theorem zN:SWO (ltOf cfK) where
 irrefl x:=by rw[ltK];simp
 trans x y z h1 h2:=by
  rw[ltK] at *;simp only[decide_eq_true_eq] at *;exact uM x.2.1 z.2.1 h1 h2
 ntrans x y z h1 h2:=by
  rw[ltK] at *;simp only[decide_eq_false_iff_not,Nat.not_lt] at *;exact xc y.2.1 h1 h2
theorem lE {a b:Nat} (ha:a≤64) (hb:b≤10000):a*b≤640000:=Nat.mul_le_mul ha hb
theorem vV (x y:Kd) (W:World):Calls Tryz.prog 177 #[.agg #[.int .i64 (x.1.1:Int),.int .i64 (x.1.2:Int)],.agg #[.int .i64 (y.1.1:Int),.int .i64 (y.1.2:Int)]] W fun e w'=>e= .returned (.int .i64 (cfK x y))∧∃q os',w'=grow (W.drewN q) os':=by
 obtain⟨⟨a1,a2⟩,ha⟩:=x;obtain⟨⟨b1,b2⟩,hb⟩:=y;have e1:((a2*b1:Nat):Int)=(a2:Int)*(b1:Int):=Int.natCast_mul a2 b1;have e2:((b2*a1:Nat):Int)=(b2:Int)*(a1:Int):=Int.natCast_mul b2 a1;have m1:=lE ha.2.2 hb.2.1;have m2:=lE hb.2.2 ha.2.1;have p1:(a2:Int)*(b1:Int)≤640000:=by rw[←e1];exact Int.ofNat_le.2 m1
 have p2:(b2:Int)*(a1:Int)≤640000:=by rw[←e2];exact Int.ofNat_le.2 m2
 have q1:0≤(a2:Int)*(b1:Int):=by rw[←e1];exact Int.natCast_nonneg _
 have q2:0≤(b2:Int)*(a1:Int):=by rw[←e2];exact Int.natCast_nonneg _
 have H:=fun W'=>Hd (jn (a2*b1) (b2*a1) W')
 rw[e1,e2] at H;unfold cfK;generalize bJ (a2*b1) (b2*a1)=r at H ⊢;dsimp only;clear e1 e2 m1 m2 ha hb;go_enter Tryz.func177,Tryz.ntmps177
 go_wp2_with fail
 refine(H _).out.mono ?_;rintro e w' ⟨rfl,rfl⟩
 go_wp2_with fail
 go_ret;exact⟨rfl,0,_,by rw[alloc_eq_grow,alloc_eq_grow,grow_grow];rfl⟩
theorem wu (blk off size:Nat) (w:World):CmpLays Tryz.prog 177 #[] li 2 cfK blk off size w:=fun _ _ _ _ x y=>vV x y _
def kds (ks:List Kid) (h: ∀k∈ks,cX k):List Kd:=ks.attach.map fun k=>⟨k.1,h k.1 k.2⟩
theorem xF (ks:List Kid) (h: ∀k∈ks,cX k):(kds ks h).map (·.1)=ks:=by
 unfold kds;rw[List.map_map];exact List.attach_map_subtype_val ks
theorem oy (d:Array Kd) (j:Nat) (h:j<d.size):(d.toList.map (·.1)).getD j (0,0)=d[j]!.1:=by
 have h':j<d.toList.length:=by simpa using h
 simp[List.getD_eq_getElem?_getD,h]
theorem nO {w:World} {B:Nat} (d:Array Kd) (h:KB w B (d.toList.map (·.1))):HoldsK li 2 w B 0 d:=by
 intro t ht;rw[size_flatK] at ht;rw[get_flatK li 2 d t ht];have h2:t % 2<2:=Nat.mod_lt _ A3;have h3:t / 2<d.size:=A3
 have h1:=h.2 (t / 2) (by simpa using h3);rw[oy d _ h3] at h1;have e:t=t / 2*2+t % 2:=A3
 rw[Nat.zero_add];generalize t / 2=j at *;generalize t % 2=r at *;subst e
 match r,h2 with
 | 0,_=>exact h1.1
 | 1,_=>exact h1.2
theorem pg {w:World} {B:Nat} (d:Array Kd) (hB:B<w.heap.size) (h:HoldsK li 2 w B 0 d):KB w B (d.toList.map (·.1)):=by
 refine⟨hB,fun j hj=>?_⟩;have hj':j<d.size:=by simpa using hj
 rw[oy d _ hj'];have h0:=h.cell (c:=0) hj' A3;have h1:=h.cell (c:=1) hj' A3;simp only[Nat.zero_add,Nat.add_zero] at h0 h1;exact⟨h0,h1⟩
theorem qz {w:World} {g n:Nat} {os:Array Obj} (d:Array Kd):w.grownBy (sortWorldK li 2 w g 0 n d os) (some g):=by
 refine⟨rfl,rfl,rfl,size_sortWorldK_c li 2 w g 0 n d os,fun k hk hne=>?_⟩;have hkg:g≠k:=fun e=>hne (by rw[e])
 unfold sortWorldK;rw[heap_grow_old _ _ (by rw[size_putRowK];exact hk)];show ((Sort.ahead w n).heap.modify g _)[k]? =_;rw[Array.getElem?_modify,if_neg hkg];rfl
theorem wT (B:Nat) (ks:List Kid) (w:World) (h:KB w B ks) (hk: ∀k∈ks,cX k) (hl:ks.length≤100):
  Calls Tryz.prog 176 #[.slice (some ⟨B,0,none⟩) ks.length ks.length,.func (.func 177) #[] #[]] w fun e w'=>∃ks':List Kid,e= .returned (.tuple #[])∧ks'.Perm ks∧ks'.Pairwise Le∧KB w' B ks'∧w.grownBy w' (some B):=by
 have eg: ∀args w,(callFunc 177 args).run Tryz.prog w= .ok (.enter 177 args) w:=enters_of Tryz.func177 Cx rfl;obtain⟨d,hd⟩: ∃d:Array Kd,d.toList.map (·.1)=ks:=⟨(kds ks hk).toArray,by simpa using xF ks hk⟩
 have hs:d.size=ks.length:=by rw[←hd];simp
 rw[←hd] at h;have hH:=nO d h;have hc:=AnyQ.slices_SortFunc Tryz.sortC 2 Tryz.isAgg201 Tryz.sizeOf201 li (fun _=>rfl) (fun x v hv=>by simp[li] at hv;rcases hv with rfl | rfl<;>rfl) cfK zN 177 #[] B 0 d.size d w eg (wu B 0 d.size w) hH h.1 A3;rw[hs] at hc;refine Calls.mono hc ?_;rintro e w' ⟨rfl,d',n,os,hp,hsd,rfl⟩;refine⟨d'.toList.map (·.1),rfl,?_,?_,?_,qz d'⟩
 ·have h1:=hp.2.2;rw[←hs] at h1;have e1:d'.extract 0 d.size=d':=by rw[←hp.1,Array.extract_size]
  rw[e1,Array.extract_size] at h1;rw[←hd];exact h1.map _
 ·rw[List.pairwise_map,List.pairwise_iff_getElem];intro i j hi hj hij;have h2:=hsd i j (Nat.zero_le _) hij (by rw[←hs,←hp.1];simpa using hj);rw[ltK] at h2;simp only[decide_eq_false_iff_not,Nat.not_lt] at h2;have e1:d'[i]! =d'.toList[i]:=by simp at hi ⊢;simp[hi]
  have e2:d'[j]! =d'.toList[j]:=by simp at hj ⊢;simp[hj]
  rw[e1,e2] at h2;exact h2
 ·exact pg d' (Nat.lt_of_lt_of_le h.1 (size_sortWorldK_c li 2 w B 0 n d' os)) (holdsK_sortWorldK_c li 2 w B 0 d d' n os hH h.1 hp.1)
end Go.Proofs.YtohifgjeebhijaaGreatDoor
namespace Go.Proofs.YtohifgjeebhijaaGreatDoor
open Go.RowKit Go.Dig Go.Shelf Go.Proofs Go.Rq
theorem KB.pset {w:World} {B C:Nat} {t:TypeId} {ks:List Kid} {p r:Option Addr} {n c m d:Nat} (h:KB w C ks) (hp:ah w B t (.slice p n c) (.slice r m d)) (x' y':Value):KB ((w.setCell ⟨B,0,none⟩ x').setCell ⟨B,1,none⟩ y') C ks:=by
 refine⟨by simpa[World.setCell] using h.1,fun j hj=>?_⟩;have hne:C≠B:=by
  rintro rfl;have h0:=(h.2 0 (Nat.lt_of_le_of_lt (Nat.zero_le _) hj)).1.1;rw[Nat.zero_mul,hp.c0] at h0;cases h0
 have e:=(Below.heap_setCell (w.setCell ⟨B,0,none⟩ x') ⟨B,1,none⟩ y' C hne).trans (Below.heap_setCell w ⟨B,0,none⟩ x' C hne);rw[World.cell?_of_block (w:=w) (a:=⟨C,j*2,none⟩) e,World.cell?_of_block (w:=w) (a:=⟨C,j*2+1,none⟩) e,World.frozen?_of_block (w:=w) (a:=⟨C,j*2,none⟩) e,World.frozen?_of_block (w:=w) (a:=⟨C,j*2+1,none⟩) e];exact h.2 j hj
def gS (D:Nat) (x:Rat):Prop:=D≠0∧D≤big 600∧bX D x
theorem bW {n:Nat} (k:Nat) (h:n≤2 ^ 64) (hk:64≤k):n≤big k:=Nat.le_trans h (kh (a:=64) hk)
theorem go {a b:Nat} (ha:a≤big 600) (hb:b≤2 ^ 64):a*b≤big 3000:=
 Nat.le_trans (Nat.mul_le_mul ha (show b≤big 64 from hb)) (by rw[mS];exact kh BD)
theorem div_le_self {r:Rat} {n:Nat} (h0:0≤r) (hn:n≠0):r / n≤r:=by
 have hp:=aR hn;have h1:(1:Rat)≤n:=by
  have:((1:Nat):Rat)≤(n:Rat):=Rat.natCast_le_natCast.2 (Nat.pos_of_ne_zero hn);grind
 have h2:0≤r / n:=by rw[Rat.div_def];exact Rat.mul_nonneg h0 (Rat.le_of_lt (Rat.inv_pos.2 hp))
 have h3:r / n*1≤r / n*n:=Rat.mul_le_mul_of_nonneg_left h1 h2;have h4:r / n*n=r:=by grind
 grind
theorem fs {r:Rat} {n:Nat} (h0:0≤r) (hn:n≠0):0≤r / n:=by
 rw[Rat.div_def];exact Rat.mul_nonneg h0 (Rat.le_of_lt (Rat.inv_pos.2 (aR hn)))
theorem Sz.fine {D:Nat} {x:Rat} (h:gS D x) (h0:0≤x) (hx:x≤((2048:Nat):Rat)):Sz x:=
 Sz.whole h.1 h.2.2 h0 hx (Nat.le_trans h.2.1 (kh BD)) (bW _ BD BD)
theorem Sz.even {D W:Nat} {x:Rat} (h:gS D x) (h0:0≤x) (hx:x≤((2048:Nat):Rat)) (hW:W≠0) (hW2:W≤1000000):Sz (x / W):=
 Sz.whole (Nat.mul_ne_zero h.1 hW) (gj hW h.2.2) (fs h0 hW) (Rat.le_trans (div_le_self h0 hW) hx) (go h.2.1 A3) (bW _ BD BD)
theorem oR {W n:Nat} {x:Rat} (h0:0≤x) (hW:W≠0) (hn:n≤W):x / W*n≤x:=by
 have h1:(n:Rat)≤W:=Rat.natCast_le_natCast.2 hn;have h2:=Rat.mul_le_mul_of_nonneg_left h1 (fs h0 hW);have h3:x / W*W=x:=by have:=aR hW;grind
 grind
theorem Sz.part {D W n:Nat} {x:Rat} (h:gS D x) (h0:0≤x) (hx:x≤((2048:Nat):Rat)) (hW:W≠0) (hW2:W≤1000000) (hn:n≤W):Sz (x / W*n):=
 Sz.whole (Nat.mul_ne_zero h.1 hW) (gD n (gj hW h.2.2)) (Rat.mul_nonneg (fs h0 hW) Rat.natCast_nonneg) (Rat.le_trans (oR h0 hW hn) hx) (go h.2.1 A3) (bW _ BD BD)
theorem fH: ∀ks:List Kid,(ks.map fun k=>(k.1:Int)).sum=(aI ks:Int)
 | []=>rfl
 | k::ks=>by rw[List.map_cons,List.sum_cons,fH ks,aI];omega
theorem fe: ∀ks:List Kid,(∀k∈ks,cX k)→aI ks≤10000*ks.length
 | [],_=>by simp[aI]
 | k::ks,h=>by
  have h1:=fe ks (fun x hx=>h x (List.mem_cons_of_mem _ hx));have h2:=(h k List.mem_cons_self).2.1;rw[aI,List.length_cons];omega
theorem jI: ∀ks:List Kid,(∀k∈ks,cX k)→bT ks≤64*ks.length
 | [],_=>by simp[bT]
 | k::ks,h=>by
  have h1:=jI ks (fun x hx=>h x (List.mem_cons_of_mem _ hx));have h2:=(h k List.mem_cons_self).2.2;rw[bT,List.length_cons];omega
theorem vU {l:List Kid} {k:Nat} (h:k<l.length):l.drop k=l.getD k (0,0)::l.drop (k+1):=by
 rw[List.drop_eq_getElem_cons h];simp[h]
theorem fc {l:List Kid} {k:Nat} (h:k<l.length):l.getD k (0,0)∈l:=by
 simp[List.getD_eq_getElem?_getD,h]
theorem xQ {x:Rat} {ks ks':List Kid} (h0:0≤x) (hp:ks'.Perm ks) (hs:ks'.Pairwise Le) (hk: ∀k∈ks,cX k) (hx:x≤(bT ks:Nat)):lev x (aI ks') ks'=aN x ks:=by
 have hg:Rq.Good ks:=fun k hm=>(hk k hm).1
 have hd:=jd hg h0 hx;by_cases hne:ks'=[]
 ·subst hne;have e:ks=[]:=hp.symm.eq_nil;subst e;have e2:x=0:=Rat.le_antisymm (by simpa[bT] using hx) h0;subst e2;exact(ke []).one hd
 ·have h1:=vB h0 ks' [] x (aI ks') hne (by simpa using hg.perm hp.symm) (by simp[bT];grind) rfl (fun a ha=>by simp at ha) hs (fun a ha=>by simp at ha) h0 (by rw[List.nil_append,tq hp];exact hx);exact dm.one (h1.perm (by simpa using hp)) hd
theorem mx {w w1 w2:World} {B:Nat} (h:Below w.heap.size w w1) (hB:w.heap.size≤B) (hg:w1.grownBy w2 (some B)):Below w.heap.size w w2:=
 h.grown hg h.size (fun j ej=>by cases ej;exact hB)
set_option maxRecDepth 100000
set_option maxHeartbeats 4000000
theorem Bv {p:Prop} (h:p:=by rw[List.length_map];omega):p:=h
theorem sJ (p q a b:Sl) (x:Rat) (ks:List Kid) (D:Nat) (w:World) (hx:RQ w p q x) (ha:RI w a (ks.map fun k=>(k.1:Int))) (hc:RI w b (ks.map fun k=>(k.2:Int))) (hl:ks.length≤32) (HKK:Hid (∀k∈ks,cX k)) (HF:Hid (gS D x)) (HX:Hid (x≤((bT ks:Nat):Rat))):
  Calls Tryz.prog 153 #[.agg #[.slice p.a p.n p.c,.slice q.a q.n q.c],.slice a.a a.n a.c,.slice b.a b.n b.c] w fun e w'=>∃u v:Sl,e= .returned (.agg #[.slice u.a u.n u.c,.slice v.a v.n v.c])∧RQ w' u v (aN x ks)∧Below w.heap.size w w':=by
 have HX0:Hid (0≤x):=Hd hx.1.pos;go_enter Tryz.func153,Tryz.ntmps153;have hb:Below w.heap.size w ((w.alloc (.cells #[.slice p.a p.n p.c,.slice q.a q.n q.c] 49)).alloc (.cells #[.slice none 0 0,.slice none 0 0] 49)):=(((Below.refl _ _).alloc lr _).alloc B4 _)
 replace hx:=hx.below hb;replace ha:=ha.below hb;replace hc:=hc.below hb;have hB:=hb;have P1:ah ((w.alloc (.cells #[.slice p.a p.n p.c,.slice q.a q.n q.c] 49)).alloc (.cells #[.slice none 0 0,.slice none 0 0] 49)) (w.heap.size) 49 (.slice p.a p.n p.c) (.slice q.a q.n q.c):=by
  have h:=(ah.new w 49 (.slice p.a p.n p.c) (.slice q.a q.n q.c)).alloc (.cells #[.slice none 0 0,.slice none 0 0] 49);exact zQ
 have P2:ah ((w.alloc (.cells #[.slice p.a p.n p.c,.slice q.a q.n q.c] 49)).alloc (.cells #[.slice none 0 0,.slice none 0 0] 49)) (w.heap.size+1) 49 (.slice none 0 0) (.slice none 0 0):=by
  have h:=ah.new (w.alloc (.cells #[.slice p.a p.n p.c,.slice q.a q.n q.c] 49)) 49 (.slice none 0 0) (.slice none 0 0);exact zQ
 clear hb;have c0P1:=P1.c0;have c1P1:=P1.c1;have c0P2:=P2.c0;have c1P2:=P2.c1;have H1:=Hd (iD a b ks ((w.alloc (.cells #[.slice p.a p.n p.c,.slice q.a q.n q.c] 49)).alloc (.cells #[.slice none 0 0,.slice none 0 0] 49)) ha hc A3)
 go_wp2_with fail
 clear c0P1 c1P1 c0P2 c1P2;refine H1.mono ?_;rintro e wA ⟨Bk,rfl,hBk,hkb0,hbA⟩;clear H1;have H2:=Hd (wT Bk ks wA hkb0 HKK.out A3)
 go_wp2_with fail
 refine H2.mono ?_;rintro e wB ⟨ks2,rfl,hpm,hst,hkb,hg⟩;clear H2 hkb0;have hb:Below ((w.alloc (.cells #[.slice p.a p.n p.c,.slice q.a q.n q.c] 49)).alloc (.cells #[.slice none 0 0,.slice none 0 0] 49)).heap.size ((w.alloc (.cells #[.slice p.a p.n p.c,.slice q.a q.n q.c] 49)).alloc (.cells #[.slice none 0 0,.slice none 0 0] 49)) wB:=mx hbA hBk hg;clear hbA hg;replace P1:=P1.below hb;replace P2:=P2.below hb;replace hx:=hx.below hb;replace ha:=ha.below hb;replace hc:=hc.below hb;replace hB:=hB.tr hb;clear hb;simp only[World.size_alloc] at hBk;have hlen:ks2.length=ks.length:=hpm.length_eq;have HKS:Hid (∀k∈ks2,cX k):=Hd (fun k hk=>HKK.out k (hpm.mem_iff.1 hk));have HLV:=Hd (xQ HX0.out hpm hst HKK.out HX.out);have HWT:Hid (aI ks=aI ks2):=Hd (mL hpm).symm;have HX2:Hid (x≤((2048:Nat):Rat)):=Hd (Rat.le_trans HX.out (Rat.natCast_le_natCast.2 (by have:=jI ks HKK.out;omega)));have HWB:Hid (aI ks2≤1000000):=Hd (by have:=fe ks2 HKS.out;omega);have HWK:Hid (aI ks≤1000000):=Hd (by rw[HWT.out];exact HWB.out);rw[←hlen];have HLN:=Hd hlen;have HL2:ks2.length≤32:=A3
 clear hlen hpm hst;have c0P1:=P1.c0;have c1P1:=P1.c1;have c0P2:=P2.c0;have c1P2:=P2.c1
 go_wp2_with fail
 clear c0P1 c1P1 c0P2 c1P2;have hb:Below wB.heap.size wB wB.drew:=(Below.refl _ _).drew;replace P1:=P1.below hb;replace P2:=P2.below hb;replace hx:=hx.below hb;replace ha:=ha.below hb;replace hc:=hc.below hb;replace hkb:=hkb.below hb;replace hB:=hB.tr hb;clear hb;refine Rd.regionT (fun X=>ah X (w.heap.size) 49 (.slice p.a p.n p.c) (.slice q.a q.n q.c)∧ah X (w.heap.size+1) 49 (.slice none 0 0) (.slice none 0 0)) [0,1,5] (.one 0 (.one 1 (.two 2 (.one 3 (.one 4 (.one 5 .done))) 3 (.one 2 (.one 4 (.one 5 .done)))))) (fun ac W=>∃(B8:Nat) (y19 y20 y21:Value),ac={ tmps:=List.toArray (.agg #[.slice p.a p.n p.c,.slice q.a q.n q.c]:: .slice a.a a.n a.c:: .slice b.a b.n b.c:: .pointer (some ⟨w.heap.size,0,none⟩)::undef::undef:: .pointer (some ⟨w.heap.size+1,0,none⟩):: .slice (some ⟨Bk,0,none⟩) ks2.length ks2.length:: .pointer (some ⟨B8,0,none⟩):: .int .i64 ((aI ks2:Nat):Int)::undef::undef::undef::undef:: .slice a.a a.n a.c:: .slice b.a b.n b.c:: .slice (some ⟨Bk,0,none⟩) ks2.length ks2.length:: .slice (some ⟨Bk,0,none⟩) ks2.length ks2.length:: .tuple #[]::y19::y20::y21::undef::undef::undef::undef::undef::undef::undef::undef::undef::undef::undef::undef::undef::undef::undef::undef::undef::undef::undef::undef::undef::undef::undef::undef::undef::undef::undef::undef::undef::undef::undef::undef::[]),defers:=[] }∧ah W (w.heap.size) 49 (.slice p.a p.n p.c) (.slice q.a q.n q.c)∧ah W (w.heap.size+1) 49 (.slice none 0 0) (.slice none 0 0)∧RQ W p q (x)∧RI W a (ks.map fun k=>(k.1:Int))∧RI W b (ks.map fun k=>(k.2:Int))∧KB W Bk ks2∧ah W B8 49 (.slice p.a p.n p.c) (.slice q.a q.n q.c)∧Bk<B8∧Below w.heap.size w W) Cx Cx Cx ⟨P1,P2⟩ ?tree ?next
 case tree=>
  generalize wB.drew=w3 at P1 P2 hx ha hc hkb hB ⊢;refine Rd.tg (.agg #[.slice p.a p.n p.c,.slice q.a q.n q.c]) ?_ (y:=fun X hX=>A5);refine Rd.tf (.slice a.a a.n a.c) ?_;refine Rd.tr_two BC Cp BC Cp (fun K hK=>?_) (fun K hK=>?_)
  ·skip
   have H4:=Hd (jC a (ks.map fun k=>(k.1:Int)) w3 ha Bv (by intro z hz;obtain⟨k,hk,rfl⟩:=List.mem_map.1 hz;have h1:=(HKK.out k hk).2.1;omega));rw[fH,HWT.out] at H4;go_simp;refine H4.mono ?_;rintro e w5 ⟨rfl,rfl⟩;clear H4;refine hK _ _ ⟨P1,P2⟩ ?_;clear hK K;refine Rd.tm fun K hK=>?_
   go_simp;have P6:=ah.new w3 49 (.slice none 0 0) (.slice none 0 0);have nP1P6:=P1.lt;have nP2P6:=P2.lt;have nhkbP6:=hkb.lt;have gP6:=hB.size;have hb:Below w3.heap.size w3 (w3.alloc (.cells #[.slice none 0 0,.slice none 0 0] 49)):=(Below.refl _ _).alloc lr _;replace P1:=P1.below hb;replace P2:=P2.below hb;replace hx:=hx.below hb;replace ha:=ha.below hb;replace hc:=hc.below hb;replace hkb:=hkb.below hb;replace hB:=hB.tr hb;clear hb;generalize w3.alloc (.cells #[.slice none 0 0,.slice none 0 0] 49)=w8 at P1 P2 hx ha hc hkb P6 hB ⊢;generalize w3.heap.size=B7 at nP1P6 nP2P6 nhkbP6 P6 gP6 ⊢;refine hK _ _ ⟨P1,P2⟩ ?_;clear hK K;refine Rd.tm fun K hK=>?_
   have c0P6:=P6.c0;have c1P6:=P6.c1;have z0P6:=P6.z0;have z1P6:=P6.z1;go_simp;clear c0P6 c1P6 z0P6 z1P6;replace hx:=hx.pset P6 (.slice p.a p.n p.c) (.slice q.a q.n q.c);replace ha:=ha.pset P6 (.slice p.a p.n p.c) (.slice q.a q.n q.c);replace hc:=hc.pset P6 (.slice p.a p.n p.c) (.slice q.a q.n q.c);replace hkb:=hkb.pset P6 (.slice p.a p.n p.c) (.slice q.a q.n q.c);replace P1:=P1.other (B:=B7) A3 (.slice p.a p.n p.c) (.slice q.a q.n q.c);replace P2:=P2.other (B:=B7) A3 (.slice p.a p.n p.c) (.slice q.a q.n q.c);replace hB:=Below.pset (B:=B7) hB A3 (.slice p.a p.n p.c) (.slice q.a q.n q.c);replace P6:=P6.set (.slice p.a p.n p.c) (.slice q.a q.n q.c);generalize (w8.setCell ⟨B7,0,none⟩ (.slice p.a p.n p.c)).setCell ⟨B7,1,none⟩ (.slice q.a q.n q.c)=w9 at P1 P2 P6 hx ha hc hkb hB ⊢;refine hK _ _ ⟨P1,P2⟩ ?_;clear hK K;refine Rd.tf (.int .i64 ((aI ks2:Nat):Int)) ?_;exact Rd.tr_end (⟨B7,_,_,_,rfl,P1,P2,hx,ha,hc,hkb,P6,nhkbP6,hB⟩)
  ·skip
   go_simp;have P10:=ah.new w3 49 (.slice none 0 0) (.slice none 0 0);have nP1P10:=P1.lt;have nP2P10:=P2.lt;have nhkbP10:=hkb.lt;have gP10:=hB.size;have hb:Below w3.heap.size w3 (w3.alloc (.cells #[.slice none 0 0,.slice none 0 0] 49)):=(Below.refl _ _).alloc lr _;replace P1:=P1.below hb;replace P2:=P2.below hb;replace hx:=hx.below hb;replace ha:=ha.below hb;replace hc:=hc.below hb;replace hkb:=hkb.below hb;replace hB:=hB.tr hb;clear hb;generalize w3.alloc (.cells #[.slice none 0 0,.slice none 0 0] 49)=w12 at P1 P2 hx ha hc hkb P10 hB ⊢;generalize w3.heap.size=B11 at nP1P10 nP2P10 nhkbP10 P10 gP10 ⊢;refine hK _ _ ⟨P1,P2⟩ ?_;clear hK K;refine Rd.tm fun K hK=>?_
   have H13:=Hd (jC a (ks.map fun k=>(k.1:Int)) w12 ha Bv (by intro z hz;obtain⟨k,hk,rfl⟩:=List.mem_map.1 hz;have h1:=(HKK.out k hk).2.1;omega));rw[fH,HWT.out] at H13;go_simp;refine H13.mono ?_;rintro e w14 ⟨rfl,rfl⟩;clear H13;refine hK _ _ ⟨P1,P2⟩ ?_;clear hK K;refine Rd.tm fun K hK=>?_
   have c0P10:=P10.c0;have c1P10:=P10.c1;have z0P10:=P10.z0;have z1P10:=P10.z1;go_simp;clear c0P10 c1P10 z0P10 z1P10;replace hx:=hx.pset P10 (.slice p.a p.n p.c) (.slice q.a q.n q.c);replace ha:=ha.pset P10 (.slice p.a p.n p.c) (.slice q.a q.n q.c);replace hc:=hc.pset P10 (.slice p.a p.n p.c) (.slice q.a q.n q.c);replace hkb:=hkb.pset P10 (.slice p.a p.n p.c) (.slice q.a q.n q.c);replace P1:=P1.other (B:=B11) A3 (.slice p.a p.n p.c) (.slice q.a q.n q.c);replace P2:=P2.other (B:=B11) A3 (.slice p.a p.n p.c) (.slice q.a q.n q.c);replace hB:=Below.pset (B:=B11) hB A3 (.slice p.a p.n p.c) (.slice q.a q.n q.c);replace P10:=P10.set (.slice p.a p.n p.c) (.slice q.a q.n q.c);generalize (w12.setCell ⟨B11,0,none⟩ (.slice p.a p.n p.c)).setCell ⟨B11,1,none⟩ (.slice q.a q.n q.c)=w15 at P1 P2 P10 hx ha hc hkb hB ⊢;refine hK _ _ ⟨P1,P2⟩ ?_;clear hK K;refine Rd.tf (.int .i64 ((aI ks2:Nat):Int)) ?_;exact Rd.tr_end (⟨B11,_,_,_,rfl,P1,P2,hx,ha,hc,hkb,P10,nhkbP10,hB⟩)
 case next=>
  rintro a17 W16 ⟨B8,y19,y20,y21,rfl,P1,P2,hx,ha,hc,hkb,P8,hn8,hB⟩;have hsz:=hB.size
  go_wp2_with fail
  go_loopw [9,24] (fun wv i wr=>∃(k Wg:Nat) (lf:Rat) (pl ql:Sl),k≤ks2.length∧i= .int .i64 (k:Int)∧wv= .int .i64 (Wg:Int)∧Hid (Wg=aI (ks2.drop k))∧Wg≤1000000∧Hid (gS D lf∧lf≤x)∧Hid (lev x (aI ks2) ks2=lev lf Wg (ks2.drop k))∧Hid (ah wr B8 49 (.slice pl.a pl.n pl.c) (.slice ql.a ql.n ql.c))∧Hid (ah wr (w.heap.size+1) 49 (.slice none 0 0) (.slice none 0 0))∧Hid (KB wr Bk ks2)∧Hid (RQ wr pl ql lf)∧Hid (Below w.heap.size w wr)) (fun _ i _=>ks2.length - (intOf i).toNat)
  case atStart=>exact⟨0,aI ks2,x,p,q,Nat.zero_le _,rfl,rfl,Hd (by rw[List.drop_zero]),HWB.out,Hd ⟨HF.out,Rat.le_refl⟩,Hd (by rw[List.drop_zero]),Hd P8,Hd P2,Hd hkb,Hd hx,Hd hB⟩
  case round=>
   clear P1 P2 P8 hkb hx ha hc hB hsz;obtain⟨k,Wg,lf,pl,ql,hk,rfl,rfl,HW,hW6,HFL,HLEV,HP8,HPR,HK,HLF,HBB⟩:=hrel;have P8:=HP8.out;have PR:=HPR.out;have hkb:=HK.out;have hlf:=HLF.out;have hB:=HBB.out;clear HP8 HPR HK HLF HBB;by_cases hlt:k<ks2.length
   ·skip
    have h2:=hkb.2 k hlt;have hkk:=HKS.out _ (fc hlt);have hd:=vU hlt;have hev:=HLEV.out;have hw9:=HW.out;rw[hd] at hev hw9;generalize ks2.getD k (0,0)=kid at h2 hkk hev hw9 hd;obtain⟨wt,cp⟩:=kid;dsimp only at h2;obtain⟨⟨c1,_⟩,⟨c2,_⟩⟩:=h2;have hwt:=hkk.2.1;have hcp:=hkk.2.2;have hw0:=hkk.1;dsimp only at hwt hcp hw0;have hWe:Wg=wt+aI (ks2.drop (k+1)):=hw9;have HWE:=Hd hWe;have HW0:Hid (Wg≠0):=Hd A3;have hwW:wt≤Wg:=A3
    have HLE:=Hd hev;clear HW HLEV hkk hd hev hw9 hWe hw0;have HL0:Hid (0≤lf):=Hd hlf.1.pos;have HL9:Hid (lf≤((2048:Nat):Rat)):=Hd (Rat.le_trans HFL.2 HX2.out);have HSE:Hid (Sz (lf / (Wg:Rat))):=Hd (Sz.even HFL.1 HL0.out HL9.out HW0.out hW6);have HSP:Hid (Sz (lf / (Wg:Rat)*(wt:Rat))):=Hd (Sz.part HFL.1 HL0.out HL9.out HW0.out hW6 hwW);have hsz:=hB.size;have hsr:=PR.lt;have hs8:=P8.lt;have hb:Below wr.heap.size wr (wr.alloc (.cells #[.int .i64 (wt:Int),.int .i64 (cp:Int)] 201)):=((Below.refl _ _).alloc lr _)
    replace P8:=P8.below hb;replace PR:=PR.below hb;replace hkb:=hkb.below hb;replace hlf:=hlf.below hb;replace hB:=hB.tr hb;have P18:ah (wr.alloc (.cells #[.int .i64 (wt:Int),.int .i64 (cp:Int)] 201)) (wr.heap.size) 201 (.int .i64 (wt:Int)) (.int .i64 (cp:Int)):=by
     have h:=ah.new wr 201 (.int .i64 (wt:Int)) (.int .i64 (cp:Int));exact zQ
    clear hb;have c0P8:=P8.c0;have c1P8:=P8.c1;have c0PR:=PR.c0;have c1PR:=PR.c1;have c0P18:=P18.c0;have c1P18:=P18.c1
    go_wp2_with fail
    clear c0P8 c1P8 c0PR c1PR c0P18 c1P18;have hb:Below (wr.alloc (.cells #[.int .i64 (wt:Int),.int .i64 (cp:Int)] 201)).heap.size (wr.alloc (.cells #[.int .i64 (wt:Int),.int .i64 (cp:Int)] 201)) (wr.alloc (.cells #[.int .i64 (wt:Int),.int .i64 (cp:Int)] 201)).drew:=(Below.refl _ _).drew;replace P8:=P8.below hb;replace PR:=PR.below hb;replace P18:=P18.below hb;replace hkb:=hkb.below hb;replace hlf:=hlf.below hb;replace hB:=hB.tr hb;clear hb;refine Rd.regionT (fun X=>ah X (B8) 49 (.slice pl.a pl.n pl.c) (.slice ql.a ql.n ql.c)∧ah X (w.heap.size+1) 49 (.slice none 0 0) (.slice none 0 0)∧ah X (wr.heap.size) 201 (.int .i64 (wt:Int)) (.int .i64 (cp:Int))) [0,1,4,5,6,9] (.one 0 (.one 1 (.two 2 (.two 3 (.one 4 (.one 5 (.one 6 (.one 7 (.one 8 (.one 9 .done)))))) 7 (.one 3 (.one 4 (.one 5 (.one 6 (.one 8 (.one 9 .done))))))) 7 (.one 2 (.one 3 (.one 4 (.one 5 (.one 6 (.one 8 (.one 9 .done)))))))))) (fun ac W=>∃(pe:Sl) (qe:Sl) (B12:Nat) (y13 y28 y29 y30 y31 y32 y33 y34:Value),ac={ tmps:=List.toArray (.agg #[.slice p.a p.n p.c,.slice q.a q.n q.c]:: .slice a.a a.n a.c:: .slice b.a b.n b.c:: .pointer (some ⟨w.heap.size,0,none⟩)::undef::undef:: .pointer (some ⟨w.heap.size+1,0,none⟩):: .slice (some ⟨Bk,0,none⟩) ks2.length ks2.length:: .pointer (some ⟨B8,0,none⟩):: .int .i64 (Wg:Int)::undef:: .pointer (some ⟨wr.heap.size,0,none⟩):: .pointer (some ⟨B12,0,none⟩)::y13:: .slice a.a a.n a.c:: .slice b.a b.n b.c:: .slice (some ⟨Bk,0,none⟩) ks2.length ks2.length:: .slice (some ⟨Bk,0,none⟩) ks2.length ks2.length:: .tuple #[]::y19::y20::y21:: .slice (some ⟨Bk,0,none⟩) ks2.length ks2.length:: .int .i64 (ks2.length:Int):: .int .i64 (k:Int):: .bool true:: .pointer (some ⟨Bk,k*2,none⟩):: .agg #[.int .i64 (wt:Int),.int .i64 (cp:Int)]::y28::y29::y30::y31::y32::y33::y34::u35::u36::u37::u38::u39::u40::u41::u42::u43::u44::u45::u46::u47::u48::u49::u50::u51::u52::undef::[]),defers:=[] }∧ah W (B8) 49 (.slice pl.a pl.n pl.c) (.slice ql.a ql.n ql.c)∧ah W (w.heap.size+1) 49 (.slice none 0 0) (.slice none 0 0)∧ah W (wr.heap.size) 201 (.int .i64 (wt:Int)) (.int .i64 (cp:Int))∧KB W Bk ks2∧RQ W pl ql (lf)∧ah W B12 49 (.slice pe.a pe.n pe.c) (.slice qe.a qe.n qe.c)∧RQ W pe qe (lf / (Wg:Rat))∧Below w.heap.size w W) Cx Cx Cx ⟨P8,PR,P18⟩ ?tree ?next
    case tree=>
     generalize (wr.alloc (.cells #[.int .i64 (wt:Int),.int .i64 (cp:Int)] 201)).drew=w19 at P8 PR P18 hkb hlf hB ⊢;refine Rd.tg (.agg #[.slice pl.a pl.n pl.c,.slice ql.a ql.n ql.c]) ?_ (y:=fun X hX=>A5);refine Rd.tf (.int .i64 (Wg:Int)) ?_;refine Rd.tr_two BC Cp BC Cp (fun K hK=>?_) (fun K hK=>?_)
     ·skip
      have H22:=Hd (i6 (Wg) A3 w19);go_simp;refine H22.mono ?_;rintro e w23 ⟨x20,y21,rfl,rx20,hb⟩;clear H22;replace P8:=P8.below hb;replace PR:=PR.below hb;replace P18:=P18.below hb;replace hkb:=hkb.below hb;replace hlf:=hlf.below hb;replace hB:=hB.tr hb;clear hb;refine hK _ _ ⟨P8,PR,P18⟩ ?_;clear hK K;refine Rd.tr_two BC Cp BC Cp (fun K hK=>?_) (fun K hK=>?_)
      ·skip
       have H26:=Hd (ze pl ql x20 y21 (lf) (((Wg:Nat):Rat)) w23 hlf rx20 HSE.out (by have:=HW0.out;have:=aR this;grind));go_simp;refine H26.mono ?_;rintro e w27 ⟨x24,y25,rfl,rx24,hb⟩;clear H26;replace P8:=P8.below hb;replace PR:=PR.below hb;replace P18:=P18.below hb;replace hkb:=hkb.below hb;replace hlf:=hlf.below hb;replace rx20:=rx20.below hb;replace hB:=hB.tr hb;clear hb;refine hK _ _ ⟨P8,PR,P18⟩ ?_;clear hK K;refine Rd.tf (.tuple #[.agg #[.slice x24.a x24.n x24.c,.slice y25.a y25.n y25.c],.int .i64 0]) ?_;refine Rd.tf (.agg #[.slice x24.a x24.n x24.c,.slice y25.a y25.n y25.c]) ?_;refine Rd.tf (.int .i64 0) ?_;refine Rd.tm fun K hK=>?_
       go_simp;have P28:=ah.new w27 49 (.slice none 0 0) (.slice none 0 0);have nP8P28:=P8.lt;have nPRP28:=PR.lt;have nP18P28:=P18.lt;have nhkbP28:=hkb.lt;have gP28:=hB.size;have hb:Below w27.heap.size w27 (w27.alloc (.cells #[.slice none 0 0,.slice none 0 0] 49)):=(Below.refl _ _).alloc lr _;replace P8:=P8.below hb;replace PR:=PR.below hb;replace P18:=P18.below hb;replace hkb:=hkb.below hb;replace hlf:=hlf.below hb;replace rx20:=rx20.below hb;replace rx24:=rx24.below hb;replace hB:=hB.tr hb;clear hb;generalize w27.alloc (.cells #[.slice none 0 0,.slice none 0 0] 49)=w30 at P8 PR P18 hkb hlf rx20 rx24 P28 hB ⊢;generalize w27.heap.size=B29 at nP8P28 nPRP28 nP18P28 nhkbP28 P28 gP28 ⊢;refine hK _ _ ⟨P8,PR,P18⟩ ?_;clear hK K;refine Rd.tm fun K hK=>?_
       have c0P28:=P28.c0;have c1P28:=P28.c1;have z0P28:=P28.z0;have z1P28:=P28.z1;go_simp;clear c0P28 c1P28 z0P28 z1P28;replace hkb:=hkb.pset P28 (.slice x24.a x24.n x24.c) (.slice y25.a y25.n y25.c);replace hlf:=hlf.pset P28 (.slice x24.a x24.n x24.c) (.slice y25.a y25.n y25.c);replace rx20:=rx20.pset P28 (.slice x24.a x24.n x24.c) (.slice y25.a y25.n y25.c);replace rx24:=rx24.pset P28 (.slice x24.a x24.n x24.c) (.slice y25.a y25.n y25.c);replace P8:=P8.other (B:=B29) A3 (.slice x24.a x24.n x24.c) (.slice y25.a y25.n y25.c);replace PR:=PR.other (B:=B29) A3 (.slice x24.a x24.n x24.c) (.slice y25.a y25.n y25.c);replace P18:=P18.other (B:=B29) A3 (.slice x24.a x24.n x24.c) (.slice y25.a y25.n y25.c);replace hB:=Below.pset (B:=B29) hB A3 (.slice x24.a x24.n x24.c) (.slice y25.a y25.n y25.c);replace P28:=P28.set (.slice x24.a x24.n x24.c) (.slice y25.a y25.n y25.c);generalize (w30.setCell ⟨B29,0,none⟩ (.slice x24.a x24.n x24.c)).setCell ⟨B29,1,none⟩ (.slice y25.a y25.n y25.c)=w31 at P8 PR P18 P28 hkb hlf rx20 rx24 hB ⊢;refine hK _ _ ⟨P8,PR,P18⟩ ?_;clear hK K;refine Rd.tf (.int .i64 0) ?_;exact Rd.tr_end (⟨x24,y25,B29,_,_,_,_,_,_,_,_,rfl,P8,PR,P18,hkb,hlf,P28,rx24,hB⟩)
      ·skip
       go_simp;have P32:=ah.new w23 49 (.slice none 0 0) (.slice none 0 0);have nP8P32:=P8.lt;have nPRP32:=PR.lt;have nP18P32:=P18.lt;have nhkbP32:=hkb.lt;have gP32:=hB.size;have hb:Below w23.heap.size w23 (w23.alloc (.cells #[.slice none 0 0,.slice none 0 0] 49)):=(Below.refl _ _).alloc lr _;replace P8:=P8.below hb;replace PR:=PR.below hb;replace P18:=P18.below hb;replace hkb:=hkb.below hb;replace hlf:=hlf.below hb;replace rx20:=rx20.below hb;replace hB:=hB.tr hb;clear hb;generalize w23.alloc (.cells #[.slice none 0 0,.slice none 0 0] 49)=w34 at P8 PR P18 hkb hlf rx20 P32 hB ⊢;generalize w23.heap.size=B33 at nP8P32 nPRP32 nP18P32 nhkbP32 P32 gP32 ⊢;refine hK _ _ ⟨P8,PR,P18⟩ ?_;clear hK K;refine Rd.tm fun K hK=>?_
       have H37:=Hd (ze pl ql x20 y21 (lf) (((Wg:Nat):Rat)) w34 hlf rx20 HSE.out (by have:=HW0.out;have:=aR this;grind));go_simp;refine H37.mono ?_;rintro e w38 ⟨x35,y36,rfl,rx35,hb⟩;clear H37;replace P8:=P8.below hb;replace PR:=PR.below hb;replace P18:=P18.below hb;replace P32:=P32.below hb;replace hkb:=hkb.below hb;replace hlf:=hlf.below hb;replace rx20:=rx20.below hb;replace hB:=hB.tr hb;clear hb;refine hK _ _ ⟨P8,PR,P18⟩ ?_;clear hK K;refine Rd.tf (.tuple #[.agg #[.slice x35.a x35.n x35.c,.slice y36.a y36.n y36.c],.int .i64 0]) ?_;refine Rd.tf (.agg #[.slice x35.a x35.n x35.c,.slice y36.a y36.n y36.c]) ?_;refine Rd.tf (.int .i64 0) ?_;refine Rd.tm fun K hK=>?_
       have c0P32:=P32.c0;have c1P32:=P32.c1;have z0P32:=P32.z0;have z1P32:=P32.z1;go_simp;clear c0P32 c1P32 z0P32 z1P32;replace hkb:=hkb.pset P32 (.slice x35.a x35.n x35.c) (.slice y36.a y36.n y36.c);replace hlf:=hlf.pset P32 (.slice x35.a x35.n x35.c) (.slice y36.a y36.n y36.c);replace rx20:=rx20.pset P32 (.slice x35.a x35.n x35.c) (.slice y36.a y36.n y36.c);replace rx35:=rx35.pset P32 (.slice x35.a x35.n x35.c) (.slice y36.a y36.n y36.c);replace P8:=P8.other (B:=B33) A3 (.slice x35.a x35.n x35.c) (.slice y36.a y36.n y36.c);replace PR:=PR.other (B:=B33) A3 (.slice x35.a x35.n x35.c) (.slice y36.a y36.n y36.c);replace P18:=P18.other (B:=B33) A3 (.slice x35.a x35.n x35.c) (.slice y36.a y36.n y36.c);replace hB:=Below.pset (B:=B33) hB A3 (.slice x35.a x35.n x35.c) (.slice y36.a y36.n y36.c);replace P32:=P32.set (.slice x35.a x35.n x35.c) (.slice y36.a y36.n y36.c);generalize (w38.setCell ⟨B33,0,none⟩ (.slice x35.a x35.n x35.c)).setCell ⟨B33,1,none⟩ (.slice y36.a y36.n y36.c)=w39 at P8 PR P18 P32 hkb hlf rx20 rx35 hB ⊢;refine hK _ _ ⟨P8,PR,P18⟩ ?_;clear hK K;refine Rd.tf (.int .i64 0) ?_;exact Rd.tr_end (⟨x35,y36,B33,_,_,_,_,_,_,_,_,rfl,P8,PR,P18,hkb,hlf,P32,rx35,hB⟩)
     ·skip
      go_simp;have P40:=ah.new w19 49 (.slice none 0 0) (.slice none 0 0);have nP8P40:=P8.lt;have nPRP40:=PR.lt;have nP18P40:=P18.lt;have nhkbP40:=hkb.lt;have gP40:=hB.size;have hb:Below w19.heap.size w19 (w19.alloc (.cells #[.slice none 0 0,.slice none 0 0] 49)):=(Below.refl _ _).alloc lr _;replace P8:=P8.below hb;replace PR:=PR.below hb;replace P18:=P18.below hb;replace hkb:=hkb.below hb;replace hlf:=hlf.below hb;replace hB:=hB.tr hb;clear hb;generalize w19.alloc (.cells #[.slice none 0 0,.slice none 0 0] 49)=w42 at P8 PR P18 hkb hlf P40 hB ⊢;generalize w19.heap.size=B41 at nP8P40 nPRP40 nP18P40 nhkbP40 P40 gP40 ⊢;refine hK _ _ ⟨P8,PR,P18⟩ ?_;clear hK K;refine Rd.tm fun K hK=>?_
      have H45:=Hd (i6 (Wg) A3 w42);go_simp;refine H45.mono ?_;rintro e w46 ⟨x43,y44,rfl,rx43,hb⟩;clear H45;replace P8:=P8.below hb;replace PR:=PR.below hb;replace P18:=P18.below hb;replace P40:=P40.below hb;replace hkb:=hkb.below hb;replace hlf:=hlf.below hb;replace hB:=hB.tr hb;clear hb;refine hK _ _ ⟨P8,PR,P18⟩ ?_;clear hK K;refine Rd.tm fun K hK=>?_
      have H49:=Hd (ze pl ql x43 y44 (lf) (((Wg:Nat):Rat)) w46 hlf rx43 HSE.out (by have:=HW0.out;have:=aR this;grind));go_simp;refine H49.mono ?_;rintro e w50 ⟨x47,y48,rfl,rx47,hb⟩;clear H49;replace P8:=P8.below hb;replace PR:=PR.below hb;replace P18:=P18.below hb;replace P40:=P40.below hb;replace hkb:=hkb.below hb;replace hlf:=hlf.below hb;replace rx43:=rx43.below hb;replace hB:=hB.tr hb;clear hb;refine hK _ _ ⟨P8,PR,P18⟩ ?_;clear hK K;refine Rd.tf (.tuple #[.agg #[.slice x47.a x47.n x47.c,.slice y48.a y48.n y48.c],.int .i64 0]) ?_;refine Rd.tf (.agg #[.slice x47.a x47.n x47.c,.slice y48.a y48.n y48.c]) ?_;refine Rd.tf (.int .i64 0) ?_;refine Rd.tm fun K hK=>?_
      have c0P40:=P40.c0;have c1P40:=P40.c1;have z0P40:=P40.z0;have z1P40:=P40.z1;go_simp;clear c0P40 c1P40 z0P40 z1P40;replace hkb:=hkb.pset P40 (.slice x47.a x47.n x47.c) (.slice y48.a y48.n y48.c);replace hlf:=hlf.pset P40 (.slice x47.a x47.n x47.c) (.slice y48.a y48.n y48.c);replace rx43:=rx43.pset P40 (.slice x47.a x47.n x47.c) (.slice y48.a y48.n y48.c);replace rx47:=rx47.pset P40 (.slice x47.a x47.n x47.c) (.slice y48.a y48.n y48.c);replace P8:=P8.other (B:=B41) A3 (.slice x47.a x47.n x47.c) (.slice y48.a y48.n y48.c);replace PR:=PR.other (B:=B41) A3 (.slice x47.a x47.n x47.c) (.slice y48.a y48.n y48.c);replace P18:=P18.other (B:=B41) A3 (.slice x47.a x47.n x47.c) (.slice y48.a y48.n y48.c);replace hB:=Below.pset (B:=B41) hB A3 (.slice x47.a x47.n x47.c) (.slice y48.a y48.n y48.c);replace P40:=P40.set (.slice x47.a x47.n x47.c) (.slice y48.a y48.n y48.c);generalize (w50.setCell ⟨B41,0,none⟩ (.slice x47.a x47.n x47.c)).setCell ⟨B41,1,none⟩ (.slice y48.a y48.n y48.c)=w51 at P8 PR P18 P40 hkb hlf rx43 rx47 hB ⊢;refine hK _ _ ⟨P8,PR,P18⟩ ?_;clear hK K;refine Rd.tf (.int .i64 0) ?_;exact Rd.tr_end (⟨x47,y48,B41,_,_,_,_,_,_,_,_,rfl,P8,PR,P18,hkb,hlf,P40,rx47,hB⟩)
    case next=>
     rintro a53 W52 ⟨pe,qe,B12,y13,y28,y29,y30,y31,y32,y33,y34,rfl,P8,PR,P18,hkb,hlf,P12,hE,hB⟩;by_cases HO9:(cp:Rat)<lf / (Wg:Rat)*(wt:Rat)
     ·skip
      have HO:=Hd HO9;clear HO9;have c0P8:=P8.c0;have c1P8:=P8.c1;have c0PR:=PR.c0;have c1PR:=PR.c1;have c0P18:=P18.c0;have c1P18:=P18.c1;have c0P12:=P12.c0;have c1P12:=P12.c1;have H54:=Hd (fk wt cp pe qe (lf / (Wg:Rat)) W52 hE hwt hcp HSP);rw[decide_eq_true (HO.out)] at H54
      go_wp2_with fail
      clear c0P8 c1P8 c0PR c1PR c0P18 c1P18 c0P12 c1P12;refine H54.mono ?_;rintro e w55 ⟨rfl,hb⟩;clear H54;replace P8:=P8.below hb;replace PR:=PR.below hb;replace P18:=P18.below hb;replace P12:=P12.below hb;replace hkb:=hkb.below hb;replace hlf:=hlf.below hb;replace hE:=hE.below hb;replace hB:=hB.tr hb;clear hb;have HCL:Hid ((cp:Rat)≤lf):=Hd (Rat.le_trans (Rat.le_of_lt HO.out) (oR HL0.out HW0.out hwW));have HF2:Hid (gS D (lf - (cp:Rat))∧lf - (cp:Rat)≤x):=Hd ⟨⟨HFL.1.1,HFL.1.2.1,gn HFL.1.2.2 (dD D cp) HCL.out⟩,Rat.le_trans (by have:(0:Rat)≤(cp:Rat):=Rat.natCast_nonneg;grind) HFL.2⟩;have HSS:Hid (Sz (lf - (cp:Rat))):=Hd (Sz.fine HF2.1 (by have:=HCL.out;grind) (Rat.le_trans HF2.2 HX2.out));clear P12 hE;have c0P8:=P8.c0;have c1P8:=P8.c1;have c0PR:=PR.c0;have c1PR:=PR.c1;have c0P18:=P18.c0;have c1P18:=P18.c1
      go_wp2_with fail
      clear c0P8 c1P8 c0PR c1PR c0P18 c1P18;have hb:Below w55.heap.size w55 w55.drew:=(Below.refl _ _).drew;replace P8:=P8.below hb;replace PR:=PR.below hb;replace P18:=P18.below hb;replace hkb:=hkb.below hb;replace hlf:=hlf.below hb;replace hB:=hB.tr hb;clear hb;refine Rd.regionT (fun X=>ah X (w.heap.size+1) 49 (.slice none 0 0) (.slice none 0 0)∧ah X (wr.heap.size) 201 (.int .i64 (wt:Int)) (.int .i64 (cp:Int))) [1,2,5,6,7] (.one 1 (.one 2 (.two 0 (.one 3 (.one 4 (.one 5 (.one 6 (.one 7 (.one 8 .done)))))) 3 (.one 0 (.one 4 (.one 5 (.one 6 (.one 7 (.one 8 .done))))))))) (fun ac W=>∃(pn:Sl) (qn:Sl) (y40 y41 y42 y43 y44 y45 y46 y47:Value),ac={ tmps:=List.toArray (.agg #[.slice p.a p.n p.c,.slice q.a q.n q.c]:: .slice a.a a.n a.c:: .slice b.a b.n b.c:: .pointer (some ⟨w.heap.size,0,none⟩)::undef::undef:: .pointer (some ⟨w.heap.size+1,0,none⟩):: .slice (some ⟨Bk,0,none⟩) ks2.length ks2.length:: .pointer (some ⟨B8,0,none⟩):: .int .i64 (Wg:Int)::undef:: .pointer (some ⟨wr.heap.size,0,none⟩):: .pointer (some ⟨B12,0,none⟩)::y13:: .slice a.a a.n a.c:: .slice b.a b.n b.c:: .slice (some ⟨Bk,0,none⟩) ks2.length ks2.length:: .slice (some ⟨Bk,0,none⟩) ks2.length ks2.length:: .tuple #[]::y19::y20::y21:: .slice (some ⟨Bk,0,none⟩) ks2.length ks2.length:: .int .i64 (ks2.length:Int):: .int .i64 (k:Int):: .bool true:: .pointer (some ⟨Bk,k*2,none⟩):: .agg #[.int .i64 (wt:Int),.int .i64 (cp:Int)]::y28::y29::y30::y31::y32::y33::y34:: .agg #[.int .i64 (wt:Int),.int .i64 (cp:Int)]:: .agg #[.slice pe.a pe.n pe.c,.slice qe.a qe.n qe.c]:: .bool true:: .bool false::u39::y40::y41::y42::y43::y44::y45::y46::y47::u48::u49::u50::u51::u52::undef::[]),defers:=[] }∧ah W (w.heap.size+1) 49 (.slice none 0 0) (.slice none 0 0)∧ah W (wr.heap.size) 201 (.int .i64 (wt:Int)) (.int .i64 (cp:Int))∧KB W Bk ks2∧ah W B8 49 (.slice pn.a pn.n pn.c) (.slice qn.a qn.n qn.c)∧RQ W pn qn (lf - (cp:Rat))∧Below w.heap.size w W) Cx Cx Cx ⟨PR,P18⟩ ?tree ?next
      case tree=>
       generalize w55.drew=w56 at P8 PR P18 hkb hlf hB ⊢;refine Rd.tf (.pointer (some ⟨wr.heap.size,1,none⟩)) ?_;refine Rd.tg (.int .i64 (cp:Int)) ?_ (y:=fun X hX=>B5);refine Rd.tr_two (by simp only[gA,gC];rfl) Cp BC Cp (fun K hK=>?_) (fun K hK=>?_)
       ·skip
        have c0P8:=P8.c0;have c1P8:=P8.c1;go_simp;clear c0P8 c1P8;refine hK _ _ ⟨PR,P18⟩ ?_;clear hK K;refine Rd.tm fun K hK=>?_
        have H59:=Hd (i6 (cp) A3 w56);go_simp;refine H59.mono ?_;rintro e w60 ⟨x57,y58,rfl,rx57,hb⟩;clear H59;replace P8:=P8.below hb;replace PR:=PR.below hb;replace P18:=P18.below hb;replace hkb:=hkb.below hb;replace hlf:=hlf.below hb;replace hB:=hB.tr hb;clear hb;refine hK _ _ ⟨PR,P18⟩ ?_;clear hK K;refine Rd.tm fun K hK=>?_
        have H63:=Hd (zA pl ql x57 y58 (lf) (((cp:Nat):Rat)) w60 hlf rx57 HSS.out HCL.out);go_simp;refine H63.mono ?_;rintro e w64 ⟨x61,y62,rfl,rx61,hb⟩;clear H63;replace P8:=P8.below hb;replace PR:=PR.below hb;replace P18:=P18.below hb;replace hkb:=hkb.below hb;replace hlf:=hlf.below hb;replace rx57:=rx57.below hb;replace hB:=hB.tr hb;clear hb;refine hK _ _ ⟨PR,P18⟩ ?_;clear hK K;refine Rd.tf (.tuple #[.agg #[.slice x61.a x61.n x61.c,.slice y62.a y62.n y62.c],.int .i64 0]) ?_;refine Rd.tf (.agg #[.slice x61.a x61.n x61.c,.slice y62.a y62.n y62.c]) ?_;refine Rd.tf (.int .i64 0) ?_;refine Rd.tm fun K hK=>?_
        have c0P8:=P8.c0;have c1P8:=P8.c1;have z0P8:=P8.z0;have z1P8:=P8.z1;go_simp;clear c0P8 c1P8 z0P8 z1P8;replace hkb:=hkb.pset P8 (.slice x61.a x61.n x61.c) (.slice y62.a y62.n y62.c);replace hlf:=hlf.pset P8 (.slice x61.a x61.n x61.c) (.slice y62.a y62.n y62.c);replace rx57:=rx57.pset P8 (.slice x61.a x61.n x61.c) (.slice y62.a y62.n y62.c);replace rx61:=rx61.pset P8 (.slice x61.a x61.n x61.c) (.slice y62.a y62.n y62.c);replace PR:=PR.other (B:=B8) A3 (.slice x61.a x61.n x61.c) (.slice y62.a y62.n y62.c);replace P18:=P18.other (B:=B8) A3 (.slice x61.a x61.n x61.c) (.slice y62.a y62.n y62.c);replace hB:=Below.pset (B:=B8) hB A3 (.slice x61.a x61.n x61.c) (.slice y62.a y62.n y62.c);replace P8:=P8.set (.slice x61.a x61.n x61.c) (.slice y62.a y62.n y62.c);generalize (w64.setCell ⟨B8,0,none⟩ (.slice x61.a x61.n x61.c)).setCell ⟨B8,1,none⟩ (.slice y62.a y62.n y62.c)=w65 at P8 PR P18 hkb hlf rx57 rx61 hB ⊢;refine hK _ _ ⟨PR,P18⟩ ?_;clear hK K;exact Rd.tr_end (⟨x61,y62,_,_,_,_,_,_,_,_,rfl,PR,P18,hkb,P8,rx61,hB⟩)
       ·skip
        have H68:=Hd (i6 (cp) A3 w56);go_simp;refine H68.mono ?_;rintro e w69 ⟨x66,y67,rfl,rx66,hb⟩;clear H68;replace P8:=P8.below hb;replace PR:=PR.below hb;replace P18:=P18.below hb;replace hkb:=hkb.below hb;replace hlf:=hlf.below hb;replace hB:=hB.tr hb;clear hb;refine hK _ _ ⟨PR,P18⟩ ?_;clear hK K;refine Rd.tm fun K hK=>?_
        have c0P8:=P8.c0;have c1P8:=P8.c1;go_simp;clear c0P8 c1P8;refine hK _ _ ⟨PR,P18⟩ ?_;clear hK K;refine Rd.tm fun K hK=>?_
        have H72:=Hd (zA pl ql x66 y67 (lf) (((cp:Nat):Rat)) w69 hlf rx66 HSS.out HCL.out);go_simp;refine H72.mono ?_;rintro e w73 ⟨x70,y71,rfl,rx70,hb⟩;clear H72;replace P8:=P8.below hb;replace PR:=PR.below hb;replace P18:=P18.below hb;replace hkb:=hkb.below hb;replace hlf:=hlf.below hb;replace rx66:=rx66.below hb;replace hB:=hB.tr hb;clear hb;refine hK _ _ ⟨PR,P18⟩ ?_;clear hK K;refine Rd.tf (.tuple #[.agg #[.slice x70.a x70.n x70.c,.slice y71.a y71.n y71.c],.int .i64 0]) ?_;refine Rd.tf (.agg #[.slice x70.a x70.n x70.c,.slice y71.a y71.n y71.c]) ?_;refine Rd.tf (.int .i64 0) ?_;refine Rd.tm fun K hK=>?_
        have c0P8:=P8.c0;have c1P8:=P8.c1;have z0P8:=P8.z0;have z1P8:=P8.z1;go_simp;clear c0P8 c1P8 z0P8 z1P8;replace hkb:=hkb.pset P8 (.slice x70.a x70.n x70.c) (.slice y71.a y71.n y71.c);replace hlf:=hlf.pset P8 (.slice x70.a x70.n x70.c) (.slice y71.a y71.n y71.c);replace rx66:=rx66.pset P8 (.slice x70.a x70.n x70.c) (.slice y71.a y71.n y71.c);replace rx70:=rx70.pset P8 (.slice x70.a x70.n x70.c) (.slice y71.a y71.n y71.c);replace PR:=PR.other (B:=B8) A3 (.slice x70.a x70.n x70.c) (.slice y71.a y71.n y71.c);replace P18:=P18.other (B:=B8) A3 (.slice x70.a x70.n x70.c) (.slice y71.a y71.n y71.c);replace hB:=Below.pset (B:=B8) hB A3 (.slice x70.a x70.n x70.c) (.slice y71.a y71.n y71.c);replace P8:=P8.set (.slice x70.a x70.n x70.c) (.slice y71.a y71.n y71.c);generalize (w73.setCell ⟨B8,0,none⟩ (.slice x70.a x70.n x70.c)).setCell ⟨B8,1,none⟩ (.slice y71.a y71.n y71.c)=w74 at P8 PR P18 hkb hlf rx66 rx70 hB ⊢;refine hK _ _ ⟨PR,P18⟩ ?_;clear hK K;exact Rd.tr_end (⟨x70,y71,_,_,_,_,_,_,_,_,rfl,PR,P18,hkb,P8,rx70,hB⟩)
      case next=>
       rintro a76 W75 ⟨pn,qn,y40,y41,y42,y43,y44,y45,y46,y47,rfl,PR,P18,hkb,P8,hN,hB⟩;have d0:=P18.c0
       go_wp2_with fail
       go_round
       case rel=>
        refine⟨k+1,Wg - wt,lf - (cp:Rat),pn,qn,A3,Cw,Cw,Hd (by have:=HWE.out;omega),A3,HF2,Hd ?_,Hd P8,Hd PR,Hd hkb,Hd hN,Hd hB⟩;rw[HLE.out,lev,if_pos HO.out]
       case measure=>simp[intOf];omega
     ·skip
      have HO:=Hd HO9;clear HO9;have c0P8:=P8.c0;have c1P8:=P8.c1;have c0PR:=PR.c0;have c1PR:=PR.c1;have c0P18:=P18.c0;have c1P18:=P18.c1;have c0P12:=P12.c0;have c1P12:=P12.c1;have H77:=Hd (fk wt cp pe qe (lf / (Wg:Rat)) W52 hE hwt hcp HSP);rw[decide_eq_false (HO.out)] at H77
      go_wp2_with fail
      clear c0P8 c1P8 c0PR c1PR c0P18 c1P18 c0P12 c1P12;refine H77.mono ?_;rintro e w78 ⟨rfl,hb⟩;clear H77;replace P8:=P8.below hb;replace PR:=PR.below hb;replace P18:=P18.below hb;replace P12:=P12.below hb;replace hkb:=hkb.below hb;replace hlf:=hlf.below hb;replace hE:=hE.below hb;replace hB:=hB.tr hb;clear hb;have HR:Hid (aN x ks=lf / (Wg:Rat)):=Hd (by rw[←HLV.out,HLE.out,lev,if_neg HO.out]);have c0P8:=P8.c0;have c1P8:=P8.c1;have c0PR:=PR.c0;have c1PR:=PR.c1;have c0P18:=P18.c0;have c1P18:=P18.c1;have c0P12:=P12.c0;have c1P12:=P12.c1;have z0PR:=PR.z0;have z1PR:=PR.z1
      go_wp2_with fail
      replace hE:=hE.pset PR (.slice pe.a pe.n pe.c) (.slice qe.a qe.n qe.c);replace hB:=Below.pset (B:=w.heap.size+1) hB A3 (.slice pe.a pe.n pe.c) (.slice qe.a qe.n qe.c);have PX:=PR.set (.slice pe.a pe.n pe.c) (.slice qe.a qe.n qe.c);generalize (w78.setCell ⟨w.heap.size+1,0,none⟩ (.slice pe.a pe.n pe.c)).setCell ⟨w.heap.size+1,1,none⟩ (.slice qe.a qe.n qe.c)=WW at hE PX hB ⊢;rw[HR.out];refine bodyPost_ret (v:=.agg #[.slice pe.a pe.n pe.c,.slice qe.a qe.n qe.c]) ?_ rfl ⟨pe,qe,rfl,hE,hB⟩;simp[results,Tryz.f153,go_sem,PX.c0,PX.c1]
   ·skip
    have HR:Hid (aN x ks=0):=Hd (by rw[←HLV.out,HLEV.out,List.drop_of_length_le A3,lev]);have hsz:=hB.size;have hsr:=PR.lt;have c0P8:=P8.c0;have c1P8:=P8.c1;have c0PR:=PR.c0;have c1PR:=PR.c1;have H81:=Hd (i6 (0) A3 wr)
    go_wp2_with fail
    clear c0P8 c1P8 c0PR c1PR;refine H81.mono ?_;rintro e w82 ⟨x79,y80,rfl,rx79,hb⟩;clear H81;replace P8:=P8.below hb;replace PR:=PR.below hb;replace hkb:=hkb.below hb;replace hlf:=hlf.below hb;replace hB:=hB.tr hb;clear hb;have c0P8:=P8.c0;have c1P8:=P8.c1;have c0PR:=PR.c0;have c1PR:=PR.c1;have z0PR:=PR.z0;have z1PR:=PR.z1
    go_wp2_with fail
    replace rx79:=rx79.pset PR (.slice x79.a x79.n x79.c) (.slice y80.a y80.n y80.c);replace hB:=Below.pset (B:=w.heap.size+1) hB A3 (.slice x79.a x79.n x79.c) (.slice y80.a y80.n y80.c);have PX:=PR.set (.slice x79.a x79.n x79.c) (.slice y80.a y80.n y80.c);generalize (w82.setCell ⟨w.heap.size+1,0,none⟩ (.slice x79.a x79.n x79.c)).setCell ⟨w.heap.size+1,1,none⟩ (.slice y80.a y80.n y80.c)=WW at rx79 PX hB ⊢;rw[HR.out];refine bodyPost_ret (v:=.agg #[.slice x79.a x79.n x79.c,.slice y80.a y80.n y80.c]) ?_ rfl ⟨x79,y80,rfl,rx79,hB⟩;simp[results,Tryz.f153,go_sem,PX.c0,PX.c1]
theorem tE (p q a b:Sl) (x:Rat) (ws cs:List Int) (w:World) (_hx:RQ w p q x) (ha:RI w a ws) (hc:RI w b cs) (_hlw:ws.length≤200) (hne:ws.length≠cs.length):
  Calls Tryz.prog 152 #[.agg #[.slice p.a p.n p.c,.slice q.a q.n q.c],.slice a.a a.n a.c,.slice b.a b.n b.c] w fun e w'=>e= .returned (.int .i64 17)∧Below w.heap.size w w':=by
 have ea:=ha.len;have ec:=hc.len;have hne2:((a.n:Int)==(b.n:Int))=false:=by rw[ea,ec];simp;omega
 have hne3: ¬a.n=b.n:=A3
 clear ha hc;go_enter Tryz.func152,Tryz.ntmps152
 go_wp2_with fail
 go_ret;exact⟨rfl,(Below.refl _ _).alloc lr _⟩
theorem qL (p q a b:Sl) (x:Rat) (ws cs:List Int) (w:World) (hx:RQ w p q x) (ha:RI w a ws) (hc:RI w b cs) (hlw:ws.length≤200) (he:cs.length=ws.length) (hf:32<ws.length):
  Calls Tryz.prog 152 #[.agg #[.slice p.a p.n p.c,.slice q.a q.n q.c],.slice a.a a.n a.c,.slice b.a b.n b.c] w fun e w'=>e= .returned (.int .i64 6)∧Below w.heap.size w w':=by
 have ea:=ha.len;have ec:=hc.len;have en:b.n=a.n:=A3
 rw[en];have h32:(32:Int)<(a.n:Int):=A3
 clear ea ec en;go_enter Tryz.func152,Tryz.ntmps152;have hb:Below w.heap.size w (w.alloc (.cells #[.slice p.a p.n p.c,.slice q.a q.n q.c] 49)):=((Below.refl _ _).alloc lr _)
 replace hx:=hx.below hb;replace ha:=ha.below hb;replace hc:=hc.below hb;have hB:=hb;have P1:ah (w.alloc (.cells #[.slice p.a p.n p.c,.slice q.a q.n q.c] 49)) (w.heap.size) 49 (.slice p.a p.n p.c) (.slice q.a q.n q.c):=by
  have h:=ah.new w 49 (.slice p.a p.n p.c) (.slice q.a q.n q.c);exact zQ
 clear hb;have c0P1:=P1.c0;have c1P1:=P1.c1;have H1:=Hd (nU p q x (w.alloc (.cells #[.slice p.a p.n p.c,.slice q.a q.n q.c] 49)) hx)
 go_wp2_with fail
 clear c0P1 c1P1;refine H1.mono ?_;rintro e w1 ⟨rfl,hb⟩;clear H1;replace P1:=P1.below hb;replace hx:=hx.below hb;replace ha:=ha.below hb;replace hc:=hc.below hb;replace hB:=hB.tr hb;clear hb
 go_wp2_with fail
 go_ret;exact⟨rfl,hB⟩
theorem m3 (p q a b:Sl) (x:Rat) (ws cs:List Int) (w:World) (hx:RQ w p q x) (ha:RI w a ws) (hc:RI w b cs) (hlw:ws.length≤200) (he:cs.length=ws.length) (hf:ws.length≤32) (hw:ws.any noW=true):
  Calls Tryz.prog 152 #[.agg #[.slice p.a p.n p.c,.slice q.a q.n q.c],.slice a.a a.n a.c,.slice b.a b.n b.c] w fun e w'=>e= .returned (.int .i64 13)∧Below w.heap.size w w':=by
 have ea:=ha.len;have ec:=hc.len;have en:b.n=a.n:=A3
 have h32: ¬(32:Int)<(a.n:Int):=A3
 go_enter Tryz.func152,Tryz.ntmps152;have hb:Below w.heap.size w (w.alloc (.cells #[.slice p.a p.n p.c,.slice q.a q.n q.c] 49)):=((Below.refl _ _).alloc lr _)
 replace hx:=hx.below hb;replace ha:=ha.below hb;replace hc:=hc.below hb;have hB:=hb;have P1:ah (w.alloc (.cells #[.slice p.a p.n p.c,.slice q.a q.n q.c] 49)) (w.heap.size) 49 (.slice p.a p.n p.c) (.slice q.a q.n q.c):=by
  have h:=ah.new w 49 (.slice p.a p.n p.c) (.slice q.a q.n q.c);exact zQ
 clear hb;have c0P1:=P1.c0;have c1P1:=P1.c1;have hnn:((a.n:Int)==(b.n:Int))=true:=by rw[en];simp
 have hnm:(b.n:Int)=(a.n:Int):=by rw[en]
 clear ea ec en;have H1:=Hd (nU p q x (w.alloc (.cells #[.slice p.a p.n p.c,.slice q.a q.n q.c] 49)) hx)
 go_wp2_with fail
 clear c0P1 c1P1;refine H1.mono ?_;rintro e w1 ⟨rfl,hb⟩;clear H1;replace P1:=P1.below hb;replace hx:=hx.below hb;replace ha:=ha.below hb;replace hc:=hc.below hb;replace hB:=hB.tr hb;clear hb;have H2:=Hd (cH a ws w1 ha A3 173 noW (enters_of Tryz.func173 Cx rfl) dS);rw[hw] at H2
 go_wp2_with fail
 refine H2.mono ?_;rintro e w2 ⟨rfl,rfl⟩;clear H2
 go_wp2_with fail
 go_ret;exact⟨rfl,hB⟩
theorem sO (p q a b:Sl) (x:Rat) (ws cs:List Int) (w:World) (hx:RQ w p q x) (ha:RI w a ws) (hc:RI w b cs) (hlw:ws.length≤200) (he:cs.length=ws.length) (hf:ws.length≤32) (hw:ws.any noW=false) (hcp:cs.any noC=true):
  Calls Tryz.prog 152 #[.agg #[.slice p.a p.n p.c,.slice q.a q.n q.c],.slice a.a a.n a.c,.slice b.a b.n b.c] w fun e w'=>e= .returned (.int .i64 14)∧Below w.heap.size w w':=by
 have ea:=ha.len;have ec:=hc.len;have en:b.n=a.n:=A3
 have h32: ¬(32:Int)<(a.n:Int):=A3
 go_enter Tryz.func152,Tryz.ntmps152;have hb:Below w.heap.size w (w.alloc (.cells #[.slice p.a p.n p.c,.slice q.a q.n q.c] 49)):=((Below.refl _ _).alloc lr _)
 replace hx:=hx.below hb;replace ha:=ha.below hb;replace hc:=hc.below hb;have hB:=hb;have P1:ah (w.alloc (.cells #[.slice p.a p.n p.c,.slice q.a q.n q.c] 49)) (w.heap.size) 49 (.slice p.a p.n p.c) (.slice q.a q.n q.c):=by
  have h:=ah.new w 49 (.slice p.a p.n p.c) (.slice q.a q.n q.c);exact zQ
 clear hb;have c0P1:=P1.c0;have c1P1:=P1.c1;have hnn:((a.n:Int)==(b.n:Int))=true:=by rw[en];simp
 have hnm:(b.n:Int)=(a.n:Int):=by rw[en]
 clear ea ec en;have H1:=Hd (nU p q x (w.alloc (.cells #[.slice p.a p.n p.c,.slice q.a q.n q.c] 49)) hx)
 go_wp2_with fail
 clear c0P1 c1P1;refine H1.mono ?_;rintro e w1 ⟨rfl,hb⟩;clear H1;replace P1:=P1.below hb;replace hx:=hx.below hb;replace ha:=ha.below hb;replace hc:=hc.below hb;replace hB:=hB.tr hb;clear hb;have H2:=Hd (cH a ws w1 ha A3 173 noW (enters_of Tryz.func173 Cx rfl) dS);rw[hw] at H2
 go_wp2_with fail
 refine H2.mono ?_;rintro e w2 ⟨rfl,rfl⟩;clear H2;have c0P1:=P1.c0;have c1P1:=P1.c1
 go_wp2_with fail
 clear c0P1 c1P1;have hb:Below w1.heap.size w1 w1.drew:=(Below.refl _ _).drew;replace P1:=P1.below hb;replace hx:=hx.below hb;replace ha:=ha.below hb;replace hc:=hc.below hb;replace hB:=hB.tr hb;clear hb;refine Rd.regionT (fun X=>ah X (w.heap.size) 49 (.slice p.a p.n p.c) (.slice q.a q.n q.c)) [0,2,3,4,8,9,10] (.one 0 (.one 1 (.one 2 (.one 3 (.one 4 (.one 5 (.one 6 (.one 7 (.one 8 (.one 9 (.one 10 .done))))))))))) (fun ac W=>∃(y7 y8 y9 y10 y11 y12 y13 y14 y15 y16 y17 y18 y19 y20 y21 y22 y23 y24 y26 y27 y28 y29 y30 y31 y32 y33 y34 y35:Value),ac={ tmps:=List.toArray (.agg #[.slice p.a p.n p.c,.slice q.a q.n q.c]:: .slice a.a a.n a.c:: .slice b.a b.n b.c:: .pointer (some ⟨w.heap.size,0,none⟩)::undef::undef:: .int .i64 0::y7::y8::y9::y10::y11::y12::y13::y14::y15::y16::y17::y18::y19::y20::y21::y22::y23::y24:: .bool true::y26::y27::y28::y29::y30::y31::y32::y33::y34::y35::[]),defers:=[] }∧Below w.heap.size w W) Cx Cx Cx P1 ?tree ?next
 case tree=>
  generalize w1.drew=w2 at P1 hx ha hc hB ⊢;refine Rd.tf (.slice b.a b.n b.c) ?_;refine Rd.tm fun K hK=>?_
  have H3:=Hd (cH b cs w2 hc A3 174 noC (enters_of Tryz.func174 Cx rfl) i8);rw[hcp] at H3;go_simp;refine H3.mono ?_;rintro e w4 ⟨rfl,rfl⟩;clear H3;refine hK _ _ P1 ?_;clear hK K;refine Rd.tf (.bool true) ?_;refine Rd.tr_skip BC rfl Cp ?_;simp only[Act.put,sA,sB,sC];refine Rd.tr_skip BC rfl Cp ?_;simp only[Act.put,sA,sB,sC];refine Rd.tr_mskip BC rfl Cp P1 ?_;simp only[Act.put,sA,sB,sC];refine Rd.tr_mskip BC rfl Cp P1 ?_;simp only[Act.put,sA,sB,sC];refine Rd.tr_mskip BC rfl Cp P1 ?_;simp only[Act.put,sA,sB,sC];refine Rd.tr_skip BC rfl Cp ?_;simp only[Act.put,sA,sB,sC];refine Rd.tf (.bool true) ?_;refine Rd.tf (.bool true) ?_;exact Rd.tr_end (⟨_,_,_,_,_,_,_,_,_,_,_,_,_,_,_,_,_,_,_,_,_,_,_,_,_,_,_,_,rfl,hB⟩)
 case next=>
  rintro a6 W5 ⟨y7,y8,y9,y10,y11,y12,y13,y14,y15,y16,y17,y18,y19,y20,y21,y22,y23,y24,y26,y27,y28,y29,y30,y31,y32,y33,y34,y35,rfl,hB⟩
  go_wp2_with fail
  go_ret;exact⟨rfl,hB⟩
theorem Ac {p:Prop} (h:p:=by have H11:=Hd (yG p q x7 y8 (x) (((sm:Nat):Rat)) w10 hx rx7);go_simp;refine H11.mono ?_;rintro e w12 ⟨rfl,hb⟩;clear H11;replace P1:=P1.below hb;replace hx:=hx.below hb;replace ha:=ha.below hb;replace hc:=hc.below hb;replace rx7:=rx7.below hb;replace hB:=hB.tr hb;clear hb;refine hK _ _ P1 ?_;clear hK K;refine Rd.tf (.bool (decide (0<(ev (x) (((sm:Nat):Rat)))))) ?_;refine Rd.tf (.bool (decide (0<(ev (x) (((sm:Nat):Rat)))))) ?_;refine Rd.tf (.bool (decide (0<(ev (x) (((sm:Nat):Rat)))))) ?_;exact Rd.tr_end (⟨_,_,_,_,_,_,_,_,_,_,_,_,_,_,_,_,_,_,_,_,_,_,_,_,_,_,_,_,_,rfl,(by simp only[eE]),hB⟩)):p:=h
theorem p8 (p q a b:Sl) (x:Rat) (ws cs:List Int) (w:World) (hx:RQ w p q x) (ha:RI w a ws) (hc:RI w b cs) (hlw:ws.length≤200) (he:cs.length=ws.length) (hf:ws.length≤32) (hw:ws.any noW=false) (hcp:cs.any noC=false) (sm:Nat) (hsm:sm≤1000000) (HSM:Hid (cs.sum=(sm:Int))) (HCS:Hid (∀z∈cs,0≤z∧z≤10000)) (HO:Hid ((sm:Rat)<x)):
  Calls Tryz.prog 152 #[.agg #[.slice p.a p.n p.c,.slice q.a q.n q.c],.slice a.a a.n a.c,.slice b.a b.n b.c] w fun e w'=>e= .returned (.int .i64 14)∧Below w.heap.size w w':=by
 have ea:=ha.len;have ec:=hc.len;have en:b.n=a.n:=A3
 have h32: ¬(32:Int)<(a.n:Int):=A3
 go_enter Tryz.func152,Tryz.ntmps152;have hb:Below w.heap.size w (w.alloc (.cells #[.slice p.a p.n p.c,.slice q.a q.n q.c] 49)):=((Below.refl _ _).alloc lr _)
 replace hx:=hx.below hb;replace ha:=ha.below hb;replace hc:=hc.below hb;have hB:=hb;have P1:ah (w.alloc (.cells #[.slice p.a p.n p.c,.slice q.a q.n q.c] 49)) (w.heap.size) 49 (.slice p.a p.n p.c) (.slice q.a q.n q.c):=by
  have h:=ah.new w 49 (.slice p.a p.n p.c) (.slice q.a q.n q.c);exact zQ
 clear hb;have c0P1:=P1.c0;have c1P1:=P1.c1;have hnn:((a.n:Int)==(b.n:Int))=true:=by rw[en];simp
 have hnm:(b.n:Int)=(a.n:Int):=by rw[en]
 clear ea ec en;have H1:=Hd (nU p q x (w.alloc (.cells #[.slice p.a p.n p.c,.slice q.a q.n q.c] 49)) hx)
 go_wp2_with fail
 clear c0P1 c1P1;refine H1.mono ?_;rintro e w1 ⟨rfl,hb⟩;clear H1;replace P1:=P1.below hb;replace hx:=hx.below hb;replace ha:=ha.below hb;replace hc:=hc.below hb;replace hB:=hB.tr hb;clear hb;have H2:=Hd (cH a ws w1 ha A3 173 noW (enters_of Tryz.func173 Cx rfl) dS);rw[hw] at H2
 go_wp2_with fail
 refine H2.mono ?_;rintro e w2 ⟨rfl,rfl⟩;clear H2;have c0P1:=P1.c0;have c1P1:=P1.c1
 go_wp2_with fail
 clear c0P1 c1P1;have hb:Below w1.heap.size w1 w1.drew:=(Below.refl _ _).drew;replace P1:=P1.below hb;replace hx:=hx.below hb;replace ha:=ha.below hb;replace hc:=hc.below hb;replace hB:=hB.tr hb;clear hb;refine Rd.regionT (fun X=>ah X (w.heap.size) 49 (.slice p.a p.n p.c) (.slice q.a q.n q.c)) [0,2,3,4,8,9,10] (.one 0 (.one 1 (.one 2 (.one 3 (.one 4 (.one 5 (.one 6 (.one 7 (.one 8 (.one 9 (.one 10 .done))))))))))) (fun ac W=>∃(T:Bool) (y7 y8 y9 y10 y11 y12 y13 y14 y15 y16 y17 y18 y19 y20 y21 y22 y23 y24 y26 y27 y28 y29 y30 y31 y32 y33 y34 y35:Value),ac={ tmps:=List.toArray (.agg #[.slice p.a p.n p.c,.slice q.a q.n q.c]:: .slice a.a a.n a.c:: .slice b.a b.n b.c:: .pointer (some ⟨w.heap.size,0,none⟩)::undef::undef:: .int .i64 0::y7::y8::y9::y10::y11::y12::y13::y14::y15::y16::y17::y18::y19::y20::y21::y22::y23::y24:: .bool T::y26::y27::y28::y29::y30::y31::y32::y33::y34::y35::[]),defers:=[] }∧T=decide ((sm:Rat)<x)∧Below w.heap.size w W) Cx Cx Cx P1 ?tree ?next
 case tree=>
  generalize w1.drew=w2 at P1 hx ha hc hB ⊢;refine Rd.tf (.slice b.a b.n b.c) ?_;refine Rd.tm fun K hK=>?_
  have H3:=Hd (cH b cs w2 hc A3 174 noC (enters_of Tryz.func174 Cx rfl) i8);rw[hcp] at H3;go_simp;refine H3.mono ?_;rintro e w4 ⟨rfl,rfl⟩;clear H3;refine hK _ _ P1 ?_;clear hK K;refine Rd.tf (.bool false) ?_;refine Rd.tg (.agg #[.slice p.a p.n p.c,.slice q.a q.n q.c]) ?_ (y:=fun X hX=>BO);refine Rd.tf (.slice b.a b.n b.c) ?_;refine Rd.tm fun K hK=>?_
  have H5:=Hd (jC b cs w2 hc A3 HCS.out);rw[HSM.out] at H5;go_simp;refine H5.mono ?_;rintro e w6 ⟨rfl,rfl⟩;clear H5;refine hK _ _ P1 ?_;clear hK K;refine Rd.tm fun K hK=>?_
  have H9:=Hd (i6 (sm) A3 w2);go_simp;refine H9.mono ?_;rintro e w10 ⟨x7,y8,rfl,rx7,hb⟩;clear H9;replace P1:=P1.below hb;replace hx:=hx.below hb;replace ha:=ha.below hb;replace hc:=hc.below hb;replace hB:=hB.tr hb;clear hb;refine hK _ _ P1 ?_;clear hK K;refine Rd.tm fun K hK=>?_
  exact Ac
 case next=>
  rintro a14 W13 ⟨T,y7,y8,y9,y10,y11,y12,y13,y14,y15,y16,y17,y18,y19,y20,y21,y22,y23,y24,y26,y27,y28,y29,y30,y31,y32,y33,y34,y35,rfl,hT,hB⟩;rw[decide_eq_true HO.out] at hT;subst hT
  go_wp2_with fail
  go_ret;exact⟨rfl,hB⟩
theorem wx (p q a b:Sl) (x:Rat) (ws cs:List Int) (w:World) (hx:RQ w p q x) (ha:RI w a ws) (hc:RI w b cs) (hlw:ws.length≤200) (he:cs.length=ws.length) (hf:ws.length≤32) (hw:ws.any noW=false) (hcp:cs.any noC=false) (sm:Nat) (hsm:sm≤1000000) (HSM:Hid (cs.sum=(sm:Int))) (HCS:Hid (∀z∈cs,0≤z∧z≤10000)) (HO:Hid (¬(sm:Rat)<x)):
  Calls Tryz.prog 152 #[.agg #[.slice p.a p.n p.c,.slice q.a q.n q.c],.slice a.a a.n a.c,.slice b.a b.n b.c] w fun e w'=>e= .returned (.int .i64 0)∧Below w.heap.size w w':=by
 have ea:=ha.len;have ec:=hc.len;have en:b.n=a.n:=A3
 have h32: ¬(32:Int)<(a.n:Int):=A3
 go_enter Tryz.func152,Tryz.ntmps152;have hb:Below w.heap.size w (w.alloc (.cells #[.slice p.a p.n p.c,.slice q.a q.n q.c] 49)):=((Below.refl _ _).alloc lr _)
 replace hx:=hx.below hb;replace ha:=ha.below hb;replace hc:=hc.below hb;have hB:=hb;have P1:ah (w.alloc (.cells #[.slice p.a p.n p.c,.slice q.a q.n q.c] 49)) (w.heap.size) 49 (.slice p.a p.n p.c) (.slice q.a q.n q.c):=by
  have h:=ah.new w 49 (.slice p.a p.n p.c) (.slice q.a q.n q.c);exact zQ
 clear hb;have c0P1:=P1.c0;have c1P1:=P1.c1;have hnn:((a.n:Int)==(b.n:Int))=true:=by rw[en];simp
 have hnm:(b.n:Int)=(a.n:Int):=by rw[en]
 clear ea ec en;have H1:=Hd (nU p q x (w.alloc (.cells #[.slice p.a p.n p.c,.slice q.a q.n q.c] 49)) hx)
 go_wp2_with fail
 clear c0P1 c1P1;refine H1.mono ?_;rintro e w1 ⟨rfl,hb⟩;clear H1;replace P1:=P1.below hb;replace hx:=hx.below hb;replace ha:=ha.below hb;replace hc:=hc.below hb;replace hB:=hB.tr hb;clear hb;have H2:=Hd (cH a ws w1 ha A3 173 noW (enters_of Tryz.func173 Cx rfl) dS);rw[hw] at H2
 go_wp2_with fail
 refine H2.mono ?_;rintro e w2 ⟨rfl,rfl⟩;clear H2;have c0P1:=P1.c0;have c1P1:=P1.c1
 go_wp2_with fail
 clear c0P1 c1P1;have hb:Below w1.heap.size w1 w1.drew:=(Below.refl _ _).drew;replace P1:=P1.below hb;replace hx:=hx.below hb;replace ha:=ha.below hb;replace hc:=hc.below hb;replace hB:=hB.tr hb;clear hb;refine Rd.regionT (fun X=>ah X (w.heap.size) 49 (.slice p.a p.n p.c) (.slice q.a q.n q.c)) [0,2,3,4,8,9,10] (.one 0 (.one 1 (.one 2 (.one 3 (.one 4 (.one 5 (.one 6 (.one 7 (.one 8 (.one 9 (.one 10 .done))))))))))) (fun ac W=>∃(T:Bool) (y7 y8 y9 y10 y11 y12 y13 y14 y15 y16 y17 y18 y19 y20 y21 y22 y23 y24 y26 y27 y28 y29 y30 y31 y32 y33 y34 y35:Value),ac={ tmps:=List.toArray (.agg #[.slice p.a p.n p.c,.slice q.a q.n q.c]:: .slice a.a a.n a.c:: .slice b.a b.n b.c:: .pointer (some ⟨w.heap.size,0,none⟩)::undef::undef:: .int .i64 0::y7::y8::y9::y10::y11::y12::y13::y14::y15::y16::y17::y18::y19::y20::y21::y22::y23::y24:: .bool T::y26::y27::y28::y29::y30::y31::y32::y33::y34::y35::[]),defers:=[] }∧T=decide ((sm:Rat)<x)∧Below w.heap.size w W) Cx Cx Cx P1 ?tree ?next
 case tree=>
  generalize w1.drew=w2 at P1 hx ha hc hB ⊢;refine Rd.tf (.slice b.a b.n b.c) ?_;refine Rd.tm fun K hK=>?_
  have H3:=Hd (cH b cs w2 hc A3 174 noC (enters_of Tryz.func174 Cx rfl) i8);rw[hcp] at H3;go_simp;refine H3.mono ?_;rintro e w4 ⟨rfl,rfl⟩;clear H3;refine hK _ _ P1 ?_;clear hK K;refine Rd.tf (.bool false) ?_;refine Rd.tg (.agg #[.slice p.a p.n p.c,.slice q.a q.n q.c]) ?_ (y:=fun X hX=>BO);refine Rd.tf (.slice b.a b.n b.c) ?_;refine Rd.tm fun K hK=>?_
  have H5:=Hd (jC b cs w2 hc A3 HCS.out);rw[HSM.out] at H5;go_simp;refine H5.mono ?_;rintro e w6 ⟨rfl,rfl⟩;clear H5;refine hK _ _ P1 ?_;clear hK K;refine Rd.tm fun K hK=>?_
  have H9:=Hd (i6 (sm) A3 w2);go_simp;refine H9.mono ?_;rintro e w10 ⟨x7,y8,rfl,rx7,hb⟩;clear H9;replace P1:=P1.below hb;replace hx:=hx.below hb;replace ha:=ha.below hb;replace hc:=hc.below hb;replace hB:=hB.tr hb;clear hb;refine hK _ _ P1 ?_;clear hK K;refine Rd.tm fun K hK=>?_
  exact Ac
 case next=>
  rintro a14 W13 ⟨T,y7,y8,y9,y10,y11,y12,y13,y14,y15,y16,y17,y18,y19,y20,y21,y22,y23,y24,y26,y27,y28,y29,y30,y31,y32,y33,y34,y35,rfl,hT,hB⟩;rw[decide_eq_false HO.out] at hT;subst hT
  go_wp2_with fail
  go_ret;exact⟨rfl,hB⟩
end Go.Proofs.YtohifgjeebhijaaGreatDoor
