import Derived.Test.YtohifgjeebhijaaGreatDoorVXc
import Derived.Test.YtohifgjeebhijaaGreatDoorVUh
namespace Go.Proofs.YtohifgjeebhijaaGreatDoor
set_option maxRecDepth 100000
set_option maxHeartbeats 4000000
open Go.RowKit Go.Maps
def fV (L:List Gr) (x:Int) (vs:List Int):List Int:=(vs.filter fun y=>(gr L y).pa==x).reverse
theorem wJ {L:List Gr} {x y:Int} {vs:List Int} (h:(gr L y).pa=x):fV L x (y::vs)=fV L x vs++[y]:=by
 unfold fV;rw[List.filter_cons_of_pos (by simp[h]),List.reverse_cons]
theorem yk {L:List Gr} {x y:Int} {vs:List Int} (h: ¬(gr L y).pa=x):fV L x (y::vs)=fV L x vs:=by
 unfold fV;rw[List.filter_cons_of_neg (by simp[h])]
theorem nX (L:List Gr) (x:Int) (vs:List Int):(fV L x vs).length≤vs.length:=by
 unfold fV;rw[List.length_reverse];exact List.length_filter_le _ _
def g7 (L:List Gr) (vs:List Int):Prop:=vs.Nodup∧∀x∈vs,has L x=true
theorem g7.len {L:List Gr} {m k:Int} (ok:Ok L m k) {vs:List Int} (h:g7 L vs):vs.length≤L.length:=by
 have h1:vs.Perm ((bK L).filter fun x=>decide (x∈vs)):=(List.perm_ext_iff_of_nodup h.1 ((dE ok.rise).filter _)).2 fun x=>by
  rw[List.mem_filter,←cN];simp only[decide_eq_true_eq];exact⟨fun hx=>⟨h.2 x hx,hx⟩,fun hx=>hx.2⟩
 rw[h1.length_eq];refine Nat.le_trans (List.length_filter_le _ _) ?_;simp[bK]
theorem wy {L:List Gr} {m k:Int} (ok:Ok L m k) {vs:List Int} (h:vs.Nodup) (ha: ∀x,x∈vs↔has L x=true):vs.Perm (bK L):=
 (List.perm_ext_iff_of_nodup h (dE ok.rise)).2 fun x=>by rw[ha,cN]
theorem uz {L:List Gr} {m k:Int} (ok:Ok L m k) {vs:List Int} (h:vs.Nodup) (ha: ∀x,x∈vs↔has L x=true) (x:Int):(fV L x vs).Perm (aW L x):=by
 rw[np ok];exact(List.reverse_perm _).trans ((wy ok h ha).filter _)
theorem sX {a b:List Int} (h:a.Perm b) (hb:b.Pairwise (· < ·)):(a.mergeSort fun x y=>decide (x≤y))=b:=by
 refine dH ((List.mergeSort_perm _ _).trans h) ?_ (hb.imp fun h=>A3);have:=List.pairwise_mergeSort (le:=fun x y:Int=>decide (x≤y)) (fun a b c h1 h2=>by simp at *;omega) (fun a b=>Cq) a;exact this.imp fun h=>BM
theorem pH {L:List Gr} {bl:Int→Nat} {x:Int}:(gOf L bl x).isSome=true↔has L x=true:=by
 unfold gOf;split<;>simp_all
theorem wW {L:List Gr} {bl:Int→Nat} {x:Int} {c:Nat} (h:gOf L bl x=some c):has L x=true∧c=bl x:=by
 unfold gOf at h;split at h
 ·rename_i hh;cases h;exact⟨hh,rfl⟩
 ·cases h
section
variable (fp B:Nat) (L:List Gr) (l:List Int) (m k:Int)
theorem il (x:Int) (w:World) (h:IsF w B fp L l m k) (hx: ¬x= -1):
  Calls Tryz.prog 117 #[.pointer (some ⟨fp,0,none⟩),.int .i64 x] w fun e w'=>(∃a c,e= .returned (.slice a (aW L x).length c)∧aK w' w.heap.size (.slice a (aW L x).length c) (aW L x))∧Below w.heap.size w w':=by
 obtain⟨tp,tg,mp,bl,hf,_⟩:=h.fo;have OK:=Hd h.ok;have n64:=h.ok.n64;clear h;have h1:=hf.c1;obtain⟨n,_,hm⟩:=hf.mpp;have HF:=Hd hf;have hx2:=aB hx;clear hf;go_enter Tryz.func117,Tryz.ntmps117
 go_wp2_with (first | (at_range;refine gH rfl _ rfl rfl hm ?_;intro w0 cnt hr hb0))
 go_frame
 generalize hrr:w.heap.size=r at *;have HR:=Hd hrr;have HFr:Hid (∀W,Below r w W→Fo W fp tp tg mp bl L l m):=Hd fun W hW=>HF.below (by rw[hrr];exact hW)
 clear hrr hm
 go_loopw [5] (fun v wr=>∃(a:Option Addr) (c:Nat) (vs:List Int) (cnt:Nat),v= .slice a (fV L x vs).length c∧Rg wr mp r n (gOf L bl) vs cnt∧Hid (g7 L vs)∧aK wr r (.slice a (fV L x vs).length c) (fV L x vs)∧Below r w wr) (fun _ wr=>wr.rangeLeft mp r)
 case atStart=>exact⟨none,0,[],cnt,rfl,hr,Hd ⟨List.nodup_nil,fun x hx=>by simp at hx⟩,aK.nil _ _,hb0⟩
 case round=>
  clear hr hb0;obtain⟨a,c,vs,cnt',rfl,hr,HV,hro,hb⟩:=hrel
  go_wp2_with (first | (at_next;refine ie rfl _ rfl rfl hr ?_ ?_))
  ·intro hall;have HP:=Hd (uz OK.out HV.1 (fun y=>(hall y).trans pH) x);have HK:=Hd (lP OK.out x);have hlc:=nX L x vs;have hlv:=g7.len OK.out HV.out;have HB:=Hd hb;clear HV hall;generalize fV L x vs=cl at *;by_cases h0:cl=[]
   ·subst h0;have e0:aW L x=[]:=List.length_eq_zero_iff.1 (by rw[←HP.length_eq];rfl)
    go_wp2_with (first | (go_at_call 135;refine(vq _ _ _).mono ?_;rintro e w2 ⟨rfl,rfl⟩))
    go_ret;rw[e0];rw[HR.out];exact⟨⟨a,c,rfl,hro⟩,HB.out⟩
   ·obtain⟨b,rfl,hbr,hbw,_⟩:=hro.at (j:=0) (List.length_pos_iff.2 h0);have HL:=Hd (show cl.length<4611686018427387904 by omega);have HH:=Hd hro.holds
    go_wp2_with fail
    refine(Tryz.slices_Sort_int b 0 c cl wr HH.out hbw HL.out).mono ?_;rintro e w2 ⟨rfl,q,os,rfl⟩;rw[sX HP.out HK.out];have hg:=grownBy_sortedI (w:=wr) (g:=b) (n:=q) (os:=os) (aW L x).toArray;have hb2:Below r w _:=hb.grown hg (Nat.le_trans (Nat.le_of_eq HR.symm) (HR.out ▸ hb.size)) (fun j e=>by cases e;exact hbr);have hr2:aK (Sort.grow (Sort.putRow (Value.int .i64) (Sort.ahead wr q) b 0 (aW L x).toArray) os) r (.slice (some ⟨b,0,none⟩) cl.length c) (aW L x):=by
     rcases hro.2 with ⟨h0,_⟩ | ⟨g',cap,cur,e,hbg,hg,h3,h4,h5,htake⟩
     ·cases h0
     ·cases e;have e1:=HP.length_eq;unfold aK;rw[e1];exact ownsRow_sortedI rfl hbr hg (e1 ▸ h3) h4 h5
    generalize Sort.grow (Sort.putRow (Value.int .i64) (Sort.ahead wr q) b 0 (aW L x).toArray) os=w3 at *
    go_wp2_with fail
    go_ret;rw[HR.out,←HP.length_eq];exact⟨⟨some ⟨b,0,none⟩,c,rfl,hr2⟩,hb2⟩
  ·intro y cb w1 cnt1 hy hG hnot hr1 hlt hg1 hen;obtain⟨hh,rfl⟩:=wW hG;have hrw:r≤wr.heap.size:=by have:=hr.lt;omega
   have hb1:Below r w w1:=hb.grown hg1 hrw (fun j e=>by cases e;exact Nat.le_refl _);have hf1:=HFr.out _ hb1;have hX:=(hf1.grp y hh).c0;have hro1:aK w1 r (.slice a (fV L x vs).length c) (fV L x vs):=hro.same fun b cur hbc _=>hg1.block b (Array.getElem?_eq_some_iff.1 hbc).1 (fun e=>by
    cases e;obtain⟨D,left,hq,_⟩:=hr;obtain⟨es,clock,since,seen,c0,_,_,_,_,e3,_⟩:=hq;rw[e3] at hbc;cases hbc)
   have HV1:Hid (g7 L (y::vs)):=Hd ⟨List.nodup_cons.2 ⟨hnot,HV.1⟩,fun z hz=>by
    rcases List.mem_cons.1 hz with rfl | hz
    ·exact hh
    ·exact HV.2 z hz⟩
   have hM:Hid (∀W:World,Rg W mp r n (gOf L bl) (y::vs) cnt1→W.rangeLeft mp r<wr.rangeLeft mp r):=Hd fun W hW=>by rw[hW.left,hr.left];exact hlt
   have hlc:=nX L x vs;have hlv:=g7.len OK.out HV.out;clear hr hro hb hg1 hnot HV hG hf1;by_cases hp:(gr L y).pa=x
   ·have e2:=wJ (vs:=vs) hp;rw[hp] at hX;have HE:=Hd e2;clear hp e2 hh;generalize fV L x vs=cl at *;have hA:=bZ.new w1 y;have hba:Below r w (w1.alloc (.cells #[.int .i64 y] 3)):=hb1.alloc (by have:=hr1.lt;omega) _;have hroa:aK (w1.alloc (.cells #[.int .i64 y] 3)) r (.slice a cl.length c) cl:=hro1.alloc _
    go_wp2_with (first | (refine cY rfl _ _ rfl r (.slice a cl.length c) _ cl [y] rfl rfl (by have:=hr1.lt;simp;omega) hroa hA.src Cq ?_;intro v' w2 hro2 hg2;have hb2:=hba.trans (aY hroa (by have:=hr1.lt;simp;omega) hg2);have hr2:=hr1.below ((Below.refl _ w1).alloc lr (.cells #[.int .i64 y] 3));have hr3:=hr2.grownX hroa hg2))
    obtain⟨a',c',rfl⟩:=hro2.sl;exact⟨⟨a',c',y::vs,cnt1,by rw[HE.out],hr3,HV1,by rw[HE.out];exact hro2,hb2⟩,hM.out _ hr3⟩
   ·have HE:=Hd (yk (vs:=vs) hp);have hp2:=aB hp;clear hp hh;generalize fV L x vs=cl at *;generalize (gr L y).pa=p at *
    go_wp2_with fail
    exact⟨⟨a,c,y::vs,cnt1,by rw[HE.out],hr1,HV1,by rw[HE.out];exact hro1,hb1⟩,hM.out _ hr1⟩
end
theorem j0 {a b:List Int} (h:a.Perm b):a.sum=b.sum:=by
 induction h with
 | nil=>rfl
 | cons x _ ih=>simp only[List.sum_cons,ih]
 | swap x y l=>simp only[List.sum_cons];omega
 | trans _ _ h1 h2=>exact h1.trans h2
structure Lv (L:List Gr) (x:Int) (vs:List Int) (v:Int):Prop where
 up: ∀y∈vs,ag L y x=true→dep L y - dep L x+1≤v
 at':v=0∨∃y∈vs,ag L y x=true∧v=dep L y - dep L x+1
 v0:0≤v
theorem Lv.no {L:List Gr} {x y v:Int} {vs:List Int} (h:Lv L x vs v) (hb:ag L y x=false):Lv L x (y::vs) v:=
 ⟨fun z hz hzb=>by
  rcases List.mem_cons.1 hz with rfl | hz
  ·rw[hb] at hzb;cases hzb
  ·exact h.up z hz hzb,by
  rcases h.at' with e | ⟨z,hz,e⟩
  ·exact .inl e
  ·exact .inr ⟨z,List.mem_cons_of_mem _ hz,e⟩,h.v0⟩
theorem Lv.more {L:List Gr} {x y v:Int} {vs:List Int} (h:Lv L x vs v) (hb:ag L y x=true) (hv:v<dep L y - dep L x+1):Lv L x (y::vs) (dep L y - dep L x+1):=
 ⟨fun z hz hzb=>by
  rcases List.mem_cons.1 hz with rfl | hz
  ·exact Int.le_refl _
  ·have:=h.up z hz hzb;omega,.inr ⟨y,B4,hb,rfl⟩,by have:=h.v0;omega⟩
theorem Lv.less {L:List Gr} {x y v:Int} {vs:List Int} (h:Lv L x vs v) (hv:dep L y - dep L x+1≤v):Lv L x (y::vs) v:=
 ⟨fun z hz hzb=>by
  rcases List.mem_cons.1 hz with rfl | hz
  ·exact hv
  ·exact h.up z hz hzb,by
  rcases h.at' with e | ⟨z,hz,e⟩
  ·exact .inl e
  ·exact .inr ⟨z,List.mem_cons_of_mem _ hz,e⟩,h.v0⟩
theorem Lv.le8 {L:List Gr} {m k x v:Int} {vs:List Int} (ok:Ok L m k) (h:Lv L x vs v):v≤9:=by
 rcases h.at' with e | ⟨z,_,_,e⟩
 ·omega
 ·have:=ok.dep8 z;have:=ok.dep8 x;omega
theorem Lv.deep {L:List Gr} {m k x v p:Int} {vs:List Int} (ok:Ok L m k) (h:Lv L x vs v) (ha: ∀x,x∈vs↔has L x=true):decide (8<dep L p+v)=dB L x p:=by
 unfold dB;rw[Bool.eq_iff_iff,decide_eq_true_iff,List.any_eq_true];constructor
 ·intro hv;rcases h.at' with e | ⟨z,hz,hb,e⟩
  ·have:=ok.dep8 p;omega
  ·have hz':=(ha z).1 hz;refine⟨gr L z,bd hz',?_⟩;rw[cV hz',Bool.and_eq_true,decide_eq_true_iff];exact⟨hb,A3⟩
 ·rintro⟨g,hg,hb⟩;rw[Bool.and_eq_true,decide_eq_true_iff] at hb;have:=h.up g.id ((ha _).2 (jK hg)) hb.1;omega
section
variable (fp B:Nat) (L:List Gr) (l:List Int) (m k:Int)
theorem Bh {p:Prop} (h:p:=by have hf:=HF.below hX;have e1:=hf.c1;have e2:=hf.lookY hx hh;have e3:=HX.out X hX;clear hX hf;go_simp):p:=h
theorem yj (x:Int) (w:World) (h:IsF w B fp L l m k) (hx:I64 x) (hh:has L x=true):
  Calls Tryz.prog 83 #[.pointer (some ⟨fp,0,none⟩),.int .i64 x] w fun e w'=>e= .returned (.int .i64 (ce L x))∧Below w.heap.size w w':=by
 have HH:=Hd h;obtain⟨tp,tg,mp,bl,hf,_⟩:=h.fo;have hne: ¬x= -1:=by have:=h.ok.id hh;omega
 have hn:=ee L x;have hn2:=h.ok.n64;have hme:=h.ok.num _ (bd hh);have hk:=h.ok.k1;have HF:=Hd hf;have HX:Hid (∀X,Below w.heap.size w X→X.cell? ⟨bl x,2,none⟩=some (.int .i64 (gr L x).me)):=Hd fun X hX=>((hf.below hX).grp x hh).c2
 have HC:Hid (∀W,Below w.heap.size w W→Calls Tryz.prog 117 #[.pointer (some ⟨fp,0,none⟩),.int .i64 x] W fun e w'=>(∃a c,e= .returned (.slice a (aW L x).length c))∧Below w.heap.size w w'):=Hd fun W hW=>by
  refine(il fp B L l m k x W (h.below hW) hne).mono ?_;rintro e w' ⟨⟨a,c,rfl,_⟩,hb⟩;exact⟨⟨a,c,rfl⟩,Below.stay hW hb⟩
 unfold ce;clear h hf;generalize (aW L x).length=n at *;obtain⟨hm1,hm2,hm3,_⟩:=hme;generalize (gr L x).me=me at *;have hlo:0≤me:=A3
 have hhi:me≤1000:=A3
 have HW:Hid (IntKind.i64.wrap ((n:Int)+me)=(n:Int)+me):=Hd (IntWalk.i64_in _ A3);clear hm1 hm2 hm3 hk hne;go_enter Tryz.func83,Tryz.ntmps83
 go_wp2_with fail
 have hq:Below w.heap.size w w.drew:=(eQ.drew w).below _;refine Rd.rg (fun X=>Below w.heap.size w X) 15 [0,1,4,5,6,7,8,9,10,11,12,3,13,14] [0,1,4,5,6,7,8,9,10,11,12,2,3,13,14] hq ?_;refine Rd.sf (.pointer (some ⟨fp,0,none⟩)) ?_;refine Rd.sf (.int .i64 x) ?_;refine Rd.sf (.pointer (some ⟨fp,0,none⟩)) ?_;refine Rd.sf (.pointer (some ⟨fp,0,none⟩)) ?_;refine Rd.sf (.pointer (some ⟨fp,1,none⟩)) ?_;refine Rd.sg (.map (some mp)) ?_ (y:=fun X hX=>Bh);refine Rd.sf (.int .i64 x) ?_;refine Rd.sg (.pointer (some ⟨bl x,0,none⟩)) ?_ (y:=fun X hX=>Bh);refine Rd.sf (.pointer (some ⟨bl x,0,none⟩)) ?_;refine Rd.sf (.pointer (some ⟨bl x,2,none⟩)) ?_;refine Rd.sg (.int .i64 me) ?_ (y:=fun X hX=>Bh);refine Rd.sm fun K hK=>?_
 go_simp;refine(HC.out _ hq).mono ?_;rintro e w3 ⟨⟨a,c,rfl⟩,hb3⟩;refine hK _ _ (fun _=>hb3) ?_;clear hK K;refine Rd.sf (.int .i64 (n:Int)) ?_;refine Rd.sg (.int .i64 ((n:Int)+me)) ?_ (y:=fun X _=>by go_simp;exact HW.out);refine Rd.sf (.int .i64 ((n:Int)+me)) ?_;refine Rd.seq_end ?_
 go_wp2_with fail
 go_ret;exact⟨rfl,hb3⟩
theorem qD (x:Int) (w:World) (h:IsF w B fp L l m k) (hx:I64 x):
  Calls Tryz.prog 88 #[.pointer (some ⟨fp,0,none⟩),.int .i64 x] w fun e w'=>(∃(v:Int) (vs:List Int),e= .returned (.int .i64 v)∧Lv L x vs v∧(∀y,y∈vs↔has L y=true))∧Below w.heap.size w w':=by
 obtain⟨tp,tg,mp,bl,hf,_⟩:=h.fo;have OK:=Hd h.ok;have n64:=h.ok.n64;have h1:=hf.c1;obtain⟨n,_,hm⟩:=hf.mpp;have HF:=Hd hf;have HB0:Hid (∀(y:Int) (W:World),I64 y→Below w.heap.size w W→Calls Tryz.prog 87 #[.pointer (some ⟨fp,0,none⟩),.int .i64 y,.int .i64 x] W fun e w'=>e= .returned (.bool (ag L y x))∧Below W.heap.size W w'):=Hd fun y W hy hW=>ja fp B L l m k y x W (h.below hW) hy
 have HD0:Hid (∀(y:Int) (W:World),I64 y→Below w.heap.size w W→Calls Tryz.prog 82 #[.pointer (some ⟨fp,0,none⟩),.int .i64 y] W fun e w'=>e= .returned (.int .i64 (dep L y))∧Below W.heap.size W w'):=Hd fun y W hy hW=>i5 fp B L l m k y W (h.below hW) hy
 clear h hf;go_enter Tryz.func88,Tryz.ntmps88
 go_wp2_with (first | (at_range;refine gH rfl _ rfl rfl hm ?_;intro w0 cnt hr hb0))
 go_frame
 have HR:Hid (∀W:World,Below w.heap.size w W→Fo W fp tp tg mp bl L l m):=Hd fun W hW=>HF.below hW
 clear hm
 go_loopw [5] (fun v wr=>∃(s:Int) (vs:List Int) (cnt:Nat),v= .int .i64 s∧Hid (Lv L x vs s)∧Rg wr mp w.heap.size n (gOf L bl) vs cnt∧Hid (g7 L vs)∧Below w.heap.size w wr) (fun _ wr=>wr.rangeLeft mp w.heap.size)
 case atStart=>exact⟨0,[],cnt,rfl,Hd ⟨fun y hy=>by simp at hy,.inl rfl,Int.le_refl _⟩,hr,Hd ⟨List.nodup_nil,fun x hx=>by simp at hx⟩,hb0⟩
 case round=>
  clear hr hb0;obtain⟨s,vs,cnt',rfl,HS,hr,HV,hb⟩:=hrel
  go_wp2_with (first | (at_next;refine ie rfl _ rfl rfl hr ?_ ?_))
  ·intro hall;have HP:=Hd hall;clear HV hall
   go_wp2_with fail
   go_ret;exact⟨⟨s,vs,rfl,HS.out,fun y=>(HP.out y).trans pH⟩,hb⟩
  ·intro y cb w1 cnt1 hy hG hnot hr1 hlt hg1 hen;obtain⟨hh,rfl⟩:=wW hG;have hrw:w.heap.size≤wr.heap.size:=hb.size;have hb1:Below w.heap.size w w1:=hb.grown hg1 hrw (fun j e=>by cases e;exact Nat.le_refl _);have HX:Hid (∀W:World,Below w.heap.size w W→W.cell? ⟨bl y,3,none⟩=some (.int .i64 (gr L y).aw)):=Hd fun W hW=>((HR.out W hW).grp y hh).c3
   have HV1:Hid (g7 L (y::vs)):=Hd ⟨List.nodup_cons.2 ⟨hnot,HV.1⟩,fun z hz=>by
    rcases List.mem_cons.1 hz with rfl | hz
    ·exact hh
    ·exact HV.2 z hz⟩
   have hM:Hid (∀W:World,Rg W mp w.heap.size n (gOf L bl) (y::vs) cnt1→W.rangeLeft mp w.heap.size<wr.rangeLeft mp w.heap.size):=Hd fun W hW=>by rw[hW.left,hr.left];exact hlt
   have hlv:=g7.len OK.out HV1.out;have HC:=Hd (HB0.out y w1 hy hb1);have hs:=HS.v0;have hs8:=HS.le8 OK.out;have hdx:=OK.dep8 x;have hdy:=OK.dep8 y;clear hr hb hg1 hnot HV hG hh;have HDy:Hid (∀W:World,Below w.heap.size w W→Calls Tryz.prog 82 #[.pointer (some ⟨fp,0,none⟩),.int .i64 y] W fun e w'=>e= .returned (.int .i64 (dep L y))∧Below W.heap.size W w'):=Hd fun W hW=>HD0.out y W hy hW
   have HDx:Hid (∀W:World,Below w.heap.size w W→Calls Tryz.prog 82 #[.pointer (some ⟨fp,0,none⟩),.int .i64 x] W fun e w'=>e= .returned (.int .i64 (dep L x))∧Below W.heap.size W w'):=Hd fun W hW=>HD0.out x W hx hW
   clear HD0;cases hbe:ag L y x with
   | true=>
    rw[hbe] at HC;by_cases hv:s<dep L y - dep L x+1
    ·have HE2:Hid (Lv L x (y::vs) (dep L y - dep L x+1)):=Hd (HS.more hbe hv);clear hbe hlv HS;generalize dep L y=dy at *;generalize dep L x=dx at *;have hmx:max s (dy - dx+1)=dy - dx+1:=A3
     go_wp2_with (first | (go_at_call 87;refine HC.mono ?_;rintro e w2 ⟨rfl,hb2⟩;have hb3:=Below.stay hb1 hb2;have hr2:=hr1.below hb2;have HD1:=Hd (HDy.out w2 hb3)) | (go_at_call 82;refine HD1.mono ?_;rintro e w3 ⟨rfl,hb4⟩;have hb5:=Below.stay hb3 hb4;have hr3:=hr2.below hb4;clear HD1;have HD2:=Hd (HDx.out w3 hb5)) | (go_at_call 82;refine HD2.mono ?_;rintro e w4 ⟨rfl,hb6⟩;have hb7:=Below.stay hb5 hb6;have hr4:=hr3.below hb6))
     exact⟨⟨dy - dx+1,y::vs,cnt1,rfl,HE2,hr4,HV1,hb7⟩,hM.out _ hr4⟩
    ·have HE2:Hid (Lv L x (y::vs) s):=Hd (HS.less A3);clear hbe hlv HS;generalize dep L y=dy at *;generalize dep L x=dx at *;have hmx:max s (dy - dx+1)=s:=A3
     go_wp2_with (first | (go_at_call 87;refine HC.mono ?_;rintro e w2 ⟨rfl,hb2⟩;have hb3:=Below.stay hb1 hb2;have hr2:=hr1.below hb2;have HD1:=Hd (HDy.out w2 hb3)) | (go_at_call 82;refine HD1.mono ?_;rintro e w3 ⟨rfl,hb4⟩;have hb5:=Below.stay hb3 hb4;have hr3:=hr2.below hb4;clear HD1;have HD2:=Hd (HDx.out w3 hb5)) | (go_at_call 82;refine HD2.mono ?_;rintro e w4 ⟨rfl,hb6⟩;have hb7:=Below.stay hb5 hb6;have hr4:=hr3.below hb6))
     exact⟨⟨s,y::vs,cnt1,rfl,HE2,hr4,HV1,hb7⟩,hM.out _ hr4⟩
   | false=>
    rw[hbe] at HC;have HE2:Hid (Lv L x (y::vs) s):=Hd (HS.no hbe);clear hbe hlv HS
    go_wp2_with (first | (go_at_call 87;refine HC.mono ?_;rintro e w2 ⟨rfl,hb2⟩;have hb3:=Below.stay hb1 hb2;have hr2:=hr1.below hb2))
    exact⟨⟨s,y::vs,cnt1,rfl,HE2,hr2,HV1,hb3⟩,hM.out _ hr2⟩
end
end Go.Proofs.YtohifgjeebhijaaGreatDoor
namespace Go.Proofs.YtohifgjeebhijaaGreatDoor
theorem qP (y:Int) (r:List Int):cS (y::r)=if y=0 then cS r else y::cS r:=by
 unfold cS;rw[List.filter_cons];by_cases h:y=0<;>simp[h]
theorem jj: ∀ {l:List Int},(∀i j,i<l.length→j<l.length→l.getD i 0=l.getD j 0→l.getD i 0≠0→i=j)→(cS l).Nodup
 | [],_=>by simp[cS]
 | y::r,h=>by
  have ih:=jj (l:=r) (fun i j hi hj he hne=>by
   have:=h (i+1) (j+1) (by simpa using hi) (by simpa using hj) (by simpa using he) (by simpa using hne);omega)
  rw[qP];split
  ·exact ih
  ·rename_i h0;rw[List.nodup_cons];refine⟨fun hm=>?_,ih⟩;obtain⟨k,hk,e⟩:=eR (l5.1 hm).1;have:=h 0 (k+1) B4 (by simpa using hk) (by simpa using e.symm) (by simpa using h0);omega
theorem uL: ∀ {l:List Int},l.Pairwise (· ≤ ·)→l.Nodup→l.Pairwise (· < ·)
 | [],_,_=>List.Pairwise.nil
 | x::r,h,hn=>by
  rw[List.pairwise_cons] at h ⊢;rw[List.nodup_cons] at hn;refine⟨fun y hy=>?_,uL h.2 hn.2⟩;have h1:=h.1 y hy;have h2:x≠y:=fun e=>hn.1 (e ▸ hy)
  omega
theorem kp {l:List Int} {m:Int} (ok:cK l m):(hU l).Pairwise (· < ·):=
 uL (kZ l) ((ig l).nodup_iff.2 (jj ok.uniq))
def aV (L:List Gr) (r:Nat):Int:=if L.length=r then 6 else 0
def aG (L:List Gr) (r:Nat) (p wt:Int):Int:=
 if has L p=false then 4 else if ¬(1≤wt∧wt≤10000) then 13 else if dep L p=8 then 7 else if ce L p=32∨L.length=r then 6 else 0
def b5 (L:List Gr) (x:Int):Int:=if has L x=false then 4 else if (gr L x).pa<0 then 15 else if 0<ce L x then 11 else 0
def aP (L:List Gr) (x p:Int):Int:=
 if has L x=false∨has L p=false then 4 else if (gr L x).pa<0 then 15 else if ¬aZ L x=aZ L p then 5 else if ag L p x=true then 12 else if dB L x p=true then 7 else if ¬(gr L x).pa=p∧ce L p=32 then 6 else 0
def aT (L:List Gr) (x wt:Int):Int:=if has L x=false then 4 else if (gr L x).pa<0 then 15 else if ¬(1≤wt∧wt≤10000) then 13 else 0
def ap (L:List Gr) (x me aw:Int):Int:=
 if has L x=false then 4 else if 0<me∧ce L x=32 then 6 else if (gr L x).aw+aw<0∨(gr L x).me+me<(gr L x).aw+aw then 10 else 0
def mvd (L:List Gr) (x p:Int):Gr:=⟨x,p,(gr L x).wt,(gr L x).me,(gr L x).aw⟩
def dQ (L:List Gr) (x p:Int):List Gr:=dT L x (mvd L x p)
def fh (L:List Gr) (x wt:Int):List Gr:=dT L x ⟨x,(gr L x).pa,wt,(gr L x).me,(gr L x).aw⟩
def cG (L:List Gr) (x me aw:Int):List Gr:=dT L x ⟨x,(gr L x).pa,(gr L x).wt,(gr L x).me+me,(gr L x).aw+aw⟩
def dA (L:List Gr) (r:Nat) (m:Int):List Gr:=if aV L r=0 then addG L m (-1) 1 else L
def b6 (L:List Gr) (r:Nat) (m p wt:Int):List Gr:=if aG L r p wt=0 then addG L m p wt else L
def bO (L:List Gr) (x:Int):List Gr:=if b5 L x=0 then gW L x else L
def aM (L:List Gr) (x p:Int):List Gr:=if aP L x p=0 then dQ L x p else L
def aJ (L:List Gr) (x wt:Int):List Gr:=if aT L x wt=0 then fh L x wt else L
def aj (L:List Gr) (x me aw:Int):List Gr:=if ap L x me aw=0 then cG L x me aw else L
section
variable {L L':List Gr} {m k x p wt me aw:Int}
theorem Ok.later (ok:Ok L m k) (hk:k<1000):Ok L m (k+1):=
 ⟨ok.rise,ok.lo,ok.hi,ok.m0,by have:=ok.mle;omega,A3,ok.par,fun g hg=>by have:=ok.num g hg;omega,ok.deep,ok.n64⟩
theorem qf (h:bK L'=bK L) (y:Int):has L' y=has L y:=by
 rw[Bool.eq_iff_iff,cN,cN,h]
theorem Ok.set (ok:Ok L m k) (hk:k<1000) {g:Gr} (hg:g.id=x) (hx:has L x=true) (hp:g.pa=(gr L x).pa) (hn:0≤g.aw∧g.aw≤g.me∧g.me≤k+1∧1≤g.wt∧g.wt≤10000):Ok (dT L x g) m (k+1):=by
 have hi:=ok.id hx;have hpth: ∀n y,dj (dT L x g) n y=dj L n y:=fun n y=>mj (fun y=>eS hg y) (fun y _=>by
  rw[mU hg hx];split
  ·rename_i e;subst e;exact hp
  ·rfl) n y
 refine⟨by rw[fI hg];exact ok.rise,fun y hy=>?_,fun y hy=>?_,ok.m0,by have:=ok.mle;omega,A3,fun y hy=>?_,fun y hy=>?_,fun y=>?_,by unfold dT;rw[List.length_set];exact ok.n64⟩
 ·rcases dM hy with rfl | hy
  ·omega
  ·exact ok.lo y hy
 ·rcases dM hy with rfl | hy
  ·omega
  ·exact ok.hi y hy
 ·rw[eS hg];rcases dM hy with rfl | hy
  ·rw[hp];exact ok.pa hx
  ·exact ok.par y hy
 ·rcases dM hy with rfl | hy
  ·exact hn
  ·have:=ok.num y hy;omega
 ·unfold pth;rw[hpth];exact ok.deep y
theorem Ok.weight (ok:Ok L m k) (hk:k<1000):Ok (aJ L x wt) m (k+1):=by
 unfold aJ;split
 ·rename_i he;unfold aT at he;cases hx:has L x with
  | false=>simp[hx] at he
  | true=>
   rw[if_neg (by rw[hx];decide)] at he;split at he
   ·omega
   ·split at he
    ·omega
    ·rename_i h2;have:=ok.num _ (bd hx);exact ok.set hk rfl hx rfl (by simp only;omega)
 ·exact ok.later hk
theorem Ok.count (ok:Ok L m k) (hk:k<1000) (hme:me≤1):Ok (aj L x me aw) m (k+1):=by
 unfold aj;split
 ·rename_i he;unfold ap at he;cases hx:has L x with
  | false=>simp[hx] at he
  | true=>
   rw[if_neg (by rw[hx];decide)] at he;split at he
   ·omega
   ·split at he
    ·omega
    ·rename_i h2;have:=ok.num _ (bd hx);exact ok.set hk rfl hx rfl (by simp only;omega)
 ·exact ok.later hk
theorem mN (hd: ∀x,(pth L x).length≤8): ∀(n:Nat) (y:Int),(dj L n y).length≤(pth L y).length
 | 0,_=>Nat.zero_le _
 | n+1,y=>by
  unfold dj;split
  ·rename_i hy;rw[jG hd hy,List.length_cons,List.length_cons];have:=mN hd n (gr L y).pa;omega
  ·exact Nat.zero_le _
theorem rT (hx:has L x=true) (y:Int):gr (dQ L x p) y=if y=x then mvd L x p else gr L y:=mU (show (mvd L x p).id=x from rfl) hx y
theorem kw (y:Int):has (dQ L x p) y=has L y:=eS (show (mvd L x p).id=x from rfl) y
theorem jV (ok:Ok L m k) (hx:has L x=true): ∀(n:Nat) (y:Int),x∉pth L y→dj (dQ L x p) n y=dj L n y
 | 0,_,_=>rfl
 | n+1,y,h=>by
  unfold dj;rw[kw];split
  ·rename_i hy;have e:=ok.yes hy;rw[e] at h;have h1: ¬y=x:=fun e=>h (by rw[e];simp)
   rw[rT hx,if_neg h1,jV ok hx n _ (fun h2=>h (List.mem_cons_of_mem _ h2))]
  ·rfl
theorem rO (ok:Ok L m k) (hx:has L x=true) (hb:x∉pth L p): ∀(n:Nat) (y:Int),x∈pth L y→((dj (dQ L x p) n y).length:Int)≤dep L y - dep L x+dep L p+1
 | 0,y,h=>by
  have h1:=ok.plen h;have:=ok.dep8 p;unfold dep at *;simp only[dj,List.length_nil];omega
 | n+1,y,h=>by
  have hy:has L y=true:=by
   cases hy:has L y with
   | true=>rfl
   | false=>rw[er hy] at h;simp at h
  unfold dj;rw[kw,if_pos hy,List.length_cons,rT hx];by_cases e:y=x
  ·subst e;simp only[if_true,mvd];rw[jV ok hx n p hb];have:=mN ok.deep n p;unfold dep;omega
  ·rw[if_neg e];rw[ok.yes hy] at h;have h2:x∈pth L (gr L y).pa:=by
    rcases List.mem_cons.1 h with h | h
    ·exact absurd h.symm e
    ·exact h
   have:=rO ok hx hb n _ h2;have:=ok.dep hy;omega
structure yw (L:List Gr) (x p:Int):Prop where
 hx:has L x=true
 hp:has L p=true
 top:aZ L x=aZ L p
 out:x∉pth L p
 deep:dB L x p=false
 up:0≤(gr L x).pa
theorem wd (h:aP L x p=0):yw L x p:=by
 unfold aP at h;split at h
 ·omega
 rename_i h1;split at h
 ·omega
 rename_i h2;split at h
 ·omega
 rename_i h3;split at h
 ·omega
 rename_i h4;split at h
 ·omega
 rename_i h5;refine⟨?_,?_,by simpa using h3,by simpa[ag] using h4,by simpa using h5,A3⟩
 ·cases hx:has L x with
  | true=>rfl
  | false=>exact absurd (.inl hx) h1
 ·cases hp:has L p with
  | true=>rfl
  | false=>exact absurd (.inr hp) h1
theorem Ok.moves (ok:Ok L m k) (hk:k<1000) (h:yw L x p):Ok (dQ L x p) m (k+1):=by
 have hi:=ok.id h.hx;refine⟨by unfold dQ;rw[fI (show (mvd L x p).id=x from rfl)];exact ok.rise,fun y hy=>?_,fun y hy=>?_,ok.m0,by have:=ok.mle;omega,A3,fun y hy=>?_,fun y hy=>?_,fun y=>?_,by unfold dQ dT;rw[List.length_set];exact ok.n64⟩
 ·rcases dM hy with rfl | hy
  ·exact hi.1
  ·exact ok.lo y hy
 ·rcases dM hy with rfl | hy
  ·exact hi.2
  ·exact ok.hi y hy
 ·rw[kw];rcases dM hy with rfl | hy
  ·exact .inr h.hp
  ·exact ok.par y hy
 ·have hn:=ok.num _ (bd h.hx);rcases dM hy with rfl | hy
  ·simp only[mvd];omega
  ·have:=ok.num y hy;omega
 ·by_cases hy:x∈pth L y
  ·have h1:=rO ok h.hx h.out 9 y hy;have hyy:has L y=true:=by
    cases hyy:has L y with
    | true=>rfl
    | false=>rw[er hyy] at hy;simp at hy
   have h2:=h.deep;unfold dB at h2;rw[List.any_eq_false] at h2;have h3:=h2 _ (bd hyy);rw[cV hyy] at h3;unfold ag at h3;simp[hy] at h3;unfold pth;omega
  ·unfold pth;rw[jV ok h.hx 9 y hy];exact ok.deep y
theorem Ok.move (ok:Ok L m k) (hk:k<1000):Ok (aM L x p) m (k+1):=by
 unfold aM;split
 ·rename_i he;exact ok.moves hk (wd he)
 ·exact ok.later hk
theorem kC:bK (addG L m p wt)=bK L++[m+1]:=by simp[addG,bK]
theorem gq (ok:Ok L m k):(bK (addG L m p wt)).Pairwise (· < ·):=by
 rw[kC,List.pairwise_append];refine⟨ok.rise,B4,fun a ha b hb=>?_⟩;rw[List.mem_singleton] at hb;have:=ok.id (cN.2 ha);omega
theorem d4 (y:Int):has (addG L m p wt) y=(has L y||decide (y=m+1)):=by
 rw[Bool.eq_iff_iff,Bool.or_eq_true,decide_eq_true_iff,cN,cN,kC];simp
theorem nT (ok:Ok L m k):gr (addG L m p wt) (m+1)=⟨m+1,p,wt,0,0⟩:=
 oN (gq ok) (g:=⟨m+1,p,wt,0,0⟩) (by simp[addG])
theorem oA (ok:Ok L m k) {y:Int} (hy:has L y=true):gr (addG L m p wt) y=gr L y:=by
 have:=oN (gq (p:=p) (wt:=wt) ok) (g:=gr L y) (by unfold addG;exact List.mem_append_left _ (bd hy))
 rwa [cV hy] at this
theorem iZ (ok:Ok L m k): ∀(n:Nat) (y:Int),¬y=m+1→dj (addG L m p wt) n y=dj L n y
 | 0,_,_=>rfl
 | n+1,y,h=>by
  unfold dj;rw[d4,decide_eq_false h,Bool.or_false];split
  ·rename_i hy;have:=ok.pa_lt hy;rw[oA ok hy,iZ ok n _ A3]
  ·rfl
theorem Ok.addG (ok:Ok L m k) (hk:k<1000) (hl:L.length<64) (hp:p= -1∨has L p=true∧Proofs.YtohifgjeebhijaaGreatDoor.dep L p≠8) (hw:1≤wt∧wt≤10000):Ok (addG L m p wt) (m+1) (k+1):=by
 have h0:=ok.m0;refine⟨gq ok,fun y hy=>?_,fun y hy=>?_,A3,by have:=ok.mle;omega,A3,fun y hy=>?_,fun y hy=>?_,fun y=>?_,by unfold Proofs.YtohifgjeebhijaaGreatDoor.addG;simp;omega⟩
 ·unfold Proofs.YtohifgjeebhijaaGreatDoor.addG at hy;rcases List.mem_append.1 hy with hy | hy
  ·exact ok.lo y hy
  ·rw[List.mem_singleton] at hy;subst hy;simp only;omega
 ·unfold Proofs.YtohifgjeebhijaaGreatDoor.addG at hy;rcases List.mem_append.1 hy with hy | hy
  ·have:=ok.hi y hy;omega
  ·rw[List.mem_singleton] at hy;subst hy;simp only;omega
 ·rw[d4];unfold Proofs.YtohifgjeebhijaaGreatDoor.addG at hy;rcases List.mem_append.1 hy with hy | hy
  ·rcases ok.par y hy with h | h
   ·exact .inl h
   ·exact .inr (by rw[h];rfl)
  ·rw[List.mem_singleton] at hy;subst hy;simp only;rcases hp with h | h
   ·exact .inl h
   ·exact .inr (by rw[h.1];rfl)
 ·unfold Proofs.YtohifgjeebhijaaGreatDoor.addG at hy;rcases List.mem_append.1 hy with hy | hy
  ·have:=ok.num y hy;omega
  ·rw[List.mem_singleton] at hy;subst hy;simp only;have:=ok.mle;omega
 ·unfold pth;by_cases e:y=m+1
  ·subst e;unfold dj;rw[d4,decide_eq_true rfl,Bool.or_true,if_pos rfl,nT ok,List.length_cons];simp only;have hpm: ¬p=m+1:=by
    rcases hp with h | h
    ·omega
    ·have:=ok.id h.1;omega
   rw[iZ ok 8 p hpm];have h1:=mN ok.deep 8 p;rcases hp with h | h
   ·have:pth L p=[]:=er (ok.low A3);rw[this] at h1;simp at h1;rw[h1];simp
   ·have:=ok.dep8 p;have h2:=h.2;unfold Proofs.YtohifgjeebhijaaGreatDoor.dep at this h2;omega
  ·rw[iZ ok 9 y e];exact ok.deep y
theorem lN (h: ¬ 0<ce L x) (hm:0≤(gr L x).me) {y:Int} (hy:has L y=true): ¬(gr L y).pa=x:=by
 intro e;have h1:(aW L x).length=0:=by unfold ce at h;omega
 have:y∈aW L x:=by
  unfold aW;rw[List.mem_map];exact⟨gr L y,List.mem_filter.2 ⟨bd hy,by simpa using e⟩,cV hy⟩
 rw[List.length_eq_zero_iff.1 h1] at this;simp at this
theorem qV (L:List Gr) (x:Int):gW L x=L.eraseIdx (pos L x):=(List.eraseIdx_eq_take_drop_succ ..).symm
theorem fy (ok:Ok L m k) (hx:has L x=true) {g:Gr}:g∈gW L x↔g∈L∧¬g.id=x:=by
 rw[qV,List.mem_eraseIdx_iff_getElem];constructor
 ·rintro⟨i,hi,hne,rfl⟩;refine⟨List.getElem_mem _,fun e=>hne ?_⟩;have h1:=List.pairwise_iff_getElem.1 ok.rise;have h2:(L.getD (pos L x) g0).id=x:=fN (aC hx);have h3:L.getD (pos L x) g0=L[pos L x]'(aC hx):=by simp[List.getD,aC hx]
  rw[h3] at h2;rcases Nat.lt_trichotomy i (pos L x) with h | h | h
  ·have:=h1 i (pos L x) (by simp[bK];omega) (by simp[bK];exact aC hx) h;simp[bK] at this;omega
  ·exact h
  ·have:=h1 (pos L x) i (by simp[bK];exact aC hx) (by simp[bK];omega) h;simp[bK] at this;omega
 ·rintro⟨hg,hne⟩;obtain⟨i,hi,rfl⟩:=List.getElem_of_mem hg;refine⟨i,hi,fun e=>hne ?_,rfl⟩;subst e;have h2:(L.getD (pos L x) g0).id=x:=fN (aC hx);have h3:L.getD (pos L x) g0=L[pos L x]'(aC hx):=by simp[List.getD,aC hx]
  rwa [h3] at h2
theorem nY (ok:Ok L m k):(bK (gW L x)).Pairwise (· < ·):=by
 rw[qV];unfold bK;exact ok.rise.sublist ((List.eraseIdx_sublist _ _).map _)
theorem dU (ok:Ok L m k) (hx:has L x=true) (y:Int):has (gW L x) y=(has L y&& !decide (y=x)):=by
 rw[Bool.eq_iff_iff,Bool.and_eq_true,Bool.not_eq_true',decide_eq_false_iff_not,jE,jE];constructor
 ·rintro⟨g,hg,rfl⟩;have:=(fy ok hx).1 hg;exact⟨⟨g,this.1,rfl⟩,this.2⟩
 ·rintro⟨⟨g,hg,rfl⟩,hne⟩;exact⟨g,(fy ok hx).2 ⟨hg,hne⟩,rfl⟩
theorem uP (ok:Ok L m k) (hx:has L x=true) {y:Int} (hy:has (gW L x) y=true):gr (gW L x) y=gr L y:=by
 have h1:=bd hy;have h2:=oN ok.rise ((fy ok hx).1 h1).1;rw[cV hy] at h2;exact h2.symm
theorem oe (ok:Ok L m k) (hx:has L x=true) (hf: ¬ 0<ce L x): ∀(n:Nat) (y:Int),¬y=x→dj (gW L x) n y=dj L n y
 | 0,_,_=>rfl
 | n+1,y,h=>by
  unfold dj;rw[dU ok hx,decide_eq_false h,Bool.not_false,Bool.and_true];split
  ·rename_i hy;have h1:has (gW L x) y=true:=by rw[dU ok hx,hy,decide_eq_false h];rfl
   have hm:=ok.num _ (bd hx);rw[uP ok hx h1,oe ok hx hf n _ (lN hf A3 hy)]
  ·rfl
theorem Ok.del (ok:Ok L m k) (hk:k<1000) (hx:has L x=true) (hf: ¬ 0<ce L x):Ok (gW L x) m (k+1):=by
 have hm:=ok.num _ (bd hx);refine⟨nY ok,fun y hy=>ok.lo y ((fy ok hx).1 hy).1,fun y hy=>ok.hi y ((fy ok hx).1 hy).1,ok.m0,by have:=ok.mle;omega,A3,fun y hy=>?_,fun y hy=>by have:=ok.num y ((fy ok hx).1 hy).1;omega,fun y=>?_,?_⟩
 ·have hyL:=((fy ok hx).1 hy).1;rcases ok.par y hyL with h | h
  ·exact .inl h
  ·refine .inr ?_;have h3:=lN hf A3 (jK hyL);rw[oN ok.rise hyL] at h3;rw[dU ok hx,h,decide_eq_false h3];rfl
 ·unfold pth;by_cases e:y=x
  ·subst e;unfold dj;rw[dU ok hx];simp
  ·rw[oe ok hx hf 9 y e];exact ok.deep y
 ·rw[qV];have:=List.length_eraseIdx_le L (pos L x);have:=ok.n64;omega
theorem oB {a b:List Int} (ha:a.Pairwise (· < ·)) (hb:b.Pairwise (· < ·)) (h: ∀x,x∈a↔x∈b):a=b:=
 dH ((List.perm_ext_iff_of_nodup (dE ha) (dE hb)).2 h) (ha.imp fun h=>A3) (hb.imp fun h=>A3)
theorem fv {l:List Int} {m:Int} (ok:Ok L m k) (hi:hU l=bK L):ft l m=decide (¬L.length=l.length)∧L.length≤l.length:=by
 have h1:(cS l).length=L.length:=by rw[←xj,hi];simp[bK]
 have h2:=ub l;have h3:(cS l).length<l.length↔0∈l:=by
  unfold cS;rw[List.length_filter_lt_length_iff_exists];constructor
  ·rintro⟨x,hx,h⟩;have:x=0:=BM
   exact this ▸ hx
  ·intro h;exact⟨0,h,B4⟩
 have h4:=ok.mle;have h5:=ok.k1;refine⟨?_,A3⟩;unfold ft;rw[decide_eq_decide,jL,←h3];omega
theorem tv {l:List Int} {m:Int} (ok:Ok L m k) (tok:cK l m) (hi:hU l=bK L) (hb:ft l m=true):hU (gV l m)=bK (addG L m p wt):=by
 have tok':=tok.add;refine oB (kp tok') (gq ok) fun y=>?_
 rw[kC,←hi,List.mem_append,gz,gz,List.mem_singleton];have hb':find l 0<l.length∧m<2147483648:=by simpa[ft] using hb
 have hm:=ok.m0;have e0:=eY hb'.1;unfold gV;rw[hb];simp only[if_true];constructor
 ·rintro⟨h1,h2⟩;rcases List.mem_or_eq_of_mem_set h1 with h | h
  ·exact .inl ⟨h,h2⟩
  ·exact .inr h
 ·rintro (⟨h1,h2⟩ | rfl)
  ·refine⟨?_,h2⟩;obtain⟨j,hj,rfl⟩:=eR h1;have hne: ¬find l 0=j:=fun e=>h2 (by rw[←e];exact e0)
   have:=cZ (l:=l.set (find l 0) (m+1)) (k:=j) (by rw[List.length_set];exact hj)
   rwa [cn,if_neg (fun h=>hne h.1)] at this
  ·refine⟨?_,A3⟩;have:=cZ (l:=l.set (find l 0) (m+1)) (k:=find l 0) (by rw[List.length_set];exact hb'.1)
   rwa [cn,if_pos ⟨rfl,hb'.1⟩] at this
theorem lJ {l:List Int} (hi:hU l=bK L):iE l x=has L x:=by
 rw[Bool.eq_iff_iff];unfold iE;rw[decide_eq_true_iff,jL,←gz,hi,cN]
theorem tQ {l:List Int} {m:Int} (ok:Ok L m k) (tok:cK l m) (hi:hU l=bK L) (hx:has L x=true):hU (fU l x)=bK (gW L x):=by
 have tok':=tok.drop x;have hb:iE l x=true:=by rw[lJ hi];exact hx
 have hb':find l x<l.length∧x≠0:=by simpa[iE] using hb
 have e0:=eY hb'.1;refine oB (kp tok') (nY ok) fun y=>?_
 rw[←cN,dU ok hx,Bool.and_eq_true,Bool.not_eq_true',decide_eq_false_iff_not,cN,←hi,gz,gz];unfold fU;rw[hb];simp only[if_true];constructor
 ·rintro⟨h1,h2⟩;obtain⟨j,hj,rfl⟩:=eR h1;rw[List.length_set] at hj;rw[cn] at h2 ⊢;split
  ·rename_i e;rw[if_pos e] at h2;exact absurd rfl h2
  ·rename_i e;rw[if_neg e] at h2;refine⟨⟨cZ hj,h2⟩,fun e2=>e ⟨?_,hj⟩⟩;exact tok.uniq _ _ hb'.1 hj (e0.trans e2.symm) (by rw[e0];exact hb'.2)
 ·rintro⟨⟨h1,h2⟩,h3⟩;refine⟨?_,h2⟩;obtain⟨j,hj,rfl⟩:=eR h1;have hne: ¬find l x=j:=fun e=>h3 (by rw[←e];exact e0)
  have:=cZ (l:=l.set (find l x) 0) (k:=j) (by rw[List.length_set];exact hj)
  rwa [cn,if_neg (fun h=>hne h.1)] at this
end
end Go.Proofs.YtohifgjeebhijaaGreatDoor
namespace Go.Proofs.YtohifgjeebhijaaGreatDoor
set_option maxRecDepth 100000
set_option maxHeartbeats 4000000
open Go.RowKit Go.Maps
structure Rdr (w:World) (fp:Nat) (L:List Gr):Prop where
 below: ∀(y t:Int) (W:World),I64 y→Below w.heap.size w W→Calls Tryz.prog 87 #[.pointer (some ⟨fp,0,none⟩),.int .i64 y,.int .i64 t] W fun e w'=>e= .returned (.bool (ag L y t))∧Below w.heap.size w w'
 depth: ∀(y:Int) (W:World),I64 y→Below w.heap.size w W→Calls Tryz.prog 82 #[.pointer (some ⟨fp,0,none⟩),.int .i64 y] W fun e w'=>e= .returned (.int .i64 (dep L y))∧Below w.heap.size w w'
 root: ∀(y:Int) (W:World),I64 y→has L y=true→Below w.heap.size w W→Calls Tryz.prog 86 #[.pointer (some ⟨fp,0,none⟩),.int .i64 y] W fun e w'=>e= .returned (.int .i64 (aZ L y))∧Below w.heap.size w w'
 fan: ∀(y:Int) (W:World),I64 y→has L y=true→Below w.heap.size w W→Calls Tryz.prog 83 #[.pointer (some ⟨fp,0,none⟩),.int .i64 y] W fun e w'=>e= .returned (.int .i64 (ce L y))∧Below w.heap.size w w'
 levels: ∀(y:Int) (W:World),I64 y→Below w.heap.size w W→Calls Tryz.prog 88 #[.pointer (some ⟨fp,0,none⟩),.int .i64 y] W fun e w'=>(∃(v:Int),e= .returned (.int .i64 v)∧0≤v∧v≤9∧∀p,decide (8<dep L p+v)=dB L y p)∧Below w.heap.size w w'
section
variable {w w':World} {B fp:Nat} {L:List Gr} {l:List Int} {m k:Int}
theorem Br {p:Prop} (h:p:=by rintro e w' ⟨rfl,hb⟩;exact⟨rfl,Below.stay hW hb⟩):p:=h
theorem IsF.rdr (h:IsF w B fp L l m k):Rdr w fp L where
 below:=fun y t W hy hW=>(ja fp B L l m k y t W (h.below hW) hy).mono Br
 depth:=fun y W hy hW=>(i5 fp B L l m k y W (h.below hW) hy).mono Br
 root:=fun y W hy hh hW=>(nW fp B L l m k y W (h.below hW) hy hh).mono Br
 fan:=fun y W hy hh hW=>(yj fp B L l m k y W (h.below hW) hy hh).mono Br
 levels:=fun y W hy hW=>(qD fp B L l m k y W (h.below hW) hy).mono (by
  rintro e w' ⟨⟨v,vs,rfl,hv,ha⟩,hb⟩;exact⟨⟨v,rfl,hv.v0,hv.le8 h.ok,fun p=>hv.deep h.ok ha⟩,Below.stay hW hb⟩)
theorem IsF.later (h:IsF w B fp L l m k) (hk:k<1000):IsF w B fp L l m (k+1):=⟨h.fo,h.tok,h.ids,h.ok.later hk⟩
theorem IsF.turned {tp tg mp:Nat} {bl:Int→Nat} {L':List Gr} {k':Int} (h:IsF w B fp L l m k) (hf:Fo w' fp tp tg mp bl L' l m) (hB:B≤tp∧B≤tg∧B≤mp∧∀x,has L x=true→B≤bl x) (hi:bK L'=bK L) (ok:Ok L' m k'):IsF w' B fp L' l m k':=
 ⟨⟨tp,tg,mp,bl,hf,hB.1,hB.2.1,hB.2.2.1,fun x hx=>hB.2.2.2 x (by rw[←qf hi];exact hx)⟩,h.tok,by rw[h.ids,hi],ok⟩
theorem IsF.act {tp tg mp:Nat} {bl:Int→Nat} {k' x:Int} {w1:World} {i:Nat} {v:Value} {g:Gr} (h:IsF w B fp L l m k) (hf:Fo w fp tp tg mp bl L l m) (hB:B≤tp∧B≤tg∧B≤mp∧∀x,has L x=true→B≤bl x)
  (hb:Below w.heap.size w w1) (hx:has L x=true) (hg:g.id=x) (hs:IsX (w1.setCell ⟨bl x,i,none⟩ v) (bl x) g) (ok:Ok (dT L x g) m k'):IsF (w1.setCell ⟨bl x,i,none⟩ v) B fp (dT L x g) l m k'∧Wr [118] B w (w1.setCell ⟨bl x,i,none⟩ v):=by
 have hf1:=hf.below hb;exact⟨h.turned (hf1.put hx hg hs) hB (fI hg) ok,(Wr.of_below hb).trans (Wr.setCell (hf1.grp x hx) B4 (hB.2.2.2 x hx) v)⟩
end
section
variable (fp B:Nat) (L:List Gr) (l:List Int) (m k:Int)
theorem Bj {p:Prop} (h:p:=by unfold aJ;rw[hc];rfl):p:=h
theorem Ae {p:Prop} (h:p:=by go_ret;rw[HC.out,HN.out];exact⟨rfl,HF.later HK.out,Wr.refl _⟩):p:=h
theorem nt (x wt:Int) (w:World) (h:IsF w B fp L l m k) (hx:I64 x) (hk:k<1000) (hh:has L x=false):
  Calls Tryz.prog 49 #[.pointer (some ⟨fp,0,none⟩),.int .i64 x,.int .i64 wt] w fun e w'=>e= .returned (.int .i64 (aT L x wt))∧IsF w' B fp (aJ L x wt) l m (k+1)∧Wr [118] B w w':=by
 have hc:aT L x wt=4:=by unfold aT;simp[hh]
 have HC:=Hd hc;have HN:Hid (aJ L x wt=L):=Hd Bj;obtain⟨tp,tg,mp,bl,hf,hB⟩:=h.fo;have h1:=hf.c1;have HL:=hf.lookN hx hh;have HF:=Hd h;have HG:=Hd hf;have HK:=Hd hk;have HB:=Hd hB;clear h hf hB hk hh hc;go_enter Tryz.func49,Tryz.ntmps49
 go_wp2_with fail
 exact Ae
theorem kU (x wt:Int) (w:World) (h:IsF w B fp L l m k) (hx:I64 x) (hk:k<1000) (hh:has L x=true) (hp:(gr L x).pa= -1):
  Calls Tryz.prog 49 #[.pointer (some ⟨fp,0,none⟩),.int .i64 x,.int .i64 wt] w fun e w'=>e= .returned (.int .i64 (aT L x wt))∧IsF w' B fp (aJ L x wt) l m (k+1)∧Wr [118] B w w':=by
 have hc:aT L x wt=15:=by unfold aT;simp[hh,hp]
 have HC:=Hd hc;have HN:Hid (aJ L x wt=L):=Hd Bj;obtain⟨tp,tg,mp,bl,hf,hB⟩:=h.fo;have h1:=hf.c1;have HL:=hf.lookY hx hh;have HF:=Hd h;have HG:=Hd hf;have HK:=Hd hk;have HB:=Hd hB;have q0:=(hf.grp x hh).c0;rw[hp] at q0;clear h hf hB hk hh hc hp;go_enter Tryz.func49,Tryz.ntmps49
 go_wp2_with fail
 exact Ae
theorem B6 {p:Prop} (h:p:=by rw[hh];decide):p:=h
theorem ly (x wt:Int) (w:World) (h:IsF w B fp L l m k) (hx:I64 x) (hk:k<1000) (hh:has L x=true) (hp:0≤(gr L x).pa) (hw: ¬(1≤wt∧wt≤10000)):
  Calls Tryz.prog 49 #[.pointer (some ⟨fp,0,none⟩),.int .i64 x,.int .i64 wt] w fun e w'=>e= .returned (.int .i64 (aT L x wt))∧IsF w' B fp (aJ L x wt) l m (k+1)∧Wr [118] B w w':=by
 have hc:aT L x wt=13:=by unfold aT;rw[if_neg B6,if_neg A3,if_pos hw]
 have HC:=Hd hc;have HN:Hid (aJ L x wt=L):=Hd Bj;obtain⟨tp,tg,mp,bl,hf,hB⟩:=h.fo;have h1:=hf.c1;have HL:=hf.lookY hx hh;have HF:=Hd h;have HG:=Hd hf;have HK:=Hd hk;have HB:=Hd hB;have q0:=(hf.grp x hh).c0;have hp2:=aB (show ¬(gr L x).pa= -1 by omega);have HW:Hid (decide (1≤wt∧wt≤10000)=false):=Hd (decide_eq_false hw);clear h hf hB hk hh hc hp hw;generalize (gr L x).pa=pa at *;go_enter Tryz.func49,Tryz.ntmps49
 go_wp2_with (go_at_call 81;refine(cR _ _).mono ?_;rw[HW.out];rintro e w1 ⟨rfl,rfl⟩)
 exact Ae
theorem lm (x wt:Int) (w:World) (h:IsF w B fp L l m k) (hx:I64 x) (hk:k<1000) (hh:has L x=true) (hp:0≤(gr L x).pa) (hw:1≤wt∧wt≤10000):
  Calls Tryz.prog 49 #[.pointer (some ⟨fp,0,none⟩),.int .i64 x,.int .i64 wt] w fun e w'=>e= .returned (.int .i64 (aT L x wt))∧IsF w' B fp (aJ L x wt) l m (k+1)∧Wr [118] B w w':=by
 have hc:aT L x wt=0:=by unfold aT;rw[if_neg B6,if_neg A3,if_neg A3]
 have HC:=Hd hc;have HN:Hid (aJ L x wt=fh L x wt):=Hd Bj;obtain⟨tp,tg,mp,bl,hf,hB⟩:=h.fo;have h1:=hf.c1;have HL:=hf.lookY hx hh;have HF:=Hd h;have HG:=Hd hf;have HK:=Hd hk;have HB:=Hd hB;have q0:=(hf.grp x hh).c0;have q1:=(hf.grp x hh).c1;have f1:=(hf.grp x hh).fz 1;have hp2:=aB (show ¬(gr L x).pa= -1 by omega);have HW:Hid (decide (1≤wt∧wt≤10000)=true):=Hd (decide_eq_true hw);have HOK:Ok (fh L x wt) m (k+1):=by have:=h.ok.weight (x:=x) (wt:=wt) hk;rwa [HN.out] at this
 have HS:IsX (w.setCell ⟨bl x,1,none⟩ (.int .i64 wt)) (bl x) ⟨x,(gr L x).pa,wt,(gr L x).me,(gr L x).aw⟩:=(hf.grp x hh).set1 wt;have HA:=Hd (h.act hf hB (Below.refl _ _) hh rfl HS HOK);clear h hf hB hk hh hc hp hw HOK HS;unfold fh at HN;generalize (gr L x).pa=pa at *;generalize (gr L x).wt=wt0 at *;go_enter Tryz.func49,Tryz.ntmps49
 go_wp2_with (go_at_call 81;refine(cR _ _).mono ?_;rw[HW.out];rintro e w1 ⟨rfl,rfl⟩)
 go_ret;rw[HC.out,HN.out];refine⟨rfl,?_⟩;exact HA.out
theorem lx (x wt:Int) (w:World) (h:IsF w B fp L l m k) (hx:I64 x) (hk:k<1000):
  Calls Tryz.prog 49 #[.pointer (some ⟨fp,0,none⟩),.int .i64 x,.int .i64 wt] w fun e w'=>e= .returned (.int .i64 (aT L x wt))∧IsF w' B fp (aJ L x wt) l m (k+1)∧Wr [118] B w w':=by
 cases hh:has L x with
 | false=>exact nt fp B L l m k x wt w h hx hk hh
 | true=>
  rcases h.ok.pa hh with hp | hp
  ·exact kU fp B L l m k x wt w h hx hk hh hp
  ·have:=h.ok.id hp;by_cases hw:1≤wt∧wt≤10000
   ·exact lm fp B L l m k x wt w h hx hk hh A3 hw
   ·exact ly fp B L l m k x wt w h hx hk hh A3 hw
theorem BF {p:Prop} (h:p:=by unfold aj;rw[hc];rfl):p:=h
theorem xR (x:Int) (w:World) (h:IsF w B fp L l m k) (hx:I64 x) (hk:k<1000) (hh:has L x=false):
  Calls Tryz.prog 51 #[.pointer (some ⟨fp,0,none⟩),.int .i64 x] w fun e w'=>e= .returned (.int .i64 (ap L x 1 0))∧IsF w' B fp (aj L x 1 0) l m (k+1)∧Wr [118] B w w':=by
 have hc:ap L x 1 0=4:=by unfold ap;simp[hh]
 have HC:=Hd hc;have HN:Hid (aj L x 1 0=L):=Hd BF;obtain⟨tp,tg,mp,bl,hf,hB⟩:=h.fo;have h1:=hf.c1;have HL:=hf.lookN hx hh;have HF:=Hd h;have HG:=Hd hf;have HK:=Hd hk;have HB:=Hd hB;clear h hf hB hk hh hc;go_enter Tryz.func51,Tryz.ntmps51
 go_wp2_with fail
 exact Ae
theorem Ah {p:Prop} (h:p:=by go_ret;rw[HC.out,HN.out];exact⟨rfl,(HF.below hbi).later HK.out,Wr.of_below hbi⟩):p:=h
theorem tX (x:Int) (w:World) (h:IsF w B fp L l m k) (hx:I64 x) (hk:k<1000) (hh:has L x=true) (hf32:ce L x=32):
  Calls Tryz.prog 51 #[.pointer (some ⟨fp,0,none⟩),.int .i64 x] w fun e w'=>e= .returned (.int .i64 (ap L x 1 0))∧IsF w' B fp (aj L x 1 0) l m (k+1)∧Wr [118] B w w':=by
 have hc:ap L x 1 0=6:=by unfold ap;rw[if_neg B6,if_pos ⟨BD,hf32⟩]
 have HC:=Hd hc;have HN:Hid (aj L x 1 0=L):=Hd BF;obtain⟨tp,tg,mp,bl,hf,hB⟩:=h.fo;have h1:=hf.c1;have HL:=hf.lookY hx hh;have HF:=Hd h;have HG:=Hd hf;have HK:=Hd hk;have HB:=Hd hB;have HR:=Hd h.rdr;have HH:=Hd hh;have HFA:=Hd hf32;have hb0:=Below.refl w.heap.size w;clear h hf hB hk hh hc hf32;go_enter Tryz.func51,Tryz.ntmps51
 go_wp2_with (go_at_call 83;refine(HR.fan _ _ A4 HH.out A4).mono ?_;rw[HFA.out];rintro e wi ⟨rfl,hbi⟩)
 exact Ah
theorem AF {p:Prop} (h:p:=by unfold IsX kF at this ⊢;simpa[Int.sub_eq_add_neg] using this):p:=h
theorem Am {p:Prop} (h:p:=by go_ret;rw[HC.out,HN.out];exact⟨rfl,HA.out _ (by assumption)⟩):p:=h
theorem vi (x:Int) (w:World) (h:IsF w B fp L l m k) (hx:I64 x) (hk:k<1000) (hh:has L x=true) (hf32: ¬ce L x=32):
  Calls Tryz.prog 51 #[.pointer (some ⟨fp,0,none⟩),.int .i64 x] w fun e w'=>e= .returned (.int .i64 (ap L x 1 0))∧IsF w' B fp (aj L x 1 0) l m (k+1)∧Wr [118] B w w':=by
 have hc:ap L x 1 0=0:=by unfold ap;have:=h.ok.num _ (bd hh);rw[if_neg B6,if_neg (fun e=>hf32 e.2),if_neg A3]
 have HC:=Hd hc;have HN:Hid (aj L x 1 0=cG L x 1 0):=Hd BF;obtain⟨tp,tg,mp,bl,hf,hB⟩:=h.fo;have h1:=hf.c1;have HL:=hf.lookY hx hh;have HF:=Hd h;have HG:=Hd hf;have HK:=Hd hk;have HB:=Hd hB;have hnum:=h.ok.num _ (bd hh);have hkk:=h.ok.k1;have HR:=Hd h.rdr;have HH:=Hd hh;have hb0:=Below.refl w.heap.size w;have HOK:Ok (cG L x 1 0) m (k+1):=by have:=h.ok.count (x:=x) (me:=1) (aw:=0) hk A3;rwa [HN.out] at this
 have HA:Hid (∀W:World,Below w.heap.size w W→IsF (W.setCell ⟨bl x,2,none⟩ (.int .i64 ((gr L x).me+1))) B fp (cG L x 1 0) l m (k+1)∧Wr [118] B w (W.setCell ⟨bl x,2,none⟩ (.int .i64 ((gr L x).me+1)))):=Hd fun W hW=>by
  refine h.act hf hB hW hh rfl ?_ HOK;have:=((hf.below hW).grp x hh).set2 ((gr L x).me+1);exact AF
 have HQ:Hid (∀W:World,Below w.heap.size w W→W.cell? ⟨bl x,2,none⟩=some (.int .i64 (gr L x).me)):=Hd fun W hW=>((hf.below hW).grp x hh).c2
 have hff:=aB hf32;generalize hme:(gr L x).me=me at *;obtain⟨n1,n2,n3,_⟩:=hnum;have n4:0≤me:=A3
 have n5:me≤1000:=A3
 clear n1 n2 n3 hkk hf32 hme;clear h hf hB hk hh hc HOK;go_enter Tryz.func51,Tryz.ntmps51
 go_wp2_with (go_at_call 83;refine(HR.fan _ _ A4 HH.out A4).mono ?_;rintro e wi ⟨rfl,hbi⟩;have hgi:=HG.below hbi;have q2:=HQ.out wi hbi;have f2:=(hgi.grp x HH.out).fz 2)
 exact Am
theorem xd (x:Int) (w:World) (h:IsF w B fp L l m k) (hx:I64 x) (hk:k<1000):
  Calls Tryz.prog 51 #[.pointer (some ⟨fp,0,none⟩),.int .i64 x] w fun e w'=>e= .returned (.int .i64 (ap L x 1 0))∧IsF w' B fp (aj L x 1 0) l m (k+1)∧Wr [118] B w w':=by
 cases hh:has L x with
 | false=>exact xR fp B L l m k x w h hx hk hh
 | true=>
  by_cases hf:ce L x=32
  ·exact tX fp B L l m k x w h hx hk hh hf
  ·exact vi fp B L l m k x w h hx hk hh hf
theorem uU (x:Int) (w:World) (h:IsF w B fp L l m k) (hx:I64 x) (hk:k<1000) (hh:has L x=false):
  Calls Tryz.prog 53 #[.pointer (some ⟨fp,0,none⟩),.int .i64 x] w fun e w'=>e= .returned (.int .i64 (ap L x (-1) 0))∧IsF w' B fp (aj L x (-1) 0) l m (k+1)∧Wr [118] B w w':=by
 have hc:ap L x (-1) 0=4:=by unfold ap;simp[hh]
 have HC:=Hd hc;have HN:Hid (aj L x (-1) 0=L):=Hd BF;obtain⟨tp,tg,mp,bl,hf,hB⟩:=h.fo;have h1:=hf.c1;have HL:=hf.lookN hx hh;have HF:=Hd h;have HG:=Hd hf;have HK:=Hd hk;have HB:=Hd hB;clear h hf hB hk hh hc;go_enter Tryz.func53,Tryz.ntmps53
 go_wp2_with fail
 exact Ae
theorem Cs {p:Prop} (h:p:=by unfold ap;rw[if_neg B6,if_neg (fun e=>absurd e.1 BD),if_pos A3]):p:=h
theorem Bl {p:Prop} (h:p:=by obtain⟨e3,e2⟩:=hX;go_simp):p:=h
theorem qK (x:Int) (w:World) (h:IsF w B fp L l m k) (hx:I64 x) (hk:k<1000) (hh:has L x=true) (he:(gr L x).aw=(gr L x).me):
  Calls Tryz.prog 53 #[.pointer (some ⟨fp,0,none⟩),.int .i64 x] w fun e w'=>e= .returned (.int .i64 (ap L x (-1) 0))∧IsF w' B fp (aj L x (-1) 0) l m (k+1)∧Wr [118] B w w':=by
 have hc:ap L x (-1) 0=10:=Cs
 have HC:=Hd hc;have HN:Hid (aj L x (-1) 0=L):=Hd BF;obtain⟨tp,tg,mp,bl,hf,hB⟩:=h.fo;have h1:=hf.c1;have HL:=hf.lookY hx hh;have HF:=Hd h;have HG:=Hd hf;have HK:=Hd hk;have HB:=Hd hB;have q2:=(hf.grp x hh).c2;have q3:=(hf.grp x hh).c3;rw[he] at q3;have f2:=(hf.grp x hh).fz 2;have f3:=(hf.grp x hh).fz 3;have hee:((gr L x).me==(gr L x).me)=true:=B4
 generalize (gr L x).me=me at *;clear h hf hB hk hh hc he;go_enter Tryz.func53,Tryz.ntmps53
 go_wp2_with fail
 have hbi:Below w.heap.size w w.drew:=(eQ.drew w).below _;have q2:w.drew.cell? ⟨bl x,2,none⟩=some (.int .i64 me):=q2;have q3:w.drew.cell? ⟨bl x,3,none⟩=some (.int .i64 me):=q3;have f2:w.drew.frozen? ⟨bl x,2,none⟩=false:=f2;have f3:w.drew.frozen? ⟨bl x,3,none⟩=false:=f3;refine Rd.rg (fun X=>X.cell? ⟨bl x,3,none⟩=some (.int .i64 me)∧X.cell? ⟨bl x,2,none⟩=some (.int .i64 me)) 10 [0,1,2,3,4,5,6,7,8,9] [0,1,2,3,4,5,6,7,8,9] ⟨q3,q2⟩ ?_;generalize w.drew=w3 at *;refine Rd.sf (.pointer (some ⟨bl x,0,none⟩)) ?_;refine Rd.sf (.pointer (some ⟨bl x,0,none⟩)) ?_;refine Rd.sf (.pointer (some ⟨bl x,3,none⟩)) ?_;refine Rd.sg (.int .i64 me) ?_ (y:=fun X hX=>Bl);refine Rd.sf (.pointer (some ⟨bl x,0,none⟩)) ?_;refine Rd.sf (.pointer (some ⟨bl x,0,none⟩)) ?_;refine Rd.sf (.pointer (some ⟨bl x,2,none⟩)) ?_;refine Rd.sg (.int .i64 me) ?_ (y:=fun X hX=>Bl);refine Rd.sf (.bool true) ?_;refine Rd.sf (.bool true) ?_;refine Rd.seq_end ?_
 go_wp2_with fail
 exact Ah
theorem Cr {p:Prop} (h:p:=by unfold ap;have:=h.ok.num _ (bd hh);rw[if_neg B6,if_neg (fun e=>absurd e.1 BD),if_neg A3]):p:=h
theorem sq (x:Int) (w:World) (h:IsF w B fp L l m k) (hx:I64 x) (hk:k<1000) (hh:has L x=true) (hne: ¬(gr L x).aw=(gr L x).me):
  Calls Tryz.prog 53 #[.pointer (some ⟨fp,0,none⟩),.int .i64 x] w fun e w'=>e= .returned (.int .i64 (ap L x (-1) 0))∧IsF w' B fp (aj L x (-1) 0) l m (k+1)∧Wr [118] B w w':=by
 have hc:ap L x (-1) 0=0:=Cr
 have HC:=Hd hc;have HN:Hid (aj L x (-1) 0=cG L x (-1) 0):=Hd BF;obtain⟨tp,tg,mp,bl,hf,hB⟩:=h.fo;have h1:=hf.c1;have HL:=hf.lookY hx hh;have HF:=Hd h;have HG:=Hd hf;have HK:=Hd hk;have HB:=Hd hB;have hnum:=h.ok.num _ (bd hh);have hkk:=h.ok.k1;have HR:=Hd h.rdr;have HH:=Hd hh;have hb0:=Below.refl w.heap.size w;have HOK:Ok (cG L x (-1) 0) m (k+1):=by have:=h.ok.count (x:=x) (me:=(-1)) (aw:=0) hk A3;rwa [HN.out] at this
 have HA:Hid (∀W:World,Below w.heap.size w W→IsF (W.setCell ⟨bl x,2,none⟩ (.int .i64 ((gr L x).me - 1))) B fp (cG L x (-1) 0) l m (k+1)∧Wr [118] B w (W.setCell ⟨bl x,2,none⟩ (.int .i64 ((gr L x).me - 1)))):=Hd fun W hW=>by
  refine h.act hf hB hW hh rfl ?_ HOK;have:=((hf.below hW).grp x hh).set2 ((gr L x).me - 1);exact AF
 have q2:=(hf.grp x hh).c2;have q3:=(hf.grp x hh).c3;have f2:=(hf.grp x hh).fz 2;have f3:=(hf.grp x hh).fz 3;have hne2:((gr L x).aw==(gr L x).me)=false:=aB A3;generalize (gr L x).me=me at *;generalize (gr L x).aw=aw at *;obtain⟨n1,n2,n3,_⟩:=hnum;have n4:0≤me:=A3
 have n5:me≤1000:=A3
 have n6:aw≤1000:=A3
 clear n3 hkk hne;clear h hf hB hk hh hc HOK;go_enter Tryz.func53,Tryz.ntmps53
 go_wp2_with fail
 have hbi:Below w.heap.size w w.drew:=(eQ.drew w).below _;have q2:w.drew.cell? ⟨bl x,2,none⟩=some (.int .i64 me):=q2;have q3:w.drew.cell? ⟨bl x,3,none⟩=some (.int .i64 aw):=q3;have f2:w.drew.frozen? ⟨bl x,2,none⟩=false:=f2;have f3:w.drew.frozen? ⟨bl x,3,none⟩=false:=f3;refine Rd.rg (fun X=>X.cell? ⟨bl x,3,none⟩=some (.int .i64 aw)∧X.cell? ⟨bl x,2,none⟩=some (.int .i64 me)) 10 [0,1,2,3,4,5,6,7,8,9] [0,1,2,3,4,5,6,7,8,9] ⟨q3,q2⟩ ?_;generalize w.drew=w3 at *;refine Rd.sf (.pointer (some ⟨bl x,0,none⟩)) ?_;refine Rd.sf (.pointer (some ⟨bl x,0,none⟩)) ?_;refine Rd.sf (.pointer (some ⟨bl x,3,none⟩)) ?_;refine Rd.sg (.int .i64 aw) ?_ (y:=fun X hX=>Bl);refine Rd.sf (.pointer (some ⟨bl x,0,none⟩)) ?_;refine Rd.sf (.pointer (some ⟨bl x,0,none⟩)) ?_;refine Rd.sf (.pointer (some ⟨bl x,2,none⟩)) ?_;refine Rd.sg (.int .i64 me) ?_ (y:=fun X hX=>Bl);refine Rd.sf (.bool false) ?_;refine Rd.sf (.bool false) ?_;refine Rd.seq_end ?_
 go_wp2_with fail
 exact Am
theorem tP (x:Int) (w:World) (h:IsF w B fp L l m k) (hx:I64 x) (hk:k<1000):
  Calls Tryz.prog 53 #[.pointer (some ⟨fp,0,none⟩),.int .i64 x] w fun e w'=>e= .returned (.int .i64 (ap L x (-1) 0))∧IsF w' B fp (aj L x (-1) 0) l m (k+1)∧Wr [118] B w w':=by
 cases hh:has L x with
 | false=>exact uU fp B L l m k x w h hx hk hh
 | true=>
  by_cases hf:(gr L x).aw=(gr L x).me
  ·exact qK fp B L l m k x w h hx hk hh hf
  ·exact sq fp B L l m k x w h hx hk hh hf
theorem xA (x:Int) (w:World) (h:IsF w B fp L l m k) (hx:I64 x) (hk:k<1000) (hh:has L x=false):
  Calls Tryz.prog 54 #[.pointer (some ⟨fp,0,none⟩),.int .i64 x] w fun e w'=>e= .returned (.int .i64 (ap L x 0 1))∧IsF w' B fp (aj L x 0 1) l m (k+1)∧Wr [118] B w w':=by
 have hc:ap L x 0 1=4:=by unfold ap;simp[hh]
 have HC:=Hd hc;have HN:Hid (aj L x 0 1=L):=Hd BF;obtain⟨tp,tg,mp,bl,hf,hB⟩:=h.fo;have h1:=hf.c1;have HL:=hf.lookN hx hh;have HF:=Hd h;have HG:=Hd hf;have HK:=Hd hk;have HB:=Hd hB;clear h hf hB hk hh hc;go_enter Tryz.func54,Tryz.ntmps54
 go_wp2_with fail
 exact Ae
theorem s4 (x:Int) (w:World) (h:IsF w B fp L l m k) (hx:I64 x) (hk:k<1000) (hh:has L x=true) (he:(gr L x).aw=(gr L x).me):
  Calls Tryz.prog 54 #[.pointer (some ⟨fp,0,none⟩),.int .i64 x] w fun e w'=>e= .returned (.int .i64 (ap L x 0 1))∧IsF w' B fp (aj L x 0 1) l m (k+1)∧Wr [118] B w w':=by
 have hc:ap L x 0 1=10:=Cs
 have HC:=Hd hc;have HN:Hid (aj L x 0 1=L):=Hd BF;obtain⟨tp,tg,mp,bl,hf,hB⟩:=h.fo;have h1:=hf.c1;have HL:=hf.lookY hx hh;have HF:=Hd h;have HG:=Hd hf;have HK:=Hd hk;have HB:=Hd hB;have q2:=(hf.grp x hh).c2;have q3:=(hf.grp x hh).c3;rw[he] at q3;have f2:=(hf.grp x hh).fz 2;have f3:=(hf.grp x hh).fz 3;have hee:((gr L x).me==(gr L x).me)=true:=B4
 generalize (gr L x).me=me at *;clear h hf hB hk hh hc he;go_enter Tryz.func54,Tryz.ntmps54
 go_wp2_with fail
 have hbi:Below w.heap.size w w.drew:=(eQ.drew w).below _;have q2:w.drew.cell? ⟨bl x,2,none⟩=some (.int .i64 me):=q2;have q3:w.drew.cell? ⟨bl x,3,none⟩=some (.int .i64 me):=q3;have f2:w.drew.frozen? ⟨bl x,2,none⟩=false:=f2;have f3:w.drew.frozen? ⟨bl x,3,none⟩=false:=f3;refine Rd.rg (fun X=>X.cell? ⟨bl x,3,none⟩=some (.int .i64 me)∧X.cell? ⟨bl x,2,none⟩=some (.int .i64 me)) 10 [0,1,2,3,4,5,6,7,8,9] [0,1,2,3,4,5,6,7,8,9] ⟨q3,q2⟩ ?_;generalize w.drew=w3 at *;refine Rd.sf (.pointer (some ⟨bl x,0,none⟩)) ?_;refine Rd.sf (.pointer (some ⟨bl x,0,none⟩)) ?_;refine Rd.sf (.pointer (some ⟨bl x,3,none⟩)) ?_;refine Rd.sg (.int .i64 me) ?_ (y:=fun X hX=>Bl);refine Rd.sf (.pointer (some ⟨bl x,0,none⟩)) ?_;refine Rd.sf (.pointer (some ⟨bl x,0,none⟩)) ?_;refine Rd.sf (.pointer (some ⟨bl x,2,none⟩)) ?_;refine Rd.sg (.int .i64 me) ?_ (y:=fun X hX=>Bl);refine Rd.sf (.bool true) ?_;refine Rd.sf (.bool true) ?_;refine Rd.seq_end ?_
 go_wp2_with fail
 exact Ah
theorem wU (x:Int) (w:World) (h:IsF w B fp L l m k) (hx:I64 x) (hk:k<1000) (hh:has L x=true) (hne: ¬(gr L x).aw=(gr L x).me):
  Calls Tryz.prog 54 #[.pointer (some ⟨fp,0,none⟩),.int .i64 x] w fun e w'=>e= .returned (.int .i64 (ap L x 0 1))∧IsF w' B fp (aj L x 0 1) l m (k+1)∧Wr [118] B w w':=by
 have hc:ap L x 0 1=0:=Cr
 have HC:=Hd hc;have HN:Hid (aj L x 0 1=cG L x 0 1):=Hd BF;obtain⟨tp,tg,mp,bl,hf,hB⟩:=h.fo;have h1:=hf.c1;have HL:=hf.lookY hx hh;have HF:=Hd h;have HG:=Hd hf;have HK:=Hd hk;have HB:=Hd hB;have hnum:=h.ok.num _ (bd hh);have hkk:=h.ok.k1;have HR:=Hd h.rdr;have HH:=Hd hh;have hb0:=Below.refl w.heap.size w;have HOK:Ok (cG L x 0 1) m (k+1):=by have:=h.ok.count (x:=x) (me:=0) (aw:=1) hk A3;rwa [HN.out] at this
 have HA:Hid (∀W:World,Below w.heap.size w W→IsF (W.setCell ⟨bl x,3,none⟩ (.int .i64 ((gr L x).aw+1))) B fp (cG L x 0 1) l m (k+1)∧Wr [118] B w (W.setCell ⟨bl x,3,none⟩ (.int .i64 ((gr L x).aw+1)))):=Hd fun W hW=>by
  refine h.act hf hB hW hh rfl ?_ HOK;have:=((hf.below hW).grp x hh).set3 ((gr L x).aw+1);exact AF
 have q2:=(hf.grp x hh).c2;have q3:=(hf.grp x hh).c3;have f2:=(hf.grp x hh).fz 2;have f3:=(hf.grp x hh).fz 3;have hne2:((gr L x).aw==(gr L x).me)=false:=aB A3;generalize (gr L x).me=me at *;generalize (gr L x).aw=aw at *;obtain⟨n1,n2,n3,_⟩:=hnum;have n4:0≤me:=A3
 have n5:me≤1000:=A3
 have n6:aw≤1000:=A3
 clear n3 hkk hne;clear h hf hB hk hh hc HOK;go_enter Tryz.func54,Tryz.ntmps54
 go_wp2_with fail
 have hbi:Below w.heap.size w w.drew:=(eQ.drew w).below _;have q2:w.drew.cell? ⟨bl x,2,none⟩=some (.int .i64 me):=q2;have q3:w.drew.cell? ⟨bl x,3,none⟩=some (.int .i64 aw):=q3;have f2:w.drew.frozen? ⟨bl x,2,none⟩=false:=f2;have f3:w.drew.frozen? ⟨bl x,3,none⟩=false:=f3;refine Rd.rg (fun X=>X.cell? ⟨bl x,3,none⟩=some (.int .i64 aw)∧X.cell? ⟨bl x,2,none⟩=some (.int .i64 me)) 10 [0,1,2,3,4,5,6,7,8,9] [0,1,2,3,4,5,6,7,8,9] ⟨q3,q2⟩ ?_;generalize w.drew=w3 at *;refine Rd.sf (.pointer (some ⟨bl x,0,none⟩)) ?_;refine Rd.sf (.pointer (some ⟨bl x,0,none⟩)) ?_;refine Rd.sf (.pointer (some ⟨bl x,3,none⟩)) ?_;refine Rd.sg (.int .i64 aw) ?_ (y:=fun X hX=>Bl);refine Rd.sf (.pointer (some ⟨bl x,0,none⟩)) ?_;refine Rd.sf (.pointer (some ⟨bl x,0,none⟩)) ?_;refine Rd.sf (.pointer (some ⟨bl x,2,none⟩)) ?_;refine Rd.sg (.int .i64 me) ?_ (y:=fun X hX=>Bl);refine Rd.sf (.bool false) ?_;refine Rd.sf (.bool false) ?_;refine Rd.seq_end ?_
 go_wp2_with fail
 exact Am
theorem xe (x:Int) (w:World) (h:IsF w B fp L l m k) (hx:I64 x) (hk:k<1000):
  Calls Tryz.prog 54 #[.pointer (some ⟨fp,0,none⟩),.int .i64 x] w fun e w'=>e= .returned (.int .i64 (ap L x 0 1))∧IsF w' B fp (aj L x 0 1) l m (k+1)∧Wr [118] B w w':=by
 cases hh:has L x with
 | false=>exact xA fp B L l m k x w h hx hk hh
 | true=>
  by_cases hf:(gr L x).aw=(gr L x).me
  ·exact s4 fp B L l m k x w h hx hk hh hf
  ·exact wU fp B L l m k x w h hx hk hh hf
theorem xb (x:Int) (w:World) (h:IsF w B fp L l m k) (hx:I64 x) (hk:k<1000) (hh:has L x=false):
  Calls Tryz.prog 55 #[.pointer (some ⟨fp,0,none⟩),.int .i64 x] w fun e w'=>e= .returned (.int .i64 (ap L x 0 (-1)))∧IsF w' B fp (aj L x 0 (-1)) l m (k+1)∧Wr [118] B w w':=by
 have hc:ap L x 0 (-1)=4:=by unfold ap;simp[hh]
 have HC:=Hd hc;have HN:Hid (aj L x 0 (-1)=L):=Hd BF;obtain⟨tp,tg,mp,bl,hf,hB⟩:=h.fo;have h1:=hf.c1;have HL:=hf.lookN hx hh;have HF:=Hd h;have HG:=Hd hf;have HK:=Hd hk;have HB:=Hd hB;clear h hf hB hk hh hc;go_enter Tryz.func55,Tryz.ntmps55
 go_wp2_with fail
 exact Ae
theorem qO (x:Int) (w:World) (h:IsF w B fp L l m k) (hx:I64 x) (hk:k<1000) (hh:has L x=true) (he:(gr L x).aw=0):
  Calls Tryz.prog 55 #[.pointer (some ⟨fp,0,none⟩),.int .i64 x] w fun e w'=>e= .returned (.int .i64 (ap L x 0 (-1)))∧IsF w' B fp (aj L x 0 (-1)) l m (k+1)∧Wr [118] B w w':=by
 have hc:ap L x 0 (-1)=10:=Cs
 have HC:=Hd hc;have HN:Hid (aj L x 0 (-1)=L):=Hd BF;obtain⟨tp,tg,mp,bl,hf,hB⟩:=h.fo;have h1:=hf.c1;have HL:=hf.lookY hx hh;have HF:=Hd h;have HG:=Hd hf;have HK:=Hd hk;have HB:=Hd hB;have q3:=(hf.grp x hh).c3;rw[he] at q3;clear h hf hB hk hh hc he;go_enter Tryz.func55,Tryz.ntmps55
 go_wp2_with fail
 exact Ae
theorem tz (x:Int) (w:World) (h:IsF w B fp L l m k) (hx:I64 x) (hk:k<1000) (hh:has L x=true) (hne: ¬(gr L x).aw=0):
  Calls Tryz.prog 55 #[.pointer (some ⟨fp,0,none⟩),.int .i64 x] w fun e w'=>e= .returned (.int .i64 (ap L x 0 (-1)))∧IsF w' B fp (aj L x 0 (-1)) l m (k+1)∧Wr [118] B w w':=by
 have hc:ap L x 0 (-1)=0:=Cr
 have HC:=Hd hc;have HN:Hid (aj L x 0 (-1)=cG L x 0 (-1)):=Hd BF;obtain⟨tp,tg,mp,bl,hf,hB⟩:=h.fo;have h1:=hf.c1;have HL:=hf.lookY hx hh;have HF:=Hd h;have HG:=Hd hf;have HK:=Hd hk;have HB:=Hd hB;have hnum:=h.ok.num _ (bd hh);have hkk:=h.ok.k1;have HR:=Hd h.rdr;have HH:=Hd hh;have hb0:=Below.refl w.heap.size w;have HOK:Ok (cG L x 0 (-1)) m (k+1):=by have:=h.ok.count (x:=x) (me:=0) (aw:=(-1)) hk A3;rwa [HN.out] at this
 have HA:Hid (∀W:World,Below w.heap.size w W→IsF (W.setCell ⟨bl x,3,none⟩ (.int .i64 ((gr L x).aw - 1))) B fp (cG L x 0 (-1)) l m (k+1)∧Wr [118] B w (W.setCell ⟨bl x,3,none⟩ (.int .i64 ((gr L x).aw - 1)))):=Hd fun W hW=>by
  refine h.act hf hB hW hh rfl ?_ HOK;have:=((hf.below hW).grp x hh).set3 ((gr L x).aw - 1);exact AF
 have q2:=(hf.grp x hh).c2;have q3:=(hf.grp x hh).c3;have f2:=(hf.grp x hh).fz 2;have f3:=(hf.grp x hh).fz 3;have hne2:((gr L x).aw==0)=false:=aB A3;generalize (gr L x).me=me at *;generalize (gr L x).aw=aw at *;obtain⟨n1,n2,n3,_⟩:=hnum;have n4:0≤me:=A3
 have n5:me≤1000:=A3
 have n6:aw≤1000:=A3
 clear n3 hkk hne;clear h hf hB hk hh hc HOK;go_enter Tryz.func55,Tryz.ntmps55
 go_wp2_with fail
 exact Am
theorem sp (x:Int) (w:World) (h:IsF w B fp L l m k) (hx:I64 x) (hk:k<1000):
  Calls Tryz.prog 55 #[.pointer (some ⟨fp,0,none⟩),.int .i64 x] w fun e w'=>e= .returned (.int .i64 (ap L x 0 (-1)))∧IsF w' B fp (aj L x 0 (-1)) l m (k+1)∧Wr [118] B w w':=by
 cases hh:has L x with
 | false=>exact xb fp B L l m k x w h hx hk hh
 | true=>
  by_cases hf:(gr L x).aw=0
  ·exact qO fp B L l m k x w h hx hk hh hf
  ·exact tz fp B L l m k x w h hx hk hh hf
end
section
variable (fp B:Nat) (L:List Gr) (l:List Int) (m k:Int)
theorem A8 {p:Prop} (h:p:=by unfold aM;rw[hc];rfl):p:=h
theorem wF (x p:Int) (w:World) (h:IsF w B fp L l m k) (hx:I64 x) (hk:k<1000) (hh:has L x=false):
  Calls Tryz.prog 47 #[.pointer (some ⟨fp,0,none⟩),.int .i64 x,.int .i64 p] w fun e w'=>e= .returned (.int .i64 (aP L x p))∧IsF w' B fp (aM L x p) l m (k+1)∧Wr [118] B w w':=by
 have hc:aP L x p=4:=by unfold aP;rw[if_pos (.inl hh)]
 have HC:=Hd hc;have HN:Hid (aM L x p=L):=Hd A8;obtain⟨tp,tg,mp,bl,hf,hB⟩:=h.fo;have h1:=hf.c1;have HL:=hf.lookN hx hh;have HH:=Hd hh;have HF:=Hd h;have HG:=Hd hf;have HK:=Hd hk;have HR:=Hd h.rdr;have hb0:=Below.refl w.heap.size w;clear h hf hB hk hh hc;go_enter Tryz.func47,Tryz.ntmps47
 go_wp2_with fail
 exact Ae
theorem vk (x p:Int) (w:World) (h:IsF w B fp L l m k) (hx:I64 x) (hp:I64 p) (hk:k<1000) (hh:has L x=true) (hq:has L p=false):
  Calls Tryz.prog 47 #[.pointer (some ⟨fp,0,none⟩),.int .i64 x,.int .i64 p] w fun e w'=>e= .returned (.int .i64 (aP L x p))∧IsF w' B fp (aM L x p) l m (k+1)∧Wr [118] B w w':=by
 have hc:aP L x p=4:=by unfold aP;rw[if_pos (.inr hq)]
 have HC:=Hd hc;have HN:Hid (aM L x p=L):=Hd A8;obtain⟨tp,tg,mp,bl,hf,hB⟩:=h.fo;have h1:=hf.c1;have HL:=hf.lookY hx hh;have HLp:=hf.lookN hp hq;have HQ:=Hd hq;have HH:=Hd hh;have HF:=Hd h;have HG:=Hd hf;have HK:=Hd hk;have HR:=Hd h.rdr;have hb0:=Below.refl w.heap.size w;clear h hf hB hk hh hc hq;go_enter Tryz.func47,Tryz.ntmps47
 go_wp2_with fail
 exact Ae
theorem BJ {p:Prop} (h:p:=by rw[hh,hq];decide):p:=h
theorem tt (x p:Int) (w:World) (h:IsF w B fp L l m k) (hx:I64 x) (hp:I64 p) (hk:k<1000) (hh:has L x=true) (hq:has L p=true) (hp1:(gr L x).pa= -1):
  Calls Tryz.prog 47 #[.pointer (some ⟨fp,0,none⟩),.int .i64 x,.int .i64 p] w fun e w'=>e= .returned (.int .i64 (aP L x p))∧IsF w' B fp (aM L x p) l m (k+1)∧Wr [118] B w w':=by
 have hc:aP L x p=15:=by unfold aP;rw[if_neg BJ,if_pos A3]
 have HC:=Hd hc;have HN:Hid (aM L x p=L):=Hd A8;obtain⟨tp,tg,mp,bl,hf,hB⟩:=h.fo;have h1:=hf.c1;have HL:=hf.lookY hx hh;have HLp:=hf.lookY hp hq;have HQ:=Hd hq;have HH:=Hd hh;have HF:=Hd h;have HG:=Hd hf;have HK:=Hd hk;have HR:=Hd h.rdr;have hb0:=Below.refl w.heap.size w;have q0:=(hf.grp x hh).c0;rw[hp1] at q0;clear h hf hB hk hh hc hq hp1;go_enter Tryz.func47,Tryz.ntmps47
 go_wp2_with fail
 exact Ae
theorem BK {p:Prop} (h:p:=by first | exact HH.out | exact HQ.out):p:=h
theorem o4 (x p:Int) (w:World) (h:IsF w B fp L l m k) (hx:I64 x) (hp:I64 p) (hk:k<1000) (hh:has L x=true) (hq:has L p=true) (hp1:0≤(gr L x).pa) (ht: ¬aZ L x=aZ L p):
  Calls Tryz.prog 47 #[.pointer (some ⟨fp,0,none⟩),.int .i64 x,.int .i64 p] w fun e w'=>e= .returned (.int .i64 (aP L x p))∧IsF w' B fp (aM L x p) l m (k+1)∧Wr [118] B w w':=by
 have hc:aP L x p=5:=by unfold aP;rw[if_neg BJ,if_neg A3,if_pos ht]
 have HC:=Hd hc;have HN:Hid (aM L x p=L):=Hd A8;obtain⟨tp,tg,mp,bl,hf,hB⟩:=h.fo;have h1:=hf.c1;have HL:=hf.lookY hx hh;have HLp:=hf.lookY hp hq;have HQ:=Hd hq;have HH:=Hd hh;have HF:=Hd h;have HG:=Hd hf;have HK:=Hd hk;have HR:=Hd h.rdr;have hb0:=Below.refl w.heap.size w;have HPA:Hid (∀W:World,Below w.heap.size w W→W.cell? ⟨bl x,0,none⟩=some (.int .i64 (gr L x).pa)):=Hd fun W hW=>((hf.below hW).grp x hh).c0
 have q0:=(hf.grp x hh).c0;have hpa2:=aB (show ¬(gr L x).pa= -1 by omega);have ht2:=aB ht;clear h hf hB hk hh hc hq hp1;generalize (gr L x).pa=pa at *;go_enter Tryz.func47,Tryz.ntmps47
 go_wp2_with (go_at_call 86;refine(HR.root _ _ A4 BK A4).mono ?_;rintro e wi ⟨rfl,hbi⟩)
 exact Ah
theorem sT (x p:Int) (w:World) (h:IsF w B fp L l m k) (hx:I64 x) (hp:I64 p) (hk:k<1000) (hh:has L x=true) (hq:has L p=true) (hp1:0≤(gr L x).pa) (ht:aZ L x=aZ L p) (hbe:ag L p x=true):
  Calls Tryz.prog 47 #[.pointer (some ⟨fp,0,none⟩),.int .i64 x,.int .i64 p] w fun e w'=>e= .returned (.int .i64 (aP L x p))∧IsF w' B fp (aM L x p) l m (k+1)∧Wr [118] B w w':=by
 have hc:aP L x p=12:=by unfold aP;rw[if_neg BJ,if_neg A3,if_neg (fun e=>e ht),if_pos hbe]
 have HC:=Hd hc;have HN:Hid (aM L x p=L):=Hd A8;obtain⟨tp,tg,mp,bl,hf,hB⟩:=h.fo;have h1:=hf.c1;have HL:=hf.lookY hx hh;have HLp:=hf.lookY hp hq;have HQ:=Hd hq;have HH:=Hd hh;have HF:=Hd h;have HG:=Hd hf;have HK:=Hd hk;have HR:=Hd h.rdr;have hb0:=Below.refl w.heap.size w;have HPA:Hid (∀W:World,Below w.heap.size w W→W.cell? ⟨bl x,0,none⟩=some (.int .i64 (gr L x).pa)):=Hd fun W hW=>((hf.below hW).grp x hh).c0
 have q0:=(hf.grp x hh).c0;have hpa2:=aB (show ¬(gr L x).pa= -1 by omega);have HBE:=Hd hbe;clear h hf hB hk hh hc hq hp1 hbe;generalize (gr L x).pa=pa at *;go_enter Tryz.func47,Tryz.ntmps47
 go_wp2_with (first | (go_at_call 86;refine(HR.root _ _ A4 BK A4).mono ?_;rintro e wi ⟨rfl,hbi⟩) | (go_at_call 87;refine(HR.below _ _ _ A4 A4).mono ?_;rw[HBE.out];rintro e wi ⟨rfl,hbi⟩))
 exact Ah
theorem Co {p:Prop} (h:p:=by unfold aP;rw[if_neg BJ,if_neg A3,if_neg (fun e=>e ht),if_neg (by rw[hbe];decide),if_pos hde]):p:=h
theorem sQ (x p:Int) (w:World) (h:IsF w B fp L l m k) (hx:I64 x) (hp:I64 p) (hk:k<1000) (hh:has L x=true) (hq:has L p=true) (hp1:0≤(gr L x).pa) (ht:aZ L x=aZ L p) (hbe:ag L p x=false) (hde:dB L x p=true):
  Calls Tryz.prog 47 #[.pointer (some ⟨fp,0,none⟩),.int .i64 x,.int .i64 p] w fun e w'=>e= .returned (.int .i64 (aP L x p))∧IsF w' B fp (aM L x p) l m (k+1)∧Wr [118] B w w':=by
 have hc:aP L x p=7:=Co
 have HC:=Hd hc;have HN:Hid (aM L x p=L):=Hd A8;obtain⟨tp,tg,mp,bl,hf,hB⟩:=h.fo;have h1:=hf.c1;have HL:=hf.lookY hx hh;have HLp:=hf.lookY hp hq;have HQ:=Hd hq;have HH:=Hd hh;have HF:=Hd h;have HG:=Hd hf;have HK:=Hd hk;have HR:=Hd h.rdr;have hb0:=Below.refl w.heap.size w;have HPA:Hid (∀W:World,Below w.heap.size w W→W.cell? ⟨bl x,0,none⟩=some (.int .i64 (gr L x).pa)):=Hd fun W hW=>((hf.below hW).grp x hh).c0
 have q0:=(hf.grp x hh).c0;have hpa2:=aB (show ¬(gr L x).pa= -1 by omega);have hd8:=h.ok.dep8 p;have HBE:=Hd hbe;have HDE:=Hd hde;clear h hf hB hk hh hc hq hp1 hbe hde;generalize (gr L x).pa=pa at *;go_enter Tryz.func47,Tryz.ntmps47
 go_wp2_with (first | (go_at_call 86;refine(HR.root _ _ A4 BK A4).mono ?_;rintro e wi ⟨rfl,hbi⟩) | (go_at_call 87;refine(HR.below _ _ _ A4 A4).mono ?_;rw[HBE.out];rintro e wi ⟨rfl,hbi⟩) | (go_at_call 82;refine(HR.depth _ _ A4 A4).mono ?_;rintro e wi ⟨rfl,hbi⟩) | (go_at_call 88;refine(HR.levels _ _ A4 A4).mono ?_;rintro e wi ⟨⟨v,rfl,hv0,hv9,HV⟩,hbi⟩;have hv:=(HV p).trans HDE.out;clear HV;replace hv:=of_decide_eq_true hv;have HGi:=HG.below hbi;have q0:=HPA.out wi hbi;clear HGi))
 exact Ah
theorem Cm {p:Prop} (h:p:=by unfold aP;rw[if_neg BJ,if_neg A3,if_neg (fun e=>e ht),if_neg (by rw[hbe];decide),if_neg (by rw[hde];decide),if_pos ⟨hn,h32⟩]):p:=h
theorem tC (x p:Int) (w:World) (h:IsF w B fp L l m k) (hx:I64 x) (hp:I64 p) (hk:k<1000) (hh:has L x=true) (hq:has L p=true) (hp1:0≤(gr L x).pa) (ht:aZ L x=aZ L p) (hbe:ag L p x=false) (hde:dB L x p=false) (hn: ¬(gr L x).pa=p) (h32:ce L p=32):
  Calls Tryz.prog 47 #[.pointer (some ⟨fp,0,none⟩),.int .i64 x,.int .i64 p] w fun e w'=>e= .returned (.int .i64 (aP L x p))∧IsF w' B fp (aM L x p) l m (k+1)∧Wr [118] B w w':=by
 have hc:aP L x p=6:=Cm
 have HC:=Hd hc;have HN:Hid (aM L x p=L):=Hd A8;obtain⟨tp,tg,mp,bl,hf,hB⟩:=h.fo;have h1:=hf.c1;have HL:=hf.lookY hx hh;have HLp:=hf.lookY hp hq;have HQ:=Hd hq;have HH:=Hd hh;have HF:=Hd h;have HG:=Hd hf;have HK:=Hd hk;have HR:=Hd h.rdr;have hb0:=Below.refl w.heap.size w;have HPA:Hid (∀W:World,Below w.heap.size w W→W.cell? ⟨bl x,0,none⟩=some (.int .i64 (gr L x).pa)):=Hd fun W hW=>((hf.below hW).grp x hh).c0
 have q0:=(hf.grp x hh).c0;have hpa2:=aB (show ¬(gr L x).pa= -1 by omega);have hd8:=h.ok.dep8 p;have HBE:=Hd hbe;have HDE:=Hd hde;have hn2:=aB hn;have h322:(ce L p==32)=true:=dP h32;clear h hf hB hk hh hc hq hp1 hbe hde h32;generalize (gr L x).pa=pa at *;go_enter Tryz.func47,Tryz.ntmps47
 go_wp2_with (first | (go_at_call 86;refine(HR.root _ _ A4 BK A4).mono ?_;rintro e wi ⟨rfl,hbi⟩) | (go_at_call 87;refine(HR.below _ _ _ A4 A4).mono ?_;rw[HBE.out];rintro e wi ⟨rfl,hbi⟩) | (go_at_call 82;refine(HR.depth _ _ A4 A4).mono ?_;rintro e wi ⟨rfl,hbi⟩) | (go_at_call 88;refine(HR.levels _ _ A4 A4).mono ?_;rintro e wi ⟨⟨v,rfl,hv0,hv9,HV⟩,hbi⟩;have hv:=(HV p).trans HDE.out;clear HV;replace hv:=of_decide_eq_false hv;have HGi:=HG.below hbi;have q0:=HPA.out wi hbi;clear HGi) | (go_at_call 83;refine(HR.fan _ _ A4 HQ.out A4).mono ?_;rintro e wi ⟨rfl,hbi⟩;have HGi:=HG.below hbi;have f0:=(HGi.grp x HH.out).fz 0;have q0:=HPA.out wi hbi;clear HGi))
 exact Ah
theorem xv (x p:Int) (w:World) (h:IsF w B fp L l m k) (hx:I64 x) (hp:I64 p) (hk:k<1000) (hh:has L x=true) (hq:has L p=true) (hp1:0≤(gr L x).pa) (ht:aZ L x=aZ L p) (hbe:ag L p x=false) (hde:dB L x p=false) (hn: ¬(gr L x).pa=p) (h32: ¬ce L p=32):
  Calls Tryz.prog 47 #[.pointer (some ⟨fp,0,none⟩),.int .i64 x,.int .i64 p] w fun e w'=>e= .returned (.int .i64 (aP L x p))∧IsF w' B fp (aM L x p) l m (k+1)∧Wr [118] B w w':=by
 have hc:aP L x p=0:=by unfold aP;rw[if_neg BJ,if_neg A3,if_neg (fun e=>e ht),if_neg (by rw[hbe];decide),if_neg (by rw[hde];decide),if_neg (fun e=>h32 e.2)]
 have HC:=Hd hc;have HN:Hid (aM L x p=dQ L x p):=Hd A8;obtain⟨tp,tg,mp,bl,hf,hB⟩:=h.fo;have h1:=hf.c1;have HL:=hf.lookY hx hh;have HLp:=hf.lookY hp hq;have HQ:=Hd hq;have HH:=Hd hh;have HF:=Hd h;have HG:=Hd hf;have HK:=Hd hk;have HR:=Hd h.rdr;have hb0:=Below.refl w.heap.size w;have HPA:Hid (∀W:World,Below w.heap.size w W→W.cell? ⟨bl x,0,none⟩=some (.int .i64 (gr L x).pa)):=Hd fun W hW=>((hf.below hW).grp x hh).c0
 have q0:=(hf.grp x hh).c0;have hpa2:=aB (show ¬(gr L x).pa= -1 by omega);have hd8:=h.ok.dep8 p;have HOK:Ok (dQ L x p) m (k+1):=by have:=h.ok.move (x:=x) (p:=p) hk;rwa [HN.out] at this
 have HA:Hid (∀W:World,Below w.heap.size w W→IsF (W.setCell ⟨bl x,0,none⟩ (.int .i64 p)) B fp (dQ L x p) l m (k+1)∧Wr [118] B w (W.setCell ⟨bl x,0,none⟩ (.int .i64 p))):=Hd fun W hW=>h.act hf hB hW hh rfl (((hf.below hW).grp x hh).set0 p) HOK
 have HBE:=Hd hbe;have HDE:=Hd hde;have hn2:=aB hn;have h322:=aB h32;clear h hf hB hk hh hc hq hp1 hbe hde h32 HOK;generalize (gr L x).pa=pa at *;go_enter Tryz.func47,Tryz.ntmps47
 go_wp2_with (first | (go_at_call 86;refine(HR.root _ _ A4 BK A4).mono ?_;rintro e wi ⟨rfl,hbi⟩) | (go_at_call 87;refine(HR.below _ _ _ A4 A4).mono ?_;rw[HBE.out];rintro e wi ⟨rfl,hbi⟩) | (go_at_call 82;refine(HR.depth _ _ A4 A4).mono ?_;rintro e wi ⟨rfl,hbi⟩) | (go_at_call 88;refine(HR.levels _ _ A4 A4).mono ?_;rintro e wi ⟨⟨v,rfl,hv0,hv9,HV⟩,hbi⟩;have hv:=(HV p).trans HDE.out;clear HV;replace hv:=of_decide_eq_false hv;have HGi:=HG.below hbi;have q0:=HPA.out wi hbi;clear HGi) | (go_at_call 83;refine(HR.fan _ _ A4 HQ.out A4).mono ?_;rintro e wi ⟨rfl,hbi⟩;have HGi:=HG.below hbi;have f0:=(HGi.grp x HH.out).fz 0;have q0:=HPA.out wi hbi;clear HGi))
 exact Am
theorem sH (x p:Int) (w:World) (h:IsF w B fp L l m k) (hx:I64 x) (hp:I64 p) (hk:k<1000) (hh:has L x=true) (hq:has L p=true) (hp1:0≤(gr L x).pa) (ht:aZ L x=aZ L p) (hbe:ag L p x=false) (hde:dB L x p=false) (hn:(gr L x).pa=p):
  Calls Tryz.prog 47 #[.pointer (some ⟨fp,0,none⟩),.int .i64 x,.int .i64 p] w fun e w'=>e= .returned (.int .i64 (aP L x p))∧IsF w' B fp (aM L x p) l m (k+1)∧Wr [118] B w w':=by
 have hc:aP L x p=0:=by unfold aP;rw[if_neg BJ,if_neg A3,if_neg (fun e=>e ht),if_neg (by rw[hbe];decide),if_neg (by rw[hde];decide),if_neg (fun e=>e.1 hn)]
 have HC:=Hd hc;have HN:Hid (aM L x p=dQ L x p):=Hd A8;obtain⟨tp,tg,mp,bl,hf,hB⟩:=h.fo;have h1:=hf.c1;have HL:=hf.lookY hx hh;have HLp:=hf.lookY hp hq;have HQ:=Hd hq;have HH:=Hd hh;have HF:=Hd h;have HG:=Hd hf;have HK:=Hd hk;have HR:=Hd h.rdr;have hb0:=Below.refl w.heap.size w;have HPA:Hid (∀W:World,Below w.heap.size w W→W.cell? ⟨bl x,0,none⟩=some (.int .i64 (gr L x).pa)):=Hd fun W hW=>((hf.below hW).grp x hh).c0
 have q0:=(hf.grp x hh).c0;have hpa2:=aB (show ¬(gr L x).pa= -1 by omega);have hd8:=h.ok.dep8 p;have HOK:Ok (dQ L x p) m (k+1):=by have:=h.ok.move (x:=x) (p:=p) hk;rwa [HN.out] at this
 have HA:Hid (∀W:World,Below w.heap.size w W→IsF (W.setCell ⟨bl x,0,none⟩ (.int .i64 p)) B fp (dQ L x p) l m (k+1)∧Wr [118] B w (W.setCell ⟨bl x,0,none⟩ (.int .i64 p))):=Hd fun W hW=>h.act hf hB hW hh rfl (((hf.below hW).grp x hh).set0 p) HOK
 have HBE:=Hd hbe;have HDE:=Hd hde;have HN2:=Hd hn;rw[hn] at q0 hpa2;have hpp:(p==p)=true:=B4
 clear h hf hB hk hh hc hq hp1 hbe hde HOK hn;go_enter Tryz.func47,Tryz.ntmps47
 go_wp2_with (first | (go_at_call 86;refine(HR.root _ _ A4 BK A4).mono ?_;rintro e wi ⟨rfl,hbi⟩) | (go_at_call 87;refine(HR.below _ _ _ A4 A4).mono ?_;rw[HBE.out];rintro e wi ⟨rfl,hbi⟩) | (go_at_call 82;refine(HR.depth _ _ A4 A4).mono ?_;rintro e wi ⟨rfl,hbi⟩) | (go_at_call 88;refine(HR.levels _ _ A4 A4).mono ?_;rintro e wi ⟨⟨v,rfl,hv0,hv9,HV⟩,hbi⟩;have hv:=(HV p).trans HDE.out;clear HV;replace hv:=of_decide_eq_false hv;have HGi:=HG.below hbi;have f0:=(HGi.grp x HH.out).fz 0;have q0:=HPA.out wi hbi;rw[HN2.out] at q0;clear HGi) | (go_at_call 83;refine(HR.fan _ _ A4 HQ.out A4).mono ?_;rintro e wi ⟨rfl,hbi⟩;have HGi:=HG.below hbi;have f0:=(HGi.grp x HH.out).fz 0;have q0:=HPA.out wi hbi;clear HGi))
 exact Am
theorem wk (x p:Int) (w:World) (h:IsF w B fp L l m k) (hx:I64 x) (hp:I64 p) (hk:k<1000):
  Calls Tryz.prog 47 #[.pointer (some ⟨fp,0,none⟩),.int .i64 x,.int .i64 p] w fun e w'=>e= .returned (.int .i64 (aP L x p))∧IsF w' B fp (aM L x p) l m (k+1)∧Wr [118] B w w':=by
 cases hh:has L x with
 | false=>exact wF fp B L l m k x p w h hx hk hh
 | true=>
 cases hq:has L p with
 | false=>exact vk fp B L l m k x p w h hx hp hk hh hq
 | true=>
 rcases h.ok.pa hh with hp1 | hp1
 ·exact tt fp B L l m k x p w h hx hp hk hh hq hp1
 have hp2:0≤(gr L x).pa:=by have:=h.ok.id hp1;omega
 by_cases ht:aZ L x=aZ L p
 case neg=>exact o4 fp B L l m k x p w h hx hp hk hh hq hp2 ht
 cases hbe:ag L p x with
 | true=>exact sT fp B L l m k x p w h hx hp hk hh hq hp2 ht hbe
 | false=>
 cases hde:dB L x p with
 | true=>exact sQ fp B L l m k x p w h hx hp hk hh hq hp2 ht hbe hde
 | false=>
 by_cases hn:(gr L x).pa=p
 ·exact sH fp B L l m k x p w h hx hp hk hh hq hp2 ht hbe hde hn
 by_cases h32:ce L p=32
 ·exact tC fp B L l m k x p w h hx hp hk hh hq hp2 ht hbe hde hn h32
 ·exact xv fp B L l m k x p w h hx hp hk hh hq hp2 ht hbe hde hn h32
end
end Go.Proofs.YtohifgjeebhijaaGreatDoor
