import Derived.Test.YtohifgjeebhijaaGreatDoorVGf
import Derived.Test.YtohifgjeebhijaaGreatDoorVFi
namespace Go.Proofs.YtohifgjeebhijaaGreatDoor
set_option maxRecDepth 100000
set_option maxHeartbeats 4000000
open Go.RowKit Go.Maps Go.Rq
def wtI (L:List Gr) (K:List Int):List Int:=K.map fun y=>(gr L y).wt
def ctI (cnt:Int→Nat) (K:List Int):List Int:=K.map fun y=>(cnt y:Int)
def lwI (ls:List Lf) (J:List Nat):List Int:=J.map fun i=>(lf ls i).2
def l1I (J:List Nat):List Int:=J.map fun _=>1
def fW (J:List Nat):List Int:=J.map fun i:Nat=>(i:Int)
theorem uo (i q wt d r me aw:Int) (w:World):(Instr.field 158 (.agg #[.int .i64 i,.int .i64 q,.int .i64 wt,.int .i64 d,.int .i64 r,.int .i64 me,.int .i64 aw]) 2).run Tryz.prog w= .ok (.int .i64 wt) w:=Ct
section
variable (fp B:Nat) (L:List Gr) (l:List Int) (m k:Int)
theorem Cg {p:Prop} (h:p:=by have hx1:=hX.1;clear hX;go_simp):p:=h
theorem Bx {p:Prop} (h:p:=by cases e2;have:=(T.l.own e).2;omega):p:=h
theorem AC {p:Prop} (h:p:=by exact⟨j+1,by omega,by go_num,by rw[HX.out,HY.out];exact T,hB⟩):p:=h
theorem ul (s cm n:Nat) (lv gv rv:Value) (C:Int→Option Value) (cnt:Int→Nat) (ls:List Lf) (p q a b:Sl) (K:List Int) (J:List Nat) (Post:Value→Int→World→Prop) (w:World) (h:IsF w B fp L l m k) (hs:Blk w s 82 (bF fp lv (.map (some cm)) gv rv)) (hl:cu w lv ls) (hc:Mv w cm n C)
  (HC:Hid (∀y∈K,has L y=true∧(C y).getD (.int .i64 0)= .int .i64 (cnt y:Int))) (ha:RI w a K) (hb:RI w b (fW J)) (hK:K.length≤64) (hJ:J.length≤64) (HJ:Hid (∀i∈J,i<ls.length))
  (HF:Hid (∀(W:World) (c d:Sl),Below w.heap.size w W→RI W c (wtI L K++lwI ls J)→RI W d (ctI cnt K++l1I J)→Calls Tryz.prog 126 #[.agg #[.slice p.a p.n p.c,.slice q.a q.n q.c],.slice c.a c.n c.c,.slice d.a d.n d.c] W fun e w'=>∃v cd,e= .returned (.tuple #[v,.int .i64 cd])∧Post v cd w'∧(∀j,v.ownBlock=some j→w.heap.size≤j)∧Below W.heap.size W w')):
  Calls Tryz.prog 101 #[.pointer (some ⟨s,0,none⟩),.agg #[.slice p.a p.n p.c,.slice q.a q.n q.c],.slice a.a a.n a.c,.slice b.a b.n b.c] w fun e w'=>∃v cd,e= .returned (.tuple #[v,.int .i64 cd])∧Post v cd w'∧(∀j,v.ownBlock=some j→w.heap.size≤j)∧Below w.heap.size w w':=by
 have HS:=Hd hs;have HM:=Hd hc;have HA:=Hd ha;have HBR:=Hd hb;have HLL:=Hd hl;have HFo:=Hd h;obtain⟨al,cl,rfl⟩:=hl.sl;obtain⟨aa,an,ac⟩:=a;obtain⟨ba0,bn,bc⟩:=b;dsimp only at *;have ea:an=K.length:=ha.len;have eb:bn=J.length:=by have h:=hb.len;simpa[fW] using h
 subst ea;subst eb;have hB:Below w.heap.size w (w.alloc (.cells #[.slice p.a p.n p.c,.slice q.a q.n q.c] 49)):=(Below.refl _ _).alloc lr _;have P5:=ah.new w 49 (.slice p.a p.n p.c) (.slice q.a q.n q.c);clear h hs hl hc ha hb;go_enter Tryz.func101,Tryz.ntmps101;generalize hr:w.heap.size=r5 at P5;have HR5:=Hd hr
 go_wp2_with fail
 have HP5:=Hd P5;clear P5 hr;generalize w.alloc (.cells #[.slice p.a p.n p.c,.slice q.a q.n q.c] 49)=w5 at *;have H5:=Hd hB;replace HS:=Hd (HS.below hB);replace HM:=Hd (HM.below hB);replace HA:=Hd (HA.below hB);replace HBR:=Hd (HBR.below hB);replace HLL:=Hd (HLL.below hB);replace HFo:=Hd (HFo.below hB);have HSZ:=Hd HS.lt;have HCM:=Hd HM.lt;have HB5:Hid (Below w5.heap.size w5 w5):=Hd (Below.refl _ _);clear hB
 go_loopw [18,10,11] (fun i v u wr=>∃j:Nat,j≤K.length∧i= .int .i64 (j:Int)∧Two wr w5.heap.size v u (wtI L (K.take j)) (ctI cnt (K.take j))∧Below w5.heap.size w5 wr) (fun i _ _ _=>K.length - (intOf i).toNat)
 case atStart=>exact⟨0,Nat.zero_le _,rfl,Two.nil _ _,HB5.out⟩
 case round=>
  obtain⟨j,hj,rfl,T,hB⟩:=hrel;by_cases hlt:j<K.length
  ·obtain⟨ba,oa,rfl,_,hca⟩:=RI.open (HA.below hB) (by intro e;rw[e] at hlt;simp at hlt);replace hca:=hca j hlt;have hym:=cZ hlt;have hcy:=HC.out _ hym;have HX:Hid (wtI L (K.take (j+1))=wtI L (K.take j)++[(gr L (K.getD j 0)).wt]):=Hd (map_take _ 0 hlt);have HY:Hid (ctI cnt (K.take (j+1))=ctI cnt (K.take j)++[(cnt (K.getD j 0):Int)]):=Hd (map_take _ 0 hlt);have hxl:(wtI L (K.take j)).length≤64:=by simp[wtI];omega
   have hyl:(ctI cnt (K.take j)).length≤64:=by simp[ctI];omega
   generalize K.getD j 0=y at *;have HIY:Hid (I64 y):=Hd (by
    have h1:=HFo.ok.id hcy.1;have h2:=HFo.ok.mle;have h3:=HFo.ok.k1;unfold I64;omega)
   have HT:Hid (∀W,Below w5.heap.size w5 W→Calls Tryz.prog 98 #[.pointer (some ⟨s,0,none⟩),.int .i64 y] W fun e w'=>e= .returned (.agg #[.int .i64 y,.int .i64 (gr L y).pa,.int .i64 (gr L y).wt,.int .i64 (dep L y),.int .i64 (aZ L y),.int .i64 (gr L y).me,.int .i64 (gr L y).aw])∧Below W.heap.size W w'):=Hd fun W hW=>nE fp B L l m k s _ _ gv rv y W (HFo.below hW) (HS.below hW) HIY.out hcy.1
   have HCY:=Hd hcy.2;clear hcy hym;generalize (gr L y).pa=pa at *;generalize (gr L y).wt=wt at *;generalize (gr L y).me=me at *;generalize (gr L y).aw=aw at *;generalize dep L y=d at *;generalize aZ L y=tp at *;generalize (cnt y:Int)=cy at *;generalize wtI L (K.take j)=xs at *;generalize ctI cnt (K.take j)=ys at *
   go_wp2_with fail
   clear hca;have X1:=cS2 (HS.below hB);have X2:=HM.below hB;have hb:Below wr.heap.size wr wr.drew:=(eQ.drew wr).below _;replace X1:=(hb.cell (p:=⟨s,2,none⟩) (Nat.lt_of_lt_of_le HSZ.out hB.size)).trans X1;replace X2:=X2.below hb;replace T:=T.below hb;replace hB:=hB.tr hb;clear hb;refine Rd.regionT (fun X=>X.cell? ⟨s,2,none⟩=some (.map (some cm))∧Mv X cm n C) [0,1,2,4,7,8,9,10,11,12,13,16,17] (.one 0 (.one 1 (.one 2 (.one 7 (.one 8 (.one 9 (.one 10 (.one 11 (.one 12 (.one 13 (.two 3 (.one 4 (.two 5 (.two 6 (.one 14 (.one 15 (.one 16 (.one 17 .done)))) 14 (.one 6 (.one 15 (.one 16 (.one 17 .done))))) 14 (.one 5 (.one 6 (.one 15 (.one 16 (.one 17 .done))))))) 14 (.one 3 (.one 4 (.one 5 (.one 6 (.one 15 (.one 16 (.one 17 .done)))))))))))))))))) _ Ct Ct Ct ⟨X1,X2⟩ ?_ (fun _ _ h=>h);generalize wr.drew=w20 at *;refine Rd.tf (u10) ?_;refine Rd.tf (.pointer (some ⟨s,0,none⟩)) ?_;refine Rd.tf (.int .i64 y) ?_;refine Rd.tf (u11) ?_;refine Rd.tf (.pointer (some ⟨s,0,none⟩)) ?_;refine Rd.tf (.pointer (some ⟨s,0,none⟩)) ?_;refine Rd.tf (.pointer (some ⟨s,2,none⟩)) ?_;refine Rd.tg (.map (some cm)) ?_ (y:=fun X hX=>Cg);refine Rd.tf (.int .i64 y) ?_;refine Rd.tg (.int .i64 cy) ?_ (y:=fun X hX=>by have hx1:=hX.2.look Tryz.underlying80 (wa X) HIY.out;rw[HCY.out] at hx1;clear hX;go_simp);refine Rd.tr_two BC Cp BC Cp (fun K hK=>?_) (fun K hK=>?_)
   ·skip
    go_simp;refine(HT.out _ hB).mono ?_;rintro e w21 ⟨rfl,hb⟩;replace X1:=(hb.cell (p:=⟨s,2,none⟩) (Nat.lt_of_lt_of_le HSZ.out hB.size)).trans X1;replace X2:=X2.below hb;replace T:=T.below hb;replace hB:=hB.tr hb;clear hb;refine hK _ _ ⟨X1,X2⟩ ?_;clear hK K;refine Rd.tg (.int .i64 wt) ?_ (y:=fun X _=>by have hx1:=uo y pa wt d tp me aw X;go_simp);refine Rd.tr_two BC Cp BC Cp (fun K hK=>?_) (fun K hK=>?_)
    ·skip
     go_simp;have A1:=bZ.new w21 wt;have hb:Below w21.heap.size w21 (w21.alloc (.cells #[.int .i64 wt] 3)):=(Below.refl _ _).alloc lr _;generalize w21.alloc (.cells #[.int .i64 wt] 3)=w22 at *;replace X1:=(hb.cell (p:=⟨s,2,none⟩) (Nat.lt_of_lt_of_le HSZ.out hB.size)).trans X1;replace X2:=X2.below hb;replace T:=T.below hb;replace hB:=hB.tr hb;clear hb;refine hK _ _ ⟨X1,X2⟩ ?_;clear hK K;refine Rd.tr_two BC Cp BC Cp (fun K hK=>?_) (fun K hK=>?_)
     ·skip
      refine dZ _ _ rfl w5.heap.size u10 xs w21.heap.size wt rfl rfl A1 hB.size T.l A3 (fun va w23 h3 h4 h5=>?_);have hb:=aY T.l hB.size h4;replace T:=T.pushL h3 h4 h5;replace X1:=(hb.cell (p:=⟨s,2,none⟩) HSZ.out).trans X1;replace X2:=X2.same (hb.block cm HCM.out);replace hB:=hB.trans hb;clear hb h3 h4 h5 A1;refine hK _ _ ⟨X1,X2⟩ ?_;clear hK K;refine Rd.tm fun K hK=>?_
      go_simp;have A2:=bZ.new w23 cy;have N14: ∀j,va.ownBlock=some j→some w23.heap.size≠some j:=fun j e e2=>Bx
      have hb:Below w23.heap.size w23 (w23.alloc (.cells #[.int .i64 cy] 3)):=(Below.refl _ _).alloc lr _;generalize w23.alloc (.cells #[.int .i64 cy] 3)=w24 at *;replace X1:=(hb.cell (p:=⟨s,2,none⟩) (Nat.lt_of_lt_of_le HSZ.out hB.size)).trans X1;replace X2:=X2.below hb;replace T:=T.below hb;replace hB:=hB.tr hb;clear hb;refine hK _ _ ⟨X1,X2⟩ ?_;clear hK K;refine Rd.tm fun K hK=>?_
      refine dZ _ _ rfl w5.heap.size u11 ys w23.heap.size cy rfl rfl A2 hB.size T.r A3 (fun vb w25 h3 h4 h5=>?_);have hb:=aY T.r hB.size h4;replace T:=T.pushR h3 h4 h5;replace X1:=(hb.cell (p:=⟨s,2,none⟩) HSZ.out).trans X1;replace X2:=X2.same (hb.block cm HCM.out);replace hB:=hB.trans hb;clear hb h3 h4 h5 A2;refine hK _ _ ⟨X1,X2⟩ ?_;clear hK K;refine Rd.tf (va) ?_;refine Rd.tf (vb) ?_;refine Rd.tr_end ?_
      go_wp2_with fail
      go_round
      case rel=>exact AC
      case measure=>simp[intOf];omega
     ·skip
      go_simp;have A2:=bZ.new w22 cy;have N14: ∀j,u10.ownBlock=some j→some w22.heap.size≠some j:=fun j e e2=>Bx
      have hb:Below w22.heap.size w22 (w22.alloc (.cells #[.int .i64 cy] 3)):=(Below.refl _ _).alloc lr _;generalize w22.alloc (.cells #[.int .i64 cy] 3)=w26 at *;replace X1:=(hb.cell (p:=⟨s,2,none⟩) (Nat.lt_of_lt_of_le HSZ.out hB.size)).trans X1;replace X2:=X2.below hb;replace T:=T.below hb;replace A1:=A1.below hb;replace hB:=hB.tr hb;clear hb;refine hK _ _ ⟨X1,X2⟩ ?_;clear hK K;refine Rd.tm fun K hK=>?_
      refine dZ _ _ rfl w5.heap.size u10 xs w21.heap.size wt rfl rfl A1 hB.size T.l A3 (fun va w27 h3 h4 h5=>?_);replace A2:=A2.grown h4 (fun e=>N14 _ e.symm rfl);have hb:=aY T.l hB.size h4;replace T:=T.pushL h3 h4 h5;replace X1:=(hb.cell (p:=⟨s,2,none⟩) HSZ.out).trans X1;replace X2:=X2.same (hb.block cm HCM.out);replace hB:=hB.trans hb;clear hb h3 h4 h5 A1;refine hK _ _ ⟨X1,X2⟩ ?_;clear hK K;refine Rd.tm fun K hK=>?_
      refine dZ _ _ rfl w5.heap.size u11 ys w22.heap.size cy rfl rfl A2 hB.size T.r A3 (fun vb w28 h3 h4 h5=>?_);have hb:=aY T.r hB.size h4;replace T:=T.pushR h3 h4 h5;replace X1:=(hb.cell (p:=⟨s,2,none⟩) HSZ.out).trans X1;replace X2:=X2.same (hb.block cm HCM.out);replace hB:=hB.trans hb;clear hb h3 h4 h5 A2;refine hK _ _ ⟨X1,X2⟩ ?_;clear hK K;refine Rd.tf (va) ?_;refine Rd.tf (vb) ?_;refine Rd.tr_end ?_
      go_wp2_with fail
      go_round
      case rel=>exact AC
      case measure=>simp[intOf];omega
    ·skip
     go_simp;have A2:=bZ.new w21 cy;have N14: ∀j,u10.ownBlock=some j→some w21.heap.size≠some j:=fun j e e2=>Bx
     have hb:Below w21.heap.size w21 (w21.alloc (.cells #[.int .i64 cy] 3)):=(Below.refl _ _).alloc lr _;generalize w21.alloc (.cells #[.int .i64 cy] 3)=w29 at *;replace X1:=(hb.cell (p:=⟨s,2,none⟩) (Nat.lt_of_lt_of_le HSZ.out hB.size)).trans X1;replace X2:=X2.below hb;replace T:=T.below hb;replace hB:=hB.tr hb;clear hb;refine hK _ _ ⟨X1,X2⟩ ?_;clear hK K;refine Rd.tm fun K hK=>?_
     go_simp;have A1:=bZ.new w29 wt;have hb:Below w29.heap.size w29 (w29.alloc (.cells #[.int .i64 wt] 3)):=(Below.refl _ _).alloc lr _;generalize w29.alloc (.cells #[.int .i64 wt] 3)=w30 at *;replace X1:=(hb.cell (p:=⟨s,2,none⟩) (Nat.lt_of_lt_of_le HSZ.out hB.size)).trans X1;replace X2:=X2.below hb;replace T:=T.below hb;replace A2:=A2.below hb;replace hB:=hB.tr hb;clear hb;refine hK _ _ ⟨X1,X2⟩ ?_;clear hK K;refine Rd.tm fun K hK=>?_
     refine dZ _ _ rfl w5.heap.size u10 xs w29.heap.size wt rfl rfl A1 hB.size T.l A3 (fun va w31 h3 h4 h5=>?_);replace A2:=A2.grown h4 (fun e=>N14 _ e.symm rfl);have hb:=aY T.l hB.size h4;replace T:=T.pushL h3 h4 h5;replace X1:=(hb.cell (p:=⟨s,2,none⟩) HSZ.out).trans X1;replace X2:=X2.same (hb.block cm HCM.out);replace hB:=hB.trans hb;clear hb h3 h4 h5 A1;refine hK _ _ ⟨X1,X2⟩ ?_;clear hK K;refine Rd.tm fun K hK=>?_
     refine dZ _ _ rfl w5.heap.size u11 ys w21.heap.size cy rfl rfl A2 hB.size T.r A3 (fun vb w32 h3 h4 h5=>?_);have hb:=aY T.r hB.size h4;replace T:=T.pushR h3 h4 h5;replace X1:=(hb.cell (p:=⟨s,2,none⟩) HSZ.out).trans X1;replace X2:=X2.same (hb.block cm HCM.out);replace hB:=hB.trans hb;clear hb h3 h4 h5 A2;refine hK _ _ ⟨X1,X2⟩ ?_;clear hK K;refine Rd.tf (va) ?_;refine Rd.tf (vb) ?_;refine Rd.tr_end ?_
     go_wp2_with fail
     go_round
     case rel=>exact AC
     case measure=>simp[intOf];omega
   ·skip
    go_simp;have A2:=bZ.new w20 cy;have N14: ∀j,u10.ownBlock=some j→some w20.heap.size≠some j:=fun j e e2=>Bx
    have hb:Below w20.heap.size w20 (w20.alloc (.cells #[.int .i64 cy] 3)):=(Below.refl _ _).alloc lr _;generalize w20.alloc (.cells #[.int .i64 cy] 3)=w33 at *;replace X1:=(hb.cell (p:=⟨s,2,none⟩) (Nat.lt_of_lt_of_le HSZ.out hB.size)).trans X1;replace X2:=X2.below hb;replace T:=T.below hb;replace hB:=hB.tr hb;clear hb;refine hK _ _ ⟨X1,X2⟩ ?_;clear hK K;refine Rd.tm fun K hK=>?_
    go_simp;refine(HT.out _ hB).mono ?_;rintro e w34 ⟨rfl,hb⟩;replace X1:=(hb.cell (p:=⟨s,2,none⟩) (Nat.lt_of_lt_of_le HSZ.out hB.size)).trans X1;replace X2:=X2.below hb;replace T:=T.below hb;replace A2:=A2.below hb;replace hB:=hB.tr hb;clear hb;refine hK _ _ ⟨X1,X2⟩ ?_;clear hK K;refine Rd.tg (.int .i64 wt) ?_ (y:=fun X _=>by have hx1:=uo y pa wt d tp me aw X;go_simp);refine Rd.tm fun K hK=>?_
    go_simp;have A1:=bZ.new w34 wt;have hb:Below w34.heap.size w34 (w34.alloc (.cells #[.int .i64 wt] 3)):=(Below.refl _ _).alloc lr _;generalize w34.alloc (.cells #[.int .i64 wt] 3)=w35 at *;replace X1:=(hb.cell (p:=⟨s,2,none⟩) (Nat.lt_of_lt_of_le HSZ.out hB.size)).trans X1;replace X2:=X2.below hb;replace T:=T.below hb;replace A2:=A2.below hb;replace hB:=hB.tr hb;clear hb;refine hK _ _ ⟨X1,X2⟩ ?_;clear hK K;refine Rd.tm fun K hK=>?_
    refine dZ _ _ rfl w5.heap.size u10 xs w34.heap.size wt rfl rfl A1 hB.size T.l A3 (fun va w36 h3 h4 h5=>?_);replace A2:=A2.grown h4 (fun e=>N14 _ e.symm rfl);have hb:=aY T.l hB.size h4;replace T:=T.pushL h3 h4 h5;replace X1:=(hb.cell (p:=⟨s,2,none⟩) HSZ.out).trans X1;replace X2:=X2.same (hb.block cm HCM.out);replace hB:=hB.trans hb;clear hb h3 h4 h5 A1;refine hK _ _ ⟨X1,X2⟩ ?_;clear hK K;refine Rd.tm fun K hK=>?_
    refine dZ _ _ rfl w5.heap.size u11 ys w20.heap.size cy rfl rfl A2 hB.size T.r A3 (fun vb w37 h3 h4 h5=>?_);have hb:=aY T.r hB.size h4;replace T:=T.pushR h3 h4 h5;replace X1:=(hb.cell (p:=⟨s,2,none⟩) HSZ.out).trans X1;replace X2:=X2.same (hb.block cm HCM.out);replace hB:=hB.trans hb;clear hb h3 h4 h5 A2;refine hK _ _ ⟨X1,X2⟩ ?_;clear hK K;refine Rd.tf (va) ?_;refine Rd.tf (vb) ?_;refine Rd.tr_end ?_
    go_wp2_with fail
    go_round
    case rel=>exact AC
    case measure=>simp[intOf];omega
  ·have ej:j=K.length:=A3
   subst ej;rw[List.take_length] at T
   go_wp2_with fail
   have HT0:=Hd T;have HB0:=Hd hB;clear T hB;have hx0:(wtI L K).length≤64:=by simp[wtI];omega
   have hy0:(ctI cnt K).length≤64:=by simp[ctI];omega
   generalize wtI L K=X0 at *;generalize ctI cnt K=Y0 at *
   go_loopw [41,10,11] (fun i v u wr=>∃j2:Nat,j2≤J.length∧i= .int .i64 (j2:Int)∧Two wr w5.heap.size v u (X0++lwI ls (J.take j2)) (Y0++l1I (J.take j2))∧Below w5.heap.size w5 wr) (fun i _ _ _=>J.length - (intOf i).toNat)
   case atStart=>exact⟨0,A3,rfl,by simpa[lwI,l1I] using HT0.out,HB0.out⟩
   case round=>
    obtain⟨j2,hj2,rfl,T,hB⟩:=hrel;clear HT0 HB0;by_cases hlt2:j2<J.length
    ·have hnl:j2<(fW J).length:=by simp[fW];omega
     obtain⟨bb,ob,rfl,_,hcb⟩:=RI.open (p:=⟨ba0,J.length,bc⟩) (l:=fW J) (HBR.below hB) (by intro e;rw[e] at hnl;simp at hnl);replace hcb:=hcb j2 hnl;have hjm:J.getD j2 0∈J:=by rw[List.getD_eq_getElem?_getD,List.getElem?_eq_getElem hlt2];exact List.getElem_mem hlt2
     have hnj:(fW J).getD j2 0=((J.getD j2 0:Nat):Int):=by simp[fW,List.getD_eq_getElem?_getD,List.getElem?_eq_getElem hlt2]
     rw[hnj] at hcb;have hil:=HJ.out _ hjm;have HX:Hid (lwI ls (J.take (j2+1))=lwI ls (J.take j2)++[(lf ls (J.getD j2 0)).2]):=Hd (map_take _ 0 hlt2);have HY:Hid (l1I (J.take (j2+1))=l1I (J.take j2)++[1]):=Hd (map_take (fun _=>(1:Int)) 0 hlt2);have hxl:(X0++lwI ls (J.take j2)).length≤128:=by simp[lwI];omega
     have hyl:(Y0++l1I (J.take j2)).length≤128:=by simp[l1I];omega
     obtain⟨bl,off,rfl,_,hx1,_,_⟩:=(HLL.below hB).at hil;have h1c:=cS1 (HS.below hB);clear hjm hnj hnl;generalize J.getD j2 0=i at *;generalize (lf ls i).2=wt at *;generalize lwI ls (J.take j2)=xs at *;generalize l1I (J.take j2)=ys at *;have T1:True:=trivial
     go_wp2_with (first
      | (at_builtin;clear T1;refine eH rfl _ _ rfl w5.heap.size u10 _ wr.heap.size wt rfl rfl (bZ.new wr wt) (Below.allocS hB _).size (T.l.alloc _) A3 ?_;intro va w7 h3 h4 h5;have T7:=(T.below ((Below.refl _ _).alloc lr (.cells #[.int .i64 wt] 3))).pushL h3 h4 h5;have hB7:=(Below.allocS hB (.cells #[.int .i64 wt] 3)).trans (aY (T.l.alloc (.cells #[.int .i64 wt] 3)) (Below.allocS hB _).size h4);clear h3 h4 h5)
      | (at_builtin;refine eH rfl _ _ rfl w5.heap.size u11 _ w7.heap.size 1 rfl rfl (bZ.new w7 1) (Below.allocS hB7 _).size (T7.r.alloc _) A3 ?_;intro vb w8 h3 h4 h5;have T8:=(T7.below ((Below.refl _ _).alloc lr (.cells #[.int .i64 1] 3))).pushR h3 h4 h5;have hB8:=(Below.allocS hB7 (.cells #[.int .i64 1] 3)).trans (aY (T7.r.alloc (.cells #[.int .i64 1] 3)) (Below.allocS hB7 _).size h4);clear h3 h4 h5))
     go_round
     case rel=>exact⟨j2+1,A3,BH,by rw[HX.out,HY.out,←List.append_assoc,←List.append_assoc];exact T8,hB8⟩
     case measure=>simp[intOf];omega
    ·have ej:j2=J.length:=A3
     subst ej;rw[List.take_length] at T;obtain⟨pa,rfl,hpa⟩:=T.l.rowI.sl;obtain⟨pb,rfl,hpb⟩:=T.r.rowI.sl;have HFI:=Hd (HF.out wr pa pb (H5.tr hB) hpa hpb);have HBB:=Hd (H5.tr hB);have P5:=HP5.below hB;have c0:=P5.c0;have c1:=P5.c1;clear T hpa hpb P5 hB
     go_wp2_with fail
     clear c0 c1;refine HFI.mono ?_;rintro e w9 ⟨v,cd,rfl,hp,hf,hb⟩;have HPP:=Hd hp;have HFF:=Hd hf;clear hp hf
     go_wp2_with fail
     go_ret2
     rw[←HR5.out];exact⟨v,cd,rfl,HPP.out,HFF.out,HBB.tr hb⟩
end
def pc (w:World) (gm rb:Nat):Prop:=(∃es clock,w.heap[gm]? =some (.map es clock))∧∃cur,w.heap[rb]? =some (.cells cur 49 (0,0))∧∀u∈cur.toList,iU u
section
variable {w w':World} {gm rb:Nat} {u:Value}
theorem Lim.only {q:IntKind} {l:List Nat} (h:Lim q w u l) (ha:pc w gm rb) (ho:aQ gm rb w w'):Lim q w' u l:=by
 obtain⟨ad,cap,e1,h1,h2⟩:=h;refine⟨ad,cap,e1,h1,fun hne=>?_⟩;obtain⟨b,off,rfl,hb,hc⟩:=h2 hne;obtain⟨⟨es,cl,hg⟩,cur,hr,hall⟩:=ha;have h3:=hc 0 (List.length_pos_iff.2 hne);have n1:b≠gm:=by
  rintro rfl;simp only[World.cell?,hg] at h3;cases h3
 have n2:b≠rb:=by
  rintro rfl;simp only[World.cell?,hr,Nat.add_zero] at h3;exact Ap
 exact⟨b,off,rfl,Nat.lt_of_lt_of_le hb ho.size,fun j hj=>(World.cell?_of_block (w:=w) (a:=⟨b,off+j,none⟩) (ho.block b hb n1 n2)).trans (hc j hj)⟩
theorem RQ.only {p q:Sl} {r:Rat} (h:RQ w p q r) (ha:pc w gm rb) (ho:aQ gm rb w w'):RQ w' p q r:=⟨h.1,h.2.1.only ha ho,h.2.2.only ha ho⟩
theorem dh.only {v:Value} {rs:List Rat} (h:dh RQ w v rs) (ha:pc w gm rb) (ho:aQ gm rb w w') (hne: ∀j,v.ownBlock=some j→j≠gm∧j≠rb):dh RQ w' v rs:=by
 obtain⟨ad,cap,e,h2⟩:=h;refine⟨ad,cap,e,fun hn=>?_⟩;obtain⟨B,rfl,hB,hc⟩:=h2 hn;obtain⟨n1,n2⟩:=hne B (by rw[e];rfl);refine⟨B,rfl,Nat.lt_of_lt_of_le hB ho.size,fun j hj=>?_⟩;obtain⟨p,q,h1,h2,h3⟩:=hc j hj;have hk:=ho.block B hB n1 n2;exact⟨p,q,(World.cell?_of_block (w:=w) (a:=⟨B,j*2,none⟩) hk).trans h1,(World.cell?_of_block (w:=w) (a:=⟨B,j*2+1,none⟩) hk).trans h2,h3.only ha ho⟩
theorem Mv.only {cm n:Nat} {C:Int→Option Value} (h:Mv w cm n C) (ho:aQ gm rb w w') (h1:cm≠gm) (h2:cm≠rb):Mv w' cm n C:=h.same (ho.block cm h.lt h1 h2)
theorem Blk.only {b t:Nat} {cs:Array Value} (h:Blk w b t cs) (ho:aQ gm rb w w') (h1:b≠gm) (h2:b≠rb):Blk w' b t cs:=(ho.block b h.lt h1 h2).trans h
theorem aQ.of_grown (h:w.grownBy w' (some gm)):aQ gm rb w w':=⟨h.os,h.tape,h.output,h.size,fun k hk h1 _=>h.block k hk (fun e=>h1 (by cases e;rfl))⟩
end
def RtM (w:World) (gm N:Nat) (f:Int→Rat) (S:Int→Bool):Prop:=
 ∃V:Int→Option Value,Mv w gm N V∧∀x,(S x=false→V x=none)∧(S x=true→∃p q:Sl,V x=some (.agg #[.slice p.a p.n p.c,.slice q.a q.n q.c])∧RQ w p q (f x))
def RtR (w:World) (rb n:Nat) (f:Nat→Rat) (T:Nat→Bool):Prop:=
 ∃cur:Array Value,w.heap[rb]? =some (.cells cur 49 (0,0))∧cur.size=n*2∧(∀u∈cur.toList,iU u)∧∀i,i<n→T i=true→∃p q:Sl,cur[i*2]? =some (.slice p.a p.n p.c)∧cur[i*2+1]? =some (.slice q.a q.n q.c)∧RQ w p q (f i)
section
variable {w w':World} {gm rb N n:Nat} {f:Int→Rat} {r:Nat→Rat} {S:Int→Bool} {T:Nat→Bool}
theorem fO (hm:RtM w gm N f S) (hr:RtR w rb n r T):pc w gm rb:=by
 obtain⟨V,h1,_⟩:=hm;obtain⟨cur,h2,_,h3,_⟩:=hr;exact⟨h1.isMap,cur,h2,h3⟩
theorem RtM.lt (h:RtM w gm N f S):gm<w.heap.size:=by
 obtain⟨V,h1,_⟩:=h;exact h1.lt
theorem RtR.lt (h:RtR w rb n r T):rb<w.heap.size:=by
 obtain⟨cur,h2,_⟩:=h;exact(Array.getElem?_eq_some_iff.1 h2).1
theorem RtM.below (h:RtM w gm N f S) (hb:Below w.heap.size w w'):RtM w' gm N f S:=by
 obtain⟨V,h1,h2⟩:=h;refine⟨V,h1.below hb,fun x=>⟨(h2 x).1,fun hs=>?_⟩⟩;obtain⟨p,q,e,hq⟩:=(h2 x).2 hs;exact⟨p,q,e,hq.below hb⟩
theorem RtR.below (h:RtR w rb n r T) (hb:Below w.heap.size w w'):RtR w' rb n r T:=by
 have hlt:=h.lt;obtain⟨cur,h1,h2,h3,h4⟩:=h;refine⟨cur,(hb.block rb hlt).trans h1,h2,h3,fun i hi ht=>?_⟩;obtain⟨p,q,e1,e2,hq⟩:=h4 i hi ht;exact⟨p,q,e1,e2,hq.below hb⟩
theorem RtM.congr {S':Int→Bool} (h:RtM w gm N f S) (e: ∀x,S x=S' x):RtM w gm N f S':=by
 have:S=S':=funext e;rw[←this];exact h
theorem RtR.congr {T':Nat→Bool} (h:RtR w rb n r T) (e: ∀i,i<n→T i=T' i):RtR w rb n r T':=by
 obtain⟨cur,h1,h2,h3,h4⟩:=h;exact⟨cur,h1,h2,h3,fun i hi ht=>h4 i hi (by rw[e i hi];exact ht)⟩
theorem RtM.put {G:Int→Option Value} {p q:Sl} {x:Int} (h:RtM w gm N f S) (hr:RtR w rb n r T) (hq:RQ w p q (f x)) (hG: ∃V,(Mv w gm N V∧∀x,(S x=false→V x=none)∧(S x=true→∃p q:Sl,V x=some (.agg #[.slice p.a p.n p.c,.slice q.a q.n q.c])∧RQ w p q (f x)))∧G=fun y=>if y=x then some (.agg #[.slice p.a p.n p.c,.slice q.a q.n q.c]) else V y)
  (hm:Mv w' gm (N+1) G) (hg:w.grownBy w' (some gm)):RtM w' gm (N+1) f (fun y=>S y||decide (y=x)):=by
 have ho:aQ gm rb w w':=aQ.of_grown hg;have ha:=fO h hr;obtain⟨V,⟨_,h2⟩,rfl⟩:=hG;refine⟨_,hm,fun y=>?_⟩;by_cases e:y=x
 ·subst e;simp only[decide_true,Bool.or_true,if_true];exact⟨(fun h=>by cases h),fun _=>⟨p,q,rfl,hq.only ha ho⟩⟩
 ·simp only[e,decide_false,Bool.or_false,if_false];refine⟨(h2 y).1,fun hs=>?_⟩;obtain⟨p',q',e1,e2⟩:=(h2 y).2 hs;exact⟨p',q',e1,e2.only ha ho⟩
theorem RtR.only (hm:RtM w gm N f S) (h:RtR w rb n r T) (hg:w.grownBy w' (some gm)):RtR w' rb n r T:=by
 have ho:aQ gm rb w w':=aQ.of_grown hg;have ha:=fO hm h;have hlt:=h.lt;obtain⟨cur,h1,h2,h3,h4⟩:=h;refine⟨cur,(hg.block rb hlt (by
  intro e;cases e;obtain⟨V,h5,_⟩:=hm;obtain⟨es,cl,h6⟩:=h5.isMap;rw[h1] at h6;cases h6)).trans h1,h2,h3,fun i hi ht=>?_⟩
 obtain⟨p,q,e1,e2,hq⟩:=h4 i hi ht;exact⟨p,q,e1,e2,hq.only ha ho⟩
theorem RtR.fz (h:RtR w rb n r T) (i:Nat):w.frozen? ⟨rb,i,none⟩=false:=by
 obtain⟨cur,h1,_⟩:=h;exact frozen_of_row w rb i _ 49 h1
theorem RtR.cell (h:RtR w rb n r T) {i:Nat} (hi:i<n*2): ∃a m c,w.cell? ⟨rb,i,none⟩=some (.slice a m c):=by
 obtain⟨cur,h1,h2,h3,_⟩:=h;have hi2:i<cur.size:=A3
 obtain⟨a,m,c,e⟩:=h3 _ (Array.getElem_mem_toList hi2);refine⟨a,m,c,?_⟩;rw[cell_of_row w rb i _ 49 (0,0) h1,Array.getElem?_eq_getElem hi2,e]
theorem RtR.put (hm:RtM w gm N f S) (h:RtR w rb n r T) {p q:Sl} {i:Nat} (hi:i<n) (hq:RQ w p q (r i)):
  RtR ((w.setCell ⟨rb,i*2,none⟩ (.slice p.a p.n p.c)).setCell ⟨rb,i*2+1,none⟩ (.slice q.a q.n q.c)) rb n r (fun j=>T j||decide (j=i))∧aQ gm rb w ((w.setCell ⟨rb,i*2,none⟩ (.slice p.a p.n p.c)).setCell ⟨rb,i*2+1,none⟩ (.slice q.a q.n q.c)):=by
 have ha:=fO hm h;have ho:aQ gm rb w ((w.setCell ⟨rb,i*2,none⟩ (.slice p.a p.n p.c)).setCell ⟨rb,i*2+1,none⟩ (.slice q.a q.n q.c)):=(aQ.of_turn_g (aX.setCell w rb _ _)).trans (aQ.of_turn_g (aX.setCell _ rb _ _));refine⟨?_,ho⟩;obtain⟨cur,h1,h2,h3,h4⟩:=h;have e1:=heap_setCell_same w rb (i*2) _ 49 (.slice p.a p.n p.c) h1;have e2:=heap_setCell_same (w.setCell ⟨rb,i*2,none⟩ (.slice p.a p.n p.c)) rb (i*2+1) _ 49 (.slice q.a q.n q.c) e1;refine⟨_,e2,by simp[h2],?_,fun j hj ht=>?_⟩
 ·intro u hu;rw[Array.toList_setIfInBounds,Array.toList_setIfInBounds] at hu;rcases List.mem_or_eq_of_mem_set hu with hu | rfl
  ·rcases List.mem_or_eq_of_mem_set hu with hu | rfl
   ·exact h3 u hu
   ·exact⟨_,_,_,rfl⟩
  ·exact⟨_,_,_,rfl⟩
 ·by_cases e:j=i
  ·subst e;refine⟨p,q,?_,?_,hq.only ha ho⟩
   ·rw[Array.getElem?_setIfInBounds_ne A3,Array.getElem?_setIfInBounds_self_of_lt A3]
   ·rw[Array.getElem?_setIfInBounds_self_of_lt Cq]
  ·have ht2:T j=true:=by simpa[e] using ht
   obtain⟨p',q',a1,a2,a3⟩:=h4 j hj ht2;refine⟨p',q',?_,?_,a3.only ha ho⟩
   ·rw[Array.getElem?_setIfInBounds_ne A3,Array.getElem?_setIfInBounds_ne A3];exact a1
   ·rw[Array.getElem?_setIfInBounds_ne A3,Array.getElem?_setIfInBounds_ne A3];exact a2
theorem RtM.only (h:RtM w gm N f S) (hr:RtR w rb n r T) (ho:aQ gm rb w w') (he:w'.heap[gm]? =w.heap[gm]?):RtM w' gm N f S:=by
 have ha:=fO h hr;obtain⟨V,h1,h2⟩:=h;refine⟨V,h1.same he,fun x=>⟨(h2 x).1,fun hs=>?_⟩⟩;obtain⟨p,q,e,hq⟩:=(h2 x).2 hs;exact⟨p,q,e,hq.only ha ho⟩
theorem zv (hm:RtM w gm N f S) (hr:RtR w rb n r T):gm≠rb:=by
 rintro rfl;obtain⟨V,h1,_⟩:=hm;obtain⟨cur,h2,_⟩:=hr;obtain⟨es,cl,h3⟩:=h1.isMap;rw[h2] at h3;cases h3
end
section
variable {ops:Array Oper} {rest:List Oper} {o:Oper} {a:Act} {w:World} {Q:Exit→Act→World→Prop} {K:Act→World→Prop}
theorem rV (m x v:Operand) {t e:TypeId} (hop:o.op=Op.mapUpdate t m x v) (ht:Tryz.prog.underlying t=some (.map 3 e)) {b n:Nat} {G:Int→Option Value} (hm:a.eval m= .map (some b)) (h:Mv w b n G) (hn:n<maxLen) {k:Int} (hx:a.eval x= .int .i64 k) (hk:I64 k) {c:Value} (hv:a.eval v=c)
  (hK: ∀w',Mv w' b (n+1) (fun y=>if y=k then some c else G y)→w.grownBy w' (some b)→K (a.put o.dst undef) w'):o.wp Tryz.prog a w K Q:=by
 obtain⟨w',hrun,r1,r2⟩:=h.put hn ht hk c;unfold Oper.wp;simp[execOp,hop,hm,hx,hv,hrun,Result.andThen];exact hK w' r1 r2
theorem pm (hg:o.guard=none) (m x v:Operand) {t e:TypeId} (hop:o.op=Op.mapUpdate t m x v) (ht:Tryz.prog.underlying t=some (.map 3 e)) {b n:Nat} {G:Int→Option Value} (hm:a.eval m= .map (some b)) (h:Mv w b n G) (hn:n<maxLen) {k:Int} (hx:a.eval x= .int .i64 k) (hk:I64 k) {c:Value} (hv:a.eval v=c)
  (hK: ∀w',Mv w' b (n+1) (fun y=>if y=k then some c else G y)→w.grownBy w' (some b)→wpList Tryz.prog ops Q rest (a.put o.dst undef) w'):wpList Tryz.prog ops Q (o::rest) a w:=
 wpList_plain hg fun _ hK'=>rV m x v hop ht hm h hn hx hk hv fun w' h1 h2=>hK' _ _ (hK w' h1 h2)
end
end Go.Proofs.YtohifgjeebhijaaGreatDoor
namespace Go.Proofs.YtohifgjeebhijaaGreatDoor
open Go.Rq
theorem tT {D:Nat} {r:Rat} (hD:D≠0) (h:bX D r): ∃k,D=r.den*k:=by
 obtain⟨n,e,_⟩:=pJ hD h;refine⟨Nat.gcd n D,?_⟩;rw[e,eJ n hD,Nat.div_mul_cancel (Nat.gcd_dvd_right n D)]
def DW (j:Nat) (r:Rat):Prop:=∃D:Nat,D≠0∧D≤big (32*j)∧bX D r
theorem oz {x:Rat} {ks:List Kid} (hk: ∀c∈ks,cX c) (hl:ks.length≤32) (hx:x≤((bT ks:Nat):Rat)):cf x (ks.map fun c=>(c.1:Int)) (ks.map fun c=>(c.2:Int))=0:=by
 have hs: ∀l:List Kid,(l.map fun c=>(c.2:Int)).sum=((bT l:Nat):Int):=by
  intro l
  induction l with
  | nil=>rfl
  | cons c l ih=>rw[List.map_cons,List.sum_cons,ih,bT];omega
 unfold cf;rw[if_neg B4,if_neg Cq,if_neg (by
  intro h;obtain⟨z,hz,hn⟩:=List.any_eq_true.1 h;obtain⟨c,hc,rfl⟩:=List.mem_map.1 hz;have h1:=hk c hc;unfold cX at h1;unfold noW at hn;simp at hn;omega),if_neg (by
  intro h;obtain⟨z,hz,hn⟩:=List.any_eq_true.1 h;obtain⟨c,hc,rfl⟩:=List.mem_map.1 hz;have h1:=hk c hc;unfold cX at h1;unfold noC at hn;simp at hn;omega),hs,Int.toNat_natCast,if_neg (Rat.not_lt.2 hx)]
theorem uw {x:Rat} {ws cs:List Int} (h:ws.length=cs.length) (hl:32<ws.length):cf x ws cs=6:=by
 unfold cf;rw[if_neg (fun e=>e h),if_pos hl]
section
variable {L:List Gr} {m k:Int} {ls:List Lf} {root:Int} (F:eN L m k ls root)
include F
theorem zz (g:Int):wtI L (kg L ls g)++lwI ls (kl ls g)=(kd L ls g).map fun c=>(c.1:Int):=by
 unfold kd wtI lwI;rw[List.map_append,List.map_map,List.map_map];congr 1
 ·apply List.map_congr_left;intro y hy;unfold kg at hy;have h2:=(cP F.ok).1 (List.mem_filter.1 hy).1;have h3:=F.ok.num _ (bd h2.1);show (gr L y).wt=(((gr L y).wt.toNat:Nat):Int)
  omega
 ·apply List.map_congr_left;intro i hi;have h2:=F.wt _ (kv (gN.1 hi).1);show (lf ls i).2=(((lf ls i).2.toNat:Nat):Int)
  omega
theorem f5 (g:Int): ∀c∈kd L ls g,cX c:=fun c hc=>by
 have h:=lZ F g c hc;exact⟨h.1,h.2.1,h.2.2.1⟩
theorem xr {x:Rat} (h0:0≤x) (hx:x≤((ls.length:Nat):Rat)) {g:Int} (hb:ag L g root=true) (hl:(kd L ls g).length≤32):
  ∃E:Nat,E≠0∧E≤big 32∧∀D,D≠0→bX D (ct L ls root x g)→bX (D*E) (lvl L ls root x g):=by
 have hr:=d8 F h0 hx _ g hb lr;obtain⟨E,hE,hE2,hw,_,_⟩:=fQ (D:=(ct L ls root x g).den) (qk hr.1) hr.1 (rm F g) (fun c hc=>(lZ F g c hc).2.1) (fun c hc=>(lZ F g c hc).2.2.1) (by rw[iG F (az hb)];exact hr.2);refine⟨E,hE,?_,fun D hD hW=>?_⟩
 ·refine Nat.le_trans hE2 ?_;have:=fe (kd L ls g) (f5 F g);have h3:aI (kd L ls g)+1≤320001:=A3
  exact Nat.le_trans (Nat.mul_le_mul_left _ h3) BD
 ·obtain⟨c,e⟩:=tT hD hW;have:=bP c hw;rw[Nat.mul_right_comm,←e] at this;exact this
theorem rW {x:Rat} (h0:0≤x) (hx:x≤((ls.length:Nat):Rat)) {g y:Int} (hb:ag L g root=true) (hl:(kd L ls g).length≤32) (hy:y∈aW L g) {j:Nat} (h:DW j (ct L ls root x g)):DW (j+1) (ct L ls root x y):=by
 obtain⟨E,hE,hE2,hw⟩:=xr F h0 hx hb hl;obtain⟨D,hD,hD2,hW⟩:=h;have hk:=F.kid hb hy;refine⟨D*E,Nat.mul_ne_zero hD hE,?_,?_⟩
 ·have:big (32*(j+1))=big (32*j)*big 32:=by rw[mS,Nat.mul_add]
  rw[this];exact Nat.mul_le_mul hD2 hE2
 ·rw[gc F x hk.1 hk.2.1,hk.2.2.1];exact jt (hw D hD hW) _
theorem gQ {y c:Int} (h:ag L y c=true):many L ls y≤many L ls c:=by
 unfold many;rw[←List.countP_eq_length_filter,←List.countP_eq_length_filter];refine List.countP_mono_left fun z _ hz=>?_
 have h1:=of_decide_eq_true hz;have h2:=of_decide_eq_true h;unfold ag;exact decide_eq_true (F.ok.trans h1 h2)
theorem eG {g:Int}: ∀(n:Nat) (y:Int),(pth L y).length≤n→has L g=true→ag L y g=true→¬y=g→∃c∈aW L g,ag L y c=true
 | n,y,hn,hg,hb,hne=>by
  have hy:=az hb;have hp:=F.ok.yes hy;cases n with
  | zero=>rw[hp] at hn;simp at hn
  | succ n=>
   have h1:ag L (gr L y).pa g=true:=by
    rw[F.ok.below_step hy,decide_eq_false hne,Bool.false_or] at hb;exact hb
   by_cases e:(gr L y).pa=g
   ·refine⟨y,(cP F.ok).2 ⟨hy,e⟩,?_⟩;unfold ag;exact decide_eq_true (F.ok.self hy)
   ·obtain⟨c,hc,hbc⟩:=eG n (gr L y).pa (by rw[hp] at hn;simpa using hn) hg h1 e;refine⟨c,hc,?_⟩;unfold ag at hbc ⊢;refine decide_eq_true (F.ok.trans ?_ (of_decide_eq_true hbc));rw[hp];exact List.mem_cons_of_mem _ (F.ok.self (az h1))
theorem jg {y g c:Int} (hc:c∈aW L g) (hg:has L g=true) (h:ag L y c=true):ag L y g=true:=by
 have h2:=(cP F.ok).1 hc;unfold ag at h ⊢;refine decide_eq_true (F.ok.trans (of_decide_eq_true h) ?_);rw[F.ok.yes h2.1,h2.2];exact List.mem_cons_of_mem _ (F.ok.self hg)
end
def jS (L:List Gr) (ls:List Lf) (g:Int):Bool:=(bK L).all fun h=> !(ag L h g)||decide ((kd L ls h).length≤32)
def bM (L:List Gr) (ls:List Lf) (g:Int):Int:=if jS L ls g=true then 0 else 6
theorem dq {L:List Gr} {ls:List Lf} {g:Int}:jS L ls g=true↔∀h,ag L h g=true→(kd L ls h).length≤32:=by
 unfold jS;rw[List.all_eq_true];constructor
 ·intro h y hy;have:=h y (cN.1 (az hy));simpa[hy] using this
 ·intro h y _;cases hy:ag L y g with
  | true=>simpa using h y hy
  | false=>rfl
section
variable {L:List Gr} {m k:Int} {ls:List Lf} {root:Int} (F:eN L m k ls root)
include F
theorem ux {h:Int} (hh:has L h=true) (h0:many L ls h=0):kd L ls h=[]:=by
 have hc:=iG F hh;rw[h0] at hc;cases e:kd L ls h with
 | nil=>rfl
 | cons c l=>
  have h1:=(lZ F h c (by rw[e];exact List.mem_cons_self)).2.2.2;rw[e,bT] at hc;omega
theorem iO {g:Int} (hg:has L g=true):jS L ls g=true↔(kd L ls g).length≤32∧∀c∈kg L ls g,jS L ls c=true:=by
 constructor
 ·intro h;have h1:=dq.1 h;refine⟨h1 g (by unfold ag;exact decide_eq_true (F.ok.self hg)),fun c hc=>dq.2 fun y hy=>h1 y ?_⟩;unfold kg at hc;exact jg F (List.mem_filter.1 hc).1 hg hy
 ·rintro⟨h1,h2⟩;refine dq.2 fun y hy=>?_
  by_cases e:y=g
  ·rw[e];exact h1
  ·obtain⟨c,hc,hb⟩:=eG F (g:=g) _ y lr hg hy e;by_cases h0:0<many L ls c
   ·exact dq.1 (h2 c (by unfold kg;exact List.mem_filter.2 ⟨hc,decide_eq_true h0⟩)) y hb
   ·have h3:=gQ F (ls:=ls) hb;rw[ux F (az hy) A3];exact Nat.zero_le _
theorem oT {g:Int} (hg:has L g=true) (hm:0<many L ls g) (x:Int):
  (ag L x g&&decide (0<many L ls x))=(decide (x=g)||(kg L ls g).any fun c=>ag L x c&&decide (0<many L ls x)):=by
 rw[Bool.eq_iff_iff];simp only[Bool.and_eq_true,Bool.or_eq_true,decide_eq_true_eq,List.any_eq_true];constructor
 ·rintro⟨h1,h2⟩;by_cases e:x=g
  ·exact .inl e
  ·obtain⟨c,hc,hb⟩:=eG F (g:=g) _ x lr hg h1 e;have h3:=gQ F (ls:=ls) hb;exact .inr ⟨c,by unfold kg;exact List.mem_filter.2 ⟨hc,decide_eq_true A3⟩,hb,h2⟩
 ·rintro (rfl | ⟨c,hc,hb,h2⟩)
  ·exact⟨by unfold ag;exact decide_eq_true (F.ok.self hg),hm⟩
  ·unfold kg at hc;exact⟨jg F (List.mem_filter.1 hc).1 hg hb,h2⟩
theorem nA {g:Int} (hg:has L g=true) {i:Nat} (hi:i<ls.length):
  ag L (lf ls i).1 g=(decide ((lf ls i).1=g)||(kg L ls g).any fun c=>ag L (lf ls i).1 c):=by
 rw[Bool.eq_iff_iff];simp only[Bool.or_eq_true,decide_eq_true_eq,List.any_eq_true];constructor
 ·intro h1;by_cases e:(lf ls i).1=g
  ·exact .inl e
  ·obtain⟨c,hc,hb⟩:=eG F (g:=g) _ _ lr hg h1 e;have h3:=gQ F (ls:=ls) hb;have h4:=vP F hi;exact .inr ⟨c,by unfold kg;exact List.mem_filter.2 ⟨hc,decide_eq_true A3⟩,hb⟩
 ·rintro (e | ⟨c,hc,hb⟩)
  ·rw[e];unfold ag;exact decide_eq_true (F.ok.self hg)
  ·unfold kg at hc;exact jg F (List.mem_filter.1 hc).1 hg hb
end
end Go.Proofs.YtohifgjeebhijaaGreatDoor
namespace Go.Proofs.YtohifgjeebhijaaGreatDoor
set_option maxRecDepth 100000
set_option maxHeartbeats 4000000
open Go.RowKit Go.Maps Go.Rq
def ew (L:List Gr) (root:Int) (ls:List Lf) (y:Int):Int:=if y=root then 0 else ((many L ls y:Nat):Int)
def CtM (w:World) (cm N:Nat) (c:Int→Int):Prop:=∃V:Int→Option Value,Mv w cm N V∧∀y,(V y).getD (.int .i64 0)= .int .i64 (c y)
section
variable {w w':World} {cm N:Nat} {c c':Int→Int}
theorem CtM.lt (h:CtM w cm N c):cm<w.heap.size:=by
 obtain⟨V,h1,_⟩:=h;exact h1.lt
theorem CtM.below (h:CtM w cm N c) (hb:Below w.heap.size w w'):CtM w' cm N c:=by
 obtain⟨V,h1,h2⟩:=h;exact⟨V,h1.below hb,h2⟩
theorem CtM.congr (h:CtM w cm N c) (e: ∀y,c y=c' y):CtM w cm N c':=by
 obtain⟨V,h1,h2⟩:=h;exact⟨V,h1,fun y=>by rw[h2,e]⟩
theorem CtM.same (h:CtM w cm N c) (hs:w'.heap[cm]? =w.heap[cm]?):CtM w' cm N c:=by
 obtain⟨V,h1,h2⟩:=h;exact⟨V,h1.same hs,h2⟩
theorem CtM.made (w:World):CtM (w.alloc (.map #[] 0)) w.heap.size 0 fun _=>0:=⟨_,Mv.made w,fun _=>rfl⟩
end
theorem tI {L:List Gr} {ls:List Lf} {j:Nat} (h:j<ls.length) (y:Int):many L (ls.take (j+1)) y=many L (ls.take j) y+if ag L (lf ls j).1 y=true then 1 else 0:=by
 have e:ls.take (j+1)=ls.take j++[lf ls j]:=by
  rw[List.take_add_one,List.getElem?_eq_getElem h];simp[lf,List.getD_eq_getElem?_getD,List.getElem?_eq_getElem h]
 unfold many;rw[e,List.filter_append,List.length_append,List.filter_cons];split<;>simp
theorem yn {L:List Gr} {m k:Int} (ok:Ok L m k) {x g:Int} (hg:has L g=true) (hx:ag L x g=true) (c:Int) (y:Int):
  (c+if ag L x y=true∧ag L (gr L g).pa y=false then 1 else 0)=(c+if ag L x y=true∧ag L g y=false then 1 else 0)+if y=g then 1 else 0:=by
 have h1:=ok.below_step hg y;by_cases e:y=g
 ·subst e;have h2:ag L (gr L y).pa y=false:=by unfold ag;exact decide_eq_false (ok.notUp hg)
  have h3:ag L y y=true:=by unfold ag;exact decide_eq_true (ok.self hg)
  simp[hx,h2,h3]
 ·rw[if_neg e,h1,decide_eq_false (fun h=>e h.symm),Bool.false_or];omega
theorem uq {L:List Gr} (x:Int) (c y:Int):c=c+if ag L x y=true∧ag L x y=false then 1 else 0:=by
 rw[if_neg (by rintro⟨h1,h2⟩;rw[h1] at h2;cases h2)];omega
theorem ti {L:List Gr} {m k:Int} {ls:List Lf} {root:Int} (F:eN L m k ls root) (y:Int):ag L root y=decide (y=root):=by
 have hneg:has L (-1)=false:=F.ok.low A3;rw[F.ok.below_step F.hr,F.top,fJ hneg,Bool.or_false];by_cases e:y=root
 ·rw[decide_eq_true e,decide_eq_true e.symm]
 ·rw[decide_eq_false e,decide_eq_false fun h=>e h.symm]
theorem zj {L:List Gr} {m k:Int} {ls:List Lf} {root:Int} (F:eN L m k ls root) {j:Nat} (h:j<ls.length) (y:Int):
  (ew L root (ls.take j) y+if ag L (lf ls j).1 y=true∧ag L root y=false then 1 else 0)=ew L root (ls.take (j+1)) y:=by
 unfold ew;rw[ti F,tI h];by_cases e:y=root
 ·simp[e]
 ·simp only[e,if_false,decide_false,and_true];split<;>simp
theorem yY (i q wt d r me aw:Int) (w:World):(Instr.field 158 (.agg #[.int .i64 i,.int .i64 q,.int .i64 wt,.int .i64 d,.int .i64 r,.int .i64 me,.int .i64 aw]) 1).run Tryz.prog w= .ok (.int .i64 q) w:=Ct
theorem Blk.below8 {w w':World} {b t B:Nat} {cs:Array Value} (h:Blk w b t cs) (hb:Below B w w') (hlt:b<B):Blk w' b t cs:=(hb.block b hlt).trans h
theorem ow {w w1 w2:World} {B s:Nat} (h:aQ s s w w1) (hb:Below B w1 w2) (e:w.heap.size=B):aQ s s w w2:=⟨hb.os.trans h.os,hb.tape.trans h.tape,hb.output.trans h.output,Nat.le_trans h.size hb.size,fun k hk h1 h2=>(hb.block k A3).trans (h.block k hk h1 h2)⟩
section
variable (fp B:Nat) (L:List Gr) (l:List Int) (m k:Int)
theorem iR (W0:World) (s:Nat) (al:Option Addr) (cl:Nat) (cv gv rv:Value) (ls:List Lf) (root:Int) (F:eN L m k ls root) (w:World) (hF:IsF W0 B fp L l m k) (hl:cu W0 (.slice al ls.length cl) ls) (hb0:Below W0.heap.size W0 w) (hs0:W0.heap.size≤s) (hs:Blk w s 82 (bF fp (.slice al ls.length cl) cv gv rv)):
  Calls Tryz.prog 60 #[.pointer (some ⟨s,0,none⟩),.int .i64 root] w fun e w'=>e= .returned (.tuple #[])∧∃cm N,w.heap.size≤cm∧Blk w' s 82 (bF fp (.slice al ls.length cl) (.map (some cm)) gv rv)∧CtM w' cm N (ew L root ls)∧aQ s s w w':=by
 have hsl:=hs.lt;have fz:=hs.fz 2;have c2:=cS2 hs;have c1:=cS1 hs;have hmm:= @run_makeMap Tryz.prog;have hlen:=F.n64;have HFF:=Hd F;have ht:=aX.setCell w s 2 (.map (some w.heap.size));have hsz:=ht.size;have hs1:Blk (w.setCell ⟨s,2,none⟩ (.map (some w.heap.size))) s 82 (bF fp (.slice al ls.length cl) (.map (some w.heap.size)) gv rv):=hs.set 2 _;have hs2:=Hd (hs1.alloc (.map #[] 0));have hct:=CtM.made (w.setCell ⟨s,2,none⟩ (.map (some w.heap.size)));rw[hsz] at hct;have ho:aQ s s w ((w.setCell ⟨s,2,none⟩ (.map (some w.heap.size))).alloc (.map #[] 0)):=(aQ.of_turn_p ht).trans (aQ.of_below ((Below.refl _ _).alloc lr _));have HB0:=Hd (hb0.trans (ho.below (p:=s) (g:=s) hb0.size hs0 hs0));have HCT:=Hd hct;have HO:=Hd ho;have hcmsz:w.heap.size≤((w.setCell ⟨s,2,none⟩ (.map (some w.heap.size))).alloc (.map #[] 0)).heap.size:=ho.size;have HL:=Hd hl;clear F hs hs1 hct ho ht hsz hb0;go_enter Tryz.func60,Tryz.ntmps60
 go_wp2_with fail
 clear c2 fz hmm c1;generalize (w.setCell ⟨s,2,none⟩ (.map (some w.heap.size))).alloc (.map #[] 0)=w1 at *;generalize hcm:w.heap.size=cm at *
 go_loopw [16] (fun i wr=>∃(j N:Nat),j≤ls.length∧i= .int .i64 (j:Int)∧N≤16*j∧Hid (CtM wr cm N (ew L root (ls.take j)))∧Hid (Below cm w1 wr)∧Hid (Blk wr s 82 (bF fp (.slice al ls.length cl) (.map (some cm)) gv rv))∧Hid (Below W0.heap.size W0 wr)) (fun i _=>ls.length - (intOf i).toNat)
 case atStart=>exact⟨0,0,Nat.zero_le _,rfl,A3,Hd (HCT.congr fun y=>by simp[ew,many]),Hd (Below.refl _ _),hs2,HB0⟩
 case round=>
  obtain⟨j,N,hj,rfl,hN,HC,HBw,HS,HB⟩:=hrel;by_cases hlt:j<ls.length
  ·obtain⟨bl,off,rfl,hx0,hx1,_,_⟩:=(HL.below HB.out).at hlt;have hgb:=HFF.grp hlt;have HE:=Hd (fun y=>zj HFF.out hlt y);generalize lf ls j=x at *;obtain⟨xg,xw⟩:=x;dsimp only at hx0 hx1 hgb;have hA:=Blk.new wr 75 #[.int .i64 0,.int .i64 0];have hba:Below wr.heap.size wr (wr.alloc (.cells #[.int .i64 0,.int .i64 0] 75)):=(Below.refl _ _).alloc lr _;have hwr:cm≤wr.heap.size:=Nat.le_trans hcmsz HBw.size;have hw0r:=HB.size;have hcl:=HC.lt;replace HC:=Hd (HC.below hba);replace HBw:=Hd (HBw.trans (hba.mono hwr));replace HS:=Hd (HS.below hba);replace HB:=Hd (HB.tr hba);clear hba;have T1:True:=trivial
   go_wp2_with (first
    | (refine dk rfl rfl ?_;clear T1;generalize wr.alloc (.cells #[.int .i64 0,.int .i64 0] 75)=w6 at *)
    | (refine dt rfl _ _ rfl wr.heap.size xg xw rfl rfl hA rfl ?_;intro w7 hA7 t7;have hx:=cP0 hA7;replace HBw:=Hd (HBw.trans (t7.below hwr));replace HC:=Hd (HC.same (t7.block cm (Nat.ne_of_lt hcl)));replace HS:=Hd (HS.turn t7 (Nat.ne_of_lt (Nat.lt_of_lt_of_le hsl hwr)));replace HB:=Hd (HB.trans (t7.below hw0r));clear hA hx0 hx1 t7))
   have HC7:=Hd HC.out;have HB7:=Hd HB.out;have HS7:=Hd HS.out;have HBw7:=Hd HBw.out;have HGB:=Hd hgb;have h8:=HFF.ok.deep xg;clear HC HB HS HBw hx hA7
   go_loopw [6] (fun v wr2=>∃(g:Int) (N2:Nat),v= .int .i64 g∧ag L g root=true∧ag L xg g=true∧N2+(pth L g).length≤16*j+9∧Hid (CtM wr2 cm N2 (fun y=>ew L root (ls.take j) y+if ag L xg y=true∧ag L g y=false then 1 else 0))∧Hid (Below cm w1 wr2)∧Hid (Blk wr2 s 82 (bF fp (.slice (some ⟨bl,off,none⟩) ls.length cl) (.map (some cm)) gv rv))∧Hid (Below W0.heap.size W0 wr2)) (fun v _=>(pth L (intOf v)).length)
   case atStart=>exact⟨xg,N,rfl,HGB.out,by unfold ag;exact decide_eq_true (HFF.ok.self (az HGB.out)),A3,Hd (HC7.congr fun y=>uq xg _ y),HBw7,HS7,HB7⟩
   case round=>
    clear HC7 HB7 HS7 HBw7 hgb;obtain⟨g,N2,rfl,hgr,hxg,hN2,HC,HBw,HS,HB⟩:=hrel;have hgh:=az hgr;have HIG:I64 g:=by
     have h1:=HFF.ok.id hgh;have h2:=HFF.ok.mle;have h3:=HFF.ok.k1;unfold I64;omega
    by_cases e:g=root
    ·subst e;have hne:(g != g)=false:=B4
     clear hxg
     go_wp2_with fail
     go_round
     case rel=>exact⟨j+1,N2,A3,BH,A3,Hd (HC.congr fun y=>HE.out y),HBw,HS,HB⟩
     case measure=>simp[intOf];omega
    ·have hne:(g != root)=true:=by simpa using e
     have hne2:=aB e;obtain⟨V,hV1,hV2⟩:=HC.out;have hlk:=hV1.look Tryz.underlying80 (wa wr) HIG;have hcg:0≤ew L root (ls.take j) g∧ew L root (ls.take j) g≤64:=by
      unfold ew;have:=mV L (ls.take j) g;rw[List.length_take] at this;split<;>omega
     have hbg:ag L g g=true:=by unfold ag;exact decide_eq_true (HFF.ok.self hgh)
     have hvg:=hV2 g;dsimp only at hvg;rw[if_neg (c:=ag L xg g=true∧ag L g g=false) (by rintro⟨_,h⟩;rw[hbg] at h;cases h),Int.add_zero] at hvg;rw[hvg] at hlk;clear hvg;have hup:=HFF.up hgr e;have hst:=HFF.ok.yes hgh;have hln:(pth L g).length=(pth L (gr L g).pa).length+1:=by rw[hst];rfl
     have HST:=Hd (fun y=>yn HFF.ok hgh hxg (ew L root (ls.take j) y) y);have HXP:Hid (ag L xg (gr L g).pa=true):=Hd (by
      unfold ag at hxg ⊢;refine decide_eq_true (HFF.ok.trans (of_decide_eq_true hxg) ?_);rw[hst];exact List.mem_cons_of_mem _ (HFF.ok.self (az hup)))
     have HV:=Hd hV2;have c2:=cS2 HS.out;have HLN:=Hd hln;have HUP:=Hd hup;have HGH:=Hd hgh;have hwc:cm≤wr.heap.size:=Nat.le_trans hcmsz HBw.size;have HB2:=Hd HB.size;have HW0:=Hd hs0;generalize hcge:ew L root (ls.take j) g=cg at hlk hcg;have HCG:=Hd hcge;clear hV2 hxg hgr hbg hup hst hln HC hgh hcge;have HTo:Hid (∀W,Below W0.heap.size W0 W→Blk W s 82 (bF fp (.slice (some ⟨bl,off,none⟩) ls.length cl) (.map (some cm)) gv rv)→Calls Tryz.prog 98 #[.pointer (some ⟨s,0,none⟩),.int .i64 g] W fun e w'=>e= .returned (.agg #[.int .i64 g,.int .i64 (gr L g).pa,.int .i64 (gr L g).wt,.int .i64 (dep L g),.int .i64 (aZ L g),.int .i64 (gr L g).me,.int .i64 (gr L g).aw])∧Below W.heap.size W w'):=Hd fun W hW hS=>nE fp B L l m k s _ _ gv rv g W (hF.below hW) hS HIG HGH.out
     have hfd:=yY g (gr L g).pa (gr L g).wt (dep L g) (aZ L g) (gr L g).me (gr L g).aw
     go_wp2_with (first
      | (refine pm (c:=.int .i64 (cg+1)) rfl _ _ _ rfl Tryz.underlying80 rfl hV1 Cf rfl HIG rfl ?_;intro w8 h3 h4;have hb8:Below cm wr w8:=(Below.refl _ _).grown h4 hwc (fun q e=>by cases e;exact Nat.le_refl _);have HC8:=Hd h3;replace HS:=Hd (HS.below8 hb8 hsl);replace HBw:=Hd (HBw.trans hb8);replace HB:=Hd (HB.trans (hb8.mono A3));clear h3 h4 hb8 hlk c2)
      | (go_at_call 98;refine(HTo.out w8 HB.out HS.out).mono ?_;rintro e w9 ⟨rfl,hb9⟩))
     go_round
     case rel=>
      refine⟨(gr L g).pa,N2+1,rfl,HUP.out,HXP.out,by have:=HLN.out;omega,Hd ⟨_,HC8.below hb9,fun y=>?_⟩,Hd (HBw.trans (hb9.mono (Nat.le_trans hcmsz HBw.size))),Hd (HS.below hb9),Hd (HB.tr hb9)⟩;have h1:=HST.out y;dsimp only;by_cases ey:y=g
      ·subst ey;rw[if_pos rfl];rw[if_pos rfl,HCG.out] at h1;rw[HCG.out,h1];have hbg:ag L y y=true:=by unfold ag;exact decide_eq_true (HFF.ok.self HGH.out)
       rw[if_neg (c:=ag L xg y=true∧ag L y y=false) (by rintro⟨_,h⟩;rw[hbg] at h;cases h)];simp
      ·rw[if_neg ey];rw[if_neg ey,Int.add_zero] at h1;rw[h1];exact HV.out y
     case measure=>
      have:=HLN.out;simp[intOf];omega
  ·have ej:j=ls.length:=A3
   subst ej;rw[List.take_length] at HC
   go_wp2_with fail
   go_end0
   exact⟨rfl,cm,N,Nat.le_of_eq hcm,HS.out,HC.out,ow HO.out HBw.out hcm⟩
end
def eu (L:List Gr) (root:Int):List Lf→Int
 | []=>0
 | x::ls=>if ag L x.1 root=false then 4 else if x.2<1∨10000<x.2 then 13 else eu L root ls
def cM (L:List Gr) (ls:List Lf) (root online:Int):Int:=
 if has L root=false∨aZ L root≠root then 4 else if online<1∨64<online then 14 else if 64<ls.length then 6 else eu L root ls
theorem lA {L:List Gr} {root:Int} {ls:List Lf} {j:Nat} (h:j<ls.length):eu L root (ls.drop j)=if ag L (lf ls j).1 root=false then 4 else if (lf ls j).2<1∨10000<(lf ls j).2 then 13 else eu L root (ls.drop (j+1)):=by
 have e:ls.drop j=lf ls j::ls.drop (j+1):=by
  rw[List.drop_eq_getElem_cons h];simp[lf,List.getD_eq_getElem?_getD,List.getElem?_eq_getElem h]
 rw[e,eu]
theorem mK {L:List Gr} {root:Int}: ∀ {ls:List Lf},eu L root ls=0→∀x∈ls,ag L x.1 root=true∧1≤x.2∧x.2≤10000
 | [],_,x,hx=>by cases hx
 | y::ls,h,x,hx=>by
  rw[eu] at h;split at h
  ·cases h
  ·rename_i h1;split at h
   ·cases h
   ·rename_i h2;rcases List.mem_cons.1 hx with rfl | hx
    ·exact⟨by simpa using h1,A3,A3⟩
    ·exact mK h x hx
theorem mz {L:List Gr} {m k:Int} {ls:List Lf} {root online:Int} (ok:Ok L m k) (h:cM L ls root online=0):eN L m k ls root∧1≤online∧online≤64:=by
 unfold cM at h;split at h
 ·cases h
 ·rename_i h1;split at h
  ·cases h
  ·rename_i h2;split at h
   ·cases h
   ·rename_i h3;have hh:has L root=true:=by
     cases hq:has L root with
     | true=>rfl
     | false=>exact absurd (.inl hq) h1
    have ht:aZ L root=root:=by
     by_cases e:aZ L root=root
     ·exact e
     ·exact absurd (.inr e) h1
    refine⟨⟨ok,hh,?_,fun x hx=>(mK h x hx).1,fun x hx=>(mK h x hx).2,A3⟩,A3,A3⟩;rcases ok.pa hh with hp | hp
    ·exact hp
    ·exfalso;have h4:=ok.top_step hh hp;have h5:=ok.top_mem hp;rw[←h4,ht] at h5;exact ok.notUp hh h5
section
variable (fp B:Nat) (L:List Gr) (l:List Int) (m k:Int)
theorem AO {p:Prop} (h:p:=by go_ret;rw[HE.out];exact⟨rfl,HB3.out⟩):p:=h
theorem tu (gi gp gw gd gr gm ga:Int) (s:Nat) (al:Option Addr) (cl:Nat) (cv gv rv:Value) (ls:List Lf) (root online:Int) (w:World) (h:IsF w B fp L l m k) (hs:Blk w s 82 (bF fp (.slice al ls.length cl) cv gv rv)) (hl:cu w (.slice al ls.length cl) ls) (_hr:I64 root) (HG:Hid (Calls Tryz.prog 97 #[.pointer (some ⟨fp,0,none⟩),.int .i64 root] w fun e w'=>e= .returned (.tuple #[.agg (bh gi gp gw gd gr gm ga),.int .i64 4])∧Below w.heap.size w w')) (HE:Hid (cM L ls root online=4)):
  Calls Tryz.prog 59 #[.pointer (some ⟨s,0,none⟩),.int .i64 root,.int .i64 online] w fun e w'=>e= .returned (.int .i64 (cM L ls root online))∧Below w.heap.size w w':=by
 have h0:=cS0 hs;have HS:=Hd hs;have HL:=Hd hl;have HFo:=Hd h;clear h hs hl;go_enter Tryz.func59,Tryz.ntmps59
 go_wp2_with (first
  | (go_at_call 97;refine HG.mono ?_;rintro e w1 ⟨rfl,hb1⟩;have hZ:Blk (w1.alloc (.cells #[.int .i64 0,.int .i64 0,.int .i64 0,.int .i64 0,.int .i64 0,.int .i64 0,.int .i64 0] 158)) w1.heap.size 158 (bh 0 0 0 0 0 0 0):=Blk.new w1 158 _;have hb2:=Below.allocS hb1 (.cells #[.int .i64 0,.int .i64 0,.int .i64 0,.int .i64 0,.int .i64 0,.int .i64 0,.int .i64 0] 158);have hsz:=hb1.size)
  | (refine bf rfl rfl ?_;generalize w1.alloc (.cells #[.int .i64 0,.int .i64 0,.int .i64 0,.int .i64 0,.int .i64 0,.int .i64 0,.int .i64 0] 158)=w2 at *)
  | (refine bE rfl _ _ rfl w1.heap.size gi gp gw gd gr gm ga rfl rfl hZ rfl ?_;intro w3 hZ3 t3;have hc4:=cU4 hZ3;have h1c:=cS1 (HS.below (hb2.trans (t3.below hsz)));have HB3:=Hd (hb2.trans (t3.below hsz));clear hb2 t3 hZ hsz hb1 h0))
 exact AO
theorem qR (gi gp gw gd gr gm ga:Int) (s:Nat) (al:Option Addr) (cl:Nat) (cv gv rv:Value) (ls:List Lf) (root online:Int) (w:World) (h:IsF w B fp L l m k) (hs:Blk w s 82 (bF fp (.slice al ls.length cl) cv gv rv)) (hl:cu w (.slice al ls.length cl) ls) (_hr:I64 root) (HG:Hid (Calls Tryz.prog 97 #[.pointer (some ⟨fp,0,none⟩),.int .i64 root] w fun e w'=>e= .returned (.tuple #[.agg (bh gi gp gw gd gr gm ga),.int .i64 0])∧Below w.heap.size w w')) (hne: ¬gr=root) (HE:Hid (cM L ls root online=4)):
  Calls Tryz.prog 59 #[.pointer (some ⟨s,0,none⟩),.int .i64 root,.int .i64 online] w fun e w'=>e= .returned (.int .i64 (cM L ls root online))∧Below w.heap.size w w':=by
 have hn2:(gr != root)=true:=by simpa using hne
 have h0:=cS0 hs;have HS:=Hd hs;have HL:=Hd hl;have HFo:=Hd h;clear h hs hl;go_enter Tryz.func59,Tryz.ntmps59
 go_wp2_with (first
  | (go_at_call 97;refine HG.mono ?_;rintro e w1 ⟨rfl,hb1⟩;have hZ:Blk (w1.alloc (.cells #[.int .i64 0,.int .i64 0,.int .i64 0,.int .i64 0,.int .i64 0,.int .i64 0,.int .i64 0] 158)) w1.heap.size 158 (bh 0 0 0 0 0 0 0):=Blk.new w1 158 _;have hb2:=Below.allocS hb1 (.cells #[.int .i64 0,.int .i64 0,.int .i64 0,.int .i64 0,.int .i64 0,.int .i64 0,.int .i64 0] 158);have hsz:=hb1.size)
  | (refine bf rfl rfl ?_;generalize w1.alloc (.cells #[.int .i64 0,.int .i64 0,.int .i64 0,.int .i64 0,.int .i64 0,.int .i64 0,.int .i64 0] 158)=w2 at *)
  | (refine bE rfl _ _ rfl w1.heap.size gi gp gw gd gr gm ga rfl rfl hZ rfl ?_;intro w3 hZ3 t3;have hc4:=cU4 hZ3;have h1c:=cS1 (HS.below (hb2.trans (t3.below hsz)));have HB3:=Hd (hb2.trans (t3.below hsz));clear hb2 t3 hZ hsz hb1 h0))
 exact AO
theorem mw (gi gp gw gd gr gm ga:Int) (s:Nat) (al:Option Addr) (cl:Nat) (cv gv rv:Value) (ls:List Lf) (root online:Int) (w:World) (h:IsF w B fp L l m k) (hs:Blk w s 82 (bF fp (.slice al ls.length cl) cv gv rv)) (hl:cu w (.slice al ls.length cl) ls) (hr:I64 root) (HG:Hid (Calls Tryz.prog 97 #[.pointer (some ⟨fp,0,none⟩),.int .i64 root] w fun e w'=>e= .returned (.tuple #[.agg (bh gi gp gw gd gr gm ga),.int .i64 0])∧Below w.heap.size w w')) (hgr:gr=root) (ho:online<1∨64<online) (HE:Hid (cM L ls root online=14)):
  Calls Tryz.prog 59 #[.pointer (some ⟨s,0,none⟩),.int .i64 root,.int .i64 online] w fun e w'=>e= .returned (.int .i64 (cM L ls root online))∧Below w.heap.size w w':=by
 subst hgr;have hn2:(gr != gr)=false:=B4
 rcases ho with ho | ho
 ·skip
  have h0:=cS0 hs;have HS:=Hd hs;have HL:=Hd hl;have HFo:=Hd h;clear h hs hl;go_enter Tryz.func59,Tryz.ntmps59
  go_wp2_with (first
   | (go_at_call 97;refine HG.mono ?_;rintro e w1 ⟨rfl,hb1⟩;have hZ:Blk (w1.alloc (.cells #[.int .i64 0,.int .i64 0,.int .i64 0,.int .i64 0,.int .i64 0,.int .i64 0,.int .i64 0] 158)) w1.heap.size 158 (bh 0 0 0 0 0 0 0):=Blk.new w1 158 _;have hb2:=Below.allocS hb1 (.cells #[.int .i64 0,.int .i64 0,.int .i64 0,.int .i64 0,.int .i64 0,.int .i64 0,.int .i64 0] 158);have hsz:=hb1.size)
   | (refine bf rfl rfl ?_;generalize w1.alloc (.cells #[.int .i64 0,.int .i64 0,.int .i64 0,.int .i64 0,.int .i64 0,.int .i64 0,.int .i64 0] 158)=w2 at *)
   | (refine bE rfl _ _ rfl w1.heap.size gi gp gw gd gr gm ga rfl rfl hZ rfl ?_;intro w3 hZ3 t3;have hc4:=cU4 hZ3;have h1c:=cS1 (HS.below (hb2.trans (t3.below hsz)));have HB3:=Hd (hb2.trans (t3.below hsz));clear hb2 t3 hZ hsz hb1 h0))
  exact AO
 ·have ho2: ¬online<1:=A3
  have h0:=cS0 hs;have HS:=Hd hs;have HL:=Hd hl;have HFo:=Hd h;clear h hs hl;go_enter Tryz.func59,Tryz.ntmps59
  go_wp2_with (first
   | (go_at_call 97;refine HG.mono ?_;rintro e w1 ⟨rfl,hb1⟩;have hZ:Blk (w1.alloc (.cells #[.int .i64 0,.int .i64 0,.int .i64 0,.int .i64 0,.int .i64 0,.int .i64 0,.int .i64 0] 158)) w1.heap.size 158 (bh 0 0 0 0 0 0 0):=Blk.new w1 158 _;have hb2:=Below.allocS hb1 (.cells #[.int .i64 0,.int .i64 0,.int .i64 0,.int .i64 0,.int .i64 0,.int .i64 0,.int .i64 0] 158);have hsz:=hb1.size)
   | (refine bf rfl rfl ?_;generalize w1.alloc (.cells #[.int .i64 0,.int .i64 0,.int .i64 0,.int .i64 0,.int .i64 0,.int .i64 0,.int .i64 0] 158)=w2 at *)
   | (refine bE rfl _ _ rfl w1.heap.size gi gp gw gd gr gm ga rfl rfl hZ rfl ?_;intro w3 hZ3 t3;have hc4:=cU4 hZ3;have h1c:=cS1 (HS.below (hb2.trans (t3.below hsz)));have HB3:=Hd (hb2.trans (t3.below hsz));clear hb2 t3 hZ hsz hb1 h0))
  exact AO
theorem pF (gi gp gw gd gr gm ga:Int) (s:Nat) (al:Option Addr) (cl:Nat) (cv gv rv:Value) (ls:List Lf) (root online:Int) (w:World) (h:IsF w B fp L l m k) (hs:Blk w s 82 (bF fp (.slice al ls.length cl) cv gv rv)) (hl:cu w (.slice al ls.length cl) ls) (hr:I64 root) (HG:Hid (Calls Tryz.prog 97 #[.pointer (some ⟨fp,0,none⟩),.int .i64 root] w fun e w'=>e= .returned (.tuple #[.agg (bh gi gp gw gd gr gm ga),.int .i64 0])∧Below w.heap.size w w')) (hgr:gr=root) (ho: ¬(online<1∨64<online)) (hn:64<ls.length) (hn9:ls.length≤1000) (HE:Hid (cM L ls root online=6)):
  Calls Tryz.prog 59 #[.pointer (some ⟨s,0,none⟩),.int .i64 root,.int .i64 online] w fun e w'=>e= .returned (.int .i64 (cM L ls root online))∧Below w.heap.size w w':=by
 subst hgr;have hn2:(gr != gr)=false:=B4
 have ho1: ¬online<1:=A3
 have ho2: ¬ 64<online:=A3
 have hn3:(64:Int)<(ls.length:Int):=A3
 clear ho;have h0:=cS0 hs;have HS:=Hd hs;have HL:=Hd hl;have HFo:=Hd h;clear h hs hl;go_enter Tryz.func59,Tryz.ntmps59
 go_wp2_with (first
  | (go_at_call 97;refine HG.mono ?_;rintro e w1 ⟨rfl,hb1⟩;have hZ:Blk (w1.alloc (.cells #[.int .i64 0,.int .i64 0,.int .i64 0,.int .i64 0,.int .i64 0,.int .i64 0,.int .i64 0] 158)) w1.heap.size 158 (bh 0 0 0 0 0 0 0):=Blk.new w1 158 _;have hb2:=Below.allocS hb1 (.cells #[.int .i64 0,.int .i64 0,.int .i64 0,.int .i64 0,.int .i64 0,.int .i64 0,.int .i64 0] 158);have hsz:=hb1.size)
  | (refine bf rfl rfl ?_;generalize w1.alloc (.cells #[.int .i64 0,.int .i64 0,.int .i64 0,.int .i64 0,.int .i64 0,.int .i64 0,.int .i64 0] 158)=w2 at *)
  | (refine bE rfl _ _ rfl w1.heap.size gi gp gw gd gr gm ga rfl rfl hZ rfl ?_;intro w3 hZ3 t3;have hc4:=cU4 hZ3;have h1c:=cS1 (HS.below (hb2.trans (t3.below hsz)));have HB3:=Hd (hb2.trans (t3.below hsz));clear hb2 t3 hZ hsz hb1 h0))
 exact AO
theorem AU {p:Prop} (h:p:=by go_ret;rw[HE.out,HE3.out];exact⟨rfl,HB.out⟩):p:=h
theorem pK (gi gp gw gd gr gm ga:Int) (s:Nat) (al:Option Addr) (cl:Nat) (cv gv rv:Value) (ls:List Lf) (root online:Int) (w:World) (h:IsF w B fp L l m k) (hs:Blk w s 82 (bF fp (.slice al ls.length cl) cv gv rv)) (hl:cu w (.slice al ls.length cl) ls) (hr:I64 root) (HG:Hid (Calls Tryz.prog 97 #[.pointer (some ⟨fp,0,none⟩),.int .i64 root] w fun e w'=>e= .returned (.tuple #[.agg (bh gi gp gw gd gr gm ga),.int .i64 0])∧Below w.heap.size w w')) (hgr:gr=root) (ho: ¬(online<1∨64<online)) (hn:ls.length≤64) (HE:Hid (cM L ls root online=eu L root ls)):
  Calls Tryz.prog 59 #[.pointer (some ⟨s,0,none⟩),.int .i64 root,.int .i64 online] w fun e w'=>e= .returned (.int .i64 (cM L ls root online))∧Below w.heap.size w w':=by
 subst hgr;have hn2:(gr != gr)=false:=B4
 have ho1: ¬online<1:=A3
 have ho2: ¬ 64<online:=A3
 have hn3: ¬(64:Int)<(ls.length:Int):=A3
 clear ho;have h0:=cS0 hs;have HS:=Hd hs;have HL:=Hd hl;have HFo:=Hd h;clear h hs hl;go_enter Tryz.func59,Tryz.ntmps59
 go_wp2_with (first
  | (go_at_call 97;refine HG.mono ?_;rintro e w1 ⟨rfl,hb1⟩;have hZ:Blk (w1.alloc (.cells #[.int .i64 0,.int .i64 0,.int .i64 0,.int .i64 0,.int .i64 0,.int .i64 0,.int .i64 0] 158)) w1.heap.size 158 (bh 0 0 0 0 0 0 0):=Blk.new w1 158 _;have hb2:=Below.allocS hb1 (.cells #[.int .i64 0,.int .i64 0,.int .i64 0,.int .i64 0,.int .i64 0,.int .i64 0,.int .i64 0] 158);have hsz:=hb1.size)
  | (refine bf rfl rfl ?_;generalize w1.alloc (.cells #[.int .i64 0,.int .i64 0,.int .i64 0,.int .i64 0,.int .i64 0,.int .i64 0,.int .i64 0] 158)=w2 at *)
  | (refine bE rfl _ _ rfl w1.heap.size gi gp gw gd gr gm ga rfl rfl hZ rfl ?_;intro w3 hZ3 t3;have hc4:=cU4 hZ3;have h1c:=cS1 (HS.below (hb2.trans (t3.below hsz)));have HB3:=Hd (hb2.trans (t3.below hsz));clear hb2 t3 hZ hsz hb1 h0))
 go_loopw [48] (fun i wr=>∃j:Nat,j≤ls.length∧i= .int .i64 (j:Int)∧Hid (eu L gr ls=eu L gr (ls.drop j))∧Hid (Below w.heap.size w wr)) (fun i _=>ls.length - (intOf i).toNat)
 case atStart=>exact⟨0,Nat.zero_le _,rfl,Hd B4,HB3⟩
 case round=>
  clear HB3 hZ3 hc4 h1c;obtain⟨j,hj,rfl,HD,HB⟩:=hrel;by_cases hlt:j<ls.length
  ·obtain⟨bl,off,rfl,hx0,hx1,hIx,hIw⟩:=(HL.below HB.out).at hlt;have HE2:=Hd (lA (L:=L) (root:=gr) hlt);generalize lf ls j=x at *;obtain⟨xg,xw⟩:=x;dsimp only at hx0 hx1 hIx hIw;have hA:=Blk.new wr 75 #[.int .i64 0,.int .i64 0];have hw0:=HB.size;replace HB:=Hd (Below.allocS HB.out (.cells #[.int .i64 0,.int .i64 0] 75))
   go_wp2_with (first
    | (refine dk rfl rfl ?_;generalize wr.alloc (.cells #[.int .i64 0,.int .i64 0] 75)=w6 at *)
    | (refine dt rfl _ _ rfl wr.heap.size xg xw rfl rfl hA rfl ?_;intro w7 hA7 t7;replace HB:=Hd (HB.trans (t7.below hw0));clear hA hx0 hx1 t7))
   generalize wr.heap.size=tb at *;have hbd:Below w7.heap.size w7 w7.drew:=(eQ.drew w7).below _;replace HB:=Hd (HB.tr hbd);replace hA7:=hA7.below hbd;clear hbd;refine Rd.rg (fun X=>X.cell? ⟨s,0,none⟩=some (.pointer (some ⟨fp,0,none⟩))∧X.cell? ⟨tb,0,none⟩=some (.int .i64 xg)) 10 [0,1,2,3,4,5,6,8,9] [0,1,2,3,4,5,6,7,8,9] ⟨cS0 (HS.below HB.out),cP0 hA7⟩ ?_;generalize w7.drew=w7 at *;refine Rd.sf (.pointer (some ⟨s,0,none⟩)) ?_;refine Rd.sf (.pointer (some ⟨s,0,none⟩)) ?_;refine Rd.sf (.pointer (some ⟨s,0,none⟩)) ?_;refine Rd.sg (.pointer (some ⟨fp,0,none⟩)) ?_ (y:=fun X hX=>Cg);refine Rd.sf (.pointer (some ⟨tb,0,none⟩)) ?_;refine Rd.sg (.int .i64 xg) ?_ (y:=fun X hX=>by have hx1:=hX.2;clear hX;go_simp);refine Rd.sf (.int .i64 gr) ?_;refine Rd.sm fun K hK=>?_
   go_simp;refine(ja fp B L l m k xg gr w7 (HFo.below HB.out) hIx).mono ?_;rintro e w8 ⟨rfl,hb8⟩;have p0:=cP0 (hA7.below hb8);have p1:=cP1 (hA7.below hb8);have s0:=cS0 (HS.below (HB.tr hb8));replace HB:=Hd (HB.tr hb8);clear hb8;refine hK _ _ (fun _=>⟨s0,p0⟩) ?_;clear hK K;refine Rd.sf (.bool (!ag L xg gr)) ?_;refine Rd.sf (.bool (!ag L xg gr)) ?_;refine Rd.seq_end ?_;by_cases hbl:ag L xg gr=true
   ·rw[hbl];by_cases hw1:xw<1
    ·have HE3:Hid (eu L gr ls=13):=Hd (by rw[HD.out,HE2.out];simp[hbl,hw1])
     go_wp2_with fail
     exact AU
    ·by_cases hw2:10000<xw
     ·have HE3:Hid (eu L gr ls=13):=Hd (by rw[HD.out,HE2.out];simp[hbl,hw2])
      go_wp2_with fail
      exact AU
     ·have HE3:Hid (eu L gr ls=eu L gr (ls.drop (j+1))):=Hd (by rw[HD.out,HE2.out];simp[hbl,hw1,hw2])
      go_wp2_with fail
      go_round
      case rel=>exact⟨j+1,A3,BH,HE3,HB⟩
      case measure=>simp[intOf];omega
   ·have hbf:ag L xg gr=false:=by simpa using hbl
    rw[hbf];have HE3:Hid (eu L gr ls=4):=Hd (by rw[HD.out,HE2.out];simp[hbf])
    go_wp2_with fail
    exact AU
  ·have ej:j=ls.length:=A3
   subst ej;have HE3:Hid (eu L gr ls=0):=Hd (by rw[HD.out,List.drop_length];rfl)
   go_wp2_with fail
   exact AU
theorem kt (s:Nat) (al:Option Addr) (cl:Nat) (cv gv rv:Value) (ls:List Lf) (root online:Int) (w:World) (h:IsF w B fp L l m k) (hs:Blk w s 82 (bF fp (.slice al ls.length cl) cv gv rv)) (hl:cu w (.slice al ls.length cl) ls) (hr:I64 root) (hn9:ls.length≤1000):
  Calls Tryz.prog 59 #[.pointer (some ⟨s,0,none⟩),.int .i64 root,.int .i64 online] w fun e w'=>e= .returned (.int .i64 (cM L ls root online))∧Below w.heap.size w w':=by
 cases hh:has L root with
 | false=>exact tu fp B L l m k 0 0 0 0 0 0 0 s al cl cv gv rv ls root online w h hs hl hr (Hd (wE fp B L l m k root w h hr hh)) (Hd (by unfold cM;rw[if_pos (.inl hh)]))
 | true=>
  have HG:=Hd (lL fp B L l m k root w h hr hh);by_cases ht:aZ L root=root
  ·by_cases ho:online<1∨64<online
   ·exact mw fp B L l m k _ _ _ _ _ _ _ s al cl cv gv rv ls root online w h hs hl hr HG ht ho (Hd (by unfold cM;rw[if_neg (by simp[hh,ht]),if_pos ho]))
   ·by_cases hn:64<ls.length
    ·exact pF fp B L l m k _ _ _ _ _ _ _ s al cl cv gv rv ls root online w h hs hl hr HG ht ho hn hn9 (Hd (by unfold cM;rw[if_neg (by simp[hh,ht]),if_neg ho,if_pos hn]))
    ·exact pK fp B L l m k _ _ _ _ _ _ _ s al cl cv gv rv ls root online w h hs hl hr HG ht ho A3 (Hd (by unfold cM;rw[if_neg (by simp[hh,ht]),if_neg ho,if_neg hn]))
  ·exact qR fp B L l m k _ _ _ _ _ _ _ s al cl cv gv rv ls root online w h hs hl hr HG ht (Hd (by unfold cM;rw[if_pos (.inr ht)]))
end
theorem ah.only {w w':World} {b t gm rb:Nat} {x y:Value} (h:ah w b t x y) (ho:aQ gm rb w w') (h1:b≠gm) (h2:b≠rb):ah w' b t x y:=(ho.block b h.lt h1 h2).trans h
structure Sh (W0 w:World) (s fp cm gm rb nC N:Nat) (al:Option Addr) (cl:Nat) (ls:List Lf) (C:Int→Option Value) (f:Int→Rat) (r:Nat→Rat) (S:Int→Bool) (T:Nat→Bool):Prop where
 sol:Blk w s 82 (bF fp (.slice al ls.length cl) (.map (some cm)) (.map (some gm)) (.slice (some ⟨rb,0,none⟩) ls.length ls.length))
 mp:RtM w gm N f S
 row:RtR w rb ls.length r T
 cnt:Mv w cm nC C
 bel:Below W0.heap.size W0 w
 gB:W0.heap.size≤gm
 rB:W0.heap.size≤rb
 ne:cm≠gm
section
variable {W0 w w':World} {s fp cm gm rb nC N:Nat} {al:Option Addr} {cl:Nat} {ls:List Lf} {C:Int→Option Value} {f:Int→Rat} {r:Nat→Rat} {S:Int→Bool} {T:Nat→Bool}
theorem Sh.below (h:Sh W0 w s fp cm gm rb nC N al cl ls C f r S T) (hb:Below w.heap.size w w'):Sh W0 w' s fp cm gm rb nC N al cl ls C f r S T:=
 ⟨h.sol.below hb,h.mp.below hb,h.row.below hb,h.cnt.below hb,h.bel.trans (hb.mono h.bel.size),h.gB,h.rB,h.ne⟩
theorem Sh.apart (h:Sh W0 w s fp cm gm rb nC N al cl ls C f r S T):pc w gm rb:=fO h.mp h.row
theorem Sh.sne (h:Sh W0 w s fp cm gm rb nC N al cl ls C f r S T):s≠gm∧s≠rb:=by
 obtain⟨⟨es,c,h1⟩,cur,h2,_⟩:=h.apart;have h3:=h.sol;unfold Blk at h3;constructor
 ·rintro rfl;rw[h3] at h1;cases h1
 ·rintro rfl;rw[h3] at h2;cases h2
theorem Sh.cne (h:Sh W0 w s fp cm gm rb nC N al cl ls C f r S T):cm≠rb:=by
 obtain⟨_,cur,h2,_⟩:=h.apart;obtain⟨es,c,h1⟩:=h.cnt.isMap;rintro rfl;rw[h1] at h2;cases h2
theorem Sh.putG {G:Int→Option Value} {p q:Sl} {x:Int} (h:Sh W0 w s fp cm gm rb nC N al cl ls C f r S T) (hq:RQ w p q (f x)) (hm:Mv w' gm (N+1) G) (hg:w.grownBy w' (some gm))
  (hG: ∃V,(Mv w gm N V∧∀x,(S x=false→V x=none)∧(S x=true→∃p q:Sl,V x=some (.agg #[.slice p.a p.n p.c,.slice q.a q.n q.c])∧RQ w p q (f x)))∧G=fun y=>if y=x then some (.agg #[.slice p.a p.n p.c,.slice q.a q.n q.c]) else V y):
  Sh W0 w' s fp cm gm rb nC (N+1) al cl ls C f r (fun y=>S y||decide (y=x)) T:=by
 have ho:aQ gm rb w w':=aQ.of_grown hg;exact⟨h.sol.only ho h.sne.1 h.sne.2,h.mp.put h.row hq hG hm hg,h.row.only h.mp hg,h.cnt.only ho h.ne h.cne,h.bel.trans (ho.below h.bel.size h.gB h.rB),h.gB,h.rB,h.ne⟩
theorem Sh.putR {p q:Sl} {i:Nat} (h:Sh W0 w s fp cm gm rb nC N al cl ls C f r S T) (hi:i<ls.length) (hq:RQ w p q (r i)):
  Sh W0 ((w.setCell ⟨rb,i*2,none⟩ (.slice p.a p.n p.c)).setCell ⟨rb,i*2+1,none⟩ (.slice q.a q.n q.c)) s fp cm gm rb nC N al cl ls C f r S (fun j=>T j||decide (j=i))∧aQ gm rb w ((w.setCell ⟨rb,i*2,none⟩ (.slice p.a p.n p.c)).setCell ⟨rb,i*2+1,none⟩ (.slice q.a q.n q.c)):=by
 obtain⟨h1,ho⟩:=RtR.put h.mp h.row hi hq;have hne:=zv h.mp h.row;refine⟨⟨h.sol.only ho h.sne.1 h.sne.2,h.mp.only h.row ho ?_,h1,h.cnt.only ho h.ne h.cne,h.bel.trans (ho.below h.bel.size h.gB h.rB),h.gB,h.rB,h.ne⟩,ho⟩;rw[(aX.setCell _ rb _ _).block gm hne,(aX.setCell _ rb _ _).block gm hne]
theorem Sh.congr {S':Int→Bool} {T':Nat→Bool} (h:Sh W0 w s fp cm gm rb nC N al cl ls C f r S T) (e1: ∀x,S x=S' x) (e2: ∀i,i<ls.length→T i=T' i):Sh W0 w s fp cm gm rb nC N al cl ls C f r S' T':=
 ⟨h.sol,h.mp.congr e1,h.row.congr e2,h.cnt,h.bel,h.gB,h.rB,h.ne⟩
end
def kq (L:List Gr) (ls:List Lf) (root:Int) (x:Rat) (g:Int) (v:Value) (cd:Int) (w:World):Prop:=
 cd=(if (kd L ls g).length≤32 then 0 else 6)∧((kd L ls g).length≤32→iJ w v ((kd L ls g).map (given (lvl L ls root x g))))
theorem iY {L:List Gr} {m k:Int} {ls:List Lf} {root:Int} (F:eN L m k ls root) (g:Int):(kg L ls g).length≤64∧(kl ls g).length≤64∧(kd L ls g).length=(kg L ls g).length+(kl ls g).length:=by
 refine⟨?_,?_,by simp[kd]⟩
 ·unfold kg;exact Nat.le_trans (List.length_filter_le _ _) (Nat.le_trans (ee L g) F.ok.n64)
 ·unfold kl;exact Nat.le_trans (List.length_filter_le _ _) (by simp;exact F.n64)
theorem su {L:List Gr} {m k:Int} {ls:List Lf} {root:Int} {x:Rat} (F:eN L m k ls root) (h0:0≤x) (hx:x≤((ls.length:Nat):Rat)) {g:Int} (hb:ag L g root=true) (hD:DW (pth L g).length (ct L ls root x g)) (w:World) (p q:Sl) (hq:RQ w p q (ct L ls root x g)) (W:World) (c d:Sl) (hbW:Below w.heap.size w W) (hc:RI W c (wtI L (kg L ls g)++lwI ls (kl ls g))) (hd:RI W d (ctI (fun y=>many L ls y) (kg L ls g)++l1I (kl ls g))):
  Calls Tryz.prog 126 #[.agg #[.slice p.a p.n p.c,.slice q.a q.n q.c],.slice c.a c.n c.c,.slice d.a d.n d.c] W fun e w'=>∃v cd,e= .returned (.tuple #[v,.int .i64 cd])∧kq L ls root x g v cd w'∧(∀j,v.ownBlock=some j→w.heap.size≤j)∧Below W.heap.size W w':=by
 have e1:=zz F g;have e2:ctI (fun y=>many L ls y) (kg L ls g)++l1I (kl ls g)=(kd L ls g).map fun c=>(c.2:Int):=by
  unfold kd ctI l1I;rw[List.map_append,List.map_map,List.map_map];rfl
 rw[e1] at hc;rw[e2] at hd;have hr:=d8 F h0 hx _ g hb lr;have hcp:ct L ls root x g≤((bT (kd L ls g):Nat):Rat):=by rw[iG F (az hb)];exact hr.2
 have hlen:=iY F g;unfold kq;by_cases hl:(kd L ls g).length≤32
 ·obtain⟨D,hD1,hD2,hD3⟩:=hD;have hd8:=F.ok.deep g;have hfine:gS D (ct L ls root x g):=⟨hD1,Nat.le_trans hD2 (kh A3),hD3⟩
  refine(ug p q c d _ (kd L ls g) D W (hq.below hbW) hc hd hl (Hd (f5 F g)) (Hd hfine) (Hd hcp) (Hd (oz (f5 F g) hl hcp))).mono ?_;rintro e w' ⟨v,rfl,h1,h2,h3⟩;rw[if_pos hl];exact⟨v,0,rfl,⟨rfl,fun _=>h1⟩,fun j e=>Nat.le_trans hbW.size (h2 j e),h3⟩
 ·refine(wC p q c d _ _ _ W (hq.below hbW) hc hd Bv 6 BD BD (Hd (uw B4 Bv))).mono ?_;rintro e w' ⟨rfl,h1⟩;rw[if_neg hl];exact⟨_,6,rfl,⟨rfl,fun h=>absurd h hl⟩,(fun j e=>by cases e),h1⟩
theorem kS {L:List Gr} {ls:List Lf} {g y:Int}:y∈kg L ls g↔y∈aW L g∧0<many L ls y:=by
 unfold kg;rw[List.mem_filter,decide_eq_true_eq]
theorem nP {l:List Nat} {k:Nat} (h:k<l.length):l.getD k 0∈l:=by
 rw[List.getD_eq_getElem?_getD,List.getElem?_eq_getElem h];exact List.getElem_mem h
theorem vu {l:List Nat} {k:Nat} (h:k<l.length) (i:Nat):decide (i∈l.take (k+1))=(decide (i∈l.take k)||decide (i=l.getD k 0)):=by
 have e:l.take (k+1)=l.take k++[l.getD k 0]:=by
  rw[List.take_add_one,List.getElem?_eq_getElem h];exact A0
 rw[e,Bool.eq_iff_iff];simp only[decide_eq_true_eq,Bool.or_eq_true,List.mem_append,List.mem_singleton]
theorem vt {l:List Int} {k:Nat} (h:k<l.length) (f:Int→Bool):(l.take (k+1)).any f=((l.take k).any f||f (l.getD k 0)):=by
 rw[List.take_add_one,List.getElem?_eq_getElem h,List.any_append];exact A0
theorem tJ {l:List Int} {k:Nat} (h:k<l.length) {c:Int} (hc:c∈l.take (k+1)):c∈l.take k∨c=l.getD k 0:=by
 rw[List.take_add_one,List.getElem?_eq_getElem h,List.mem_append] at hc;rcases hc with hc | hc
 ·exact .inl hc
 ·right;simp at hc;simp[List.getD_eq_getElem?_getD,List.getElem?_eq_getElem h,hc]
theorem rl {L:List Gr} {ls:List Lf} {g:Int} (lv:Rat) {j:Nat} (h:j<(kl ls g).length):((kd L ls g).map (given lv)).getD ((kg L ls g).length+j) 0=given lv (uY ls ((kl ls g).getD j 0)):=by
 unfold kd;simp[List.getD_eq_getElem?_getD,List.getElem?_append_right,List.getElem?_eq_getElem h]
theorem we {L:List Gr} {ls:List Lf} {g:Int} (lv:Rat) {j:Nat} (h:j<(kg L ls g).length):((kd L ls g).map (given lv)).getD j 0=given lv (mT L ls ((kg L ls g).getD j 0)):=by
 unfold kd;simp[List.getD_eq_getElem?_getD,List.getElem?_append_left,h]
def fB:Nat→Nat
 | 0=>0
 | n+1=>1+64*fB n
section
variable (fp B:Nat) (L:List Gr) (l:List Int) (m k:Int)
theorem Bw {p:Prop} (h:p:=by intro e;have h:=congrArg List.length e;rw[List.length_map,List.length_nil] at h;have:=HLN.out;omega):p:=h
theorem mq (W0:World) (s cm gm rb nC:Nat) (al:Option Addr) (cl:Nat) (ls:List Lf) (root:Int) (C:Int→Option Value) (x:Rat) (F:eN L m k ls root) (hF:IsF W0 B fp L l m k) (hL:cu W0 (.slice al ls.length cl) ls) (h0:0≤x) (hx:x≤((ls.length:Nat):Rat))
  (HC:Hid (∀y,ag L y root=true→¬y=root→(C y).getD (.int .i64 0)= .int .i64 ((many L ls y:Nat):Int))): ∀(fu:Nat) (g:Int) (w:World) (S:Int→Bool) (T:Nat→Bool) (N:Nat) (p q:Sl),
  ag L g root=true→9≤(pth L g).length+fu→0<many L ls g→DW (pth L g).length (ct L ls root x g)→N+fB fu≤140737488355327→Sh W0 w s fp cm gm rb nC (N) al cl ls C (ct L ls root x) (cW L ls root x) S T→RQ w p q (ct L ls root x g)→
  Calls Tryz.prog 61 #[.pointer (some ⟨s,0,none⟩),.int .i64 g,.agg #[.slice p.a p.n p.c,.slice q.a q.n q.c]] w fun e w'=>e= .returned (.int .i64 (bM L ls g))∧(bM L ls g=0→∃N',N'≤N+fB fu∧Sh W0 w' s fp cm gm rb nC (N') al cl ls C (ct L ls root x) (cW L ls root x) (fun y=>S y||(ag L y g&&decide (0<many L ls y))) (fun i=>T i||ag L (lf ls i).1 g))∧aQ gm rb w w'
 | 0,g,w,S,T,N,p,q,hb,hn,_,_,_,_,_=>by
  have:=F.ok.deep g;omega
 | fu+1,g,w,S,T,N,p,q,hb,hn,hm,hD,hN,hSh,hq=>by
  have HIH:=Hd (fun c w S T N p q=>mq W0 s cm gm rb nC al cl ls root C x F hF hL h0 hx HC fu c w S T N p q);have hg:=az hb;have HIG:Hid (I64 g):=Hd (by
   have h1:=F.ok.id hg;have h2:=F.ok.mle;have h3:=F.ok.k1;unfold I64;omega)
  have HHG:=Hd hg;have HBG:=Hd hb;have HMG:=Hd hm;have HDW:=Hd hD;have HNN:=Hd hn;have HFF:=Hd F;have hfb:fB (fu+1)=1+64*fB fu:=rfl;rw[hfb] at hN;have HN:Hid (N<maxLen):=Hd Cf;have HNB:=Hd hN;clear hN hfb;have hbx:Below w.heap.size w (w.alloc (.cells #[.slice p.a p.n p.c,.slice q.a q.n q.c] 49)):=(Below.refl _ _).alloc lr _;have hP5:=ah.new w 49 (.slice p.a p.n p.c) (.slice q.a q.n q.c);have hP5g:=Hd hSh.mp.lt;have hP5r:=Hd hSh.row.lt;replace hSh:=hSh.below hbx;replace hq:=Hd (hq.below hbx);have hO:Hid (aQ gm rb w (w.alloc (.cells #[.slice p.a p.n p.c,.slice q.a q.n q.c] 49))):=Hd (aQ.of_below hbx);clear hbx hb hn hm hD hg F;go_enter Tryz.func61,Tryz.ntmps61;generalize hr5:w.heap.size=r5 at hP5 hP5g hP5r
  go_wp2_with fail
  replace hP5:=Hd hP5;generalize w.alloc (.cells #[.slice p.a p.n p.c,.slice q.a q.n q.c] 49)=w1 at *;have hbd:Below w1.heap.size w1 w1.drew:=(eQ.drew w1).below _;replace hSh:=hSh.below hbd;replace hq:=Hd (hq.below hbd);replace hP5:=Hd (hP5.below hbd);replace hO:=Hd (hO.trans (aQ.of_below hbd));have HAp:=Hd hSh.apart;clear hbd;refine Rd.rg (fun X=>X.cell? ⟨s,3,none⟩=some (.map (some gm))∧X.cell? ⟨r5,0,none⟩=some (.slice p.a p.n p.c)∧X.cell? ⟨r5,1,none⟩=some (.slice q.a q.n q.c)) 7 [0,1,2,3,4,5] [0,1,2,3,4,5,6] ⟨cS3 hSh.sol,hP5.c0,hP5.c1⟩ ?_;generalize w1.drew=w2 at *;refine Rd.sf (.pointer (some ⟨s,0,none⟩)) ?_;refine Rd.sf (.pointer (some ⟨s,0,none⟩)) ?_;refine Rd.sf (.pointer (some ⟨s,3,none⟩)) ?_;refine Rd.sg (.map (some gm)) ?_ (y:=fun X hX=>Cg);refine Rd.sf (.int .i64 g) ?_;refine Rd.sg (.agg #[.slice p.a p.n p.c,.slice q.a q.n q.c]) ?_ (y:=fun X hX=>by have hx1:=hX.2.1;have hx2:=hX.2.2;clear hX;go_simp);refine Rd.sm fun K hK=>?_
  obtain⟨V,hV1,hV2⟩:=hSh.mp;refine rV _ _ _ rfl Tryz.underlying39 rfl hV1 HN.out rfl HIG.out rfl (fun w3 h3 h4=>?_);have ho:aQ gm rb w2 w3:=aQ.of_grown h4;replace hSh:=hSh.putG hq.out h3 h4 ⟨V,⟨hV1,hV2⟩,rfl⟩;replace hP5:=Hd (hP5.only ho (Nat.ne_of_gt hP5g.out) (Nat.ne_of_gt hP5r.out));replace hq:=Hd (hq.only HAp.out ho);replace hO:=Hd (hO.trans ho);refine hK _ _ (fun _=>⟨(cS3 hSh.sol),hP5.c0,hP5.c1⟩) ?_;refine Rd.seq_end ?_;clear HAp;have hbel:=hSh.bel;have HGO:Hid (Calls Tryz.prog 99 #[.pointer (some ⟨s,0,none⟩),.int .i64 g] w3 fun e w'=>(∃a c,e= .returned (.slice a (kg L ls g).length c)∧aK w' w3.heap.size (.slice a (kg L ls g).length c) (kg L ls g))∧Below w3.heap.size w3 w'):=
   Hd (mC fp B L l m k s cm nC _ _ _ C (fun y=>many L ls y) g w3 (hF.below hbel) hSh.sol hSh.cnt (Hd fun y hy=>by
    have hk:=HFF.kid HBG.out hy;have h1:=mV L ls y;have h2:=HFF.n64;exact⟨HC.out y hk.1 hk.2.1,A3⟩) (by
    have h1:=HFF.ok.id HHG.out;omega))
  have HLO:Hid (∀W,Below w3.heap.size w3 W→Calls Tryz.prog 100 #[.pointer (some ⟨s,0,none⟩),.int .i64 g] W fun e w'=>(∃a c,e= .returned (.slice a (fW (kl ls g)).length c)∧aK w' W.heap.size (.slice a (fW (kl ls g)).length c) (fW (kl ls g)))∧Below W.heap.size W w'):=
   Hd fun W hW=>mY s fp _ _ _ _ ls g W (hSh.sol.below hW) (hL.below (hbel.tr hW)) HFF.n64
  have HS:=Hd hSh;clear hSh hbel
  go_wp2_with (first
   | (go_at_call 99;refine HGO.mono ?_;rintro e w4 ⟨⟨a4,c4,rfl,hro4⟩,hb4⟩)
   | (go_at_call 100;refine(HLO.out w4 hb4).mono ?_;rintro e w5 ⟨⟨a5,c5,rfl,hro5⟩,hb5⟩;have hb35:=hb4.tr hb5;have P5:=hP5.below hb35;have c0:=P5.c0;have c1:=P5.c1))
  clear c0 c1 P5;have hro4':=hro4.below hb5;have hS5:=HS.below hb35;have HPT:=Hd (ul fp B L l m k s cm nC _ _ _ C (fun y=>many L ls y) ls p q ⟨a4,(kg L ls g).length,c4⟩ ⟨a5,(fW (kl ls g)).length,c5⟩ (kg L ls g) (kl ls g) (kq L ls root x g) w5 (hF.below hS5.bel) hS5.sol (hL.below hS5.bel) hS5.cnt
   (Hd fun y hy=>by
    unfold kg at hy;have h1:=(List.mem_filter.1 hy).1;have hk:=HFF.kid HBG.out h1;exact⟨hk.2.2.2,HC.out y hk.1 hk.2.1⟩) hro4'.rowI hro5.rowI (iY HFF.out g).1 (iY HFF.out g).2.1 (Hd fun i hi=>(gN.1 hi).1)
   (Hd (su HFF.out h0 hx HBG.out HDW.out w5 p q (hq.below hb35))))
  refine HPT.mono ?_;rintro e w6 ⟨v9,cd,rfl,hpost,hfr,hb6⟩;clear HPT HGO HLO;have hb36:=hb35.tr hb6;have hS6:=HS.below hb36;have HO6:=Hd (hO.trans (aQ.of_below hb36));have hro4'':=hro4'.below hb6;have hro5':=hro5.below hb6;have hKl:=(iY HFF.out g).1;have hJl:=(iY HFF.out g).2.1;have hgmlt:=HS.mp.lt;have hrblt:=HS.row.lt;have hsz4:=hb4.size;have hsz5:=hb35.size;by_cases hfew:(kd L ls g).length≤32
  ·have hcd:=hpost.1;rw[if_pos hfew] at hcd;subst hcd;have hrow:=hpost.2 hfew;have HFEW:=Hd hfew;clear hpost hfew hro4 hro4' hro5 hb4 hb5 hb35 hb36 hb6 hS5 HS hq hO hP5;obtain⟨⟨ad9,n9,c9⟩,rfl,hrow⟩:=hrow.sl;have hn9:n9=(kd L ls g).length:=by have h:=hrow.len;simpa using h
   subst hn9;have HR6:=Hd hrow;have HAp6:=Hd hS6.apart;have HFR:Hid (∀j,(Value.slice ad9 (kd L ls g).length c9).ownBlock=some j→j≠gm∧j≠rb):=Hd fun j e=>by
    have h1:=hfr j e;exact⟨A3,A3⟩
   have HK6:Hid (∀W,aQ gm rb w6 W→aK W w3.heap.size (.slice a4 (kg L ls g).length c4) (kg L ls g)):=Hd fun W hW=>hro4''.only hW hgmlt hrblt
   have HJ6:Hid (∀W,aQ gm rb w6 W→aK W w4.heap.size (.slice a5 (fW (kl ls g)).length c5) (fW (kl ls g))):=Hd fun W hW=>hro5'.only hW A3 A3
   have HS6:=Hd hS6;have HLV:Hid (∀j,j<(kl ls g).length→(kl ls g).getD j 0<ls.length∧((kd L ls g).map (given (lvl L ls root x g))).getD ((kg L ls g).length+j) 0=cW L ls root x ((kl ls g).getD j 0)∧(fW (kl ls g)).getD j 0=(((kl ls g).getD j 0:Nat):Int)):=Hd fun j hj=>by
    have hm:=gN.1 (nP hj);refine⟨hm.1,?_,?_⟩
    ·rw[rl _ hj];unfold cW;rw[hm.2]
    ·simp[fW,List.getD_eq_getElem?_getD,List.getElem?_eq_getElem hj]
   have HKV:Hid (∀j,j<(kg L ls g).length→(kg L ls g).getD j 0∈aW L g∧0<many L ls ((kg L ls g).getD j 0)∧((kd L ls g).map (given (lvl L ls root x g))).getD j 0=ct L ls root x ((kg L ls g).getD j 0)):=Hd fun j hj=>by
    have h1:=kS.1 (cZ hj);have hk:=HFF.kid HBG.out h1.1;refine⟨h1.1,h1.2,?_⟩;rw[we _ hj,gc HFF.out x hk.1 hk.2.1,hk.2.2.1]
   have HLN:Hid ((kd L ls g).length=(kg L ls g).length+(kl ls g).length∧(fW (kl ls g)).length=(kl ls g).length):=Hd ⟨(iY HFF.out g).2.2,by simp[fW]⟩;clear hrow hfr hro4'' hro5' hS6;rw[HLN.2]
   go_wp2_with fail
   go_loopw [41] (fun v wr=>∃j:Nat,j≤(kl ls g).length∧v= .int .i64 (j:Int)∧Hid (Sh W0 wr s fp cm gm rb nC (N+1) al cl ls C (ct L ls root x) (cW L ls root x) (fun y=>S y||decide (y=g)) (fun i=>T i||decide (i∈(kl ls g).take j)))∧Hid (aQ gm rb w6 wr)) (fun v _=>(kl ls g).length - (intOf v).toNat)
   case atStart=>exact⟨0,Nat.zero_le _,rfl,Hd (HS6.congr (fun _=>rfl) (fun i _=>B4)),Hd (aQ.refl _ _ _)⟩
   case round=>
    obtain⟨j,hj,rfl,HS,HO⟩:=hrel;by_cases hlt:j<(kl ls g).length
    ·obtain⟨hi,hrj,hnj⟩:=HLV.out j hlt;obtain⟨bj,rfl,_,_,hcj,_⟩:=(HJ6.out _ HO.out).at (j:=j) (by have:=HLN.out;omega);rw[hnj] at hcj;have hrw:=HR6.only HAp6.out HO.out HFR.out;obtain⟨ad,cap,e9,h9⟩:=hrw;injection e9 with e9a e9b e9c;obtain⟨B9,rfl,hB9,hc9⟩:=h9 Bw;subst e9a;obtain⟨pj,qj,d0,d1,hqj⟩:=hc9 ((kg L ls g).length+j) (by have:=HLN.out;simp;omega);rw[hrj] at hqj;have HQJ:=Hd hqj;clear hc9 h9 hqj e9b e9c hrj hnj;have HTK:Hid (∀i,decide (i∈(kl ls g).take (j+1))=(decide (i∈(kl ls g).take j)||decide (i=(kl ls g).getD j 0))):=Hd fun i=>vu hlt i
     generalize (kl ls g).getD j 0=i at *;generalize (kg L ls g).length=nK at *;generalize (kl ls g).length=nJ at *;generalize (kd L ls g).length=nk at *;have cs4:=cS4 HS.sol
     go_wp2_with fail
     clear hcj;have hbd:Below wr.heap.size wr wr.drew:=(eQ.drew wr).below _;replace HS:=Hd (HS.below hbd);replace HO:=Hd (HO.trans (aQ.of_below hbd));replace HQJ:=Hd (HQJ.below hbd);clear hbd;refine Rd.rg (fun X=>X.cell? ⟨s,4,none⟩=some (.slice (some ⟨rb,0,none⟩) ls.length ls.length)∧X.cell? ⟨B9,(nK+j)*2,none⟩=some (.slice pj.a pj.n pj.c)∧X.cell? ⟨B9,(nK+j)*2+1,none⟩=some (.slice qj.a qj.n qj.c)) 13 [0,1,2,3,4,5,6,7,8,9,10,11,12] [0,1,2,3,4,5,6,7,8,9,10,11,12,13] ⟨cs4,d0,d1⟩ ?_;generalize wr.drew=w20 at *;have fz0:=HS.row.fz (i*2);have fz1:=HS.row.fz (i*2+1);obtain⟨_,_,_,ce0⟩:=HS.row.cell (i:=i*2) A3;obtain⟨_,_,_,ce1⟩:=HS.row.cell (i:=i*2+1) A3;refine Rd.sf (.pointer (some ⟨s,0,none⟩)) ?_;refine Rd.sf (.pointer (some ⟨s,0,none⟩)) ?_;refine Rd.sf (.pointer (some ⟨s,4,none⟩)) ?_;refine Rd.sg (.slice (some ⟨rb,0,none⟩) ls.length ls.length) ?_ (y:=fun X hX=>Cg);refine Rd.sf (.int .i64 (i:Int)) ?_;refine Rd.sf (.slice (some ⟨B9,0,none⟩) nk c9) ?_;refine Rd.sf (.slice a4 nK c4) ?_;refine Rd.sf (.int .i64 (nK:Int)) ?_;refine Rd.sf (.int .i64 (j:Int)) ?_;refine Rd.sg (.int .i64 ((nK:Int)+(j:Int))) ?_ (y:=fun X _=>by have h:=IntWalk.i64_in ((nK:Int)+(j:Int)) A3;go_simp);refine Rd.sg (.pointer (some ⟨B9,(nK+j)*2,none⟩)) ?_ (y:=fun X _=>by have h1:(nK:Int)+(j:Int)<(nk:Int):=(by have:=HLN.out;omega);have h0:(0:Int)≤(nK:Int)+(j:Int):=A3;have h2:((nK:Int)+(j:Int)).toNat=nK+j:=A3;go_simp);refine Rd.sg (.agg #[.slice pj.a pj.n pj.c,.slice qj.a qj.n qj.c]) ?_ (y:=fun X hX=>by have hx1:=hX.2.1;have hx2:=hX.2.2;clear hX;go_simp);refine Rd.sf (.pointer (some ⟨rb,i*2,none⟩)) ?_;refine Rd.sm fun K hK=>?_
     go_simp;obtain⟨hs2,ho2⟩:=HS.putR hi HQJ.out;generalize (w20.setCell ⟨rb,i*2,none⟩ (.slice pj.a pj.n pj.c)).setCell ⟨rb,i*2+1,none⟩ (.slice qj.a qj.n qj.c)=w21 at *;refine hK _ _ (fun h=>absurd h A3) ?_;refine Rd.seq_end ?_
     go_wp2_with fail
     go_round
     case rel=>exact⟨j+1,A3,BH,Hd (hs2.congr (fun _=>rfl) (fun i' _=>by rw[HTK.out,Bool.or_assoc])),Hd (HO.trans ho2)⟩
     case measure=>simp[intOf];omega
    ·have ej:j=(kl ls g).length:=A3
     subst ej;clear HS6 HJ6 HLV;replace HS:=Hd (HS.congr (S':=fun y=>S y||decide (y=g)) (T':=fun i=>T i||decide ((lf ls i).1=g)) (fun _=>rfl) (fun i hi=>by
      rw[List.take_length];congr 1;rw[decide_eq_decide,gN];exact⟨fun h=>h.2,fun h=>⟨hi,h⟩⟩))
     have HO1:=Hd HO.out;have HS1:=Hd HS.out;clear HS HO
     go_wp2_with fail
     go_loopw [62] (fun v wr=>∃j:Nat,j≤(kg L ls g).length∧v= .int .i64 (j:Int)∧Hid (∃N',N'≤N+1+j*fB fu∧Sh W0 wr s fp cm gm rb nC (N') al cl ls C (ct L ls root x) (cW L ls root x) (fun y=>(S y||decide (y=g))||((kg L ls g).take j).any fun c=>ag L y c&&decide (0<many L ls y)) (fun i=>(T i||decide ((lf ls i).1=g))||((kg L ls g).take j).any fun c=>ag L (lf ls i).1 c))∧Hid (aQ gm rb w6 wr)∧Hid (∀c∈(kg L ls g).take j,jS L ls c=true)) (fun v _=>(kg L ls g).length - (intOf v).toNat)
     case atStart=>exact⟨0,Nat.zero_le _,rfl,Hd ⟨N+1,A3,HS1.congr (fun _=>B4) (fun _ _=>B4)⟩,HO1,Hd (fun c hc=>by simp at hc)⟩
     case round=>
      clear HS1 HO1;obtain⟨j,hj,rfl,HS,HO,HFc⟩:=hrel;by_cases hlt:j<(kg L ls g).length
      ·obtain⟨hcK,hcm,hrj⟩:=HKV.out j hlt;obtain⟨bj,rfl,_,_,hcj,_⟩:=(HK6.out _ HO.out).at hlt;have hrw:=HR6.only HAp6.out HO.out HFR.out;obtain⟨ad,cap,e9,h9⟩:=hrw;injection e9 with e9a e9b e9c;obtain⟨B9,rfl,hB9,hc9⟩:=h9 Bw;subst e9a;obtain⟨pj,qj,d0,d1,hqj⟩:=hc9 j (by have:=HLN.out;simp;omega);rw[hrj] at hqj;obtain⟨N',hN',hSh⟩:=HS.out;have hk:=HFF.kid HBG.out hcK;have hln:(pth L ((kg L ls g).getD j 0)).length=(pth L g).length+1:=by rw[HFF.ok.yes hk.2.2.2,hk.2.2.1];rfl
       have hdw:=rW HFF.out h0 hx HBG.out HFEW.out hcK HDW.out;rw[←hln] at hdw;have hmul:(j+1)*fB fu≤64*fB fu:=Nat.mul_le_mul_right _ A3;have HCall:=Hd (HIH.out ((kg L ls g).getD j 0) wr _ _ N' pj qj hk.1 BQ hcm hdw (by have:=HNB.out;rw[Nat.add_mul] at hmul;omega) hSh hqj);have HAN:Hid (∀f:Int→Bool,((kg L ls g).take (j+1)).any f=(((kg L ls g).take j).any f||f ((kg L ls g).getD j 0))):=Hd fun f=>vt hlt f
       have HTM:Hid (∀c,c∈(kg L ls g).take (j+1)→c∈(kg L ls g).take j∨c=(kg L ls g).getD j 0):=Hd fun c hc=>tJ hlt hc
       have hjk:j<(kd L ls g).length:=by have:=HLN.out;omega
       have HCK:=Hd hcK;have HCM:=Hd hcm;clear hc9 h9 hqj e9b e9c hrj hSh hdw hln hk hcK hcm;generalize (kg L ls g).getD j 0=c at *
       go_wp2_with fail
       refine HCall.mono ?_;rintro e w8 ⟨rfl,hok,ho⟩;clear hcj d0 d1;by_cases hfc:jS L ls c=true
       ·have e0:bM L ls c=0:=by unfold bM;rw[if_pos hfc]
        rw[e0];obtain⟨N2,hN2,hS2⟩:=hok e0;have HS2:=Hd hS2;have HFC:=Hd hfc;have HO2:=Hd ho;clear hok hS2 hfc e0 ho
        go_wp2_with fail
        go_round
        case rel=>exact⟨j+1,A3,BH,Hd ⟨N2,by rw[Nat.add_mul];omega,HS2.congr (fun y=>by rw[HAN.out,Bool.or_assoc]) (fun i _=>by rw[HAN.out,Bool.or_assoc])⟩,Hd (HO.trans HO2.out),Hd fun c' hc'=>by
         rcases HTM.out c' hc' with h | h
         ·exact HFc.out c' h
         ·rw[h];exact HFC.out⟩
        case measure=>simp[intOf];omega
       ·have e0:bM L ls c=6:=by unfold bM;rw[if_neg hfc]
        rw[e0];have HCG:Hid (bM L ls g=6):=Hd (by
         unfold bM;rw[if_neg (fun h=>hfc (((iO HFF.out HHG.out).1 h).2 c (kS.2 ⟨HCK.out,HCM.out⟩)))])
        have HO2:=Hd ho;clear hok hfc e0 ho
        go_wp2_with fail
        go_ret;rw[HCG.out];exact⟨rfl,(fun h=>by cases h),HO6.trans (HO.trans HO2.out)⟩
      ·have ej:j=(kg L ls g).length:=A3
       subst ej;have HCG:Hid (bM L ls g=0):=Hd (by
        unfold bM;rw[if_pos ((iO HFF.out HHG.out).2 ⟨HFEW.out,fun c hc=>HFc.out c (by rw[List.take_length];exact hc)⟩)])
       go_wp2_with fail
       go_ret;rw[HCG.out];obtain⟨N2,hN2,hS2⟩:=HS.out;refine⟨rfl,fun _=>⟨N2,?_,hS2.congr (fun y=>?_) (fun i hi=>?_)⟩,HO6.trans HO.out⟩
       ·have h1:(kg L ls g).length*fB fu≤64*fB fu:=Nat.mul_le_mul_right _ hKl;show N2≤N+(1+64*fB fu);omega
       ·rw[List.take_length,oT HFF.out HHG.out HMG.out,Bool.or_assoc]
       ·rw[List.take_length,nA HFF.out HHG.out hi,Bool.or_assoc]
  ·have hcd:=hpost.1;rw[if_neg hfew] at hcd;subst hcd;have HCG:Hid (bM L ls g=6):=Hd (by
    unfold bM;rw[if_neg (fun h=>hfew ((iO HFF.out HHG.out).1 h).1)])
   clear hpost hfr hfew hro4 hro4' hro4'' hro5 hro5' hb4 hb5 hb35 hb36 hb6 hS5 hS6 HS hq hO hP5
   go_wp2_with fail
   go_ret;rw[HCG.out];exact⟨rfl,(fun h=>by cases h),HO6.out⟩
end
theorem zc {w:World} {s fp:Nat} {lv c g r:Value} (h:Blk w s 82 #[.pointer (some ⟨fp,0,none⟩),lv,c,g,r]):w.cell? ⟨s,4,none⟩=some r:=cS4 h
theorem RtR.keep {w w':World} {rb n:Nat} {r:Nat→Rat} (h:RtR w rb n r (fun _=>false)) (e:w'.heap[rb]? =w.heap[rb]?):RtR w' rb n r (fun _=>false):=by
 obtain⟨cur,h1,h2,h3,_⟩:=h;exact⟨cur,e.trans h1,h2,h3,fun i _ ht=>by cases ht⟩
theorem m6 {L:List Gr} {m k:Int} {ls:List Lf} {root:Int} (F:eN L m k ls root) (h:ls=[]):jS L ls root=true:=by
 refine dq.2 fun y hy=>?_
 rw[ux F (az hy) (by rw[h];rfl)];exact Nat.zero_le _
theorem jR {L:List Gr} {ls:List Lf} (h:ls=[]) {y:Int}:many L ls y=0:=by rw[h];rfl
theorem RtR.fill {w:World} {rb:Nat} {r:Nat→Rat} {T T':Nat→Bool} {ls:List Lf} (h:RtR w rb ls.length r T) (e:ls=[]):RtR w rb ls.length r T':=h.congr fun i hi=>by rw[e] at hi;simp at hi
theorem jY {o:Oper} {a:Act} {w:World} {K:Act→World→Prop} {Q:Exit→Act→World→Prop} (l c:Operand) (t:TypeId) (hop:o.op=Op.makeSlice t l c)
  (i:TypeInfo) (ht:Tryz.prog.underlying t=some (.slice 49)) (hi:Tryz.prog.info? 49=some i) (hz:i.zero=some (.agg #[.slice none 0 0,.slice none 0 0])) (hsize:i.size=2) (hby:i.bytes=48)
  (n:Nat) (hl:a.eval l= .int .i64 (n:Int)) (hc:a.eval c= .int .i64 (n:Int)) (hm:n≤1000) (r:Nat→Rat)
  (h: ∀w',RtR w' w.heap.size n r (fun _=>false)→w.grownBy w' none→K (a.put o.dst (.slice (some ⟨w.heap.size,0,none⟩) n n)) w'):o.wp Tryz.prog a w K Q:=by
 have hr:=run_make (P:=Tryz.prog) w t 49 i _ ht hi hz .i64 .i64 (n:Int) (n:Int) A3 A3 (by rw[hby];omega) A3;simp only[Int.toNat_natCast] at hr;unfold Oper.wp;simp[execOp,hop,hl,hc,hr,Result.andThen];exact h _ ⟨_,heap_alloc_new w _,by rw[size_madeCells,hsize],m9,fun _ _ ht=>by cases ht⟩ (World.grownBy_alloc w _ none)
def bQ (L:List Gr) (ls:List Lf) (root online:Int):Int:=if cM L ls root online=0 then bM L ls root else cM L ls root online
def shX (ls:List Lf) (online:Int):Rat:=((min online.toNat ls.length:Nat):Rat)
section
variable (fp B:Nat) (L:List Gr) (l:List Int) (m k:Int)
theorem gR (W0 w:World) (s cm gm rb N:Nat) (al:Option Addr) (cl:Nat) (ls:List Lf) (root online:Int) (x:Rat) (hx:x=shX ls online) (p q:Sl) (F:eN L m k ls root) (hF:IsF W0 B fp L l m k) (hL:cu W0 (.slice al ls.length cl) ls) (hne:ls≠[])
  (Z:Blk w s 82 (bF fp (.slice al ls.length cl) (.map (some cm)) (.map (some gm)) (.slice (some ⟨rb,0,none⟩) ls.length ls.length))) (M:Mv w gm 0 (fun _=>none)) (R:RtR w rb ls.length (cW L ls root x) (fun _=>false)) (CT:CtM w cm N (ew L root ls)) (bel:Below W0.heap.size W0 w) (gB:W0.heap.size≤gm) (rB:W0.heap.size≤rb) (ne:cm≠gm) (hq:RQ w p q x):
  Calls Tryz.prog 61 #[.pointer (some ⟨s,0,none⟩),.int .i64 root,.agg #[.slice p.a p.n p.c,.slice q.a q.n q.c]] w fun e w'=>e= .returned (.int .i64 (bM L ls root))∧(bM L ls root=0→∃N':Nat,Blk w' s 82 (bF fp (.slice al ls.length cl) (.map (some cm)) (.map (some gm)) (.slice (some ⟨rb,0,none⟩) ls.length ls.length))∧RtM w' gm N' (ct L ls root x) (fun y=>ag L y root&&decide (0<many L ls y))∧RtR w' rb ls.length (cW L ls root x) (fun _=>true))∧aQ gm rb w w':=by
 obtain⟨V,hV1,hV2⟩:=CT;have h0:0≤x:=by rw[hx];exact Rat.natCast_nonneg
 have hle:x≤((ls.length:Nat):Rat):=by rw[hx];exact Rat.natCast_le_natCast.2 (Nat.min_le_right _ _)
 have hpos:=List.length_pos_iff.2 hne;have hm:=lX F;have HC:Hid (∀y,ag L y root=true→¬y=root→(V y).getD (.int .i64 0)= .int .i64 ((many L ls y:Nat):Int)):=Hd fun y _ hy=>by
  rw[hV2];unfold ew;rw[if_neg hy]
 have hd:DW (pth L root).length (ct L ls root x root):=by
  rw[eZ,hx];exact⟨1,A3,Nat.one_le_two_pow,dD 1 _⟩
 have hSh:Sh W0 w s fp cm gm rb N 0 al cl ls V (ct L ls root x) (cW L ls root x) (fun _=>false) (fun _=>false):=
  ⟨Z,⟨fun _=>none,M,fun y=>⟨fun _=>rfl,fun h=>by cases h⟩⟩,R,hV1,bel,gB,rB,ne⟩
 have hroot:(pth L root).length=1:=by
  have h1:=F.ok.yes F.hr;have h2:pth L (-1)=[]:=er (F.ok.low A3);rw[F.top,h2] at h1;rw[h1];rfl
 refine(mq fp B L l m k W0 s cm gm rb N al cl ls root V x F hF hL h0 hle HC 8 root w _ _ 0 p q F.self A3 A3 hd B2 hSh (by rw[eZ];exact hq)).mono ?_;rintro e w' ⟨rfl,hok,ho⟩;refine⟨rfl,fun h=>?_,ho⟩;obtain⟨N',_,hS⟩:=hok h;exact⟨N',hS.sol,hS.mp.congr fun y=>B4,hS.row.congr fun i hi=>by rw[F.grp hi];rfl⟩
end
section
variable (fp B:Nat) (L:List Gr) (l:List Int) (m k:Int)
theorem oE (al:Option Addr) (cl:Nat) (ls:List Lf) (root online cd:Int) (w:World) (h:IsF w B fp L l m k) (hl:cu w (.slice al ls.length cl) ls) (hr:I64 root) (hn:ls.length≤1000) (HE:Hid (cM L ls root online=cd)) (hcd: ¬cd=0):
  Calls Tryz.prog 27 #[.pointer (some ⟨fp,0,none⟩),.int .i64 root,.int .i64 online,.slice al ls.length cl] w fun e w'=>e= .returned (.tuple #[.pointer none,.int .i64 cd])∧Below w.heap.size w w':=by
 have hc2:(cd != 0)=true:=by simpa using hcd
 have hb1:Below w.heap.size w (w.alloc (.cells #[.pointer (some ⟨fp,0,none⟩),.slice al ls.length cl,.map none,.map none,.slice none 0 0] 82)):=(Below.refl _ _).alloc lr _;have hs1:Blk (w.alloc (.cells #[.pointer (some ⟨fp,0,none⟩),.slice al ls.length cl,.map none,.map none,.slice none 0 0] 82)) w.heap.size 82 (bF fp (.slice al ls.length cl) (.map none) (.map none) (.slice none 0 0)):=Blk.new w 82 _;have HCk:=Hd (kt fp B L l m k w.heap.size al cl _ _ _ ls root online _ (h.below hb1) hs1 (hl.below hb1) hr hn);clear h hl hs1;go_enter Tryz.func27,Tryz.ntmps27
 go_wp2_with (go_at_call 59;refine HCk.mono ?_;rw[HE.out];rintro e w2 ⟨rfl,hb2⟩)
 go_ret2
 exact⟨rfl,hb1.tr hb2⟩
theorem At {p:Prop} (h:p:=by refine⟨⟨s,rfl,fun h=>?_⟩,HB6.out⟩;obtain⟨N',h1,h2,h3⟩:=HOK.out h;exact⟨_,gm,rb,N',h1,h2,h3⟩):p:=h
theorem Al {p:Prop} (h:p:=by rw[HCG.out];exact⟨⟨s,rfl,fun _=>⟨_,gm,rb,0,HZ.out,⟨fun _=>none,HM.out,fun y=>⟨fun _=>rfl,fun h=>by simp[jR hnil] at h⟩⟩,HR.fill hnil⟩⟩,HB.out⟩):p:=h
theorem lY (al:Option Addr) (cl:Nat) (ls:List Lf) (root online:Int) (x:Rat) (hx:x=shX ls online) (w:World) (h:IsF w B fp L l m k) (hl:cu w (.slice al ls.length cl) ls) (hr:I64 root) (HE:Hid (cM L ls root online=0)):
  Calls Tryz.prog 27 #[.pointer (some ⟨fp,0,none⟩),.int .i64 root,.int .i64 online,.slice al ls.length cl] w fun e w'=>(∃s:Nat,e= .returned (.tuple #[.pointer (some ⟨s,0,none⟩),.int .i64 (bM L ls root)])∧(bM L ls root=0→∃(cv:Value) (gm rb N:Nat),Blk w' s 82 (bF fp (.slice al ls.length cl) cv (.map (some gm)) (.slice (some ⟨rb,0,none⟩) ls.length ls.length))∧RtM w' gm N (ct L ls root x) (fun y=>ag L y root&&decide (0<many L ls y))∧RtR w' rb ls.length (cW L ls root x) (fun _=>true)))∧Below w.heap.size w w':=by
 obtain⟨F,ho1,ho2⟩:=mz h.ok HE.out;have h1000:ls.length≤1000:=by have:=F.n64;omega
 obtain⟨i0,hi,hz0,hz1,hz2⟩:=info_parts Tryz.info49;have hb1:Below w.heap.size w (w.alloc (.cells #[.pointer (some ⟨fp,0,none⟩),.slice al ls.length cl,.map none,.map none,.slice none 0 0] 82)):=(Below.refl _ _).alloc lr _;have hs1:Blk (w.alloc (.cells #[.pointer (some ⟨fp,0,none⟩),.slice al ls.length cl,.map none,.map none,.slice none 0 0] 82)) w.heap.size 82 (bF fp (.slice al ls.length cl) (.map none) (.map none) (.slice none 0 0)):=Blk.new w 82 _;have HCk:=Hd (kt fp B L l m k w.heap.size al cl _ _ _ ls root online _ (h.below hb1) hs1 (hl.below hb1) hr h1000);have HFo:=Hd h;have HL:=Hd hl;have HFF:=Hd F;have n64:=F.n64;clear h hl F;go_enter Tryz.func27,Tryz.ntmps27
 go_wp2_with (go_at_call 59;refine HCk.mono ?_;rw[HE.out];rintro e w2 ⟨rfl,hb2⟩)
 have hs2:=hs1.below hb2;have hB:Below w.heap.size w w2:=hb1.tr hb2;obtain⟨s,hs0⟩: ∃s,w.heap.size=s:=⟨_,rfl⟩
 rw[hs0] at hs2;have hsw:=hs2.lt;clear hs1 hb1 hb2 HCk;rw[hs0];have Z:Blk w2.drew s 82 (bF fp (.slice al ls.length cl) (.map none) (.map none) (.slice none 0 0)):=hs2.drew;replace hB:Below w.heap.size w w2.drew:=Below.drewS hB;have hsw2:s<w2.drew.heap.size:=hsw;clear hs2 hsw;refine Rd.regionT (fun _=>True) [0,1,3,4,6,7,9,10] (.one 0 (.one 1 (.one 3 (.one 4 (.two 2 (.one 6 (.one 7 (.two 5 (.one 8 (.one 9 (.one 10 (.one 11 .done)))) 8 (.one 5 (.one 9 (.one 10 (.one 11 .done))))))) 5 (.one 2 (.one 6 (.one 7 (.one 8 (.one 9 (.one 10 (.one 11 .done)))))))))))) _ Ct Ct Ct trivial ?_ (fun _ _ h=>h);generalize w2.drew=w20 at *;refine Rd.tf (.pointer (some ⟨s,0,none⟩)) ?_;refine Rd.tf (.pointer (some ⟨s,0,none⟩)) ?_;refine Rd.tf (.slice al ls.length cl) ?_;refine Rd.tf (.int .i64 (ls.length:Int)) ?_;refine Rd.tr_two BC Cp BC Cp (fun K hK=>?_) (fun K hK=>?_)
 ·skip
  have G0:=Z.lt;have hmm:= @run_makeMap Tryz.prog;go_simp;clear hmm;have M:=Mv.made w20;have hb:Below w20.heap.size w20 (w20.alloc (.map #[] 0)):=(Below.refl _ _).alloc lr _;generalize w20.alloc (.map #[] 0)=w21 at *;replace Z:=Z.below hb;replace hB:=hB.tr hb;clear hb;refine hK _ _ trivial ?_;clear hK K;refine Rd.tf (.pointer (some ⟨s,0,none⟩)) ?_;refine Rd.tf (.pointer (some ⟨s,3,none⟩)) ?_;refine Rd.tr_two BC Cp BC Cp (fun K hK=>?_) (fun K hK=>?_)
  ·skip
   have R0:=Z.lt;refine jY _ _ 33 rfl i0 Tryz.underlying33 hi hz0 hz1 hz2 ls.length rfl rfl h1000 (cW L ls root x) (fun w22 R hg5=>?_);have hb:Below w21.heap.size w21 w22:=(Below.refl _ _).grown hg5 lr (fun j ej=>by cases ej);replace Z:=Z.below hb;replace M:=M.below hb;replace hB:=hB.tr hb;clear hb hg5;refine hK _ _ trivial ?_;clear hK K;refine Rd.tm fun K hK=>?_
   have fz:=Z.fz 3;have cz:=cS3 Z;go_simp;clear fz cz;have t8:=aX.setCell w22 s 3 (.map (some w20.heap.size));replace Z:=Z.set 3 (.map (some w20.heap.size));generalize w22.setCell ⟨s,3,none⟩ (.map (some w20.heap.size))=w23 at *;replace M:=M.same (t8.block _ A3);replace R:=R.keep (t8.block _ A3);replace hB:=hB.trans (t8.below (Nat.le_of_eq hs0));clear t8;refine hK _ _ trivial ?_;clear hK K;refine Rd.tf (.pointer (some ⟨s,0,none⟩)) ?_;refine Rd.tf (.pointer (some ⟨s,4,none⟩)) ?_;refine Rd.tm fun K hK=>?_
   have fz:=Z.fz 4;have cz:=zc Z;go_simp;clear fz cz;have t8:=aX.setCell w23 s 4 (.slice (some ⟨w21.heap.size,0,none⟩) ls.length ls.length);replace Z:=Z.set 4 (.slice (some ⟨w21.heap.size,0,none⟩) ls.length ls.length);generalize w23.setCell ⟨s,4,none⟩ (.slice (some ⟨w21.heap.size,0,none⟩) ls.length ls.length)=w24 at *;replace M:=M.same (t8.block _ A3);replace R:=R.keep (t8.block _ A3);replace hB:=hB.trans (t8.below (Nat.le_of_eq hs0));clear t8;refine hK _ _ trivial ?_;clear hK K;refine Rd.tr_end ?_;have hgm:s<w20.heap.size:=G0;have hrb:s<w21.heap.size:=R0;clear G0 R0;have hww:=hB.size;have hgl:=M.lt;have hrl:=R.lt;generalize w20.heap.size=gm at *;generalize w21.heap.size=rb at *;have HM:=Hd M;have HR:=Hd R;have HZ:=Hd Z;have HB:=Hd hB;by_cases hnil:ls=[]
   ·have hl0:(ls.length:Int)=0:=by rw[hnil];rfl
    have HCG:Hid (bM L ls root=0):=Hd (by unfold bM;rw[if_pos (m6 HFF.out hnil)]);clear Z M R hB
    go_wp2_with fail
    go_ret2
    exact Al
   ·have hl0: ¬(ls.length:Int)=0:=by have:=List.length_pos_iff.2 hnil;omega
    have HCt:=Hd (iR fp B L l m k w s al cl (.map none) (.map (some gm)) (.slice (some ⟨rb,0,none⟩) ls.length ls.length) ls root HFF.out w24 HFo.out HL.out hB (Nat.le_of_eq hs0) Z);have hmin:((min online.toNat ls.length:Nat):Int)=min online (ls.length:Int):=A3
    have HQ:=Hd (fun W=>i6 (min online.toNat ls.length) A3 W);rw[hmin] at HQ;clear Z M R hB hmin
    go_wp2_with (first
     | (go_at_call 60;refine HCt.mono ?_;rintro e w40 ⟨rfl,cm,Nc,hcm,Z4,CT,ho4⟩;have hb4:=HB.trans (ho4.below (p:=s) (g:=s) HB.size (Nat.le_of_eq hs0) (Nat.le_of_eq hs0));have M4:=HM.same (ho4.block gm hgl A3 A3);have R4:=HR.keep (ho4.block rb hrl A3 A3);have H4:=Hd (And.intro Z4 (And.intro M4 (And.intro R4 (And.intro CT hb4))));clear Z4 M4 R4 CT hb4 ho4)
     | (go_at_call 18;refine(HQ.out w40).mono ?_;rintro e w41 ⟨p,q,rfl,hq,hb5⟩))
    obtain⟨Z4,M4,R4,CT,hb4⟩:=H4.out;have hb45:=hb4.tr hb5;refine(gR fp B L l m k w w41 s cm gm rb Nc al cl ls root online x hx p q HFF.out HFo.out HL.out hnil (Z4.below hb5) (M4.below hb5) (R4.below hb5) (CT.below hb5) hb45 A3 A3 A3 (by rw[hx];exact hq)).mono ?_;rintro e w42 ⟨rfl,hok,ho5⟩;have HOK:=Hd hok;have HB6:=Hd (hb45.trans (ho5.below hb45.size A3 A3));clear hok ho5 hb45 hb5 hq Z4 M4 R4 CT hb4 H4
    go_wp2_with fail
    go_ret2
    exact At
  ·skip
   have fz:=Z.fz 3;have cz:=cS3 Z;go_simp;clear fz cz;have t8:=aX.setCell w21 s 3 (.map (some w20.heap.size));replace Z:=Z.set 3 (.map (some w20.heap.size));generalize w21.setCell ⟨s,3,none⟩ (.map (some w20.heap.size))=w25 at *;replace M:=M.same (t8.block _ A3);replace hB:=hB.trans (t8.below (Nat.le_of_eq hs0));clear t8;refine hK _ _ trivial ?_;clear hK K;refine Rd.tm fun K hK=>?_
   have R0:=Z.lt;refine jY _ _ 33 rfl i0 Tryz.underlying33 hi hz0 hz1 hz2 ls.length rfl rfl h1000 (cW L ls root x) (fun w26 R hg5=>?_);have hb:Below w25.heap.size w25 w26:=(Below.refl _ _).grown hg5 lr (fun j ej=>by cases ej);replace Z:=Z.below hb;replace M:=M.below hb;replace hB:=hB.tr hb;clear hb hg5;refine hK _ _ trivial ?_;clear hK K;refine Rd.tf (.pointer (some ⟨s,0,none⟩)) ?_;refine Rd.tf (.pointer (some ⟨s,4,none⟩)) ?_;refine Rd.tm fun K hK=>?_
   have fz:=Z.fz 4;have cz:=zc Z;go_simp;clear fz cz;have t8:=aX.setCell w26 s 4 (.slice (some ⟨w25.heap.size,0,none⟩) ls.length ls.length);replace Z:=Z.set 4 (.slice (some ⟨w25.heap.size,0,none⟩) ls.length ls.length);generalize w26.setCell ⟨s,4,none⟩ (.slice (some ⟨w25.heap.size,0,none⟩) ls.length ls.length)=w27 at *;replace M:=M.same (t8.block _ A3);replace R:=R.keep (t8.block _ A3);replace hB:=hB.trans (t8.below (Nat.le_of_eq hs0));clear t8;refine hK _ _ trivial ?_;clear hK K;refine Rd.tr_end ?_;have hgm:s<w20.heap.size:=G0;have hrb:s<w25.heap.size:=R0;clear G0 R0;have hww:=hB.size;have hgl:=M.lt;have hrl:=R.lt;generalize w20.heap.size=gm at *;generalize w25.heap.size=rb at *;have HM:=Hd M;have HR:=Hd R;have HZ:=Hd Z;have HB:=Hd hB;by_cases hnil:ls=[]
   ·have hl0:(ls.length:Int)=0:=by rw[hnil];rfl
    have HCG:Hid (bM L ls root=0):=Hd (by unfold bM;rw[if_pos (m6 HFF.out hnil)]);clear Z M R hB
    go_wp2_with fail
    go_ret2
    exact Al
   ·have hl0: ¬(ls.length:Int)=0:=by have:=List.length_pos_iff.2 hnil;omega
    have HCt:=Hd (iR fp B L l m k w s al cl (.map none) (.map (some gm)) (.slice (some ⟨rb,0,none⟩) ls.length ls.length) ls root HFF.out w27 HFo.out HL.out hB (Nat.le_of_eq hs0) Z);have hmin:((min online.toNat ls.length:Nat):Int)=min online (ls.length:Int):=A3
    have HQ:=Hd (fun W=>i6 (min online.toNat ls.length) A3 W);rw[hmin] at HQ;clear Z M R hB hmin
    go_wp2_with (first
     | (go_at_call 60;refine HCt.mono ?_;rintro e w40 ⟨rfl,cm,Nc,hcm,Z4,CT,ho4⟩;have hb4:=HB.trans (ho4.below (p:=s) (g:=s) HB.size (Nat.le_of_eq hs0) (Nat.le_of_eq hs0));have M4:=HM.same (ho4.block gm hgl A3 A3);have R4:=HR.keep (ho4.block rb hrl A3 A3);have H4:=Hd (And.intro Z4 (And.intro M4 (And.intro R4 (And.intro CT hb4))));clear Z4 M4 R4 CT hb4 ho4)
     | (go_at_call 18;refine(HQ.out w40).mono ?_;rintro e w41 ⟨p,q,rfl,hq,hb5⟩))
    obtain⟨Z4,M4,R4,CT,hb4⟩:=H4.out;have hb45:=hb4.tr hb5;refine(gR fp B L l m k w w41 s cm gm rb Nc al cl ls root online x hx p q HFF.out HFo.out HL.out hnil (Z4.below hb5) (M4.below hb5) (R4.below hb5) (CT.below hb5) hb45 A3 A3 A3 (by rw[hx];exact hq)).mono ?_;rintro e w42 ⟨rfl,hok,ho5⟩;have HOK:=Hd hok;have HB6:=Hd (hb45.trans (ho5.below hb45.size A3 A3));clear hok ho5 hb45 hb5 hq Z4 M4 R4 CT hb4 H4
    go_wp2_with fail
    go_ret2
    exact At
 ·skip
  have R0:=Z.lt;refine jY _ _ 33 rfl i0 Tryz.underlying33 hi hz0 hz1 hz2 ls.length rfl rfl h1000 (cW L ls root x) (fun w28 R hg5=>?_);have hb:Below w20.heap.size w20 w28:=(Below.refl _ _).grown hg5 lr (fun j ej=>by cases ej);replace Z:=Z.below hb;replace hB:=hB.tr hb;clear hb hg5;refine hK _ _ trivial ?_;clear hK K;refine Rd.tm fun K hK=>?_
  have G0:=Z.lt;have hmm:= @run_makeMap Tryz.prog;go_simp;clear hmm;have M:=Mv.made w28;have hb:Below w28.heap.size w28 (w28.alloc (.map #[] 0)):=(Below.refl _ _).alloc lr _;generalize w28.alloc (.map #[] 0)=w29 at *;replace Z:=Z.below hb;replace R:=R.below hb;replace hB:=hB.tr hb;clear hb;refine hK _ _ trivial ?_;clear hK K;refine Rd.tf (.pointer (some ⟨s,0,none⟩)) ?_;refine Rd.tf (.pointer (some ⟨s,3,none⟩)) ?_;refine Rd.tm fun K hK=>?_
  have fz:=Z.fz 3;have cz:=cS3 Z;go_simp;clear fz cz;have t8:=aX.setCell w29 s 3 (.map (some w28.heap.size));replace Z:=Z.set 3 (.map (some w28.heap.size));generalize w29.setCell ⟨s,3,none⟩ (.map (some w28.heap.size))=w30 at *;replace M:=M.same (t8.block _ A3);replace R:=R.keep (t8.block _ A3);replace hB:=hB.trans (t8.below (Nat.le_of_eq hs0));clear t8;refine hK _ _ trivial ?_;clear hK K;refine Rd.tf (.pointer (some ⟨s,0,none⟩)) ?_;refine Rd.tf (.pointer (some ⟨s,4,none⟩)) ?_;refine Rd.tm fun K hK=>?_
  have fz:=Z.fz 4;have cz:=zc Z;go_simp;clear fz cz;have t8:=aX.setCell w30 s 4 (.slice (some ⟨w20.heap.size,0,none⟩) ls.length ls.length);replace Z:=Z.set 4 (.slice (some ⟨w20.heap.size,0,none⟩) ls.length ls.length);generalize w30.setCell ⟨s,4,none⟩ (.slice (some ⟨w20.heap.size,0,none⟩) ls.length ls.length)=w31 at *;replace M:=M.same (t8.block _ A3);replace R:=R.keep (t8.block _ A3);replace hB:=hB.trans (t8.below (Nat.le_of_eq hs0));clear t8;refine hK _ _ trivial ?_;clear hK K;refine Rd.tr_end ?_;have hgm:s<w28.heap.size:=G0;have hrb:s<w20.heap.size:=R0;clear G0 R0;have hww:=hB.size;have hgl:=M.lt;have hrl:=R.lt;generalize w28.heap.size=gm at *;generalize w20.heap.size=rb at *;have HM:=Hd M;have HR:=Hd R;have HZ:=Hd Z;have HB:=Hd hB;by_cases hnil:ls=[]
  ·have hl0:(ls.length:Int)=0:=by rw[hnil];rfl
   have HCG:Hid (bM L ls root=0):=Hd (by unfold bM;rw[if_pos (m6 HFF.out hnil)]);clear Z M R hB
   go_wp2_with fail
   go_ret2
   exact Al
  ·have hl0: ¬(ls.length:Int)=0:=by have:=List.length_pos_iff.2 hnil;omega
   have HCt:=Hd (iR fp B L l m k w s al cl (.map none) (.map (some gm)) (.slice (some ⟨rb,0,none⟩) ls.length ls.length) ls root HFF.out w31 HFo.out HL.out hB (Nat.le_of_eq hs0) Z);have hmin:((min online.toNat ls.length:Nat):Int)=min online (ls.length:Int):=A3
   have HQ:=Hd (fun W=>i6 (min online.toNat ls.length) A3 W);rw[hmin] at HQ;clear Z M R hB hmin
   go_wp2_with (first
    | (go_at_call 60;refine HCt.mono ?_;rintro e w40 ⟨rfl,cm,Nc,hcm,Z4,CT,ho4⟩;have hb4:=HB.trans (ho4.below (p:=s) (g:=s) HB.size (Nat.le_of_eq hs0) (Nat.le_of_eq hs0));have M4:=HM.same (ho4.block gm hgl A3 A3);have R4:=HR.keep (ho4.block rb hrl A3 A3);have H4:=Hd (And.intro Z4 (And.intro M4 (And.intro R4 (And.intro CT hb4))));clear Z4 M4 R4 CT hb4 ho4)
    | (go_at_call 18;refine(HQ.out w40).mono ?_;rintro e w41 ⟨p,q,rfl,hq,hb5⟩))
   obtain⟨Z4,M4,R4,CT,hb4⟩:=H4.out;have hb45:=hb4.tr hb5;refine(gR fp B L l m k w w41 s cm gm rb Nc al cl ls root online x hx p q HFF.out HFo.out HL.out hnil (Z4.below hb5) (M4.below hb5) (R4.below hb5) (CT.below hb5) hb45 A3 A3 A3 (by rw[hx];exact hq)).mono ?_;rintro e w42 ⟨rfl,hok,ho5⟩;have HOK:=Hd hok;have HB6:=Hd (hb45.trans (ho5.below hb45.size A3 A3));clear hok ho5 hb45 hb5 hq Z4 M4 R4 CT hb4 H4
   go_wp2_with fail
   go_ret2
   exact At
end
def lW (L:List Gr) (ls:List Lf) (root online:Int):List Rat:=(List.range ls.length).map (cW L ls root (shX ls online))
theorem RtR.rowQ {w:World} {rb n:Nat} {r:Nat→Rat} (h:RtR w rb n r (fun _=>true)):iJ w (.slice (some ⟨rb,0,none⟩) n n) ((List.range n).map r):=by
 have hlt:=h.lt;obtain⟨cur,h1,h2,h3,h4⟩:=h;refine⟨_,n,by rw[List.length_map,List.length_range],fun _=>⟨rb,rfl,hlt,fun j hj=>?_⟩⟩;rw[List.length_map,List.length_range] at hj;obtain⟨p,q,a1,a2,a3⟩:=h4 j hj rfl;refine⟨p,q,?_,?_,?_⟩
 ·rw[cell_of_row w rb (j*2) _ 49 (0,0) h1];exact a1
 ·rw[cell_of_row w rb (j*2+1) _ 49 (0,0) h1];exact a2
 ·simp[List.getD_eq_getElem?_getD,hj];exact a3
section
variable (fp B:Nat) (L:List Gr) (l:List Int) (m k:Int)
theorem mf (al:Option Addr) (cl:Nat) (ls:List Lf) (root online:Int) (w:World) (h:IsF w B fp L l m k) (hl:cu w (.slice al ls.length cl) ls) (hr:I64 root) (hn:ls.length≤1000):
  Calls Tryz.prog 11 #[.pointer (some ⟨fp,0,none⟩),.int .i64 root,.int .i64 online,.slice al ls.length cl] w fun e w'=>(∃v,e= .returned (.tuple #[v,.int .i64 (bQ L ls root online)])∧(bQ L ls root online=0→iJ w' v (lW L ls root online))∧(¬bQ L ls root online=0→v= .slice none 0 0))∧Below w.heap.size w w':=by
 by_cases hs:cM L ls root online=0
 ·have he:bQ L ls root online=bM L ls root:=by unfold bQ;rw[if_pos hs]
  have HSo:=Hd (lY fp B L l m k al cl ls root online _ rfl w h hl hr (Hd hs));rw[he];clear h hl he hs;by_cases hc:bM L ls root=0
  ·have HCG:=Hd hc;go_enter Tryz.func11,Tryz.ntmps11
   go_wp2_with (go_at_call 27;refine HSo.mono ?_;rw[HCG.out];rintro e w2 ⟨⟨s,rfl,hok⟩,hb⟩;obtain⟨cv,gm,rb,N,Z,M,R⟩:=hok rfl;have hz:=cS4 Z;have HM:=Hd M;have HR:=Hd R;have HB:=Hd hb;clear Z M R hb hok hc)
   go_ret2
   rw[HCG.out];exact⟨⟨_,rfl,fun _=>HR.rowQ,fun h=>absurd rfl h⟩,HB.out⟩
  ·have hc2:bM L ls root=6:=by
    unfold bM at hc ⊢;split at hc
    ·exact absurd rfl hc
    ·rename_i h;rw[if_neg h]
   have HCG:=Hd hc2;clear hc hc2;go_enter Tryz.func11,Tryz.ntmps11
   go_wp2_with (go_at_call 27;refine HSo.mono ?_;rw[HCG.out];rintro e w2 ⟨⟨s,rfl,_⟩,hb⟩)
   go_ret2
   rw[HCG.out];exact⟨⟨_,rfl,(fun h=>by cases h),fun _=>rfl⟩,hb⟩
 ·have he:bQ L ls root online=cM L ls root online:=by unfold bQ;rw[if_neg hs]
  rw[he];have HSo:=Hd (oE fp B L l m k al cl ls root online _ w h hl hr hn (Hd rfl) hs);have HNE:=Hd hs;have hs2:(cM L ls root online != 0)=true:=by simpa using hs
  clear h hl he hs;generalize cM L ls root online=cd at *;go_enter Tryz.func11,Tryz.ntmps11
  go_wp2_with (go_at_call 27;refine HSo.mono ?_;rintro e w2 ⟨rfl,hb⟩)
  go_ret2
  exact⟨⟨_,rfl,fun h=>absurd h HNE.out,fun _=>rfl⟩,hb⟩
theorem ku (al:Option Addr) (cl:Nat) (ls:List Lf) (root online:Int) (w:World) (h:IsF w B fp L l m k) (hl:cu w (.slice al ls.length cl) ls) (hr:I64 root) (hn:ls.length≤1000):
  Calls Tryz.prog 13 #[.pointer (some ⟨fp,0,none⟩),.int .i64 root,.int .i64 online,.slice al ls.length cl] w fun e w'=>(∃v,e= .returned (.tuple #[v,.int .i64 (bQ L ls root online)])∧(bQ L ls root online=0→∃gm N,v= .map (some gm)∧RtM w' gm N (ct L ls root (shX ls online)) (fun y=>ag L y root&&decide (0<many L ls y)))∧(¬bQ L ls root online=0→v= .map none))∧Below w.heap.size w w':=by
 by_cases hs:cM L ls root online=0
 ·have he:bQ L ls root online=bM L ls root:=by unfold bQ;rw[if_pos hs]
  have HSo:=Hd (lY fp B L l m k al cl ls root online _ rfl w h hl hr (Hd hs));rw[he];clear h hl he hs;by_cases hc:bM L ls root=0
  ·have HCG:=Hd hc;go_enter Tryz.func13,Tryz.ntmps13
   go_wp2_with (go_at_call 27;refine HSo.mono ?_;rw[HCG.out];rintro e w2 ⟨⟨s,rfl,hok⟩,hb⟩;obtain⟨cv,gm,rb,N,Z,M,R⟩:=hok rfl;have hz:=cS3 Z;have HM:=Hd M;have HR:=Hd R;have HB:=Hd hb;clear Z M R hb hok hc)
   go_ret2
   rw[HCG.out];exact⟨⟨_,rfl,fun _=>⟨gm,N,rfl,HM.out⟩,fun h=>absurd rfl h⟩,HB.out⟩
  ·have hc2:bM L ls root=6:=by
    unfold bM at hc ⊢;split at hc
    ·exact absurd rfl hc
    ·rename_i h;rw[if_neg h]
   have HCG:=Hd hc2;clear hc hc2;go_enter Tryz.func13,Tryz.ntmps13
   go_wp2_with (go_at_call 27;refine HSo.mono ?_;rw[HCG.out];rintro e w2 ⟨⟨s,rfl,_⟩,hb⟩)
   go_ret2
   rw[HCG.out];exact⟨⟨_,rfl,(fun h=>by cases h),fun _=>rfl⟩,hb⟩
 ·have he:bQ L ls root online=cM L ls root online:=by unfold bQ;rw[if_neg hs]
  rw[he];have HSo:=Hd (oE fp B L l m k al cl ls root online _ w h hl hr hn (Hd rfl) hs);have HNE:=Hd hs;have hs2:(cM L ls root online != 0)=true:=by simpa using hs
  clear h hl he hs;generalize cM L ls root online=cd at *;go_enter Tryz.func13,Tryz.ntmps13
  go_wp2_with (go_at_call 27;refine HSo.mono ?_;rintro e w2 ⟨rfl,hb⟩)
  go_ret2
  exact⟨⟨_,rfl,fun h=>absurd h HNE.out,fun _=>rfl⟩,hb⟩
end
end Go.Proofs.YtohifgjeebhijaaGreatDoor
namespace Go.Proofs.YtohifgjeebhijaaGreatDoor
set_option maxRecDepth 100000
set_option maxHeartbeats 4000000
open Go.RowKit Go.Maps
theorem IsF.base {w:World} {B B' fp:Nat} {L:List Gr} {l:List Int} {m k:Int} (h:IsF w B fp L l m k) (hB:B'≤B):IsF w B' fp L l m k:=by
 obtain⟨tp,tg,mp,bl,h1,h2,h3,h4,h5⟩:=h.fo;exact⟨⟨tp,tg,mp,bl,h1,A3,A3,A3,fun x hx=>Nat.le_trans hB (h5 x hx)⟩,h.tok,h.ids,h.ok⟩
theorem wM (N:Nat) (hN:N=40) (w:World):
  Calls Tryz.prog 22 #[.int .i64 40] w fun e w'=>(∃fp l,e= .returned (.tuple #[.pointer (some ⟨fp,0,none⟩),.int .i64 0])∧l.length=N∧IsF w' w.heap.size fp [] l 0 0)∧Below w.heap.size w w':=by
 subst hN;exact oH 40 w A3 A3
theorem rd (N:Nat) (hN:N=40) (w:World):
  Calls Tryz.prog 23 #[.int .i64 40] w fun e w'=>(∃v,e= .returned (.tuple #[v,.int .i64 0])∧bm w' v (N:Int) 0 [])∧Below w.heap.size w w':=by
 subst hN;exact vY 40 w A3 A3
theorem fd {fn:Func} {p u t:Tmp} (h:fn.results= #[.tmp t,.cell p 29,.tmp u]) (tmps:Array Value) (w:World) (b:Nat) (r m:Int) (v x y:Value) (hy:tmps.getD t undef=y) (hp:tmps.getD p undef= .pointer (some ⟨b,0,none⟩)) (hx:tmps.getD u undef=x) (hw:Blk w b 29 (ae r m v)):
  (results fn tmps).run Tryz.prog w= .ok (.tuple #[y,.agg (ae r m v),x]) w:=by
 have hp':tmps[p]?.getD undef= .pointer (some ⟨b,0,none⟩):=Bs
 have hx':tmps[u]?.getD undef=x:=by simpa using hx
 have hy':tmps[t]?.getD undef=y:=by simpa using hy
 simp[results,h,hp',hx',hy',asAddr,run_loadVar_row w b 29 29 _ (0,0) _ hw Tryz.underlying29 rfl Tryz.info29]
theorem St.turnZ {W w w':World} {fp b R:Nat} {L Lr:List Gr} {m k mr:Int} {d t:Nat} {cs:Array Value} (h:St W fp b R w L m k Lr mr) (ht:aX d w w') (hd:Blk w d t cs) (hne:t∉[106,144,3,118,56]) (hb:b≠d) (hW:W.heap.size≤d):St W fp b R w' L m k Lr mr:=by
 obtain⟨l,hl,hF⟩:=h.F;obtain⟨a,c,h1,h2⟩:=h.ref;exact⟨⟨l,hl,hF.turn ht hd (fun e=>hne (by simp at e ⊢;omega))⟩,⟨a,c,h1.turn ht hb,h2.turn ht hd (fun e=>hne (by simp[e]))⟩,h.bel.trans (ht.below hW),h.Wb⟩
theorem Az {p:Prop} (h:p:=by refine bodyPost_ret (fd rfl _ w20 bz (N:Int) 0 (.slice a3 0 c3) (.bool false) (.pointer none) rfl rfl rfl hZ20) rfl ?_;rw[←HW.out];exact⟨⟨_,_,_,_,_,rfl⟩,HB.trans (t20.below hzw)⟩):p:=h
theorem xG (va vl:Value) (root online:Int) (xs:List (Nat×Int×Int)) (ls:List Lf) (w:World) (hx:gE w va xs) (hl:cu w vl ls) (hn:40<xs.length∨70<ls.length):
  Calls Tryz.prog 9 #[.agg #[va,.int .i64 root,.int .i64 online,vl]] w fun e w'=>(∃(r m:Int) (a:Option Addr) (n c:Nat),e= .returned (.tuple #[.pointer none,.agg (ae r m (.slice a n c)),.bool false]))∧Below w.heap.size w w':=by
 obtain⟨ax,cx,rfl⟩:=hx.sl;obtain⟨al,cl,rfl⟩:=hl.sl;clear hx hl;by_cases h1':40<xs.length
 ·have h1:(40:Int)<(xs.length:Int):=A3
  clear hn h1';have hB:=(Below.refl w.heap.size w).alloc lr (.cells #[.slice ax xs.length cx,.int .i64 root,.int .i64 online,.slice al ls.length cl] 25);have hT:=Blk.new w 25 #[.slice ax xs.length cx,.int .i64 root,.int .i64 online,.slice al ls.length cl];obtain⟨N,hN⟩: ∃N:Nat,N=40:=⟨40,rfl⟩
  have HN:=Hd hN;clear hN;have T1:True:=trivial;go_enter Tryz.func9,Tryz.ntmps9;generalize hb1:w.heap.size=b1 at hT;have HW:=Hd hb1
  go_wp2_with (first
   | (refine ai rfl rfl ?_;clear T1;have hZ:Blk ((w.alloc (.cells #[.slice ax xs.length cx,.int .i64 root,.int .i64 online,.slice al ls.length cl] 25)).alloc (.cells #[.int .i64 0,.int .i64 0,.slice none 0 0] 29)) (w.alloc (.cells #[.slice ax xs.length cx,.int .i64 root,.int .i64 online,.slice al ls.length cl] 25)).heap.size 29 (ae 0 0 (.slice none 0 0)):=Blk.new _ 29 _;have hbz:b1<(w.alloc (.cells #[.slice ax xs.length cx,.int .i64 root,.int .i64 online,.slice al ls.length cl] 25)).heap.size:=hT.lt;replace hT:=hT.alloc (.cells #[.int .i64 0,.int .i64 0,.slice none 0 0] 29);replace hB:=hB.alloc hB.size (.cells #[.int .i64 0,.int .i64 0,.slice none 0 0] 29);generalize (w.alloc (.cells #[.slice ax xs.length cx,.int .i64 root,.int .i64 online,.slice al ls.length cl] 25)).heap.size=bz at *;generalize (w.alloc (.cells #[.slice ax xs.length cx,.int .i64 root,.int .i64 online,.slice al ls.length cl] 25)).alloc (.cells #[.int .i64 0,.int .i64 0,.slice none 0 0] 29)=w1 at *)
   | (go_at_call 22;refine(wM N HN.out w1).mono ?_;rintro e w2 ⟨⟨fp,l0,rfl,hl0,hF0⟩,hb⟩;have HF:=Hd (hF0.base hB.size);have HL0:=Hd hl0;replace hT:=hT.below hb;replace hZ:=hZ.below hb;replace hB:=hB.tr hb;clear hb hF0 hl0)
   | (go_at_call 23;refine(rd N HN.out w2).mono ?_;rintro e w3 ⟨⟨v3,rfl,a3,c3,rfl,hr3⟩,hb⟩;replace HF:=Hd (HF.below hb);replace hT:=hT.below hb;replace hZ:=hZ.below hb;replace hB:=hB.tr hb;clear hb;have hb:=(Below.refl w3.heap.size w3).alloc lr (.cells #[.int .i64 0,.int .i64 0,.slice none 0 0] 29);have hw3:=hB.size;have hzl:=hZ.lt;have h7:Blk (w3.alloc (.cells #[.int .i64 0,.int .i64 0,.slice none 0 0] 29)) w3.heap.size 29 (ae 0 0 (.slice none 0 0)):=Blk.new _ 29 _;replace HF:=Hd (HF.below hb);replace hT:=hT.below hb;replace hZ:=hZ.below hb;replace hB:=hB.tr hb;have hr4:=hr3.alloc (.cells #[.int .i64 0,.int .i64 0,.slice none 0 0] 29);clear hb hr3)
   | (refine ai rfl rfl ?_;generalize w3.alloc (.cells #[.int .i64 0,.int .i64 0,.slice none 0 0] 29)=w4 at *)
   | (refine ab rfl _ _ rfl w3.heap.size (N:Int) 0 (.slice a3 0 c3) rfl rfl h7 rfl rfl ?_;intro w5 h75 t5;have HF5:=Hd (HF.turn t5 h7 BD);have hr5:=hr4.turn t5 h7 BD;have hT5:=hT.turn t5 (by have:=hT.lt;omega);have hZ5:=hZ.turn t5 A3;have hB5:=hB.trans (t5.below hw3);have t0:=hT5.at 0;have t3:=hT5.at 3;simp only[gA,gB,gC] at t0 t3;clear h7 hr4 hT hZ hB t5 HF))
  have hzb:bz≠w3.heap.size:=A3
  have HZ:=Hd hZ5.drew;have HB:=Hd (Below.drewS hB5);have q0:=cF0 h75.drew;have q1:=cF1 h75.drew;have q2:=cF2 h75.drew;have hby:=h75.drew;have hzw:w.heap.size≤bz:=by have:=HW.out;omega
  generalize w3.heap.size=b at *;refine Rd.rg (fun X=>X.cell? ⟨b,0,none⟩=some (.int .i64 (N:Int))∧X.cell? ⟨b,1,none⟩=some (.int .i64 0)∧X.cell? ⟨b,2,none⟩=some (.slice a3 0 c3)) 4 [0,1,3] [0,1,2,3] ⟨q0,q1,q2⟩ ?_;clear q0 q1 q2 h75 hZ5 hB5;generalize w5.drew=w15 at *;refine Rd.sg (.agg #[.int .i64 (N:Int),.int .i64 0,.slice a3 0 c3]) ?_ (y:=fun X hX=>by obtain⟨x0,x1,x2⟩:=hX;go_simp);refine Rd.sf (.pointer none) ?_;refine Rd.sm fun K hK=>?_
  refine cO _ _ rfl bz (N:Int) 0 (.slice a3 0 c3) rfl rfl HZ.out rfl rfl (fun w20 hZ20 t20=>?_);have hby2:=hby.turn t20 (Ne.symm hzb);refine hK _ _ (fun _=>⟨cF0 hby2,cF1 hby2,cF2 hby2⟩) ?_;clear hK K;refine Rd.sf (.bool false) ?_;refine Rd.seq_end ?_
  go_wp2_with fail
  exact Az
 ·have h1: ¬(40:Int)<(xs.length:Int):=A3
  have h2:(70:Int)<(ls.length:Int):=A3
  clear hn h1';have hB:=(Below.refl w.heap.size w).alloc lr (.cells #[.slice ax xs.length cx,.int .i64 root,.int .i64 online,.slice al ls.length cl] 25);have hT:=Blk.new w 25 #[.slice ax xs.length cx,.int .i64 root,.int .i64 online,.slice al ls.length cl];obtain⟨N,hN⟩: ∃N:Nat,N=40:=⟨40,rfl⟩
  have HN:=Hd hN;clear hN;have T1:True:=trivial;go_enter Tryz.func9,Tryz.ntmps9;generalize hb1:w.heap.size=b1 at hT;have HW:=Hd hb1
  go_wp2_with (first
   | (refine ai rfl rfl ?_;clear T1;have hZ:Blk ((w.alloc (.cells #[.slice ax xs.length cx,.int .i64 root,.int .i64 online,.slice al ls.length cl] 25)).alloc (.cells #[.int .i64 0,.int .i64 0,.slice none 0 0] 29)) (w.alloc (.cells #[.slice ax xs.length cx,.int .i64 root,.int .i64 online,.slice al ls.length cl] 25)).heap.size 29 (ae 0 0 (.slice none 0 0)):=Blk.new _ 29 _;have hbz:b1<(w.alloc (.cells #[.slice ax xs.length cx,.int .i64 root,.int .i64 online,.slice al ls.length cl] 25)).heap.size:=hT.lt;replace hT:=hT.alloc (.cells #[.int .i64 0,.int .i64 0,.slice none 0 0] 29);replace hB:=hB.alloc hB.size (.cells #[.int .i64 0,.int .i64 0,.slice none 0 0] 29);generalize (w.alloc (.cells #[.slice ax xs.length cx,.int .i64 root,.int .i64 online,.slice al ls.length cl] 25)).heap.size=bz at *;generalize (w.alloc (.cells #[.slice ax xs.length cx,.int .i64 root,.int .i64 online,.slice al ls.length cl] 25)).alloc (.cells #[.int .i64 0,.int .i64 0,.slice none 0 0] 29)=w1 at *)
   | (go_at_call 22;refine(wM N HN.out w1).mono ?_;rintro e w2 ⟨⟨fp,l0,rfl,hl0,hF0⟩,hb⟩;have HF:=Hd (hF0.base hB.size);have HL0:=Hd hl0;replace hT:=hT.below hb;replace hZ:=hZ.below hb;replace hB:=hB.tr hb;clear hb hF0 hl0)
   | (go_at_call 23;refine(rd N HN.out w2).mono ?_;rintro e w3 ⟨⟨v3,rfl,a3,c3,rfl,hr3⟩,hb⟩;replace HF:=Hd (HF.below hb);replace hT:=hT.below hb;replace hZ:=hZ.below hb;replace hB:=hB.tr hb;clear hb;have hb:=(Below.refl w3.heap.size w3).alloc lr (.cells #[.int .i64 0,.int .i64 0,.slice none 0 0] 29);have hw3:=hB.size;have hzl:=hZ.lt;have h7:Blk (w3.alloc (.cells #[.int .i64 0,.int .i64 0,.slice none 0 0] 29)) w3.heap.size 29 (ae 0 0 (.slice none 0 0)):=Blk.new _ 29 _;replace HF:=Hd (HF.below hb);replace hT:=hT.below hb;replace hZ:=hZ.below hb;replace hB:=hB.tr hb;have hr4:=hr3.alloc (.cells #[.int .i64 0,.int .i64 0,.slice none 0 0] 29);clear hb hr3)
   | (refine ai rfl rfl ?_;generalize w3.alloc (.cells #[.int .i64 0,.int .i64 0,.slice none 0 0] 29)=w4 at *)
   | (refine ab rfl _ _ rfl w3.heap.size (N:Int) 0 (.slice a3 0 c3) rfl rfl h7 rfl rfl ?_;intro w5 h75 t5;have HF5:=Hd (HF.turn t5 h7 BD);have hr5:=hr4.turn t5 h7 BD;have hT5:=hT.turn t5 (by have:=hT.lt;omega);have hZ5:=hZ.turn t5 A3;have hB5:=hB.trans (t5.below hw3);have t0:=hT5.at 0;have t3:=hT5.at 3;simp only[gA,gB,gC] at t0 t3;clear h7 hr4 hT hZ hB t5 HF))
  have hzb:bz≠w3.heap.size:=A3
  have HZ:=Hd hZ5.drew;have HB:=Hd (Below.drewS hB5);have q0:=cF0 h75.drew;have q1:=cF1 h75.drew;have q2:=cF2 h75.drew;have hby:=h75.drew;have hzw:w.heap.size≤bz:=by have:=HW.out;omega
  generalize w3.heap.size=b at *;refine Rd.rg (fun X=>X.cell? ⟨b,0,none⟩=some (.int .i64 (N:Int))∧X.cell? ⟨b,1,none⟩=some (.int .i64 0)∧X.cell? ⟨b,2,none⟩=some (.slice a3 0 c3)) 4 [0,1,3] [0,1,2,3] ⟨q0,q1,q2⟩ ?_;clear q0 q1 q2 h75 hZ5 hB5;generalize w5.drew=w15 at *;refine Rd.sg (.agg #[.int .i64 (N:Int),.int .i64 0,.slice a3 0 c3]) ?_ (y:=fun X hX=>by obtain⟨x0,x1,x2⟩:=hX;go_simp);refine Rd.sf (.pointer none) ?_;refine Rd.sm fun K hK=>?_
  refine cO _ _ rfl bz (N:Int) 0 (.slice a3 0 c3) rfl rfl HZ.out rfl rfl (fun w20 hZ20 t20=>?_);have hby2:=hby.turn t20 (Ne.symm hzb);refine hK _ _ (fun _=>⟨cF0 hby2,cF1 hby2,cF2 hby2⟩) ?_;clear hK K;refine Rd.sf (.bool false) ?_;refine Rd.seq_end ?_
  go_wp2_with fail
  exact Az
theorem uS (va vl:Value) (root online:Int) (xs:List (Nat×Int×Int)) (ls:List Lf) (w:World) (hx:gE w va xs) (hl:cu w vl ls) (h40:xs.length≤40) (h70:ls.length≤70):
  Calls Tryz.prog 9 #[.agg #[va,.int .i64 root,.int .i64 online,vl]] w fun e w'=>(∃fp v L m k,e= .returned (.tuple #[.pointer (some ⟨fp,0,none⟩),v,.bool true])∧k≤40∧bm w' v 40 m L∧∃l,l.length=40∧IsF w' w.heap.size fp L l m k)∧Below w.heap.size w w':=by
 obtain⟨ax,cx,rfl⟩:=hx.sl;obtain⟨al,cl,rfl⟩:=hl.sl;have HX:=Hd hx;have h1: ¬(40:Int)<(xs.length:Int):=A3
 have h2: ¬(70:Int)<(ls.length:Int):=A3
 clear hx hl;have hB:=(Below.refl w.heap.size w).alloc lr (.cells #[.slice ax xs.length cx,.int .i64 root,.int .i64 online,.slice al ls.length cl] 25);have hT:=Blk.new w 25 #[.slice ax xs.length cx,.int .i64 root,.int .i64 online,.slice al ls.length cl];obtain⟨N,hN⟩: ∃N:Nat,N=40:=⟨40,rfl⟩
 have HN:=Hd hN;clear hN;have T1:True:=trivial;go_enter Tryz.func9,Tryz.ntmps9;generalize hb1:w.heap.size=b1 at hT;have HW:=Hd hb1
 go_wp2_with (first
  | (refine ai rfl rfl ?_;clear T1;have hZ:Blk ((w.alloc (.cells #[.slice ax xs.length cx,.int .i64 root,.int .i64 online,.slice al ls.length cl] 25)).alloc (.cells #[.int .i64 0,.int .i64 0,.slice none 0 0] 29)) (w.alloc (.cells #[.slice ax xs.length cx,.int .i64 root,.int .i64 online,.slice al ls.length cl] 25)).heap.size 29 (ae 0 0 (.slice none 0 0)):=Blk.new _ 29 _;have hbz:b1<(w.alloc (.cells #[.slice ax xs.length cx,.int .i64 root,.int .i64 online,.slice al ls.length cl] 25)).heap.size:=hT.lt;replace hT:=hT.alloc (.cells #[.int .i64 0,.int .i64 0,.slice none 0 0] 29);replace hB:=hB.alloc hB.size (.cells #[.int .i64 0,.int .i64 0,.slice none 0 0] 29);generalize (w.alloc (.cells #[.slice ax xs.length cx,.int .i64 root,.int .i64 online,.slice al ls.length cl] 25)).heap.size=bz at *;generalize (w.alloc (.cells #[.slice ax xs.length cx,.int .i64 root,.int .i64 online,.slice al ls.length cl] 25)).alloc (.cells #[.int .i64 0,.int .i64 0,.slice none 0 0] 29)=w1 at *)
  | (go_at_call 22;refine(wM N HN.out w1).mono ?_;rintro e w2 ⟨⟨fp,l0,rfl,hl0,hF0⟩,hb⟩;have HF:=Hd (hF0.base hB.size);have HL0:=Hd hl0;replace hT:=hT.below hb;replace hZ:=hZ.below hb;replace hB:=hB.tr hb;clear hb hF0 hl0)
  | (go_at_call 23;refine(rd N HN.out w2).mono ?_;rintro e w3 ⟨⟨v3,rfl,a3,c3,rfl,hr3⟩,hb⟩;replace HF:=Hd (HF.below hb);replace hT:=hT.below hb;replace hZ:=hZ.below hb;replace hB:=hB.tr hb;clear hb;have hb:=(Below.refl w3.heap.size w3).alloc lr (.cells #[.int .i64 0,.int .i64 0,.slice none 0 0] 29);have hw3:=hB.size;have hzl:=hZ.lt;have h7:Blk (w3.alloc (.cells #[.int .i64 0,.int .i64 0,.slice none 0 0] 29)) w3.heap.size 29 (ae 0 0 (.slice none 0 0)):=Blk.new _ 29 _;replace HF:=Hd (HF.below hb);replace hT:=hT.below hb;replace hZ:=hZ.below hb;replace hB:=hB.tr hb;have hr4:=hr3.alloc (.cells #[.int .i64 0,.int .i64 0,.slice none 0 0] 29);clear hb hr3)
  | (refine ai rfl rfl ?_;generalize w3.alloc (.cells #[.int .i64 0,.int .i64 0,.slice none 0 0] 29)=w4 at *)
  | (refine ab rfl _ _ rfl w3.heap.size (N:Int) 0 (.slice a3 0 c3) rfl rfl h7 rfl rfl ?_;intro w5 h75 t5;have HF5:=Hd (HF.turn t5 h7 BD);have hr5:=hr4.turn t5 h7 BD;have hT5:=hT.turn t5 (by have:=hT.lt;omega);have hZ5:=hZ.turn t5 A3;have hB5:=hB.trans (t5.below hw3);have t0:=hT5.at 0;have t3:=hT5.at 3;simp only[gA,gB,gC] at t0 t3;clear h7 hr4 hT hZ hB t5 HF))
 have HS:Hid (St w fp w3.heap.size N w5 [] 0 ((0:Nat):Int) [] 0):=Hd ⟨⟨l0,HL0.out,HF5.out⟩,⟨a3,c3,h75,hr5⟩,hB5,hw3⟩;have HZ:=Hd hZ5;have hbz3:bz<w3.heap.size:=A3
 clear HF5 h75 hr5 hB5 HL0 hT5 hZ5 t0 t3;generalize w3.heap.size=b at *
 go_loopw [41] (fun i wr=>∃(kk:Nat) (L:List Gr) (m:Int),kk≤xs.length∧i= .int .i64 kk∧Hid (St w fp b N wr L m (kk:Int) L m)∧Hid (Blk wr bz 29 (ae 0 0 (.slice none 0 0)))) (fun i _=>xs.length - (intOf i).toNat)
 case atStart=>exact⟨0,[],0,A3,rfl,HS,HZ⟩
 case round=>
  clear HS HZ;obtain⟨kk,L,m,hkk,rfl,HS,HZ⟩:=hrel;by_cases hlt:kk<xs.length
  ·skip
   obtain⟨bx,off,rfl,hx0,hx1,hx2,hI1,hI2⟩:=(HS.row HX.out).at hlt;generalize xs.getD kk a0=x at *;obtain⟨kd,av,nv⟩:=x;simp only[] at hx0 hx1 hx2 hI1 hI2;have hA:=Blk.new wr 70 #[.int .u8 0,.int .i64 0,.int .i64 0];have hb0:=HS.lt
   go_wp2_with (first | (refine k6 rfl rfl ?_;replace HS:=Hd (HS.alloc (.cells #[.int .u8 0,.int .i64 0,.int .i64 0] 70));replace HZ:=Hd (HZ.alloc (.cells #[.int .u8 0,.int .i64 0,.int .i64 0] 70));generalize wr.alloc (.cells #[.int .u8 0,.int .i64 0,.int .i64 0] 70)=w6 at *) | (refine k4 rfl _ _ rfl wr.heap.size kd av nv rfl rfl hA rfl ?_;intro w7 hA7 t7;replace HS:=Hd (HS.turn t7 hA BD hb0);replace HZ:=Hd (HZ.turn t7 A3);clear hA t7 hx0 hx1 hx2;obtain⟨ad,cd,hbx,hdd⟩:=HS.ref) | (refine af rfl _ rfl b _ _ _ rfl hbx ?_) | (refine lu rfl _ rfl wr.heap.size kd av nv rfl hA7 ?_))
   obtain⟨l7,hl7,hF7⟩:=HS.F;have hk40:(kk:Int)<1000:=A3
   refine(yF fp w.heap.size (N) L l7 m (kk:Int) (kd:Int) av nv w7 _ hF7 ⟨ad,cd,rfl,hdd⟩ hk40 hI1 hI2 HS.leW hl7).mono ?_;rintro e w9 ⟨⟨v9,rfl,a9,c9,rfl,hr9⟩,⟨l9,hl9,hF9⟩,hw9⟩;rw[hl7] at hF9 hr9;rw[hl7];replace HS:=Hd (HS.act ⟨l9,hl9.trans hl7,hF9⟩ hw9 BD BD);replace HZ:=Hd (HZ.wr hw9 BD);clear hbx hdd hA7 hw9 hF7 hF9 hl9 hl7;generalize yo L (N) m (kd:Int) av nv=L2 at *;generalize xM L (N) m (kd:Int) av nv=m2 at *;obtain⟨ad,cd,hbx,_⟩:=HS.ref
   go_wp2_with (first | (refine ab rfl _ _ rfl b (N:Int) m2 (.slice a9 L2.length c9) rfl rfl hbx rfl rfl ?_;intro w12 hb12 t12;replace HS:=Hd (HS.set t12 hr9 hb12);replace HZ:=Hd (HZ.turn t12 A3);clear t12 hbx hr9 hb12))
   go_round
   case rel=>exact⟨kk+1,L2,m2,A3,BH,HS,HZ⟩
   case measure=>simp[intOf];omega
  ·obtain rfl:kk=xs.length:=A3
   obtain⟨ad,cd,hbx,hdd⟩:=HS.ref
   go_wp2_with fail
   have HS2:=Hd (HS.below ((eQ.drew wr).below _));have HZ2:=Hd HZ.drew;have q0:=cF0 hbx.drew;have q1:=cF1 hbx.drew;have q2:=cF2 hbx.drew;have hbzb:bz<wr.heap.size:=HZ.lt;refine Rd.rg (fun X=>X.cell? ⟨b,0,none⟩=some (.int .i64 (N:Int))∧X.cell? ⟨b,1,none⟩=some (.int .i64 m)∧X.cell? ⟨b,2,none⟩=some (.slice ad L.length cd)) 5 [0,1,2,4] [0,1,2,3,4] ⟨q0,q1,q2⟩ ?_;have hby:=hbx.drew;have hdy:=hdd.below ((eQ.drew wr).below _);clear hbx q0 q1 q2 HS HZ hdd;have HZ:=HZ2;clear HZ2;generalize wr.drew=w15 at *;refine Rd.sf (.pointer (some ⟨fp,0,none⟩)) ?_;refine Rd.sg (.agg #[.int .i64 (N:Int),.int .i64 m,.slice ad L.length cd]) ?_ (y:=fun X hX=>by obtain⟨x0,x1,x2⟩:=hX;go_simp);refine Rd.sf (.pointer (some ⟨fp,0,none⟩)) ?_;refine Rd.sm fun K hK=>?_
   refine cO _ _ rfl bz (N:Int) m (.slice ad L.length cd) rfl rfl HZ.out rfl rfl (fun w20 hZ20 t20=>?_);have hby2:=hby.turn t20 A3;refine hK _ _ (fun _=>⟨cF0 hby2,cF1 hby2,cF2 hby2⟩) ?_;clear hK K;refine Rd.sf (.bool true) ?_;refine Rd.seq_end ?_
   go_wp2_with fail
   refine bodyPost_ret (fd rfl _ w20 bz (N:Int) m (.slice ad L.length cd) (.bool true) (.pointer (some ⟨fp,0,none⟩)) rfl rfl rfl hZ20) rfl ?_;have e40:(N:Int)=40:=by have:=HN.out;omega
   have hS:=HS2.turnZ t20 HZ.out BD A3 (by have:=HW.out;omega);obtain⟨l9,hl9,hF9⟩:=hS.F;rw[←HW.out];exact⟨⟨fp,_,L,m,(xs.length:Int),rfl,A3,⟨ad,cd,by rw[e40],hdy.turn t20 HZ.out BD⟩,l9,hl9.trans HN.out,hF9⟩,hS.bel⟩
def iB (ls:List Lf):List Value:=ls.flatMap fun x=>[.int .i64 x.1,.int .i64 x.2]
theorem sI (x:Lf) (r:List Lf):iB (x::r)=[.int .i64 x.1,.int .i64 x.2]++iB r:=rfl
theorem wV (a b:List Lf):iB (a++b)=iB a++iB b:=by simp[iB]
theorem my: ∀ {ls:List Lf} {j:Nat},j<ls.length→(iB ls)[j*2]? =some (.int .i64 (lf ls j).1)∧(iB ls)[j*2+1]? =some (.int .i64 (lf ls j).2)
 | [],_,h=>by simp at h
 | x::r,0,_=>⟨rfl,rfl⟩
 | x::r,j+1,h=>by
  have ih:=my (ls:=r) (j:=j) BM;have e1:(j+1)*2=j*2+2:=A3
  have e2:(j+1)*2+1=j*2+1+2:=A3
  rw[e2,e1,sI];exact ih
def fD (w:World) (B:Nat) (v:Value) (ls:List Lf):Prop:=w.ownsRow B 75 2 v ls.length (iB ls)
theorem Tryz.infoP:(Tryz.prog.info? 75).map (fun i=>(i.zero,i.size,i.bytes))=some (some (.agg #[.int .i64 0,.int .i64 0]),2,16):=Ct
section
variable {w w':World} {B:Nat} {v:Value} {ls:List Lf}
theorem fD.nil (w:World) (B:Nat):fD w B (.slice none 0 0) []:=World.ownsRow_nil _ _ _ _
theorem fD.lt (h:fD w B v ls): ∀j,v.ownBlock=some j→B≤j∧j<w.heap.size:=by
 intro j e;rcases h.2 with ⟨rfl,_⟩ | ⟨g,cap,cur,rfl,hb,hg,_⟩
 ·cases e
 ·cases e;exact⟨hb,(Array.getElem?_eq_some_iff.1 hg).1⟩
theorem fD.below (h:fD w B v ls) (hb:Below w.heap.size w w'):fD w' B v ls:=by
 refine⟨h.1,?_⟩;rcases h.2 with ⟨rfl,h1⟩ | ⟨g,cap,cur,rfl,hbg,hg,h3⟩
 ·exact .inl ⟨rfl,h1⟩
 ·exact .inr ⟨g,cap,cur,rfl,hbg,by rw[hb.block g (Array.getElem?_eq_some_iff.1 hg).1];exact hg,h3⟩
theorem fD.turn {d t:Nat} {cs:Array Value} (h:fD w B v ls) (ht:aX d w w') (hd:Blk w d t cs) (hne:t≠75):fD w' B v ls:=by
 refine⟨h.1,?_⟩;rcases h.2 with ⟨rfl,h1⟩ | ⟨g,cap,cur,rfl,hbg,hg,h3⟩
 ·exact .inl ⟨rfl,h1⟩
 ·refine .inr ⟨g,cap,cur,rfl,hbg,?_,h3⟩;rw[ht.block g ?_]
  ·exact hg
  ·rintro rfl;unfold Blk at hd;rw[hg] at hd;injection hd with h5;injection h5 with _ h6 _;exact hne h6.symm
theorem fD.rowL (h:fD w B v ls) (hi: ∀j,I64 (lf ls j).1∧I64 (lf ls j).2):cu w v ls:=by
 rcases h.2 with ⟨rfl,h1⟩ | ⟨g,cap,cur,rfl,hbg,hg,h3,h4,h5,htake⟩
 ·refine⟨none,0,by rw[h1],fun hne=>absurd (List.eq_nil_of_length_eq_zero h1) hne,hi⟩
 ·refine⟨_,cap,rfl,fun _=>⟨g,0,rfl,(Array.getElem?_eq_some_iff.1 hg).1,fun j hj=>?_⟩,hi⟩;have hc: ∀i u,(iB ls)[i]? =some u→w.cell? ⟨g,i,none⟩=some u:=by
   intro i u hu;rw[cell_of_row w g i _ 75 (0,0) hg];rw[←htake,List.getElem?_take] at hu;split at hu
   ·simpa using hu
   ·cases hu
  rw[Nat.zero_add];exact⟨hc _ _ (my hj).1,hc _ _ (my hj).2⟩
end
section
variable {ops:Array Oper} {rest:List Oper} {o:Oper} {a:Act} {w:World} {Q:Exit→Act→World→Prop}
theorem mQ (hg:o.guard=none) (s x:Operand) (ho:o.op= .call { callee:=.builtin .append,args:= #[s,x],argTypes:= #[37,37] }) (B:Nat) (v:Value) (ls:List Lf) (e:Nat) (y:Lf) (hs:a.eval s=v) (hx:a.eval x= .slice (some ⟨e,0,none⟩) 1 1)
  (hA:w.heap[e]? =some (.cells #[.int .i64 y.1,.int .i64 y.2] 75 (0,0))) (hB:B≤w.heap.size) (h1:fD w B v ls) (hl:ls.length+1≤1000) (h: ∀v' w',fD w' B v' (ls++[y])→w.grownBy w' v.ownBlock→wpList Tryz.prog ops Q rest (a.put o.dst v') w'):wpList Tryz.prog ops Q (o::rest) a w:=by
 obtain⟨i0,hi,hz0,hz1,hz2⟩:=info_parts Tryz.infoP;refine wpList_plain hg fun K hK=>?_
 have hnews: ∀j u,(iB [y])[j]? =some u→w.cell? ((⟨e,0,none⟩:Addr).add j)=some u:=by
  intro j u hu;rw[Addr.add_lit,cell_of_row _ e _ _ 75 (0,0) hA,Nat.zero_add];have e9:iB [y]=[.int .i64 y.1,.int .i64 y.2]:=rfl;rw[e9] at hu;simpa using hu
 obtain⟨v',w',hr,ho',hgr,_⟩:=run_append_own (P:=Tryz.prog) w B 37 o.type 75 i0 _ 2 16 Tryz.underlying37 hi hz0 hz1 hz2 rfl BD v ls.length _ h1 ⟨e,0,none⟩ 1 1 (iB [y]) rfl hnews (by intro u hu;simp[iB] at hu;rcases hu with rfl | rfl<;>rfl) Cf A3 hB;have h2:fD w' B v' (ls++[y]):=by
  unfold fD;rw[List.length_append,wV];exact ho'
 unfold Oper.wp execOp;simp only[ho,resolve,invoke,builtin,Sem.run_bind,Sem.run_pure,Result.andThen_ok,List.map_toArray,List.map_cons,List.map_nil,hs,hx,hr];exact hK _ _ (h v' w' h2 hgr)
theorem oU (w:World):(Instr.alloc 64 true (.tuple #[])).run Tryz.prog w= .ok (.pointer (some ⟨w.heap.size,0,none⟩)) (w.alloc (.cells #[.int .i64 0,.int .i64 0] 64)):=Ct
theorem Tryz.info64:(Tryz.prog.info? 64).map (·.size)=some 2:=Ct
theorem kH (hg:o.guard=none) (ho:o.op= .alloc 64) (h:wpList Tryz.prog ops Q rest (a.put o.dst (.pointer (some ⟨w.heap.size,0,none⟩))) (w.alloc (.cells #[.int .i64 0,.int .i64 0] 64))):wpList Tryz.prog ops Q (o::rest) a w:=
 wpList_plain hg fun _ hK=>by
  unfold Oper.wp execOp;rw[ho];simp only[oU,Sem.run_bind,Sem.run_pure,Result.andThen_ok];exact hK _ _ h
theorem kf (hg:o.guard=none) (x y:Operand) (ho:o.op= .store 64 x y) (b:Nat) (p q:Int) {cs:Array Value} (hx:a.eval x= .pointer (some ⟨b,0,none⟩)) (hy:a.eval y= .agg (f9 p q)) (hw:Blk w b 64 cs) (hc:cs.size=2)
  (h: ∀w',Blk w' b 64 (f9 p q)→aX b w w'→wpList Tryz.prog ops Q rest (a.put o.dst undef) w'):wpList Tryz.prog ops Q (o::rest) a w:=
 wpList_plain hg fun _ hK=>wp_store_row 64 x y ho b _ hx hy 64 _ hw Tryz.info64 hc (by simp[Value.oneCell',f9]) (hK _ _ (h _ (setRow_heap w b _ _ 64 _ hw) (aX.setRow w b _)))
end
theorem je (v:Value) (ls:List Lf) (w:World) (hl:cu w v ls) (hn:ls.length≤900):
  Calls Tryz.prog 12 #[v] w fun e w'=>(∃u,e= .returned u∧cu w' u ls)∧Below w.heap.size w w':=by
 obtain⟨al,cl,rfl⟩:=hl.sl;have HL:=Hd hl;clear hl;go_enter Tryz.func12,Tryz.ntmps12
 go_wp2_with fail
 go_loopw [8,3] (fun i v wr=>∃j:Nat,j≤ls.length∧i= .int .i64 (j:Int)∧Hid (fD wr w.heap.size v (ls.take j))∧Hid (Below w.heap.size w wr)) (fun i _ _=>ls.length - (intOf i).toNat)
 case atStart=>exact⟨0,Nat.zero_le _,rfl,Hd (fD.nil _ _),Hd (Below.refl _ _)⟩
 case round=>
  obtain⟨j,hj,rfl,HR,HB⟩:=hrel;by_cases hlt:j<ls.length
  ·obtain⟨bl,off,rfl,hx0,hx1,_,_⟩:=(HL.below HB.out).at hlt;have HT:Hid (ls.take (j+1)=ls.take j++[lf ls j]):=Hd (by
    rw[List.take_add_one,List.getElem?_eq_getElem hlt];simp[lf,List.getD_eq_getElem?_getD,List.getElem?_eq_getElem hlt])
   have htl:(ls.take j).length≤900:=Cq
   generalize lf ls j=x at *;generalize ls.take j=ts at *;obtain⟨xg,xw⟩:=x;dsimp only at hx0 hx1;have hA:=Blk.new wr 64 #[.int .i64 0,.int .i64 0];have hw0:=HB.size;replace HB:=Hd (Below.allocS HB.out (.cells #[.int .i64 0,.int .i64 0] 64));replace HR:=Hd (HR.below ((Below.refl _ _).alloc lr (.cells #[.int .i64 0,.int .i64 0] 64)))
   go_wp2_with (first
    | (refine kH rfl rfl ?_;generalize wr.alloc (.cells #[.int .i64 0,.int .i64 0] 64)=w6 at *)
    | (refine kf rfl _ _ rfl wr.heap.size xg xw rfl rfl hA rfl ?_;intro w7 hA7 t7;replace HB:=Hd (HB.trans (t7.below hw0));replace HR:=Hd (HR.turn t7 hA BD);have p0:w7.cell? ⟨wr.heap.size,0,none⟩=some (.int .i64 xg):=(by rw[hA7.at];rfl);have p1:w7.cell? ⟨wr.heap.size,1,none⟩=some (.int .i64 xw):=(by rw[hA7.at];rfl);clear hA hx0 hx1 t7)
    | (at_builtin;refine mQ rfl _ _ rfl w.heap.size u3 ts w7.heap.size (xg,xw) rfl rfl (heap_alloc_new w7 _) (Below.allocS HB.out _).size (HR.below ((Below.refl _ _).alloc lr _)) A3 ?_;intro v9 w9 h3 h4;have HB9:=Hd ((Below.allocS HB.out (.cells #[.int .i64 xg,.int .i64 xw] 75)).trans ((Below.refl w.heap.size _).grown h4 (Below.allocS HB.out _).size (fun q e=>(HR.lt q e).1)));have HR9:=Hd h3;clear h3 h4))
   go_round
   case rel=>exact⟨j+1,A3,BH,by rw[HT.out];exact HR9,HB9⟩
   case measure=>simp[intOf];omega
  ·have ej:j=ls.length:=A3
   subst ej;rw[List.take_length] at HR
   go_wp2_with fail
   go_ret;exact⟨⟨_,rfl,HR.rowL fun j=>by obtain⟨_,_,_,_,h5⟩:=HL.out;exact h5 j⟩,HB.out⟩
end Go.Proofs.YtohifgjeebhijaaGreatDoor
namespace Go.Proofs.YtohifgjeebhijaaGreatDoor
set_option maxRecDepth 100000
set_option maxHeartbeats 4000000
open Go.RowKit Go.Maps Go.Rq
abbrev aL:List Gr:=[⟨1,-1,1,0,0⟩]
abbrev aS:List Lf:=[(1,1),(1,1),(1,8)]
theorem xu:lW aL aS 1 2=[rat 1 2,rat 1 2,1]:=B2
theorem zi:bQ aL aS 1 2=0:=B2
theorem Cn {p:Prop} (h:p:=by unfold I64;decide):p:=h
theorem yC (w:World):cu (w.alloc (.cells #[.int .i64 1,.int .i64 1,.int .i64 1,.int .i64 1,.int .i64 1,.int .i64 8] 75)) (.slice (some ⟨w.heap.size,0,none⟩) 3 3) aS:=by
 have h:=heap_alloc_new w (.cells #[.int .i64 1,.int .i64 1,.int .i64 1,.int .i64 1,.int .i64 1,.int .i64 8] 75);refine⟨_,3,rfl,fun _=>⟨w.heap.size,0,rfl,(Array.getElem?_eq_some_iff.1 h).1,fun j hj=>?_⟩,fun j=>?_⟩
 ·match j,hj with
  | 0,_=>exact⟨(cell_of_row _ _ _ _ 75 (0,0) h).trans rfl,(cell_of_row _ _ _ _ 75 (0,0) h).trans rfl⟩
  | 1,_=>exact⟨(cell_of_row _ _ _ _ 75 (0,0) h).trans rfl,(cell_of_row _ _ _ _ 75 (0,0) h).trans rfl⟩
  | 2,_=>exact⟨(cell_of_row _ _ _ _ 75 (0,0) h).trans rfl,(cell_of_row _ _ _ _ 75 (0,0) h).trans rfl⟩
  | j+3,hj=>exact absurd hj (by show ¬j+3<3;omega)
 ·match j with
  | 0=>exact⟨Cn,Cn⟩
  | 1=>exact⟨Cn,Cn⟩
  | 2=>exact⟨Cn,Cn⟩
  | j+3=>exact⟨by unfold I64;simp[lf],by unfold I64;simp[lf]⟩
theorem vH (w:World):Calls Tryz.prog 10 #[] w fun e w'=>e= .returned (.bool true)∧Below w.heap.size w w':=by
 have H0:=Hd (oH 3 w A3 A3);have E1:Hid (aV [] 3=0∧dA [] 3 0=aL∧bt 0 0=1):=Hd ⟨Ct,Ct,rfl⟩;go_enter Tryz.func10,Tryz.ntmps10
 go_wp2_with (first
  | (go_at_call 22;refine H0.mono ?_;rintro e w1 ⟨⟨fp,l,rfl,hl,hF⟩,hb⟩;have HL:=Hd hl;clear hl)
  | (go_at_call 25;refine(om fp _ _ l _ _ _ hF A3 hb.size).mono ?_;rw[HL.out,E1.1,E1.2.1,E1.2.2];rintro e w2 ⟨rfl,⟨l2,hl2,hF2⟩,hW⟩;have hb2:=hb.trans (hW.below hb.size);have hr:=yC w2;have hb3:=Below.allocS hb2 (.cells #[.int .i64 1,.int .i64 1,.int .i64 1,.int .i64 1,.int .i64 1,.int .i64 8] 75);have hF3:=hF2.below ((Below.refl _ _).alloc lr (.cells #[.int .i64 1,.int .i64 1,.int .i64 1,.int .i64 1,.int .i64 1,.int .i64 8] 75));have HRT:=Hd (mf fp _ aL l2 _ _ _ _ aS 1 2 _ hF3 hr Cn BD);have HB3:=Hd hb3;clear hb hF hF2 hF3 hW hb2 hr hb3))
 refine HRT.mono ?_;rw[zi];rintro e w3 ⟨⟨v,rfl,hv,_⟩,hb⟩;have hv:=hv rfl;rw[xu] at hv;have HB:=Hd (HB3.tr hb);obtain⟨B,cap,rfl,hBl,hc⟩:=hv.open B4;obtain⟨p0,q0,c0,c1,r0⟩:=hc 0 B4;obtain⟨p2,q2,c4,c5,r2⟩:=hc 2 B4;clear hc;have hl:([rat 1 2,rat 1 2,1]:List Rat).length=3:=rfl;rw[hl] at hv ⊢;simp only[List.getD_cons_zero,List.getD_cons_succ,Nat.zero_mul,Nat.zero_add,Nat.reduceMul,Nat.reduceAdd] at c0 c1 c4 c5 r0 r2;have H3:=Hd (yt p0 q0 (rat 1 2) w3 r0);rw[uA] at H3;have HR2:=Hd r2;clear hv hb r0 r2
 go_wp2_with fail
 refine H3.mono ?_;rintro e w4 ⟨rfl,hb⟩;replace c4:=(hb.cell (p:=⟨B,4,none⟩) hBl).trans c4;replace c5:=(hb.cell (p:=⟨B,5,none⟩) hBl).trans c5;have HB4:=Hd (HB.tr hb);have H4:=Hd (yt p2 q2 1 w4 (HR2.below hb));rw[xx] at H4;clear hb c0 c1
 go_wp2_with fail
 refine H4.mono ?_;rintro e w5 ⟨rfl,hb⟩;have HB5:=Hd (HB4.tr hb);clear hb c4 c5
 go_wp2_with fail
 go_ret;exact⟨rfl,HB5.out⟩
def kn (p q:Sl):Array Value:= #[.slice p.a p.n p.c,.slice q.a q.n q.c]
theorem cQ0 {w:World} {b:Nat} {p q:Sl} (h:Blk w b 49 (kn p q)):w.cell? ⟨b,0,none⟩=some (.slice p.a p.n p.c):=Bi
theorem cQ1 {w:World} {b:Nat} {p q:Sl} (h:Blk w b 49 (kn p q)):w.cell? ⟨b,1,none⟩=some (.slice q.a q.n q.c):=Bi
theorem Tryz.info49s:(Tryz.prog.info? 49).map (·.size)=some 2:=Ct
theorem nR (w:World):(Instr.alloc 49 true (.tuple #[])).run Tryz.prog w= .ok (.pointer (some ⟨w.heap.size,0,none⟩)) (w.alloc (.cells #[.slice none 0 0,.slice none 0 0] 49)):=Ct
section
variable {ops:Array Oper} {rest:List Oper} {o:Oper} {a:Act} {w:World} {Q:Exit→Act→World→Prop} {K:Act→World→Prop}
theorem kN (hg:o.guard=none) (ho:o.op= .alloc 49) (h:wpList Tryz.prog ops Q rest (a.put o.dst (.pointer (some ⟨w.heap.size,0,none⟩))) (w.alloc (.cells #[.slice none 0 0,.slice none 0 0] 49))):wpList Tryz.prog ops Q (o::rest) a w:=
 wpList_plain hg fun _ hK=>by
  unfold Oper.wp execOp;rw[ho];simp only[nR,Sem.run_bind,Sem.run_pure,Result.andThen_ok];exact hK _ _ h
theorem ky (hg:o.guard=none) (x y:Operand) (ho:o.op= .store 49 x y) (b:Nat) (p q:Sl) {cs:Array Value} (hx:a.eval x= .pointer (some ⟨b,0,none⟩)) (hy:a.eval y= .agg #[.slice p.a p.n p.c,.slice q.a q.n q.c]) (hw:Blk w b 49 cs) (hc:cs.size=2)
  (h: ∀w',Blk w' b 49 (kn p q)→aX b w w'→wpList Tryz.prog ops Q rest (a.put o.dst undef) w'):wpList Tryz.prog ops Q (o::rest) a w:=
 wpList_plain hg fun _ hK=>wp_store_row 49 x y ho b (kn p q) hx hy 49 _ hw Tryz.info49s hc (by simp[kn];exact⟨rfl,rfl⟩) (hK _ _ (h _ (setRow_heap w b _ _ 49 _ hw) (aX.setRow w b _)))
end
theorem iJ.at {w:World} {a:Option Addr} {n c:Nat} {rs:List Rat} (h:iJ w (.slice a n c) rs) {j:Nat} (hj:j<rs.length):
  ∃(B:Nat) (p q:Sl),a=some ⟨B,0,none⟩∧w.cell? ⟨B,j*2,none⟩=some (.slice p.a p.n p.c)∧w.cell? ⟨B,j*2+1,none⟩=some (.slice q.a q.n q.c)∧RQ w p q (rs.getD j 0):=by
 obtain⟨ad,cap,e,h2⟩:=h;injection e with e1 _ _;obtain⟨B,rfl,_,hc⟩:=h2 Bz;obtain⟨p,q,c0,c1,hq⟩:=hc j hj;exact⟨B,p,q,e1,c0,c1,hq⟩
theorem iJ.below2 {w w':World} {v:Value} {rs:List Rat} (h:iJ w v rs) (hb:Below w.heap.size w w'):iJ w' v rs:=dh.below h (fun _ _ _ h=>h.below hb) hb
theorem dh.below2 {w w':World} {v:Value} {rs:List Rat} (h:dh RQ w v rs) (hb:Below w.heap.size w w'):dh RQ w' v rs:=h.below (fun _ _ _ h=>h.below hb) hb
theorem lS (L:List Gr) (ls:List Lf) (root online:Int):(lW L ls root online).length=ls.length:=by simp[lW]
theorem pE {L:List Gr} {ls:List Lf} {root online:Int} {j:Nat} (h:j<ls.length):(lW L ls root online).getD j 0=cW L ls root (shX ls online) j:=by simp[lW,List.getD_eq_getElem?_getD,h]
theorem rM {L:List Gr} {m k:Int} {ls:List Lf} {root online:Int} (ok:Ok L m k) (h:bQ L ls root online=0):eN L m k ls root∧1≤online∧online≤64∧jS L ls root=true:=by
 unfold bQ at h;split at h
 ·rename_i h1;obtain⟨F,h2,h3⟩:=mz ok h1;refine⟨F,h2,h3,?_⟩;unfold bM at h;split at h
  ·rename_i h4;exact h4
  ·cases h
 ·rename_i h1;exact absurd h h1
structure Kp (W w:World) (B fp b1 tD:Nat) (va:Value) (root online:Int) (al:Option Addr) (cl:Nat) (aD:Option Addr) (cD:Nat) (L:List Gr) (l:List Int) (m k:Int) (ls:List Lf):Prop where
 F:IsF w B fp L l m k
 G:aA w (.slice aD L.length cD) L
 T:Blk w b1 25 #[va,.int .i64 root,.int .i64 online,.slice al ls.length cl]
 R:cu w (.slice al ls.length cl) ls
 D:Blk w tD 29 (ae 40 m (.slice aD L.length cD))
 bel:Below W.heap.size W w
section
variable {W w w':World} {B fp b1 tD:Nat} {va:Value} {root online:Int} {al:Option Addr} {cl:Nat} {aD:Option Addr} {cD:Nat} {L:List Gr} {l:List Int} {m k:Int} {ls:List Lf}
theorem Kp.below (h:Kp W w B fp b1 tD va root online al cl aD cD L l m k ls) (hb:Below w.heap.size w w'):Kp W w' B fp b1 tD va root online al cl aD cD L l m k ls:=
 ⟨h.F.below hb,h.G.below hb,h.T.below hb,h.R.below hb,h.D.below hb,h.bel.trans (hb.mono h.bel.size)⟩
theorem Kp.drew (h:Kp W w B fp b1 tD va root online al cl aD cD L l m k ls):Kp W w.drew B fp b1 tD va root online al cl aD cD L l m k ls:=h.below ((eQ.drew w).below _)
theorem Kp.c1 (h:Kp W w B fp b1 tD va root online al cl aD cD L l m k ls):w.cell? ⟨b1,1,none⟩=some (.int .i64 root):=by rw[h.T.at];rfl
theorem Kp.c2 (h:Kp W w B fp b1 tD va root online al cl aD cD L l m k ls):w.cell? ⟨b1,2,none⟩=some (.int .i64 online):=by rw[h.T.at];rfl
theorem Kp.c3 (h:Kp W w B fp b1 tD va root online al cl aD cD L l m k ls):w.cell? ⟨b1,3,none⟩=some (.slice al ls.length cl):=by rw[h.T.at];rfl
end
theorem s8 (ls:List Lf) (online:Int):0≤shX ls online∧shX ls online≤((ls.length:Nat):Rat):=⟨Rat.natCast_nonneg,Rat.natCast_le_natCast.2 (Nat.min_le_right _ _)⟩
section
variable {L:List Gr} {m k:Int} {ls:List Lf} {root:Int} (F:eN L m k ls root)
include F
end
theorem Mv.look2 {w:World} {b n:Nat} {G:Int→Option Value} (h:Mv w b n G) {t e:TypeId} (ht:Tryz.prog.underlying t=some (.map 3 e)) {z:Value} (hz:(zeroValue e).run Tryz.prog w= .ok z w) {x:Int} (hx:I64 x):(Instr.lookup t (.map (some b)) (.int .i64 x) true).run Tryz.prog w= .ok (.tuple #[(G x).getD z,.bool (G x).isSome]) w:=by
 obtain⟨D,hown,_,hat⟩:=h;obtain⟨v,ps,hrun,hv⟩:=hown.look_ok mO ht hz (show idE z=some (.held z,[]) from rfl) (keyOf_int_mk Tryz.underlying3 (sF hx));rw[hat] at hv;rw[hrun];unfold idE at hv;simp only[Option.some.injEq,Prod.mk.injEq] at hv;have hv:=hv.1;cases hG:G x with
 | none=>
  have h1:Maps.has D (.int .i64 x)=false:=has_false_of_atKey fun z=>by rw[hat,hG]
  rw[hG] at hv;simp only[DataW.held.injEq] at hv;rw[hv,h1];rfl
 | some c=>
  have h1:Maps.has D (.int .i64 x)=true:=has_true_of_atKey (y:=.held c) fun z=>by rw[hat,hG]
  rw[hG] at hv;simp only[DataW.held.injEq] at hv;rw[hv,h1];rfl
theorem zm (w:World):(zeroValue 49).run Tryz.prog w= .ok (.agg #[.slice none 0 0,.slice none 0 0]) w:=Ct
def bs (L:List Gr) (ls:List Lf) (g:Int) (j:Nat):List Nat:=(List.range j).filter fun i=>ag L (lf ls i).1 g
theorem yU {L:List Gr} {ls:List Lf} {g:Int} {j:Nat} (h:ag L (lf ls j).1 g=true):bs L ls g (j+1)=bs L ls g j++[j]:=by
 unfold bs;rw[List.range_succ,List.filter_append];simp only[List.filter_cons,List.filter_nil];rw[h];rfl
theorem zy {L:List Gr} {ls:List Lf} {g:Int} {j:Nat} (h:ag L (lf ls j).1 g=false):bs L ls g (j+1)=bs L ls g j:=by
 unfold bs;rw[List.range_succ,List.filter_append];simp only[List.filter_cons,List.filter_nil];rw[h];simp
theorem zl (L:List Gr) (ls:List Lf) (g:Int) (j:Nat):(bs L ls g j).length≤j:=by
 have h:=List.length_filter_le (fun i=>ag L (lf ls i).1 g) (List.range j);rw[List.length_range] at h;exact h
theorem xi (L:List Gr) (ls:List Lf) (g:Int):(bs L ls g ls.length).length=many L ls g:=vy L ls g
theorem BE {p:Prop} (h:p:=by have hx:=HC.out X hX;have hc0:=hx.2.2.2;clear hx hX;go_simp):p:=h
theorem A6 {p:Prop} (h:p:=by have hx:=HC.out X hX;have hc0:=hx.1;have hc1:=hx.2.1;have hc2:=hx.2.2.1;clear hx hX;go_simp):p:=h
theorem oo (r m:Int) (a:Option Addr) (c:Nat) (L:List Gr) (al:Option Addr) (cl:Nat) (ls:List Lf) (g:Int) (m0 k0:Int) (w:World) (h:aA w (.slice a L.length c) L) (hl:cu w (.slice al ls.length cl) ls) (ok:Ok L m0 k0) (hh: ∀j,j<ls.length→has L (lf ls j).1=true) (hn:ls.length≤1000):
  Calls Tryz.prog 17 #[.agg (ae r m (.slice a L.length c)),.slice al ls.length cl,.int .i64 g] w fun e w'=>e= .returned (.int .i64 ((many L ls g:Nat):Int))∧Below w.heap.size w w':=by
 have hb1:Below w.heap.size w (w.alloc (.cells (ae r m (.slice a L.length c)) 29)):=(Below.refl _ w).alloc lr _;have HB:Hid (∀j X,j<ls.length→Below w.heap.size w X→Calls Tryz.prog 16 #[.agg #[.int .i64 r,.int .i64 m,.slice a L.length c],.int .i64 (lf ls j).1,.int .i64 g] X fun e w'=>e= .returned (.bool (ag L (lf ls j).1 g))∧Below X.heap.size X w'):=Hd fun j X hj hX=>d7 r m a c L (lf ls j).1 g m0 k0 X (h.below hX) ok (hh j hj)
 have HT:=Hd (Blk.new w 29 (ae r m (.slice a L.length c)));have HL:=Hd hl;clear h hl ok hh;unfold ae at *;go_enter Tryz.func17,Tryz.ntmps17
 go_wp2_with fail
 generalize w.alloc (.cells #[.int .i64 r,.int .i64 m,.slice a L.length c] 29)=w1 at *;have hs1:=hb1.size;have hb1':=Hd hb1;clear hb1
 go_loopw [7,11] (fun v i wr=>∃j:Nat,j≤ls.length∧i= .int .i64 (j:Int)∧v= .int .i64 (((bs L ls g j).length:Nat):Int)∧Hid (Below w1.heap.size w1 wr)) (fun _ i _=>ls.length - (intOf i).toNat)
 case atStart=>exact⟨0,Nat.zero_le _,rfl,rfl,Hd (Below.refl _ _)⟩
 case round=>
  obtain⟨j,hj,rfl,rfl,HW⟩:=hrel;by_cases hlt:j<ls.length
  ·obtain⟨bl,off,rfl,hx0,hx1,_,_⟩:=(HL.below (hb1'.trans (HW.mono hs1))).at hlt;obtain⟨lg,lw,hla⟩: ∃lg lw,lf ls j=(lg,lw):=⟨_,_,rfl⟩
   have hb0:=HB.out j;have hby0:= @yU L ls g j;have hbn0:= @zy L ls g j;rw[hla] at hx0 hb0 hby0 hbn0;dsimp only at hx0 hb0 hby0 hbn0;have hlb:=zl L ls g j;replace HB:=Hd hb0;have HBY:=Hd hby0;have HBN:=Hd hbn0;have hl9:=World.block_lt_of_cell? _ _ hx0;have HC:Hid (∀X,Below wr.heap.size wr X→X.cell? ⟨w.heap.size,0,none⟩=some (.int .i64 r)∧X.cell? ⟨w.heap.size,1,none⟩=some (.int .i64 m)∧X.cell? ⟨w.heap.size,2,none⟩=some (.slice a L.length c)∧X.cell? ⟨bl,off+j*2,none⟩=some (.int .i64 lg)):=Hd fun X hX=>by
    have h1:=(HT.below HW.out).below hX;exact⟨cF0 h1,cF1 h1,cF2 h1,(hX.cell (p:=⟨bl,off+j*2,none⟩) hl9).trans hx0⟩
   clear hla hb0 hby0 hbn0 hx0 hx1 hl9;have hX:=Below.drewS (Below.refl wr.heap.size wr);replace hb1':=Hd (hb1'.trans (HW.mono hs1))
   go_wp2_with fail
   refine Rd.rg (fun X=>Below wr.heap.size wr X) 8 [0,1,2,3,4,5,6] [0,1,2,3,4,5,6,7] hX ?_;generalize wr.drew=w5 at *;refine Rd.sg (.agg #[.int .i64 r,.int .i64 m,.slice a L.length c]) ?_ (y:=fun X hX=>A6);refine Rd.sf (.slice (some ⟨bl,off,none⟩) ls.length cl) ?_;refine Rd.sf (.int .i64 (j:Int)) ?_;refine Rd.sf (.pointer (some ⟨bl,off+j*2,none⟩)) ?_;refine Rd.sf (.pointer (some ⟨bl,off+j*2,none⟩)) ?_;refine Rd.sg (.int .i64 lg) ?_ (y:=fun X hX=>BE);refine Rd.sf (.int .i64 g) ?_;refine Rd.sm fun K hK=>?_
   go_simp;refine(HB.out w5 hlt (hb1'.tr hX)).mono ?_;rintro e w6 ⟨rfl,hb⟩;replace hX:=hX.tr hb;clear hb;refine hK _ _ (fun _=>hX) ?_;refine Rd.seq_end ?_;replace HW:=Hd (HW.tr hX);cases hbe:ag L lg g with
   | true=>
    replace HBY:=Hd (HBY.out hbe)
    go_wp2_with fail
    exact⟨⟨j+1,A3,BH,by rw[HBY.out,List.length_append,List.length_singleton];rfl,HW⟩,Cd⟩
   | false=>
    replace HBN:=Hd (HBN.out hbe)
    go_wp2_with fail
    exact⟨⟨j+1,A3,BH,by rw[HBN.out],HW⟩,Cd⟩
  ·obtain rfl:j=ls.length:=A3
   go_wp2_with fail
   go_ret;rw[xi];exact⟨rfl,hb1'.trans (HW.mono hs1)⟩
abbrev Ch:=Int×Int×Int×Int
def chG (L:List Gr) (ls:List Lf) (y:Int):Ch:=((gr L y).wt,((many L ls y:Nat):Int),y,0)
def chL (ls:List Lf) (i:Nat):Ch:=((lf ls i).2,1,0,(i:Int))
def chs (L:List Gr) (ls:List Lf) (g:Int):List Ch:=(kg L ls g).map (chG L ls)++(kl ls g).map (chL ls)
def gF (cs:List Ch):List Value:=cs.flatMap fun x=>[.int .i64 x.1,.int .i64 x.2.1,.int .i64 x.2.2.1,.int .i64 x.2.2.2]
abbrev ch (cs:List Ch) (j:Nat):Ch:=cs.getD j (0,0,0,0)
theorem sz (x:Ch) (r:List Ch):gF (x::r)=[.int .i64 x.1,.int .i64 x.2.1,.int .i64 x.2.2.1,.int .i64 x.2.2.2]++gF r:=rfl
theorem vz (a b:List Ch):gF (a++b)=gF a++gF b:=by simp[gF]
theorem ip: ∀ {cs:List Ch} {j:Nat},j<cs.length→(gF cs)[j*4]? =some (.int .i64 (ch cs j).1)∧(gF cs)[j*4+1]? =some (.int .i64 (ch cs j).2.1)∧(gF cs)[j*4+2]? =some (.int .i64 (ch cs j).2.2.1)∧(gF cs)[j*4+3]? =some (.int .i64 (ch cs j).2.2.2)
 | [],_,h=>by simp at h
 | x::r,0,_=>⟨rfl,rfl,rfl,rfl⟩
 | x::r,j+1,h=>by
  have ih:=ip (cs:=r) (j:=j) BM;have e1:(j+1)*4=j*4+4:=A3
  have e2:(j+1)*4+1=j*4+1+4:=A3
  have e3:(j+1)*4+2=j*4+2+4:=A3
  have e4:(j+1)*4+3=j*4+3+4:=A3
  rw[e2,e3,e4,e1,sz];exact ih
def db (w:World) (B:Nat) (v:Value) (cs:List Ch):Prop:=w.ownsRow B 89 4 v cs.length (gF cs)
theorem Tryz.infoC:(Tryz.prog.info? 89).map (fun i=>(i.zero,i.size,i.bytes))=some (some (.agg #[.int .i64 0,.int .i64 0,.int .i64 0,.int .i64 0]),4,32):=Ct
section
variable {w w':World} {B:Nat} {v:Value} {cs:List Ch}
theorem db.nil (w:World) (B:Nat):db w B (.slice none 0 0) []:=World.ownsRow_nil _ _ _ _
theorem db.lt (h:db w B v cs): ∀j,v.ownBlock=some j→B≤j∧j<w.heap.size:=by
 intro j e;rcases h.2 with ⟨rfl,_⟩ | ⟨g,cap,cur,rfl,hb,hg,_⟩
 ·cases e
 ·cases e;exact⟨hb,(Array.getElem?_eq_some_iff.1 hg).1⟩
theorem db.below (h:db w B v cs) (hb:Below w.heap.size w w'):db w' B v cs:=by
 refine⟨h.1,?_⟩;rcases h.2 with ⟨rfl,h1⟩ | ⟨g,cap,cur,rfl,hbg,hg,h3⟩
 ·exact .inl ⟨rfl,h1⟩
 ·exact .inr ⟨g,cap,cur,rfl,hbg,by rw[hb.block g (Array.getElem?_eq_some_iff.1 hg).1];exact hg,h3⟩
theorem db.mono {B':Nat} (h:db w B v cs) (hB:B'≤B):db w B' v cs:=by
 refine⟨h.1,?_⟩;rcases h.2 with ⟨rfl,h1⟩ | ⟨g,cap,cur,rfl,hbg,hg,h3⟩
 ·exact .inl ⟨rfl,h1⟩
 ·exact .inr ⟨g,cap,cur,rfl,A3,hg,h3⟩
theorem db.sl (h:db w B v cs): ∃(a:Option Addr) (c:Nat),v= .slice a cs.length c:=by
 rcases h.2 with ⟨rfl,h1⟩ | ⟨g,cap,cur,rfl,hbg,hg,h3⟩
 ·exact⟨none,0,by rw[h1]⟩
 ·exact⟨_,_,rfl⟩
theorem db.at {a:Option Addr} {c:Nat} (h:db w B (.slice a cs.length c) cs) {j:Nat} (hj:j<cs.length):
  ∃g,a=some ⟨g,0,none⟩∧B≤g∧g<w.heap.size∧w.cell? ⟨g,j*4,none⟩=some (.int .i64 (ch cs j).1)∧w.cell? ⟨g,j*4+1,none⟩=some (.int .i64 (ch cs j).2.1)∧w.cell? ⟨g,j*4+2,none⟩=some (.int .i64 (ch cs j).2.2.1)∧w.cell? ⟨g,j*4+3,none⟩=some (.int .i64 (ch cs j).2.2.2):=by
 rcases h.2 with ⟨_,h1⟩ | ⟨g,cap,cur,e,hbg,hg,h3,h4,h5,htake⟩
 ·omega
 ·cases e;refine⟨g,rfl,hbg,(Array.getElem?_eq_some_iff.1 hg).1,?_⟩;have hc: ∀i u,(gF cs)[i]? =some u→w.cell? ⟨g,i,none⟩=some u:=by
   intro i u hu;rw[cell_of_row w g i _ 89 (0,0) hg];rw[←htake,List.getElem?_take] at hu;split at hu
   ·simpa using hu
   ·cases hu
  exact⟨hc _ _ (ip hj).1,hc _ _ (ip hj).2.1,hc _ _ (ip hj).2.2.1,hc _ _ (ip hj).2.2.2⟩
end
section
variable {ops:Array Oper} {rest:List Oper} {o:Oper} {a:Act} {w:World} {Q:Exit→Act→World→Prop} {K:Act→World→Prop}
theorem ot (s x:Operand) (ho:o.op= .call { callee:=.builtin .append,args:= #[s,x],argTypes:= #[86,86] }) (B:Nat) (v:Value) (cs:List Ch) (e:Nat) (y:Ch) (hs:a.eval s=v) (hx:a.eval x= .slice (some ⟨e,0,none⟩) 1 1)
  (hA:w.heap[e]? =some (.cells #[.int .i64 y.1,.int .i64 y.2.1,.int .i64 y.2.2.1,.int .i64 y.2.2.2] 89 (0,0))) (hB:B≤w.heap.size) (h1:db w B v cs) (hl:cs.length+1≤1000) (h: ∀v' w',db w' B v' (cs++[y])→w.grownBy w' v.ownBlock→K (a.put o.dst v') w'):o.wp Tryz.prog a w K Q:=by
 obtain⟨i0,hi,hz0,hz1,hz2⟩:=info_parts Tryz.infoC;have hnews: ∀j u,(gF [y])[j]? =some u→w.cell? ((⟨e,0,none⟩:Addr).add j)=some u:=by
  intro j u hu;rw[Addr.add_lit,cell_of_row _ e _ _ 89 (0,0) hA,Nat.zero_add];have e9:gF [y]=[.int .i64 y.1,.int .i64 y.2.1,.int .i64 y.2.2.1,.int .i64 y.2.2.2]:=rfl;rw[e9] at hu;simpa using hu
 obtain⟨v',w',hr,ho',hgr,_⟩:=run_append_own (P:=Tryz.prog) w B 86 o.type 89 i0 _ 4 32 Tryz.underlying86 hi hz0 hz1 hz2 rfl BD v cs.length _ h1 ⟨e,0,none⟩ 1 1 (gF [y]) rfl hnews (by intro u hu;simp[gF] at hu;rcases hu with rfl | rfl | rfl | rfl<;>rfl) Cf A3 hB;have h2:db w' B v' (cs++[y]):=by
  unfold db;rw[List.length_append,vz];exact ho'
 unfold Oper.wp execOp;simp only[ho,resolve,invoke,builtin,Sem.run_bind,Sem.run_pure,Result.andThen_ok,List.map_toArray,List.map_cons,List.map_nil,hs,hx,hr];exact h v' w' h2 hgr
theorem mZ (hg:o.guard=none) (s x:Operand) (ho:o.op= .call { callee:=.builtin .append,args:= #[s,x],argTypes:= #[86,86] }) (B:Nat) (v:Value) (cs:List Ch) (e:Nat) (y:Ch) (hs:a.eval s=v) (hx:a.eval x= .slice (some ⟨e,0,none⟩) 1 1)
  (hA:w.heap[e]? =some (.cells #[.int .i64 y.1,.int .i64 y.2.1,.int .i64 y.2.2.1,.int .i64 y.2.2.2] 89 (0,0))) (hB:B≤w.heap.size) (h1:db w B v cs) (hl:cs.length+1≤1000) (h: ∀v' w',db w' B v' (cs++[y])→w.grownBy w' v.ownBlock→wpList Tryz.prog ops Q rest (a.put o.dst v') w'):wpList Tryz.prog ops Q (o::rest) a w:=
 wpList_plain hg fun _ hK=>ot s x ho B v cs e y hs hx hA hB h1 hl fun v' w' h2 h3=>hK _ _ (h v' w' h2 h3)
end
theorem db.push_below {w w1 w':World} {B:Nat} {v:Value} {cs:List Ch} (h:db w B v cs) (hb:Below B w1 w) (hB:B≤w.heap.size) (hg:w.grownBy w' v.ownBlock):Below B w1 w':=
 hb.grown hg hB (fun j e=>(h.lt j e).1)
def cg (L:List Gr) (ls:List Lf) (g:Int) (j:Nat):List Ch:=(((aW L g).take j).filter fun y=>decide (0<many L ls y)).map (chG L ls)
def cl (L:List Gr) (ls:List Lf) (g:Int) (j:Nat):List Ch:=(kg L ls g).map (chG L ls)++((List.range j).filter fun i=>(lf ls i).1==g).map (chL ls)
theorem yH {L:List Gr} {ls:List Lf} {g:Int} {j:Nat} (h:j<(aW L g).length) (hm:0<many L ls ((aW L g).getD j 0)):cg L ls g (j+1)=cg L ls g j++[chG L ls ((aW L g).getD j 0)]:=by
 unfold cg;rw[List.take_succ_eq_append_getElem h,List.filter_append,List.map_append];have e:(aW L g)[j]=(aW L g).getD j 0:=by simp[List.getD_eq_getElem?_getD,h]
 rw[e];generalize (aW L g).getD j 0=y at *;simp[hm]
theorem zt {L:List Gr} {ls:List Lf} {g:Int} {j:Nat} (h:j<(aW L g).length) (hm: ¬ 0<many L ls ((aW L g).getD j 0)):cg L ls g (j+1)=cg L ls g j:=by
 unfold cg;rw[List.take_succ_eq_append_getElem h,List.filter_append,List.map_append];have e:(aW L g)[j]=(aW L g).getD j 0:=by simp[List.getD_eq_getElem?_getD,h]
 rw[e];generalize (aW L g).getD j 0=y at *;have e2:many L ls y=0:=A3
 simp[e2]
theorem zg (L:List Gr) (ls:List Lf) (g:Int):cg L ls g (aW L g).length=cl L ls g 0:=by
 unfold cg cl kg;rw[List.take_length];simp
theorem zn (L:List Gr) (ls:List Lf) (g:Int) (j:Nat):(cg L ls g j).length≤j:=by
 unfold cg;rw[List.length_map];exact Nat.le_trans (List.length_filter_le _ _) BU
theorem yX {L:List Gr} {ls:List Lf} {g:Int} {j:Nat} (h:(lf ls j).1=g):cl L ls g (j+1)=cl L ls g j++[chL ls j]:=by
 unfold cl;rw[List.range_succ,List.filter_append,List.map_append,←List.append_assoc];simp only[List.filter_cons,List.filter_nil,dP h];rfl
theorem zB {L:List Gr} {ls:List Lf} {g:Int} {j:Nat} (h: ¬(lf ls j).1=g):cl L ls g (j+1)=cl L ls g j:=by
 unfold cl;rw[List.range_succ,List.filter_append,List.map_append];simp only[List.filter_cons,List.filter_nil,aB h];simp
theorem yR (L:List Gr) (ls:List Lf) (g:Int):cl L ls g ls.length=chs L ls g:=rfl
theorem zq {L:List Gr} (ls:List Lf) (g:Int) (j:Nat) (hL:L.length≤64):(cl L ls g j).length≤64+j:=by
 unfold cl;rw[List.length_append,List.length_map,List.length_map];have h1:(kg L ls g).length≤64:=Nat.le_trans (List.length_filter_le _ _) (Nat.le_trans (ee L g) hL);have h2:=List.length_filter_le (fun i=>(lf ls i).1==g) (List.range j);rw[List.length_range] at h2;omega
theorem Cb {p:Prop} (h:p:=by have hx:=HC.out X hX;have hc0:=hx.2.2.1;clear hx hX;go_simp):p:=h
theorem BT {p:Prop} (h:p:=by have hx:=HC.out X hX;have hc0:=hx.2.2.2.1;clear hx hX;go_simp):p:=h
theorem ry (r m:Int) (a:Option Addr) (c:Nat) (L:List Gr) (al:Option Addr) (cl0:Nat) (ls:List Lf) (g:Int) (m0 k0:Int) (w:World) (h:aA w (.slice a L.length c) L) (hl:cu w (.slice al ls.length cl0) ls) (ok:Ok L m0 k0) (hh: ∀j,j<ls.length→has L (lf ls j).1=true) (hn:ls.length≤64) (hg:1≤g):
  Calls Tryz.prog 32 #[.agg (ae r m (.slice a L.length c)),.slice al ls.length cl0,.int .i64 g] w fun e w'=>(∃v,e= .returned v∧db w' w.heap.size v (chs L ls g))∧Below w.heap.size w w':=by
 have n64:=ok.n64;have hb1:Below w.heap.size w (w.alloc (.cells (ae r m (.slice a L.length c)) 29)):=(Below.refl _ w).alloc lr _;have HM:Hid (∀(y:Int) X,Below w.heap.size w X→Calls Tryz.prog 17 #[.agg #[.int .i64 r,.int .i64 m,.slice a L.length c],.slice al ls.length cl0,.int .i64 y] X fun e w'=>e= .returned (.int .i64 ((many L ls y:Nat):Int))∧Below X.heap.size X w'):=Hd fun y X hX=>oo r m a c L al cl0 ls y m0 k0 X (h.below hX) (hl.below hX) ok hh A3
 have HAT0:Hid (∀(y:Int) X,Below w.heap.size w X→Calls Tryz.prog 30 #[.agg #[.int .i64 r,.int .i64 m,.slice a L.length c],.int .i64 y] X fun e w'=>e= .returned (.int .i64 (atG L y))∧Below X.heap.size X w'):=Hd fun y X hX=>gO r m a c L y X (h.below hX) n64
 have HT:=Hd (Blk.new w 29 (ae r m (.slice a L.length c)));have HL:=Hd hl;have HG:=Hd h;have HKM:Hid (∀j,j<(aW L g).length→has L ((aW L g).getD j 0)=true):=Hd fun j hj=>(cP ok).1 (by rw[List.getD_eq_getElem?_getD,List.getElem?_eq_getElem hj];exact List.getElem_mem hj) |>.1
 have hkl:=ee L g;clear hh;have HK1:=Hd (lV r m a c L g (w.alloc (.cells (ae r m (.slice a L.length c)) 29)) (h.below hb1) n64 hg);clear h hl ok hg;unfold ae at *;go_enter Tryz.func32,Tryz.ntmps32;have t0:=cF0 HT.out;have t1:=cF1 HT.out;have t2:=cF2 HT.out
 go_wp2_with (first | (go_at_call 63;refine HK1.mono ?_;rintro e w2 ⟨⟨ak,ck,rfl,hks⟩,hb⟩;have HKS:=Hd hks;have HB2:=Hd hb;clear hks hb t0 t1 t2))
 generalize w.alloc (.cells #[.int .i64 r,.int .i64 m,.slice a L.length c] 29)=w1 at *;have hs1:=hb1.size;have hb2:=Hd (hb1.trans (HB2.mono hs1));have hs2:w.heap.size≤w2.heap.size:=hb2.size;replace HT:=Hd (HT.below HB2.out);clear hb1 HB2 HK1 hs1
 go_loopw [7,17] (fun s i wr=>∃j:Nat,j≤(aW L g).length∧i= .int .i64 (j:Int)∧db wr w2.heap.size s (cg L ls g j)∧Hid (Below w2.heap.size w2 wr)) (fun _ i _=>(aW L g).length - (intOf i).toNat)
 case atStart=>exact⟨0,Nat.zero_le _,rfl,db.nil _ _,Hd (Below.refl _ _)⟩
 case round=>
  obtain⟨j,hj,rfl,hro,HW⟩:=hrel;by_cases hlt:j<(aW L g).length
  ·obtain⟨bk,rfl,_,hbk,hk0,_⟩:=HKS.at hlt;have hhy:=HKM.out j hlt;have hcy0:= @yH L ls g j hlt;have hcn0:= @zt L ls g j hlt;have hcl:=zn L ls g j;generalize (aW L g).getD j 0=y at *;have hpj:=aC hhy;have HPP:=Hd (aF hhy);obtain⟨bg,rfl,hcg⟩:=(HG.below hb2.out).at hpj;have hw0:w2.cell? ⟨bg,pos L y*5+2,none⟩=some (.int .i64 (gr L y).wt):=hcg.wt hpj;have hbg:=World.block_lt_of_cell? _ _ hw0;have HAT:=Hd (HAT0.out y);have HCY:Hid (0<many L ls y→cg L ls g (j+1)=cg L ls g j++[((gr L y).wt,((many L ls y:Nat):Int),y,0)]):=Hd fun h=>hcy0 h
   have HCN:=Hd hcn0;have HC:Hid (∀X,Below w2.heap.size w2 X→X.cell? ⟨w.heap.size,0,none⟩=some (.int .i64 r)∧X.cell? ⟨w.heap.size,1,none⟩=some (.int .i64 m)∧X.cell? ⟨w.heap.size,2,none⟩=some (.slice (some ⟨bg,0,none⟩) L.length c)∧X.cell? ⟨bk,j,none⟩=some (.int .i64 y)∧X.cell? ⟨bg,pos L y*5+2,none⟩=some (.int .i64 (gr L y).wt)):=Hd fun X hX=>by
    have h1:=HT.below hX;exact⟨cF0 h1,cF1 h1,cF2 h1,(hX.cell (p:=⟨bk,j,none⟩) hbk).trans hk0,(hX.cell (p:=⟨bg,pos L y*5+2,none⟩) hbg).trans hw0⟩
   clear hcy0 hcn0 hk0 hw0 hcg hbk hbg hhy;have hX:=Below.drewS HW.out;replace hro:=hro.below (Below.drewS (Below.refl wr.heap.size wr));generalize hnn:many L ls y=nn at *;generalize (gr L y).wt=wt at *;generalize pos L y=pp at *
   go_wp2_with fail
   refine Rd.rg (fun X=>Below w2.heap.size w2 X) 8 [0,1,2,3,4,5,7] [0,1,2,3,4,5,6,7] hX ?_;generalize wr.drew=w5 at *;refine Rd.sg (.agg #[.int .i64 r,.int .i64 m,.slice (some ⟨bg,0,none⟩) L.length c]) ?_ (y:=fun X hX=>A6);refine Rd.sf (.slice al ls.length cl0) ?_;refine Rd.sf (.slice (some ⟨bk,0,none⟩) (aW L g).length ck) ?_;refine Rd.sf (.int .i64 (j:Int)) ?_;refine Rd.sf (.pointer (some ⟨bk,j,none⟩)) ?_;refine Rd.sg (.int .i64 y) ?_ (y:=fun X hX=>BT);refine Rd.sm fun K hK=>?_
   go_simp;refine(HM.out y w5 (hb2.trans (hX.mono hs2))).mono ?_;rintro e w6 ⟨rfl,hb⟩;rw[hnn];replace hro:=hro.below hb;replace hX:=hX.tr hb;clear hb;refine hK _ _ (fun _=>hX) ?_;clear hK K;refine Rd.sf (.int .i64 (nn:Int)) ?_;refine Rd.seq_end ?_;clear hnn;by_cases hm:0<nn
   ·have HE:=Hd (HCY.out hm);clear HCY HCN
    go_wp2_with fail
    replace hX:=Below.drewS hX;replace hro:=hro.below (Below.drewS (Below.refl w6.heap.size w6));refine Rd.rg (fun X=>Below w2.heap.size w2 X) 20 [0,1,2,3,4,5,6,7,9,10,11,12,13,14,15,16,17] [0,1,2,3,4,5,6,7,12,13,14,15,16,8,9,10,11,17,18,19,20] hX ?_;generalize w6.drew=w7 at *;refine Rd.sf (u7) ?_;refine Rd.sf (.pointer (some ⟨w.heap.size,2,none⟩)) ?_;refine Rd.sg (.slice (some ⟨bg,0,none⟩) L.length c) ?_ (y:=fun X hX=>Cb);refine Rd.sg (.agg #[.int .i64 r,.int .i64 m,.slice (some ⟨bg,0,none⟩) L.length c]) ?_ (y:=fun X hX=>A6);refine Rd.sf (.slice (some ⟨bk,0,none⟩) (aW L g).length ck) ?_;refine Rd.sf (.int .i64 (j:Int)) ?_;refine Rd.sf (.pointer (some ⟨bk,j,none⟩)) ?_;refine Rd.sg (.int .i64 y) ?_ (y:=fun X hX=>BT);refine Rd.sf (.int .i64 (nn:Int)) ?_;refine Rd.sf (.slice (some ⟨bk,0,none⟩) (aW L g).length ck) ?_;refine Rd.sf (.int .i64 (j:Int)) ?_;refine Rd.sf (.pointer (some ⟨bk,j,none⟩)) ?_;refine Rd.sg (.int .i64 y) ?_ (y:=fun X hX=>BT);refine Rd.sm fun K hK=>?_
    go_simp;refine(HAT.out w7 (hb2.trans (hX.mono hs2))).mono ?_;rintro e w8 ⟨rfl,hb⟩;rw[HPP.out];replace hro:=hro.below hb;replace hX:=hX.tr hb;clear hb;refine hK _ _ (fun _=>hX) ?_;clear hK K;refine Rd.sf (.pointer (some ⟨bg,(pp:Nat)*5,none⟩)) ?_;refine Rd.sf (.pointer (some ⟨bg,(pp:Nat)*5+2,none⟩)) ?_;refine Rd.sg (.int .i64 wt) ?_ (y:=fun X hX=>by have hx:=HC.out X hX;have hc0:=hx.2.2.2.2;clear hx hX;go_simp);refine Rd.sf (.agg #[.int .i64 wt,.int .i64 (nn:Int),.int .i64 y,.int .i64 0]) ?_;refine Rd.sm fun K hK=>?_
    go_simp;have hA:=Blk.new w8 89 #[.int .i64 wt,.int .i64 (nn:Int),.int .i64 y,.int .i64 0];have hb:Below w8.heap.size w8 (w8.alloc (.cells #[.int .i64 wt,.int .i64 (nn:Int),.int .i64 y,.int .i64 0] 89)):=(Below.refl _ _).alloc lr _;replace hro:=hro.below hb;replace hX:=hX.tr hb;generalize w8.alloc (.cells #[.int .i64 wt,.int .i64 (nn:Int),.int .i64 y,.int .i64 0] 89)=w9 at *;clear hb;refine hK _ _ (fun _=>hX) ?_;clear hK K;refine Rd.sm fun K hK=>?_
    refine ot _ _ rfl w2.heap.size u7 _ w8.heap.size (wt,(nn:Int),y,0) rfl rfl hA hX.size hro A3 (fun v2 w10 h2 h3=>?_);have hW2:=hro.push_below hX hX.size h3;clear hro h3 hA;refine hK _ _ (fun _=>hW2) ?_;clear hK K;refine Rd.sm fun K hK=>?_
    go_simp;refine hK _ _ (fun h=>absurd h BD) ?_;refine Rd.seq_end ?_
    go_wp2_with fail
    exact⟨⟨j+1,A3,BH,by rw[HE.out];exact h2,Hd hW2⟩,Cd⟩
   ·have HE:=Hd (HCN.out hm);clear HCY HCN
    go_wp2_with fail
    exact⟨⟨j+1,A3,BH,by rw[HE.out];exact hro,Hd hX⟩,Cd⟩
  ·obtain rfl:j=(aW L g).length:=A3
   rw[zg] at hro
   go_wp2_with fail
   have HRO:=Hd hro;clear hro
   go_loopw [7,52] (fun s i wr=>∃j:Nat,j≤ls.length∧i= .int .i64 (j:Int)∧db wr w2.heap.size s (cl L ls g j)∧Hid (Below w2.heap.size w2 wr)) (fun _ i _=>ls.length - (intOf i).toNat)
   case atStart=>exact⟨0,Nat.zero_le _,rfl,HRO.out,HW⟩
   case round=>
    clear HRO HW;obtain⟨j,hj,rfl,hro,HW⟩:=hrel;by_cases hlt:j<ls.length
    ·obtain⟨bl,off,rfl,hx0,hx1,_,_⟩:=(HL.below (hb2.trans (HW.mono hs2))).at hlt;have hcy0:= @yX L ls g j;have hcn0:= @zB L ls g j;have hcl:=zq (L:=L) ls g j n64;unfold chL at hcy0;obtain⟨lg,lw,hla⟩: ∃lg lw,lf ls j=(lg,lw):=⟨_,_,rfl⟩
     rw[hla] at hx0 hx1 hcy0 hcn0;dsimp only at hx0 hx1 hcy0 hcn0;by_cases hg:lg=g
     ·have HE:=Hd (hcy0 hg);have hgg:(lg==g)=true:=dP hg;have hbz:Below wr.heap.size wr (wr.alloc (.cells #[.int .i64 lw,.int .i64 1,.int .i64 0,.int .i64 (j:Int)] 89)):=(Below.refl _ _).alloc lr _;have hA:=Blk.new wr 89 #[.int .i64 lw,.int .i64 1,.int .i64 0,.int .i64 (j:Int)];have hwz:=HW.tr hbz;replace hro:=hro.below hbz;clear hg hcy0 hcn0 hbz HW hla
      go_wp2_with (first | (at_builtin;generalize wr.alloc (.cells #[.int .i64 lw,.int .i64 1,.int .i64 0,.int .i64 (j:Int)] 89)=w9 at *;refine mZ rfl _ _ rfl w2.heap.size u7 _ wr.heap.size (lw,1,0,(j:Int)) rfl rfl hA hwz.size hro A3 ?_;intro v2 w10 h2 h3;have hW2:=hro.push_below hwz hwz.size h3;clear hro h3 hA hwz))
      exact⟨⟨j+1,A3,BH,by rw[HE.out];exact h2,Hd hW2⟩,Cd⟩
     ·have HE:=Hd (hcn0 hg);have hgg:(lg==g)=false:=aB hg;clear hcy0 hcn0 hla
      go_wp2_with fail
      exact⟨⟨j+1,A3,BH,by rw[HE.out];exact hro,HW⟩,Cd⟩
    ·obtain rfl:j=ls.length:=A3
     rw[yR] at hro
     go_wp2_with fail
     go_ret;exact⟨⟨_,rfl,hro.mono hs2⟩,hb2.trans (HW.mono hs2)⟩
theorem rC (L:List Gr) (ls:List Lf) (g:Int):(chs L ls g).length=(kd L ls g).length:=by simp[chs,kd]
theorem wn {L:List Gr} {j:Nat} (h:j<L.length):has L (L.getD j g0).id=true:=cN.2 (by
 unfold bK;refine List.mem_map.2 ⟨L.getD j g0,?_,rfl⟩;rw[List.getD_eq_getElem?_getD,List.getElem?_eq_getElem h];exact List.getElem_mem h)
theorem xL {L:List Gr} {m k:Int} (ok:Ok L m k) {root:Int} (hh:has L root=true) (ht:aZ L root=root):(gr L root).pa= -1:=by
 rcases ok.pa hh with hp | hp
 ·exact hp
 ·exfalso;have h4:=ok.top_step hh hp;have h5:=ok.top_mem hp;rw[←h4,ht] at h5;exact ok.notUp hh h5
theorem eB {L:List Gr} {ls:List Lf} {root online e:Int} (h:cM L ls root online=e) (hne:e≠0):bQ L ls root online=e:=by
 unfold bQ;rw[if_neg A3];exact h
theorem yl {L:List Gr} {ls:List Lf} {root:Int} (h: ∀k,k<L.length→ag L (L.getD k g0).id root=true→(kd L ls (L.getD k g0).id).length≤32):jS L ls root=true:=by
 rw[dq];intro y hy;have hh:=az hy;have h1:=h (pos L y) (aC hh);have e:(L.getD (pos L y) g0).id=y:=cV hh;rw[e] at h1;exact h1 hy
theorem uF {L:List Gr} {ls:List Lf} {root y:Int} (h1:ag L y root=true) (h2:32<(kd L ls y).length):bM L ls root=6:=by
 unfold bM;rw[if_neg];intro h;have:=dq.1 h y h1;omega
theorem AP {p:Prop} (h:p:=by go_ret;rw[HE.out];exact⟨rfl,hb2.out⟩):p:=h
theorem tM (r m:Int) (a:Option Addr) (c:Nat) (L:List Gr) (al:Option Addr) (cl0:Nat) (ls:List Lf) (root online:Int) (m0 k0:Int) (w:World) (h:aA w (.slice a L.length c) L) (_hl:cu w (.slice al ls.length cl0) ls) (ok:Ok L m0 k0) (_hn:ls.length≤1000) (hh:has L root=false):
  Calls Tryz.prog 28 #[.agg (ae r m (.slice a L.length c)),.int .i64 root,.int .i64 online,.slice al ls.length cl0] w fun e w'=>e= .returned (.int .i64 (bQ L ls root online))∧Below w.heap.size w w':=by
 have n64:=ok.n64;have hb1:Below w.heap.size w (w.alloc (.cells (ae r m (.slice a L.length c)) 29)):=(Below.refl _ w).alloc lr _;have HAT:Hid (∀(y:Int) X,Below w.heap.size w X→Calls Tryz.prog 30 #[.agg #[.int .i64 r,.int .i64 m,.slice a L.length c],.int .i64 y] X fun e w'=>e= .returned (.int .i64 (atG L y))∧Below X.heap.size X w'):=Hd fun y X hX=>gO r m a c L y X (h.below hX) n64
 have HT:=Hd (Blk.new w 29 (ae r m (.slice a L.length c)));have HPR:Hid (atG L root= -1):=Hd (fq hh);have HE:Hid (bQ L ls root online=4):=Hd (eB (by unfold cM;rw[if_pos (.inl hh)]) BD);clear h ok hh n64;unfold ae at *;go_enter Tryz.func28,Tryz.ntmps28;have t0:=cF0 HT.out;have t1:=cF1 HT.out;have t2:=cF2 HT.out
 go_wp2_with (first | (go_at_call 30;refine(HAT.out root _ hb1).mono ?_;rintro e w2 ⟨rfl,hb⟩;rw[HPR.out];have hb2:=Hd (hb1.tr hb);clear hb t0 t1))
 exact AP
theorem qg (r m:Int) (a:Option Addr) (c:Nat) (L:List Gr) (al:Option Addr) (cl0:Nat) (ls:List Lf) (root online:Int) (m0 k0:Int) (w:World) (h:aA w (.slice a L.length c) L) (_hl:cu w (.slice al ls.length cl0) ls) (ok:Ok L m0 k0) (_hn:ls.length≤1000) (hh:has L root=true) (ht: ¬aZ L root=root):
  Calls Tryz.prog 28 #[.agg (ae r m (.slice a L.length c)),.int .i64 root,.int .i64 online,.slice al ls.length cl0] w fun e w'=>e= .returned (.int .i64 (bQ L ls root online))∧Below w.heap.size w w':=by
 have n64:=ok.n64;have hb1:Below w.heap.size w (w.alloc (.cells (ae r m (.slice a L.length c)) 29)):=(Below.refl _ w).alloc lr _;have HAT:Hid (∀(y:Int) X,Below w.heap.size w X→Calls Tryz.prog 30 #[.agg #[.int .i64 r,.int .i64 m,.slice a L.length c],.int .i64 y] X fun e w'=>e= .returned (.int .i64 (atG L y))∧Below X.heap.size X w'):=Hd fun y X hX=>gO r m a c L y X (h.below hX) n64
 have HT:=Hd (Blk.new w 29 (ae r m (.slice a L.length c)));have HPR:=Hd (aF hh);have HE:Hid (bQ L ls root online=4):=Hd (eB (by unfold cM;rw[if_pos (.inr ht)]) BD);have hpj:=aC hh;have hpp:0≤(gr L root).pa:=by
  rcases ok.pa hh with hp | hp
  ·exact absurd (ok.top_end hh hp) ht
  ·have:=ok.id hp;omega
 obtain⟨bg,rfl,hcg⟩:=(h.below hb1).at hpj;have hpa:(w.alloc (.cells (ae r m (.slice (some ⟨bg,0,none⟩) L.length c)) 29)).cell? ⟨bg,pos L root*5+1,none⟩=some (.int .i64 (gr L root).pa):=hcg.pa hpj;have hbg:=World.block_lt_of_cell? _ _ hpa;clear h ok hh ht hcg;generalize (gr L root).pa=pa at *;unfold ae at *;go_enter Tryz.func28,Tryz.ntmps28;have t0:=cF0 HT.out;have t1:=cF1 HT.out;have t2:=cF2 HT.out
 go_wp2_with (first | (go_at_call 30;refine(HAT.out root _ hb1).mono ?_;rintro e w2 ⟨rfl,hb⟩;rw[HPR.out];have hb2:=Hd (hb1.tr hb);have t2:=cF2 (HT.below hb);have hp0:=(hb.cell (p:=⟨bg,pos L root*5+1,none⟩) hbg).trans hpa;clear hb t0 t1))
 exact AP
theorem AJ {p:Prop} (h:p:=by go_ret;rw[HE3.out];exact⟨rfl,hb2.trans (hX.mono hs2)⟩):p:=h
theorem q9 (r m:Int) (a:Option Addr) (c:Nat) (L:List Gr) (al:Option Addr) (cl0:Nat) (ls:List Lf) (root online:Int) (m0 k0:Int) (w:World) (h:aA w (.slice a L.length c) L) (hl:cu w (.slice al ls.length cl0) ls) (ok:Ok L m0 k0) (hn:ls.length≤1000) (hh:has L root=true) (ht:aZ L root=root):
  Calls Tryz.prog 28 #[.agg (ae r m (.slice a L.length c)),.int .i64 root,.int .i64 online,.slice al ls.length cl0] w fun e w'=>e= .returned (.int .i64 (bQ L ls root online))∧Below w.heap.size w w':=by
 have n64:=ok.n64;have hb1:Below w.heap.size w (w.alloc (.cells (ae r m (.slice a L.length c)) 29)):=(Below.refl _ w).alloc lr _;have HAT:Hid (∀(y:Int) X,Below w.heap.size w X→Calls Tryz.prog 30 #[.agg #[.int .i64 r,.int .i64 m,.slice a L.length c],.int .i64 y] X fun e w'=>e= .returned (.int .i64 (atG L y))∧Below X.heap.size X w'):=Hd fun y X hX=>gO r m a c L y X (h.below hX) n64
 have HT:=Hd (Blk.new w 29 (ae r m (.slice a L.length c)));have HPR:=Hd (aF hh);have HE0:Hid (cM L ls root online=if online<1∨64<online then 14 else if 64<ls.length then 6 else eu L root ls):=Hd (by unfold cM;rw[if_neg (fun h=>h.elim (fun h=>by rw[hh] at h;cases h) (fun h=>h ht))]);have hpj:=aC hh;have hpp:=xL ok hh ht;obtain⟨bg,rfl,hcg⟩:=(h.below hb1).at hpj;have hpa:(w.alloc (.cells (ae r m (.slice (some ⟨bg,0,none⟩) L.length c)) 29)).cell? ⟨bg,pos L root*5+1,none⟩=some (.int .i64 (gr L root).pa):=hcg.pa hpj;rw[hpp] at hpa;have hbg:=World.block_lt_of_cell? _ _ hpa;have HBE:Hid (∀(y:Int) X,has L y=true→Below w.heap.size w X→Calls Tryz.prog 16 #[.agg #[.int .i64 r,.int .i64 m,.slice (some ⟨bg,0,none⟩) L.length c],.int .i64 y,.int .i64 root] X fun e w'=>e= .returned (.bool (ag L y root))∧Below X.heap.size X w'):=Hd fun y X hy hX=>d7 r m _ c L y root m0 k0 X (h.below hX) ok hy
 have HG:=Hd h;have HL:=Hd hl;have HOK:=Hd ok;clear h hl ok hh ht hcg hpp;by_cases ho:online<1∨64<online
 ·have HE:Hid (bQ L ls root online=14):=Hd (eB (by rw[HE0.out,if_pos ho]) BD);by_cases ho1:online<1
  ·skip
   unfold ae at *;go_enter Tryz.func28,Tryz.ntmps28;have t0:=cF0 HT.out;have t1:=cF1 HT.out;have t2:=cF2 HT.out
   go_wp2_with (first | (go_at_call 30;refine(HAT.out root _ hb1).mono ?_;rintro e w2 ⟨rfl,hb⟩;rw[HPR.out];have hb2:=Hd (hb1.tr hb);have t2:=cF2 (HT.below hb);have hp0:=(hb.cell (p:=⟨bg,pos L root*5+1,none⟩) hbg).trans hpa;clear hb t0 t1))
   exact AP
  ·have ho2:64<online:=A3
   unfold ae at *;go_enter Tryz.func28,Tryz.ntmps28;have t0:=cF0 HT.out;have t1:=cF1 HT.out;have t2:=cF2 HT.out
   go_wp2_with (first | (go_at_call 30;refine(HAT.out root _ hb1).mono ?_;rintro e w2 ⟨rfl,hb⟩;rw[HPR.out];have hb2:=Hd (hb1.tr hb);have t2:=cF2 (HT.below hb);have hp0:=(hb.cell (p:=⟨bg,pos L root*5+1,none⟩) hbg).trans hpa;clear hb t0 t1))
   exact AP
 have ho1: ¬online<1:=A3
 have ho2: ¬ 64<online:=A3
 by_cases hn2:(64:Int)<(ls.length:Int)
 ·have HE:Hid (bQ L ls root online=6):=Hd (eB (by rw[HE0.out,if_neg ho,if_pos A3]) BD);unfold ae at *;go_enter Tryz.func28,Tryz.ntmps28;have t0:=cF0 HT.out;have t1:=cF1 HT.out;have t2:=cF2 HT.out
  go_wp2_with (first | (go_at_call 30;refine(HAT.out root _ hb1).mono ?_;rintro e w2 ⟨rfl,hb⟩;rw[HPR.out];have hb2:=Hd (hb1.tr hb);have t2:=cF2 (HT.below hb);have hp0:=(hb.cell (p:=⟨bg,pos L root*5+1,none⟩) hbg).trans hpa;clear hb t0 t1))
  exact AP
 have hl64:ls.length≤64:=A3
 have HE1:Hid (cM L ls root online=eu L root ls):=Hd (by rw[HE0.out,if_neg ho,if_neg A3]);have HC0:Hid (∀X,Below w.heap.size w X→aA X (.slice (some ⟨bg,0,none⟩) L.length c) L):=Hd fun X hX=>HG.below hX
 clear ho HE0;unfold ae at *;go_enter Tryz.func28,Tryz.ntmps28;have t0:=cF0 HT.out;have t1:=cF1 HT.out;have t2:=cF2 HT.out
 go_wp2_with (first | (go_at_call 30;refine(HAT.out root _ hb1).mono ?_;rintro e w2 ⟨rfl,hb⟩;rw[HPR.out];have hb2:=Hd (hb1.tr hb);have t2:=cF2 (HT.below hb);have hp0:=(hb.cell (p:=⟨bg,pos L root*5+1,none⟩) hbg).trans hpa;have HTT:=Hd (HT.below hb);clear hb t0 t1))
 have hs2:=hb2.size;clear HT hp0 t2 hpa hbg hb1
 go_loopw [37] (fun i wr=>∃j:Nat,j≤ls.length∧i= .int .i64 (j:Int)∧Hid (eu L root ls=eu L root (ls.drop j))∧Hid (Below w2.heap.size w2 wr)) (fun i _=>ls.length - (intOf i).toNat)
 case atStart=>exact⟨0,Nat.zero_le _,rfl,Hd B4,Hd (Below.refl _ _)⟩
 case round=>
  obtain⟨j,hj,rfl,HD,HW⟩:=hrel;by_cases hlt:j<ls.length
  ·obtain⟨bl,off,rfl,hx0,hx1,_,_⟩:=(HL.below hb2.out).at hlt;have HE2:=Hd (lA (L:=L) (root:=root) hlt);generalize lf ls j=x at *;obtain⟨lg,lw⟩:=x;dsimp only at hx0 hx1;have hl9:=World.block_lt_of_cell? _ _ hx0;have hl8:=World.block_lt_of_cell? _ _ hx1;have HC:Hid (∀X,Below w2.heap.size w2 X→X.cell? ⟨w.heap.size,0,none⟩=some (.int .i64 r)∧X.cell? ⟨w.heap.size,1,none⟩=some (.int .i64 m)∧X.cell? ⟨w.heap.size,2,none⟩=some (.slice (some ⟨bg,0,none⟩) L.length c)∧X.cell? ⟨bl,off+j*2,none⟩=some (.int .i64 lg)):=Hd fun X hX=>by
    have h1:=HTT.below hX;exact⟨cF0 h1,cF1 h1,cF2 h1,(hX.cell (p:=⟨bl,off+j*2,none⟩) hl9).trans hx0⟩
   have HW1:Hid (∀X,Below w2.heap.size w2 X→X.cell? ⟨bl,off+j*2+1,none⟩=some (.int .i64 lw)):=Hd fun X hX=>(hX.cell (p:=⟨bl,off+j*2+1,none⟩) hl8).trans hx1
   clear hx0 hx1 hl9 hl8;have hX:=Below.drewS HW.out;cases hhl:has L lg with
   | false=>
    have HPL:Hid (atG L lg= -1):=Hd (fq hhl);have HPJ:Hid True:=Hd trivial;have hbf:ag L lg root=false:=by
     cases hq:ag L lg root with
     | false=>rfl
     | true=>have:=az hq;rw[hhl] at this;cases this
    have HE3:Hid (bQ L ls root online=4):=Hd (eB (by rw[HE1.out,HD.out,HE2.out];simp[hbf]) BD);clear hbf hhl
    go_wp2_with fail
    refine Rd.rg (fun X=>Below w2.heap.size w2 X) 19 [0,1,2,3,4,5,7,8,9,10,11,12,13,14,15,16,17,18] [0,1,2,3,4,5,6,7,8,9,10,11,12,13,14,15,16,17,18] hX ?_;generalize wr.drew=w5 at *;refine Rd.sg (.agg #[.int .i64 r,.int .i64 m,.slice (some ⟨bg,0,none⟩) L.length c]) ?_ (y:=fun X hX=>A6);refine Rd.sf (.slice (some ⟨bl,off,none⟩) ls.length cl0) ?_;refine Rd.sf (.int .i64 (j:Int)) ?_;refine Rd.sf (.pointer (some ⟨bl,off+j*2,none⟩)) ?_;refine Rd.sf (.pointer (some ⟨bl,off+j*2,none⟩)) ?_;refine Rd.sg (.int .i64 lg) ?_ (y:=fun X hX=>BE);refine Rd.sm fun K hK=>?_
    go_simp;refine(HAT.out lg w5 (hb2.trans (hX.mono hs2))).mono ?_;rintro e w6 ⟨rfl,hb⟩;rw[HPL.out];replace hX:=hX.tr hb;clear hb;refine hK _ _ (fun _=>hX) ?_;clear hK K;refine Rd.sg (.bool true) ?_ (y:=fun X _=>by have hx1:=HPJ.out;go_simp);refine Rd.sf (.bool true) ?_;refine Rd.sk ?_;refine Rd.sk ?_;refine Rd.sk ?_;refine Rd.sk ?_;refine Rd.sk ?_;refine Rd.sk ?_;refine Rd.sk ?_;refine Rd.sk ?_;refine Rd.sk ?_;refine Rd.sf (.bool true) ?_;refine Rd.seq_end ?_
    go_wp2_with fail
    go_ret;rw[HE3.out];exact⟨rfl,hb2.trans (hX.mono hs2)⟩
   | true=>
    have HPL:=Hd (aF hhl);have HPJ:Hid (¬((pos L lg:Nat):Int)<0):=Hd A3
    go_wp2_with fail
    refine Rd.rg (fun X=>Below w2.heap.size w2 X) 19 [0,1,2,3,4,5,7,8,9,10,11,12,13,14,15,17,18] [0,1,2,3,4,5,6,7,8,9,10,11,12,13,14,15,16,17,18] hX ?_;generalize wr.drew=w5 at *;refine Rd.sg (.agg #[.int .i64 r,.int .i64 m,.slice (some ⟨bg,0,none⟩) L.length c]) ?_ (y:=fun X hX=>A6);refine Rd.sf (.slice (some ⟨bl,off,none⟩) ls.length cl0) ?_;refine Rd.sf (.int .i64 (j:Int)) ?_;refine Rd.sf (.pointer (some ⟨bl,off+j*2,none⟩)) ?_;refine Rd.sf (.pointer (some ⟨bl,off+j*2,none⟩)) ?_;refine Rd.sg (.int .i64 lg) ?_ (y:=fun X hX=>BE);refine Rd.sm fun K hK=>?_
    go_simp;refine(HAT.out lg w5 (hb2.trans (hX.mono hs2))).mono ?_;rintro e w6 ⟨rfl,hb⟩;rw[HPL.out];replace hX:=hX.tr hb;clear hb;refine hK _ _ (fun _=>hX) ?_;clear hK K;refine Rd.sg (.bool false) ?_ (y:=fun X _=>by have hx1:=HPJ.out;go_simp);refine Rd.sf (.bool false) ?_;refine Rd.sg (.agg #[.int .i64 r,.int .i64 m,.slice (some ⟨bg,0,none⟩) L.length c]) ?_ (y:=fun X hX=>A6);refine Rd.sf (.slice (some ⟨bl,off,none⟩) ls.length cl0) ?_;refine Rd.sf (.int .i64 (j:Int)) ?_;refine Rd.sf (.pointer (some ⟨bl,off+j*2,none⟩)) ?_;refine Rd.sf (.pointer (some ⟨bl,off+j*2,none⟩)) ?_;refine Rd.sg (.int .i64 lg) ?_ (y:=fun X hX=>BE);refine Rd.sf (.int .i64 root) ?_;refine Rd.sm fun K hK=>?_
    go_simp;refine(HBE.out lg w6 hhl (hb2.trans (hX.mono hs2))).mono ?_;rintro e w7 ⟨rfl,hb⟩;replace hX:=hX.tr hb;clear hb;refine hK _ _ (fun _=>hX) ?_;clear hK K;refine Rd.sf (.bool (!ag L lg root)) ?_;refine Rd.sf (.bool (!ag L lg root)) ?_;refine Rd.seq_end ?_;have hw1:=HW1.out _ hX;by_cases hbl:ag L lg root=true
    ·rw[hbl];by_cases hw2:lw<1
     ·have HE3:Hid (bQ L ls root online=13):=Hd (eB (by rw[HE1.out,HD.out,HE2.out];simp[hbl,hw2]) BD)
      go_wp2_with fail
      exact AJ
     ·by_cases hw3:10000<lw
      ·have HE3:Hid (bQ L ls root online=13):=Hd (eB (by rw[HE1.out,HD.out,HE2.out];simp[hbl,hw3]) BD)
       go_wp2_with fail
       exact AJ
      ·have HE3:Hid (eu L root ls=eu L root (ls.drop (j+1))):=Hd (by rw[HD.out,HE2.out];simp[hbl,hw2,hw3])
       go_wp2_with fail
       go_round
       case rel=>exact⟨j+1,A3,BH,HE3,Hd hX⟩
       case measure=>simp[intOf];omega
    ·have hbf:ag L lg root=false:=by simpa using hbl
     rw[hbf];have HE3:Hid (bQ L ls root online=4):=Hd (eB (by rw[HE1.out,HD.out,HE2.out];simp[hbf]) BD)
     go_wp2_with fail
     exact AJ
  ·have ej:j=ls.length:=A3
   subst ej;have HES:Hid (cM L ls root online=0):=Hd (by rw[HE1.out,HD.out,List.drop_length];rfl);have HEA:Hid (bQ L ls root online=bM L ls root):=Hd (by unfold bQ;rw[if_pos HES.out]);have hF:=mz HOK.out HES.out;have hfz: ∀j,j<ls.length→has L (lf ls j).1=true:=fun j hj=>az (hF.1.grp hj)
   have HCH:Hid (∀(y:Int) X,has L y=true→Below w.heap.size w X→Calls Tryz.prog 32 #[.agg #[.int .i64 r,.int .i64 m,.slice (some ⟨bg,0,none⟩) L.length c],.slice al ls.length cl0,.int .i64 y] X fun e w'=>(∃(va:Option Addr) (vc:Nat),e= .returned (.slice va (kd L ls y).length vc))∧Below X.heap.size X w'):=Hd fun y X hy hX=>by
    refine(ry r m _ c L al cl0 ls y m0 k0 X (HG.below hX) (HL.below hX) HOK.out hfz hl64 (HOK.id hy).1).mono ?_;rintro e w' ⟨⟨v,rfl,hv⟩,hb⟩;obtain⟨va,vc,rfl⟩:=hv.sl;rw[rC];exact⟨⟨va,vc,rfl⟩,hb⟩
   have t2:=cF2 (HTT.below HW.out);clear hF hfz HD HE1 HES
   go_wp2_with fail
   clear t2
   go_loopw [77] (fun i wr=>∃j:Nat,j≤L.length∧i= .int .i64 (j:Int)∧Hid (∀k,k<j→ag L (L.getD k g0).id root=true→(kd L ls (L.getD k g0).id).length≤32)∧Hid (Below w2.heap.size w2 wr)) (fun i _=>L.length - (intOf i).toNat)
   case atStart=>exact⟨0,Nat.zero_le _,rfl,Hd (fun k h=>absurd h A3),HW⟩
   case round=>
    clear HW;obtain⟨j,hj,rfl,HD,HW⟩:=hrel;by_cases hlt:j<L.length
    ·obtain⟨bg',e9,hcg⟩:=(HG.below hb2.out).at hlt;injection e9 with e9;injection e9 with e9 _ _;subst e9;have hid:=hcg.id hlt;have hhy:=wn hlt;have HD1:Hid (∀y,y=(L.getD j g0).id→(ag L y root=true→(kd L ls y).length≤32)→∀k,k<j+1→ag L (L.getD k g0).id root=true→(kd L ls (L.getD k g0).id).length≤32):=Hd fun y hy h1 k hk=>by
      rcases Nat.lt_or_eq_of_le (Nat.le_of_lt_succ hk) with h2 | h2
      ·exact HD.out k h2
      ·rw[h2,←hy];exact h1
     generalize hyy:(L.getD j g0).id=y at *;have hl9:=World.block_lt_of_cell? _ _ hid;have HC:Hid (∀X,Below w2.heap.size w2 X→X.cell? ⟨w.heap.size,0,none⟩=some (.int .i64 r)∧X.cell? ⟨w.heap.size,1,none⟩=some (.int .i64 m)∧X.cell? ⟨w.heap.size,2,none⟩=some (.slice (some ⟨bg,0,none⟩) L.length c)∧X.cell? ⟨bg,j*5,none⟩=some (.int .i64 y)):=Hd fun X hX=>by
      have h1:=HTT.below hX;exact⟨cF0 h1,cF1 h1,cF2 h1,(hX.cell (p:=⟨bg,j*5,none⟩) hl9).trans hid⟩
     clear hid hcg hl9 hyy;have hX:=Below.drewS HW.out;cases hbe:ag L y root with
     | false=>
      have HE3:=Hd (HD1.out y rfl (fun h=>by rw[hbe] at h;cases h))
      go_wp2_with fail
      refine Rd.rg (fun X=>Below w2.heap.size w2 X) 22 [0,1,2,3,4,5,6,7,9,10,11,12,13,14,15,16,17,18,19,20,21] [0,1,2,3,4,5,6,7,8,9,10,11,12,13,14,15,16,17,18,19,20,21] hX ?_;generalize wr.drew=w5 at *;refine Rd.sg (.agg #[.int .i64 r,.int .i64 m,.slice (some ⟨bg,0,none⟩) L.length c]) ?_ (y:=fun X hX=>A6);refine Rd.sf (.pointer (some ⟨w.heap.size,2,none⟩)) ?_;refine Rd.sg (.slice (some ⟨bg,0,none⟩) L.length c) ?_ (y:=fun X hX=>Cb);refine Rd.sf (.int .i64 (j:Int)) ?_;refine Rd.sf (.pointer (some ⟨bg,j*5,none⟩)) ?_;refine Rd.sf (.pointer (some ⟨bg,j*5,none⟩)) ?_;refine Rd.sg (.int .i64 y) ?_ (y:=fun X hX=>BE);refine Rd.sf (.int .i64 root) ?_;refine Rd.sm fun K hK=>?_
      go_simp;refine(HBE.out y w5 hhy (hb2.trans (hX.mono hs2))).mono ?_;rintro e w6 ⟨rfl,hb⟩;rw[hbe];replace hX:=hX.tr hb;clear hb;refine hK _ _ (fun _=>hX) ?_;clear hK K;refine Rd.sf (.bool false) ?_;refine Rd.sk ?_;refine Rd.sk ?_;refine Rd.sk ?_;refine Rd.sk ?_;refine Rd.sk ?_;refine Rd.sk ?_;refine Rd.sk ?_;refine Rd.sk ?_;refine Rd.sk ?_;refine Rd.sk ?_;refine Rd.sk ?_;refine Rd.sf (.bool false) ?_;refine Rd.seq_end ?_
      go_wp2_with fail
      go_round
      case rel=>exact⟨j+1,A3,BH,HE3,Hd hX⟩
      case measure=>simp[intOf];omega
     | true=>
      generalize hnn:(kd L ls y).length=nn at *;by_cases hbig:32<nn
      ·have HE3:Hid (bQ L ls root online=6):=Hd (by rw[HEA.out];exact uF hbe A3);have HBIG:=Hd hbig
       go_wp2_with fail
       refine Rd.rg (fun X=>Below w2.heap.size w2 X) 22 [0,1,2,3,4,5,6,7,9,10,11,12,13,14,15,16,17,19,20,21] [0,1,2,3,4,5,6,7,8,9,10,11,12,13,14,15,16,17,18,19,20,21] hX ?_;generalize wr.drew=w5 at *;refine Rd.sg (.agg #[.int .i64 r,.int .i64 m,.slice (some ⟨bg,0,none⟩) L.length c]) ?_ (y:=fun X hX=>A6);refine Rd.sf (.pointer (some ⟨w.heap.size,2,none⟩)) ?_;refine Rd.sg (.slice (some ⟨bg,0,none⟩) L.length c) ?_ (y:=fun X hX=>Cb);refine Rd.sf (.int .i64 (j:Int)) ?_;refine Rd.sf (.pointer (some ⟨bg,j*5,none⟩)) ?_;refine Rd.sf (.pointer (some ⟨bg,j*5,none⟩)) ?_;refine Rd.sg (.int .i64 y) ?_ (y:=fun X hX=>BE);refine Rd.sf (.int .i64 root) ?_;refine Rd.sm fun K hK=>?_
       go_simp;refine(HBE.out y w5 hhy (hb2.trans (hX.mono hs2))).mono ?_;rintro e w6 ⟨rfl,hb⟩;rw[hbe];replace hX:=hX.tr hb;clear hb;refine hK _ _ (fun _=>hX) ?_;clear hK K;refine Rd.sf (.bool true) ?_;refine Rd.sg (.agg #[.int .i64 r,.int .i64 m,.slice (some ⟨bg,0,none⟩) L.length c]) ?_ (y:=fun X hX=>A6);refine Rd.sf (.slice al ls.length cl0) ?_;refine Rd.sf (.pointer (some ⟨w.heap.size,2,none⟩)) ?_;refine Rd.sg (.slice (some ⟨bg,0,none⟩) L.length c) ?_ (y:=fun X hX=>Cb);refine Rd.sf (.int .i64 (j:Int)) ?_;refine Rd.sf (.pointer (some ⟨bg,j*5,none⟩)) ?_;refine Rd.sf (.pointer (some ⟨bg,j*5,none⟩)) ?_;refine Rd.sg (.int .i64 y) ?_ (y:=fun X hX=>BE);refine Rd.sm fun K hK=>?_
       go_simp;refine(HCH.out y w6 hhy (hb2.trans (hX.mono hs2))).mono ?_;rintro e w7 ⟨⟨va,vc,rfl⟩,hb⟩;rw[hnn];replace hX:=hX.tr hb;clear hb;refine hK _ _ (fun _=>hX) ?_;clear hK K;refine Rd.sf (.int .i64 (nn:Int)) ?_;refine Rd.sg (.bool true) ?_ (y:=fun X _=>by have hx1:=HBIG.out;go_simp<;>omega);refine Rd.sf (.bool true) ?_;refine Rd.seq_end ?_
       go_wp2_with fail
       exact AJ
      ·have HE3:=Hd (HD1.out y rfl (fun _=>A3));have HBIG:=Hd hbig
       go_wp2_with fail
       refine Rd.rg (fun X=>Below w2.heap.size w2 X) 22 [0,1,2,3,4,5,6,7,9,10,11,12,13,14,15,16,17,19,20,21] [0,1,2,3,4,5,6,7,8,9,10,11,12,13,14,15,16,17,18,19,20,21] hX ?_;generalize wr.drew=w5 at *;refine Rd.sg (.agg #[.int .i64 r,.int .i64 m,.slice (some ⟨bg,0,none⟩) L.length c]) ?_ (y:=fun X hX=>A6);refine Rd.sf (.pointer (some ⟨w.heap.size,2,none⟩)) ?_;refine Rd.sg (.slice (some ⟨bg,0,none⟩) L.length c) ?_ (y:=fun X hX=>Cb);refine Rd.sf (.int .i64 (j:Int)) ?_;refine Rd.sf (.pointer (some ⟨bg,j*5,none⟩)) ?_;refine Rd.sf (.pointer (some ⟨bg,j*5,none⟩)) ?_;refine Rd.sg (.int .i64 y) ?_ (y:=fun X hX=>BE);refine Rd.sf (.int .i64 root) ?_;refine Rd.sm fun K hK=>?_
       go_simp;refine(HBE.out y w5 hhy (hb2.trans (hX.mono hs2))).mono ?_;rintro e w6 ⟨rfl,hb⟩;rw[hbe];replace hX:=hX.tr hb;clear hb;refine hK _ _ (fun _=>hX) ?_;clear hK K;refine Rd.sf (.bool true) ?_;refine Rd.sg (.agg #[.int .i64 r,.int .i64 m,.slice (some ⟨bg,0,none⟩) L.length c]) ?_ (y:=fun X hX=>A6);refine Rd.sf (.slice al ls.length cl0) ?_;refine Rd.sf (.pointer (some ⟨w.heap.size,2,none⟩)) ?_;refine Rd.sg (.slice (some ⟨bg,0,none⟩) L.length c) ?_ (y:=fun X hX=>Cb);refine Rd.sf (.int .i64 (j:Int)) ?_;refine Rd.sf (.pointer (some ⟨bg,j*5,none⟩)) ?_;refine Rd.sf (.pointer (some ⟨bg,j*5,none⟩)) ?_;refine Rd.sg (.int .i64 y) ?_ (y:=fun X hX=>BE);refine Rd.sm fun K hK=>?_
       go_simp;refine(HCH.out y w6 hhy (hb2.trans (hX.mono hs2))).mono ?_;rintro e w7 ⟨⟨va,vc,rfl⟩,hb⟩;rw[hnn];replace hX:=hX.tr hb;clear hb;refine hK _ _ (fun _=>hX) ?_;clear hK K;refine Rd.sf (.int .i64 (nn:Int)) ?_;refine Rd.sg (.bool false) ?_ (y:=fun X _=>by have hx1:=HBIG.out;go_simp<;>omega);refine Rd.sf (.bool false) ?_;refine Rd.seq_end ?_
       go_wp2_with fail
       go_round
       case rel=>exact⟨j+1,A3,BH,HE3,Hd hX⟩
       case measure=>simp[intOf];omega
    ·have ej:j=L.length:=A3
     subst ej;have HE3:Hid (bQ L ls root online=0):=Hd (by rw[HEA.out];unfold bM;rw[if_pos (yl HD.out)])
     go_wp2_with fail
     go_ret;rw[HE3.out];exact⟨rfl,hb2.trans (HW.mono hs2)⟩
theorem kb (r m:Int) (a:Option Addr) (c:Nat) (L:List Gr) (al:Option Addr) (cl0:Nat) (ls:List Lf) (root online:Int) (m0 k0:Int) (w:World) (h:aA w (.slice a L.length c) L) (hl:cu w (.slice al ls.length cl0) ls) (ok:Ok L m0 k0) (hn:ls.length≤1000):
  Calls Tryz.prog 28 #[.agg (ae r m (.slice a L.length c)),.int .i64 root,.int .i64 online,.slice al ls.length cl0] w fun e w'=>e= .returned (.int .i64 (bQ L ls root online))∧Below w.heap.size w w':=by
 cases hh:has L root with
 | false=>exact tM r m a c L al cl0 ls root online m0 k0 w h hl ok hn hh
 | true=>
  by_cases ht:aZ L root=root
  ·exact q9 r m a c L al cl0 ls root online m0 k0 w h hl ok hn hh ht
  ·exact qg r m a c L al cl0 ls root online m0 k0 w h hl ok hn hh ht
def Sb (w:World) (b:Nat):Prop:=∃cur,w.heap[b]? =some (.cells cur 53 (0,0))∧∀u∈cur.toList,iU u
def RtK (w:World) (b n:Nat) (f:Nat→Rat) (T:Nat→Bool):Prop:=
 ∃cur:Array Value,w.heap[b]? =some (.cells cur 53 (0,0))∧cur.size=n*2∧(∀u∈cur.toList,iU u)∧∀i,i<n→T i=true→∃p q:Sl,cur[i*2]? =some (.slice p.a p.n p.c)∧cur[i*2+1]? =some (.slice q.a q.n q.c)∧RK w p q (f i)
theorem aQ.symm {b c:Nat} {w w':World} (h:aQ b c w w'):aQ c b w w':=⟨h.os,h.tape,h.output,h.size,fun k hk h1 h2=>h.block k hk h2 h1⟩
section
variable {w w':World} {b b' n:Nat} {u:Value} {f:Nat→Rat} {T:Nat→Bool}
theorem Lim.only2 {q:IntKind} {l:List Nat} (h:Lim q w u l) (h1:Sb w b) (h2:Sb w b') (ho:aQ b b' w w'):Lim q w' u l:=by
 obtain⟨ad,cap,e1,e2,h3⟩:=h;refine⟨ad,cap,e1,e2,fun hne=>?_⟩;obtain⟨d,off,rfl,hb,hc⟩:=h3 hne;have h4:=hc 0 (List.length_pos_iff.2 hne);have hno: ∀c,Sb w c→d≠c:=by
  rintro c ⟨cur,hr,hall⟩ rfl;simp only[World.cell?,hr,Nat.add_zero] at h4;obtain⟨h5,h6⟩:=Array.getElem?_eq_some_iff.1 h4;obtain⟨_,_,_,h7⟩:=hall _ (Array.getElem_mem_toList h5);rw[h6] at h7;cases h7
 exact⟨d,off,rfl,Nat.lt_of_lt_of_le hb ho.size,fun j hj=>(World.cell?_of_block (w:=w) (a:=⟨d,off+j,none⟩) (ho.block d hb (hno _ h1) (hno _ h2))).trans (hc j hj)⟩
theorem RK.only2 {p q:Sl} {r:Rat} (h:RK w p q r) (h1:Sb w b) (h2:Sb w b') (ho:aQ b b' w w'):RK w' p q r:=⟨h.1,h.2.1.only2 h1 h2 ho,h.2.2.only2 h1 h2 ho⟩
theorem dh.only2 {v:Value} {rs:List Rat} (h:dh RK w v rs) (h1:Sb w b) (h2:Sb w b') (ho:aQ b b' w w') (hne: ∀j,v.ownBlock=some j→j≠b∧j≠b'):dh RK w' v rs:=by
 obtain⟨ad,cap,e,h3⟩:=h;refine⟨ad,cap,e,fun hn=>?_⟩;obtain⟨B,rfl,hB,hc⟩:=h3 hn;obtain⟨n1,n2⟩:=hne B (by rw[e];rfl);refine⟨B,rfl,Nat.lt_of_lt_of_le hB ho.size,fun j hj=>?_⟩;obtain⟨p,q,h4,h5,h6⟩:=hc j hj;have hk:=ho.block B hB n1 n2;exact⟨p,q,(World.cell?_of_block (w:=w) (a:=⟨B,j*2,none⟩) hk).trans h4,(World.cell?_of_block (w:=w) (a:=⟨B,j*2+1,none⟩) hk).trans h5,h6.only2 h1 h2 ho⟩
theorem RtK.sb (h:RtK w b n f T):Sb w b:=by
 obtain⟨cur,h1,_,h3,_⟩:=h;exact⟨cur,h1,h3⟩
theorem RtK.lt (h:RtK w b n f T):b<w.heap.size:=by
 obtain⟨cur,h1,_⟩:=h;exact(Array.getElem?_eq_some_iff.1 h1).1
theorem RtK.below (h:RtK w b n f T) (hb:Below w.heap.size w w'):RtK w' b n f T:=by
 obtain⟨cur,h1,h2,h3,h4⟩:=h;refine⟨cur,by rw[hb.block b (Array.getElem?_eq_some_iff.1 h1).1];exact h1,h2,h3,fun i hi ht=>?_⟩;obtain⟨p,q,a1,a2,a3⟩:=h4 i hi ht;exact⟨p,q,a1,a2,a3.below hb⟩
theorem RtK.congr {T':Nat→Bool} (h:RtK w b n f T) (e: ∀i,i<n→T' i=true→T i=true):RtK w b n f T':=by
 obtain⟨cur,h1,h2,h3,h4⟩:=h;exact⟨cur,h1,h2,h3,fun i hi ht=>h4 i hi (e i hi ht)⟩
theorem RtK.fz (h:RtK w b n f T) (i:Nat):w.frozen? ⟨b,i,none⟩=false:=by
 obtain⟨cur,h1,_⟩:=h;exact frozen_of_row w b i _ 53 h1
theorem RtK.cell (h:RtK w b n f T) {i:Nat} (hi:i<n*2): ∃a m c,w.cell? ⟨b,i,none⟩=some (.slice a m c):=by
 obtain⟨cur,h1,h2,h3,_⟩:=h;have hi2:i<cur.size:=A3
 obtain⟨a,m,c,e⟩:=h3 _ (Array.getElem_mem_toList hi2);refine⟨a,m,c,?_⟩;rw[cell_of_row w b i _ 53 (0,0) h1,Array.getElem?_eq_getElem hi2,e]
theorem RtK.at (h:RtK w b n f T) {i:Nat} (hi:i<n) (ht:T i=true): ∃p q:Sl,w.cell? ⟨b,i*2,none⟩=some (.slice p.a p.n p.c)∧w.cell? ⟨b,i*2+1,none⟩=some (.slice q.a q.n q.c)∧RK w p q (f i):=by
 obtain⟨cur,h1,h2,h3,h4⟩:=h;obtain⟨p,q,a1,a2,a3⟩:=h4 i hi ht;exact⟨p,q,(cell_of_row w b (i*2) _ 53 (0,0) h1).trans a1,(cell_of_row w b (i*2+1) _ 53 (0,0) h1).trans a2,a3⟩
theorem RtK.rowK (h:RtK w b n f (fun _=>true)):oG w (.slice (some ⟨b,0,none⟩) n n) ((List.range n).map f):=by
 refine⟨_,n,B4,fun hne=>⟨b,rfl,h.lt,fun j hj=>?_⟩⟩;have hj2:j<n:=by simpa using hj
 obtain⟨p,q,a1,a2,a3⟩:=h.at hj2 rfl;refine⟨p,q,a1,a2,?_⟩;have e:((List.range n).map f).getD j 0=f j:=by simp[List.getD_eq_getElem?_getD,hj2]
 rw[e];exact a3
theorem kx (p q:Sl) (i:Nat):aQ b b' w ((w.setCell ⟨b,i*2,none⟩ (.slice p.a p.n p.c)).setCell ⟨b,i*2+1,none⟩ (.slice q.a q.n q.c)):=(aQ.of_turn_p (aX.setCell w b _ _)).trans (aQ.of_turn_p (aX.setCell _ b _ _))
theorem nQ (p q:Sl) (i:Nat) (hne:b'≠b):((w.setCell ⟨b,i*2,none⟩ (.slice p.a p.n p.c)).setCell ⟨b,i*2+1,none⟩ (.slice q.a q.n q.c)).heap[b']? =w.heap[b']? :=by
 rw[(aX.setCell _ b _ _).block b' hne,(aX.setCell w b _ _).block b' hne]
theorem RtK.put (h:RtK w b n f T) (h2:Sb w b') {p q:Sl} {i:Nat} (hi:i<n) (hq:RK w p q (f i)):
  RtK ((w.setCell ⟨b,i*2,none⟩ (.slice p.a p.n p.c)).setCell ⟨b,i*2+1,none⟩ (.slice q.a q.n q.c)) b n f (fun j=>T j||decide (j=i)):=by
 have hs:=h.sb;have ho:aQ b b' w ((w.setCell ⟨b,i*2,none⟩ (.slice p.a p.n p.c)).setCell ⟨b,i*2+1,none⟩ (.slice q.a q.n q.c)):=kx p q i;obtain⟨cur,h1,h3,h4,h5⟩:=h;have e1:=heap_setCell_same w b (i*2) _ 53 (.slice p.a p.n p.c) h1;have e2:=heap_setCell_same (w.setCell ⟨b,i*2,none⟩ (.slice p.a p.n p.c)) b (i*2+1) _ 53 (.slice q.a q.n q.c) e1;refine⟨_,e2,by simp[h3],?_,fun j hj ht=>?_⟩
 ·intro u hu;rw[Array.toList_setIfInBounds,Array.toList_setIfInBounds] at hu;rcases List.mem_or_eq_of_mem_set hu with hu | rfl
  ·rcases List.mem_or_eq_of_mem_set hu with hu | rfl
   ·exact h4 u hu
   ·exact⟨_,_,_,rfl⟩
  ·exact⟨_,_,_,rfl⟩
 ·by_cases e:j=i
  ·subst e;refine⟨p,q,?_,?_,hq.only2 hs h2 ho⟩
   ·rw[Array.getElem?_setIfInBounds_ne A3,Array.getElem?_setIfInBounds_self_of_lt A3]
   ·rw[Array.getElem?_setIfInBounds_self_of_lt Cq]
  ·have ht2:T j=true:=by simpa[e] using ht
   obtain⟨p',q',a1,a2,a3⟩:=h5 j hj ht2;refine⟨p',q',?_,?_,a3.only2 hs h2 ho⟩
   ·rw[Array.getElem?_setIfInBounds_ne A3,Array.getElem?_setIfInBounds_ne A3];exact a1
   ·rw[Array.getElem?_setIfInBounds_ne A3,Array.getElem?_setIfInBounds_ne A3];exact a2
theorem RtK.other (h:RtK w b n f T) (h2:Sb w b') (ho:aQ b b' w w') (he:w'.heap[b]? =w.heap[b]?):RtK w' b n f T:=by
 have hs:=h.sb;obtain⟨cur,h1,h3,h4,h5⟩:=h;refine⟨cur,he.trans h1,h3,h4,fun j hj ht=>?_⟩;obtain⟨p',q',a1,a2,a3⟩:=h5 j hj ht;exact⟨p',q',a1,a2,a3.only2 hs h2 ho⟩
end
structure Sd (W0 w:World) (bL bG nL nG:Nat) (fL fG:Nat→Rat) (TL TG:Nat→Bool):Prop where
 l:RtK w bL nL fL TL
 g:RtK w bG nG fG TG
 bel:Below W0.heap.size W0 w
 hL:W0.heap.size≤bL
 hG:W0.heap.size≤bG
 ne:bL≠bG
section
variable {W0 w w':World} {bL bG nL nG:Nat} {fL fG:Nat→Rat} {TL TG:Nat→Bool}
theorem Sd.below (h:Sd W0 w bL bG nL nG fL fG TL TG) (hb:Below w.heap.size w w'):Sd W0 w' bL bG nL nG fL fG TL TG:=⟨h.l.below hb,h.g.below hb,h.bel.trans (hb.mono h.bel.size),h.hL,h.hG,h.ne⟩
theorem Sd.congr {TL' TG':Nat→Bool} (h:Sd W0 w bL bG nL nG fL fG TL TG) (e1: ∀i,i<nL→TL' i=true→TL i=true) (e2: ∀i,i<nG→TG' i=true→TG i=true):Sd W0 w bL bG nL nG fL fG TL' TG':=⟨h.l.congr e1,h.g.congr e2,h.bel,h.hL,h.hG,h.ne⟩
theorem Sd.putG {p q:Sl} {i:Nat} (h:Sd W0 w bL bG nL nG fL fG TL TG) (hi:i<nG) (hq:RK w p q (fG i)):
  Sd W0 ((w.setCell ⟨bG,i*2,none⟩ (.slice p.a p.n p.c)).setCell ⟨bG,i*2+1,none⟩ (.slice q.a q.n q.c)) bL bG nL nG fL fG TL (fun j=>TG j||decide (j=i))∧aQ bL bG w ((w.setCell ⟨bG,i*2,none⟩ (.slice p.a p.n p.c)).setCell ⟨bG,i*2+1,none⟩ (.slice q.a q.n q.c)):=by
 have ho:aQ bL bG w ((w.setCell ⟨bG,i*2,none⟩ (.slice p.a p.n p.c)).setCell ⟨bG,i*2+1,none⟩ (.slice q.a q.n q.c)):=(kx p q i).symm;exact⟨⟨h.l.other h.g.sb ho (nQ p q i h.ne),h.g.put h.l.sb hi hq,h.bel.trans (ho.below h.bel.size h.hL h.hG),h.hL,h.hG,h.ne⟩,ho⟩
theorem Sd.putL {p q:Sl} {i:Nat} (h:Sd W0 w bL bG nL nG fL fG TL TG) (hi:i<nL) (hq:RK w p q (fL i)):
  Sd W0 ((w.setCell ⟨bL,i*2,none⟩ (.slice p.a p.n p.c)).setCell ⟨bL,i*2+1,none⟩ (.slice q.a q.n q.c)) bL bG nL nG fL fG (fun j=>TL j||decide (j=i)) TG∧aQ bL bG w ((w.setCell ⟨bL,i*2,none⟩ (.slice p.a p.n p.c)).setCell ⟨bL,i*2+1,none⟩ (.slice q.a q.n q.c)):=by
 have ho:aQ bL bG w ((w.setCell ⟨bL,i*2,none⟩ (.slice p.a p.n p.c)).setCell ⟨bL,i*2+1,none⟩ (.slice q.a q.n q.c)):=kx p q i;exact⟨⟨h.l.put h.g.sb hi hq,h.g.other h.l.sb ho.symm (nQ p q i (Ne.symm h.ne)),h.bel.trans (ho.below h.bel.size h.hL h.hG),h.hL,h.hG,h.ne⟩,ho⟩
end
theorem db.only {w w':World} {B bL bG:Nat} {v:Value} {cs:List Ch} (h:db w B v cs) (ho:aQ bL bG w w') (h1:bL<B) (h2:bG<B):db w' B v cs:=by
 refine⟨h.1,?_⟩;rcases h.2 with ⟨rfl,h3⟩ | ⟨g,cap,cur,rfl,hbg,hg,h3⟩
 ·exact .inl ⟨rfl,h3⟩
 ·exact .inr ⟨g,cap,cur,rfl,hbg,by rw[ho.block g (Array.getElem?_eq_some_iff.1 hg).1 A3 A3];exact hg,h3⟩
theorem ik {ops:Array Oper} {rest:List Oper} {o:Oper} {a:Act} {w:World} {Q:Exit→Act→World→Prop} (hg:o.guard=none) (l c:Operand) (hop:o.op=Op.makeSlice 42 l c)
  (n:Nat) (hl:a.eval l= .int .i64 (n:Int)) (hc:a.eval c= .int .i64 (n:Int)) (hm:n≤1000) (f:Nat→Rat)
  (h: ∀w',RtK w' w.heap.size n f (fun _=>false)→Below w.heap.size w w'→wpList Tryz.prog ops Q rest (a.put o.dst (.slice (some ⟨w.heap.size,0,none⟩) n n)) w'):wpList Tryz.prog ops Q (o::rest) a w:=by
 have e0:(Tryz.prog.info? 53).map (fun i=>(i.zero,i.size,i.bytes))=some (some (.agg #[.slice none 0 0,.slice none 0 0]),2,48):=Ct
 obtain⟨i,hi,hz,hsize,hby⟩:=info_parts e0;refine wpList_plain hg fun K hK=>?_
 have hr:=run_make (P:=Tryz.prog) w 42 53 i _ Tryz.underlying42 hi hz .i64 .i64 (n:Int) (n:Int) A3 A3 (by rw[hby];omega) A3;simp only[Int.toNat_natCast] at hr;unfold Oper.wp;simp[execOp,hop,hl,hc,hr,Result.andThen];exact hK _ _ (h _ ⟨_,heap_alloc_new w _,by rw[size_madeCells,hsize],m9,fun _ _ ht=>by cases ht⟩ ((Below.refl _ _).alloc lr _))
abbrev idk (L:List Gr) (k:Nat):Int:=(L.getD k g0).id
def tg (L:List Gr) (ls:List Lf) (root d:Int) (i k:Nat):Bool:=
 ag L (idk L k) root&&(decide (idk L k=root)||decide (many L ls (idk L k)=0)||decide (dep L (idk L k)≤d)||(decide (dep L (idk L k)=d+1)&&decide (pos L (gr L (idk L k)).pa<i)))
def tl (L:List Gr) (ls:List Lf) (d:Int) (i j:Nat):Bool:=decide (dep L (lf ls j).1<d)||(decide (dep L (lf ls j).1=d)&&decide (pos L (lf ls j).1<i))
theorem RtK.refun {w:World} {b n:Nat} {f f':Nat→Rat} {T T':Nat→Bool} (h:RtK w b n f T) (e: ∀i,i<n→T' i=true→T i=true∧f' i=f i):RtK w b n f' T':=by
 obtain⟨cur,h1,h2,h3,h4⟩:=h;refine⟨cur,h1,h2,h3,fun i hi ht=>?_⟩;obtain⟨e1,e2⟩:=e i hi ht;rw[e2];exact h4 i hi e1
theorem oG.at {w:World} {a:Option Addr} {n c:Nat} {rs:List Rat} (h:oG w (.slice a n c) rs) {j:Nat} (hj:j<rs.length):
  ∃(B:Nat) (p q:Sl),a=some ⟨B,0,none⟩∧w.cell? ⟨B,j*2,none⟩=some (.slice p.a p.n p.c)∧w.cell? ⟨B,j*2+1,none⟩=some (.slice q.a q.n q.c)∧RK w p q (rs.getD j 0):=by
 obtain⟨ad,cap,e,h2⟩:=h;cases e;obtain⟨B,rfl,hB,hc⟩:=h2 (fun e=>by rw[e] at hj;simp at hj);obtain⟨p,q,h3,h4,h5⟩:=hc j hj;exact⟨B,p,q,rfl,h3,h4,h5⟩
section
variable {L:List Gr} {m k0:Int} {ls:List Lf} {root:Int}
theorem mR {k:Nat} (h:k<L.length):has L (idk L k)=true:=wn h
theorem mG (ok:Ok L m k0) {y:Int} (h:has L y=true):1≤dep L y:=by
 rcases ok.pa h with hp | hp
 ·unfold dep;have:=ok.top_mem h;have:0<(pth L y).length:=List.length_pos_of_mem this;omega
 ·rw[ok.dep h];have:=(ok.dep8 (gr L y).pa).1;omega
theorem ri (ok:Ok L m k0) {k:Nat} (h:k<L.length):pos L (idk L k)=k:=m5 h rfl fun j hj=>by
 have h1:=List.pairwise_iff_getElem.1 ok.rise j k (by unfold bK;rw[List.length_map];omega) (by unfold bK;rw[List.length_map];exact h) hj;unfold bK at h1;simp only[List.getElem_map] at h1;show (L.getD j g0).id≠(L.getD k g0).id;rw[List.getD_eq_getElem?_getD,List.getD_eq_getElem?_getD,List.getElem?_eq_getElem A3,List.getElem?_eq_getElem h];simp only[Option.getD_some];omega
variable (F:eN L m k0 ls root)
include F
theorem oI {y:Int} (hb:ag L y root=true) (hne: ¬y=root):has L (gr L y).pa=true∧ag L (gr L y).pa root=true∧dep L y=dep L (gr L y).pa+1:=
 ⟨az (F.up hb hne),F.up hb hne,F.ok.dep (az hb)⟩
omit F in
theorem yh {d:Int} {i:Nat} (hb:ag L (idk L i) root=true) (hd:dep L (idk L i)=d):tg L ls root d i i=true:=by
 unfold tg;rw[hb];have:decide (dep L (idk L i)≤d)=true:=decide_eq_true A3;simp[this]
theorem uQ {k:Nat} (h:tg L ls root 1 0 k=true):ag L (idk L k) root=true∧(idk L k=root∨many L ls (idk L k)=0):=by
 unfold tg at h;simp only[Bool.and_eq_true,Bool.or_eq_true,decide_eq_true_eq] at h;obtain⟨hb,h⟩:=h;refine⟨hb,?_⟩;by_cases hr:idk L k=root
 ·exact .inl hr
 obtain⟨h1,h2,h3⟩:=oI F hb hr;have:=mG F.ok h1;rcases h with ((h | h) | h) | h
 ·exact .inl h
 ·exact .inr h
 ·omega
 ·omega
theorem yq {d:Int} {k:Nat} (h:tg L ls root (d+1) 0 k=true):tg L ls root d L.length k=true:=by
 unfold tg at h ⊢;simp only[Bool.and_eq_true,Bool.or_eq_true,decide_eq_true_eq] at h ⊢;obtain⟨hb,h⟩:=h;refine⟨hb,?_⟩;by_cases hr:idk L k=root
 ·exact .inl (.inl (.inl hr))
 obtain⟨h1,h2,h3⟩:=oI F hb hr;have:=aC h1;rcases h with ((h | h) | h) | h
 ·exact .inl (.inl (.inl h))
 ·exact .inl (.inl (.inr h))
 ·by_cases e:dep L (idk L k)≤d
  ·exact .inl (.inr e)
  ·exact .inr ⟨A3,this⟩
 ·omega
theorem xX {d:Int} {j:Nat} (hj:j<ls.length) (h:tl L ls (d+1) 0 j=true):tl L ls d L.length j=true:=by
 unfold tl at h ⊢;simp only[Bool.and_eq_true,Bool.or_eq_true,decide_eq_true_eq] at h ⊢;have:=aC (az (F.grp hj));rcases h with h | h
 ·by_cases e:dep L (lf ls j).1<d
  ·exact .inl e
  ·exact .inr ⟨A3,this⟩
 ·omega
theorem rZ {d:Int} {i k:Nat} (_hi:i<L.length) (hs:ag L (idk L i) root=false∨dep L (idk L i)≠d) (h:tg L ls root d (i+1) k=true):tg L ls root d i k=true:=by
 unfold tg at h ⊢;simp only[Bool.and_eq_true,Bool.or_eq_true,decide_eq_true_eq] at h ⊢;obtain⟨hb,h⟩:=h;refine⟨hb,?_⟩;by_cases hr:idk L k=root
 ·exact .inl (.inl (.inl hr))
 obtain⟨h1,h2,h3⟩:=oI F hb hr;rcases h with ((h | h) | h) | ⟨h,h4⟩
 ·exact .inl (.inl (.inl h))
 ·exact .inl (.inl (.inr h))
 ·exact .inl (.inr h)
 ·right;refine⟨h,?_⟩;rcases Nat.lt_or_eq_of_le (Nat.le_of_lt_succ h4) with h5 | h5
  ·exact h5
  ·exfalso;have e:idk L i=(gr L (idk L k)).pa:=by rw[←h5];exact cV h1
   rw[e] at hs;rcases hs with hs | hs
   ·rw[h2] at hs;cases hs
   ·omega
theorem rn {d:Int} {i j:Nat} (_hi:i<L.length) (hj:j<ls.length) (hs:ag L (idk L i) root=false∨dep L (idk L i)≠d) (h:tl L ls d (i+1) j=true):tl L ls d i j=true:=by
 unfold tl at h ⊢;simp only[Bool.and_eq_true,Bool.or_eq_true,decide_eq_true_eq] at h ⊢;rcases h with h | ⟨h,h4⟩
 ·exact .inl h
 ·right;refine⟨h,?_⟩;rcases Nat.lt_or_eq_of_le (Nat.le_of_lt_succ h4) with h5 | h5
  ·exact h5
  ·exfalso;have hb:=F.grp hj;have e:idk L i=(lf ls j).1:=by rw[←h5];exact cV (az hb)
   rw[e] at hs;rcases hs with hs | hs
   ·rw[hb] at hs;cases hs
   ·omega
theorem yb {d:Int} {i k:Nat} (hk:k<L.length) (h:tg L ls root d (i+1) k=true):tg L ls root d i k=true∨∃y∈kg L ls (idk L i),pos L y=k:=by
 unfold tg at h ⊢;simp only[Bool.and_eq_true,Bool.or_eq_true,decide_eq_true_eq] at h ⊢;obtain⟨hb,h⟩:=h;by_cases hr:idk L k=root
 ·exact .inl ⟨hb,.inl (.inl (.inl hr))⟩
 obtain⟨h1,h2,h3⟩:=oI F hb hr;rcases h with ((h | h) | h) | ⟨h,h4⟩
 ·exact .inl ⟨hb,.inl (.inl (.inl h))⟩
 ·exact .inl ⟨hb,.inl (.inl (.inr h))⟩
 ·exact .inl ⟨hb,.inl (.inr h)⟩
 ·rcases Nat.lt_or_eq_of_le (Nat.le_of_lt_succ h4) with h5 | h5
  ·exact .inl ⟨hb,.inr ⟨h,h5⟩⟩
  ·by_cases hm:many L ls (idk L k)=0
   ·exact .inl ⟨hb,.inl (.inl (.inr hm))⟩
   ·right;have e:idk L i=(gr L (idk L k)).pa:=by rw[←h5];exact cV h1
    exact⟨idk L k,kS.2 ⟨(cP F.ok).2 ⟨az hb,e.symm⟩,A3⟩,ri F.ok hk⟩
theorem xD {d:Int} {i j:Nat} (hj:j<ls.length) (h:tl L ls d (i+1) j=true):tl L ls d i j=true∨j∈kl ls (idk L i):=by
 unfold tl at h ⊢;simp only[Bool.and_eq_true,Bool.or_eq_true,decide_eq_true_eq] at h ⊢;rcases h with h | ⟨h,h4⟩
 ·exact .inl (.inl h)
 ·rcases Nat.lt_or_eq_of_le (Nat.le_of_lt_succ h4) with h5 | h5
  ·exact .inl (.inr ⟨h,h5⟩)
  ·right;have hb:=F.grp hj;have e:idk L i=(lf ls j).1:=by rw[←h5];exact cV (az hb)
   rw[e];exact gN.2 ⟨hj,rfl⟩
theorem yK {d:Int} (hd:8≤d) {i k:Nat} (hb:ag L (idk L k) root=true):tg L ls root d i k=true:=by
 unfold tg;have:=(F.ok.dep8 (idk L k)).2;have e:decide (dep L (idk L k)≤d)=true:=decide_eq_true A3;rw[hb,e];simp
theorem yN {d:Int} (hd:9≤d) {i j:Nat}:tl L ls d i j=true:=by
 unfold tl;have:=(F.ok.dep8 (lf ls j).1).2;have e:decide (dep L (lf ls j).1<d)=true:=decide_eq_true A3;rw[e];rfl
theorem sw {x:Rat} (h0:0≤x) (hx:x≤((ls.length:Nat):Rat)) {y:Int} (hb:ag L y root=true) (hm:many L ls y=0):ct L ls root x y=0:=by
 have h:=d8 F h0 hx _ y hb lr;rw[hm] at h;exact Rat.le_antisymm h.2 h.1
theorem wH {x:Rat} (h0:0≤x) (hx:x≤((ls.length:Nat):Rat)) (hn: ∃n:Nat,x=((n:Nat):Rat)) (hf:jS L ls root=true): ∀(n:Nat) (g:Int),ag L g root=true→(pth L g).length≤n→DW (pth L g).length (ct L ls root x g)
 | 0,g,hb,hl=>by
  have:=mG F.ok (az hb);unfold dep at this;omega
 | n+1,g,hb,hl=>by
  by_cases hr:g=root
  ·subst hr;rw[eZ];obtain⟨q,rfl⟩:=hn;exact⟨1,A3,Nat.one_le_two_pow,dD 1 q⟩
  ·obtain⟨h1,h2,h3⟩:=oI F hb hr;unfold dep at h3;have ih:=wH h0 hx hn hf n (gr L g).pa h2 A3;have h4:=rW F h0 hx h2 (dq.1 hf _ h2) ((cP F.ok).2 ⟨az hb,rfl⟩) ih;have e:(pth L g).length=(pth L (gr L g).pa).length+1:=A3
   rw[e];exact h4
theorem vA (x:Rat) {g:Int} (hb:ag L g root=true) {t:Nat} (ht:t<(kg L ls g).length):((kd L ls g).map (given (lvl L ls root x g))).getD t 0=ct L ls root x ((kg L ls g).getD t 0)∧has L ((kg L ls g).getD t 0)=true:=by
 have hy:(kg L ls g).getD t 0∈kg L ls g:=by rw[List.getD_eq_getElem?_getD,List.getElem?_eq_getElem ht];exact List.getElem_mem ht
 obtain⟨h1,h2,h3,h4⟩:=F.kid hb (kS.1 hy).1;rw[we _ ht];generalize (kg L ls g).getD t 0=y at *;rw[gc F x h1 h2,h3];exact⟨rfl,h4⟩
omit F in
theorem tS (x:Rat) {g:Int} {s:Nat} (hs:s<(kl ls g).length):((kd L ls g).map (given (lvl L ls root x g))).getD ((kg L ls g).length+s) 0=cW L ls root x ((kl ls g).getD s 0)∧(kl ls g).getD s 0<ls.length:=by
 have hy:=gN.1 (nP hs);rw[rl _ hs];generalize (kl ls g).getD s 0=j at *;unfold cW;rw[hy.2];exact⟨rfl,hy.1⟩
end
theorem yI {L:List Gr} {ls:List Lf} {g:Int} {t:Nat} (ht:t<(kg L ls g).length):ch (chs L ls g) t=chG L ls ((kg L ls g).getD t 0):=by
 unfold chs;simp[List.getD_eq_getElem?_getD,List.getElem?_append_left,ht]
theorem yg {L:List Gr} {ls:List Lf} {g:Int} {s:Nat} (hs:s<(kl ls g).length):ch (chs L ls g) ((kg L ls g).length+s)=chL ls ((kl ls g).getD s 0):=by
 unfold chs;simp[List.getD_eq_getElem?_getD,hs]
def wg (L:List Gr) (cs:List Ch) (t k:Nat):Bool:=(cs.take t).any fun c=>decide (0<c.2.2.1)&&decide (pos L c.2.2.1=k)
def wl (cs:List Ch) (t j:Nat):Bool:=(cs.take t).any fun c=> !decide (0<c.2.2.1)&&decide (c.2.2.2=(j:Int))
theorem AR {p:Prop} (h:p:=by rw[List.take_add_one,List.getElem?_eq_getElem ht,List.any_append];simp[List.getD_eq_getElem?_getD,List.getElem?_eq_getElem ht]):p:=h
theorem rP {L:List Gr} {cs:List Ch} {t:Nat} (ht:t<cs.length) (k:Nat):wg L cs (t+1) k=(wg L cs t k||(decide (0<(ch cs t).2.2.1)&&decide (pos L (ch cs t).2.2.1=k))):=by
 unfold wg;exact AR
theorem r3 {cs:List Ch} {t:Nat} (ht:t<cs.length) (j:Nat):wl cs (t+1) j=(wl cs t j||(!decide (0<(ch cs t).2.2.1)&&decide ((ch cs t).2.2.2=(j:Int)))):=by
 unfold wl;exact AR
theorem yL {L:List Gr} {m k0:Int} (ok:Ok L m k0) {ls:List Lf} {g:Int} {k:Nat} (h: ∃y∈kg L ls g,pos L y=k):wg L (chs L ls g) (chs L ls g).length k=true:=by
 obtain⟨y,hy,hp⟩:=h;have h1:=(ok.id ((cP ok).1 (kS.1 hy).1).1).1;unfold wg;rw[List.take_length,List.any_eq_true];exact⟨chG L ls y,List.mem_append_left _ (List.mem_map.2 ⟨y,hy,rfl⟩),by
  show (decide (0<y)&&decide (pos L y=k))=true;rw[hp,decide_eq_true (show 0<y by omega)];simp⟩
theorem yM {L:List Gr} {ls:List Lf} {g:Int} {j:Nat} (h:j∈kl ls g):wl (chs L ls g) (chs L ls g).length j=true:=by
 unfold wl;rw[List.take_length,List.any_eq_true];exact⟨chL ls j,List.mem_append_right _ (List.mem_map.2 ⟨j,h,rfl⟩),by simp[chL]⟩
theorem yZ {L:List Gr} {m k0:Int} {ls:List Lf} {root g:Int} (F:eN L m k0 ls root):((chs L ls g).map fun c=>c.1)=(kd L ls g).map fun k=>(k.1:Int):=by
 unfold chs kd;rw[List.map_append,List.map_append,List.map_map,List.map_map,List.map_map,List.map_map];congr 1
 ·refine List.map_congr_left fun y hy=>?_
  have h:=lZ F g (mT L ls y) (List.mem_append_left _ (List.mem_map.2 ⟨y,hy,rfl⟩));have h1:=h.1;unfold mT at h1;show (gr L y).wt=(((gr L y).wt.toNat:Nat):Int)
  dsimp only at h1;omega
 ·refine List.map_congr_left fun j hj=>?_
  have h:=F.wt (lf ls j) (kv (gN.1 hj).1);show (lf ls j).2=(((lf ls j).2.toNat:Nat):Int)
  omega
theorem yV {L:List Gr} {ls:List Lf} {g:Int}:((chs L ls g).map fun c=>c.2.1)=(kd L ls g).map fun k=>(k.2:Int):=by
 unfold chs kd;rw[List.map_append,List.map_append,List.map_map,List.map_map,List.map_map,List.map_map];rfl
end Go.Proofs.YtohifgjeebhijaaGreatDoor
